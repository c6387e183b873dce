import PyProof.Rows.All
import Wide.All
import OpenK.AllK
import Wide.FinOn
import Lean
import PyProof.EqAt
import PyProof.EqKinds
import PyProof.TupleCall
import PySem.Challenge.RW_passby_k09_whole_layers_tell
set_option maxHeartbeats 4000000
set_option Elab.async false
set_option linter.all false
set_option maxRecDepth 100000
set_option Elab.async false
set_option linter.all false
set_option maxRecDepth 100000
/-! THE HAND LAYER, for ints, bools, texts, own classes, LISTS and tuples (index, slices, in, append, pop ..), calls, loops. Paste it whole ahead of your own text; what your proof does not reach may be deleted. -/
namespace L2
open PySem PySem.Spec PyProof.Rows

/-- a key: an int or a str -/
abbrev Key := Sum Int Str
def keyIs : Key → Value → Bool
  | .inl k, v => Value.isInt k v
  | .inr x, v => Value.isStrOf x v
def keyH (w : World) : Key → Int
  | .inl k => hashInt k
  | .inr x => hashStr w x
theorem keyIs_shape : ∀ {k : Key} {v : Value}, keyIs k v = true → (∃ i t, k = Sum.inl i ∧ v = Value.int i t) ∨ (∃ x t, k = Sum.inr x ∧ v = Value.str x t)
  | .inl i, v, h => by
    obtain ⟨t, e⟩ := Value.isInt_shape (k := i) (v := v) h
    exact .inl ⟨i, t, rfl, e⟩
  | .inr x, v, h => by
    obtain ⟨t, e⟩ := Value.isStrOf_shape (x := x) (v := v) h
    exact .inr ⟨x, t, rfl, e⟩
theorem keyIs_int (i : Int) (t : Tok) : keyIs (.inl i) (.int i t) = true := by simp [keyIs, Value.isInt]
theorem keyIs_str (x : Str) (t : Tok) : keyIs (.inr x) (.str x t) = true := by simp [keyIs, Value.isStrOf]
theorem key_ll (a b : Int) : decide ((Sum.inl a : Key) = Sum.inl b) = (a == b) := by
  by_cases e : a = b
  · subst e; simp
  · have h : ¬ (Sum.inl a : Key) = Sum.inl b := fun q => e (Sum.inl.inj q)
    rw [decide_eq_false h]
    exact (beq_eq_false_iff_ne.mpr e).symm
theorem key_rr (a b : Str) : decide ((Sum.inr a : Key) = Sum.inr b) = decide (a = b) := by
  by_cases e : a = b
  · subst e; simp
  · have h : ¬ (Sum.inr a : Key) = Sum.inr b := fun q => e (Sum.inr.inj q)
    rw [decide_eq_false h, decide_eq_false e]
theorem key_lr (a : Int) (b : Str) : decide ((Sum.inl a : Key) = Sum.inr b) = false := decide_eq_false (fun q => nomatch q)
theorem key_rl (a : Str) (b : Int) : decide ((Sum.inr a : Key) = Sum.inl b) = false := decide_eq_false (fun q => nomatch q)

def mixKind (prog : Program) (w : World) : PySem.KeyKind prog w Key where
  is := keyIs
  hash := keyH w
  inj := fun v a b ha hb => by
    rcases keyIs_shape ha with ⟨i, t, rfl, rfl⟩ | ⟨x, t, rfl, rfl⟩
    · rcases keyIs_shape hb with ⟨j, u, rfl, e⟩ | ⟨y, u, rfl, e⟩
      · injection e with e1 _; rw [e1]
      · exact nomatch e
    · rcases keyIs_shape hb with ⟨j, u, rfl, e⟩ | ⟨y, u, rfl, e⟩
      · exact nomatch e
      · injection e with e1 _; rw [e1]
  byValue := fun k v h => by
    rcases keyIs_shape h with ⟨i, t, rfl, rfl⟩ | ⟨x, t, rfl, rfl⟩ <;> rfl
  pyHash := fun hv h => by
    rcases keyIs_shape hv with ⟨i, t, rfl, rfl⟩ | ⟨x, t, rfl, rfl⟩
    · exact wpAny_pyHash_int h
    · exact wpAny_pyHash_str h
  eqBool := fun hu hv h => by
    rcases keyIs_shape hu with ⟨i, t, rfl, rfl⟩ | ⟨x, t, rfl, rfl⟩
    · rcases keyIs_shape hv with ⟨j, u, rfl, rfl⟩ | ⟨y, u, rfl, rfl⟩
      · rw [key_ll] at h; exact wpAny_eqBool_int h
      · rw [key_lr] at h; exact SeqAt.EqAt.int_str i t y u _ _ _ _ h
    · rcases keyIs_shape hv with ⟨j, u, rfl, rfl⟩ | ⟨y, u, rfl, rfl⟩
      · rw [key_rl] at h; exact SeqAt.EqAt.str_int x t j u _ _ _ _ h
      · rw [key_rr] at h; exact wpAny_eqBool_str h
  «strs» := fun k x t v h => by
    rcases keyIs_shape h with ⟨i, u, rfl, e⟩ | ⟨y, u, rfl, e⟩
    · exact nomatch e
    · injection e with e1 _
      subst e1
      cases v <;> rfl

theorem mixKind_int (prog : Program) (w : World) (i : Int) (t : Tok) : (mixKind prog w).is (.inl i) (.int i t) = true := keyIs_int i t
theorem mixKind_str (prog : Program) (w : World) (x : Str) (t : Tok) : (mixKind prog w).is (.inr x) (.str x t) = true := keyIs_str x t
end L2

namespace L2
open PySem PySem.Spec PyProof.Rows

/-- a value, without the heap -/
inductive V where
  | non | bl (b : Bool) | int (i : Int) | str (x : Str) | byt (b : Array UInt8) | flt (b : UInt64) | ref (a : Addr) | ty (n : String)
  deriving DecidableEq

def RelV : V → Value → Prop
  | .non, u => u = Value.none
  | .bl b, u => u = Value.bool b
  | .int i, u => ∃ t, u = Value.int i t
  | .str x, u => ∃ t, u = Value.str x t
  | .byt b, u => ∃ t, u = Value.bytes b t
  | .flt b, u => ∃ t, u = Value.float b t
  | .ref a, u => u = Value.ref a
  | .ty n, u => u = Value.type n

abbrev Vals : List V → List Value → Prop := Paired RelV
theorem Vals.length {xs : List V} {us : List Value} (r : Vals xs us) : xs.length = us.length := Paired.length r
theorem Vals.get : ∀ {xs : List V} {us : List Value} {i : Nat} {x : V}, Vals xs us → xs[i]? = some x → ∃ u, us[i]? = some u ∧ RelV x u
  | _, _, _, _, .nil, e => by simp at e
  | _, _, 0, _, .cons r _, e => by simp at e; subst e; exact ⟨_, rfl, r⟩
  | _, _, i + 1, x, .cons _ t, e => by
    obtain ⟨u, h1, h2⟩ := Vals.get (i := i) (x := x) t (by simpa using e)
    exact ⟨u, by simpa using h1, h2⟩
theorem Vals.append : ∀ {xs ys : List V} {us ws : List Value}, Vals xs us → Vals ys ws → Vals (xs ++ ys) (us ++ ws)
  | _, _, _, _, .nil, s => s
  | _, _, _, _, .cons r t, s => .cons r (Vals.append t s)
theorem Vals.take : ∀ {xs : List V} {us : List Value} (n : Nat), Vals xs us → Vals (xs.take n) (us.take n)
  | _, _, 0, _ => .nil
  | _, _, _ + 1, .nil => .nil
  | _, _, n + 1, .cons r t => .cons r (Vals.take n t)
theorem Vals.drop : ∀ {xs : List V} {us : List Value} (n : Nat), Vals xs us → Vals (xs.drop n) (us.drop n)
  | _, _, 0, r => r
  | _, _, _ + 1, .nil => .nil
  | _, _, n + 1, .cons _ t => Vals.drop n t

def RelO : Option V → Option Value → Prop
  | some v, some u => RelV v u
  | none, none => True
  | _, _ => False
def KV {κ : Type} : List (κ × V) → List (κ × Value) → Prop := Paired fun (p : κ × V) (q : κ × Value) => p.1 = q.1 ∧ RelV p.2 q.2

/-- a key of a dict (00_mix): an int or a text -/
def kV : Key → V
  | .inl i => .int i
  | .inr x => .str x

/-- what stands at a tracked address -/
inductive HO where
  /-- a list -/
  | lst (xs : List V)
  /-- a tuple (never changes) -/
  | tup (xs : List V)
  /-- a dict whose keys are ints and texts; one whose keys are tuples of ints and texts (the empty one is both) -/
  | dK (kvs : List (Key × V)) | dT (kvs : List (List Key × V))
  /-- a set of ints: its members, its size -/
  | set (S : Int → Bool) (n : Nat)
  /-- an instance of the class at C, its dict at dx, its attributes -/
  | ins (C dx : Addr) (fs : List (Str × V))
  /-- the dict of the instance at x -/
  | own (x : Addr)
  /-- the dict of an exception -/
  | xd (fs : List (Str × V))
  /-- a bound method, f of x -/
  | met (f x : Addr)
  /-- a range object lo, lo + 1, .. below hi -/
  | rng (lo hi : Int)
  /-- a thing that is known to the object (the script; a dict while a loop walks it): read, never written while it is so -/
  | frz (o : Obj) (u : HO)
  /-- a code object's table -/
  | tbl (ps : Array Value)
  /-- any other thing, by what is true of its one object (a def of one's own: SetO a S n := HO.ext fun h => ..) -/
  | ext (φ : Heap → Prop)

abbrev Hp := Addr → Option HO
def upd (H : Hp) (a : Addr) (o : HO) : Hp := fun b => if b = a then some o else H b
theorem upd_same {H : Hp} {a : Addr} {o : HO} : upd H a o a = some o := by unfold upd; rw [if_pos rfl]
theorem upd_ne {H : Hp} {a b : Addr} {o : HO} (h : b ≠ a) : upd H a o b = H b := by unfold upd; rw [if_neg h]
/-- two objects of different content stand apart -/
theorem ne_of {H : Hp} {a b : Addr} {o u : HO} (h : H a = some o) (h' : H b = some u) (d : o ≠ u) : a ≠ b := by
  intro e; subst e; rw [h] at h'; exact d (Option.some.inj h')
theorem ne_of_none {H : Hp} {a b : Addr} {o : HO} (h : H a = some o) (h' : H b = none) : a ≠ b := by
  intro e; subst e; rw [h] at h'; cases h'

section
variable (P : Program) (w : World)
def ObjOk (H : Hp) (h : Heap) (a : Addr) : HO → Prop
  | .lst xs => xs.length ≤ sizeLine ∧ ∃ (its : List Value) (n : Nat), Vals xs its ∧ h.get? a = some { cls := .type "list", data := .seq its.toArray n }
  | .tup xs => xs.length ≤ sizeLine ∧ ∃ its : List Value, Vals xs its ∧ IsTup h a its.toArray
  | .dK kvs => kvs.length ≤ sizeLine ∧ (a == sysModules) = false ∧ ∃ vs, KV kvs vs ∧ h.DictOf (mixKind P w) a vs
  | .dT kvs => kvs.length ≤ sizeLine ∧ (a == sysModules) = false ∧ ∃ xs : List (List Key × Addr × Value),
      Paired (fun (p : List Key × V) (q : List Key × Addr × Value) => p.1 = q.1 ∧ H q.2.1 = some (.tup (p.1.map kV)) ∧ RelV p.2 q.2.2) kvs xs ∧
      ∃ o es ep, h.get? a = some o ∧ o.ExactDict ∧ o.data = .dict es ep ∧ es.toList = xs.map (entryOfKey (tupleKind (mixKind P w))) ∧ (xs.map (·.1)).Nodup
  | .set S n => h.SetOf (intKind P w) a S n
  | .ins C dx fs => H dx = some (.own a) ∧ fs.length ≤ 1000 ∧ dx ≠ a ∧ h.get? a = some (PySem.W.instObj C dx) ∧
      ∃ mA, h.Ns1 dx mA ∧ (∀ f, RelO (fs.lookup f) (mA f)) ∧ PySem.Within mA (fs.map (·.1))
  | .own _ => ∃ o, h.get? a = some o
  | .xd fs => ∃ mA, h.Ns1 a mA ∧ ∀ f, RelO (fs.lookup f) (mA f)
  | .rng lo hi => ∃ t u v, h.get? a = some { cls := .type "range", data := .fields #[.int lo t, .int hi u, .int 1 v] }
  | .frz o u => h.get? a = some o ∧ ObjOk H h a u
  | .tbl ps => h.get? a = some { cls := .none, data := .fields ps }
  | .met f x => h.get? a = some (PySem.W.methodObj (.ref f) (.ref x))
  | .ext φ => φ h ∧ (∃ o, h.get? a = some o) ∧ ∀ h1 h2 : Heap, φ h1 → (∀ o, h1.get? a = some o → h2.get? a = some o) → φ h2
/-- the abstract heap is held -/
def HOk (H : Hp) (h : Heap) : Prop := ∀ a o, H a = some o → ObjOk P w H h a o
end

section
variable {P : Program} {w : World} {H H' : Hp} {h h' : Heap} {a : Addr} {o : HO}
theorem ObjOk.lt (x : ObjOk P w H h a o) : a < h.objs.size := by
  cases o with
  | lst xs => obtain ⟨_, _, _, _, e⟩ := x; exact Heap.lt_size e
  | tup xs => obtain ⟨_, _, _, p⟩ := x; exact p.lt
  | dK kvs => obtain ⟨_, _, _, _, o, _, _, e, _⟩ := x; exact Heap.lt_size e
  | dT kvs => obtain ⟨_, _, _, _, o, _, _, e, _⟩ := x; exact Heap.lt_size e
  | set S n => obtain ⟨o, _, _, _, e, _⟩ := x; exact Heap.lt_size e
  | ins C dx fs => obtain ⟨_, _, _, e, _⟩ := x; exact Heap.lt_size e
  | own y => obtain ⟨_, e⟩ := x; exact Heap.lt_size e
  | xd fs => obtain ⟨_, ⟨_, _, _, e, _⟩, _⟩ := x; exact Heap.lt_size e
  | rng lo hi => obtain ⟨_, _, _, e⟩ := x; exact Heap.lt_size e
  | frz ob u => obtain ⟨e, _⟩ := x; exact Heap.lt_size e
  | tbl ps => exact Heap.lt_size (show h.get? a = some _ from x)
  | met f y => exact Heap.lt_size (show h.get? a = some _ from x)
  | ext φ => obtain ⟨_, ⟨_, e⟩, _⟩ := x; exact Heap.lt_size e
theorem Paired.mapP {α β : Type} {F G : α → β → Prop} : ∀ {l₁ : List α} {l₂ : List β}, Paired F l₁ l₂ → (∀ a b, F a b → G a b) → Paired G l₁ l₂
  | _, _, .nil, _ => .nil
  | _, _, .cons r t, f => .cons (f _ _ r) (Paired.mapP t f)
/-- what an object's description leans on: its own object, its own dict, the tuples -/
theorem ObjOk.stay (x : ObjOk P w H h a o) (k : ∀ b u, (b = a ∨ H b = some (.own a)) → h.get? b = some u → h'.get? b = some u)
    (ho : ∀ b, H b = some (.own a) → H' b = some (.own a)) (ht : ∀ b xs, H b = some (.tup xs) → H' b = some (.tup xs)) : ObjOk P w H' h' a o := by
  induction o with
  | lst xs => obtain ⟨z, its, n, r, e⟩ := x; exact ⟨z, its, n, r, k _ _ (.inl rfl) e⟩
  | tup xs => obtain ⟨z, its, r, ob, e, c⟩ := x; exact ⟨z, its, r, ob, k _ _ (.inl rfl) e, c⟩
  | dK kvs => obtain ⟨z, y, vs, r, ob, es, ep, e, c⟩ := x; exact ⟨z, y, vs, r, ob, es, ep, k _ _ (.inl rfl) e, c⟩
  | dT kvs =>
    obtain ⟨z, y, xs, r, ob, es, ep, e, c⟩ := x
    exact ⟨z, y, xs, Paired.mapP r fun p q z => ⟨z.1, ht _ _ z.2.1, z.2.2⟩, ob, es, ep, k _ _ (.inl rfl) e, c⟩
  | set S n => obtain ⟨ob, es, ep, t, e, c⟩ := x; exact ⟨ob, es, ep, t, k _ _ (.inl rfl) e, c⟩
  | ins C dx fs =>
    obtain ⟨d, z, ne, e, mA, ⟨od, es, ep, e2, c⟩, r⟩ := x
    exact ⟨ho _ d, z, ne, k _ _ (.inl rfl) e, mA, ⟨od, es, ep, k _ _ (.inr d) e2, c⟩, r⟩
  | own y => obtain ⟨ob, e⟩ := x; exact ⟨ob, k _ _ (.inl rfl) e⟩
  | xd fs => obtain ⟨mA, ⟨od, es, ep, e, c⟩, r⟩ := x; exact ⟨mA, ⟨od, es, ep, k _ _ (.inl rfl) e, c⟩, r⟩
  | rng lo hi => obtain ⟨t, u, v, e⟩ := x; exact ⟨t, u, v, k _ _ (.inl rfl) e⟩
  | frz ob u ih => obtain ⟨e, q⟩ := x; exact ⟨k _ _ (.inl rfl) e, ih q⟩
  | tbl ps =>
    have e : h.get? a = some { cls := .none, data := .fields ps } := x
    show h'.get? a = some { cls := .none, data := .fields ps }
    exact k a _ (.inl rfl) e
  | met f y =>
    have e : h.get? a = some (PySem.W.methodObj (.ref f) (.ref y)) := x
    show h'.get? a = some (PySem.W.methodObj (.ref f) (.ref y))
    exact k a _ (.inl rfl) e
  | ext φ => obtain ⟨p, ⟨o, e⟩, st⟩ := x; exact ⟨st _ _ p fun o q => k _ _ (.inl rfl) q, ⟨o, k _ _ (.inl rfl) e⟩, st⟩
theorem HOk.lt (x : HOk P w H h) (e : H a = some o) : a < h.objs.size := (x a o e).lt
theorem HOk.fresh (x : HOk P w H h) (e : h.objs.size ≤ a) : H a = none := by
  cases q : H a with
  | none => rfl
  | some u => exact absurd (Nat.lt_of_lt_of_le (x.lt q) e) (Nat.lt_irrefl _)
/-- every object of the heap is kept -/
theorem HOk.kept (x : HOk P w H h) (k : ∀ b u, h.get? b = some u → h'.get? b = some u) : HOk P w H h' := fun a o e =>
  (x a o e).stay (fun b u _ q => k b u q) (fun _ q => q) fun _ _ q => q
/-- a new object is laid and tracked -/
theorem HOk.laid (x : HOk P w H h) (k : ∀ b u, h.get? b = some u → h'.get? b = some u) (hp : h.objs.size ≤ a) (new : ObjOk P w (upd H a o) h' a o) : HOk P w (upd H a o) h' := fun b u e => by
  have hn := x.fresh hp
  by_cases hb : b = a
  · subst hb; rw [upd_same] at e; cases e; exact new
  · rw [upd_ne hb] at e
    exact (x b u e).stay (fun c v _ q => k c v q) (fun c q => by rw [upd_ne (ne_of_none q hn)]; exact q) fun c xs q => by rw [upd_ne (ne_of_none q hn)]; exact q
end

/-- what may be read as u: it is u, or a known u -/
def Rd (H : Hp) (a : Addr) (u : HO) : Prop := H a = some u ∨ ∃ o, H a = some (.frz o u)
theorem Rd.ok {P : Program} {w : World} {H : Hp} {h : Heap} {a : Addr} {u : HO} (r : Rd H a u) (x : HOk P w H h) : ObjOk P w H h a u := by
  rcases r with r | ⟨o, r⟩
  · exact x a u r
  · obtain ⟨_, q⟩ := x a _ r
    exact q
/-- what may be written -/
def Mut : Option HO → Prop
  | some (.lst _) => True
  | some (.dK _) => True
  | some (.dT _) => True
  | some (.set _ _) => True
  | some (.ins _ _ _) => True
  | some (.ext _) => True
  | _ => False
section
variable {P : Program} {w : World} {H : Hp} {h h' : Heap} {x e : Addr} {o' : HO}
/-- the object at e is changed: x itself, or the dict of the instance x -/
theorem HOk.write (ok : HOk P w H h) (mu : Mut (H x)) (he : e = x ∨ H e = some (.own x)) (k : ∀ b u, b ≠ e → h.get? b = some u → h'.get? b = some u) (heo : ∃ u, h'.get? e = some u)
    (new : ObjOk P w (upd H x o') h' x o') : HOk P w (upd H x o') h' := fun b u q => by
  have nown : ∀ c y, H c = some (.own y) → c ≠ x := fun c y r z => by subst z; rw [r] at mu; exact mu
  have ntup : ∀ c xs, H c = some (.tup xs) → c ≠ x := fun c xs r z => by subst z; rw [r] at mu; exact mu
  by_cases hb : b = x
  · subst hb; rw [upd_same] at q; cases q; exact new
  · rw [upd_ne hb] at q
    by_cases hbe : b = e
    · have q' : H b = some (.own x) := by
        rcases he with z | z
        · exact absurd (hbe.trans z) hb
        · rw [hbe]; exact z
      rw [q] at q'; cases q'
      obtain ⟨v, hv⟩ := heo
      exact ⟨v, by rw [hbe]; exact hv⟩
    · refine (ok b u q).stay (fun c v hc r => k c v ?_ r) (fun c r => by rw [upd_ne (nown c b r)]; exact r) fun c xs r => by rw [upd_ne (ntup c xs r)]; exact r
      rcases hc with rfl | hc
      · exact hbe
      · rintro rfl
        rcases he with z | z
        · exact nown c b hc z
        · rw [hc] at z; cases z; exact hb rfl
end

/-! ### kept unless tracked; of the frames at fs (the callers') the slots may change (an exception that passes writes there); of the records at ex (iterators) nothing is said -/
structure Un (fs ex : List Addr) (H H' : Hp) (h h' : Heap) : Prop where
  keep : ∀ b o, h.get? b = some o → H b = none → b ∉ fs → b ∉ ex → h'.get? b = some o
  slot : ∀ b o, h.get? b = some o → H b = none → b ∈ fs → b ∉ ex → ∃ sl, h'.get? b = some { o with slots := sl }
  free : ∀ b o, h.get? b = some o → H b = none → b ∉ ex → H' b = none
  there : ∀ b o, h.get? b = some o → b ∉ ex → ∃ o', h'.get? b = some o'
  tups : ∀ b xs, H b = some (.tup xs) → H' b = some (.tup xs)
  frzs : ∀ b o u, H b = some (.frz o u) → H' b = some (.frz o u)
  tbls : ∀ b ps, H b = some (.tbl ps) → ∃ more, H' b = some (.tbl (ps ++ more))
section
variable {fs fs' ex ex' : List Addr} {H H1 H2 : Hp} {h h1 h2 h' : Heap} {a x e : Addr} {o : HO}
theorem Un.any (u : Un fs ex H H1 h h1) {b : Addr} {ob : Obj} (q : h.get? b = some ob) (n : H b = none) (hx : b ∉ ex) : ∃ sl, h1.get? b = some { ob with slots := sl } := by
  by_cases hb : b ∈ fs
  · exact u.slot b ob q n hb hx
  · exact ⟨ob.slots, u.keep b ob q n hb hx⟩
theorem Un.kept (k : ∀ b u, h.get? b = some u → h'.get? b = some u) : Un fs ex H H h h' :=
  ⟨fun b ob q _ _ _ => k b ob q, fun b ob q _ _ _ => ⟨ob.slots, k b ob q⟩, fun _ _ _ n _ => n, fun b ob q _ => ⟨ob, k b ob q⟩, fun _ _ q => q, fun _ _ _ q => q, fun _ ps q => ⟨#[], by rw [q]; simp⟩⟩
theorem Un.refl : Un fs ex H H h h := Un.kept fun _ _ q => q
theorem Un.laid (k : ∀ b u, h.get? b = some u → h'.get? b = some u) (hp : h.objs.size ≤ a) (hn : H a = none) : Un fs ex H (upd H a o) h h' where
  keep := fun b u q _ _ _ => k b u q
  slot := fun b u q _ _ _ => ⟨u.slots, k b u q⟩
  free := fun b u q n _ => by rw [upd_ne (Nat.ne_of_lt (Nat.lt_of_lt_of_le (Heap.lt_size q) hp))]; exact n
  there := fun b u q _ => ⟨u, k b u q⟩
  tups := fun b xs q => by rw [upd_ne (ne_of_none q hn)]; exact q
  frzs := fun b u xs q => by rw [upd_ne (ne_of_none q hn)]; exact q
  tbls := fun b ps q => ⟨#[], by rw [upd_ne (ne_of_none q hn), q]; simp⟩
theorem Un.write (mu : Mut (H x)) (he : e = x ∨ H e = some (.own x)) (k : ∀ b u, b ≠ e → h.get? b = some u → h'.get? b = some u) (heo : ∃ u, h'.get? e = some u) : Un fs ex H (upd H x o) h h' := by
  have hx : ∀ b, H b = none → b ≠ x := fun b n z => by subst z; rw [n] at mu; exact mu
  have hb : ∀ b, H b = none → b ≠ e := fun b n z => by
    subst z
    rcases he with r | r
    · exact hx b n r
    · rw [n] at r; cases r
  have hm : ∀ b u, H b = some u → ¬ Mut (some u) → b ≠ x := fun b u q nm z => by subst z; rw [q] at mu; exact nm mu
  refine ⟨fun b u q n _ _ => k b u (hb b n) q, fun b u q n _ _ => ⟨u.slots, k b u (hb b n) q⟩, fun b u q n _ => by rw [upd_ne (hx b n)]; exact n, fun b u q _ => ?_,
    fun b xs q => by rw [upd_ne (hm b _ q fun z => z)]; exact q, fun b u xs q => by rw [upd_ne (hm b _ q fun z => z)]; exact q, fun b ps q => ⟨#[], by rw [upd_ne (hm b _ q fun z => z), q]; simp⟩⟩
  by_cases hbe : b = e
  · subst hbe; exact heo
  · exact ⟨u, k b u hbe q⟩
end

/-! ### the heap without what is tracked -/
def trk (h : Heap) (H : Hp) : List Addr := (List.range h.objs.size).filter fun a => (H a).isSome
def hidT (h : Heap) (H : Hp) : Heap := PySem.W.hideAll h (trk h H)
theorem hidT_size (h : Heap) (H : Hp) : (hidT h H).objs.size = h.objs.size := PySem.W.hideAll_size _ _
theorem hidT_get {h : Heap} {H : Hp} {b : Addr} {o : Obj} (e : h.get? b = some o) (n : H b = none) : (hidT h H).get? b = some o :=
  PySem.W.hideAll_get _ e fun hm => by
    have q : (H b).isSome = true := (List.mem_filter.mp hm).2
    rw [n] at q; simp at q
theorem of_hidT {h : Heap} {H : Hp} {b : Addr} {o : Obj} (e : (hidT h H).get? b = some o) : h.get? b = some o ∧ H b = none := by
  have e' : h.get? b = some o := PySem.W.of_hideAll (trk h H) e
  refine ⟨e', ?_⟩
  cases q : H b with
  | none => rfl
  | some x =>
    have hm : b ∈ trk h H := List.mem_filter.mpr ⟨List.mem_range.mpr (Heap.lt_size e'), by simp [q]⟩
    have z : (hidT h H).get? b = none := PySem.W.hideAll_none (trk h H) hm
    rw [z] at e; cases e

/-! ### OpenK's ledger, filled with every new object but one -/
end L2

namespace L2
open PySem PySem.Spec PyProof.Rows

/-- the module's facts, over the base: the heap at the law's entry without what is tracked there -/
structure Mod (K : PySem.W.Frag) (mg : Str → Option Value) (base : Heap) : Prop where
  kin : K.In base
  glob : base.Ns mainGlobals mg
  blt : ∃ mb, base.Ns builtinsNs mb ∧ ∀ x : Str, x ≠ "__name__" → mb x = bootBuiltins x
  nolimit : base.NoLimit

/-- the context: a def's body (or a comprehension's block) running. base: fixed through the whole law; s₀, H₀: the entry; outer: the frames whose slots others may change (a def's callers); stack: all frames that run;
   ex: iterators that were made ahead of the entry and are walked here (a comprehension's); fn: the names whose cells were made at the entry (a def: all; a comprehension's block: its own); calm: not within an except suite; pn: pins that every state bears; xe: what is wanted of an exception that leaves the code -/
structure Cx where
  prog : Program
  w : World
  K : PySem.W.Frag
  mg : Str → Option Value
  base : Heap
  A : Around
  N : List Str
  s₀ : Shared
  H₀ : Hp
  env : Env
  outer : List Env
  stack : List Env
  ex : List Addr
  fn : Str → Bool
  calm : Bool
  pn : List (Addr × Obj)
  xe : Value → Shared → Prop
/-- the callers' frames -/
def frs (l : List Env) : List Addr := l.filterMap (·.frame)
abbrev Cx.fs (X : Cx) : List Addr := frs X.outer

def Vis (sc : Scope) (x : Str) : Prop := sc.names.lookup x = some .local ∨ sc.names.lookup x = some .cell ∨ sc.names.lookup x = some .free
def Loc (sc : Scope) (x : Str) : Prop := sc.names.lookup x = some .local ∨ sc.names.lookup x = some .cell
def Look (env : Env) (h : Heap) (m : Str → Option Value) (x : Str) (u : Value) : Prop :=
  (env.kindOf x = some .local ∧ m x = some u) ∨ ((env.kindOf x = some .cell ∨ env.kindOf x = some .free) ∧ ∃ c, env.cells.lookup x = some c ∧ h.IsCell c (some u))

structure Cx.Ok (X : Cx) : Prop where
  mod : Mod X.K X.mg X.base
  kind : X.env.scope.kind = .function
  glob : X.env.globals = mainGlobals
  blt : X.env.builtins = builtinsNs
  above : X.s₀.heap.objs.size ≤ X.env.locals
  inj : ∀ x y c, X.env.cells.lookup x = some c → X.env.cells.lookup y = some c → x = y
  has : ∀ x, (X.env.kindOf x = some .cell ∨ X.env.kindOf x = some .free) → ∃ c, X.env.cells.lookup x = some c
  cab : ∀ x c, X.fn x = true → X.env.cells.lookup x = some c → X.s₀.heap.objs.size ≤ c
  hd : X.calm = true → X.A.handled = none
  frames : X.A.frames = some X.stack
  stk : X.stack = X.outer ∨ (X.stack = X.env :: X.outer ∧ X.env.frame = some X.env.locals)
  exf : ∀ b ∈ X.ex, b ≠ X.env.locals ∧ ∀ x c, X.env.cells.lookup x = some c → c ≠ b
  bs : ∀ b o, X.base.get? b = some o → X.s₀.heap.get? b = some o ∧ X.H₀ b = none
  bsz : X.base.objs.size ≤ X.s₀.heap.objs.size
  noex : ∀ b o, X.base.get? b = some o → b ∉ X.ex
  exfs : ∀ b ∈ X.ex, b ∉ X.fs
  funs : X.s₀.heap.FunFrames X.base X.outer
  frf : ∀ b ∈ X.fs, X.H₀ b = none

structure Inv (X : Cx) (pins : List (Addr × Obj)) (σ : List (Option V)) (H : Hp) (s : Shared) : Prop where
  ok : X.Ok
  os : s.os = X.s₀.os
  bare : AllBare s.gens
  base : Un X.fs X.ex X.H₀ H X.s₀.heap s.heap
  loc : ∃ m, s.heap.Ns X.env.locals m ∧ ∀ (i : Nat) (x : Str) (v : V), X.N[i]? = some x → σ[i]? = some (some v) → Vis X.env.scope x → ∃ u, RelV v u ∧ Look X.env s.heap m x u
  cell : ∀ x c, X.env.cells.lookup x = some c → ∃ v, s.heap.IsCell c v
  free : H X.env.locals = none
  freeC : ∀ x c, X.env.cells.lookup x = some c → H c = none
  pin : ∀ p ∈ X.pn ++ pins, s.heap.get? p.1 = some p.2 ∧ H p.1 = none ∧ p.1 ≠ X.env.locals ∧ p.1 ∉ X.fs ∧ ∀ v, p.2.data ≠ .cell v
  hok : HOk X.prog X.w H s.heap
  len : σ.length = X.N.length

section
variable {X : Cx} {pins : List (Addr × Obj)} {σ : List (Option V)} {H H' : Hp} {s : Shared} {h' : Heap}

theorem Cx.Ok.nofr (ok : X.Ok) {b : Addr} {o : Obj} (e : X.base.get? b = some o) : b ∉ X.fs := fun hb => by
  have := (ok.funs.mem hb).1
  rw [e] at this; cases this
theorem Inv.bs (I : Inv X pins σ H s) : ∀ b o, X.base.get? b = some o → s.heap.get? b = some o ∧ H b = none := fun b o e =>
  ⟨I.base.keep b o (I.ok.bs b o e).1 (I.ok.bs b o e).2 (I.ok.nofr e) (I.ok.noex b o e), I.base.free b o (I.ok.bs b o e).1 (I.ok.bs b o e).2 (I.ok.noex b o e)⟩
theorem Inv.bk (I : Inv X pins σ H s) : ∀ b o, X.base.get? b = some o → s.heap.get? b = some o := fun b o e => (I.bs b o e).1
theorem Inv.mod (I : Inv X pins σ H s) : Mod X.K X.mg X.base := I.ok.mod
theorem Inv.kIn (I : Inv X pins σ H s) : X.K.In s.heap := I.ok.mod.kin.keeps I.bk
theorem Inv.lt (I : Inv X pins σ H s) : X.env.locals < s.heap.objs.size := let ⟨_, hn, _⟩ := I.loc; hn.lt
theorem Inv.sz (I : Inv X pins σ H s) : X.s₀.heap.objs.size ≤ s.heap.objs.size := Nat.le_trans I.ok.above (Nat.le_of_lt I.lt)
theorem Inv.nofs (I : Inv X pins σ H s) {a : Addr} (h : s.heap.objs.size ≤ a) : a ∉ X.fs := fun hb => by
  obtain ⟨_, o, ho, _⟩ := I.ok.funs.mem hb
  exact absurd (Nat.lt_of_lt_of_le (Heap.lt_size ho) (Nat.le_trans I.sz h)) (Nat.lt_irrefl _)
theorem Inv.cne (I : Inv X pins σ H s) : ∀ x c, X.env.cells.lookup x = some c → c ≠ X.env.locals := fun x c e z => by
  obtain ⟨v, o, ho, hd⟩ := I.cell x c e
  obtain ⟨m, ⟨o', es, ep, ho', hd', _⟩, _⟩ := I.loc
  rw [z, ho'] at ho; cases ho; rw [hd'] at hd; cases hd
theorem Inv.funs (I : Inv X pins σ H s) : s.heap.FunFrames X.base X.outer := by
  have all : ∀ (l : List Env), (∀ b ∈ frs l, b ∈ X.fs) → X.s₀.heap.FunFrames X.base l → s.heap.FunFrames X.base l := by
    intro l
    induction l with
    | nil => intro _ _; trivial
    | cons env r ih =>
      intro hs hl
      obtain ⟨hk, ⟨L, o, hf, hn, ho, hd⟩, hr⟩ := hl
      have hL : L ∈ X.fs := hs L (by unfold frs; rw [List.filterMap_cons, hf]; exact List.mem_cons_self)
      obtain ⟨sl, e⟩ := I.base.slot L o ho (I.ok.frf L hL) hL fun z => I.ok.exfs L z hL
      exact ⟨hk, ⟨L, _, hf, hn, e, hd⟩, ih (fun b hb => hs b (by unfold frs; rw [List.filterMap_cons, hf]; exact List.mem_cons_of_mem _ hb)) hr⟩
  exact all X.outer (fun _ hb => hb) I.ok.funs

/-- the frames that run, for a call -/
theorem Inv.stack (I : Inv X pins σ H s) : s.heap.FunFrames X.base X.stack := by
  rcases I.ok.stk with e | ⟨e, hf⟩
  · rw [e]; exact I.funs
  · rw [e]
    obtain ⟨m, hn, _⟩ := I.loc
    refine .cons (by rw [I.ok.kind]; decide) hf hn ?_ I.funs
    exact Heap.get?_none_of_le (Nat.le_trans I.ok.bsz I.ok.above)
theorem Inv.stkSub (I : Inv X pins σ H s) : ∀ b ∈ frs X.stack, b ∈ X.env.locals :: X.fs := fun b hb => by
  rcases I.ok.stk with e | ⟨e, hf⟩
  · rw [e] at hb; exact List.mem_cons_of_mem _ hb
  · rw [e] at hb
    unfold frs at hb
    rw [List.filterMap_cons, hf] at hb
    exact hb
theorem Inv.stkFree (I : Inv X pins σ H s) : ∀ b ∈ frs X.stack, H b = none := fun b hb => by
  rcases List.mem_cons.mp (I.stkSub b hb) with e | hb
  · rw [e]; exact I.free
  · obtain ⟨_, o, ho, _⟩ := I.ok.funs.mem hb
    exact I.base.free b o ho (I.ok.frf b hb) fun z => I.ok.exfs b z hb

/-- THE STEP: the untracked objects but the frame and the records at ch are kept (the callers' frames up to slots), the frame's map is kept, the new abstract heap is held -/
theorem Inv.step {g' : Array GenState} {t' : Nat} {d' : Drawn} {ch : List Addr} (I : Inv X pins σ H s)
    (hch : ∀ b ∈ ch, (b ∈ X.ex ∨ X.s₀.heap.objs.size ≤ b) ∧ b ≠ X.env.locals ∧ (∀ x c, X.env.cells.lookup x = some c → c ≠ b) ∧ ∀ p ∈ X.pn ++ pins, p.1 ≠ b)
    (keep : ∀ b o, b ≠ X.env.locals → b ∉ X.fs → b ∉ ch → s.heap.get? b = some o → H b = none → h'.get? b = some o)
    (slot : ∀ b o, b ≠ X.env.locals → b ∈ X.fs → b ∉ ch → s.heap.get? b = some o → H b = none → ∃ sl, h'.get? b = some { o with slots := sl }) (free : ∀ b o, b ∉ ch → s.heap.get? b = some o → H b = none → H' b = none)
    (there : ∀ b o, b ∉ ch → s.heap.get? b = some o → ∃ o', h'.get? b = some o')
    (tups : ∀ b xs, H b = some (.tup xs) → H' b = some (.tup xs)) (frzs : ∀ b o u, H b = some (.frz o u) → H' b = some (.frz o u)) (tbls : ∀ b ps, H b = some (.tbl ps) → ∃ more, H' b = some (.tbl (ps ++ more)))
    (ns : ∀ m, s.heap.Ns X.env.locals m → h'.Ns X.env.locals m) (hok : HOk X.prog X.w H' h') (hg : AllBare g') :
    Inv X pins σ H' { s with heap := h', gens := g', drawn := d', toks := t' } := by
  have neL : ∀ b o, X.s₀.heap.get? b = some o → b ≠ X.env.locals := fun b o e => Nat.ne_of_lt (Nat.lt_of_lt_of_le (Heap.lt_size e) I.ok.above)
  have neC : ∀ b o, X.s₀.heap.get? b = some o → b ∉ X.ex → b ∉ ch := fun b o e hx hb => by
    rcases (hch b hb).1 with z | z
    · exact hx z
    · exact absurd (Nat.lt_of_lt_of_le (Heap.lt_size e) z) (Nat.lt_irrefl _)
  have cellK : ∀ x c, X.env.cells.lookup x = some c → ∀ v, s.heap.IsCell c v → h'.IsCell c v := fun x c e v ⟨o, ho, hd⟩ => by
    have nch : c ∉ ch := fun z => (hch c z).2.2.1 x c e rfl
    by_cases hc : c ∈ X.fs
    · obtain ⟨sl, q⟩ := slot c o (I.cne x c e) hc nch ho (I.freeC x c e)
      exact ⟨_, q, hd⟩
    · exact ⟨o, keep c o (I.cne x c e) hc nch ho (I.freeC x c e), hd⟩
  refine ⟨I.ok, I.os, hg, ⟨fun b o e n hb hx => ?_, fun b o e n hb hx => ?_, fun b o e n hx => ?_, fun b o e hx => ?_, fun b xs e => tups b xs (I.base.tups b xs e), fun b o xs e => frzs b o xs (I.base.frzs b o xs e), fun b ps e => ?_⟩, ?_, fun x c e => ?_, ?_, fun x c e => ?_, fun p hp => ?_, hok, I.len⟩
  · exact keep b o (neL b o e) hb (neC b o e hx) (I.base.keep b o e n hb hx) (I.base.free b o e n hx)
  · obtain ⟨sl, e1⟩ := I.base.slot b o e n hb hx
    obtain ⟨sl', e2⟩ := slot b _ (neL b o e) hb (neC b o e hx) e1 (I.base.free b o e n hx)
    exact ⟨sl', e2⟩
  · obtain ⟨o', e1⟩ := I.base.there b o e hx
    exact free b o' (neC b o e hx) e1 (I.base.free b o e n hx)
  · obtain ⟨o', e1⟩ := I.base.there b o e hx
    exact there b o' (neC b o e hx) e1
  · obtain ⟨m1, e1⟩ := I.base.tbls b ps e
    obtain ⟨m2, e2⟩ := tbls b _ e1
    exact ⟨m1 ++ m2, by rw [e2, Array.append_assoc]⟩
  · obtain ⟨m, hn, hl⟩ := I.loc
    refine ⟨m, ns m hn, fun i x v e1 e2 e3 => ?_⟩
    obtain ⟨u, r, l⟩ := hl i x v e1 e2 e3
    refine ⟨u, r, ?_⟩
    rcases l with l | ⟨k, c, e, z⟩
    · exact .inl l
    · exact .inr ⟨k, c, e, cellK x c e _ z⟩
  · obtain ⟨v, z⟩ := I.cell x c e
    exact ⟨v, cellK x c e v z⟩
  · obtain ⟨m, ⟨o, _, _, ho, _⟩, _⟩ := I.loc
    exact free _ o (fun z => (hch _ z).2.1 rfl) ho I.free
  · obtain ⟨v, o, ho, hd⟩ := I.cell x c e
    exact free c o (fun z => (hch c z).2.2.1 x c e rfl) ho (I.freeC x c e)
  · obtain ⟨e, n, ne, nf, d⟩ := I.pin p hp
    have nch : p.1 ∉ ch := fun z => (hch p.1 z).2.2.2 p hp rfl
    exact ⟨keep p.1 p.2 ne nf nch e n, free p.1 p.2 nch e n, ne, nf, d⟩
/-- .. where the frame's own object is kept too -/
theorem Inv.un {t' : Nat} (I : Inv X pins σ H s) (u : Un X.fs [] H H' s.heap h') (hok : HOk X.prog X.w H' h') : Inv X pins σ H' { s with heap := h', toks := t' } := by
  obtain ⟨m, ⟨o, es, ep, ho, r⟩, _⟩ := id I.loc
  obtain ⟨sl, hL⟩ := u.any ho I.free (by simp)
  exact I.step (g' := s.gens) (d' := s.drawn) (ch := []) (fun _ z => nomatch z) (fun b o _ hb _ e n => u.keep b o e n hb (by simp)) (fun b o _ hb _ e n => u.slot b o e n hb (by simp)) (fun b o _ e n => u.free b o e n (by simp)) (fun b o _ e => u.there b o e (by simp)) u.tups u.frzs u.tbls (fun m' hm => by
    obtain ⟨o', es', ep', ho', r'⟩ := hm
    rw [ho] at ho'; cases ho'
    exact ⟨_, es', ep', hL, r'⟩) hok I.bare
/-- behind a call (or a comprehension's block): the slots of this frame may have changed too, the records at ch may have turned -/
theorem Inv.call {g' : Array GenState} {t' : Nat} {d' : Drawn} {ch : List Addr} (I : Inv X pins σ H s) (u : Un (frs X.stack) ch H H' s.heap h') (hok : HOk X.prog X.w H' h') (hg : AllBare g')
    (hch : ∀ b ∈ ch, (b ∈ X.ex ∨ X.s₀.heap.objs.size ≤ b) ∧ b ≠ X.env.locals ∧ (∀ x c, X.env.cells.lookup x = some c → c ≠ b) ∧ ∀ p ∈ X.pn ++ pins, p.1 ≠ b) :
    Inv X pins σ H' { s with heap := h', gens := g', drawn := d', toks := t' } := by
  obtain ⟨m, ⟨o, es, ep, ho, r⟩, _⟩ := id I.loc
  obtain ⟨sl, hL⟩ := u.any ho I.free fun z => (hch _ z).2.1 rfl
  exact I.step (ch := ch) hch (fun b o hL hb hc e n => u.keep b o e n (fun z => (List.mem_cons.mp (I.stkSub b z)).elim hL hb) hc) (fun b o _ _ hc e n => u.any e n hc) (fun b o hc e n => u.free b o e n hc) (fun b o hc e => u.there b o e hc) u.tups u.frzs u.tbls (fun m' hm => by
    obtain ⟨o', es', ep', ho', r'⟩ := hm
    rw [ho] at ho'; cases ho'
    exact ⟨_, es', ep', hL, r'⟩) hok hg
/-- an untracked record of ours (an iterator) has turned -/
theorem Inv.turned {t' : Nat} {it : Addr} (I : Inv X pins σ H s) (k : ∀ b o, b ≠ it → s.heap.get? b = some o → h'.get? b = some o) (hn : H it = none) (hL : it ≠ X.env.locals)
    (h1 : it ∈ X.ex ∨ X.s₀.heap.objs.size ≤ it) (h2 : ∀ x c, X.env.cells.lookup x = some c → c ≠ it) (h3 : ∀ p ∈ X.pn ++ pins, p.1 ≠ it) : Inv X pins σ H { s with heap := h', toks := t' } := by
  have nit : ∀ b u, H b = some u → b ≠ it := fun b u e z => by rw [z, hn] at e; cases e
  refine I.step (g' := s.gens) (d' := s.drawn) (ch := [it]) (fun b hb => ?_) (fun b o _ _ hc e _ => k b o (fun z => hc (by simp [z])) e) (fun b o _ _ hc e _ => ⟨o.slots, k b o (fun z => hc (by simp [z])) e⟩) (fun _ _ _ _ n => n)
    (fun b o hc e => ⟨o, k b o (fun z => hc (by simp [z])) e⟩) (fun _ _ e => e) (fun _ _ _ e => e) (fun b ps e => ⟨#[], by rw [e]; simp⟩) (fun m hm => ?_) (fun b u e => ?_) I.bare
  · have e : b = it := by simpa using hb
    subst e
    exact ⟨h1, hL, h2, h3⟩
  · obtain ⟨o, es, ep, ho, r⟩ := hm
    exact ⟨o, es, ep, k _ o (Ne.symm hL) ho, r⟩
  · refine (I.hok b u e).stay (fun c v hc q => k c v ?_ q) (fun _ q => q) fun _ _ q => q
    rcases hc with z | z
    · rw [z]; exact nit b u e
    · exact nit c _ z
theorem Inv.tok (I : Inv X pins σ H s) (t : Nat) : Inv X pins σ H { s with toks := t } := I.un (h' := s.heap) (t' := t) Un.refl I.hok
/-- all objects kept -/
theorem Inv.kept {t' : Nat} (I : Inv X pins σ H s) (k : ∀ b u, s.heap.get? b = some u → h'.get? b = some u) : Inv X pins σ H { s with heap := h', toks := t' } := I.un (Un.kept k) (I.hok.kept k)
/-- a new object laid and tracked -/
theorem Inv.laid {a : Addr} {o : HO} {t' : Nat} (I : Inv X pins σ H s) (k : ∀ b u, s.heap.get? b = some u → h'.get? b = some u) (hp : s.heap.objs.size ≤ a) (new : ObjOk X.prog X.w (upd H a o) h' a o) :
    Inv X pins σ (upd H a o) { s with heap := h', toks := t' } := I.un (Un.laid k hp (I.hok.fresh hp)) (I.hok.laid k hp new)
/-- an object written -/
theorem Inv.write {x e : Addr} {o : HO} {t' : Nat} (I : Inv X pins σ H s) (mu : Mut (H x)) (he : e = x ∨ H e = some (.own x)) (k : ∀ b u, b ≠ e → s.heap.get? b = some u → h'.get? b = some u) (heo : ∃ u, h'.get? e = some u)
    (new : ObjOk X.prog X.w (upd H x o) h' x o) : Inv X pins σ (upd H x o) { s with heap := h', toks := t' } := I.un (Un.write mu he k heo) (I.hok.write mu he k heo new)
/-- forgetting slots, pins -/
theorem Inv.weak {σ' : List (Option V)} (I : Inv X pins σ H s) (hl : σ'.length = σ.length) (w : ∀ (i : Nat) v, σ'[i]? = some (some v) → σ[i]? = some (some v)) : Inv X pins σ' H s :=
  ⟨I.ok, I.os, I.bare, I.base, let ⟨m, hn, hl'⟩ := I.loc; ⟨m, hn, fun i x v e1 e2 e3 => hl' i x v e1 (w i v e2) e3⟩, I.cell, I.free, I.freeC, I.pin, I.hok, hl.trans I.len⟩
theorem Inv.pins_of {pins' : List (Addr × Obj)} (I : Inv X pins σ H s) (h : ∀ p ∈ pins', s.heap.get? p.1 = some p.2 ∧ H p.1 = none ∧ p.1 ≠ X.env.locals ∧ p.1 ∉ X.fs ∧ ∀ v, p.2.data ≠ .cell v) : Inv X pins' σ H s :=
  ⟨I.ok, I.os, I.bare, I.base, I.loc, I.cell, I.free, I.freeC, fun p hp => (List.mem_append.mp hp).elim (fun z => I.pin p (List.mem_append_left _ z)) (h p), I.hok, I.len⟩

theorem nodup_ix {N : List Str} (hN : N.Nodup) {i j : Nat} {x : Str} (a : N[i]? = some x) (b : N[j]? = some x) : i = j := by
  obtain ⟨h1, e1⟩ := List.getElem?_eq_some_iff.mp a
  obtain ⟨h2, e2⟩ := List.getElem?_eq_some_iff.mp b
  exact (List.getElem_inj hN).mp (e1.trans e2.symm)

/-- a name is stored; what changed -/
theorem store_ok2 {M : Model} {A : Around} {E : Value → Shared → Prop} {i : Nat} {x : Str} {v : V} {u : Value} {Q : Unit → Shared → Prop} (I : Inv X pins σ H s) (hN : X.N.Nodup) (hi : X.N[i]? = some x) (hx : Loc X.env.scope x) (r : RelV v u)
    (h : ∀ s', Inv X pins (σ.set i (some v)) H s' → (∃ a, Heap.SameBut a s.heap s'.heap ∧ (a = X.env.locals ∨ X.env.cells.lookup x = some a)) → Q () s') (hf : X.fn x = true ∨ X.env.scope.names.lookup x = some .local := by first | exact .inl rfl | exact .inr rfl | assumption) : wpAny M A (storeName X.env x u) Q E s := by
  obtain ⟨m, hn, hl⟩ := id I.loc
  have hcls : (X.env.scope.kind == .class || (X.env.scope.kind == .module && X.env.locals != X.env.globals)) = false := by rw [I.ok.kind]; rfl
  have hiσ : i < σ.length := by rw [I.len]; exact (List.getElem?_eq_some_iff.mp hi).1
  have cne := I.cne
  have tracked : ∀ {a : Addr} {h' : Heap}, (∃ o, s.heap.get? a = some o ∧ H a = none) → Heap.SameBut a s.heap h' → HOk X.prog X.w H h' := fun {a h'} ha hs b ob e => by
    obtain ⟨_, _, hfree⟩ := ha
    refine (I.hok b ob e).stay (fun c w' hc q => (hs.2 c ?_).trans q) (fun _ q => q) fun _ _ q => q
    rintro rfl
    rcases hc with rfl | hc
    · rw [hfree] at e; cases e
    · rw [hfree] at hc; cases hc
  rcases hx with hk | hk
  · refine wpAny_storeName_local hk hn (fun h' hn' hs => ?_) hcls
    obtain ⟨oL, _, _, hoL, _⟩ := id hn
    refine h _ ⟨I.ok, I.os, I.bare, ⟨fun b o e n hb hx => ?_, fun b o e n hb hx => ?_, I.base.free, fun b o e hx => ?_, I.base.tups, I.base.frzs, I.base.tbls⟩, ⟨_, hn', fun j y v' e1 e2 e3 => ?_⟩, fun y c e => ?_, I.free, I.freeC, fun p hp => ?_, tracked ⟨oL, hoL, I.free⟩ hs, by simpa using I.len⟩ ⟨_, hs, .inl rfl⟩
    · exact (hs.2 b (Nat.ne_of_lt (Nat.lt_of_lt_of_le (Heap.lt_size e) I.ok.above))).trans (I.base.keep b o e n hb hx)
    · obtain ⟨sl, e1⟩ := I.base.slot b o e n hb hx
      exact ⟨sl, (hs.2 b (Nat.ne_of_lt (Nat.lt_of_lt_of_le (Heap.lt_size e) I.ok.above))).trans e1⟩
    · obtain ⟨o', e1⟩ := I.base.there b o e hx
      exact ⟨o', (hs.2 b (Nat.ne_of_lt (Nat.lt_of_lt_of_le (Heap.lt_size e) I.ok.above))).trans e1⟩
    · by_cases hj : j = i
      · subst hj
        rw [hi] at e1; cases e1
        rw [List.getElem?_set_self hiσ] at e2
        cases e2
        exact ⟨u, r, .inl ⟨hk, by simp⟩⟩
      · rw [List.getElem?_set_ne (Ne.symm hj)] at e2
        obtain ⟨u', r', q⟩ := hl j y v' e1 e2 e3
        refine ⟨u', r', ?_⟩
        rcases q with ⟨k, e⟩ | ⟨k, c, e, z⟩
        · refine .inl ⟨k, ?_⟩
          have : y ≠ x := fun e => hj (nodup_ix hN e1 (e ▸ hi))
          simp [this, e]
        · exact .inr ⟨k, c, e, z.sameBut hs (cne y c e)⟩
    · obtain ⟨w', z⟩ := I.cell y c e
      exact ⟨w', z.sameBut hs (cne y c e)⟩
    · obtain ⟨e, n, ne, nf, d⟩ := I.pin p hp
      exact ⟨(hs.2 p.1 ne).trans e, n, ne, nf, d⟩
  · have hfn : X.fn x = true := by
      rcases hf with z | z
      · exact z
      · rw [z] at hk; cases hk
    obtain ⟨c, hc⟩ := I.ok.has x (.inl hk)
    obtain ⟨w', z⟩ := I.cell x c hc
    refine wpAny_storeName_cell I.ok.kind hk hc z (fun h' hc' hs => ?_)
    obtain ⟨oc, hoc, hocd⟩ := id z
    refine h { s with heap := h' } ⟨I.ok, I.os, I.bare, ⟨fun b o e n hb hx => ?_, fun b o e n hb hx => ?_, I.base.free, fun b o e hx => ?_, I.base.tups, I.base.frzs, I.base.tbls⟩, ⟨m, hn.sameBut hs (Ne.symm (cne x c hc)), fun j y v' e1 e2 e3 => ?_⟩, fun y c' e => ?_, I.free, I.freeC, fun p hp => ?_, tracked ⟨oc, hoc, I.freeC x c hc⟩ hs, by simpa using I.len⟩ ⟨c, hs, .inr hc⟩
    · exact (hs.2 b (Nat.ne_of_lt (Nat.lt_of_lt_of_le (Heap.lt_size e) (I.ok.cab x c hfn hc)))).trans (I.base.keep b o e n hb hx)
    · obtain ⟨sl, e1⟩ := I.base.slot b o e n hb hx
      exact ⟨sl, (hs.2 b (Nat.ne_of_lt (Nat.lt_of_lt_of_le (Heap.lt_size e) (I.ok.cab x c hfn hc)))).trans e1⟩
    · obtain ⟨o', e1⟩ := I.base.there b o e hx
      exact ⟨o', (hs.2 b (Nat.ne_of_lt (Nat.lt_of_lt_of_le (Heap.lt_size e) (I.ok.cab x c hfn hc)))).trans e1⟩
    · by_cases hj : j = i
      · subst hj
        rw [hi] at e1; cases e1
        rw [List.getElem?_set_self hiσ] at e2
        cases e2
        exact ⟨u, r, .inr ⟨.inl hk, c, hc, hc'⟩⟩
      · rw [List.getElem?_set_ne (Ne.symm hj)] at e2
        obtain ⟨u', r', q⟩ := hl j y v' e1 e2 e3
        refine ⟨u', r', ?_⟩
        rcases q with q | ⟨k, c', e, z'⟩
        · exact .inl q
        · refine .inr ⟨k, c', e, z'.sameBut hs ?_⟩
          rintro rfl
          exact hj (nodup_ix hN e1 (I.ok.inj _ _ _ e hc ▸ hi))
    · by_cases hcc : c' = c
      · subst hcc; exact ⟨_, hc'⟩
      · obtain ⟨w2, z2⟩ := I.cell y c' e
        exact ⟨w2, z2.sameBut hs hcc⟩
    · obtain ⟨e, n, ne, nf, d⟩ := I.pin p hp
      refine ⟨(hs.2 p.1 ?_).trans e, n, ne, nf, d⟩
      intro q
      rw [q, hoc] at e
      have q' : oc = p.2 := Option.some.inj e
      exact d w' (by rw [← q']; exact hocd)
theorem store_ok {M : Model} {A : Around} {E : Value → Shared → Prop} {i : Nat} {x : Str} {v : V} {u : Value} {Q : Unit → Shared → Prop} (I : Inv X pins σ H s) (hN : X.N.Nodup) (hi : X.N[i]? = some x) (hx : Loc X.env.scope x) (r : RelV v u)
    (h : ∀ s', Inv X pins (σ.set i (some v)) H s' → Q () s') (hf : X.fn x = true ∨ X.env.scope.names.lookup x = some .local := by first | exact .inl rfl | exact .inr rfl | assumption) : wpAny M A (storeName X.env x u) Q E s :=
  store_ok2 I hN hi hx r (fun s' I' _ => h s' I') hf
/-- behind a call or a block, the state as it is -/
theorem Inv.call' {s' : Shared} {ch : List Addr} (I : Inv X pins σ H s) (ho : s'.os = s.os) (u : Un (frs X.stack) ch H H' s.heap s'.heap) (hok : HOk X.prog X.w H' s'.heap) (hg : AllBare s'.gens)
    (hch : ∀ b ∈ ch, (b ∈ X.ex ∨ X.s₀.heap.objs.size ≤ b) ∧ b ≠ X.env.locals ∧ (∀ x c, X.env.cells.lookup x = some c → c ≠ b) ∧ ∀ p ∈ X.pn ++ pins, p.1 ≠ b) : Inv X pins σ H' s' := by
  obtain ⟨h', g', d', t', o'⟩ := s'
  have e : o' = s.os := ho
  subst e
  exact I.call (g' := g') (t' := t') (d' := d') u hok hg hch
end

/-! ### the judgements -/
/-- an exception: its class, its own dict's address (where it has one), the abstract heap behind it -/
abbrev XK := Value → Option Addr → Hp → Prop
abbrev St := List (Option V)
abbrev VK := V → Hp → Prop
/-- an expression's reading; a test's; an argument list's -/
abbrev TE := St → Hp → VK → Prop
abbrev TT := St → Hp → (Bool → Hp → Prop) → Prop
abbrev TA := St → Hp → (List V → Hp → Prop) → Prop
/-- what is wanted behind a statement -/
structure Ends where
  nx : St → Hp → Prop
  rt : VK
  bk : St → Hp → Prop := fun _ _ => False
  ct : St → Hp → Prop := fun _ _ => False
abbrev TS := Ends → St → Hp → Prop

def EP (X : Cx) (pins : List (Addr × Obj)) (σ : St) (Q : VK) (u : Value) (s' : Shared) : Prop := ∃ v H', Inv X pins σ H' s' ∧ RelV v u ∧ Q v H'
def TP (X : Cx) (pins : List (Addr × Obj)) (σ : St) (Q : Bool → Hp → Prop) (b : Bool) (s' : Shared) : Prop := ∃ H', Inv X pins σ H' s' ∧ Q b H'
def AP (X : Cx) (pins : List (Addr × Obj)) (σ : St) (Q : List V → Hp → Prop) (us : List Value) (s' : Shared) : Prop := ∃ vs H', Inv X pins σ H' s' ∧ Vals vs us ∧ Q vs H'
def SP (X : Cx) (pins : List (Addr × Obj)) (D : Ends) (f : Flow) (s' : Shared) : Prop :=
  match f with
  | .next => ∃ σ' H', Inv X pins σ' H' s' ∧ D.nx σ' H'
  | .brk => ∃ σ' H', Inv X pins σ' H' s' ∧ D.bk σ' H'
  | .cont => ∃ σ' H', Inv X pins σ' H' s' ∧ D.ct σ' H'
  | .ret u => ∃ v σ' H', Inv X pins σ' H' s' ∧ RelV v u ∧ D.rt v H'

def PE (X : Cx) (e : Expr) (t : TE) : Prop :=
  ∀ (pins : List (Addr × Obj)) (s : Shared) (σ : St) (H : Hp) (Q : VK), Inv X pins σ H s → t σ H Q → wpAny (model X.prog X.w) X.A (eval e X.env) (EP X pins σ Q) X.xe s
def PT (X : Cx) (e : Expr) (t : TT) : Prop :=
  ∀ (pins : List (Addr × Obj)) (s : Shared) (σ : St) (H : Hp) (Q : Bool → Hp → Prop), Inv X pins σ H s → t σ H Q → wpAny (model X.prog X.w) X.A (isTrue e X.env (eval e X.env)) (TP X pins σ Q) X.xe s
/-- a test whatever its 'whole' is (and, or) -/
def PW (X : Cx) (e : Expr) (t : TT) : Prop :=
  ∀ (whole : Sem Value) (pins : List (Addr × Obj)) (s : Shared) (σ : St) (H : Hp) (Q : Bool → Hp → Prop), Inv X pins σ H s → t σ H Q → wpAny (model X.prog X.w) X.A (isTrue e X.env whole) (TP X pins σ Q) X.xe s
theorem PW.pt {X : Cx} {e : Expr} {t : TT} (h : PW X e t) : PT X e t := h _
/-- an argument list (no star), from the left -/
def PA (X : Cx) (es : List Expr) (t : TA) : Prop :=
  ∀ (pos : Pos) (pins : List (Addr × Obj)) (s : Shared) (σ : St) (H : Hp) (Q : List V → Hp → Prop), Inv X pins σ H s → t σ H Q → wpAny (model X.prog X.w) X.A (spliced (backTo pos (starEach es X.env))) (AP X pins σ Q) X.xe s
def PS (X : Cx) (st : Stmt) (t : TS) : Prop :=
  ∀ (pins : List (Addr × Obj)) (s : Shared) (σ : St) (H : Hp) (D : Ends), Inv X pins σ H s → t D σ H → wpAny (model X.prog X.w) X.A (exec st X.env) (SP X pins D) X.xe s
def PSs (X : Cx) (st : List Stmt) (t : TS) : Prop :=
  ∀ (pins : List (Addr × Obj)) (s : Shared) (σ : St) (H : Hp) (D : Ends), Inv X pins σ H s → t D σ H → wpAny (model X.prog X.w) X.A (execs st X.env) (SP X pins D) X.xe s
/-- weaken the end -/
theorem thn {α : Type} {t : Sem α} {Q Q' : α → Shared → Prop} {M : Model} {A : Around} {E : Value → Shared → Prop} {s : Shared} (h : wpAny M A t Q E s) (hQ : ∀ a s, Q a s → Q' a s) : wpAny M A t Q' E s := wpAny_mono h hQ fun _ _ x => x
end L2

namespace L2
open PySem PySem.Spec PyProof.Rows
section
variable {X : Cx}


/-! ### names and constants -/
def tVar (i : Nat) : TE := fun σ H Q => ∃ v, σ[i]? = some (some v) ∧ Q v H
def tC (v : V) : TE := fun _ H Q => Q v H
theorem pe_var {i : Nat} {x : Str} {pos : Pos} (hN : X.N[i]? = some x) (hv : Vis X.env.scope x) (hd : (x == ("__debug__" : Str)) = false := by decide) (hcd : (x == ("__classdict__" : Str)) = false := by decide) : PE X (.Name x pos) (tVar i) := by
  intro pins s σ H Q I h
  obtain ⟨v, e, h⟩ := h
  obtain ⟨m, hn, hl⟩ := I.loc
  obtain ⟨u, r, l⟩ := hl i x v hN e hv
  have fin : EP X pins σ Q u s := ⟨v, H, I, r, h⟩
  rcases l with ⟨hk, hm⟩ | ⟨hk, c, hc, hcell⟩
  · exact wpAny_Name (wpAny_loadName_local I.ok.kind hk hn hm fin) hd
  · rcases hk with hk | hk
    · exact wpAny_Name (wpAny_loadName_cell I.ok.kind hk hc hcell fin) hd
    · exact wpAny_Name (wpAny_loadName_free I.ok.kind hk hc hcell fin hcd) hd
theorem pe_int {i j pos} : PE X (.Constant (.int i) j pos) (tC (.int i)) := fun _ _ _ H _ I h => wpAny_Constant_int ⟨.int i, H, I.tok _, ⟨_, rfl⟩, h⟩
theorem pe_bl {b j pos} : PE X (.Constant (.bool b) j pos) (tC (.bl b)) := fun _ _ _ H _ I h => Constant_bool ⟨.bl b, H, I, rfl, h⟩
theorem pe_non {j pos} : PE X (.Constant .none j pos) (tC .non) := fun _ _ _ H _ I h => Constant_none ⟨.non, H, I, rfl, h⟩

/-- a global name of the def -/
def Gl (X : Cx) (x : Str) : Prop := X.env.kindOf x = some .globalImplicit
theorem ld_glob {E : Value → Shared → Prop} {pins : List (Addr × Obj)} {s : Shared} {σ : St} {H : Hp} {x : Str} {u : Value} {pos : Pos} {Q : Value → Shared → Prop} (I : Inv X pins σ H s) (hg : Gl X x) (hm : X.mg x = some u) (h : Q u s)
    (hd : (x == ("__debug__" : Str)) = false := by decide) : wpAny (model X.prog X.w) X.A (eval (.Name x pos) X.env) Q E s :=
  Calls.Name_function_global I.ok.kind hg (Calls.loadGlobal_global (by rw [I.ok.glob]; exact I.mod.glob.keeps I.bk) hm h) hd
theorem ld_blt {E : Value → Shared → Prop} {pins : List (Addr × Obj)} {s : Shared} {σ : St} {H : Hp} {x : Str} {u : Value} {pos : Pos} {Q : Value → Shared → Prop} (I : Inv X pins σ H s) (hg : Gl X x) (hm : X.mg x = none) (hv : bootBuiltins x = some u) (h : Q u s)
    (hn : x ≠ "__name__" := by decide) (hd : (x == ("__debug__" : Str)) = false := by decide) : wpAny (model X.prog X.w) X.A (eval (.Name x pos) X.env) Q E s := by
  obtain ⟨mb, h1, h2⟩ := I.mod.blt
  exact Calls.Name_function_global I.ok.kind hg (Calls.loadGlobal_builtin (by rw [I.ok.glob]; exact I.mod.glob.keeps I.bk) hm (by rw [I.ok.blt]; exact h1.keeps I.bk) ((h2 x hn).trans hv) h) hd
theorem pe_bltn {x : Str} {v : V} {u : Value} {pos : Pos} (hg : Gl X x) (hm : X.mg x = none) (hv : bootBuiltins x = some u) (r : RelV v u) (hn : x ≠ "__name__" := by decide) (hd : (x == ("__debug__" : Str)) = false := by decide) : PE X (.Name x pos) (tC v) :=
  fun _ _ _ H _ I h => ld_blt I hg hm hv ⟨v, H, I, r, h⟩ hn hd

/-! ### arithmetic -/
variable {a b : Expr} {ta tb : TE} {pos : Pos}

/-! ### comparisons -/
/-- a comparison as a value, as a test -/
def tB (t : TE) : TT := fun σ H Q => t σ H fun x H1 => ∃ c, x = .bl c ∧ Q c H1
/-- an expression whose value is a bool, as a test -/
theorem pt_val {e : Expr} {t : TE} (h : PE X e t) (he : ∀ whole, isTrue e X.env whole = (do let v ← whole; standAt e.pos; holding [v] (truthy v)) := by intro _; rfl) : PT X e (tB t) := by
  intro pins s σ H Q I hw
  refine isTrue_plain (thn (h pins s σ H _ I hw) fun v s1 ⟨x, H1, I1, r1, q1⟩ => ?_) (he _)
  obtain ⟨d, rfl, q⟩ := q1
  cases r1
  exact wpAny_truthy_bool ⟨H1, I1, q⟩

/-! ### and, or, not -/
variable {tA tB' : TT} {rest : List Expr}
def tAnd (t u : TT) : TT := fun σ H Q => t σ H fun c H1 => if c = true then u σ H1 Q else Q false H1
def tOr (t u : TT) : TT := fun σ H Q => t σ H fun c H1 => if c = true then Q true H1 else u σ H1 Q
def tNot (t : TT) : TT := fun σ H Q => t σ H fun c H1 => Q (!c) H1
theorem pw_and1 (ha : PT X a tA) : PW X (.BoolOp .And [a] pos) tA := by
  intro wh pins s σ H Q I h
  refine isTrue_and (thn (ha pins s σ H Q I h) fun c s1 e => ?_)
  cases c with
  | true => exact isTrue_and_nil e
  | false => exact e
theorem pw_or1 (ha : PT X a tA) : PW X (.BoolOp .Or [a] pos) tA := by
  intro wh pins s σ H Q I h
  refine isTrue_or (thn (ha pins s σ H Q I h) fun c s1 e => ?_)
  cases c with
  | false => exact isTrue_or_nil e
  | true => exact e
theorem pw_and (ha : PT X a tA) (hb : PW X (.BoolOp .And (b :: rest) pos) tB') : PW X (.BoolOp .And (a :: b :: rest) pos) (tAnd tA tB') := by
  intro wh pins s σ H Q I h
  refine isTrue_and (thn (ha pins s σ H _ I h) fun c s1 ⟨H1, I1, q1⟩ => ?_)
  cases c with
  | true => exact hb wh pins s1 σ H1 Q I1 q1
  | false => exact ⟨H1, I1, q1⟩
theorem pw_or (ha : PT X a tA) (hb : PW X (.BoolOp .Or (b :: rest) pos) tB') : PW X (.BoolOp .Or (a :: b :: rest) pos) (tOr tA tB') := by
  intro wh pins s σ H Q I h
  refine isTrue_or (thn (ha pins s σ H _ I h) fun c s1 ⟨H1, I1, q1⟩ => ?_)
  cases c with
  | true => exact ⟨H1, I1, q1⟩
  | false => exact hb wh pins s1 σ H1 Q I1 q1
theorem pt_not (ha : PT X a tA) : PT X (.UnaryOp .Not a pos) (tNot tA) := by
  intro pins s σ H Q I h
  exact isTrue_not (ha pins s σ H (fun c H1 => Q (!c) H1) I h)
/-- .. as values (bools) -/
def tAndV (ta tb : TE) : TE := fun σ H Q => ta σ H fun x H1 => ∃ c, x = .bl c ∧ if c = true then tb σ H1 Q else Q (.bl false) H1
def tOrV (ta tb : TE) : TE := fun σ H Q => ta σ H fun x H1 => ∃ c, x = .bl c ∧ if c = true then Q (.bl true) H1 else tb σ H1 Q
def tNotV (ta : TE) : TE := fun σ H Q => ta σ H fun x H1 => ∃ c, x = .bl c ∧ Q (.bl (!c)) H1
theorem pe_one {op} {t : TE} (h : PE X a t) : PE X (.BoolOp op [a] pos) t := fun pins s σ H Q I hw => BoolOp_one (h pins s σ H Q I hw)
theorem pe_and (ha : PE X a ta) (hb : PE X (.BoolOp .And (b :: rest) pos) tb) : PE X (.BoolOp .And (a :: b :: rest) pos) (tAndV ta tb) := by
  intro pins s σ H Q I h
  refine BoolOp_and (thn (ha pins s σ H _ I h) fun v s1 ⟨x, H1, I1, r1, q1⟩ => ?_)
  obtain ⟨c, rfl, q1⟩ := q1
  cases r1
  refine wpAny_truthy_bool ?_
  cases c with
  | true => exact hb pins s1 σ H1 Q I1 q1
  | false => exact ⟨.bl false, H1, I1, rfl, q1⟩
theorem pe_or (ha : PE X a ta) (hb : PE X (.BoolOp .Or (b :: rest) pos) tb) : PE X (.BoolOp .Or (a :: b :: rest) pos) (tOrV ta tb) := by
  intro pins s σ H Q I h
  refine BoolOp_or (thn (ha pins s σ H _ I h) fun v s1 ⟨x, H1, I1, r1, q1⟩ => ?_)
  obtain ⟨c, rfl, q1⟩ := q1
  cases r1
  refine wpAny_truthy_bool ?_
  cases c with
  | false => exact hb pins s1 σ H1 Q I1 q1
  | true => exact ⟨.bl true, H1, I1, rfl, q1⟩
theorem pe_not (ha : PE X a ta) : PE X (.UnaryOp .Not a pos) (tNotV ta) := by
  intro pins s σ H Q I h
  refine UnaryOp_ (thn (ha pins s σ H _ I h) fun v s1 ⟨x, H1, I1, r1, q1⟩ => ?_)
  obtain ⟨c, rfl, q1⟩ := q1
  cases r1
  exact not_of (wpAny_truthy_bool ⟨.bl (!c), H1, I1, rfl, q1⟩)
end
end L2

namespace L2
open PySem PySem.Spec PyProof.Rows

/-! ### a list, a tuple that is read: tracked, frozen, or an object of the module -/
def SqL (K : PySem.W.Frag) (H : Hp) (a : Addr) (xs : List V) : Prop :=
  Rd H a (.lst xs) ∨
    ∃ (o : Obj) (its : Array Value) (n : Nat), K.lookup a = some o ∧ o.cls = .type "list" ∧ o.dict = none ∧ o.data = .seq its n ∧ its.size ≤ sizeLine ∧ Vals xs its.toList
def SqT (K : PySem.W.Frag) (H : Hp) (a : Addr) (xs : List V) : Prop :=
  Rd H a (.tup xs) ∨
    ∃ (o : Obj) (its : Array Value) (n : Nat), K.lookup a = some o ∧ o.cls = .type "tuple" ∧ o.data = .seq its n ∧ its.size ≤ sizeLine ∧ Vals xs its.toList
def absV : Value → Option V
  | .none => some .non
  | .bool b => some (.bl b)
  | .int i _ => some (.int i)
  | .str x _ => some (.str x)
  | .bytes b _ => some (.byt b)
  | .float b _ => some (.flt b)
  | .ref a => some (.ref a)
  | .type n => some (.ty n)
  | _ => none
theorem RelV.abs {x : V} {u : Value} (r : RelV x u) : absV u = some x := by
  cases x with
  | non => cases r; rfl
  | bl _ => cases r; rfl
  | int _ => obtain ⟨t, rfl⟩ := r; rfl
  | str _ => obtain ⟨t, rfl⟩ := r; rfl
  | byt _ => obtain ⟨t, rfl⟩ := r; rfl
  | flt _ => obtain ⟨t, rfl⟩ := r; rfl
  | ref _ => cases r; rfl
  | ty _ => cases r; rfl
theorem RelV.inj {x y : V} {u : Value} (r : RelV x u) (q : RelV y u) : x = y := Option.some.inj (r.abs.symm.trans q.abs)
theorem Vals.inj : ∀ {xs ys : List V} {us : List Value}, Vals xs us → Vals ys us → xs = ys
  | _, _, _, .nil, .nil => rfl
  | _, _, _, .cons r t, .cons r' t' => by rw [r.inj r', Vals.inj t t']
section
variable {X : Cx} {pins : List (Addr × Obj)} {σ : St} {H : Hp} {s : Shared} {a : Addr} {xs ys : List V}
theorem SqL.of {K : PySem.W.Frag} (h : H a = some (.lst xs)) : SqL K H a xs := .inl (.inl h)
theorem SqT.of {K : PySem.W.Frag} (h : H a = some (.tup xs)) : SqT K H a xs := .inl (.inl h)
theorem Inv.list (I : Inv X pins σ H s) (h : SqL X.K H a xs) : ∃ its : List Value, Vals xs its ∧ PlainL s.heap a its.toArray ∧ xs.length ≤ sizeLine := by
  rcases h with h | ⟨o, its, n, hk, hc, hd, hs, hz, r⟩
  · obtain ⟨z, its, n, r, e⟩ := h.ok I.hok
    exact ⟨its, r, ⟨_, n, e, rfl, rfl, rfl⟩, z⟩
  · refine ⟨its.toList, r, ⟨o, n, I.kIn a o hk, hc, hd, by simpa using hs⟩, ?_⟩
    have e := r.length
    simp only [Array.length_toList] at e
    omega
theorem Inv.tuple (I : Inv X pins σ H s) (h : SqT X.K H a xs) : ∃ its : List Value, Vals xs its ∧ IsTup s.heap a its.toArray ∧ xs.length ≤ sizeLine := by
  rcases h with h | ⟨o, its, n, hk, hc, hs, hz, r⟩
  · obtain ⟨z, its, r, p⟩ := h.ok I.hok
    exact ⟨its, r, p, z⟩
  · refine ⟨its.toList, r, ⟨o, I.kIn a o hk, hc, n, by simpa using hs⟩, ?_⟩
    have e := r.length
    simp only [Array.length_toList] at e
    omega
theorem Inv.list_inj (I : Inv X pins σ H s) (h : SqL X.K H a xs) (h' : SqL X.K H a ys) : xs = ys := by
  obtain ⟨its, r, ⟨o, n, e, _, _, d⟩, _⟩ := I.list h
  obtain ⟨its', r', ⟨o', n', e', _, _, d'⟩, _⟩ := I.list h'
  rw [e] at e'; cases e'
  rw [d] at d'
  injection d' with d1 _
  have : its = its' := by simpa using congrArg Array.toList d1
  subst this
  exact r.inj r'
end

/-! ### another wish about exceptions -/
abbrev Cx.wish (X : Cx) (E : Value → Shared → Prop) : Cx := { X with xe := E }
/-- no exception leaves -/
abbrev Cx.nox (X : Cx) : Cx := X.wish fun _ _ => False
theorem Cx.Ok.wish {X : Cx} (ok : X.Ok) (E : Value → Shared → Prop) : (X.wish E).Ok :=
  ⟨ok.mod, ok.kind, ok.glob, ok.blt, ok.above, ok.inj, ok.has, ok.cab, ok.hd, ok.frames, ok.stk, ok.exf, ok.bs, ok.bsz, ok.noex, ok.exfs, ok.funs, ok.frf⟩
theorem Cx.Ok.unwish {X : Cx} {E : Value → Shared → Prop} (ok : (X.wish E).Ok) : X.Ok :=
  ⟨ok.mod, ok.kind, ok.glob, ok.blt, ok.above, ok.inj, ok.has, ok.cab, ok.hd, ok.frames, ok.stk, ok.exf, ok.bs, ok.bsz, ok.noex, ok.exfs, ok.funs, ok.frf⟩
section
variable {X : Cx} {pins : List (Addr × Obj)} {σ : St} {H : Hp} {s : Shared} {E : Value → Shared → Prop}
theorem Inv.wish (I : Inv X pins σ H s) (E : Value → Shared → Prop) : Inv (X.wish E) pins σ H s := ⟨I.ok.wish E, I.os, I.bare, I.base, I.loc, I.cell, I.free, I.freeC, I.pin, I.hok, I.len⟩
theorem Inv.unwish (I : Inv (X.wish E) pins σ H s) : Inv X pins σ H s := ⟨I.ok.unwish, I.os, I.bare, I.base, I.loc, I.cell, I.free, I.freeC, I.pin, I.hok, I.len⟩
theorem SP.unwish {D : Ends} {f : Flow} {s' : Shared} (h : SP (X.wish E) pins D f s') : SP X pins D f s' := by
  cases f with
  | next => obtain ⟨σ', H', I, q⟩ := h; exact ⟨σ', H', I.unwish, q⟩
  | brk => obtain ⟨σ', H', I, q⟩ := h; exact ⟨σ', H', I.unwish, q⟩
  | cont => obtain ⟨σ', H', I, q⟩ := h; exact ⟨σ', H', I.unwish, q⟩
  | ret u => obtain ⟨v, σ', H', I, r, q⟩ := h; exact ⟨v, σ', H', I.unwish, r, q⟩
theorem PSs.nox {st : List Stmt} {t : TS} (h : PSs X.nox st t) : PSs X st t := fun pins s σ H D I hw =>
  wpAny_mono (h pins s σ H D (I.wish _) hw) (fun _ _ q => q.unwish) fun _ _ z => False.elim z
end

/-! ### blocks and small statements -/
section
variable {X : Cx} {st : Stmt} {rest : List Stmt} {t u : TS} {e : Expr} {te : TE} {pos : Pos}
def tNext : TS := fun D σ H => D.nx σ H
def tSeq (t u : TS) : TS := fun D σ H => t { D with nx := u D } σ H
theorem pss_nil : PSs X [] tNext := fun _ _ σ H _ I h => wpAny_execs_nil ⟨σ, H, I, h⟩
theorem pss_cons (h1 : PS X st t) (h2 : PSs X rest u) : PSs X (st :: rest) (tSeq t u) := by
  intro pins s σ H D I h
  refine wpAny_execs_cons (thn (h1 pins s σ H { D with nx := u D } I h) fun f s1 q => ?_)
  cases f with
  | next =>
    obtain ⟨σ', H', I', q⟩ := q
    exact h2 pins s1 σ' H' D I' q
  | ret v => exact q
  | brk => exact q
  | cont => exact q
theorem pss_one (h1 : PS X st t) : PSs X [st] t := by
  intro pins s σ H D I h
  refine wpAny_execs_cons (thn (h1 pins s σ H D I h) fun f s1 q => ?_)
  cases f with
  | next => exact wpAny_execs_nil q
  | ret v => exact q
  | brk => exact q
  | cont => exact q
/-- in a def's body nothing is shown -/
theorem Inv.quiet {pins : List (Addr × Obj)} {σ : St} {H : Hp} {s : Shared} (I : Inv X pins σ H s) : interactive X.env = false := by simp [interactive, I.ok.kind]
/-- an expression whose value is dropped -/
def tDrop (te : TE) : TS := fun D σ H => te σ H fun _ H1 => D.nx σ H1
theorem ps_expr (he : PE X e te) (hs : swapsWith e none pos.line X.env = pure false := by rfl) : PS X (.Expr e pos) (tDrop te) := by
  intro pins s σ H D I h
  exact wpAny_Expr_any (thn (he pins s σ H _ I h) fun v s1 ⟨x, H1, I1, r1, q1⟩ => ⟨σ, H1, I1, q1⟩) I.quiet hs
def tRet (te : TE) : TS := fun D σ H => te σ H D.rt
theorem ps_ret (he : PE X e te) : PS X (.Return (some e) pos) (tRet te) := by
  intro pins s σ H D I h
  exact wpAny_Return_some (thn (he pins s σ H _ I h) fun v s1 ⟨x, H1, I1, r1, q1⟩ => ⟨x, σ, H1, I1, r1, q1⟩)
def tIfS (c : TT) (t u : TS) : TS := fun D σ H => c σ H fun b H1 => if b = true then t D σ H1 else u D σ H1
theorem ps_if {c : Expr} {a b : List Stmt} {tc : TT} (hc : PT X c tc) (ha : PSs X a t) (hb : PSs X b u) : PS X (.If c a b pos) (tIfS tc t u) := by
  intro pins s σ H D I h
  refine wpAny_If (thn (hc pins s σ H _ I h) fun d s1 ⟨H1, I1, q1⟩ => ?_)
  cases d with
  | true => exact ha pins s1 σ H1 D I1 q1
  | false => exact hb pins s1 σ H1 D I1 q1
end

/-! ### targets -/
abbrev TG := V → St → Hp → (St → Hp → Prop) → Prop
abbrev TGs := List V → St → Hp → (St → Hp → Prop) → Prop
def PG (X : Cx) (target : Expr) (t : TG) : Prop :=
  ∀ (pins : List (Addr × Obj)) (s : Shared) (σ : St) (H : Hp) (v : V) (u : Value) (Q : St → Hp → Prop), Inv X pins σ H s → RelV v u → t v σ H Q →
    wpAny (model X.prog X.w) X.A (assign target X.env u) (fun _ s' => ∃ σ' H', Inv X pins σ' H' s' ∧ Q σ' H') X.xe s
/-- several targets, one after another -/
def PGs (X : Cx) (ts : List Expr) (t : TGs) : Prop :=
  ∀ (pins : List (Addr × Obj)) (s : Shared) (σ : St) (H : Hp) (vs : List V) (us : List Value) (Q : St → Hp → Prop), Inv X pins σ H s → Vals vs us → t vs σ H Q →
    wpAny (model X.prog X.w) X.A (assignInOrder ((assignEach ts X.env).map (·.2)) us) (fun _ s' => ∃ σ' H', Inv X pins σ' H' s' ∧ Q σ' H') X.xe s
/-- o[i] = v, by values -/
abbrev TSet := V → V → V → Hp → (Hp → Prop) → Prop
def PSet (X : Cx) (t : TSet) : Prop :=
  ∀ (pins : List (Addr × Obj)) (s : Shared) (σ : St) (H : Hp) (o i v : V) (ov iv u : Value) (Q : Hp → Prop), Inv X pins σ H s → RelV o ov → RelV i iv → RelV v u → t o i v H Q →
    wpAny (model X.prog X.w) X.A (setItem ov iv u) (fun _ s' => ∃ H', Inv X pins σ H' s' ∧ Q H') X.xe s
section
variable {X : Cx} {pos : Pos}
def gName (i : Nat) : TG := fun v σ H Q => Q (σ.set i (some v)) H
theorem pg_name {i : Nat} {x : Str} (hN : X.N.Nodup) (hi : X.N[i]? = some x) (hx : Loc X.env.scope x) (hf : X.fn x = true ∨ X.env.scope.names.lookup x = some .local := by first | exact .inl rfl | exact .inr rfl | assumption) : PG X (.Name x pos) (gName i) := by
  intro pins s σ H v u Q I r h
  exact wpAny_assign_Name (store_ok I hN hi hx r (fun s' I' => ⟨_, H, I', h⟩) hf)
def gNil : TGs := fun vs σ H Q => vs = [] ∧ Q σ H
def gCons (t : TG) (u : TGs) : TGs := fun vs σ H Q => ∃ v r, vs = v :: r ∧ t v σ H fun σ' H' => u r σ' H' Q
theorem pgs_nil : PGs X [] gNil := by
  intro pins s σ H vs us Q I r h
  obtain ⟨e, h⟩ := h
  subst e
  cases r
  exact assignInOrder_nil ⟨σ, H, I, h⟩
theorem pgs_cons {e : Expr} {es : List Expr} {t : TG} {u : TGs} (h1 : PG X e t) (h2 : PGs X es u)
    (hs : (assignEach (e :: es) X.env).map (·.2) = assign e X.env :: (assignEach es X.env).map (·.2) := by rfl) : PGs X (e :: es) (gCons t u) := by
  intro pins s σ H vs us Q I r h
  obtain ⟨v, vr, e1, h⟩ := h
  subst e1
  cases r with
  | cons r rr =>
    rw [hs]
    refine assignInOrder_cons (thn (h1 pins s σ H _ _ _ I r h) fun _ s1 ⟨σ1, H1, I1, q1⟩ => ?_)
    exact h2 pins s1 σ1 H1 _ _ Q I1 rr q1
/-- (a, b, ..) = a tuple of that length -/
def gTup (K : PySem.W.Frag) (n : Nat) (t : TGs) : TG := fun v σ H Q => ∃ a xs, v = .ref a ∧ SqT K H a xs ∧ xs.length = n ∧ t xs σ H Q
theorem pg_tup {es : List Expr} {k : Nat} {t : TGs} {n : Nat} (hc : X.calm = true) (h : PGs X es t)
    (hn : (assignEach es X.env).length = n := by rfl) (hst : (assignEach es X.env).findIdx? (·.1) = none := by rfl) : PG X (.Tuple es k pos) (gTup X.K n t) := by
  intro pins s σ H v u Q I r hw
  obtain ⟨a, xs, e1, hq, hl, hw⟩ := hw
  subst e1
  cases r
  obtain ⟨its, rv, ht, hz⟩ := I.tuple hq
  refine assign_Tuple_tuple (I.ok.hd hc) ht (by simp [hn, ← hl, rv.length]) hst fun h' hx => ?_
  have I1 : Inv X pins σ H { s with heap := h' } := I.kept (t' := s.toks) fun b o e => hx b o (Nat.ne_of_lt (Heap.lt_size e)) e
  exact h pins _ σ H xs _ Q I1 (by simpa using rv) hw
/-- o[i] = .. -/
def gSub (to ti : TE) (t : TSet) : TG := fun v σ H Q => to σ H fun o H1 => ti σ H1 fun i H2 => t o i v H2 fun H3 => Q σ H3
theorem pg_sub {o i : Expr} {to ti : TE} {t : TSet} (ho : PE X o to) (hi : PE X i ti) (hs : PSet X t)
    (ha : ∀ v, assign (.Subscript o i pos) X.env v = (do
      let ov ← holding [v] (eval o X.env)
      let iv ← holding [v, ov] (eval i X.env)
      standAt pos
      holding [v, ov, iv] (setItem ov iv v)
      release [v, ov, iv] []) := by intro _; rfl) : PG X (.Subscript o i pos) (gSub to ti t) := by
  intro pins s σ H v u Q I r h
  rw [ha]
  refine wpAny_bind (wpAny_holding (thn (ho pins s σ H _ I h) fun ov s1 ⟨x, H1, I1, r1, q1⟩ => ?_))
  refine wpAny_bind (wpAny_holding (thn (hi pins s1 σ H1 _ I1 q1) fun iv s2 ⟨y, H2, I2, r2, q2⟩ => ?_))
  refine wpAny_bind (wpAny_standAt (wpAny_bind (wpAny_holding (thn (hs pins s2 σ H2 x y v ov iv u _ I2 r1 r2 r q2) fun _ s3 ⟨H3, I3, q3⟩ => ?_))))
  exact wpAny_release ⟨σ, H3, I3, q3⟩
/-- target = value -/
def tAsg (te : TE) (g : TG) : TS := fun D σ H => te σ H fun x H1 => g x σ H1 D.nx
theorem ps_asg {tg e : Expr} {te : TE} {g : TG} (he : PE X e te) (hg : PG X tg g) (hs : swapsWithSole [tg] e pos.line X.env = pure false := by rfl) (hw : swappedStores [tg] e X.env = pure none := by rfl)
    (h1 : (assignEach [tg] X.env).map (·.2) = [assign tg X.env] := by rfl) : PS X (.Assign [tg] e pos) (tAsg te g) := by
  intro pins s σ H D I h
  refine wpAny_Assign_stores (thn (he pins s σ H _ I h) fun v s1 ⟨x, H1, I1, r1, q1⟩ => ?_) hs hw
  rw [h1]
  exact thn (hg pins s1 σ H1 x v _ I1 r1 q1) fun _ s2 q => q
/-- name = value -/
theorem ps_set {i : Nat} {x : Str} {e : Expr} {te : TE} {pos' : Pos} (hN : X.N.Nodup) (hi : X.N[i]? = some x) (hx : Loc X.env.scope x) (he : PE X e te) (hs : swapsWith e (some (.Name x pos')) pos.line X.env = pure false := by rfl) (hf : X.fn x = true ∨ X.env.scope.names.lookup x = some .local := by first | exact .inl rfl | exact .inr rfl | assumption) :
    PS X (.Assign [.Name x pos'] e pos) (tAsg te (gName i)) := by
  intro pins s σ H D I h
  refine wpAny_Assign_Name (thn (he pins s σ H _ I h) fun v s1 ⟨y, H1, I1, r1, q1⟩ => ?_) hs
  exact store_ok I1 hN hi hx r1 (fun s2 I2 => ⟨_, H1, I2, q1⟩) hf
end

/-! ### while -/
section
variable {X : Cx} {pos : Pos}
end

/-! ### what a loop or a comprehension walks -/
/-- at turn i: it yields x (the heap may grow), or it stops -/
structure It where
  go : Nat → Hp → Prop
  yld : Nat → Hp → V → Hp → Prop
  stop : Nat → Hp → Prop
/-- the iterator's own objects may turn: they are not the frame's, not pinned, younger than the entry (or a comprehension's own) -/
def FpOk (X : Cx) (pins : List (Addr × Obj)) (H : Hp) (b : Addr) : Prop :=
  H b = none ∧ b ≠ X.env.locals ∧ b ∉ X.fs ∧ (b ∈ X.ex ∨ X.s₀.heap.objs.size ≤ b) ∧ (∀ x c, X.env.cells.lookup x = some c → c ≠ b) ∧ ∀ p ∈ X.pn ++ pins, p.1 ≠ b
theorem Inv.fpOk {X : Cx} {pins : List (Addr × Obj)} {σ : St} {H H' : Hp} {s : Shared} {b : Addr} (I : Inv X pins σ H s) (hb : s.heap.objs.size ≤ b) (hn : H' b = none) : FpOk X pins H' b := by
  refine ⟨hn, Nat.ne_of_gt (Nat.lt_of_lt_of_le I.lt hb), I.nofs hb, .inr (Nat.le_trans I.sz hb), fun x c e z => ?_, fun p hp z => ?_⟩
  · obtain ⟨v, q⟩ := I.cell x c e
    exact absurd (Nat.lt_of_lt_of_le q.lt (by rw [z]; exact hb)) (Nat.lt_irrefl _)
  · exact absurd (Nat.lt_of_lt_of_le (Heap.lt_size (I.pin p hp).1) (by rw [z]; exact hb)) (Nat.lt_irrefl _)
structure Turn (P : Program) (w : World) (K : PySem.W.Frag) (tg : Expr) (J : It) (fp : List Addr) (it : Addr) (tn : Nat → Heap → Prop) : Prop where
  mem : it ∈ fp
  obj : ∀ i h, tn i h → ∀ b ∈ fp, ∃ o, h.get? b = some o ∧ ∀ v, o.data ≠ .cell v
  keep : ∀ i h h', tn i h → (∀ b ∈ fp, ∀ o, h.get? b = some o → h'.get? b = some o) → tn i h'
  item : ∀ (X : Cx), X.prog = P → X.w = w → X.K = K → X.calm = true → ∀ (i : Nat) (pins : List (Addr × Obj)) (s : Shared) (σ : St) (H : Hp) (E : Value → Shared → Prop), Inv X pins σ H s → (∀ b ∈ fp, FpOk X pins H b) → tn i s.heap → J.go i H →
    wpAny (model P w) X.A (pyNext (.ref it)) (fun r s1 => ∃ u, r = some u ∧
      wpAny (model P w) X.A (letOwnedTupleGo tg (.ref it) u) (fun _ s2 => ∃ x H', Inv X pins σ H' s2 ∧ RelV x u ∧ J.yld i H x H' ∧ tn (i + 1) s2.heap ∧ ∀ b ∈ fp, H' b = none) E s1) E s
  done : ∀ (X : Cx), X.prog = P → X.w = w → X.K = K → X.calm = true → ∀ (i : Nat) (pins : List (Addr × Obj)) (s : Shared) (σ : St) (H : Hp) (E : Value → Shared → Prop), Inv X pins σ H s → (∀ b ∈ fp, FpOk X pins H b) → tn i s.heap → J.stop i H →
    wpAny (model P w) X.A (pyNext (.ref it)) (fun r s1 => r = none ∧ Inv X pins σ H s1) E s
  self : ∀ (A : Around) (i : Nat) (s : Shared) (Q : Value → Shared → Prop) (E : Value → Shared → Prop), tn i s.heap → Q (.ref it) s → wpAny (model P w) A (pyIter (.ref it)) Q E s
abbrev TI := St → Hp → (It → Hp → Prop) → Prop
/-- an iterator has come -/
def PIE (X : Cx) (pins : List (Addr × Obj)) (σ : St) (tg : Expr) (R : It → Hp → Prop) (itv : Value) (s2 : Shared) : Prop :=
  ∃ (it : Addr) (fp : List Addr) (tn : Nat → Heap → Prop) (J : It) (H' : Hp), itv = .ref it ∧ Inv X pins σ H' s2 ∧ Turn X.prog X.w X.K tg J fp it tn ∧ tn 0 s2.heap ∧ (∀ b ∈ fp, FpOk X pins H' b) ∧ R J H'
def PI (X : Cx) (tg iter : Expr) (wi : TI) : Prop :=
  ∀ (pins : List (Addr × Obj)) (s : Shared) (σ : St) (H : Hp) (R : It → Hp → Prop), Inv X pins σ H s → wi σ H R →
    wpAny (model X.prog X.w) X.A (eval iter X.env) (fun v s1 => wpAny (model X.prog X.w) X.A (pyIter v) (PIE X pins σ tg R) X.xe s1) X.xe s

/-- the step ahead of the store is nothing for an iterator that keeps no tuple -/
theorem go_of {M : Model} {A : Around} {E : Value → Shared → Prop} {s : Shared} {tg : Expr} {it : Addr} {u : Value} {o : Obj} {n : String} {vs : Array Value} {Q : Unit → Shared → Prop} (ho : s.heap.get? it = some o) (hc : o.cls = .type n) (hd : o.data = .fields vs)
    (hn : ["enumerate", "zip", "dict_itemiterator", "dict_reverseitemiterator", "odict_iterator", "itertools.zip_longest", "itertools.pairwise"].contains n = false) (hQ : Q () s) : wpAny M A (letOwnedTupleGo tg (.ref it) u) Q E s := by
  unfold letOwnedTupleGo
  cases tg <;> first
    | exact wpAny_pure hQ
    | (cases u <;> first
        | exact wpAny_pure hQ
        | (refine wpAny_bind (wpAny_load ho ?_)
           rw [hc, hd]
           show wpAny M A (if (["enumerate", "zip", "dict_itemiterator", "dict_reverseitemiterator", "odict_iterator", "itertools.zip_longest", "itertools.pairwise"].contains n && vs[0]? == some (rawInt _)) = true then _ else _) Q E s
           rw [if_neg (by intro h; rw [hn, Bool.false_and] at h; cases h)]
           exact wpAny_pure hQ))

/-- the list at a, as it stands at each turn (a loop may append to it) -/
def Itl (K : PySem.W.Frag) (a : Addr) : It :=
  ⟨fun i H => ∃ xs x, SqL K H a xs ∧ xs[i]? = some x, fun i H x H' => H' = H ∧ ∀ xs, SqL K H a xs → xs[i]? = some x, fun i H => ∃ xs, SqL K H a xs ∧ xs.length ≤ i⟩
/-- lo, lo + 1, .. (n of them) -/
def Itr (lo : Int) (n : Nat) : It := ⟨fun i _ => i < n, fun i H x H' => H' = H ∧ x = .int (lo + i), fun i _ => n ≤ i⟩
theorem turn_list {P : Program} {w : World} {K : PySem.W.Frag} {tg : Expr} (a it : Addr) : Turn P w K tg (Itl K a) [it] it (fun i h => h.IsListIter it a i) where
  mem := by simp
  obj := fun i h st b hb => by
    have e : b = it := by simpa using hb
    subst e
    obtain ⟨o, e, c, d⟩ := st
    exact ⟨o, e, fun v z => by rw [d] at z; cases z⟩
  keep := fun i h h' st k => st.at fun o e => k it (by simp) o e
  item := by
    intro X hP hw hK hc i pins s σ H E I hf st hg
    subst hP hw hK
    obtain ⟨xs, x, hq, hx⟩ := hg
    obtain ⟨its, rv, p, hz⟩ := I.list hq
    obtain ⟨u, hu, ru⟩ := rv.get hx
    obtain ⟨f0, f1, f2, f3, f4, f5⟩ := hf it (by simp)
    refine wpAny_pyNext_list_item st p.isList (x := u) (by simpa using hu) fun h' st' sb => ?_
    have I1 : Inv X pins σ H { s with heap := h' } := I.turned (t' := s.toks) (fun b o hb e => (sb.2 b hb).trans e) f0 f1 f3 f4 f5
    obtain ⟨o, e, c, d⟩ := id st'
    exact ⟨u, rfl, go_of (s := { s with heap := h' }) e c d (by decide) ⟨x, H, I1, ru, ⟨rfl, fun ys hy => by rw [I.list_inj hy hq]; exact hx⟩, st', fun b hb => (hf b hb).1⟩⟩
  done := by
    intro X hP hw hK hc i pins s σ H E I hf st hg
    subst hP hw hK
    obtain ⟨xs, hq, hx⟩ := hg
    obtain ⟨its, rv, p, hz⟩ := I.list hq
    obtain ⟨f0, f1, f2, f3, f4, f5⟩ := hf it (by simp)
    have hl := rv.length
    exact wpAny_pyNext_list_end (I.ok.hd hc) st p.isList (by simp; omega) fun h' eb => ⟨rfl, I.turned (t' := s.toks) (fun b o hb e => eb b o hb e) f0 f1 f3 f4 f5⟩
  self := fun _ _ _ _ _ st h => wpAny_pyIter_listiter st h
theorem turn_range {P : Program} {w : World} {K : PySem.W.Frag} {tg : Expr} (it : Addr) (lo : Int) (n : Nat) : Turn P w K tg (Itr lo n) [it] it (fun i h => IsRangeIter h it (lo + (i : Nat) * 1) ((n : Int) - (i : Nat)) 1) where
  mem := by simp
  obj := fun i h st b hb => by
    have e : b = it := by simpa using hb
    subst e
    exact ⟨_, st, fun v z => by
      have z' : Data.fields _ = Data.cell v := z
      cases z'⟩
  keep := fun i h h' st k => k it (by simp) _ st
  item := by
    intro X hP hw hK hc i pins s σ H E I hf st hg
    subst hP hw hK
    obtain ⟨f0, f1, f2, f3, f4, f5⟩ := hf it (by simp)
    have W := Walks.range (prog := X.prog) (w := X.w) (I.ok.hd hc) it lo 1 n
    refine W.item i s _ _ hg st fun v h' tk hv st' kk => ?_
    obtain ⟨t, rfl⟩ := hv
    have I1 : Inv X pins σ H { s with heap := h', toks := tk } := I.turned (fun b o hb e => kk b o (by simpa using hb) e) f0 f1 f3 f4 f5
    refine ⟨_, rfl, go_of (s := { s with heap := h', toks := tk }) (n := "range_iterator") st' rfl rfl (by decide) ⟨.int (lo + i), H, I1, ⟨t, ?_⟩, ⟨rfl, rfl⟩, st', fun b hb => (hf b hb).1⟩⟩
    rw [Int.mul_one]
  done := by
    intro X hP hw hK hc i pins s σ H E I hf st hg
    subst hP hw hK
    obtain ⟨f0, f1, f2, f3, f4, f5⟩ := hf it (by simp)
    exact wpAny_pyNext_range_end (I.ok.hd hc) st (by have : n ≤ i := hg; omega) fun h' eb => ⟨rfl, I.turned (t' := s.toks) (fun b o hb e => eb b o hb e) f0 f1 f3 f4 f5⟩
  self := fun _ _ _ _ _ st h => wpAny_pyIter_rangeiter st h
end L2

namespace L2
open PySem PySem.Spec PyProof.Rows
section
variable {X : Cx} {tg : Expr}
def iList (K : PySem.W.Frag) (tl : TE) : TI := fun σ H R => tl σ H fun x H1 => ∃ a, x = .ref a ∧ (∃ xs, SqL K H1 a xs) ∧ R (Itl K a) H1
theorem pi_list {l : Expr} {tl : TE} (hl : PE X l tl) : PI X tg l (iList X.K tl) := by
  intro pins s σ H R I h
  refine thn (hl pins s σ H _ I h) fun v s1 ⟨x, H1, I1, r1, q1⟩ => ?_
  obtain ⟨a, e, ⟨xs, hq⟩, q⟩ := q1
  subst e
  cases r1
  obtain ⟨its, rv, p, hz⟩ := I1.list hq
  refine wpAny_pyIter_list p.isList ?_
  refine ⟨s1.heap.objs.size, [s1.heap.objs.size], _, _, H1, rfl, I1.kept (t' := s1.toks) fun b o e => Heap.get?_push_of_some _ e, turn_list a _, ⟨_, Heap.get?_push_size _ rfl, rfl, rfl⟩, fun b hb => ?_, q⟩
  have e : b = s1.heap.objs.size := by simpa using hb
  subst e
  exact I1.fpOk (Nat.le_refl _) (I1.hok.fresh (Nat.le_refl _))
/-- a range object just made, walked -/
theorem range_it {pins : List (Addr × Obj)} {σ : St} {H : Hp} {s : Shared} {R : It → Hp → Prop} {E : Value → Shared → Prop} {lo hi : Int} {t u v : Tok} {tk : Nat} (I : Inv X pins σ H s) (h1 : -(2 ^ 62) ≤ lo) (h2 : lo < 2 ^ 62) (h3 : -(2 ^ 62) ≤ hi) (h4 : hi < 2 ^ 62)
    (q : R (Itr lo (hi - lo).toNat) H) : wpAny (model X.prog X.w) X.A (pyIter (.ref s.heap.objs.size)) (PIE X pins σ tg R) E { s with heap := s.heap.push { cls := .type "range", data := .fields #[.int lo t, .int hi u, .int 1 v] }, toks := tk } := by
  refine wpAny_pyIter_range (IsRange.new ..) (small_one h1 h2 h3 h4) ?_
  have I1 : Inv X pins σ H { s with heap := s.heap.push { cls := .type "range", data := .fields #[.int lo t, .int hi u, .int 1 v] }, toks := tk } := I.kept fun b o e => Heap.get?_push_of_some _ e
  refine ⟨(s.heap.push { cls := .type "range", data := .fields #[.int lo t, .int hi u, .int 1 v] }).objs.size, [(s.heap.push { cls := .type "range", data := .fields #[.int lo t, .int hi u, .int 1 v] }).objs.size], _, _, H, rfl,
    I1.kept (t' := tk) fun b o e => Heap.get?_push_of_some _ e, turn_range _ lo (hi - lo).toNat, ?_, fun b hb => ?_, q⟩
  · have e1 : lo + ((0 : Nat) : Int) * 1 = lo := by simp
    have e2 : (((hi - lo).toNat : Nat) : Int) - ((0 : Nat) : Int) = Builtin.Range.rangeSize lo hi 1 := by rw [rangeSize_one]; split <;> omega
    show IsRangeIter _ _ (lo + ((0 : Nat) : Int) * 1) ((((hi - lo).toNat : Nat) : Int) - ((0 : Nat) : Int)) 1
    rw [e1, e2]
    exact Heap.get?_push_size _ rfl
  · have e : b = (s.heap.push { cls := .type "range", data := .fields #[.int lo t, .int hi u, .int 1 v] }).objs.size := by simpa using hb
    subst e
    exact I1.fpOk (Nat.le_refl _) (I1.hok.fresh (Nat.le_refl _))
def iRng1 (ta : TA) : TI := fun σ H R => ta σ H fun vs H1 => ∃ j : Int, vs = [.int j] ∧ -(2 ^ 62) ≤ j ∧ j < 2 ^ 62 ∧ R (Itr 0 j.toNat) H1
def iRng2 (ta : TA) : TI := fun σ H R => ta σ H fun vs H1 => ∃ i j : Int, vs = [.int i, .int j] ∧ (-(2 ^ 62) ≤ i ∧ i < 2 ^ 62 ∧ -(2 ^ 62) ≤ j ∧ j < 2 ^ 62) ∧ R (Itr i (j - i).toNat) H1
theorem pi_range1 {a : Expr} {ta : TA} {p pos : Pos} (hg : Gl X "range") (hm : X.mg "range" = none) (ha : PA X [a] ta) (hs : starEach [a] X.env = [(false, eval a X.env)] := by rfl) : PI X tg (.Call (.Name "range" p) [a] [] pos) (iRng1 ta) := by
  intro pins s σ H R I h
  refine Call_ (ld_blt I hg hm boot_range (PyProof.Rows.callWith_type1 (thn (ha pos pins s σ H _ I h) fun us s1 ⟨vs, H1, I1, r1, q1⟩ => ?_) hs rfl))
  obtain ⟨j, e, q1, q2, q⟩ := q1
  subst e
  cases r1 with
  | cons r rr =>
    cases rr
    obtain ⟨t, rfl⟩ := r
    exact call_range_1 (range_it I1 (by omega) (by omega) q1 q2 (by simpa using q))
theorem pi_range2 {a b : Expr} {ta : TA} {p pos : Pos} (hg : Gl X "range") (hm : X.mg "range" = none) (ha : PA X [a, b] ta) (hs : starEach [a, b] X.env = [(false, eval a X.env), (false, eval b X.env)] := by rfl) (hs2 : starEach [b] X.env = [(false, eval b X.env)] := by rfl) :
    PI X tg (.Call (.Name "range" p) [a, b] [] pos) (iRng2 ta) := by
  intro pins s σ H R I h
  refine Call_ (ld_blt I hg hm boot_range (PyProof.Rows.callWith_type1 (thn (ha pos pins s σ H _ I h) fun us s1 ⟨vs, H1, I1, r1, q1⟩ => ?_) (by rw [hs, hs2]) (by rw [hs2]; rfl)))
  obtain ⟨i, j, e, ⟨q1, q2, q3, q4⟩, q⟩ := q1
  subst e
  cases r1 with
  | cons r rr =>
    cases rr with
    | cons r' rr =>
      cases rr
      obtain ⟨t, rfl⟩ := r
      obtain ⟨t', rfl⟩ := r'
      exact call_range_2 (range_it I1 q1 q2 q3 q4 q)

/-! ### for -/
/-- W: the invariant by the turn and a measure; N: what the body is to reach -/
def tFor (wi : TI) (g : TG) (tb : TS) : TS := fun D σ H => wi σ H fun J H1 => ∃ W : Nat → Nat → St → Hp → Prop, (∃ m, W 0 m σ H1) ∧ ∀ i m σ H, W i m σ H →
  (J.stop i H ∧ D.nx σ H) ∨ (J.go i H ∧ ∃ N : St → Hp → Prop, (∀ σ' H', N σ' H' → ∃ m', m' < m ∧ W (i + 1) m' σ' H') ∧ ∀ x H', J.yld i H x H' → g x σ H' fun σ2 H2 => tb { D with nx := N, ct := N, bk := D.nx } σ2 H2)
/-- the records at fp as they stand -/
def pinsAt (fp : List Addr) (h : Heap) : List (Addr × Obj) := fp.filterMap fun b => (h.get? b).map fun o => (b, o)
theorem mem_pinsAt {fp : List Addr} {h : Heap} {b : Addr} {o : Obj} (hb : b ∈ fp) (e : h.get? b = some o) : (b, o) ∈ pinsAt fp h := List.mem_filterMap.mpr ⟨b, hb, by rw [e]; rfl⟩
theorem of_pinsAt {fp : List Addr} {h : Heap} {p : Addr × Obj} (hp : p ∈ pinsAt fp h) : p.1 ∈ fp ∧ h.get? p.1 = some p.2 := by
  obtain ⟨b, hb, e⟩ := List.mem_filterMap.mp hp
  cases q : h.get? b with
  | none => rw [q] at e; cases e
  | some o =>
    rw [q] at e
    have e' : (b, o) = p := Option.some.inj e
    subst e'
    exact ⟨hb, q⟩
theorem Inv.pinned {pins : List (Addr × Obj)} {σ : St} {H : Hp} {s : Shared} {fp : List Addr} (I : Inv X pins σ H s) (hf : ∀ b ∈ fp, FpOk X pins H b) (ho : ∀ b ∈ fp, ∃ o, s.heap.get? b = some o ∧ ∀ v, o.data ≠ .cell v) : Inv X (pins ++ pinsAt fp s.heap) σ H s :=
  I.pins_of fun p hp => (List.mem_append.mp hp).elim (fun z => I.pin p (List.mem_append_right _ z)) fun z => by
    obtain ⟨hb, e⟩ := of_pinsAt z
    obtain ⟨f0, f1, f2, _⟩ := hf p.1 hb
    obtain ⟨o, e', d⟩ := ho p.1 hb
    rw [e] at e'; cases e'
    exact ⟨e, f0, f1, f2, d⟩
theorem Inv.unpinned {pins pl : List (Addr × Obj)} {σ : St} {H : Hp} {s : Shared} (I : Inv X (pins ++ pl) σ H s) : Inv X pins σ H s := I.pins_of fun p hp => I.pin p (List.mem_append_right _ (List.mem_append_left _ hp))
theorem ps_for {iter : Expr} {body : List Stmt} {wi : TI} {g : TG} {tb : TS} {pos : Pos} (hp : PassesOwn (model X.prog X.w) X.A X.env X.xe) (hc : X.calm = true) (hi : PI X tg iter wi) (hg : PG X tg g) (hb : PSs X body tb)
    (hs : ∀ x, foldedSetIterable iter X.env x = pure x := by intro _; rfl) : PS X (.For tg iter body [] pos) (tFor wi g tb) := by
  intro pins s σ H D I h
  refine wpAny_For (thn (hi pins s σ H _ I h) fun v s1 h1 => thn h1 fun itv s2 h2 => ?_) hs
  obtain ⟨it, fp, tn, J, H2, e, I2, T, st2, f2, W, ⟨m0, w0⟩, turn⟩ := h2
  subst e
  -- what stays true of the iterator's objects through the loop
  have stat : ∀ {H' : Hp}, (∀ b ∈ fp, H' b = none) → ∀ b ∈ fp, FpOk X pins H' b := fun hn b hb => ⟨hn b hb, (f2 b hb).2⟩
  refine codeAny_forLoop_any (fun n s' => ∃ i σ' H', Inv X pins σ' H' s' ∧ tn i s'.heap ∧ (∀ b ∈ fp, H' b = none) ∧ W i n σ' H') ?_ m0 ⟨0, σ, H2, I2, st2, fun b hb => (f2 b hb).1, w0⟩
  rintro n s3 ⟨i, σ3, H3, I3, st3, fr3, w3⟩
  rcases turn i n σ3 H3 w3 with ⟨stop, qn⟩ | ⟨go, N, hN, step⟩
  · refine wpAny_passesOwn hp (thn (T.done X rfl rfl rfl hc i pins s3 σ3 H3 X.xe I3 (stat fr3) st3 stop) fun r s4 ⟨hr, I4⟩ => ?_)
    subst hr
    exact wpAny_execs_nil ⟨σ3, H3, I4, qn⟩
  · refine wpAny_passesOwn hp (thn (T.item X rfl rfl rfl hc i pins s3 σ3 H3 X.xe I3 (stat fr3) st3 go) fun r s4 ⟨u, hr, h4⟩ => ?_)
    subst hr
    refine wpAny_passesOwn hp (thn h4 fun _ s5 ⟨x, H5, I5, r5, y5, st5, fr5⟩ => ?_)
    have I5' := I5.pinned (stat fr5) (T.obj _ _ st5)
    refine wpAny_passesOwn hp (thn (hg _ s5 σ3 H5 x u _ I5' r5 (step x H5 y5)) fun _ s6 ⟨σ6, H6, I6, q6⟩ => ?_)
    refine wpAny_passesOwn hp (thn (hb _ s6 σ6 H6 _ I6 q6) fun f s7 q7 => ?_)
    have again : ∀ {σ7 : St} {H7 : Hp}, Inv X (pins ++ pinsAt fp s5.heap) σ7 H7 s7 → N σ7 H7 → ∃ m, m < n ∧ ∃ i σ' H', Inv X pins σ' H' s7 ∧ tn i s7.heap ∧ (∀ b ∈ fp, H' b = none) ∧ W i m σ' H' := fun {σ7 H7} I7 n7 => by
      obtain ⟨m', hm, w7⟩ := hN σ7 H7 n7
      refine ⟨m', hm, i + 1, σ7, H7, I7.unpinned, T.keep _ _ _ st5 fun b hb o e => (I7.pin (b, o) (List.mem_append_right _ (List.mem_append_right _ (mem_pinsAt hb e)))).1, fun b hb => ?_, w7⟩
      obtain ⟨o, e, d⟩ := T.obj _ _ st5 b hb
      exact (I7.pin (b, o) (List.mem_append_right _ (List.mem_append_right _ (mem_pinsAt hb e)))).2.1
    cases f with
    | next => obtain ⟨σ7, H7, I7, n7⟩ := q7; exact again I7 n7
    | cont => obtain ⟨σ7, H7, I7, n7⟩ := q7; exact again I7 n7
    | brk => obtain ⟨σ7, H7, I7, q7⟩ := q7; exact ⟨σ7, H7, I7.unpinned, q7⟩
    | ret v => obtain ⟨x7, σ7, H7, I7, r7, q7⟩ := q7; exact ⟨x7, σ7, H7, I7.unpinned, r7, q7⟩
end

/-! ### the forms one uses -/
/-- over a list that the body leaves as it is -/
theorem for_list {K : PySem.W.Frag} {a : Addr} {xs : List V} {g : TG} {tb : TS} {D : Ends} {σ : St} {H : Hp} (Pv : Nat → St → Hp → Prop) (h0 : Pv 0 σ H) (hl : ∀ i σ H, i ≤ xs.length → Pv i σ H → SqL K H a xs)
    (hs : ∀ i x σ H, xs[i]? = some x → Pv i σ H → g x σ H fun σ2 H2 => tb { D with nx := Pv (i + 1), ct := Pv (i + 1), bk := D.nx } σ2 H2) (hd : ∀ σ H, Pv xs.length σ H → D.nx σ H) :
    ∃ W : Nat → Nat → St → Hp → Prop, (∃ m, W 0 m σ H) ∧ ∀ i m σ H, W i m σ H →
      ((Itl K a).stop i H ∧ D.nx σ H) ∨ ((Itl K a).go i H ∧ ∃ N : St → Hp → Prop, (∀ σ' H', N σ' H' → ∃ m', m' < m ∧ W (i + 1) m' σ' H') ∧ ∀ x H', (Itl K a).yld i H x H' → g x σ H' fun σ2 H2 => tb { D with nx := N, ct := N, bk := D.nx } σ2 H2) := by
  refine ⟨fun i m σ H => m = xs.length - i ∧ i ≤ xs.length ∧ Pv i σ H, ⟨xs.length, by simp, Nat.zero_le _, h0⟩, ?_⟩
  rintro i m σ H ⟨rfl, hi, p⟩
  have q := hl i σ H hi p
  by_cases hlt : i < xs.length
  · refine .inr ⟨⟨xs, xs[i], q, by simp [hlt]⟩, Pv (i + 1), fun σ' H' p' => ⟨xs.length - (i + 1), by omega, rfl, hlt, p'⟩, fun x H' y => ?_⟩
    obtain ⟨e, y⟩ := y
    subst e
    exact hs i x σ _ (y xs q) p
  · have e : i = xs.length := by omega
    subst e
    exact .inl ⟨⟨xs, q, Nat.le_refl _⟩, hd σ H p⟩
theorem for_range {lo : Int} {n : Nat} {g : TG} {tb : TS} {D : Ends} {σ : St} {H : Hp} (Pv : Nat → St → Hp → Prop) (h0 : Pv 0 σ H)
    (hs : ∀ i σ H, i < n → Pv i σ H → g (.int (lo + i)) σ H fun σ2 H2 => tb { D with nx := Pv (i + 1), ct := Pv (i + 1), bk := D.nx } σ2 H2) (hd : ∀ σ H, Pv n σ H → D.nx σ H) :
    ∃ W : Nat → Nat → St → Hp → Prop, (∃ m, W 0 m σ H) ∧ ∀ i m σ H, W i m σ H →
      ((Itr lo n).stop i H ∧ D.nx σ H) ∨ ((Itr lo n).go i H ∧ ∃ N : St → Hp → Prop, (∀ σ' H', N σ' H' → ∃ m', m' < m ∧ W (i + 1) m' σ' H') ∧ ∀ x H', (Itr lo n).yld i H x H' → g x σ H' fun σ2 H2 => tb { D with nx := N, ct := N, bk := D.nx } σ2 H2) := by
  refine ⟨fun i m σ H => m = n - i ∧ i ≤ n ∧ Pv i σ H, ⟨n, by simp, Nat.zero_le _, h0⟩, ?_⟩
  rintro i m σ H ⟨rfl, hi, p⟩
  by_cases hlt : i < n
  · refine .inr ⟨hlt, Pv (i + 1), fun σ' H' p' => ⟨n - (i + 1), by omega, rfl, hlt, p'⟩, fun x H' y => ?_⟩
    obtain ⟨e, y⟩ := y
    subst e y
    exact hs i σ _ hlt p
  · have e : i = n := by omega
    subst e
    exact .inl ⟨Nat.le_refl _, hd σ H p⟩
end L2

namespace L2
open PySem PySem.Spec PyProof.Rows

abbrev R2 := V → V → Hp → VK → Prop
/-- a two-place operation on values: f is binaryOp op, inplaceOp op or compareOp op -/
def OpR (X : Cx) (f : Value → Value → Sem Value) (r : R2) : Prop :=
  ∀ (pins : List (Addr × Obj)) (s : Shared) (σ : St) (H : Hp) (x y : V) (v u : Value) (Q : VK), Inv X pins σ H s → RelV x v → RelV y u → r x y H Q →
    wpAny (model X.prog X.w) X.A (f v u) (EP X pins σ Q) X.xe s
/-- a one-place operation -/
def UnR (X : Cx) (f : Value → Sem Value) (r : V → Hp → VK → Prop) : Prop :=
  ∀ (pins : List (Addr × Obj)) (s : Shared) (σ : St) (H : Hp) (x : V) (v : Value) (Q : VK), Inv X pins σ H s → RelV x v → r x H Q →
    wpAny (model X.prog X.w) X.A (f v) (EP X pins σ Q) X.xe s
/-- a call of a value that is known (a builtin, a type) with values -/
def CallR (X : Cx) (f : Value) (r : List V → Hp → VK → Prop) : Prop :=
  ∀ (pins : List (Addr × Obj)) (s : Shared) (σ : St) (H : Hp) (xs : List V) (us : List Value) (Q : VK), Inv X pins σ H s → Vals xs us → r xs H Q →
    wpAny (model X.prog X.w) X.A (call f us) (EP X pins σ Q) X.xe s

def tOp (r : R2) (ta tb : TE) : TE := fun σ H Q => ta σ H fun x H1 => tb σ H1 fun y H2 => r x y H2 Q
def tUn (r : V → Hp → VK → Prop) (ta : TE) : TE := fun σ H Q => ta σ H fun x H1 => r x H1 Q
/-- ints in, under C, and a value out -/
def rI (C : Int → Int → Prop) (g : Int → Int → V) : R2 := fun x y H Q => ∃ i j, x = .int i ∧ y = .int j ∧ C i j ∧ Q (g i j) H
def rI0 (g : Int → Int → V) : R2 := fun x y H Q => ∃ i j, x = .int i ∧ y = .int j ∧ Q (g i j) H
def rU (g : Int → V) : V → Hp → VK → Prop := fun x H Q => ∃ i, x = .int i ∧ Q (g i) H

section
variable {X : Cx} {a b c : Expr} {ta tb tc : TE} {pos : Pos}

theorem binT (ha : PE X a ta) (hb : PE X b tb) {pins : List (Addr × Obj)} {s : Shared} {σ : St} {H : Hp} {R : V → V → Hp → Prop} (I : Inv X pins σ H s)
    (h : ta σ H fun x H1 => tb σ H1 fun y H2 => R x y H2) {Q : Value → Shared → Prop} {f : Value → Value → Sem Value}
    (hf : ∀ v u s2 x y H2, Inv X pins σ H2 s2 → RelV x v → RelV y u → R x y H2 → wpAny (model X.prog X.w) X.A (f v u) Q X.xe s2) :
    wpAny (model X.prog X.w) X.A (eval a X.env) (fun v s₁ => wpAny (model X.prog X.w) X.A (eval b X.env) (fun u s₂ => wpAny (model X.prog X.w) X.A (f v u) Q X.xe s₂) X.xe s₁) X.xe s := by
  refine thn (ha pins s σ H _ I h) fun v s1 ⟨x, H1, I1, r1, q1⟩ => ?_
  refine thn (hb pins s1 σ H1 _ I1 q1) fun u s2 ⟨y, H2, I2, r2, q2⟩ => ?_
  exact hf v u s2 x y H2 I2 r1 r2 q2

theorem pe_op {op : Operator} {r : R2} (ho : OpR X (binaryOp op) r) (ha : PE X a ta) (hb : PE X b tb) : PE X (.BinOp a op b pos) (tOp r ta tb) := by
  intro pins s σ H Q I h
  exact wpAny_BinOp (binT ha hb I h fun v u s2 x y H2 I2 rx ry q => ho pins s2 σ H2 x y v u Q I2 rx ry q)
theorem pe_un {op : UnaryOp} {r : V → Hp → VK → Prop} (ho : UnR X (unaryOp op) r) (ha : PE X a ta) : PE X (.UnaryOp op a pos) (tUn r ta) := by
  intro pins s σ H Q I h
  exact UnaryOp_ (thn (ha pins s σ H _ I h) fun v s1 ⟨x, H1, I1, r1, q1⟩ => ho pins s1 σ H1 x v Q I1 r1 q1)

/-! ### ints -/
theorem opI {f : Value → Value → Sem Value} {C : Int → Int → Prop} {g : Int → Int → Int}
    (rule : ∀ (i j : Int) (t u : Tok) (s : Shared) (Q : Value → Shared → Prop) (E : Value → Shared → Prop), C i j → Q (.int (g i j) s.toks) { s with toks := s.toks + 1 } → wpAny (model X.prog X.w) X.A (f (.int i t) (.int j u)) Q E s) :
    OpR X f (rI C fun i j => .int (g i j)) := by
  intro pins s σ H x y v u Q I rx ry h
  obtain ⟨i, j, rfl, rfl, hc, q⟩ := h
  obtain ⟨t, rfl⟩ := rx
  obtain ⟨t', rfl⟩ := ry
  exact rule i j t t' s _ _ hc ⟨.int (g i j), H, I.tok _, ⟨_, rfl⟩, q⟩
theorem opI0 {f : Value → Value → Sem Value} {g : Int → Int → Int}
    (rule : ∀ (i j : Int) (t u : Tok) (s : Shared) (Q : Value → Shared → Prop) (E : Value → Shared → Prop), Q (.int (g i j) s.toks) { s with toks := s.toks + 1 } → wpAny (model X.prog X.w) X.A (f (.int i t) (.int j u)) Q E s) :
    OpR X f (rI0 fun i j => .int (g i j)) := by
  intro pins s σ H x y v u Q I rx ry h
  obtain ⟨i, j, rfl, rfl, q⟩ := h
  obtain ⟨t, rfl⟩ := rx
  obtain ⟨t', rfl⟩ := ry
  exact rule i j t t' s _ _ ⟨.int (g i j), H, I.tok _, ⟨_, rfl⟩, q⟩
theorem opB0 {f : Value → Value → Sem Value} {g : Int → Int → Bool}
    (rule : ∀ (i j : Int) (t u : Tok) (s : Shared) (Q : Value → Shared → Prop) (E : Value → Shared → Prop), Q (.bool (g i j)) s → wpAny (model X.prog X.w) X.A (f (.int i t) (.int j u)) Q E s) :
    OpR X f (rI0 fun i j => .bl (g i j)) := by
  intro pins s σ H x y v u Q I rx ry h
  obtain ⟨i, j, rfl, rfl, q⟩ := h
  obtain ⟨t, rfl⟩ := rx
  obtain ⟨t', rfl⟩ := ry
  exact rule i j t t' s _ _ ⟨.bl (g i j), H, I, rfl, q⟩

def CDiv (i j : Int) : Prop := 0 < j ∧ j < 1073741824
def CPow (i j : Int) : Prop := 0 ≤ j ∧ j ≤ 1000000 ∧ i.natAbs < 2 ^ 64
def CMul (i j : Int) : Prop := (-(2 ^ 64) < i ∧ i < 2 ^ 64) ∨ (-(2 ^ 64) < j ∧ j < 2 ^ 64)
theorem CMul.ok {i j : Int} (h : CMul i j) : IntMulOk i j := by
  rcases h with ⟨h1, h2⟩ | ⟨h1, h2⟩
  · exact .of_left (intBits_le_64 h1 h2)
  · exact .of_right (intBits_le_64 h1 h2)

theorem op_add : OpR X (binaryOp .Add) (rI0 fun i j => .int (i + j)) := opI0 fun _ _ _ _ _ _ _ q => add_int q
theorem op_sub : OpR X (binaryOp .Sub) (rI0 fun i j => .int (i - j)) := opI0 fun _ _ _ _ _ _ _ q => sub_int q
theorem op_mul : OpR X (binaryOp .Mult) (rI CMul fun i j => .int (i * j)) := opI fun _ _ _ _ _ _ _ hc q => mul_int q hc.ok
/-- // by a positive divisor -/
theorem op_fdiv : OpR X (binaryOp .FloorDiv) (rI CDiv fun i j => .int (i / j)) := opI fun i j _ _ _ _ _ hc q => by
  have h1 : (0 : Int) < j := hc.1
  have h2 : j < 1073741824 := hc.2
  exact floordiv_int (by omega) (by rw [Int.fdiv_eq_ediv_of_nonneg i (by omega)]; exact q) (.inl (PyProof.noPylong_small (by omega)))
/-- % by a positive divisor of any size -/
theorem op_mod : OpR X (binaryOp .Mod) (rI (fun _ j => 0 < j) fun i j => .int (i % j)) := opI fun i j _ _ _ _ _ hc q => by
  have h1 : (0 : Int) < j := hc
  exact mod_int' (by omega) (by rw [Int.fmod_eq_emod_of_nonneg i (by omega)]; exact q)
theorem op_pow : OpR X (binaryOp .Pow) (rI CPow fun i j => .int (i ^ j.toNat)) := opI fun _ _ _ _ _ _ _ hc q => pow_int_small hc.1 hc.2.1 hc.2.2 q
theorem op_and : OpR X (binaryOp .BitAnd) (rI0 fun i j => .int (Builtin.bitAnd i j)) := opI0 fun _ _ _ _ _ _ _ q => and_int q
theorem op_or : OpR X (binaryOp .BitOr) (rI0 fun i j => .int (Builtin.bitOr i j)) := opI0 fun _ _ _ _ _ _ _ q => or_int q


theorem unI {f : Value → Sem Value} {g : Int → Int}
    (rule : ∀ (i : Int) (t : Tok) (s : Shared) (Q : Value → Shared → Prop) (E : Value → Shared → Prop), Q (.int (g i) s.toks) { s with toks := s.toks + 1 } → wpAny (model X.prog X.w) X.A (f (.int i t)) Q E s) :
    UnR X f (rU fun i => .int (g i)) := by
  intro pins s σ H x v Q I rx h
  obtain ⟨i, rfl, q⟩ := h
  obtain ⟨t, rfl⟩ := rx
  exact rule i t s _ _ ⟨.int (g i), H, I.tok _, ⟨_, rfl⟩, q⟩
theorem un_neg : UnR X (unaryOp .USub) (rU fun i => .int (-i)) := unI fun _ _ _ _ _ q => neg_int q

/-! ### bools among ints: n += (a < b) -/
end

/-! ### comparisons -/
/-- the scalars that == tells apart as data does -/
def scal : V → V → Bool
  | .non, .non => true | .non, .int _ => true | .int _, .non => true | .non, .bl _ => true | .bl _, .non => true | .non, .str _ => true | .str _, .non => true
  | .int _, .int _ => true | .bl _, .bl _ => true | .str _, .str _ => true | .byt _, .byt _ => true
  | .int _, .str _ => true | .str _, .int _ => true | .bl _, .str _ => true | .str _, .bl _ => true
  | _, _ => false
def rEq : R2 := fun x y H Q => scal x y = true ∧ Q (.bl (decide (x = y))) H
def rNe : R2 := fun x y H Q => scal x y = true ∧ Q (.bl (!decide (x = y))) H

theorem dec_int {i j : Int} : decide (V.int i = V.int j) = (i == j) := by
  rw [Bool.eq_iff_iff]
  simp
theorem dec_bl {i j : Bool} : decide (V.bl i = V.bl j) = (i == j) := by
  rw [Bool.eq_iff_iff]
  simp
theorem dec_str {i j : Str} : decide (V.str i = V.str j) = (i == j) := by
  rw [Bool.eq_iff_iff]
  simp
theorem dec_byt {i j : Array UInt8} : decide (V.byt i = V.byt j) = (i.toList == j.toList) := by
  rw [Bool.eq_iff_iff]
  cases i
  cases j
  simp

section
variable {X : Cx} {a b c : Expr} {ta tb tc : TE} {pos : Pos}
theorem fin_bl {pins : List (Addr × Obj)} {σ : St} {H : Hp} {s : Shared} {Q : VK} {k k' : Bool} (I : Inv X pins σ H s) (q : Q (.bl k) H) (e : k = k') : EP X pins σ Q (.bool k') s := by
  subst e
  exact ⟨.bl k, H, I, rfl, q⟩
theorem op_eq : OpR X (compareOp .Eq) rEq := by
  intro pins s σ H x y v u Q I rx ry h
  obtain ⟨hs, q⟩ := h
  cases x with
  | non =>
    cases rx
    cases y with
    | non => cases ry; exact PySem.EqNone.eq_none_none (fin_bl I q (by simp))
    | bl j => cases ry; exact PySem.EqNone.eq_none_bool (fin_bl I q (by simp))
    | int j => obtain ⟨t', rfl⟩ := ry; exact PySem.EqNone.eq_none_int (fin_bl I q (by simp))
    | str j => obtain ⟨t', rfl⟩ := ry; exact PySem.EqNone.eq_none_str (fin_bl I q (by simp))
    | _ => exact absurd (show false = true from hs) Bool.false_ne_true
  | bl i =>
    cases rx
    cases y with
    | non => cases ry; exact PySem.EqNone.eq_bool_none (fin_bl I q (by simp))
    | bl j => cases ry; exact eq_bool (fin_bl I q dec_bl)
    | str j => obtain ⟨t', rfl⟩ := ry; exact PySem.EqMixed.eq_bool_str (fin_bl I q (by simp))
    | _ => exact absurd (show false = true from hs) Bool.false_ne_true
  | int i =>
    obtain ⟨t, rfl⟩ := rx
    cases y with
    | non => cases ry; exact PySem.EqNone.eq_int_none (fin_bl I q (by simp))
    | int j => obtain ⟨t', rfl⟩ := ry; exact eq_int (fin_bl I q dec_int)
    | str j => obtain ⟨t', rfl⟩ := ry; exact PySem.EqMixed.eq_int_str (fin_bl I q (by simp))
    | _ => exact absurd (show false = true from hs) Bool.false_ne_true
  | str i =>
    obtain ⟨t, rfl⟩ := rx
    cases y with
    | non => cases ry; exact PySem.EqNone.eq_str_none (fin_bl I q (by simp))
    | bl j => cases ry; exact PySem.EqMixed.eq_str_bool (fin_bl I q (by simp))
    | int j => obtain ⟨t', rfl⟩ := ry; exact PySem.EqMixed.eq_str_int (fin_bl I q (by simp))
    | str j => obtain ⟨t', rfl⟩ := ry; exact eq_str (fin_bl I q dec_str)
    | _ => exact absurd (show false = true from hs) Bool.false_ne_true
  | byt i =>
    obtain ⟨t, rfl⟩ := rx
    cases y with
    | byt j => obtain ⟨t', rfl⟩ := ry; exact PySem.W.eq_bytes (fin_bl I q dec_byt)
    | _ => exact absurd (show false = true from hs) Bool.false_ne_true
  | _ => cases y <;> exact absurd (show false = true from hs) Bool.false_ne_true
theorem op_ne : OpR X (compareOp .NotEq) rNe := by
  intro pins s σ H x y v u Q I rx ry h
  obtain ⟨hs, q⟩ := h
  cases x with
  | non =>
    cases rx
    cases y with
    | non => cases ry; exact PySem.EqNone.ne_none_none (fin_bl I q (by simp))
    | bl j => cases ry; exact PySem.EqNone.ne_none_bool (fin_bl I q (by simp))
    | int j => obtain ⟨t', rfl⟩ := ry; exact PySem.EqNone.ne_none_int (fin_bl I q (by simp))
    | str j => obtain ⟨t', rfl⟩ := ry; exact PySem.EqNone.ne_none_str (fin_bl I q (by simp))
    | _ => exact absurd (show false = true from hs) Bool.false_ne_true
  | bl i =>
    cases rx
    cases y with
    | non => cases ry; exact PySem.EqNone.ne_bool_none (fin_bl I q (by simp))
    | bl j => cases ry; exact ne_bool (fin_bl I q (congrArg not dec_bl))
    | str j => obtain ⟨t', rfl⟩ := ry; exact PySem.EqMixed.ne_bool_str (fin_bl I q (by simp))
    | _ => exact absurd (show false = true from hs) Bool.false_ne_true
  | int i =>
    obtain ⟨t, rfl⟩ := rx
    cases y with
    | non => cases ry; exact PySem.EqNone.ne_int_none (fin_bl I q (by simp))
    | int j => obtain ⟨t', rfl⟩ := ry; exact ne_int (fin_bl I q (congrArg not dec_int))
    | str j => obtain ⟨t', rfl⟩ := ry; exact PySem.EqMixed.ne_int_str (fin_bl I q (by simp))
    | _ => exact absurd (show false = true from hs) Bool.false_ne_true
  | str i =>
    obtain ⟨t, rfl⟩ := rx
    cases y with
    | non => cases ry; exact PySem.EqNone.ne_str_none (fin_bl I q (by simp))
    | bl j => cases ry; exact PySem.EqMixed.ne_str_bool (fin_bl I q (by simp))
    | int j => obtain ⟨t', rfl⟩ := ry; exact PySem.EqMixed.ne_str_int (fin_bl I q (by simp))
    | str j => obtain ⟨t', rfl⟩ := ry; exact ne_str (fin_bl I q (congrArg not dec_str))
    | _ => exact absurd (show false = true from hs) Bool.false_ne_true
  | byt i =>
    obtain ⟨t, rfl⟩ := rx
    cases y with
    | byt j => obtain ⟨t', rfl⟩ := ry; exact PySem.W.ne_bytes (fin_bl I q (congrArg not dec_byt))
    | _ => exact absurd (show false = true from hs) Bool.false_ne_true
  | _ => cases y <;> exact absurd (show false = true from hs) Bool.false_ne_true

theorem op_lt : OpR X (compareOp .Lt) (rI0 fun i j => .bl (decide (i < j))) := opB0 fun _ _ _ _ _ _ _ q => lt_int q
theorem op_gt : OpR X (compareOp .Gt) (rI0 fun i j => .bl (decide (j < i))) := opB0 fun _ _ _ _ _ _ _ q => gt_int q

/-- is None, is not None: the right side a value none -/
theorem op_isN : OpR X (compareOp .Is) (fun x y H Q => y = .non ∧ Q (.bl (decide (x = .non))) H) := by
  intro pins s σ H x y v u Q I rx ry h
  obtain ⟨rfl, q⟩ := h
  cases ry
  refine is_none_gen (fin_bl I q ?_)
  cases x <;> first
    | (cases rx; rfl)
    | (obtain ⟨t, rfl⟩ := rx; rfl)



theorem nomark (b : Expr) {op : CmpOp} (h : op ≠ .In := by decide) (h2 : op ≠ .NotIn := by decide) : behindInMarks op b = false := by
  have e1 : (op == CmpOp.In) = false := by cases op <;> first | rfl | exact absurd rfl h
  have e2 : (op == CmpOp.NotIn) = false := by cases op <;> first | rfl | exact absurd rfl h2
  cases b <;> simp [behindInMarks, e1, e2]
/-- a comparison as a value; hm: nomark b, or (for in, not in) by with_unfolding_all rfl -/
theorem pe_cmpR {op : CmpOp} {r : R2} (ho : OpR X (compareOp op) r) (ha : PE X a ta) (hb : PE X b tb) (hm : behindInMarks op b = false) : PE X (.Compare a [op] [b] pos) (tOp r ta tb) := by
  intro pins s σ H Q I h
  exact wpAny_Compare1 (binT ha hb I h fun v u s2 x y H2 I2 rx ry q => ho pins s2 σ H2 x y v u Q I2 rx ry q) hm
/-- a reading of a value as a test -/
def tTest (t : TE) : TT := fun σ H Q => t σ H fun x H' => ∃ k, x = .bl k ∧ Q k H'
theorem pt_cmpR {op : CmpOp} {r : R2} (ho : OpR X (compareOp op) r) (ha : PE X a ta) (hb : PE X b tb) (hm : behindInMarks op b = false) : PT X (.Compare a [op] [b] pos) (tTest (tOp r ta tb)) := by
  intro pins s σ H Q I h
  refine wpAny_isTrue_Compare1 (thn (ha pins s σ H _ I h) fun v s1 ⟨x, H1, I1, r1, q1⟩ => thn (hb pins s1 σ H1 _ I1 q1) fun u s2 ⟨y, H2, I2, r2, q2⟩ =>
    thn (ho pins s2 σ H2 x y v u _ I2 r1 r2 q2) fun c s3 ⟨z, H3, I3, r3, k, e, q3⟩ => ?_) hm
  subst e
  cases r3
  exact wpAny_truthy_bool ⟨H3, I3, q3⟩

/-! ### truth -/
theorem line63 : (sizeLine : Nat) < 2 ^ 63 := by rw [sizeLine_eq]; decide

/-! ### strs and bytes -/


/-! ### scalar builtins, by CallR -/
theorem vals1 {x : V} {us : List Value} (r : Vals [x] us) : ∃ u, us = [u] ∧ RelV x u := by
  cases r with
  | cons r1 r2 => cases r2; exact ⟨_, rfl, r1⟩
theorem vals2 {x y : V} {us : List Value} (r : Vals [x, y] us) : ∃ u w', us = [u, w'] ∧ RelV x u ∧ RelV y w' := by
  cases r with
  | cons r1 r2 =>
    cases r2 with
    | cons r3 r4 => cases r4; exact ⟨_, _, rfl, r1, r3⟩
theorem call_max2 (hc : X.calm = true) : CallR X (.builtin "max") (fun xs H Q => ∃ i j, xs = [.int i, .int j] ∧ Q (.int (if j > i then j else i)) H) := by
  intro pins s σ H xs us Q I r h
  obtain ⟨i, j, rfl, q⟩ := h
  obtain ⟨u, w', rfl, ⟨t, rfl⟩, ⟨t', rfl⟩⟩ := vals2 r
  refine max_two_ints (I.ok.hd hc) fun h' tk k => ⟨_, H, I.kept k, ?_, q⟩
  by_cases hj : j > i
  · rw [if_pos hj, if_pos hj]; exact ⟨_, rfl⟩
  · rw [if_neg hj, if_neg hj]; exact ⟨_, rfl⟩
end
end L2

namespace L2
open PySem PySem.Spec PyProof.Rows

/-! ### an instance, its attributes a map -/
structure ObjM (h : Heap) (x dx C : Addr) (mA : Str → Option Value) : Prop where
  obj : h.get? x = some (PySem.W.instObj C dx)
  ns : h.Ns1 dx mA
  ne : dx ≠ x

theorem lookIn_ns {h : Heap} {dx : Addr} {mA : Str → Option Value} (n : h.Ns1 dx mA) : ∃ od, h.get? dx = some od ∧ ∀ name, PySem.W.lookIn name od = some (mA name) := by
  obtain ⟨o, es, ep, ho, hd, hk, _, hm⟩ := n
  refine ⟨o, ho, fun name => ?_⟩
  have e := hm name
  unfold nsFind findBy at e
  rw [← Array.find?_toList] at e
  unfold PySem.W.lookIn
  rw [hd]
  dsimp only
  split
  · rename_i y q
    rw [q] at e
    exact congrArg some e
  · rename_i q
    rw [q] at e
    have a : es.toList.any (·.refKey) = false := by
      rw [List.any_eq_false]
      intro y hy
      obtain ⟨z, t, hkey⟩ := hk y (Array.mem_toList_iff.mp hy)
      simp [DictEntry.refKey, hkey]
    have a' : ¬ es.toList.any (·.refKey) = true := by rw [a]; exact Bool.false_ne_true
    rw [if_neg a']
    exact congrArg some e

theorem ObjM.look {h : Heap} {x dx C : Addr} {mA : Str → Option Value} (I : ObjM h x dx C mA) : ∃ od, PySem.W.InstAt h x (PySem.W.instObj C dx) C (some od) ∧ ∀ name, PySem.W.lookIn name od = some (mA name) :=
  let ⟨od, ho, hl⟩ := lookIn_ns I.ns
  ⟨od, ⟨I.obj, rfl, rfl, ho⟩, hl⟩

section
variable {prog : Program} {w : World} {A : Around} {E : Value → Shared → Prop} {s : Shared} {K : PySem.W.Frag} {x dx C f : Addr} {mA : Str → Option Value} {name : Str} {v : Value}





end

/-! ### the attributes as a list of pairs -/

theorem RelO.some_of {v : V} {o : Option Value} (r : RelO (some v) o) : ∃ u, o = some u ∧ RelV v u := by
  cases o with
  | none => exact (show False from r).elim
  | some u => exact ⟨u, rfl, r⟩

section
variable {P : Program} {w : World} {H H' : Hp} {h h' : Heap} {a C dx : Addr} {fs fs' : List (Str × V)}
theorem ins_get (hok : HOk P w H h) (e : H a = some (.ins C dx fs)) : ∃ mA, ObjM h a dx C mA ∧ (∀ f, RelO (fs.lookup f) (mA f)) ∧ PySem.Within mA (fs.map (·.1)) ∧ fs.length ≤ 1000 ∧ H dx = some (.own a) := by
  obtain ⟨d, z, ne, ob, mA, n, r, q⟩ := (show ObjOk P w H h a (.ins C dx fs) from hok a _ e)
  exact ⟨mA, ⟨ob, n, ne⟩, r, q, z, d⟩
end

/-! ### what of the text a class must have -/
structure Cls (K : PySem.W.Frag) (C : Addr) : Prop where
  pg : PySem.W.plainGet K C Str.empty = true
  hd : PySem.W.hasDictIn K C = true
  po : PySem.W.plainOver K C = true
  sa : PySem.W.findIn K (.ref C) "__setattr__" = some (some (.builtin "object.__setattr__"))
theorem Cls.get {K : PySem.W.Frag} {C : Addr} (c : Cls K C) (f : Str) : PySem.W.plainGet K C f = true := c.pg

section
variable {X : Cx} {pins : List (Addr × Obj)} {σ : St} {H : Hp} {s : Shared} {a C dx : Addr} {fs : List (Str × V)} {f : Str} {v : V} {A : Around} {E : Value → Shared → Prop}






end

/-! ### readings and rules -/

section
variable {X : Cx} {o e value : Expr} {f : Str} {pos pos' tpos : Pos} {ta tv : TE}

end

/-! ### isinstance -/
section
variable {X : Cx} {pins : List (Addr × Obj)} {σ : St} {H : Hp} {s : Shared} {A : Around} {E : Value → Shared → Prop} {Q : Value → Shared → Prop} {c : Value} {b : Bool}
/-- the type of a value, as the fragment's deciders take it; for an instance its class -/
inductive TyOf (K : PySem.W.Frag) (H : Hp) : V → Value → Prop where
  | non : TyOf K H .non (.type "NoneType")
  | bl (x : Bool) : TyOf K H (.bl x) (.type "bool")
  | int (i : Int) : TyOf K H (.int i) (.type "int")
  | str (x : Str) : TyOf K H (.str x) (.type "str")
  | flt (x : UInt64) : TyOf K H (.flt x) (.type "float")
  | lst {a : Addr} {xs : List V} (e : H a = some (.lst xs)) : TyOf K H (.ref a) (.type "list")
  | frz {a : Addr} {o : Obj} {xs : List V} (e : H a = some (.frz o (.lst xs))) : TyOf K H (.ref a) (.type "list")
  | tup {a : Addr} {xs : List V} (e : H a = some (.tup xs)) : TyOf K H (.ref a) (.type "tuple")
  | dK {a : Addr} {kvs : List (Key × V)} (e : H a = some (.dK kvs)) : TyOf K H (.ref a) (.type "dict")
  | dT {a : Addr} {kvs : List (List Key × V)} (e : H a = some (.dT kvs)) : TyOf K H (.ref a) (.type "dict")
  | ins {a C dx : Addr} {fs : List (Str × V)} (e : H a = some (.ins C dx fs)) (cl : Cls K C) (ha : PySem.W.findIn K (.ref C) "__class__" = some (some (.builtin "object.__class__")))
      (hn : PySem.W.specialIn K (.builtin "object.__class__") "__get__" = some (some (.builtin "getset_descriptor.__get__"))) (htk : PySem.W.takesIn K (.builtin "object.__class__") = some true)
      (hm : PySem.W.mroIn K C (.type "object") = some true) : TyOf K H (.ref a) (.ref C)
/-- isinstance(x, c) for one class c, a built-in or an own one: kitOne's answer -/
theorem isinst_ok {x : V} {u t : Value} (I : Inv X pins σ H s) (rx : RelV x u) (ty : TyOf X.K H x t) (e : PySem.W.kitOne X.K t c = some b) (h : ∀ tk, Q (.bool b) { s with toks := tk }) :
    wpAny (model X.prog X.w) A (call (.builtin "isinstance") [u, c]) Q E s := by
  cases ty with
  | non => cases (show u = Value.none from rx); exact PySem.W.kia_one PySem.W.kitx_none I.kIn True.intro e (fun z => nomatch z) h
  | bl y => cases (show u = Value.bool y from rx); exact PySem.W.kia_one PySem.W.kitx_bool I.kIn True.intro e (fun z => nomatch z) h
  | int i => obtain ⟨t, q⟩ := (show ∃ t, u = Value.int i t from rx); cases q; exact PySem.W.kia_one PySem.W.kitx_int I.kIn True.intro e (fun z => nomatch z) h
  | str y => obtain ⟨t, q⟩ := (show ∃ t, u = Value.str y t from rx); cases q; exact PySem.W.kia_one PySem.W.kitx_str I.kIn True.intro e (fun z => nomatch z) h
  | flt y => obtain ⟨t, q⟩ := (show ∃ t, u = Value.float y t from rx); cases q; exact PySem.W.kia_one PySem.W.kitx_float I.kIn True.intro e (fun z => nomatch z) h
  | @lst a xs ea =>
    cases (show u = Value.ref a from rx)
    obtain ⟨_, _, n, _, h1⟩ := (show ObjOk X.prog X.w H s.heap a (.lst xs) from I.hok a _ ea)
    exact PySem.W.kia_one PySem.W.kitx_list I.kIn ⟨_, h1, rfl⟩ e (fun z => nomatch z) h
  | @frz a ob xs ea =>
    cases (show u = Value.ref a from rx)
    obtain ⟨_, _, _, n, _, h1⟩ := (show ObjOk X.prog X.w H s.heap a (.frz ob (.lst xs)) from I.hok a _ ea)
    exact PySem.W.kia_one PySem.W.kitx_list I.kIn ⟨_, h1, rfl⟩ e (fun z => nomatch z) h
  | @tup a xs ea =>
    cases (show u = Value.ref a from rx)
    obtain ⟨_, _, _, p⟩ := (show ObjOk X.prog X.w H s.heap a (.tup xs) from I.hok a _ ea)
    obtain ⟨o, h1, h2, _⟩ := p
    exact PySem.W.kia_one PySem.W.kitx_tuple I.kIn ⟨o, h1, h2⟩ e (fun z => nomatch z) h
  | @dK a kvs ea =>
    cases (show u = Value.ref a from rx)
    obtain ⟨_, _, vs, _, p⟩ := (show ObjOk X.prog X.w H s.heap a (.dK kvs) from I.hok a _ ea)
    obtain ⟨o, es, ep, h1, h2, _⟩ := p
    exact PySem.W.kia_one PySem.W.kitx_dict I.kIn ⟨o, h1, h2.1⟩ e (fun z => nomatch z) h
  | @dT a kvs ea =>
    cases (show u = Value.ref a from rx)
    obtain ⟨_, _, xs, _, o, es, ep, h1, h2, _⟩ := (show ObjOk X.prog X.w H s.heap a (.dT kvs) from I.hok a _ ea)
    exact PySem.W.kia_one PySem.W.kitx_dict I.kIn ⟨o, h1, h2.1⟩ e (fun z => nomatch z) h
  | @ins a C dx fs ea cl ha hn htk hm =>
    cases (show u = Value.ref a from rx)
    obtain ⟨mA, O, _⟩ := ins_get I.hok ea
    obtain ⟨od, J, _⟩ := O.look
    exact PySem.W.kia_one (PySem.W.kitx_own (cl.get _) cl.hd ha hn htk hm) I.kIn J e (fun z => nomatch z) h
end
end L2

namespace L2
open PySem PySem.Spec PyProof.Rows

/-! ### room -/
structure Room (k : Nat) (A : Around) : Prop where
  hd : A.handled = none
  dp : A.depth + 3 * k + 5 < recursionLimit
  un : A.units + 16 * k + 200 < cLine
theorem Room.mono {j k : Nat} {A : Around} (r : Room k A) (h : j ≤ k) : Room j A := ⟨r.hd, by have := r.dp; omega, by have := r.un; omega⟩
theorem Room.deeper {k : Nat} {A : Around} (r : Room (k + 1) A) (env : Env) : Room k (A.deeper env) :=
  ⟨r.hd, by have := r.dp; show A.depth + 1 + 3 * k + 5 < _; omega, by have := r.un; show A.units + 3 + 16 * k + 200 < _; omega⟩
theorem Room.depth {k : Nat} {A : Around} (r : Room k A) : A.depth < recursionLimit := by have := r.dp; omega
theorem Room.units {k : Nat} {A : Around} (r : Room k A) : A.units + 64 < cLine := by have := r.un; omega

/-! ### argument lists and displays -/
def tNil : TA := fun _ H Q => Q [] H
def tCons (ta : TE) (tr : TA) : TA := fun σ H Q => ta σ H fun x H1 => tr σ H1 fun xs H2 => Q (x :: xs) H2
section
variable {X : Cx} {e : Expr} {es : List Expr} {te : TE} {t : TA} {pos : Pos}
theorem pa_nil : PA X [] tNil := fun _ _ _ _ H Q I h => Calls.spliced_nil ⟨[], H, I, .nil, h⟩
theorem pa_cons (ha : PE X e te) (hr : PA X es t) (hs : starEach (e :: es) X.env = (false, eval e X.env) :: starEach es X.env := by rfl) : PA X (e :: es) (tCons te t) := by
  intro pos pins s σ H Q I h
  rw [hs]
  show wpAny _ _ (spliced ((false, eval e X.env) :: backTo pos (starEach es X.env))) _ _ s
  refine Calls.spliced_cons (thn (ha pins s σ H _ I h) fun u s1 ⟨x, H1, I1, r1, q1⟩ => ?_)
  exact thn (hr pos pins s1 σ H1 _ I1 q1) fun us s2 ⟨xs, H2, I2, r2, q2⟩ => ⟨x :: xs, H2, I2, .cons r1 r2, q2⟩

/-- a tuple, a list of written items -/
def tTup (t : TA) : TE := fun σ H Q => t σ H fun xs H1 => xs.length ≤ sizeLine ∧ ∀ p, H1 p = none → Q (.ref p) (upd H1 p (.tup xs))
def tLst (t : TA) : TE := fun σ H Q => t σ H fun xs H1 => xs.length ≤ sizeLine ∧ ∀ p, H1 p = none → Q (.ref p) (upd H1 p (.lst xs))
theorem pe_tup {x1} (h : PA X es t) : PE X (.Tuple es x1 pos) (tTup t) := by
  intro pins s σ H Q I hq
  refine wpAny_Tuple_spliced (thn (h pos pins s σ H _ I hq) fun us s1 ⟨xs, H1, I1, r, z, q⟩ => ⟨by rw [← r.length]; exact z, ?_⟩)
  have hf : H1 s1.heap.objs.size = none := I1.hok.fresh (Nat.le_refl _)
  refine ⟨.ref s1.heap.objs.size, upd H1 s1.heap.objs.size (.tup xs), I1.laid (t' := s1.toks) (fun b u e => Heap.get?_push_of_some _ e) (Nat.le_refl _) ?_, rfl, q _ hf⟩
  exact ⟨z, us, r, ⟨_, Heap.get?_push_size _ rfl, rfl, _, rfl⟩⟩
theorem pe_lst (h : PA X es t) : PE X (.List es pos) (tLst t) := by
  intro pins s σ H Q I hq
  refine wpAny_List_spliced (thn (h pos pins s σ H _ I hq) fun us s1 ⟨xs, H1, I1, r, z, q⟩ => ⟨by rw [← r.length]; exact z, ?_⟩)
  have hf : H1 s1.heap.objs.size = none := I1.hok.fresh (Nat.le_refl _)
  refine ⟨.ref s1.heap.objs.size, upd H1 s1.heap.objs.size (.lst xs), I1.laid (t' := s1.toks) (fun b u e => Heap.get?_push_of_some _ e) (Nat.le_refl _) ?_, rfl, q _ hf⟩
  exact ⟨z, us, 0, r, Heap.get?_push_size _ rfl⟩
end

/-! ### what a def promises -/
/-- a def's promise: the bound arguments in the parameters' order, the heap, the wanted end, the wanted exception -/
abbrev Sp := List V → Hp → VK → XK → Prop
/-- how an exception lies behind a call (file 08 gives it): the callers' frames, abstract heap and state ahead of the call, the wish, the exception, the state -/
abbrev CXT := List Env → Hp → Shared → XK → Value → Shared → Prop

/-- the state at a call -/
structure Env0 (P : Program) (w : World) (K : PySem.W.Frag) (mg : Str → Option Value) (base : Heap) (A : Around) (outer : List Env) (s : Shared) (H : Hp) : Prop where
  frames : A.frames = some outer
  mod : Mod K mg base
  bs : ∀ b o, base.get? b = some o → s.heap.get? b = some o ∧ H b = none
  bsz : base.objs.size ≤ s.heap.objs.size
  funs : s.heap.FunFrames base outer
  frf : ∀ b ∈ frs outer, H b = none
  hok : HOk P w H s.heap
  bare : AllBare s.gens
/-- a call's end -/
def CE (outer : List Env) (P : Program) (w : World) (H : Hp) (s : Shared) (Q : VK) (u : Value) (s' : Shared) : Prop :=
  ∃ v H', s'.os = s.os ∧ AllBare s'.gens ∧ Un (frs outer) [] H H' s.heap s'.heap ∧ HOk P w H' s'.heap ∧ RelV v u ∧ Q v H'
def CR (CX : CXT) (outer : List Env) (P : Program) (w : World) (H : Hp) (s : Shared) (Q : VK) (E : XK) (r : Result) (s' : Shared) : Prop :=
  match r with
  | .ok (.ret u) => CE outer P w H s Q u s'
  | .ok _ => False
  | .error e => CX outer H s E e s'
structure FnOk (P : Program) (w : World) (K : PySem.W.Frag) (mg : Str → Option Value) (base : Heap) (CX : CXT) (k : Nat) (f : Addr) (fd : FuncData) (ps : List Str) (sp : Sp) : Prop where
  len : ∀ vs H Q E, sp vs H Q E → vs.length = ps.length
  run : ∀ (A : Around) (outer : List Env) (s : Shared) (H : Hp) (args : Args) (us : List Value) (vs : List V) (Q : VK) (E : XK), Room k A → Env0 P w K mg base A outer s H → BindsTo s fd args (ps.zip us) → Vals vs us → sp vs H Q E →
    codeAny (model P w) A (.call (.ref f) args) (CR CX outer P w H s Q E) s


section
variable {X : Cx} {pins : List (Addr × Obj)} {σ : St} {H : Hp} {s s' : Shared}
/-- from a body: what a callee wants -/
theorem Inv.env0 (I : Inv X pins σ H s) : Env0 X.prog X.w X.K X.mg X.base X.A X.stack s H :=
  ⟨I.ok.frames, I.ok.mod, I.bs, Nat.le_trans I.ok.bsz I.sz, I.stack, I.stkFree, I.hok, I.bare⟩
/-- behind a call -/
theorem Inv.after {Q : VK} {u : Value} (I : Inv X pins σ H s) (h : CE X.stack X.prog X.w H s Q u s') : EP X pins σ Q u s' := by
  obtain ⟨v, H', os, bare, un, hok, r, q⟩ := h
  obtain ⟨hh, g, d, t, os'⟩ := s'
  obtain rfl : os' = s.os := os
  exact ⟨v, H', I.call (h' := hh) (g' := g) (d' := d) (t' := t) (ch := []) un hok bare (fun b z => absurd z (by simp)), r, q⟩
end

/-! ### calls -/
/-- f(..): the written arguments, then the defaults dvs; E: what is wanted of an exception -/
def tCall (sp : Sp) (dvs : List V) (E : XK) (t : TA) : TE := fun σ H Q => t σ H fun vs H1 => sp (vs ++ dvs) H1 Q E

/-- how the parameters are bound: us the positional arguments, kw the keywords' values by name, ds the defaults that fill up -/
def Binds (K : PySem.W.Frag) (fd : FuncData) (ps : List Str) (ds : List Value) : Prop :=
  ∀ (s : Shared) (us : List Value), K.In s.heap → (us ++ ds).length = ps.length → BindsTo s fd ⟨us, []⟩ (ps.zip (us ++ ds))
/-- every parameter is given -/
theorem Binds.all {K : PySem.W.Frag} {fd : FuncData} {ps : List Str} (h : ∀ us : List Value, us.length = ps.length → bindArgs fd ⟨us, []⟩ = pure (ps.zip us)) : Binds K fd ps [] := fun s us _ hl => by
  rw [List.append_nil] at hl ⊢
  exact .of_eq (h us hl)

/-- an exception of a callee reaches what this body wants of exceptions -/
def Passes (CX : CXT) (X : Cx) (E : XK) : Prop := ∀ (pins : List (Addr × Obj)) (σ : St) (H : Hp) (s : Shared) (e : Value) (s' : Shared), Inv X pins σ H s → CX X.stack H s E e s' → X.xe e s'

section
variable {X : Cx} {CX : CXT} {k : Nat} {f C : Addr} {fd : FuncData} {ps : List Str} {sp : Sp} {dvs : List V} {ds : List Value} {E : XK} {x m : Str} {p pos apos : Pos} {e o : Expr} {es : List Expr} {ta : TE} {t : TA}

/-- the callee runs -/
theorem run_fn {pins : List (Addr × Obj)} {σ : St} {H : Hp} {s : Shared} {Q : VK} {us : List Value} {vs : List V} (F : FnOk X.prog X.w X.K X.mg X.base CX k f fd ps sp) (hr : Room k X.A) (hb : Binds X.K fd ps ds) (hd : Vals dvs ds) (hx : Passes CX X E)
    (I : Inv X pins σ H s) (r : Vals vs us) (h : sp (vs ++ dvs) H Q E) : wpAny (model X.prog X.w) X.A (call (.ref f) us) (EP X pins σ Q) X.xe s := by
  have r2 : Vals (vs ++ dvs) (us ++ ds) := r.append hd
  have hl : (us ++ ds).length = ps.length := by rw [← r2.length]; exact F.len _ _ _ _ h
  refine wpAny_call (codeAny_mono (F.run X.A X.stack s H ⟨us, []⟩ (us ++ ds) (vs ++ dvs) Q E hr I.env0 (hb s us I.kIn hl) r2 h) fun r s' hq => ?_)
  cases r with
  | error e => exact hx pins σ H s e s' I hq
  | ok fl =>
    cases fl with
    | ret u => exact I.after hq
    | next => exact False.elim hq
    | brk => exact False.elim hq
    | cont => exact False.elim hq

theorem pe_call (F : FnOk X.prog X.w X.K X.mg X.base CX k f fd ps sp) (hr : Room k X.A) (hg : Gl X x) (hm : X.mg x = some (.ref f)) (hk : PySem.W.keepIn X.K (.ref f) = true) (hb : Binds X.K fd ps ds) (hd : Vals dvs ds) (hx : Passes CX X E)
    (ha : PA X (e :: es) t) (hdb : (x == ("__debug__" : Str)) = false := by decide) (he : starEach (e :: es) X.env = (false, eval e X.env) :: starEach es X.env := by rfl) (hpl : (backTo pos (starEach es X.env)).any (·.1) = false := by rfl) :
    PE X (.Call (.Name x p) (e :: es) [] pos) (tCall sp dvs E t) := by
  intro pins s σ H Q I h
  refine wpAny_Call_Name_kw (ld_glob I hg hm ?_ hdb)
  refine PySem.W.callWith_K (h₀ := X.base) I.ok.mod.kin hk (thn (ha pos pins s σ H _ I h) fun us s1 ⟨vs, H1, I1, r, q⟩ => ⟨I1.kIn, ?_⟩) he hpl
  exact run_fn F hr hb hd hx I1 r q



end

/-! ### keywords -/
/-- the values of the keywords, from the left -/
def PK (X : Cx) (kws : List Keyword) (t : TA) : Prop :=
  ∀ (pos : Pos) (pins : List (Addr × Obj)) (s : Shared) (σ : St) (H : Hp) (Q : List V → Hp → Prop), Inv X pins σ H s → t σ H Q → wpAny (model X.prog X.w) X.A (evalAll ((backToKw pos (keywordEach kws X.env)).map (·.2))) (AP X pins σ Q) X.xe s
section
variable {X : Cx} {CX : CXT} {k : Nat} {f C : Addr} {fd : FuncData} {ps ks : List Str} {sp : Sp} {E : XK} {x m : Str} {p pos apos kpos : Pos} {e o : Expr} {es : List Expr} {kws : List Keyword} {te ta : TE} {t tk : TA} {nm : Option Str}
theorem pk_nil : PK X [] tNil := fun _ _ _ _ H Q I h => wpAny_evalAll_nil ⟨[], H, I, .nil, h⟩
theorem pk_cons (ha : PE X e te) (hr : PK X kws t) : PK X (⟨nm, e, kpos⟩ :: kws) (tCons te t) := by
  intro pos pins s σ H Q I h
  show wpAny _ _ (evalAll ((do let v ← eval e X.env; standAt pos; pure v) :: (backToKw pos (keywordEach kws X.env)).map (·.2))) _ _ s
  refine wpAny_evalAll_cons (wpAny_bind (thn (ha pins s σ H _ I h) fun u s1 ⟨x, H1, I1, r1, q1⟩ => wpAny_bind (wpAny_standAt (wpAny_pure ?_))))
  exact thn (hr pos pins s1 σ H1 _ I1 q1) fun us s2 ⟨xs, H2, I2, r2, q2⟩ => ⟨x :: xs, H2, I2, .cons r1 r2, q2⟩

variable {g : List Value → List Value → List Value} {gV : List V → List V → List V}
end

/-! ### a def's body keeps its promise -/
/-- names: the parameters first -/
structure FnScope (N P : List Str) (sc : Scope) : Prop where
  kind : sc.kind = .function
  co : sc.isCoroutine = false
  gen : sc.isGenerator = false
  nd : N.Nodup
  pre : N.take P.length = P
  par : ∀ x ∈ P, sc.names.lookup x = some .local ∨ sc.names.lookup x = some .cell
  nofree : ∀ y ∈ sc.names, y.2 ≠ .free

theorem bindL_out {kindOf : Str → Option NameKind} {x : Str} : ∀ {binds : List (Str × Value)} {m : Str → Option Value}, (∀ v, (x, v) ∉ binds) → bindL kindOf binds m x = m x
  | [], _, _ => rfl
  | (n, v) :: r, m, h => by
    unfold bindL
    rw [bindL_out fun w hw => h w (List.mem_cons_of_mem _ hw)]
    split
    · have : x ≠ n := by rintro rfl; exact h v List.mem_cons_self
      simp [this]
    · rfl
theorem bindC_out {kindOf : Str → Option NameKind} {x : Str} : ∀ {binds : List (Str × Value)} {m : Str → Option Value}, (∀ v, (x, v) ∉ binds) → bindC kindOf binds m x = m x
  | [], _, _ => rfl
  | (n, v) :: r, m, h => by
    unfold bindC
    rw [bindC_out fun w hw => h w (List.mem_cons_of_mem _ hw)]
    split
    · rfl
    · have : x ≠ n := by rintro rfl; exact h v List.mem_cons_self
      simp [this]
theorem bindL_get {kindOf : Str → Option NameKind} {x : Str} {v : Value} : ∀ {P : List Str} {vs : List Value} {i : Nat} {m : Str → Option Value}, P.Nodup → P[i]? = some x → vs[i]? = some v → kindOf x = some .local →
    bindL kindOf (P.zip vs) m x = some v
  | [], _, _, _, _, h, _, _ => by simp at h
  | _ :: _, [], _, _, _, _, h, _ => by simp at h
  | p :: P, w :: vs, 0, m, nd, h1, h2, hk => by
    simp at h1 h2; subst h1; subst h2
    show bindL kindOf ((p, w) :: P.zip vs) m p = _
    unfold bindL
    rw [bindL_out fun v hv => (List.nodup_cons.mp nd).1 (List.of_mem_zip hv).1, if_pos hk]
    simp
  | p :: P, w :: vs, i + 1, m, nd, h1, h2, hk => by
    show bindL kindOf ((p, w) :: P.zip vs) m x = _
    unfold bindL
    exact bindL_get (i := i) (List.nodup_cons.mp nd).2 (by simpa using h1) (by simpa using h2) hk
theorem bindC_get {kindOf : Str → Option NameKind} {x : Str} {v : Value} : ∀ {P : List Str} {vs : List Value} {i : Nat} {m : Str → Option Value}, P.Nodup → P[i]? = some x → vs[i]? = some v → kindOf x ≠ some .local →
    bindC kindOf (P.zip vs) m x = some v
  | [], _, _, _, _, h, _, _ => by simp at h
  | _ :: _, [], _, _, _, _, h, _ => by simp at h
  | p :: P, w :: vs, 0, m, nd, h1, h2, hk => by
    simp at h1 h2; subst h1; subst h2
    show bindC kindOf ((p, w) :: P.zip vs) m p = _
    unfold bindC
    rw [bindC_out fun v hv => (List.nodup_cons.mp nd).1 (List.of_mem_zip hv).1, if_neg hk]
    simp
  | p :: P, w :: vs, i + 1, m, nd, h1, h2, hk => by
    show bindC kindOf ((p, w) :: P.zip vs) m x = _
    unfold bindC
    exact bindC_get (i := i) (List.nodup_cons.mp nd).2 (by simpa using h1) (by simpa using h2) hk

/-- the names' values at the entry -/
def start (N : List Str) (vs : List V) : St := vs.map some ++ List.replicate (N.length - vs.length) none

/-- the context of a def's body, at its entry; an exception leaves the frame, then lies as CX says -/
def cxOf (CX : CXT) (P : Program) (w : World) (K : PySem.W.Frag) (mg : Str → Option Value) (base : Heap) (N : List Str) (qual : Str) (scope : Scope) (f : Addr) (cd : Value) (A : Around) (outer : List Env) (s : Shared) (H : Hp) (E : XK) : Cx where
  prog := P
  w := w
  K := K
  mg := mg
  base := base
  A := A.deeper (envOfC qual scope s.heap.objs.size f cd)
  N := N
  s₀ := s
  H₀ := H
  env := envOfC qual scope s.heap.objs.size f cd
  outer := outer
  stack := envOfC qual scope s.heap.objs.size f cd :: outer
  ex := []
  calm := true
  fn := fun _ => true
  pn := []
  xe := fun e s' => wpAny (model P w) (A.deeper (envOfC qual scope s.heap.objs.size f cd)) (leaving (envOfC qual scope s.heap.objs.size f cd) e) (fun _ s'' => CX outer H s E e s'') (fun e' s'' => CX outer H s E e' s'') s'

theorem cell_has {sc : Scope} {n : Nat} {x : Str} (h : sc.names.lookup x = some .cell) : ∃ c, (cellsFrom n sc.names []).lookup x = some c := by
  have q := PySem.W.cellsFrom_some sc.names n [] (.inl h)
  exact Option.isSome_iff_exists.mp q

theorem inv_start {CX : CXT} {P : Program} {w : World} {K : PySem.W.Frag} {mg : Str → Option Value} {base : Heap} {N ps : List Str} {qual : Str} {scope : Scope} {f : Addr} {cd : Value} {A : Around} {outer : List Env} {s s1 : Shared} {H : Hp} {E : XK} {us : List Value} {vs : List V}
    (S : FnScope N ps scope) (hd : A.handled = none) (e0 : Env0 P w K mg base A outer s H) (hl : vs.length = ps.length) (r : Vals vs us)
    (x : InCallC s s.heap.objs.size (bindL (envOfC qual scope s.heap.objs.size f cd).kindOf (ps.zip us) fun _ => none) (cellsFrom (s.heap.objs.size + 1) scope.names []) (bindC (envOfC qual scope s.heap.objs.size f cd).kindOf (ps.zip us) fun _ => none) s1) :
    Inv (cxOf CX P w K mg base N qual scope f cd A outer s H E) [] (start N vs) H s1 := by
  have hpl : ps.length ≤ N.length := by have := congrArg List.length S.pre; rw [List.length_take] at this; omega
  obtain ⟨h1, tk, rfl, hk⟩ := x.done
  have noA : ∀ b : Addr, b ∉ (cxOf CX P w K mg base N qual scope f cd A outer s H E).ex := fun b z => absurd (show b ∈ ([] : List Addr) from z) (by simp)
  refine ⟨⟨e0.mod, S.kind, rfl, rfl, Nat.le_refl _, fun y z c h1 h2 => ?_, fun y hy => ?_, fun y c _ h => ?_, fun _ => hd, Around.frames_deeper e0.frames, .inr ⟨rfl, rfl⟩, fun b z => absurd z (noA b), e0.bs, e0.bsz, fun b _ _ => noA b, fun b z => absurd z (noA b), e0.funs, e0.frf⟩,
    rfl, e0.bare, Un.kept hk, ⟨_, x.toInCall.ns, fun i y v h1 h2 h3 => ?_⟩, fun y c h => ⟨_, x.cell y c h⟩, e0.hok.fresh (Nat.le_refl _), fun y c h => ?_, fun p hp => absurd (show p ∈ ([] : List (Addr × Obj)) from hp) (by simp), e0.hok.kept hk, ?_⟩
  · exact name_of_addr x.apart (PySem.mem_of_lookup h1) (PySem.mem_of_lookup h2)
  · have hy : scope.names.lookup y = some .cell ∨ scope.names.lookup y = some .free := hy
    rcases hy with hy | hy
    · exact cell_has hy
    · exact absurd rfl (S.nofree _ (PySem.mem_of_lookup hy))
  · exact Nat.le_of_lt (x.above y c (PySem.mem_of_lookup h))
  · have hi : i < vs.length := by
      unfold start at h2
      by_cases hi : i < vs.length
      · exact hi
      · rw [List.getElem?_append_right (by simpa using hi)] at h2
        rw [List.getElem?_replicate] at h2
        split at h2 <;> cases h2
    have ha : vs[i]? = some v := by
      unfold start at h2
      rw [List.getElem?_append_left (by simpa using hi), List.getElem?_map] at h2
      cases e : vs[i]? with
      | none => rw [e] at h2; cases h2
      | some a => rw [e] at h2; cases h2; rfl
    obtain ⟨u, hu, rv⟩ := r.get ha
    have hp : ps[i]? = some y := by
      rw [← S.pre, List.getElem?_take_of_lt (by omega)]; exact h1
    have ndP : ps.Nodup := by rw [← S.pre]; exact S.nd.sublist (List.take_sublist _ _)
    refine ⟨u, rv, ?_⟩
    rcases S.par y (List.mem_of_getElem? hp) with k | k
    · exact .inl ⟨k, bindL_get ndP hp hu k⟩
    · obtain ⟨c, e⟩ := cell_has (n := s.heap.objs.size + 1) k
      refine .inr ⟨.inl k, c, e, ?_⟩
      have q := x.cell y c e
      rw [bindC_get ndP hp hu (by show scope.names.lookup y ≠ _; rw [k]; decide)] at q
      exact q
  · exact e0.hok.fresh (Nat.le_of_lt (x.above y c (PySem.mem_of_lookup h)))
  · unfold start
    show _ = N.length
    rw [List.length_append, List.length_map, List.length_replicate]
    omega

/-- THE RULE: a def (or a method) of the text, by its body. The body's reading t is chosen for each entry; it is run at the parameters' values -/
theorem fn_of {CX : CXT} {P : Program} {w : World} {K : PySem.W.Frag} {mg : Str → Option Value} {base : Heap} {k : Nat} {f : Addr} {name qual : Str} {params : Arguments} {body : List Stmt} {scope : Scope} {dV kV doc pm cdv ct oc : Value} {an od : Option Addr}
    {osl : Array (Option Value)} {N ps : List Str} {sp : Sp} (lk : K.lookup f = some ⟨oc, od, .func (PySem.W.fnOf name qual params body scope dV kV doc pm an cdv ct), osl⟩) (hcd : PySem.W.codeIn K cdv qual = true) (S : FnScope N ps scope)
    (len : ∀ vs H Q E, sp vs H Q E → vs.length = ps.length)
    (hbody : ∀ (A : Around) (outer : List Env) (s : Shared) (H : Hp) (vs : List V) (Q : VK) (E : XK), Room k (A.deeper (envOfC qual scope s.heap.objs.size f cdv)) → sp vs H Q E →
      ∃ t, PSs (cxOf CX P w K mg base N qual scope f cdv A outer s H E) body t ∧ t { nx := fun _ H' => Q .non H', rt := Q } (start N vs) H) :
    FnOk P w K mg base CX (k + 1) f (PySem.W.fnOf name qual params body scope dV kV doc pm an cdv ct) ps sp := by
  refine ⟨len, fun A outer s H args us vs Q E hr e0 hb r hsp => ?_⟩
  have hl := len _ _ _ _ hsp
  have KX : K.In s.heap := e0.mod.kin.keeps fun b o e => (e0.bs b o e).1
  have lim : s.heap.NoLimit := e0.mod.nolimit.keeps fun b o e => (e0.bs b o e).1
  have hkind : ∀ y ∈ ps.zip us, scope.names.lookup y.1 = some .local ∨ (scope.names.lookup y.1 = some .cell ∧ ((cellsFrom (s.heap.objs.size + 1) scope.names []).lookup y.1).isSome = true) := fun ⟨n, v⟩ hy => by
    rcases S.par n (List.of_mem_zip hy).1 with q | q
    · exact .inl q
    · exact .inr ⟨q, PySem.W.cellsFrom_some _ _ _ (.inl q)⟩
  refine codeAny_call_function hr.depth (KX _ _ lk) rfl S.co S.gen rfl (PySem.W.codeRec_of KX hcd) (hb _ _ _ _ ?_)
  refine wpAny_newFunctionEnv_cells S.kind hkind fun env he s1 x => ?_
  subst he
  refine ⟨lim.keeps x.toInCall.keep, codeAny_func ?_⟩
  obtain ⟨t, ht, hq⟩ := hbody A outer s H vs Q E (hr.deeper _) hsp
  have I : Inv (cxOf CX P w K mg base N qual scope f cdv A outer s H E) [] (start N vs) H s1 := inv_start S hr.hd e0 hl r x
  refine wpAny_mono (ht [] s1 (start N vs) H _ I hq) (fun fl s' hs => ?_) fun e s' hs => hs
  have fin : ∀ {σ' : St} {H' : Hp} {v : V} {u : Value}, Inv (cxOf CX P w K mg base N qual scope f cdv A outer s H E) [] σ' H' s' → RelV v u → Q v H' → CE outer P w H s Q u s' :=
    fun {σ' H' v u} J rv q => ⟨v, H', J.os, J.bare, J.base, J.hok, rv, q⟩
  cases fl with
  | ret u =>
    obtain ⟨v, σ', H', J, rv, q⟩ := hs
    exact fin J rv q
  | next =>
    obtain ⟨σ', H', J, q⟩ := hs
    exact fin (v := V.non) (u := Value.none) J rfl q
  | brk =>
    obtain ⟨_, _, _, q⟩ := hs
    exact False.elim q
  | cont =>
    obtain ⟨_, _, _, q⟩ := hs
    exact False.elim q
end L2

namespace L2
open PySem PySem.Spec PyProof.Rows
section
variable {X : Cx} {x : Str} {p pos : Pos} {e : Expr} {es : List Expr} {t : TA} {id T : String} {r : List V → Hp → VK → Prop}

def tCB (r : List V → Hp → VK → Prop) (t : TA) : TE := fun σ H Q => t σ H fun vs H1 => r vs H1 Q
/-- f(e, ..), f a built-in function -/
theorem pe_callB (hc : CallR X (.builtin id) r) (hg : Gl X x) (hm : X.mg x = none) (hv : bootBuiltins x = some (.builtin id)) (ha : PA X (e :: es) t) (hn : x ≠ "__name__" := by decide) (hdb : (x == ("__debug__" : Str)) = false := by decide)
    (he : starEach (e :: es) X.env = (false, eval e X.env) :: starEach es X.env := by rfl) (hpl : (backTo pos (starEach es X.env)).any (·.1) = false := by rfl) : PE X (.Call (.Name x p) (e :: es) [] pos) (tCB r t) := by
  intro pins s σ H Q I h
  refine wpAny_Call_Name_kw (ld_blt I hg hm hv ?_ hn hdb)
  exact PyProof.Rows.callWith_builtin1 (thn (ha pos pins s σ H _ I h) fun us s1 ⟨vs, H1, I1, r1, q1⟩ => hc pins s1 σ H1 vs us Q I1 r1 q1) he hpl
/-- T(e, ..), T a built-in type -/
theorem pe_callTy (hc : CallR X (.type T) r) (hg : Gl X x) (hm : X.mg x = none) (hv : bootBuiltins x = some (.type T)) (ha : PA X (e :: es) t) (hn : x ≠ "__name__" := by decide) (hdb : (x == ("__debug__" : Str)) = false := by decide)
    (he : starEach (e :: es) X.env = (false, eval e X.env) :: starEach es X.env := by rfl) (hpl : (backTo pos (starEach es X.env)).any (·.1) = false := by rfl) : PE X (.Call (.Name x p) (e :: es) [] pos) (tCB r t) := by
  intro pins s σ H Q I h
  refine wpAny_Call_Name_kw (ld_blt I hg hm hv ?_ hn hdb)
  exact PyProof.Rows.callWith_type1 (thn (ha pos pins s σ H _ I h) fun us s1 ⟨vs, H1, I1, r1, q1⟩ => hc pins s1 σ H1 vs us Q I1 r1 q1) he hpl
end
end L2

namespace HT
open PySem PyProof.Rows



section
open PySem.SeqAt
open PySem.AutoSeq1 (wpAny_loadPart')
open PySem.MeetsSeq PySem.MeetsSeq2 PySem.MeetsSeq3

end

section
variable {prog : Program} {w : World} {A : Around} {E : Value → Shared → Prop} {s : Shared}



/-! ### t[a:b], not the whole -/
/-- a slice's bound as a place among n (d where it is left out) -/
def sIx (n d : Nat) : Option Int → Nat
  | none => d
  | some v => if v < 0 then (v + (n : Int)).toNat else min v.toNat n
theorem sIx_none (n d : Nat) : sIx n d none = d := rfl
theorem sIx_nat (n d k : Nat) : sIx n d (some (k : Int)) = min k n := by
  show (if (k : Int) < 0 then ((k : Int) + (n : Int)).toNat else min (k : Int).toNat n) = min k n
  rw [if_neg (by omega), Int.toNat_natCast]

end
end HT

namespace L2
open PySem PySem.Spec PyProof.Rows

/-! ### the parts of a slice -/
abbrev TO := St → Hp → (Option Int → Hp → Prop) → Prop
/-- a slice's part (left out, or an int) -/
def PO (X : Cx) (e : Option Expr) (t : TO) : Prop :=
  ∀ (pins : List (Addr × Obj)) (s : Shared) (σ : St) (H : Hp) (Q : Option Int → Hp → Prop), Inv X pins σ H s → t σ H Q →
    wpAny (model X.prog X.w) X.A (evalPart e X.env) (fun u s' => ∃ o H', Inv X pins σ H' s' ∧ IsPart u o ∧ Q o H') X.xe s
def tNoPart : TO := fun _ H Q => Q none H
def tPart (t : TE) : TO := fun σ H Q => t σ H fun x H1 => ∃ i, x = .int i ∧ Q (some i) H1


section
variable {X : Cx} {e : Expr} {te : TE} {lo hi : Option Expr} {tl th : TO} {pos p2 : Pos}

theorem po_none : PO X none tNoPart := by
  intro pins s σ H Q I h
  rw [evalPart_none]
  exact wpAny_pure ⟨none, H, I, .none, h⟩
theorem po_some (h : PE X e te) : PO X (some e) (tPart te) := by
  intro pins s σ H Q I hw
  rw [evalPart_some]
  refine thn (h pins s σ H _ I hw) fun u s1 ⟨x, H1, I1, r1, q1⟩ => ?_
  obtain ⟨i, rfl, q⟩ := q1
  obtain ⟨t, rfl⟩ := r1
  exact ⟨some i, H1, I1, .int i t, q⟩

/-- what a slice of a value is, by values: the slice object stands at sl -/
def SlR (X : Cx) (r : V → Option Int → Option Int → Hp → VK → Prop) : Prop :=
  ∀ (pins : List (Addr × Obj)) (s : Shared) (σ : St) (H : Hp) (x : V) (v vl vu : Value) (lo hi : Option Int) (sl : Addr) (Q : VK), Inv X pins σ H s → RelV x v → s.heap.IsSliceOf sl vl vu .none → IsPart vl lo → IsPart vu hi → r x lo hi H Q →
    ∃ T id, typeLookup (.type T) "__getitem__" = pure (some (.builtin id)) ∧ s.TypeIs v T ∧ wpAny (model X.prog X.w) X.A (getItem v (.ref sl)) (EP X pins σ Q) X.xe s
def tSl (r : V → Option Int → Option Int → Hp → VK → Prop) (te : TE) (tl th : TO) : TE := fun σ H Q => te σ H fun x H1 => tl σ H1 fun l H2 => th σ H2 fun u H3 => r x l u H3 Q
/-- a[lo:hi], any a -/
theorem pe_slice {r : V → Option Int → Option Int → Hp → VK → Prop} (hr : SlR X r) (he : PE X e te) (hl : PO X lo tl) (hu : PO X hi th) : PE X (.Subscript e (.Slice lo hi none p2) pos) (tSl r te tl th) := by
  intro pins s σ H Q I h
  refine Subscript_ (thn (he pins s σ H _ I h) fun v s1 ⟨x, H1, I1, r1, q1⟩ => ?_)
  refine wpAny_Slice (thn (hl pins s1 σ H1 _ I1 q1) fun vl s2 ⟨l, H2, I2, pl, q2⟩ => thn (hu pins s2 σ H2 _ I2 q2) fun vu s3 ⟨u, H3, I3, pu, q3⟩ => ?_)
  rw [evalPart_none]
  refine wpAny_pure ?_
  have I4 : Inv X pins σ H3 { s3 with heap := s3.heap.push { cls := .type "slice", data := .fields #[vl, vu, .none] } } := I3.kept (t' := s3.toks) fun b ob q => Heap.get?_push_of_some _ q
  obtain ⟨T, id, hT, ht, hg⟩ := hr pins { s3 with heap := s3.heap.push { cls := .type "slice", data := .fields #[vl, vu, .none] } } σ H3 x v vl vu l u s3.heap.objs.size Q I4 r1 (Heap.IsSliceOf.new ..) pl pu q3
  show wpAny (model X.prog X.w) X.A (subscriptTail e (.Slice lo hi none p2) v (.ref s3.heap.objs.size)) (EP X pins σ Q) X.xe { s3 with heap := s3.heap.push { cls := .type "slice", data := .fields #[vl, vu, .none] } }
  exact tail_any (ops := [.ref s3.heap.objs.size, v]) ht hT hg (by with_unfolding_all rfl)

/-- the items of xs[lo:hi] -/
def cutV (xs : List V) (lo hi : Option Int) : List V := (xs.drop (HT.sIx xs.length 0 lo)).take (HT.sIx xs.length xs.length hi - HT.sIx xs.length 0 lo)
theorem cutV_length (xs : List V) (lo hi : Option Int) : (cutV xs lo hi).length ≤ xs.length := by
  unfold cutV
  rw [List.length_take, List.length_drop]
  omega

/-! ### t < u, t + u -/
end
end L2

namespace L2
open PySem PySem.Spec PyProof.Rows

/-! ### places -/
/-- the place that an index of any sign means -/
def ixN (n : Nat) (i : Int) : Option Nat := if 0 ≤ i then (if i < n then some i.toNat else none) else if -(n : Int) ≤ i then some (i + n).toNat else none
def atI {α : Type} (xs : List α) (i : Int) : Option α := (ixN xs.length i).bind fun j => xs[j]?
theorem ixN_seq {n : Nat} {i : Int} {j : Nat} (h : ixN n i = some j) : seqIndex? i n = some j ∧ j < n ∧ -(n : Int) ≤ i ∧ i < n := by
  unfold ixN at h
  by_cases h0 : 0 ≤ i
  · rw [if_pos h0] at h
    by_cases h1 : i < n
    · rw [if_pos h1] at h
      have e : i.toNat = j := Option.some.inj h
      exact ⟨by rw [seqIndex_of h0 h1, e], by omega, by omega, h1⟩
    · rw [if_neg h1] at h; cases h
  · rw [if_neg h0] at h
    by_cases h1 : -(n : Int) ≤ i
    · rw [if_pos h1] at h
      have e : (i + n).toNat = j := Option.some.inj h
      exact ⟨by rw [seqIndex_neg (by omega) h1, e], by omega, h1, by omega⟩
    · rw [if_neg h1] at h; cases h
theorem atI_get {α : Type} {xs : List α} {i : Int} {v : α} (h : atI xs i = some v) : ∃ j, seqIndex? i xs.length = some j ∧ xs[j]? = some v ∧ j < xs.length ∧ -(xs.length : Int) ≤ i ∧ i < xs.length := by
  unfold atI at h
  cases e : ixN xs.length i with
  | none => rw [e] at h; cases h
  | some j =>
    rw [e] at h
    obtain ⟨h1, h2, h3, h4⟩ := ixN_seq e
    exact ⟨j, h1, h, h2, h3, h4⟩
theorem atI_nat {α : Type} {xs : List α} {j : Nat} {v : α} (h : xs[j]? = some v) : atI xs (j : Int) = some v := by
  have hj : j < xs.length := (List.getElem?_eq_some_iff.mp h).1
  have e : ixN xs.length (j : Int) = some j := by
    unfold ixN
    rw [if_pos (by omega), if_pos (by omega)]; simp
  unfold atI; rw [e]; exact h

/-! ### what may be subscripted -/
/-- what stands as an index of a plain subscript -/
def PlainIx (b : Expr) : Prop := ∀ o i, subscripted b false o i = operate [o, i] (getItem o i)
/-- a subscript by values -/
def IxR (X : Cx) (r : R2) : Prop :=
  ∀ (value slice : Expr) (pins : List (Addr × Obj)) (s : Shared) (σ : St) (H : Hp) (x y : V) (v u : Value) (Q : VK), Inv X pins σ H s → RelV x v → RelV y u → r x y H Q →
    subscripted slice false v u = operate [v, u] (getItem v u) → wpAny (model X.prog X.w) X.A (subscriptTail value slice v u) (EP X pins σ Q) X.xe s
/-- a call of a builtin's method by values: the receiver, the arguments -/
def MtR (X : Cx) (id : String) (r : V → List V → Hp → VK → Prop) : Prop :=
  ∀ (pins : List (Addr × Obj)) (s : Shared) (σ : St) (H : Hp) (x : V) (xs : List V) (v : Value) (us : List Value) (Q : VK), Inv X pins σ H s → RelV x v → Vals xs us → r x xs H Q →
    wpAny (model X.prog X.w) X.A (call (.builtin id) (v :: us)) (EP X pins σ Q) X.xe s
section
variable {X : Cx} {a b : Expr} {ta tb : TE} {pos : Pos}
/-- a[b] -/
theorem pe_ix {r : R2} (hr : IxR X r) (ha : PE X a ta) (hb : PE X b tb) (hs : PlainIx b) : PE X (.Subscript a b pos) (tOp r ta tb) := by
  intro pins s σ H Q I h
  exact Subscript_ (binT ha hb I h fun v u s2 x y H2 I2 rx ry q => hr a b pins s2 σ H2 x y v u Q I2 rx ry q (hs _ _))

def rIxL (K : PySem.W.Frag) : R2 := fun x y H Q => ∃ p xs i v, x = .ref p ∧ y = .int i ∧ SqL K H p xs ∧ atI xs i = some v ∧ Q v H
def rIxT (K : PySem.W.Frag) : R2 := fun x y H Q => ∃ p xs i v, x = .ref p ∧ y = .int i ∧ SqT K H p xs ∧ atI xs i = some v ∧ Q v H
theorem ix_list : IxR X (rIxL X.K) := by
  intro value slice pins s σ H x y v u Q I rx ry h hs
  obtain ⟨p, xs, i, z, rfl, rfl, hq, he, q⟩ := h
  cases rx
  obtain ⟨t, rfl⟩ := ry
  obtain ⟨its, r, pl, hz⟩ := I.list hq
  obtain ⟨j, h1, h2, h3, h4, h5⟩ := atI_get he
  obtain ⟨w, ew, rw'⟩ := r.get h2
  have hl := r.length
  have hn := line63
  have fin : EP X pins σ Q w s := ⟨z, H, I, rw', q⟩
  by_cases h0 : 0 ≤ i
  · have hj : i.toNat = j := by
      rw [seqIndex_of h0 h5] at h1
      exact Option.some.inj h1
    exact item_listR pl.isList h0 (by omega) (by rw [hj]; simpa using ew) fin hs
  · have hj : (i + (its.toArray.size : Int)).toNat = j := by
      rw [seqIndex_neg (by omega) h4] at h1
      rw [List.size_toArray, ← hl]
      exact Option.some.inj h1
    exact subscriptTail_builtinR (x := w) pl.isList.typeIs slot_list_getitem.lookup
      (wpAny_getItem_list_neg (Q := fun r s' => r = w ∧ EP X pins σ Q r s') pl.isList (by omega) (by rw [List.size_toArray] <;> omega) (by omega) (by rw [hj]; simpa using ew) ⟨rfl, fin⟩) hs
theorem ix_tup : IxR X (rIxT X.K) := by
  intro value slice pins s σ H x y v u Q I rx ry h hs
  obtain ⟨p, xs, i, z, rfl, rfl, hq, he, q⟩ := h
  cases rx
  obtain ⟨t, rfl⟩ := ry
  obtain ⟨its, r, pl, hz⟩ := I.tuple hq
  obtain ⟨j, h1, h2, h3, h4, h5⟩ := atI_get he
  obtain ⟨w, ew, rw'⟩ := r.get h2
  have hl := r.length
  have hn := line63
  have fin : EP X pins σ Q w s := ⟨z, H, I, rw', q⟩
  exact subscriptTail_builtinR (x := w) pl.typeIs slot_tuple_getitem.lookup
    (getItem_tuple (j := j) (Q := fun r s' => r = w ∧ EP X pins σ Q r s') pl (by omega) (by omega) (by rw [List.size_toArray, ← hl]; exact h1) (by simpa using ew) ⟨rfl, fin⟩) hs

/-! ### xs[i] = v, any sign -/

/-! ### slices -/
theorem slice_bounds (lo hi : Option Int) (n : Nat) : (sliceBounds lo hi none n).1 = ((HT.sIx n 0 lo : Nat) : Int) ∧ (sliceBounds lo hi none n).2.1 = ((HT.sIx n n hi : Nat) : Int) ∧ (sliceBounds lo hi none n).2.2 = 1 := by
  refine ⟨?_, ?_, rfl⟩
  · cases lo with
    | none => simp [sliceBounds, HT.sIx]
    | some i =>
      simp only [sliceBounds, HT.sIx, Option.getD_none, show (1 : Int) > 0 by decide, if_true]
      by_cases h : i < 0
      · simp only [h, if_true] <;> omega
      · simp only [h, if_false] <;> omega
  · cases hi with
    | none => simp [sliceBounds, HT.sIx]
    | some i =>
      simp only [sliceBounds, HT.sIx, Option.getD_none, show (1 : Int) > 0 by decide, if_true]
      by_cases h : i < 0
      · simp only [h, if_true] <;> omega
      · simp only [h, if_false] <;> omega
theorem slicePick_cut (its : List Value) (lo hi : Option Int) : slicePick its.toArray lo hi none = ((its.drop (HT.sIx its.length 0 lo)).take (HT.sIx its.length its.length hi - HT.sIx its.length 0 lo)).toArray := by
  obtain ⟨h1, h2, h3⟩ := slice_bounds lo hi its.toArray.size
  unfold slicePick
  rw [h1, h2, h3]
  simp only [sliceRange_one, pick_run, List.size_toArray] <;> rfl
/-- xs[lo:hi] of a list: a new list -/
def rSlL (K : PySem.W.Frag) : V → Option Int → Option Int → Hp → VK → Prop := fun x lo hi H Q => ∃ a xs, x = .ref a ∧ SqL K H a xs ∧ ∀ p, H p = none → Q (.ref p) (upd H p (.lst (cutV xs lo hi)))
theorem sl_list : SlR X (rSlL X.K) := by
  intro pins s σ H x v vl vu lo hi sl Q I rx hs pl pu h
  obtain ⟨a, xs, rfl, hx, q⟩ := h
  cases rx
  obtain ⟨its, r, ht, hz⟩ := I.list hx
  have hlen := r.length
  refine ⟨"list", _, slot_list_getitem.lookup, ht.isList.typeIs, ?_⟩
  refine wpAny_getItem_list_slice ht.isList hs pl pu .none (by simp) ?_ (by rw [List.size_toArray] <;> omega)
  rw [slicePick_cut, ← hlen]
  refine ⟨.ref s.heap.objs.size, _, I.laid (t' := s.toks) (o := .lst (cutV xs lo hi)) (fun b ob q => Heap.get?_push_of_some _ q) (Nat.le_refl _) ?_, rfl, q _ (I.hok.fresh (Nat.le_refl _))⟩
  exact ⟨Nat.le_trans (cutV_length xs lo hi) hz, _, 0, (r.drop (HT.sIx xs.length 0 lo)).take (HT.sIx xs.length xs.length hi - HT.sIx xs.length 0 lo), Heap.get?_push_size _ rfl⟩

/-! ### in, not in: flat items -/

/-! ### len, list(x), tuple(x) of any list or tuple that is read -/
theorem call_len_seq : CallR X (.builtin "len") (fun xs H Q => ∃ p ys, xs = [.ref p] ∧ (SqL X.K H p ys ∨ SqT X.K H p ys) ∧ Q (.int ys.length) H) := by
  intro pins s σ H xs us Q I r h
  obtain ⟨p, ys, rfl, hq, q⟩ := h
  obtain ⟨u, rfl, rx⟩ := vals1 r
  cases rx
  have hn := line63
  rcases hq with hq | hq
  · obtain ⟨its, r', pl, hz⟩ := I.list hq
    have hlen := r'.length
    exact Calls.call_len_list pl.isList (by simp only [List.size_toArray] <;> omega) ⟨.int ys.length, H, I.tok _, ⟨s.toks + 1, by rw [List.size_toArray, hlen]⟩, q⟩
  · obtain ⟨its, r', pl, hz⟩ := I.tuple hq
    have hlen := r'.length
    exact len_tuple pl (by simp only [List.size_toArray] <;> omega) ⟨.int ys.length, H, I.tok _, ⟨s.toks + 1, by rw [List.size_toArray, hlen]⟩, q⟩
theorem call_list_of : CallR X (.type "list") (fun xs H Q => ∃ p ys, xs = [.ref p] ∧ (SqL X.K H p ys ∨ SqT X.K H p ys) ∧ ∀ l, H l = none → Q (.ref l) (upd H l (.lst ys))) := by
  intro pins s σ H xs us Q I r h
  obtain ⟨p, ys, rfl, hq, q⟩ := h
  obtain ⟨u, rfl, rx⟩ := vals1 r
  cases rx
  have fin : ∀ (its : List Value), Vals ys its → ys.length ≤ sizeLine → ∀ (h' : Heap) (c' : Nat), (∀ b o', s.heap.get? b = some o' → h'.get? b = some o') →
      h'.get? s.heap.objs.size = some { cls := .type "list", dict := none, data := .seq its.toArray c', slots := #[] } → EP X pins σ Q (.ref s.heap.objs.size) { s with heap := h' } := fun its r' hz h' c' kp e =>
    ⟨.ref s.heap.objs.size, _, I.laid (t' := s.toks) kp (Nat.le_refl _) (show ObjOk X.prog X.w _ h' _ (.lst ys) from ⟨hz, its, c', r', e⟩), rfl, q _ (I.hok.fresh (Nat.le_refl _))⟩
  rcases hq with hq | hq
  · obtain ⟨its, r', pl, hz⟩ := I.list hq
    have hlen := r'.length
    obtain ⟨o, ho, hc, n, hd⟩ := pl.isList
    exact call_list_seq p (.inl rfl) ho hc hd (fun h' c' kp e => fin its r' hz h' c' kp e) (by simp only [List.size_toArray] <;> omega)
  · obtain ⟨its, r', pl, hz⟩ := I.tuple hq
    have hlen := r'.length
    obtain ⟨o, ho, hc, n, hd⟩ := pl
    exact call_list_seq p (.inr rfl) ho hc hd (fun h' c' kp e => fin its r' hz h' c' kp e) (by simp only [List.size_toArray] <;> omega)

/-! ### the call of a builtin's method: o.m(..) -/
/-- the value is of that builtin type -/
def tyV (K : PySem.W.Frag) (T : String) (x : V) (H : Hp) : Prop := match x with
  | .str _ => T = "str"
  | .int _ => T = "int"
  | .ref p => (T = "list" ∧ ∃ xs, SqL K H p xs) ∨ (T = "tuple" ∧ ∃ o, K.lookup p = some o ∧ o.cls = .type "tuple" ∧ o.dict = none) ∨
      (T = "dict" ∧ ((∃ kvs, H p = some (.dK kvs)) ∨ ∃ kvs, H p = some (.dT kvs))) ∨ (T = "set" ∧ ∃ S n, H p = some (.set S n))
  | _ => False
theorem tyV_is {pins : List (Addr × Obj)} {σ : St} {H : Hp} {s : Shared} {T : String} {x : V} {v : Value} (I : Inv X pins σ H s) (r : RelV x v) (ty : tyV X.K T x H) :
    s.TypeIs v T ∧ ∀ a, v = .ref a → ∃ ob, s.heap.get? a = some ob ∧ ob.dict = none := by
  cases x with
  | str z =>
    obtain ⟨t, rfl⟩ := r
    cases (show T = "str" from ty)
    exact ⟨typeIs_str s z t, fun _ e => nomatch e⟩
  | int i =>
    obtain ⟨t, rfl⟩ := r
    cases (show T = "int" from ty)
    exact ⟨typeIs_int s i t, fun _ e => nomatch e⟩
  | ref p =>
    cases r
    rcases ty with ⟨rfl, xs, hq⟩ | ⟨rfl, o, hk, hc, hd⟩ | ⟨rfl, hk⟩ | ⟨rfl, S, n, hk⟩
    · obtain ⟨its, _, pl, _⟩ := I.list hq
      refine ⟨pl.isList.typeIs, fun a e => ?_⟩
      cases e
      obtain ⟨o, n, e, c, hd, _⟩ := pl
      exact ⟨o, e, hd⟩
    · refine ⟨⟨o, I.kIn p o hk, hc⟩, fun a e => ?_⟩
      cases e
      exact ⟨o, I.kIn _ o hk, hd⟩
    · have z : ∃ o, s.heap.get? p = some o ∧ o.ExactDict := by
        rcases hk with ⟨kvs, hk⟩ | ⟨kvs, hk⟩
        · obtain ⟨_, _, _, _, o, _, _, e, ex, _⟩ := I.hok p _ hk
          exact ⟨o, e, ex⟩
        · obtain ⟨_, _, _, _, o, _, _, e, ex, _⟩ := I.hok p _ hk
          exact ⟨o, e, ex⟩
      obtain ⟨o, e, ex⟩ := z
      refine ⟨⟨o, e, ex.1⟩, fun a e2 => ?_⟩
      cases e2
      exact ⟨o, e, ex.2.1⟩
    · obtain ⟨o, _, _, _, e, ex, _⟩ := I.hok p _ hk
      refine ⟨⟨o, e, ex.1⟩, fun a e2 => ?_⟩
      cases e2
      exact ⟨o, e, ex.2.1⟩
  | _ => exact False.elim ty
def tBM (K : PySem.W.Frag) (T : String) (r : V → List V → Hp → VK → Prop) (to : TE) (t : TA) : TE := fun σ H Q => to σ H fun x H1 => tyV K T x H1 ∧ t σ H1 fun xs H2 => r x xs H2 Q
variable {o e : Expr} {es : List Expr} {to : TE} {t : TA} {name : Str} {apos cpos : Pos} {T id : String} {r : V → List V → Hp → VK → Prop}
theorem pe_bm (pa : PlainAttrs T) (slot : Slot T name id) (hty : typeOf (.builtin id) = pure (.type "method_descriptor")) (hm : MtR X id r) (ho : PE X o to) (ha : PA X (e :: es) t)
    (hbase : attributeBase o name X.env (eval o X.env) = eval o X.env := by rfl)
    (hfew : ((backTo cpos (starEach (e :: es) X.env)).all (fun x => !x.1) && (backToKw cpos (keywordEach [] X.env)).all (fun x => x.1.isSome)
      && decide ((e :: es).length + ([] : List Keyword).length + (if ([] : List Keyword).isEmpty then 0 else 1) < 30)) = true := by rfl)
    (hline : (apos.endLine == cpos.line) = true := by rfl) (hs : starEach (e :: es) X.env = (false, eval e X.env) :: starEach es X.env := by rfl) (hplain : (backTo cpos (starEach es X.env)).any (·.1) = false := by rfl) :
    PE X (.Call (.Attribute o name apos) (e :: es) [] cpos) (tBM X.K T r to t) := by
  intro pins s σ H Q I h
  refine wpAny_Call_method_late hbase hfew hline rfl (thn (ho pins s σ H _ I h) fun v s1 ⟨x, H1, I1, r1, ty, q1⟩ => ?_)
  obtain ⟨h1, h2⟩ := tyV_is I1 r1 ty
  refine ⟨T, id, pa, slot, hty, h1, h2, ?_⟩
  have hA := ha cpos pins s1 σ H1 _ I1 q1
  rw [hs] at hA ⊢
  refine Calls.callWith_builtin (by show (false || (backTo cpos (starEach es X.env)).any (·.1)) = false; rw [hplain] <;> rfl) (Calls.evalArgs_plain ?_)
  exact thn hA fun us s2 ⟨vs, H2, I2, r2, q2⟩ => hm pins s2 σ H2 x vs v us Q I2 r1 r2 q2
/- xs.append(e), list.index on a module's tuple .. are MtR facts of 06m -/
end
end L2

namespace L2
open PySem PySem.Spec PyProof.Rows

def MtM (X : Cx) (id : String) (r : V → List V → Hp → VK → Prop) : Prop :=
  ∀ (pins : List (Addr × Obj)) (s : Shared) (σ : St) (H : Hp) (x : V) (xs : List V) (v : Value) (us : List Value) (Q : VK), Inv X pins σ H s → RelV x v → Vals xs us → r x xs H Q →
    wpAny (model X.prog X.w) X.A (call (.builtin id) (v :: us)) (EP X pins σ Q) X.xe s

/-! ### lists of values -/
theorem Vals.one : ∀ {x : V} {us : List Value}, Vals [x] us → ∃ u, us = [u] ∧ RelV x u
  | _, _, .cons r .nil => ⟨_, rfl, r⟩
theorem Vals.two : ∀ {x y : V} {us : List Value}, Vals [x, y] us → ∃ u v, us = [u, v] ∧ RelV x u ∧ RelV y v
  | _, _, _, .cons r (.cons q .nil) => ⟨_, _, rfl, r, q⟩
theorem Vals.eraseIdx : ∀ {xs : List V} {us : List Value} (i : Nat), Vals xs us → Vals (xs.eraseIdx i) (us.eraseIdx i)
  | _, _, _, .nil => .nil
  | _, _, 0, .cons _ t => t
  | _, _, i + 1, .cons r t => .cons r (Vals.eraseIdx i t)
theorem len_erase {α : Type} : ∀ (l : List α) (i : Nat), (l.eraseIdx i).length ≤ l.length
  | [], _ => Nat.le_refl _
  | _ :: _, 0 => Nat.le_succ _
  | _ :: r, i + 1 => Nat.succ_le_succ (len_erase r i)

section
variable {X : Cx} {pins : List (Addr × Obj)} {σ : St} {H : Hp} {s : Shared} {l b : Addr} {xs ys zs : List V}

/-! ### the two steps: a tracked list is rewritten, a new list is laid -/
theorem Inv.lset {its its' : List Value} {n : Nat} {f : Array Value → Array Value} {t' : Nat} (I : Inv X pins σ H s) (hH : H l = some (.lst xs))
    (e : s.heap.get? l = some { cls := .type "list", data := .seq its.toArray n }) (hf : f its.toArray = its'.toArray) (hv : Vals ys its') (hz : ys.length ≤ sizeLine) :
    Inv X pins σ (upd H l (.lst ys)) { s with heap := s.heap.update l (Obj.mapSeq f), toks := t' } := by
  have q := PySem.IsL.update e f
  rw [hf] at q
  refine I.write (x := l) (e := l) (by rw [hH]; exact trivial) (.inl rfl) (fun b' u hb hu => (Heap.get?_update_other s.heap (Obj.mapSeq f) (Ne.symm hb)).trans hu) ⟨_, q⟩ ?_
  exact ⟨hz, its', _, hv, q⟩
theorem Inv.lnew {its : List Value} {t' : Nat} (I : Inv X pins σ H s) (hv : Vals ys its) (hz : ys.length ≤ sizeLine) :
    Inv X pins σ (upd H s.heap.objs.size (.lst ys)) { s with heap := s.heap.push { cls := .type "list", data := .seq its.toArray }, toks := t' } :=
  I.laid (fun _ _ q => Heap.get?_push_of_some _ q) (Nat.le_refl _) ⟨hz, its, 0, hv, Heap.get?_push_size _ rfl⟩
theorem Inv.fresh (I : Inv X pins σ H s) : H s.heap.objs.size = none := I.hok.fresh (Nat.le_refl _)
theorem Inv.lstM (I : Inv X pins σ H s) (hH : H l = some (.lst xs)) : xs.length ≤ sizeLine ∧ ∃ (its : List Value) (n : Nat), Vals xs its ∧ xs.length = its.length ∧ s.heap.get? l = some { cls := .type "list", data := .seq its.toArray n } := by
  obtain ⟨z, its, n, r, e⟩ := I.hok l _ hH
  exact ⟨z, its, n, r, r.length, e⟩

theorem notLongL {n : Nat} (h : n ≤ sizeLine) : Builtin.List.listTooLong n = false := by
  unfold Builtin.List.listTooLong
  exact decide_eq_false (by omega)
end

section
variable {X : Cx}

/-! ### methods -/
def rAppend : V → List V → Hp → VK → Prop := fun x vs H Q => ∃ l xs y, x = .ref l ∧ vs = [y] ∧ H l = some (.lst xs) ∧ xs.length < sizeLine ∧ Q .non (upd H l (.lst (xs ++ [y])))
theorem mt_append : MtM X "list.append" rAppend := by
  intro pins s σ H x vs v us Q I rx rv h
  obtain ⟨l, xs, y, rfl, rfl, hH, hz, q⟩ := h
  cases rx
  obtain ⟨u, rfl, ru⟩ := rv.one
  obtain ⟨z, its, n, r, hl, e⟩ := I.lstM hH
  refine call_meets F.slot_list_append ⟨_, e, rfl⟩ F.entry_list_append (F.args_list_append_2 _ _) (PySem.list_append l its.toArray n u (by rw [List.size_toArray]; omega)) ⟨e, ?_⟩
  refine ⟨.non, _, I.lset (its' := its ++ [u]) hH e (by simp) (r.append (.cons ru .nil)) ?_, rfl, q⟩
  rw [List.length_append, List.length_singleton]
  omega

def rExtend : V → List V → Hp → VK → Prop := fun x vs H Q => ∃ l b xs zs, x = .ref l ∧ vs = [.ref b] ∧ H l = some (.lst xs) ∧ H b = some (.lst zs) ∧ xs.length + zs.length ≤ sizeLine ∧ Q .non (upd H l (.lst (xs ++ zs)))
theorem mt_extend : MtM X "list.extend" rExtend := by
  intro pins s σ H x vs v us Q I rx rv h
  obtain ⟨l, b, xs, zs, rfl, rfl, hH, hB, hz, q⟩ := h
  cases rx
  obtain ⟨u, rfl, ru⟩ := rv.one
  cases ru
  obtain ⟨z, its, n, r, hl, e⟩ := I.lstM hH
  obtain ⟨z2, its2, n2, r2, hl2, e2⟩ := I.lstM hB
  have hsz : its.toArray.size + its2.toArray.size ≤ sizeLine := by rw [List.size_toArray, List.size_toArray]; omega
  have hlong : ¬ (!its.toArray.isEmpty && Builtin.List.listTooLong (its.toArray.size + its2.toArray.size)) = true := by
    rw [notLongL hsz, Bool.and_false]
    exact Bool.false_ne_true
  refine call_meets F.slot_list_extend ⟨_, e, rfl⟩ F.entry_list_extend (F.args_list_extend_2 _ _)
    (AutoSeq1.list_extend_list_list_0 l its.toArray n b its2.toArray n2 hlong (by rw [List.size_toArray]; omega) (by omega)) ⟨e, e2, ?_⟩
  refine ⟨.non, _, I.lset (its' := its ++ its2) hH e (by simp) (r.append r2) ?_, rfl, q⟩
  rw [List.length_append]
  omega


def rPopAt : V → List V → Hp → VK → Prop := fun x vs H Q => ∃ l xs i k y, x = .ref l ∧ vs = [.int i] ∧ H l = some (.lst xs) ∧ -(2 ^ 63) ≤ i ∧ i < 2 ^ 63 ∧ seqIndex? i xs.length = some k ∧ xs[k]? = some y ∧ Q y (upd H l (.lst (xs.eraseIdx k)))
theorem mt_popAt : MtM X "list.pop" rPopAt := by
  intro pins s σ H x vs v us Q I rx rv h
  obtain ⟨l, xs, i, k, y, rfl, rfl, hH, h1, h2, hk, hy, q⟩ := h
  cases rx
  obtain ⟨u, rfl, ru⟩ := rv.one
  obtain ⟨t, rfl⟩ := ru
  obtain ⟨z, its, n, r, hl, e⟩ := I.lstM hH
  obtain ⟨w, hw, rw'⟩ := r.get hy
  refine call_meets F.slot_list_pop ⟨_, e, rfl⟩ F.entry_list_pop (F.args_list_pop_2 _ _)
    (MeetsSeq.list_pop_at l its.toArray n i t k w (fitsIndex_both h1 h2) (by rw [List.size_toArray, ← hl]; exact hk) (by rw [← Array.getElem?_toList]; exact hw) (by rw [List.size_toArray]; omega)) ⟨e, ?_⟩
  refine ⟨y, _, I.lset (its' := its.eraseIdx k) hH e ?_ (r.eraseIdx k) ?_, rw', q⟩
  · show its.toArray.eraseIdxIfInBounds k = (its.eraseIdx k).toArray
    rw [List.eraseIdxIfInBounds_toArray]
  · have := len_erase xs k
    omega



/-! ### list + list, list += list, list * int -/
def rCat : R2 := fun x y H Q => ∃ l b xs zs, x = .ref l ∧ y = .ref b ∧ H l = some (.lst xs) ∧ H b = some (.lst zs) ∧ xs.length + zs.length ≤ sizeLine ∧ ∀ p, H p = none → Q (.ref p) (upd H p (.lst (xs ++ zs)))
theorem op_cat : OpR X (binaryOp .Add) rCat := by
  intro pins s σ H x y v u Q I rx ry h
  obtain ⟨l, b, xs, zs, rfl, rfl, hH, hB, hz, q⟩ := h
  cases rx
  cases ry
  obtain ⟨z, its, n, r, hl, e⟩ := I.lstM hH
  obtain ⟨z2, its2, n2, r2, hl2, e2⟩ := I.lstM hB
  refine PySem.P.add_list e e2 ?_ (by rw [List.size_toArray, List.size_toArray]; omega)
  have ea : its.toArray ++ its2.toArray = (its ++ its2).toArray := by simp
  rw [ea]
  exact ⟨.ref _, _, I.lnew (t' := s.toks) (r.append r2) (by rw [List.length_append]; omega), rfl, q _ I.fresh⟩

/-! ### del xs[i] -/
end

/-! ### xs[a:b] = ys -/
section
variable {prog : Program} {w : World} {A : Around} {E : Value → Shared → Prop} {s : Shared}
theorem bounds_run {a c n : Nat} (hac : a ≤ c) (hc : c ≤ n) : sliceBounds (some (a : Int)) (some (c : Int)) none n = ((a : Int), (c : Int), 1) := by
  simp only [sliceBounds, Option.getD_none]
  have h1 : ¬ ((a : Int) < 0) := by omega
  have h2 : ¬ ((c : Int) < 0) := by omega
  simp only [h1, h2, if_false, show (1 : Int) > 0 by decide, if_true]
  congr 1
  · omega
  · congr 1; omega
set_option maxRecDepth 100000 in
/-- list.__setitem__ with a slice of step one and another list -/
theorem setItem_slice {l b sl : Addr} {items new : Array Value} {n n2 : Nat} {vl vu : Value} {a c : Nat} {Q : Unit → Shared → Prop}
    (e : s.heap.get? l = some { cls := .type "list", data := .seq items n }) (e2 : s.heap.get? b = some { cls := .type "list", data := .seq new n2 }) (hne : l ≠ b)
    (hs : s.heap.IsSliceOf sl vl vu .none) (pl : IsPart vl (some (a : Int))) (pu : IsPart vu (some (c : Int))) (hac : a ≤ c) (hc : c ≤ items.size)
    (hsz : items.size + new.size ≤ sizeLine) (h : Q () { s with heap := s.heap.update l (Obj.mapSeq fun xs => xs.extract 0 a ++ new ++ xs.extract c xs.size) }) :
    wpAny (model prog w) A (setItem (.ref l) (.ref sl) (.ref b)) Q E s := by
  have hl : s.heap.IsList l items := PySem.IsL.isList e
  have hb : s.heap.IsList b new := PySem.IsL.isList e2
  obtain ⟨os, hos, hcs, hds⟩ := id hs
  have hTs : s.TypeIs (.ref sl) "slice" := ⟨os, hos, hcs⟩
  have hstep : ¬ ((rawPart none == rawInt 0) = true) := Bool.false_ne_true
  have hsame : Builtin.List.listSameRef (.ref l) (.ref b) = false := by
    unfold Builtin.List.listSameRef
    exact beq_eq_false_iff_ne.mpr hne
  have hmax : (max (a : Int) (c : Int)).toNat = c := by omega
  have hz' : ((fun xs : Array Value => xs.extract 0 a ++ new ++ xs.extract c xs.size) items).size ≤ sizeLine + 1 := by
    simp only [Array.size_append, Array.size_extract]
    omega
  unfold setItem
  try with_reducible refine wpAny_holding ?_
  first | refine wpAny_bind (wpAny_pure ?_) | skip
  refine wpAny_bind (wpAny_sequenceKey hl.typeIs (by decide) ?_)
  refine wpAny_bind (wpAny_callSpecial?_slot (name := Str.ofString "__setitem__") hl.typeIs slot_list_setitem
    (wpAny_call_entry slot_list_setitem hl.typeIs entry_list_setitem ?_ (args_list_setitem _ _ _)))
  show wpAny _ _ (Builtin.List.listSubscript? (.ref sl) >>= _) _ _ s
  refine wpAny_bind ?_
  unfold Builtin.List.listSubscript?
  refine wpAny_bind (wpAny_specialOf hTs slice_no_index ?_)
  simp only [Option.isNone_none, if_true]
  refine wpAny_pure ?_
  show wpAny _ _ (typeOf (.ref sl) >>= _) _ _ s
  refine wpAny_bind (wpAny_typeOf hTs ?_)
  first
    | rw [if_neg (by decide)]
    | refine PySem.W.KFB.if_not (by decide) ?_
  rw [listSliceParts_eq]
  refine wpAny_bind (wpAny_bind (wpAny_field hos hds (x := .none) rfl (wpAny_bind (wpAny_listPart .none ?_))))
  rw [if_neg hstep]
  refine wpAny_bind (wpAny_field hos hds (x := vl) rfl (wpAny_bind (wpAny_listPart pl ?_)))
  refine wpAny_bind (wpAny_field hos hds (x := vu) rfl (wpAny_bind (wpAny_listPart pu (wpAny_pure ?_))))
  first
    | simp only [hsame, Bool.false_eq_true, if_false]
    | refine PySem.W.KFB.if_not hsame ?_
    | (dsimp only
       rw [if_neg (by rw [hsame]; exact Bool.false_ne_true)])
  refine wpAny_bind (m := Builtin.List.listAllItems (.ref b) "must assign iterable to extended slice") ?_
  unfold Builtin.List.listAllItems
  refine wpAny_bind (wpAny_typeOf hb.typeIs ?_)
  first
    | refine PySem.W.KFB.if_so (by decide) ?_
    | rw [if_pos (by decide)]
    | simp only [beq_self_eq_true, Bool.true_or, if_true]
  unfold Builtin.List.listItems
  refine wpAny_bind (wpAny_seqItems e2 rfl (wpAny_pure ?_))
  refine wpAny_bind (wpAny_bind (wpAny_seqItems e rfl (wpAny_pure ?_)))
  refine wpAny_bind (wpAny_of_eq ((sliceIndices_raw (some (a : Int)) (some (c : Int)) none items.size (by simp)).trans (congrArg (pure : Int × Int × Int → Sem (Int × Int × Int)) (bounds_run hac hc))) ?_)
  show wpAny _ _ (if ((1 : Int) == 1) = true then _ else _) _ _ s
  rw [if_pos (by decide)]
  refine wpAny_bind (wpAny_rule ?_)
  first
    | simp only [notLongL hsz, Bool.false_eq_true, if_false]
    | refine PySem.W.KFB.if_not (notLongL hsz) ?_
  first | refine wpAny_bind (wpAny_pure ?_) | skip
  show wpAny _ _ (updateSeq l (fun xs => xs.extract 0 ((a : Int)).toNat ++ new ++ xs.extract (max (a : Int) (c : Int)).toNat xs.size) >>= _) _ _ s
  rw [hmax, Int.toNat_natCast]
  refine wpAny_bind (wpAny_updateSeq (hz := Nat.le_trans (Nat.le_add_right _ _) hsz) (_hz' := hz') e rfl ?_)
  refine wpAny_bind (wpAny_letGo ?_)
  first
    | exact wpAny_bind (wpAny_pure (wpAny_pure ⟨.none, rfl, wpAny_pure h⟩))
    | exact wpAny_pure ⟨.none, rfl, wpAny_pure h⟩
end

section
variable {X : Cx}
end
end L2

namespace Att
open PySem PySem.W PySem.Calls PyProof.Rows

/-! ### the script -/
theorem ints_of_wellAll {P : Params} {h : Heap} : ∀ (ns : List Int) (vs : List Value), WellAll P h vs (ns.map WData.int) → IntsAre vs ns := by
  intro ns
  induction ns with
  | nil =>
    intro vs w
    rw [List.map_nil] at w
    cases w
    exact .nil
  | cons n ns ih =>
    intro vs w
    rw [List.map_cons] at w
    cases w with
    | cons a b =>
      cases a
      exact .cons _ _ (ih _ b)

theorem script_of {l : OpenLaw} {n : Nat} (hn : l.most = some n) {P : Params} {h : Heap} {args : List WData} {vals : List Value}
    (hpre : l.row.toRowW.claim.pre args = true) (hwl : WellAll P h vals args) :
    ∃ a vs ns, vals = [Value.ref a] ∧ args = [WData.list (ns.map WData.int)] ∧ h.get? a = some { cls := .type "list", data := .seq vs.toArray } ∧ IntsAre vs ns ∧ ns.length ≤ n := by
  have hsh : WShape.hasAll [] args [.list .int] = true := (pre_splitW hpre).1
  have hc : l.pre.holds [] { args := args } = true := (pre_splitW hpre).2
  obtain ⟨d, r, rfl, h1, h2⟩ := hasAllW_cons hsh
  obtain rfl := hasAllW_nil h2
  obtain ⟨xs, rfl, h3⟩ := hasW_list h1
  obtain ⟨ns, rfl⟩ := items_int h3
  have hlen : ns.length ≤ n := by
    unfold OpenLaw.pre at hc
    have h4 : (WTm.not (.lt (.lit (.int (n : Int))) (.len (.arg 0)))).holds [] { args := [.list (ns.map .int)] } = true := by
      have h4 := (holds_andW hc).1
      rw [hn] at h4
      exact h4
    have h5 := condW_of h4 (w_not (w_lt w_lit (w_len_list (w_arg rfl))))
    rw [List.length_map] at h5
    refine Nat.le_of_not_lt fun q => ?_
    have q' : (n : Int) < ((ns.length : Nat) : Int) := by omega
    first
      | (rw [decide_eq_true q'] at h5; exact absurd h5 (by decide))
      | (simp at h5; omega)
  cases hwl with
  | cons w1 w2 =>
    cases w2
    cases w1 with
    | list ho hall => exact ⟨_, _, ns, rfl, rfl, ho, ints_of_wellAll ns _ hall, hlen⟩

theorem post_true (l : OpenLaw) (args : List WData) : l.row.toRowW.claim.post args (.bool true) args = true :=
  postW_of (r := l.row.toRowW) (X := (true == true))
    (show WShape.has [] (.bool true) .bool = true by first | rfl | decide | simp [WShape.has, WShape.arms, WShape.armsAll])
    (show (WTm.eq .res (.lit (.bool true))).value [] { args := args, res := some (.bool true), after := args } = some (.bool (true == true)) from w_eq_bool (w_res rfl) w_lit) rfl

/-! ### the attachment: holds_open's last premise (the goal 'hc' behind k_head) from a wpAny of the law's body -/

/-- the same from a codeAny of the CALL (for a layer whose function contracts speak of calls) -/
theorem attach_call {l : OpenLaw} {n : Nat} {q : Program} {loose : List Str} {XP : (Str → Option Value) → Heap → Prop} {YP : World → Heap → Prop} {d : DefRec}
    (hn : l.most = some n) (hdf : d.params.defaults = [])
    (call : ∀ (w : World) (s₀ s₁ : Shared) (mg mb : Str → Option Value) (fa : Addr) (o : Obj) (pm cd doc : Value) (a : Addr) (vs : List Value) (ns : List Int),
      Ground q loose [] XP w s₀ mg mb s₁.heap → YP w s₁.heap →
      s₁.heap.get? fa = some o → o.data = .func (docDef d.name d.params d.body d.scope pm cd doc) → s₁.heap.CodeRec cd d.name → mg d.name = some (.ref fa) →
      s₁.heap.get? a = some { cls := .type "list", data := .seq vs.toArray } → IntsAre vs ns → ns.length ≤ n → s₁.gens = #[] →
      codeAny (model l.prog w) callerA (.call (.ref fa) ⟨[.ref a], []⟩) (fun r s' => r = .ok (.ret (.bool true)) ∧ OldK s₁.heap s'.heap ∧ s'.os = s₁.os ∧ AllBare s'.gens) s₁) :
    WalkO q loose XP YP l.row.toRowW d [] (fun f vs => PySem.call f vs) := by
  intro w s₀ s₁ mg mb G Y fa o pm cd doc dV kV ho hd hcd hD hmg hg args vals as hpre hlay hrd hwl hlo
  obtain rfl : dV = .none := Dflts.none hD hdf
  obtain rfl : kV = .none := Dflts.noKw hD
  obtain ⟨a, vs, ns, rfl, rfl, hobj, hints, hlen⟩ := script_of hn hpre hwl
  refine enter_call (codeAny_mono (call w s₀ s₁ mg mb fa o pm cd doc a vs ns G Y ho (fd_plain hd) hcd hmg hobj hints hlen hg) fun r s' hq => ?_)
  obtain ⟨rfl, h2, h3, h4⟩ := hq
  exact ⟨.inl ⟨.bool true, .bool true, [], rfl, fun _ => rfl, .bool true, post_true l _, fun _ => ⟨List.Pairwise.nil, fun _ hm => (nomatch hm)⟩⟩, h2, h3, h4⟩


/-! ### rules over ANY heap (no ledger) from facts about the written part K: the library's own take a ledger (News) for what they write -/
section
variable {prog : Program} {w : World} {A : Around} {E : Value → Shared → Prop} {s : Shared} {K : Frag}





/-! the whole heap as the ledger: makes every rule that writes through a ledger a rule over any heap -/

end
end Att

namespace L2
open PySem PySem.Spec PyProof.Rows

theorem vals_ints : ∀ {vs : List Value} {ns : List Int}, IntsAre vs ns → Vals (ns.map V.int) vs
  | _, _, .nil => .nil
  | _, _, .cons n t h => .cons ⟨t, rfl⟩ (vals_ints h)

/-- nothing is tracked but the script, known to the object (or it is an object of the module) -/
def Only (H : Hp) : Prop := ∀ b, H b = none ∨ ∃ o xs, H b = some (.frz o (.lst xs))

/-- THE HEAD: the law's promise, at the heap behind the top. F, the promise of the law's def, may use that base is part of the heap (so K.In base, base.Ns mainGlobals mg stand in Mod) -/
theorem law_call {P : Program} {w : World} {K : PySem.W.Frag} {mg mb : Str → Option Value} {CX : CXT} {k : Nat} {fa a : Addr} {fd : FuncData} {x : Str} {sp : Sp} {s₁ : Shared} {vs : List Value} {ns : List Int}
    (KX : K.In s₁.heap) (hns : s₁.heap.Ns mainGlobals mg) (hb : s₁.heap.Ns builtinsNs mb) (hbb : ∀ x : Str, x ≠ "__name__" → mb x = bootBuiltins x) (hlim : s₁.heap.NoLimit) (hg : s₁.gens = #[])
    (ha : s₁.heap.get? a = some { cls := .type "list", data := .seq vs.toArray }) (hi : IntsAre vs ns) (hl : ns.length ≤ sizeLine) (hr : Room k callerA)
    (F : ∀ base : Heap, K.In base → base.Ns mainGlobals mg → FnOk P w K mg base CX k fa fd [x] sp) (hbind : ∀ (s : Shared) (u : Value), BindsTo s fd ⟨[u], []⟩ [(x, u)])
    (hsp : ∀ H : Hp, Only H → SqL K H a (ns.map V.int) → sp [.ref a] H (fun v _ => v = .bl true) fun _ _ _ => False)
    (hCX : ∀ H e s', CX [] H s₁ (fun _ _ _ => False) e s' → False) :
    codeAny (model P w) callerA (.call (.ref fa) ⟨[.ref a], []⟩) (fun r s' => r = .ok (.ret (.bool true)) ∧ OldK s₁.heap s'.heap ∧ s'.os = s₁.os ∧ AllBare s'.gens) s₁ := by
  have rv := vals_ints hi
  have lenV := hi.length
  -- from an abstract heap in which nothing but the script may be tracked
  have core : ∀ H : Hp, Only H → SqL K H a (ns.map V.int) → HOk P w H s₁.heap → (∀ b, H b ≠ none → b = a) → (H a ≠ none → K.lookup a = none) →
      codeAny (model P w) callerA (.call (.ref fa) ⟨[.ref a], []⟩) (fun r s' => r = .ok (.ret (.bool true)) ∧ OldK s₁.heap s'.heap ∧ s'.os = s₁.os ∧ AllBare s'.gens) s₁ := by
    intro H hO hS hok hA hK
    have base_of : ∀ {b : Addr} {o : Obj}, s₁.heap.get? b = some o → H b = none → (hidT s₁.heap H).get? b = some o := fun e n => hidT_get e n
    have noA : ∀ {b : Addr} {o : Obj} {es : Array DictEntry} {ep : Nat}, s₁.heap.get? b = some o → o.data = .dict es ep → H b = none := fun {b o es ep} e d => by
      cases q : H b with
      | none => rfl
      | some u =>
        have e' : b = a := hA b (by rw [q]; simp)
        subst e'
        rw [ha] at e; cases e
        have d' : Data.seq vs.toArray _ = Data.dict es ep := d
        cases d'
    have nsK : ∀ {b : Addr} {m : Str → Option Value}, s₁.heap.Ns b m → (hidT s₁.heap H).Ns b m := fun {b m} ⟨o, es, ep, e, d, r⟩ => ⟨o, es, ep, base_of e (noA e d), d, r⟩
    have hKb : K.In (hidT s₁.heap H) := fun b o e => base_of (KX b o e) (by
      cases q : H b with
      | none => rfl
      | some u =>
        have e' : b = a := hA b (by rw [q]; simp)
        subst e'
        rw [hK (by rw [q]; simp)] at e; cases e)
    have hM : Mod K mg (hidT s₁.heap H) := ⟨hKb, nsK hns, ⟨mb, nsK hb, hbb⟩, let ⟨mc, h1, h2⟩ := hlim; ⟨mc, nsK h1, h2⟩⟩
    have e0 : Env0 P w K mg (hidT s₁.heap H) callerA [] s₁ H := ⟨rfl, hM, fun b o e => of_hidT e, Nat.le_of_eq (hidT_size _ _), trivial, fun b hb => absurd (show b ∈ ([] : List Addr) from hb) (by simp), hok, .of_eq hg⟩
    refine codeAny_mono ((F _ hKb (nsK hns)).run callerA [] s₁ H ⟨[.ref a], []⟩ [.ref a] [.ref a] _ _ hr e0 (hbind s₁ (.ref a)) (.cons rfl .nil) (hsp H hO hS)) fun r s' h => ?_
    cases r with
    | error e => exact (hCX H e s' h).elim
    | ok fl =>
      cases fl with
      | next => exact False.elim h
      | brk => exact False.elim h
      | cont => exact False.elim h
      | ret u =>
        obtain ⟨v, H', os, bare, un, hok', r', q⟩ := h
        have q' : v = .bl true := q
        subst q'
        obtain rfl : u = Value.bool true := r'
        refine ⟨rfl, OldK.of_keep fun b o e => ?_, os, bare⟩
        cases q : H b with
        | none => exact un.keep b o e q (by intro z; exact absurd (show b ∈ ([] : List Addr) from z) (by simp)) (by simp)
        | some u =>
          rcases hO b with z | ⟨ob, xs, z⟩
          · rw [q] at z; cases z
          · have z2 := un.frzs b ob _ z
            obtain ⟨e1, _⟩ := hok b _ z
            obtain ⟨e2, _⟩ := hok' b _ z2
            rw [e] at e1; cases e1
            exact e2
  cases hk : K.lookup a with
  | some o =>
    -- the script is one of the module's own objects
    have e := KX a o hk
    rw [ha] at e
    cases e
    refine core (fun _ => none) (fun _ => .inl rfl) (.inr ⟨_, vs.toArray, _, hk, rfl, rfl, rfl, by rw [List.size_toArray, lenV]; exact hl, by simpa using rv⟩) (fun b u z => by have z' : (none : Option HO) = some u := z; cases z') (fun b z => absurd rfl z) fun z => absurd rfl z
  | none =>
    refine core (fun b => if b = a then some (.frz { cls := .type "list", data := .seq vs.toArray } (.lst (ns.map V.int))) else none) (fun b => ?_) (.inl (.inr ⟨{ cls := .type "list", data := .seq vs.toArray }, if_pos rfl⟩)) (fun b u z => ?_) (fun b z => ?_) fun _ => hk
    · by_cases hb : b = a
      · exact .inr ⟨_, _, if_pos hb⟩
      · exact .inl (if_neg hb)
    · by_cases hb : b = a
      · have z' := (if_pos hb).symm.trans z
        cases z'
        subst hb
        exact ⟨ha, by rw [List.length_map]; exact hl, vs, _, rv, ha⟩
      · have z' := (if_neg hb).symm.trans z
        cases z'
    · by_cases hb : b = a
      · exact hb
      · exact absurd (if_neg hb) z
end L2

namespace L2
open PySem PySem.Spec PyProof.Rows


/-- the goal that k_head leaves (case hc), from the law's promise. F gives the function object fd (K's own) once, then the promise over every base -/
theorem walk_of {l : PySem.W.OpenLaw} {n k : Nat} {q : Program} {loose : List Str} {XP : (Str → Option Value) → Heap → Prop} {YP : World → Heap → Prop} {d : DefRec} {K : Params → PySem.W.Frag} {CX : World → CXT} {sp : World → Sp} {x : Str}
    (hn : l.most = some n) (hn2 : n ≤ sizeLine) (hdf : d.params.defaults = []) (hr : Room k callerA)
    (hY : ∀ (w : World) (h : Heap), YP w h → (K w.params).In h)
    (F : ∀ (w : World) (mg : Str → Option Value) (fa : Addr) (h : Heap), (K w.params).In h → h.Ns mainGlobals mg → mg d.name = some (.ref fa) →
      ∃ fd : FuncData, (∀ (s : Shared) (u : Value), BindsTo s fd ⟨[u], []⟩ [(x, u)]) ∧
        ∀ base : Heap, (K w.params).In base → base.Ns mainGlobals mg → FnOk l.prog w (K w.params) mg base (CX w) k fa fd [x] (sp w))
    (hsp : ∀ (w : World) (H : Hp) (a : Addr) (ns : List Int), ns.length ≤ n → Only H → SqL (K w.params) H a (ns.map V.int) → sp w [.ref a] H (fun v _ => v = .bl true) fun _ _ _ => False)
    (hCX : ∀ (w : World) (H : Hp) (s : Shared) (e : Value) (s' : Shared), CX w [] H s (fun _ _ _ => False) e s' → False) :
    PySem.W.WalkO q loose XP YP l.row.toRowW d [] (fun f vs => PySem.call f vs) := by
  refine Att.attach_call hn hdf fun w s₀ s₁ mg mb fa o pm cd doc a vs ns G Y ho hd hcd hmg hobj hints hlen hg => ?_
  have KX := hY w _ Y
  obtain ⟨fd, hb, hF⟩ := F w mg fa _ KX G.T.g hmg
  exact law_call KX G.T.g G.T.b G.T.builtins G.T.nolimit hg hobj hints (Nat.le_trans hlen hn2) hr hF hb (fun H hO hS => hsp w H a ns hlen hO hS) fun H e s' => hCX w H s₁ e s'
end L2

/- THE LAST THEOREM (shape; LID, My.* are yours):
   My.Adr: a structure of the addresses that your layer names (classes, functions); My.Txt K t: a structure (Prop) of the equations over K;
   My.txt_mk : {K} {implicit addresses ..} (e1 : nsIn K mainGlobals "law" = some (some (.ref f))) (e2 : K.lookup f = some ⟨oc, od, .func (fnOf "law" "law" params body scope dV kV doc pm an cdv ct), sl⟩) (e3 : codeIn K cdv "law" = true) .. : ∃ t, My.Txt K t

set_option maxRecDepth 100000 in
set_option maxHeartbeats 0 in
theorem PySem.Challenge.cw_LID_holds : PySem.Challenge.rw_LID.Holds := by
  w_on; o_law; k_head; (case hw => w_witness2)
  k_fill
  refine L2.walk_of (l := PySem.Challenge.rw_LID) (n := 63) (k := 40) (x := "script") (CX := fun w => ..) (sp := fun _ => My.sp_law) rfl (by decide) rfl ⟨rfl, by decide, by decide⟩ (fun w h Y => PySem.W.kIn_of Y) ?F ?S ?C
  case F =>
    intro w mg fa h KX G hmg
    have T : ∃ t, My.Txt (L2.KOf KX) t := by
      dsimp only [L2.KOf]                          -- K must stand as «<heap const> w.params» for k_is
      refine' My.txt_mk ?e1 ?e2 ?e3 ..
      (case e1 => PySem.W.k_is)                    -- in the order: a name -> its address -> its object -> its parts
      (case e2 => PySem.W.k_is)
      ..
    obtain ⟨t, T⟩ := T
    have e0 := hmg.symm.trans (PySem.W.mg_of KX G T.law)
    cases e0                                       -- fa is the law's own address
    exact ⟨_, fun s u => .of_eq rfl, fun base kb nb => My.law_fn T kb nb⟩     -- if «.of_eq rfl» comes too early: refine' ⟨_, ?b, fun base kb nb => My.law_fn T kb nb⟩; exact fun s u => .of_eq rfl
  case S => exact fun w H a ns hl hO hS => ..
  case C => exact ..
(the tactic k_is has no namespace: write k_is) -/

/-! SHORT WORDS over the layer: a def of the text, its body, what a loop and a test want. -/
namespace L2
open PySem PySem.Spec PyProof.Rows

/-! ### the text by places -/
def defArgs (s : Stmt) : Arguments := match s with
  | .FunctionDef _ a _ _ _ _ _ _ _ _ => a
  | _ => { posonlyargs := [], args := [], vararg := none, kwonlyargs := [], kw_defaults := [], kwarg := none, defaults := [] }
def defBody (s : Stmt) : List Stmt := match s with
  | .FunctionDef _ _ b _ _ _ _ _ _ _ => b
  | _ => []
def defScope (s : Stmt) : Scope := match s with
  | .FunctionDef _ _ _ _ _ _ sc _ _ _ => sc
  | _ => { kind := .function, names := [], isGenerator := false, isCoroutine := false }

/-! ### no exception leaves a def -/
abbrev CX0 : CXT := fun _ _ _ _ _ _ => False
abbrev E0 : XK := fun _ _ _ => False
theorem pass0 {X : Cx} : Passes CX0 X E0 := fun _ _ _ _ _ _ _ h => h.elim

/-! ### a def (or method) of the text as it stands behind the top -/
structure Fun (K : PySem.W.Frag) (x qual : Str) (st : Stmt) (f : Addr) (fd : FuncData) : Prop where
  ex : ∃ (oc : Value) (od : Option Addr) (kV doc pm : Value) (an : Option Addr) (cdv ct : Value) (osl : Array (Option Value)),
    fd = PySem.W.fnOf x qual (defArgs st) (defBody st) (defScope st) .none kV doc pm an cdv ct ∧ K.lookup f = some ⟨oc, od, .func fd, osl⟩ ∧ PySem.W.codeIn K cdv qual = true
  kp : PySem.W.keepIn K (.ref f) = true
section
variable {P : Program} {w : World} {K : PySem.W.Frag} {mg : Str → Option Value} {base : Heap}
/-- THE RULE for a def: its body as a term of rules, and the reading of that term -/
theorem Fun.ok {x qual : Str} {st : Stmt} {f : Addr} {fd : FuncData} {N ps : List Str} {k : Nat} {sp : Sp} (F : Fun K x qual st f fd) (S : FnScope N ps (defScope st)) (len : ∀ vs H Q E, sp vs H Q E → vs.length = ps.length)
    (hbody : ∀ (cdv : Value) (A : Around) (outer : List Env) (s : Shared) (H : Hp) (vs : List V) (Q : VK) (E : XK), Room k (A.deeper (envOfC qual (defScope st) s.heap.objs.size f cdv)) → sp vs H Q E →
      ∃ t, PSs (cxOf CX0 P w K mg base N qual (defScope st) f cdv A outer s H E).nox (defBody st) t ∧ t { nx := fun _ H' => Q .non H', rt := Q } (start N vs) H) : FnOk P w K mg base CX0 (k + 1) f fd ps sp := by
  obtain ⟨oc, od, kV, doc, pm, an, cdv, ct, osl, rfl, lk, hcd⟩ := F.ex
  refine fn_of lk hcd S len fun A outer s H vs Q E hr hsp => ?_
  obtain ⟨t, h, q⟩ := hbody cdv A outer s H vs Q E hr hsp
  exact ⟨t, h.nox, q⟩
/-- how its arguments bind (no defaults): h is «fun _ _ _ _ _ _ us hl => match us, hl with | [_, _], _ => rfl», one _ a parameter -/
theorem Fun.binds {x qual : Str} {st : Stmt} {f : Addr} {fd : FuncData} {ps : List Str} (F : Fun K x qual st f fd)
    (h : ∀ (kV doc pm : Value) (an : Option Addr) (cdv ct : Value) (us : List Value), us.length = ps.length → bindArgs (PySem.W.fnOf x qual (defArgs st) (defBody st) (defScope st) .none kV doc pm an cdv ct) ⟨us, []⟩ = pure (ps.zip us)) : Binds K fd ps [] := by
  obtain ⟨oc, od, kV, doc, pm, an, cdv, ct, osl, rfl, lk, hcd⟩ := F.ex
  exact .all (h kV doc pm an cdv ct)
theorem fun_mk {x qual : Str} {st : Stmt} {f : Addr} {oc : Value} {od an : Option Addr} {osl : Array (Option Value)} {kV doc pm cdv ct : Value} (l : K.lookup f = some ⟨oc, od, .func (PySem.W.fnOf x qual (defArgs st) (defBody st) (defScope st) .none kV doc pm an cdv ct), osl⟩)
    (c : PySem.W.codeIn K cdv qual = true) (k : PySem.W.keepIn K (.ref f) = true) : Fun K x qual st f (PySem.W.fnOf x qual (defArgs st) (defBody st) (defScope st) .none kV doc pm an cdv ct) := ⟨⟨oc, od, kV, doc, pm, an, cdv, ct, osl, rfl, l, c⟩, k⟩
end
theorem small1000 {n : Nat} (h : n ≤ 1000) : n < sizeLine := Nat.lt_of_le_of_lt h (by decide)

/-! ### expressions in short: the name that stands in the i-th slot -/
section
variable {X : Cx}
theorem pv (i : Nat) {x : Str} {pos : Pos} (hN : X.N[i]? = some x := by rfl) (hv : Vis X.env.scope x := by first | exact Or.inl rfl | exact Or.inr (Or.inl rfl) | exact Or.inr (Or.inr rfl)) (hd : (x == ("__debug__" : Str)) = false := by decide)
    (hcd : (x == ("__classdict__" : Str)) = false := by decide) : PE X (.Name x pos) (tVar i) := pe_var hN hv hd hcd
end

/-! ### tests -/
theorem iteF {A B : Prop} (h : B) : if false = true then A else B := by
  rw [if_neg Bool.false_ne_true]
  exact h
theorem iteT {A B : Prop} (h : A) : if true = true then A else B := by
  rw [if_pos rfl]
  exact h
theorem ite2 {c A B : Prop} [Decidable c] (h1 : c → A) (h2 : ¬ c → B) : if c then A else B := by
  by_cases h : c
  · rw [if_pos h]
    exact h1 h
  · rw [if_neg h]
    exact h2 h
theorem iteNS {c A B : Prop} [Decidable c] (hc : c) (h : B) : if (!decide c) = true then A else B := by
  rw [decide_eq_true hc]
  exact iteF h

/-! ### heaps -/
/-- all that was tracked is as it was -/
def Same (H H' : Hp) : Prop := ∀ b o, H b = some o → H' b = some o
theorem Same.refl (H : Hp) : Same H H := fun _ _ h => h
theorem Same.trans {H H1 H2 : Hp} (a : Same H H1) (b : Same H1 H2) : Same H H2 := fun c o h => b c o (a c o h)
theorem Same.free {H H' : Hp} (e : Same H H') {l : Addr} (h : H' l = Option.none) : H l = Option.none := by
  cases q : H l with
  | none => rfl
  | some o =>
    rw [e l o q] at h
    cases h
theorem Same.seq {K : PySem.W.Frag} {H H' : Hp} {a : Addr} {xs : List V} (e : Same H H') (h : SqL K H a xs) : SqL K H' a xs := by
  rcases h with (h | ⟨o, h⟩) | h
  · exact .inl (.inl (e _ _ h))
  · exact .inl (.inr ⟨o, e _ _ h⟩)
  · exact .inr h

end L2


section
namespace L2
open PySem PySem.Spec PyProof.Rows

/-! ### lists of pairs as tables -/
section
variable {κ : Type} [DecidableEq κ]
def valV (kvs : List (κ × V)) (k : κ) : Option V := (kvs.find? fun kv => decide (kv.1 = k)).map (·.2)
/-- in its place, or at the end -/
def putK (kvs : List (κ × V)) (k : κ) (v : V) : List (κ × V) :=
  if (kvs.any fun kv => decide (kv.1 = k)) = true then kvs.map (fun kv => if kv.1 = k then (kv.1, v) else kv) else kvs ++ [(k, v)]

theorem valV_pos {p : κ × V} {r : List (κ × V)} {k : κ} (e : p.1 = k) : valV (p :: r) k = some p.2 := by simp [valV, List.find?_cons, e]
theorem valV_neg {p : κ × V} {r : List (κ × V)} {k : κ} (e : ¬ p.1 = k) : valV (p :: r) k = valV r k := by simp [valV, List.find?_cons, e]
theorem valV_any (k : κ) : ∀ kvs : List (κ × V), (kvs.any fun kv => decide (kv.1 = k)) = (valV kvs k).isSome
  | [] => rfl
  | p :: r => by
    rw [List.any_cons]
    by_cases e : p.1 = k
    · simp only [valV_pos e, decide_eq_true e, Bool.true_or, Option.isSome_some]
    · rw [valV_neg e, decide_eq_false e, Bool.false_or]; exact valV_any k r
theorem valV_map (k j : κ) (y : V) : ∀ kvs : List (κ × V), valV (kvs.map fun kv => if kv.1 = k then (kv.1, y) else kv) j = (valV kvs j).map fun x => if j = k then y else x
  | [] => rfl
  | p :: r => by
    have ih := valV_map k j y r
    rw [List.map_cons]
    by_cases h : p.1 = k
    · rw [if_pos h]
      by_cases e : p.1 = j
      · rw [valV_pos (p := (p.1, y)) e, valV_pos e, Option.map_some, if_pos (e.symm.trans h)]
      · rw [valV_neg (p := (p.1, y)) e, valV_neg e, ih]
    · rw [if_neg h]
      by_cases e : p.1 = j
      · rw [valV_pos (p := p) e, valV_pos e, Option.map_some, if_neg (fun z => h (e.trans z))]
      · rw [valV_neg (p := p) e, valV_neg e, ih]
theorem valV_snoc (k j : κ) (y : V) : ∀ kvs : List (κ × V), valV kvs k = none → valV (kvs ++ [(k, y)]) j = if j = k then some y else valV kvs j
  | [], _ => by
    by_cases e : k = j
    · rw [if_pos e.symm]; exact valV_pos (p := (k, y)) e
    · rw [if_neg (fun z => e z.symm)]; exact valV_neg (p := (k, y)) e
  | p :: r, hn => by
    rw [List.cons_append]
    have hk : ¬ p.1 = k := fun z => by rw [valV_pos z] at hn; cases hn
    rw [valV_neg hk] at hn
    have ih := valV_snoc k j y r hn
    by_cases e : p.1 = j
    · rw [valV_pos e, valV_pos e, if_neg (fun z => hk (e.trans z))]
    · rw [valV_neg e, valV_neg e, ih]
theorem valV_put (kvs : List (κ × V)) (k j : κ) (y : V) : valV (putK kvs k y) j = if j = k then some y else valV kvs j := by
  unfold putK
  by_cases a : (kvs.any fun kv => decide (kv.1 = k)) = true
  · rw [if_pos a, valV_map]
    rw [valV_any] at a
    by_cases e : j = k
    · obtain ⟨x, hx⟩ := Option.isSome_iff_exists.mp a
      rw [if_pos e, e, hx, Option.map_some, if_pos rfl]
    · rw [if_neg e]
      cases valV kvs j with
      | none => rfl
      | some x => rw [Option.map_some, if_neg e]
  · rw [if_neg a]
    refine valV_snoc k j y kvs ?_
    rw [valV_any] at a
    cases q : valV kvs k with
    | none => rfl
    | some x => rw [q] at a; exact (a rfl).elim
theorem length_putK (kvs : List (κ × V)) (k : κ) (v : V) : (putK kvs k v).length ≤ kvs.length + 1 := by
  unfold putK
  split
  · rw [List.length_map]; omega
  · rw [List.length_append, List.length_cons, List.length_nil]; omega

theorem RelO.isSome_eq {o : Option V} {u : Option Value} (r : RelO o u) : o.isSome = u.isSome := by
  cases o with
  | none => cases u with
    | none => rfl
    | some _ => exact (show False from r).elim
  | some _ => cases u with
    | none => exact (show False from r).elim
    | some _ => rfl
theorem RelO.getD {o : Option V} {u : Option Value} {d : V} {d' : Value} (r : RelO o u) (rd : RelV d d') : RelV (o.getD d) (u.getD d') := by
  cases o with
  | none => cases u with
    | none => exact rd
    | some _ => exact (show False from r).elim
  | some _ => cases u with
    | none => exact (show False from r).elim
    | some _ => exact r

/-- raw tables of the same keys -/
theorem KV.val {kvs : List (κ × V)} {vs : List (κ × Value)} (r : KV kvs vs) (k : κ) : RelO (valV kvs k) (valueAt vs k) := by
  unfold KV at r
  induction r with
  | nil => exact True.intro
  | @cons p q ps qs h t ih =>
    obtain ⟨h1, h2⟩ := h
    by_cases e : p.1 = k
    · have e' : q.1 = k := h1.symm.trans e
      have b : valueAt (q :: qs) k = some q.2 := by simp [valueAt, List.find?_cons, e']
      rw [valV_pos e, b]; exact h2
    · have e' : ¬ q.1 = k := fun z => e (h1.trans z)
      have b : valueAt (q :: qs) k = valueAt qs k := by simp [valueAt, List.find?_cons, e']
      rw [valV_neg e, b]; exact ih
theorem KV.any {kvs : List (κ × V)} {vs : List (κ × Value)} (r : KV kvs vs) (k : κ) : (kvs.any fun kv => decide (kv.1 = k)) = vs.any fun kv => decide (kv.1 = k) := by
  unfold KV at r
  induction r with
  | nil => rfl
  | cons h t ih => rw [List.any_cons, List.any_cons, ih, h.1]
theorem KV.repl {kvs : List (κ × V)} {vs : List (κ × Value)} (r : KV kvs vs) (k : κ) {y : V} {u : Value} (ry : RelV y u) :
    KV (kvs.map fun kv => if kv.1 = k then (kv.1, y) else kv) (vs.map fun kv => if kv.1 = k then (kv.1, u) else kv) := by
  unfold KV at r ⊢
  induction r with
  | nil => exact .nil
  | @cons p q ps qs h t ih =>
    rw [List.map_cons, List.map_cons]
    refine .cons ?_ ih
    obtain ⟨h1, h2⟩ := h
    by_cases e : p.1 = k
    · rw [if_pos e, if_pos (h1.symm.trans e)]; exact ⟨h1, ry⟩
    · rw [if_neg e, if_neg (fun z => e (h1.trans z))]; exact ⟨h1, h2⟩
theorem KV.put {kvs : List (κ × V)} {vs : List (κ × Value)} (r : KV kvs vs) (k : κ) {y : V} {u : Value} (ry : RelV y u) : KV (putK kvs k y) (stored vs k u) := by
  unfold putK stored
  rw [r.any k]
  by_cases e : (vs.any fun kv => decide (kv.1 = k)) = true
  · rw [if_pos e, if_pos e]; exact r.repl k ry
  · rw [if_neg e, if_neg e]; exact Paired.snoc r ⟨rfl, ry⟩
theorem KV.length {kvs : List (κ × V)} {vs : List (κ × Value)} (r : KV kvs vs) : kvs.length = vs.length := Paired.length r
end


/-! ### a tracked dict, its keys ints and texts or tuples of these -/
theorem kV_is {P : Program} {w : World} {k : Key} {u : Value} (r : RelV (kV k) u) : (mixKind P w).is k u = true := by
  cases k with
  | inl i => obtain ⟨t, e⟩ := (show ∃ t, u = Value.int i t from r); subst e; exact mixKind_int P w i t
  | inr x => obtain ⟨t, e⟩ := (show ∃ t, u = Value.str x t from r); subst e; exact mixKind_str P w x t
theorem items_are {P : Program} {w : World} : ∀ {ks : List Key} {us : List Value}, Vals (ks.map kV) us → ItemsAre (mixKind P w) ks us
  | [], _, r => by rw [List.map_nil] at r; cases r; exact .nil
  | k :: ks, _, r => by
    rw [List.map_cons] at r
    cases r with
    | cons h t => exact .cons (kV_is h) (items_are t)

/-- raw entries of a dict with tuple keys -/
abbrev KT (H : Hp) : List (List Key × V) → List (List Key × Addr × Value) → Prop := Paired fun p q => p.1 = q.1 ∧ H q.2.1 = some (.tup (p.1.map kV)) ∧ RelV p.2 q.2.2
theorem KT.val {H : Hp} {kvs : List (List Key × V)} {xs : List (List Key × Addr × Value)} (r : KT H kvs xs) (k : List Key) : RelO (valV kvs k) ((atKey xs k).map (·.2)) := by
  induction r with
  | nil => exact True.intro
  | @cons p q ps qs h t ih =>
    obtain ⟨h1, _, h2⟩ := h
    by_cases e : p.1 = k
    · have e' : q.1 = k := h1.symm.trans e
      have b : atKey (q :: qs) k = some q.2 := by simp [atKey, List.find?_cons, e']
      rw [valV_pos e, b]; exact h2
    · have e' : ¬ q.1 = k := fun z => e (h1.trans z)
      have b : atKey (q :: qs) k = atKey qs k := by simp [atKey, List.find?_cons, e']
      rw [valV_neg e, b]; exact ih
theorem KT.repl {H : Hp} {kvs : List (List Key × V)} {xs : List (List Key × Addr × Value)} (r : KT H kvs xs) (k : List Key) {y : V} {u : Value} (ry : RelV y u) :
    KT H (kvs.map fun kv => if kv.1 = k then (kv.1, y) else kv) (xs.map (putAt k u)) := by
  induction r with
  | nil => exact .nil
  | @cons p q ps qs h t ih =>
    rw [List.map_cons, List.map_cons]
    refine .cons ?_ ih
    obtain ⟨h1, h2, h3⟩ := h
    unfold putAt
    by_cases e : p.1 = k
    · rw [if_pos e, if_pos (h1.symm.trans e)]; exact ⟨h1, h2, ry⟩
    · rw [if_neg e, if_neg (fun z => e (h1.trans z))]; exact ⟨h1, h2, h3⟩
theorem KT.put {H : Hp} {kvs : List (List Key × V)} {xs : List (List Key × Addr × Value)} (r : KT H kvs xs) (k : List Key) {b : Addr} {y : V} {u : Value} (hb : H b = some (.tup (k.map kV))) (ry : RelV y u) :
    KT H (putK kvs k y) (storedH xs k b u) := by
  have e : (kvs.any fun kv => decide (kv.1 = k)) = (atKey xs k).isSome := by
    rw [valV_any, (r.val k).isSome_eq, Option.isSome_map]
  unfold putK storedH
  rw [e]
  by_cases q : (atKey xs k).isSome = true
  · rw [if_pos q, if_pos q]; exact r.repl k ry
  · rw [if_neg q, if_neg q]; exact Paired.snoc r ⟨rfl, hb, ry⟩
theorem KT.keeps {H H' : Hp} {kvs : List (List Key × V)} {xs : List (List Key × Addr × Value)} (r : KT H kvs xs) (ht : ∀ b ys, H b = some (.tup ys) → H' b = some (.tup ys)) : KT H' kvs xs :=
  Paired.mapP r fun _ _ z => ⟨z.1, ht _ _ z.2.1, z.2.2⟩

section
variable {P : Program} {w : World} {H : Hp} {h : Heap} {a : Addr}
theorem rd_of {u : HO} (ok : HOk P w H h) (e : Rd H a u) : ObjOk P w H h a u := e.ok ok
theorem dk_rd {kvs : List (Key × V)} (ok : HOk P w H h) (e : Rd H a (.dK kvs)) : kvs.length ≤ sizeLine ∧ (a == sysModules) = false ∧ ∃ vs, KV kvs vs ∧ h.DictOf (mixKind P w) a vs :=
  show ObjOk P w H h a (.dK kvs) from rd_of ok e
theorem dk_of {kvs : List (Key × V)} (ok : HOk P w H h) (e : H a = some (.dK kvs)) : kvs.length ≤ sizeLine ∧ (a == sysModules) = false ∧ ∃ vs, KV kvs vs ∧ h.DictOf (mixKind P w) a vs := dk_rd ok (.inl e)
/-- a tracked tuple of ints and texts is a key -/
theorem key_of {ks : List Key} (ok : HOk P w H h) (e : H a = some (.tup (ks.map kV))) : (tupleKind (mixKind P w)).is h ks a := by
  obtain ⟨_, its, r, o, h1, h2, n, h3⟩ := (show ObjOk P w H h a (.tup (ks.map kV)) from ok a _ e)
  exact ⟨o, its.toArray, n, h1, h2, h3, by simpa using items_are r⟩
theorem dt_rd {kvs : List (List Key × V)} (ok : HOk P w H h) (e : Rd H a (.dT kvs)) : kvs.length ≤ sizeLine ∧ (a == sysModules) = false ∧
    ∃ xs, KT H kvs xs ∧ h.DictOfH (tupleKind (mixKind P w)) a xs := by
  obtain ⟨z, y, xs, r, o, es, ep, h1, h2, h3, h4, h5⟩ := (show ObjOk P w H h a (.dT kvs) from rd_of ok e)
  refine ⟨z, y, xs, r, o, es, ep, h1, h2, h3, h4, fun x hx => ?_, h5⟩
  have all : ∀ {l : List (List Key × V)} {m : List (List Key × Addr × Value)}, KT H l m → ∀ x ∈ m, (tupleKind (mixKind P w)).is h x.1 x.2.1 := by
    intro l m q
    induction q with
    | nil => intro x hx; exact nomatch hx
    | @cons p q ps qs hq t ih =>
      intro x hx
      rcases List.mem_cons.mp hx with e | hx
      · subst e
        exact key_of ok (by rw [← hq.1]; exact hq.2.1)
      · exact ih x hx
  exact all r x hx
theorem dt_of {kvs : List (List Key × V)} (ok : HOk P w H h) (e : H a = some (.dT kvs)) : kvs.length ≤ sizeLine ∧ (a == sysModules) = false ∧
    ∃ xs, KT H kvs xs ∧ h.DictOfH (tupleKind (mixKind P w)) a xs := dt_rd ok (.inl e)
end

/-- what the dict at a holds at the key y -/
def DGet (H : Hp) (a : Addr) (y : V) (r : Option V) : Prop :=
  (∃ kvs k, Rd H a (.dK kvs) ∧ y = kV k ∧ r = valV kvs k) ∨ ∃ kvs k b, Rd H a (.dT kvs) ∧ y = .ref b ∧ H b = some (.tup (k.map kV)) ∧ r = valV kvs k
/-- the heap behind a[y] = v -/
def DPut (H : Hp) (a : Addr) (y v : V) (H' : Hp) : Prop :=
  (∃ kvs k, H a = some (.dK kvs) ∧ y = kV k ∧ kvs.length < sizeLine ∧ H' = upd H a (.dK (putK kvs k v))) ∨
  ∃ kvs k b, H a = some (.dT kvs) ∧ y = .ref b ∧ H b = some (.tup (k.map kV)) ∧ kvs.length < sizeLine ∧ H' = upd H a (.dT (putK kvs k v))
theorem DGet.t {H : Hp} {a b : Addr} {kvs : List (List Key × V)} {k : List Key} (e : H a = some (.dT kvs)) (eb : H b = some (.tup (k.map kV))) : DGet H a (.ref b) (valV kvs k) := .inr ⟨kvs, k, b, .inl e, rfl, eb, rfl⟩
theorem DPut.t {H : Hp} {a b : Addr} {kvs : List (List Key × V)} {k : List Key} {v : V} (e : H a = some (.dT kvs)) (eb : H b = some (.tup (k.map kV))) (hl : kvs.length < sizeLine) :
    DPut H a (.ref b) v (upd H a (.dT (putK kvs k v))) := .inr ⟨kvs, k, b, e, rfl, eb, hl, rfl⟩


section
variable {X : Cx} {pins : List (Addr × Obj)} {σ : St} {H : Hp} {s : Shared} {a : Addr} {y v : V} {u r : Value} {o : Option V} {A : Around} {E : Value → Shared → Prop}

theorem Inv.big (I : Inv X pins σ H s) : sysModules < s.heap.objs.size := by
  have h : mainGlobals < s.heap.objs.size := (I.mod.glob.keeps I.bk).lt
  exact Nat.lt_trans (by decide) h

/-- a dict's object is replaced -/
theorem d_write {h' : Heap} {t' : Nat} {ob : HO} (I : Inv X pins σ H s) (mu : Mut (H a)) (hs : Heap.SameBut a s.heap h') (he : ∃ q, h'.get? a = some q) (new : ObjOk X.prog X.w (upd H a ob) h' a ob) :
    Inv X pins σ (upd H a ob) { s with heap := h', toks := t' } :=
  I.write (x := a) (e := a) mu (.inl rfl) (fun b q hb z => (hs.2 b hb).trans z) he new
theorem dk_new {P : Program} {w : World} {H' : Hp} {h' : Heap} {kvs : List (Key × V)} {vs : List (Key × Value)} (z : kvs.length ≤ sizeLine) (hd : (a == sysModules) = false) (rel : KV kvs vs) (dd : h'.DictOf (mixKind P w) a vs) :
    ObjOk P w H' h' a (.dK kvs) := ⟨z, hd, vs, rel, dd⟩
/-- d[y] = v -/
theorem d_setItem {H' : Hp} {Q : Unit → Shared → Prop} (hu : A.units + 1 < cLine) (I : Inv X pins σ H s) (g : DPut H a y v H') (ry : RelV y u) (rv : RelV v r) (h : ∀ s', Inv X pins σ H' s' → Q () s') :
    wpAny (model X.prog X.w) A (setItem (.ref a) u r) Q E s := by
  rcases g with ⟨kvs, k, e, ey, l, eH⟩ | ⟨kvs, k, b, e, ey, eb, l, eH⟩
  · subst ey eH
    obtain ⟨z, hd, vs, rel, dd⟩ := dk_of I.hok e
    have hz : vs.length ≤ sizeLine := by rw [← rel.length]; exact z
    have hl : (putK kvs k v).length ≤ sizeLine := by have := length_putK kvs k v; omega
    refine wpAny_setItem_pairs (hsz := hz) (kV_is ry) dd fun h' dd' hs => h _ ?_
    have he : ∃ q, h'.get? a = some q := let ⟨q, _, _, hq, _⟩ := dd'; ⟨q, hq⟩
    exact d_write I (by rw [e]; exact True.intro) hs he (dk_new hl hd (rel.put k rv) dd')
  · subst ey eH
    cases (show u = Value.ref b from ry)
    obtain ⟨z, hd, xs, rel, dd⟩ := dt_of I.hok e
    have hz : xs.length ≤ sizeLine := by rw [← Paired.length rel]; exact z
    have hl : (putK kvs k v).length ≤ sizeLine := by have := length_putK kvs k v; omega
    refine wpAny_setItem_heap (hsz := hz) (tupleKind_room_in1 hu) (key_of I.hok eb) dd fun h' dd' hs => h _ ?_
    obtain ⟨q, es, ep, hq, h2, h3, h4, _, h5⟩ := dd'
    refine d_write I (by rw [e]; exact True.intro) hs ⟨q, hq⟩ ⟨hl, hd, _, (rel.put k eb rv).keeps fun c ys ec => ?_, q, es, ep, hq, h2, h3, h4, h5⟩
    rw [upd_ne (ne_of ec e (fun z => nomatch z))]
    exact ec
end

section
variable {X : Cx} {pins : List (Addr × Obj)} {σ : St} {H : Hp} {s : Shared} {a : Addr} {kvs : List (Key × V)} {k : Key} {u : Value} {A : Around} {E : Value → Shared → Prop}
end


/-! ### readings and rules -/



section
variable {X : Cx} {o i e value : Expr} {pos pos' tpos : Pos} {td ty tv : TE}
end


/-! ### displays -/
theorem dt_empty {P : Program} {w : World} {H : Hp} (h : Heap) (hb : sysModules < h.objs.size) : ObjOk P w H (h.push { cls := .type "dict", data := .dict #[] }) h.objs.size (.dT []) :=
  ⟨Nat.zero_le _, beq_eq_false_iff_ne.mpr (Ne.symm (Nat.ne_of_lt hb)), [], .nil, _, #[], 0, Heap.get?_push_size _ rfl, ⟨rfl, rfl, rfl⟩, rfl, rfl, List.nodup_nil⟩
def tDNewT : TE := fun _ H Q => ∀ p, H p = none → Q (.ref p) (upd H p (.dT []))
section
variable {X : Cx} {pos : Pos}
theorem pe_dnewT : PE X (.Dict [] [] pos) tDNewT := fun pins s σ H Q I h =>
  wpAny_Dict_empty ⟨.ref s.heap.objs.size, _, I.laid (a := s.heap.objs.size) (o := .dT []) (t' := s.toks) (fun _ _ q => Heap.get?_push_of_some _ q) (Nat.le_refl _) (dt_empty s.heap I.big), rfl, h _ (I.hok.fresh (Nat.le_refl _))⟩
end




/-! ### methods -/


section
variable {X : Cx} {pins : List (Addr × Obj)} {σ : St} {H : Hp} {s : Shared} {a : Addr} {y d : V} {u r : Value} {o : Option V} {A : Around} {E : Value → Shared → Prop}
/-- d.get(y, x) -/
theorem d_get2 {Q : Value → Shared → Prop} (hu : A.units + 1 < cLine) (I : Inv X pins σ H s) (g : DGet H a y o) (ry : RelV y u) (rd : RelV d r) (h : ∀ w' s', Inv X pins σ H s' → RelV (o.getD d) w' → Q w' s') :
    wpAny (model X.prog X.w) A (call (.builtin "dict.get") [.ref a, u, r]) Q E s := by
  rcases g with ⟨kvs, k, e, ey, l⟩ | ⟨kvs, k, b, e, ey, eb, l⟩
  · subst ey
    obtain ⟨z, hd, vs, rel, dd⟩ := dk_rd I.hok e
    refine call_meetsIn PySem.F.slot_dict_get dd.typeIs PySem.F.entry_dict_get (PySem.F.args_dict_get_3 _ _ _) (meets_dict_get_default (mixKind X.prog X.w) a (kV_is ry) hd r) ⟨_, dd.mapOf, h _ _ (I.tok _) ?_⟩
    rw [l]
    exact (rel.val k).getD rd
  · subst ey
    cases (show u = Value.ref b from ry)
    obtain ⟨z, hd, xs, rel, dd⟩ := dt_rd I.hok e
    refine call_meetsIn PySem.F.slot_dict_get dd.typeIs PySem.F.entry_dict_get (PySem.F.args_dict_get_3 _ _ _) (meetsH_dict_get_default (tupleKind (mixKind X.prog X.w)) a b hd r) ⟨tupleKind_room_in1 hu, k, xs, key_of I.hok eb, dd, h _ _ (I.tok _) ?_⟩
    rw [l]
    exact (rel.val k).getD rd
end

section
variable {X : Cx} {o e f : Expr} {apos cpos : Pos} {td ty tx : TE}
end

/-! ### dict(d): a copy -/
section
variable {X : Cx} {pins : List (Addr × Obj)} {σ : St} {H : Hp} {s : Shared} {a : Addr} {kvs : List (Key × V)} {A : Around} {E : Value → Shared → Prop}
end


section
variable {X : Cx} {pins : List (Addr × Obj)} {σ : St} {H : Hp} {s : Shared} {a : Addr} {y : V} {u : Value} {A : Around} {E : Value → Shared → Prop}
end
end L2
end

section
namespace L2
open PySem PySem.Spec PyProof.Rows

/-! ### the cells that a comprehension takes over -/
def clAdd (cells : List (Str × Addr)) (cs : List (Str × Addr)) (x : Str × NameKind) : List (Str × Addr) :=
  if x.2 == NameKind.free then (x.1, (cells.lookup x.1).getD 0) :: cs else cs
def clOf (names : List (Str × NameKind)) (cells : List (Str × Addr)) : List (Str × Addr) := names.foldl (clAdd cells) []

theorem forIn_yield_fold {α β : Type} {f : α → β → Sem (ForInStep β)} {g : β → α → β} : ∀ (l : List α) (c : β), (∀ x ∈ l, ∀ c, f x c = pure (.yield (g c x))) → forIn l c f = pure (l.foldl g c)
  | [], c, _ => rfl
  | x :: l, c, h => by
    rw [List.forIn_cons, h x List.mem_cons_self, pure_bind]
    exact forIn_yield_fold l (g c x) fun y hy => h y (List.mem_cons_of_mem _ hy)

theorem closureFor_of {scope : Scope} {env : Env} (h : ∀ x ∈ scope.names, x.2 = .free → ∃ c, env.cells.lookup x.1 = some c) : closureFor scope env = pure (clOf scope.names env.cells) := by
  simp only [closureFor]
  rw [forIn_yield_fold (g := clAdd env.cells) scope.names [] (fun x hx c => by
    obtain ⟨n, k⟩ := x
    unfold clAdd
    cases hk : (k == NameKind.free) with
    | false => simp [hk]
    | true =>
      obtain ⟨a, ha⟩ := h _ hx (by simpa using hk)
      have ha' : List.lookup n env.cells = some a := ha
      simp [hk, cellOf, ha'])]
  rfl

theorem clOf_sub_aux {cells : List (Str × Addr)} : ∀ (names : List (Str × NameKind)) (cs : List (Str × Addr)), (∀ x ∈ names, x.2 = .free → ∃ c, cells.lookup x.1 = some c) →
    (∀ x c, cs.lookup x = some c → cells.lookup x = some c) → ∀ x c, (names.foldl (clAdd cells) cs).lookup x = some c → cells.lookup x = some c
  | [], cs, _, h, x, c, e => h x c e
  | (n, k) :: r, cs, hf, h, x, c, e => by
    refine clOf_sub_aux r (clAdd cells cs (n, k)) (fun y hy => hf y (List.mem_cons_of_mem _ hy)) (fun y d q => ?_) x c e
    unfold clAdd at q
    cases hk : (k == NameKind.free) with
    | false => simp only [hk, Bool.false_eq_true, if_false] at q; exact h y d q
    | true =>
      obtain ⟨a, ha⟩ := hf _ List.mem_cons_self (by simpa using hk)
      have ha' : List.lookup n cells = some a := ha
      simp only [hk, if_true, ha', Option.getD_some] at q
      cases hy : (y == n) with
      | false => simp only [List.lookup_cons, hy] at q; exact h y d q
      | true =>
        simp only [List.lookup_cons, hy] at q
        have : y = n := by simpa using hy
        rw [this, ← Option.some.inj q]; exact ha'
theorem clOf_sub {names : List (Str × NameKind)} {cells : List (Str × Addr)} (hf : ∀ x ∈ names, x.2 = .free → ∃ c, cells.lookup x.1 = some c) {x : Str} {c : Addr} (e : (clOf names cells).lookup x = some c) : cells.lookup x = some c :=
  clOf_sub_aux names [] hf (fun _ _ q => by cases q) x c e

theorem clOf_has_aux {cells : List (Str × Addr)} {x : Str} : ∀ (names : List (Str × NameKind)) (cs : List (Str × Addr)), ((∃ c, cs.lookup x = some c) ∨ (x, NameKind.free) ∈ names) → ∃ c, (names.foldl (clAdd cells) cs).lookup x = some c
  | [], cs, h => by
    rcases h with h | h
    · exact h
    · cases h
  | (n, k) :: r, cs, h => by
    refine clOf_has_aux r (clAdd cells cs (n, k)) ?_
    rcases h with ⟨c, h⟩ | h
    · left
      unfold clAdd
      cases hk : (k == NameKind.free) with
      | false => exact ⟨c, by simpa [hk] using h⟩
      | true =>
        cases hy : (x == n) with
        | false => exact ⟨c, by simp only [hk, if_true, List.lookup_cons, hy]; exact h⟩
        | true => exact ⟨(cells.lookup n).getD 0, by simp only [hk, if_true, List.lookup_cons, hy]⟩
    · rcases List.mem_cons.mp h with e | h
      · left
        cases e
        unfold clAdd
        exact ⟨(cells.lookup x).getD 0, by simp only [beq_self_eq_true, if_true, List.lookup_cons]⟩
      · exact .inr h

theorem lookup_mem {κ α : Type} [BEq κ] [LawfulBEq κ] {x : κ} {a : α} {l : List (κ × α)} (h : l.lookup x = some a) : (x, a) ∈ l := by
  induction l with
  | nil => cases h
  | cons p r ih =>
    obtain ⟨y, b⟩ := p
    cases hy : (x == y) with
    | false => simp only [List.lookup_cons, hy] at h; exact List.mem_cons_of_mem _ (ih h)
    | true =>
      simp only [List.lookup_cons, hy] at h
      have : x = y := by simpa using hy
      rw [this, ← Option.some.inj h]; exact List.mem_cons_self

/-- what a name is within the block: as it is in the block's own scope, or taken over -/
theorem relabel_lookup {env : Env} : ∀ {names : List (Str × NameKind)} {x : Str} {k : NameKind},
    (names.map fun (n, k) => if (k == NameKind.free && env.scope.kind == .function && env.kindOf n == some .cell) then (n, NameKind.cell) else (n, k)).lookup x = some k →
    names.lookup x = some k ∨ (names.lookup x = some .free ∧ k = .cell)
  | [], _, _, h => by cases h
  | (n, k') :: r, x, k, h => by
    have ih := @relabel_lookup env r x k
    have h' : List.lookup x ((if (k' == NameKind.free && env.scope.kind == .function && env.kindOf n == some .cell) = true then (n, NameKind.cell) else (n, k')) :: (r.map fun (n, k) => if (k == NameKind.free && env.scope.kind == .function && env.kindOf n == some .cell) then (n, NameKind.cell) else (n, k))) = some k := h
    cases hx : (x == n) with
    | false =>
      by_cases hc : (k' == NameKind.free && env.scope.kind == .function && env.kindOf n == some .cell) = true
      · rw [if_pos hc] at h'; simp only [List.lookup_cons, hx] at h' ⊢; exact ih h'
      · rw [if_neg hc] at h'; simp only [List.lookup_cons, hx] at h' ⊢; exact ih h'
    | true =>
      by_cases hc : (k' == NameKind.free && env.scope.kind == .function && env.kindOf n == some .cell) = true
      · rw [if_pos hc] at h'; simp only [List.lookup_cons, hx] at h' ⊢
        have e : NameKind.cell = k := Option.some.inj h'
        have e2 : k' = .free := by
          simp only [Bool.and_eq_true] at hc
          simpa using hc.1.1
        exact .inr ⟨by rw [e2], e.symm⟩
      · rw [if_neg hc] at h'; simp only [List.lookup_cons, hx] at h' ⊢
        exact .inl h'

/-! ### the block's context -/
def nmC (X : Cx) (own : List Str) (js : List Nat) : List Str := own ++ js.map fun j => X.N.getD j ""
def stC (n : Nat) (js : List Nat) (σ : St) : St := List.replicate n none ++ js.map fun j => σ.getD j none
def cxC (X : Cx) (N' : List Str) (scope : Scope) (C : Addr) (s₀ : Shared) (H₀ : Hp) (fp : List Addr) (pins : List (Addr × Obj)) : Cx where
  prog := X.prog
  w := X.w
  K := X.K
  mg := X.mg
  base := X.base
  A := X.A
  N := N'
  s₀ := s₀
  H₀ := H₀
  env := compEnvC scope (clOf scope.names X.env.cells) C X.env
  outer := X.stack
  stack := X.stack
  ex := fp
  fn := fun _ => false
  calm := X.calm
  pn := X.pn ++ pins
  xe := fun _ _ => False

/-- what the scope of a block is to be -/
structure CompScope (X : Cx) (scope : Scope) (js : List Nat) : Prop where
  kind : scope.kind = .function
  nocell : ∀ y ∈ scope.names, y.2 ≠ .cell
  names : ∀ x ∈ scope.names, x.2 = .local → scope.names.lookup x.1 = some .local
  free : ∀ x ∈ scope.names, x.2 = .free → X.env.kindOf x.1 = some .cell ∨ X.env.kindOf x.1 = some .free
  js : ∀ j ∈ js, scope.names.lookup (X.N.getD j "") = some .free ∧ j < X.N.length


theorem Un.past {fs ex : List Addr} {H H' : Hp} {h h1 h' : Heap} {C : Addr} (u : Un fs ex H H' h h1) (hs : Heap.SameBut C h1 h') (hC : h.objs.size ≤ C) : Un fs ex H H' h h' := by
  have ne : ∀ b o, h.get? b = some o → b ≠ C := fun b o e => Nat.ne_of_lt (Nat.lt_of_lt_of_le (Heap.lt_size e) hC)
  exact ⟨fun b o e n hb hx => (hs.2 b (ne b o e)).trans (u.keep b o e n hb hx), fun b o e n hb hx => let ⟨sl, q⟩ := u.slot b o e n hb hx; ⟨sl, (hs.2 b (ne b o e)).trans q⟩, u.free,
    fun b o e hx => let ⟨o', q⟩ := u.there b o e hx; ⟨o', (hs.2 b (ne b o e)).trans q⟩, u.tups, u.frzs, u.tbls⟩
theorem HOk.past {P : Program} {w : World} {H : Hp} {h h' : Heap} {C : Addr} (ok : HOk P w H h) (hs : Heap.SameBut C h h') (hf : H C = none) : HOk P w H h' := fun b ob e => by
  refine (ok b ob e).stay (fun c w' hc q => (hs.2 c ?_).trans q) (fun _ q => q) fun _ _ q => q
  rintro rfl
  rcases hc with rfl | hc
  · rw [hf] at e; cases e
  · rw [hf] at hc; cases hc

section
variable {X : Cx} {pins : List (Addr × Obj)} {σ : St} {H : Hp} {s : Shared}
theorem CompScope.cells {scope : Scope} {js : List Nat} (S : CompScope X scope js) (ok : X.Ok) : ∀ x ∈ scope.names, x.2 = .free → ∃ c, X.env.cells.lookup x.1 = some c := fun x hx hf => ok.has x.1 (S.free x hx hf)

/-- the block's entry -/
theorem inv_block {scope : Scope} {own : List Str} {js : List Nat} {fp : List Addr} {h₁ : Heap} {tk : Nat} (S : CompScope X scope js) (I : Inv X pins σ H s) (hfp : ∀ b ∈ fp, FpOk X pins H b)
    (hlt : ∀ b ∈ fp, b < s.heap.objs.size) {m : Str → Option Value} (hns : h₁.Ns s.heap.objs.size m) (old : ∀ b o, s.heap.get? b = some o → h₁.get? b = some o) :
    Inv (cxC X (nmC X own js) scope s.heap.objs.size s H fp pins) [] (stC own.length js σ) H { s with heap := h₁, toks := tk } := by
  have hcl := S.cells I.ok
  have sub : ∀ x c, (clOf scope.names X.env.cells).lookup x = some c → X.env.cells.lookup x = some c := fun x c e => clOf_sub hcl e
  have ltC : ∀ x c, X.env.cells.lookup x = some c → c < s.heap.objs.size := fun x c e => let ⟨_, z⟩ := I.cell x c e; z.lt
  refine ⟨⟨I.ok.mod, S.kind, I.ok.glob, I.ok.blt, Nat.le_refl _, fun x y c h1 h2 => I.ok.inj x y c (sub _ _ h1) (sub _ _ h2), fun x hx => ?_, fun x c h _ => (by cases h), I.ok.hd, I.ok.frames, .inl rfl, fun b hb => ⟨Nat.ne_of_lt (hlt b hb), fun x c e => (hfp b hb).2.2.2.2.1 x c (sub _ _ e)⟩,
      I.bs, Nat.le_trans I.ok.bsz I.sz, fun b o e hb => ?_, fun b hb hq => ?_, I.stack, I.stkFree⟩,
    rfl, I.bare, Un.kept old, ⟨m, hns, fun i x v e1 e2 e3 => ?_⟩, fun x c e => ?_, I.fresh, fun x c e => I.freeC x c (sub _ _ e), fun p hp => ?_, I.hok.kept old, ?_⟩
  · have hx' : (relabel scope X.env).names.lookup x = some .cell ∨ (relabel scope X.env).names.lookup x = some .free := hx
    have fr : scope.names.lookup x = some .free := by
      rcases hx' with z | z
      · rcases relabel_lookup z with q | q
        · exact absurd rfl (S.nocell _ (lookup_mem q))
        · exact q.1
      · rcases relabel_lookup z with q | q
        · exact q
        · exact q.1
    exact clOf_has_aux scope.names [] (.inr (lookup_mem fr))
  · rcases (hfp b hb).2.2.2.1 with z | z
    · exact I.ok.noex b o e z
    · exact absurd (Nat.lt_of_lt_of_le (Heap.lt_size e) (Nat.le_trans I.ok.bsz z)) (Nat.lt_irrefl _)
  · rcases List.mem_cons.mp (I.stkSub b hq) with z | z
    · exact (hfp b hb).2.1 z
    · exact (hfp b hb).2.2.1 z
  · have hi : own.length ≤ i := by
      by_cases hi : own.length ≤ i
      · exact hi
      · have e2' : (stC own.length js σ)[i]? = some (some v) := e2
        unfold stC at e2'
        rw [List.getElem?_append_left (by rw [List.length_replicate]; omega), List.getElem?_replicate] at e2'
        split at e2' <;> cases e2'
    have e2' : (js.map fun j => σ.getD j none)[i - own.length]? = some (some v) := by
      have e2' : (stC own.length js σ)[i]? = some (some v) := e2
      unfold stC at e2'
      rw [List.getElem?_append_right (by rw [List.length_replicate]; exact hi), List.length_replicate] at e2'
      exact e2'
    have e1' : (js.map fun j => X.N.getD j "")[i - own.length]? = some x := by
      have e1' : (nmC X own js)[i]? = some x := e1
      unfold nmC at e1'
      rw [List.getElem?_append_right hi] at e1'
      exact e1'
    rw [List.getElem?_map] at e1' e2'
    cases hj : js[i - own.length]? with
    | none => rw [hj] at e1'; cases e1'
    | some j =>
      rw [hj] at e1' e2'
      have e1'' : X.N.getD j "" = x := Option.some.inj e1'
      have e2'' : σ.getD j none = some v := Option.some.inj e2'
      obtain ⟨fr, hjl⟩ := S.js j (List.mem_of_getElem? hj)
      rw [e1''] at fr
      have hN : X.N[j]? = some x := by
        rw [List.getElem?_eq_getElem hjl, ← e1'', List.getD_eq_getElem?_getD, List.getElem?_eq_getElem hjl]; rfl
      have hσ : σ[j]? = some (some v) := by
        rw [List.getD_eq_getElem?_getD] at e2''
        cases q : σ[j]? with
        | none => rw [q] at e2''; cases e2''
        | some o => rw [q] at e2''; rw [show o = some v from e2'']
      obtain ⟨m0, hn0, hl0⟩ := I.loc
      have kd : X.env.kindOf x = some .cell ∨ X.env.kindOf x = some .free := S.free _ (lookup_mem fr) rfl
      obtain ⟨u, r, l⟩ := hl0 j x v hN hσ (by rcases kd with k | k; exact .inr (.inl k); exact .inr (.inr k))
      refine ⟨u, r, ?_⟩
      rcases l with ⟨k, _⟩ | ⟨_, c, hc, hcell⟩
      · rcases kd with z | z <;> (rw [k] at z; cases z)
      · have hcc : (clOf scope.names X.env.cells).lookup x = some c := by
          obtain ⟨c', e⟩ := clOf_has_aux (cells := X.env.cells) scope.names [] (.inr (lookup_mem fr))
          have := sub x c' e
          rw [hc] at this
          rw [Option.some.inj this]; exact e
        have kk : (relabel scope X.env).names.lookup x = some .cell ∨ (relabel scope X.env).names.lookup x = some .free := by
          rcases e3 with z | z | z
          · rcases relabel_lookup z with q | q
            · rw [fr] at q; cases q
            · rw [fr] at q; cases q.2
          · exact .inl z
          · exact .inr z
        exact .inr ⟨kk, c, hcc, let ⟨o, ho, hd⟩ := hcell; ⟨o, old _ _ ho, hd⟩⟩
  · obtain ⟨v, o, ho, hd⟩ := I.cell x c (sub _ _ e)
    exact ⟨v, o, old _ _ ho, hd⟩
  · have hp' : p ∈ X.pn ++ pins := by
      have hp' : p ∈ (X.pn ++ pins) ++ [] := hp
      simpa using hp'
    obtain ⟨e, n, ne, nf, d⟩ := I.pin p hp'
    refine ⟨old _ _ e, n, Nat.ne_of_lt (Heap.lt_size e), fun hq => ?_, d⟩
    rcases List.mem_cons.mp (I.stkSub p.1 hq) with z | z
    · exact ne z
    · exact nf z
  · show (stC own.length js σ).length = (nmC X own js).length
    unfold stC nmC
    rw [List.length_append, List.length_append, List.length_replicate, List.length_map, List.length_map]

/-- behind the block: the caller's own state again -/
theorem Inv.unblock {scope : Scope} {N' : List Str} {fp : List Addr} {C : Addr} {pins' : List (Addr × Obj)} {σ' : St} {H' : Hp} {s' : Shared} {h' : Heap} (I : Inv X pins σ H s) (hfp : ∀ b ∈ fp, FpOk X pins H b)
    (J : Inv (cxC X N' scope C s H fp pins) pins' σ' H' s') (hs : Heap.SameBut C s'.heap h') (hC : s.heap.objs.size ≤ C) : Inv X pins σ H' { s' with heap := h' } :=
  I.call' (s' := { s' with heap := h' }) (ch := fp) J.os (Un.past J.base hs hC) (J.hok.past hs J.free) J.bare fun b hb => ⟨(hfp b hb).2.2.2.1, (hfp b hb).2.1, (hfp b hb).2.2.2.2.1, (hfp b hb).2.2.2.2.2⟩
end

/-! ### the loop of a comprehension, whatever its target -/
section
variable {prog : Program} {w : World} {A : Around} {R : Result → Shared → Prop} {s : Shared}
theorem codeAny_compLoop_any {elt target iter : Expr} {ifs : List Expr} {scope : Scope} {pos : Pos} {it acc : Value} {env : Env} (I : Nat → Shared → Prop)
    (turn : ∀ n s, I n s → wpAny (model prog w) A (pyNext it) (fun r s₁ => match r with
      | none => R (.ok .next) s₁
      | some v => wpAny (model prog w) A (letOwnedTupleGo target it v) (fun _ s₁' => wpAny (model prog w) A (assign target env v) (fun _ s₂ =>
          wpAny (model prog w) A (forIn ifs true fun c r => if r = true then do let ok ← isTrue c env (eval c env); pure (ForInStep.yield ok) else pure (ForInStep.yield r)) (fun ok s₃ =>
            if ok = true then wpAny (model prog w) A (eval elt env) (fun x s₄ =>
              wpAny (model prog w) A (call (.builtin "list.append") [acc, x]) (fun _ s₅ => ∃ m, m < n ∧ I m s₅) (fun _ _ => False) s₄) (fun _ _ => False) s₃
            else ∃ m, m < n ∧ I m s₃) (fun _ _ => False) s₂) (fun _ _ => False) s₁') (fun _ _ => False) s₁) (fun _ _ => False) s)
    (n : Nat) (h : I n s) :
    codeAny (model prog w) A (.compLoop (.ListComp elt [⟨target, iter, ifs, 0⟩] scope pos) 0 it acc env) R s := by
  refine codeAny_loop rfl I (fun n s hI => ?_) n h
  show wpAny _ A ((compTurn (.ListComp elt [⟨target, iter, ifs, 0⟩] scope pos) 0 it acc env).onRaise (fun x => do noteFrame x env; theTreesLotGoes x)) _ _ s
  refine wpAny_noted ?_
  rw [compTurn_list]
  refine wpAny_bind (wpAny_standAt (wpAny_bind (wpAny_mono (turn n s hI) (fun r s₁ h₁ => ?_) fun _ _ h' => h'.elim)))
  cases r with
  | none => exact wpAny_pure h₁
  | some v =>
    refine wpAny_bind (wpAny_mono h₁ (fun _ s₁' h₁' => ?_) fun _ _ h' => h'.elim)
    refine wpAny_bind (wpAny_mono h₁' (fun _ s₂ h₂ => wpAny_bind (wpAny_mono h₂ (fun ok s₃ h₃ => ?_) fun _ _ h' => h'.elim)) fun _ _ h' => h'.elim)
    cases ok with
    | false => exact wpAny_pure ⟨rfl, h₃⟩
    | true =>
      exact wpAny_bind (wpAny_bind (wpAny_mono h₃ (fun x s₄ h₄ => wpAny_bind (wpAny_mono h₄ (fun _ s₅ h₅ => wpAny_pure (wpAny_pure ⟨rfl, h₅⟩)) fun _ _ h' => h'.elim)) fun _ _ h' => h'.elim))
end

/-! ### the tests of a clause -/
def PTs (X : Cx) (ifs : List Expr) (t : TT) : Prop :=
  ∀ (pins : List (Addr × Obj)) (s : Shared) (σ : St) (H : Hp) (Q : Bool → Hp → Prop), Inv X pins σ H s → t σ H Q →
    wpAny (model X.prog X.w) X.A (forIn ifs true fun c r => if r = true then do let ok ← isTrue c X.env (eval c X.env); pure (ForInStep.yield ok) else pure (ForInStep.yield r)) (TP X pins σ Q) X.xe s
def tYes : TT := fun _ H Q => Q true H
theorem pts_nil {X : Cx} : PTs X [] tYes := fun _ _ _ H _ I h => wpAny_tests_nil ⟨H, I, h⟩
theorem pts_one {X : Cx} {c : Expr} {t : TT} (h : PT X c t) : PTs X [c] t := fun pins s σ H Q I hw => wpAny_tests_one (h pins s σ H Q I hw)

/-! ### the reading of a comprehension -/
/-- one turn: the item x is there, ys was laid; N: what the turn is to reach -/
def Turn1 (n : Nat) (js : List Nat) (σ : St) (g : TG) (tt : TT) (te : TE) (D : Addr) (x : V) (ys : List V) (H : Hp) (N : List V → Hp → Prop) : Prop :=
  g x (stC n js σ) H fun σ' H4 => σ'.drop n = (stC n js σ).drop n ∧ tt σ' H4 fun b H5 =>
    if b = true then te σ' H5 fun y H6 => H6 D = some (.lst ys) ∧ N (ys ++ [y]) (upd H6 D (.lst (ys ++ [y]))) else N ys H5
/-- W: the invariant by the turn, a measure, what was laid into the new list at D, the heap -/
def LoopC (n : Nat) (js : List Nat) (σ : St) (g : TG) (tt : TT) (te : TE) (J : It) (H1 : Hp) (Q : VK) : Prop := ∀ D, H1 D = none → ∃ W : Nat → Nat → List V → Hp → Prop, (∃ m, W 0 m [] (upd H1 D (.lst []))) ∧ ∀ i m ys H2, W i m ys H2 →
  H2 D = some (.lst ys) ∧ ((J.stop i H2 ∧ Q (.ref D) H2) ∨ (ys.length < sizeLine ∧ J.go i H2 ∧ ∃ N : List V → Hp → Prop, (∀ ys' H', N ys' H' → ∃ m', m' < m ∧ W (i + 1) m' ys' H') ∧ ∀ x H3, J.yld i H2 x H3 → Turn1 n js σ g tt te D x ys H3 N))
def tComp (n : Nat) (js : List Nat) (wi : TI) (g : TG) (tt : TT) (te : TE) : TE := fun σ H Q => wi σ H fun J H1 => LoopC n js σ g tt te J H1 Q

theorem stC_weak {X : Cx} {pins : List (Addr × Obj)} {n : Nat} {js : List Nat} {σ σ' : St} {H : Hp} {s : Shared} (I : Inv X pins σ' H s) (hl : (stC n js σ).length = X.N.length) (hd : σ'.drop n = (stC n js σ).drop n) : Inv X pins (stC n js σ) H s := by
  refine I.weak (by rw [hl, I.len]) fun i v e => ?_
  have hi : n ≤ i := by
    by_cases hi : n ≤ i
    · exact hi
    · unfold stC at e
      rw [List.getElem?_append_left (by rw [List.length_replicate]; omega), List.getElem?_replicate] at e
      split at e <;> cases e
  have e2 : ((stC n js σ).drop n)[i - n]? = some (some v) := by rw [List.getElem?_drop]; rw [show n + (i - n) = i by omega]; exact e
  rw [← hd, List.getElem?_drop, show n + (i - n) = i by omega] at e2
  exact e2

section
variable {X : Cx}
/-- the block from the made iterator on: newList, the block's frame, the loop; RR: what is wanted behind it -/
theorem comp_block {elt tg iter : Expr} {ifs : List Expr} {scope : Scope} {pos : Pos} {g : TG} {tt : TT} {te : TE} {own : List Str} {js : List Nat} {pins : List (Addr × Obj)} {s : Shared} {σ : St} {H : Hp} {it : Addr} {fp : List Addr} {tn : Nat → Heap → Prop} {J : It} {Q : VK}
    {E : Value → Shared → Prop} {RR : Value → Addr → Result → Shared → Prop}
    (hc : X.calm = true) (S : CompScope X scope js)
    (hb : ∀ C s₀ H₀ fp pins, PG (cxC X (nmC X own js) scope C s₀ H₀ fp pins) tg g ∧ PTs (cxC X (nmC X own js) scope C s₀ H₀ fp pins) ifs tt ∧ PE (cxC X (nmC X own js) scope C s₀ H₀ fp pins) elt te)
    (I : Inv X pins σ H s) (T : Turn X.prog X.w X.K tg J fp it tn) (st : tn 0 s.heap) (f : ∀ b ∈ fp, FpOk X pins H b)
    (h : LoopC own.length js σ g tt te J H Q)
    (hR : ∀ D C H' s' m, Q (.ref D) H' → s'.heap.Ns C m → FpOk X pins H' C → Inv X pins σ H' s' → RR (.ref D) C (.ok .next) s') :
    wpAny (model X.prog X.w) X.A (newList []) (fun acc s₃ => wpAny (model X.prog X.w) X.A (newFunctionEnv scope X.env.globals (clOf scope.names X.env.cells) [] X.env.qual none .none (some X.env)) (fun cenv s₄ =>
      codeAny (model X.prog X.w) X.A (.compStart (.ListComp elt [⟨tg, iter, ifs, 0⟩] scope pos) 0 (.ref it) acc { cenv with scope := relabel scope X.env }) (RR acc cenv.locals) s₄) E s₃) E s := by
  refine wpAny_newObj_type (wpAny_newFunctionEnv S.nocell (by intro y hy; simp at hy) (fun h₁ hns₁ hsb₁ => ?_) S.kind)
  dsimp only at hns₁ hsb₁ ⊢
  obtain ⟨W, ⟨m0, w0⟩, turn⟩ := h _ I.fresh
  have I3 : Inv X pins σ (upd H s.heap.objs.size (.lst [])) { s with heap := s.heap.push { cls := .type "list", dict := none, data := .seq ([] : List Value).toArray }, toks := s.toks } := I.lnew (its := []) (t' := s.toks) .nil (Nat.zero_le _)
  generalize hs3 : ({ s with heap := s.heap.push { cls := .type "list", dict := none, data := .seq ([] : List Value).toArray }, toks := s.toks } : Shared) = s3 at I3
  have hh3 : s.heap.push { cls := .type "list", dict := none, data := .seq ([] : List Value).toArray } = s3.heap := by rw [← hs3]
  rw [hh3] at hns₁ hsb₁
  have f3 : ∀ b ∈ fp, FpOk X pins (upd H s.heap.objs.size (.lst [])) b := fun b hb => by
    obtain ⟨f0, fr⟩ := f b hb
    obtain ⟨o, ho, _⟩ := T.obj 0 s.heap st b hb
    refine ⟨?_, fr⟩
    rw [upd_ne (Nat.ne_of_lt (Heap.lt_size ho))]; exact f0
  have old1 : ∀ b o, s.heap.get? b = some o → s3.heap.get? b = some o := fun b o e => by rw [← hh3]; exact Heap.get?_push_of_some _ e
  have old : ∀ b o, s3.heap.get? b = some o → h₁.get? b = some o := fun b o e => (hsb₁.2 b (Nat.ne_of_lt (Heap.lt_size e))).trans (Heap.get?_push_of_some _ e)
  have hlt : ∀ b ∈ fp, b < s3.heap.objs.size := fun b hb => by
    obtain ⟨o, ho, _⟩ := T.obj 0 s.heap st b hb
    exact Heap.lt_size (old1 b o ho)
  have IB : ∀ tk, Inv (cxC X (nmC X own js) scope s3.heap.objs.size s3 (upd H s.heap.objs.size (.lst [])) fp pins) [] (stC own.length js σ) (upd H s.heap.objs.size (.lst [])) { s3 with heap := h₁, toks := tk } := fun tk => inv_block S I3 f3 hlt hns₁ old
  obtain ⟨hg, ht, he⟩ := hb s3.heap.objs.size s3 (upd H s.heap.objs.size (.lst [])) fp pins
  have hlen : (stC own.length js σ).length = (nmC X own js).length := (IB 0).len
  have loop : ∀ s₃ : Shared, s₃ = { s3 with heap := h₁, toks := s3.toks + ([] : List (Str × Value)).length } →
      codeAny (model X.prog X.w) X.A (.compLoop (.ListComp elt [⟨tg, iter, ifs, 0⟩] scope pos) 0 (.ref it) (.ref s.heap.objs.size) (compEnvC scope (clOf scope.names X.env.cells) s3.heap.objs.size X.env)) (RR (.ref s.heap.objs.size) s3.heap.objs.size) s₃ := by
    rintro s₃ rfl
    refine codeAny_compLoop_any (fun n s' => ∃ i ys H', Inv (cxC X (nmC X own js) scope s3.heap.objs.size s3 (upd H s.heap.objs.size (.lst [])) fp pins) [] (stC own.length js σ) H' s' ∧ tn i s'.heap ∧ (∀ b ∈ fp, H' b = none) ∧ W i n ys H') ?_ m0
      ⟨0, [], _, IB _, T.keep _ _ _ st fun b hb o e => old b o (old1 b o e), fun b hb => (f3 b hb).1, w0⟩
    rintro n s4 ⟨i, ys, H4, I4, st4, fr4, w4⟩
    have stat : ∀ {H' : Hp}, (∀ b ∈ fp, H' b = none) → ∀ b ∈ fp, FpOk (cxC X (nmC X own js) scope s3.heap.objs.size s3 (upd H s.heap.objs.size (.lst [])) fp pins) [] H' b := fun {H'} hn b hb => by
      obtain ⟨_, f1, f2, f3', f4, f5⟩ := f3 b hb
      refine ⟨hn b hb, Nat.ne_of_lt (hlt b hb), fun hq => ?_, .inl hb, fun x c e => f4 x c (clOf_sub (S.cells I3.ok) e), fun p hp => f5 p ?_⟩
      · rcases List.mem_cons.mp (I3.stkSub b hq) with z | z
        · exact f1 z
        · exact f2 z
      · have hp' : p ∈ (X.pn ++ pins) ++ [] := hp
        simpa using hp'
    obtain ⟨hD, rest⟩ := turn i n ys H4 w4
    rcases rest with ⟨stop, q⟩ | ⟨hz, go, N, hN, step⟩
    · refine thn (T.done (cxC X (nmC X own js) scope s3.heap.objs.size s3 (upd H s.heap.objs.size (.lst [])) fp pins) rfl rfl rfl hc i [] s4 _ H4 (fun _ _ => False) I4 (stat fr4) st4 stop) fun r s5 ⟨hr, I5⟩ => ?_
      subst hr
      obtain ⟨m5, hn5, _⟩ := I5.loc
      exact hR _ _ H4 s5 m5 q hn5 (I3.fpOk (Nat.le_refl _) I5.free) (I3.unblock f3 I5 (.refl ..) (Nat.le_refl _))
    · refine thn (T.item (cxC X (nmC X own js) scope s3.heap.objs.size s3 (upd H s.heap.objs.size (.lst [])) fp pins) rfl rfl rfl hc i [] s4 _ H4 (fun _ _ => False) I4 (stat fr4) st4 go) fun r s5 ⟨u, hr, h5⟩ => ?_
      subst hr
      refine thn h5 fun _ s6 ⟨x, H6, I6, r6, y6, st6, fr6⟩ => ?_
      have I6' := I6.pinned (stat fr6) (T.obj _ _ st6)
      refine thn (hg _ s6 _ H6 x u _ I6' r6 (step x H6 y6)) fun _ s7 ⟨σ7, H7, I7, hd7, q7⟩ => ?_
      refine thn (ht _ s7 σ7 H7 _ I7 q7) fun b s8 ⟨H8, I8, q8⟩ => ?_
      have again : ∀ {H9 : Hp} {s9 : Shared} {ys' : List V}, Inv (cxC X (nmC X own js) scope s3.heap.objs.size s3 (upd H s.heap.objs.size (.lst [])) fp pins) ([] ++ pinsAt fp s6.heap) σ7 H9 s9 → N ys' H9 →
          ∃ m, m < n ∧ ∃ i ys H', Inv (cxC X (nmC X own js) scope s3.heap.objs.size s3 (upd H s.heap.objs.size (.lst [])) fp pins) [] (stC own.length js σ) H' s9 ∧ tn i s9.heap ∧ (∀ b ∈ fp, H' b = none) ∧ W i m ys H' := fun {H9 s9 ys'} I9 n9 => by
        obtain ⟨m', hm, w9⟩ := hN ys' H9 n9
        refine ⟨m', hm, i + 1, ys', H9, stC_weak I9.unpinned hlen hd7, T.keep _ _ _ st6 fun b hb o e => (I9.pin (b, o) (List.mem_append_right _ (List.mem_append_right _ (mem_pinsAt hb e)))).1, fun b hb => ?_, w9⟩
        obtain ⟨o, e, d⟩ := T.obj _ _ st6 b hb
        exact (I9.pin (b, o) (List.mem_append_right _ (List.mem_append_right _ (mem_pinsAt hb e)))).2.1
      cases b with
      | false =>
        rw [if_neg Bool.false_ne_true] at q8 ⊢
        exact again I8 q8
      | true =>
        rw [if_pos rfl] at q8 ⊢
        refine thn (he _ s8 σ7 H8 _ I8 q8) fun u9 s9 ⟨y, H9, I9, r9, hD9, q9⟩ => ?_
        refine thn (mt_append (X := cxC X (nmC X own js) scope s3.heap.objs.size s3 (upd H s.heap.objs.size (.lst [])) fp pins) _ s9 σ7 H9 (.ref s.heap.objs.size) [y] (.ref s.heap.objs.size) [u9] (fun _ H' => N (ys ++ [y]) H') I9 rfl (.cons r9 .nil) ⟨_, ys, y, rfl, rfl, hD9, hz, q9⟩) fun _ s10 ⟨_, H10, I10, _, q10⟩ => ?_
        exact again I10 q10
  have hself := T.self X.A 0 { s3 with heap := h₁, toks := s3.toks + ([] : List (Str × Value)).length }
  subst hs3
  exact codeAny_compStart_list (loop _ rfl) (hself _ _ (T.keep _ _ _ st fun b hb o e => old b o (old1 b o e)) (loop _ rfl))

/-- [elt for tg in iter if ..] as a value -/
theorem pe_comp {elt tg iter : Expr} {ifs : List Expr} {scope : Scope} {pos : Pos} {wi : TI} {g : TG} {tt : TT} {te : TE} (own : List Str) (js : List Nat) (hc : X.calm = true) (S : CompScope X scope js) (hi : PI X tg iter wi)
    (hb : ∀ C s₀ H₀ fp pins, PG (cxC X (nmC X own js) scope C s₀ H₀ fp pins) tg g ∧ PTs (cxC X (nmC X own js) scope C s₀ H₀ fp pins) ifs tt ∧ PE (cxC X (nmC X own js) scope C s₀ H₀ fp pins) elt te)
    (hs : ∀ x, foldedSetIterable iter X.env x = pure x := by intro _; rfl) : PE X (.ListComp elt [⟨tg, iter, ifs, 0⟩] scope pos) (tComp own.length js wi g tt te) := by
  intro pins s σ H Q I h
  rw [eval_ListComp]
  refine wpAny_comprehension_free (use := none) (cl := clOf scope.names X.env.cells) rfl hs (closureFor_of (S.cells I.ok)) S.kind S.names ?_
  refine thn (hi pins s σ H _ I h) fun v s1 h1 => thn h1 fun itv s2 h2 => ?_
  obtain ⟨it, fp, tn, J, H2, e, I2, T, st2, f2, h2⟩ := h2
  subst e
  refine comp_block (RR := fun acc C => compPost (model X.prog X.w) X.A X.xe none (EP X pins σ Q) acc C) hc S hb I2 T st2 f2 h2 fun D C H' s' m q hn fC I3 => ?_
  exact ⟨m, hn, fun h' hs' => ⟨.ref D, H', I3.turned (t' := s'.toks) (fun b o hb e => (hs'.2 b hb).trans e) fC.1 fC.2.1 fC.2.2.2.1 fC.2.2.2.2.1 fC.2.2.2.2.2, rfl, q⟩⟩

/-- x = [..]: the name is stored ahead of the block's names going -/
def tSetC (i : Nat) (t : TE) : TS := fun D σ H => t σ H fun x H1 => D.nx (σ.set i (some x)) H1
theorem ps_setC {i : Nat} {x : Str} {elt tg iter : Expr} {ifs : List Expr} {scope : Scope} {pos pos' cpos : Pos} {wi : TI} {g : TG} {tt : TT} {te : TE} (own : List Str) (js : List Nat) (hc : X.calm = true) (hN : X.N.Nodup) (hix : X.N[i]? = some x) (hx : X.env.scope.names.lookup x = some .local)
    (S : CompScope X scope js) (hi : PI X tg iter wi)
    (hb : ∀ C s₀ H₀ fp pins, PG (cxC X (nmC X own js) scope C s₀ H₀ fp pins) tg g ∧ PTs (cxC X (nmC X own js) scope C s₀ H₀ fp pins) ifs tt ∧ PE (cxC X (nmC X own js) scope C s₀ H₀ fp pins) elt te)
    (hsw : swapsWith (.ListComp elt [⟨tg, iter, ifs, 0⟩] scope cpos) (some (.Name x pos')) pos.line X.env = pure true := by rfl)
    (hs : ∀ x, foldedSetIterable iter X.env x = pure x := by intro _; rfl) : PS X (.Assign [.Name x pos'] (.ListComp elt [⟨tg, iter, ifs, 0⟩] scope cpos) pos) (tSetC i (tComp own.length js wi g tt te)) := by
  intro pins s σ H D I h
  rw [exec_Assign_Name_used _ _ _ _ hsw]
  refine wpAny_bind (wpAny_standAt (wpAny_bind ?_))
  show wpAny _ X.A (do let _ ← comprehension (.ListComp elt [⟨tg, iter, ifs, 0⟩] scope cpos) scope X.env _ (newList []) false (eval iter X.env) (some (assign (.Name x pos') X.env))) _ _ s
  refine wpAny_bind (thn (wpAny_comprehension_free (use := some (assign (.Name x pos') X.env)) (cl := clOf scope.names X.env.cells) (Q := fun _ s' => SP X pins D .next s') rfl hs (closureFor_of (S.cells I.ok)) S.kind S.names ?_) fun _ s' hq => wpAny_pure (wpAny_pure hq))
  refine thn (hi pins s σ H _ I h) fun v s1 h1 => thn h1 fun itv s2 h2 => ?_
  obtain ⟨it, fp, tn, J, H2, e, I2, T, st2, f2, h2⟩ := h2
  subst e
  refine comp_block (RR := fun acc C => compPost (model X.prog X.w) X.A X.xe (some (assign (.Name x pos') X.env)) (fun _ s' => SP X pins D .next s') acc C) hc S hb I2 T st2 f2 h2 fun D' C H' s' m q hn fC I3 => ?_
  show wpAny _ X.A (assign (.Name x pos') X.env (.ref D')) _ _ _
  refine wpAny_assign_Name (store_ok2 I3 hN hix (.inl hx) (v := .ref D') rfl (fun s'' I4 hch => ?_) (.inr hx))
  obtain ⟨a, hsa, ha⟩ := hch
  have haC : a ≠ C := by
    rcases ha with z | z
    · rw [z]; exact Ne.symm fC.2.1
    · exact fC.2.2.2.2.1 x a z
  exact ⟨m, hn.sameBut hsa (Ne.symm haC), fun h' hs' => ⟨_, H', I4.turned (t' := s''.toks) (fun b o hb e => (hs'.2 b hb).trans e) fC.1 fC.2.1 fC.2.2.2.1 fC.2.2.2.2.1 fC.2.2.2.2.2, q⟩⟩
end
end L2

end

section
namespace L2
open PySem PySem.Spec PyProof.Rows

/-! ### a def by its name -/
structure Df (P : Program) (w : World) (K : PySem.W.Frag) (mg : Str → Option Value) (base : Heap) (x : Str) (k : Nat) (ps : List Str) (sp : Sp) : Prop where
  ex : ∃ f fd, FnOk P w K mg base CX0 k f fd ps sp ∧ Binds K fd ps [] ∧ PySem.W.keepIn K (.ref f) = true ∧ mg x = some (.ref f)
theorem Df.mk' {P : Program} {w : World} {K : PySem.W.Frag} {mg : Str → Option Value} {base : Heap} {x : Str} {k : Nat} {ps : List Str} {sp : Sp} {f : Addr} {fd : FuncData}
    (F : FnOk P w K mg base CX0 k f fd ps sp) (b : Binds K fd ps []) (kp : PySem.W.keepIn K (.ref f) = true) (m : mg x = some (.ref f)) : Df P w K mg base x k ps sp := ⟨f, fd, F, b, kp, m⟩
theorem pe_callD {X : Cx} {k : Nat} {ps : List Str} {sp : Sp} {x : Str} {p pos : Pos} {e : Expr} {es : List Expr} {t : TA} (D : Df X.prog X.w X.K X.mg X.base x k ps sp) (hr : Room k X.A) (hg : Gl X x)
    (ha : PA X (e :: es) t) (hdb : (x == ("__debug__" : Str)) = false := by decide) (he : starEach (e :: es) X.env = (false, eval e X.env) :: starEach es X.env := by rfl) (hpl : (backTo pos (starEach es X.env)).any (·.1) = false := by rfl) :
    PE X (.Call (.Name x p) (e :: es) [] pos) (tCall sp [] E0 t) := by
  obtain ⟨f, fd, F, b, kp, m⟩ := D.ex
  exact pe_call F hr hg m kp b .nil pass0 ha hdb he hpl

/-! ### the scope of a comprehension's block, by a look at closed data -/
def compOk (sc0 scope : Scope) (N : List Str) (js : List Nat) : Bool :=
  decide (scope.kind = .function) && (scope.names.all fun y => decide (y.2 ≠ .cell)) && (scope.names.all fun y => decide (y.2 ≠ .local) || decide (scope.names.lookup y.1 = some .local)) &&
  (scope.names.all fun y => decide (y.2 ≠ .free) || decide (sc0.names.lookup y.1 = some .cell) || decide (sc0.names.lookup y.1 = some .free)) &&
  (js.all fun j => decide (scope.names.lookup (N.getD j "") = some .free) && decide (j < N.length))
theorem comp_scope {X : Cx} {N P : List Str} {sc0 scope : Scope} {js : List Nat} (S : FnScope N P sc0) (hE : X.env.scope = sc0 := by rfl) (hN : X.N = N := by rfl) (h : compOk sc0 scope N js = true := by decide +kernel) : CompScope X scope js := by
  unfold compOk at h
  simp only [Bool.and_eq_true, List.all_eq_true, Bool.or_eq_true, decide_eq_true_eq] at h
  obtain ⟨⟨⟨⟨h1, h2⟩, h3⟩, h4⟩, h5⟩ := h
  refine ⟨h1, h2, fun x hx e => ?_, fun x hx e => ?_, fun j hj => ?_⟩
  · rcases h3 x hx with z | z
    · exact absurd e z
    · exact z
  · have hk : X.env.kindOf x.1 = sc0.names.lookup x.1 := by show X.env.scope.names.lookup x.1 = _; rw [hE]
    rw [hk]
    rcases h4 x hx with (z | z) | z
    · exact absurd e z
    · exact .inl z
    · exact .inr z
  · rw [hN]; exact h5 j hj

theorem nd_c {X : Cx} {N P : List Str} {sc0 scope : Scope} {own : List Str} {js : List Nat} {C : Addr} {s₀ : Shared} {H₀ : Hp} {fp : List Addr} {pins : List (Addr × Obj)} (S : FnScope N P sc0) (h : (own ++ js.map fun j => N.getD j "").Nodup) (hN : X.N = N := by rfl) :
    (cxC X (nmC X own js) scope C s₀ H₀ fp pins).N.Nodup := by
  show (nmC X own js).Nodup
  unfold nmC
  rw [hN]; exact h

/-! ### heaps in short -/
theorem same_new {H : Hp} {p : Addr} (h : H p = none) (o : HO) : Same H (upd H p o) := fun b u q => by rw [upd_ne (ne_of_none q h)]; exact q
/-- an object that was not there at H0 is written -/
theorem Same.wr {H0 H : Hp} {l : Addr} (S : Same H0 H) (h : H0 l = none) (o : HO) : Same H0 (upd H l o) := fun b u q => by rw [upd_ne (ne_of_none q h)]; exact S b u q
theorem Same.new {H0 H : Hp} {l : Addr} (S : Same H0 H) (h : H l = none) (o : HO) : Same H0 (upd H l o) := S.trans (same_new h o)

/-! ### the forms of a comprehension's reading -/
section
variable {n : Nat} {js : List Nat} {σ : St} {g : TG} {tt : TT} {te : TE} {H1 : Hp} {Q : VK}
/-- over a list that stays -/
theorem comp_list {K : PySem.W.Frag} {a : Addr} {xs : List V} (Pv : Addr → Nat → List V → Hp → Prop) (hz : xs.length < sizeLine) (h0 : ∀ D, H1 D = none → Pv D 0 [] (upd H1 D (.lst [])))
    (hl : ∀ D i ys H, H1 D = none → i ≤ xs.length → Pv D i ys H → SqL K H a xs ∧ H D = some (.lst ys) ∧ ys.length ≤ i)
    (hs : ∀ D i x ys H, H1 D = none → xs[i]? = some x → Pv D i ys H → Turn1 n js σ g tt te D x ys H (Pv D (i + 1))) (hd : ∀ D ys H, H1 D = none → Pv D xs.length ys H → Q (.ref D) H) : LoopC n js σ g tt te (Itl K a) H1 Q := by
  intro D hD
  refine ⟨fun i m ys H => m = xs.length - i ∧ i ≤ xs.length ∧ Pv D i ys H, ⟨xs.length, by simp, Nat.zero_le _, h0 D hD⟩, ?_⟩
  rintro i m ys H ⟨rfl, hi, p⟩
  obtain ⟨q, q2, q3⟩ := hl D i ys H hD hi p
  refine ⟨q2, ?_⟩
  by_cases hlt : i < xs.length
  · refine .inr ⟨by omega, ⟨xs, xs[i], q, by simp [hlt]⟩, Pv D (i + 1), fun ys' H' p' => ⟨xs.length - (i + 1), by omega, rfl, hlt, p'⟩, fun x H' y => ?_⟩
    obtain ⟨e, y⟩ := y
    subst e
    exact hs D i x ys _ hD (y xs q) p
  · have e : i = xs.length := by omega
    subst e
    exact .inl ⟨⟨xs, q, Nat.le_refl _⟩, hd D ys H hD p⟩
/-- over a range -/
theorem comp_range {lo : Int} {k : Nat} (Pv : Addr → Nat → List V → Hp → Prop) (hz : k < sizeLine) (h0 : ∀ D, H1 D = none → Pv D 0 [] (upd H1 D (.lst [])))
    (hl : ∀ D i ys H, H1 D = none → i ≤ k → Pv D i ys H → H D = some (.lst ys) ∧ ys.length ≤ i)
    (hs : ∀ D i ys H, H1 D = none → i < k → Pv D i ys H → Turn1 n js σ g tt te D (.int (lo + i)) ys H (Pv D (i + 1))) (hd : ∀ D ys H, H1 D = none → Pv D k ys H → Q (.ref D) H) : LoopC n js σ g tt te (Itr lo k) H1 Q := by
  intro D hD
  refine ⟨fun i m ys H => m = k - i ∧ i ≤ k ∧ Pv D i ys H, ⟨k, by simp, Nat.zero_le _, h0 D hD⟩, ?_⟩
  rintro i m ys H ⟨rfl, hi, p⟩
  obtain ⟨q2, q3⟩ := hl D i ys H hD hi p
  refine ⟨q2, ?_⟩
  by_cases hlt : i < k
  · refine .inr ⟨by omega, hlt, Pv D (i + 1), fun ys' H' p' => ⟨k - (i + 1), by omega, rfl, hlt, p'⟩, fun x H' y => ?_⟩
    obtain ⟨e, y⟩ := y
    subst e y
    exact hs D i ys _ hD hlt p
  · have e : i = k := by omega
    subst e
    exact .inl ⟨Nat.le_refl _, hd D ys H hD p⟩
end

/-! ### a range with a step -/
section
variable {X : Cx} {tg : Expr}
end

/-! ### a, b = a list -/
section
variable {prog : Program} {w : World} {A : Around} {E : Value → Shared → Prop}
end
section
variable {X : Cx} {pos : Pos}
end

/-! ### isinstance, of values whose type is known -/
section
variable {X : Cx}
/-- what a class is as a value -/
def clsV : V → Option Value
  | .ty n => some (.type n)
  | .ref a => some (.ref a)
  | _ => none
/-- isinstance(x, c): c a built-in type or a class of the text -/
def rIsI (K : PySem.W.Frag) : List V → Hp → VK → Prop := fun xs H Q => ∃ x c cv t b, xs = [x, c] ∧ clsV c = some cv ∧ TyOf K H x t ∧ PySem.W.kitOne K t cv = some b ∧ Q (.bl b) H
theorem call_isinstance : CallR X (.builtin "isinstance") (rIsI X.K) := by
  intro pins s σ H xs us Q I r h
  obtain ⟨x, c, cv, t, b, rfl, rc, ty, e, q⟩ := h
  obtain ⟨u, u', rfl, ru, ru'⟩ := vals2 r
  have ec : u' = cv := by
    cases c with
    | ty n => cases ru'; exact Option.some.inj rc
    | ref a => cases ru'; exact Option.some.inj rc
    | _ => cases rc
  subst ec
  exact isinst_ok I ru ty e fun tk => ⟨.bl b, H, I.tok _, rfl, q⟩
end
end L2

end

section
namespace L2
open PySem PySem.Spec PyProof.Rows

/-! ### a reading put in the place of another -/

/-! ### tests over ints -/
theorem iteI {a b : Int} {A B : Prop} (h1 : a = b → A) (h2 : a ≠ b → B) : if decide (V.int a = V.int b) = true then A else B := by
  by_cases h : a = b
  · rw [if_pos (by rw [h]; exact decide_eq_true rfl)]; exact h1 h
  · rw [if_neg (by intro z; have := of_decide_eq_true z; injection this with e; exact h e)]; exact h2 h
theorem iteIn {a b : Int} {A B : Prop} (h1 : a ≠ b → A) (h2 : a = b → B) : if (!decide (V.int a = V.int b)) = true then A else B := by
  by_cases h : a = b
  · rw [if_neg (by rw [h]; simp)]; exact h2 h
  · rw [if_pos (by simp [h])]; exact h1 h
theorem decI {a b : Int} : decide (V.int a = V.int b) = decide (a = b) := by
  by_cases h : a = b
  · subst h; rw [decide_eq_true rfl, decide_eq_true rfl]
  · rw [decide_eq_false h, decide_eq_false (fun z => h (by injection z))]
theorem iteD {c A B : Prop} [Decidable c] (h1 : c → A) (h2 : ¬ c → B) : if decide c = true then A else B := by
  by_cases h : c
  · rw [if_pos (decide_eq_true h)]; exact h1 h
  · rw [if_neg (by rw [decide_eq_false h]; exact Bool.false_ne_true)]; exact h2 h

/-! ### triples of ints (deeds) -/
abbrev D3 := Int × Int × Int
def tupV (d : D3) : List V := [.int d.1, .int d.2.1, .int d.2.2]
/-- the value v is a tuple of the three -/
def T3 (H : Hp) (v : V) (d : D3) : Prop := ∃ a, v = .ref a ∧ H a = some (.tup (tupV d))
theorem T3.same {H H' : Hp} {v : V} {d : D3} (S : Same H H') (h : T3 H v d) : T3 H' v d := let ⟨a, e, q⟩ := h; ⟨a, e, S _ _ q⟩

theorem bitOr_pp {x y : Int} (hx : 0 ≤ x) (hy : 0 ≤ y) : Builtin.bitOr x y = ((x.toNat ||| y.toNat : Nat) : Int) := by
  rw [bitOr_and, bitAnd_pp hx hy]
  have e := nat_or_add_and x.toNat y.toNat
  omega

/-! ### the program's own clash -/
/-- a box that d changes is looked at or changed by e -/
def distB (d e : D3) : Bool := !decide (V.int (Builtin.bitAnd d.2.2 (Builtin.bitOr e.2.1 e.2.2)) = V.int 0)
def clashB (d e : D3) : Bool := distB d e || distB e d
def spDisturbs : Sp := fun vs H Q _ => ∃ x y d e, vs = [x, y] ∧ T3 H x d ∧ T3 H y e ∧ Q (.bl (distB d e)) H
def spClash : Sp := fun vs H Q _ => ∃ x y d e, vs = [x, y] ∧ T3 H x d ∧ T3 H y e ∧ Q (.bl (clashB d e)) H
end L2

end

section
namespace L2
open PySem PySem.Spec PyProof.Rows

/-! ### several records turn, a new object is laid -/
section
variable {X : Cx} {pins : List (Addr × Obj)} {σ : St} {H : Hp} {s : Shared} {h' : Heap} {ch : List Addr}
theorem Inv.turnedL {t' : Nat} (I : Inv X pins σ H s) (hch : ∀ b ∈ ch, FpOk X pins H b) (k : ∀ b u, b ∉ ch → s.heap.get? b = some u → h'.get? b = some u) : Inv X pins σ H { s with heap := h', toks := t' } := by
  have nit : ∀ b u, H b = some u → b ∉ ch := fun b u e z => by rw [(hch b z).1] at e; cases e
  refine I.step (g' := s.gens) (d' := s.drawn) (ch := ch) (fun b hb => ⟨(hch b hb).2.2.2.1, (hch b hb).2.1, (hch b hb).2.2.2.2.1, (hch b hb).2.2.2.2.2⟩) (fun b o _ _ hc e _ => k b o hc e) (fun b o _ _ hc e _ => ⟨o.slots, k b o hc e⟩) (fun _ _ _ _ n => n)
    (fun b o hc e => ⟨o, k b o hc e⟩) (fun _ _ e => e) (fun _ _ _ e => e) (fun b ps e => ⟨#[], by rw [e]; simp⟩) (fun m hm => ?_) (fun b u e => ?_) I.bare
  · obtain ⟨o, es, ep, ho, r⟩ := hm
    exact ⟨o, es, ep, k _ o (fun z => (hch _ z).2.1 rfl) ho, r⟩
  · refine (I.hok b u e).stay (fun c v hc q => k c v ?_ q) (fun _ q => q) fun _ _ q => q
    rcases hc with z | z
    · rw [z]; exact nit b u e
    · exact nit c _ z
theorem Inv.turnedNew {a : Addr} {o : HO} {t' : Nat} (I : Inv X pins σ H s) (hch : ∀ b ∈ ch, FpOk X pins H b) (k : ∀ b u, b ∉ ch → s.heap.get? b = some u → h'.get? b = some u) (ha : s.heap.objs.size ≤ a)
    (new : ObjOk X.prog X.w (upd H a o) h' a o) : Inv X pins σ (upd H a o) { s with heap := h', toks := t' } := by
  have nit : ∀ b u, H b = some u → b ∉ ch := fun b u e z => by rw [(hch b z).1] at e; cases e
  have hn : H a = none := I.hok.fresh ha
  have ne : ∀ b u, s.heap.get? b = some u → b ≠ a := fun b u e => Nat.ne_of_lt (Nat.lt_of_lt_of_le (Heap.lt_size e) ha)
  have up : ∀ b u, H b = some u → upd H a o b = some u := fun b u e => by rw [upd_ne (ne_of_none e hn)]; exact e
  refine I.step (g' := s.gens) (d' := s.drawn) (ch := ch) (fun b hb => ⟨(hch b hb).2.2.2.1, (hch b hb).2.1, (hch b hb).2.2.2.2.1, (hch b hb).2.2.2.2.2⟩) (fun b o _ _ hc e _ => k b o hc e) (fun b o _ _ hc e _ => ⟨o.slots, k b o hc e⟩)
    (fun b u _ e n => by rw [upd_ne (ne b u e)]; exact n) (fun b o hc e => ⟨o, k b o hc e⟩) (fun b xs e => up b _ e) (fun b _ _ e => up b _ e) (fun b ps e => ⟨#[], by rw [up b _ e]; simp⟩) (fun m hm => ?_) (fun b u e => ?_) I.bare
  · obtain ⟨o, es, ep, ho, r⟩ := hm
    exact ⟨o, es, ep, k _ o (fun z => (hch _ z).2.1 rfl) ho, r⟩
  · by_cases hb : b = a
    · subst hb; rw [upd_same] at e; cases e; exact new
    · rw [upd_ne hb] at e
      refine (I.hok b u e).stay (fun c v hc q => k c v ?_ q) (fun c q => up c _ q) fun c xs q => up c _ q
      rcases hc with z | z
      · rw [z]; exact nit b u e
      · exact nit c _ z
end

/-! ### a sequence's own iterator, as zip draws from it -/
structure SeqKind where
  Seq : Heap → Addr → Array Value → Prop
  It : Heap → Addr → Addr → Nat → Prop
  sq : PySem.W.Frag → Hp → Addr → List V → Prop
  seqAt : ∀ {h h' : Heap} {a : Addr} {xs : Array Value}, Seq h a xs → (∀ o, h.get? a = some o → h'.get? a = some o) → Seq h' a xs
  itAt : ∀ {h h' : Heap} {i a : Addr} {k : Nat}, It h i a k → (∀ o, h.get? i = some o → h'.get? i = some o) → It h' i a k
  seqO : ∀ {h : Heap} {a : Addr} {xs : Array Value}, Seq h a xs → ∃ o, h.get? a = some o
  itO : ∀ {h : Heap} {i a : Addr} {k : Nat}, It h i a k → ∃ o, h.get? i = some o ∧ ∀ v, o.data ≠ .cell v
  next : ∀ {prog : Program} {w : World} {A : Around} {E : Value → Shared → Prop} {s : Shared} {i a : Addr} {k : Nat} {xs : Array Value} {x : Value} {Q : Value → Shared → Prop}, It s.heap i a k → Seq s.heap a xs → xs[k]? = some x →
    (∀ h', It h' i a (k + 1) → Heap.SameBut i s.heap h' → Q x { s with heap := h' }) → wpAny (model prog w) A (Builtin.SmallTypes.nextOf (.ref i)) Q E s
  stop : ∀ {prog : Program} {w : World} {A : Around} {E : Value → Shared → Prop} {s : Shared} {i a : Addr} {k : Nat} {xs : Array Value} {Q : Value → Shared → Prop}, A.handled = none → It s.heap i a k → Seq s.heap a xs → xs[k]? = none →
    (∀ h' e, Heap.ExtBut i s.heap h' → (∃ o, h'.get? e = some o ∧ o.cls = .type "StopIteration") → E (.ref e) { s with heap := h' }) → wpAny (model prog w) A (Builtin.SmallTypes.nextOf (.ref i)) Q E s
  read : ∀ {X : Cx} {pins : List (Addr × Obj)} {σ : St} {H : Hp} {s : Shared} {a : Addr} {xs : List V}, Inv X pins σ H s → sq X.K H a xs → ∃ its : List Value, Vals xs its ∧ Seq s.heap a its.toArray
  inj : ∀ {X : Cx} {pins : List (Addr × Obj)} {σ : St} {H : Hp} {s : Shared} {a : Addr} {xs ys : List V}, Inv X pins σ H s → sq X.K H a xs → sq X.K H a ys → xs = ys

section
variable {prog : Program} {w : World} {A : Around} {E : Value → Shared → Prop} {s : Shared}
end
/-- lists -/
def kL : SeqKind where
  Seq := fun h a xs => h.IsList a xs
  It := fun h i a k => h.IsListIter i a k
  sq := SqL
  seqAt := fun x e => x.at e
  itAt := fun x e => x.at e
  seqO := fun ⟨o, e, _⟩ => ⟨o, e⟩
  itO := fun ⟨o, e, _, d⟩ => ⟨o, e, fun v z => by rw [d] at z; cases z⟩
  next := fun h1 h2 h3 h4 => wpAny_nextOf_list_item h1 h2 h3 h4
  stop := fun h0 h1 h2 h3 h4 => wpAny_nextOf_list_end h0 h1 h2 h3 h4
  read := fun I h => let ⟨its, r, p, _⟩ := I.list h; ⟨its, r, p.isList⟩
  inj := fun I h h' => I.list_inj h h'

/-! ### zip of two sequences of a kind -/
section
variable {prog : Program} {w : World} {A : Around} {E : Value → Shared → Prop} {s : Shared} (k : SeqKind)
theorem zipK_item {z TI TO i1 i2 l1 l2 : Addr} {n1 n2 : Nat} {xs ys : Array Value} {x y a b : Value} {Q : Option Value → Shared → Prop} (D : ZipApart z TI TO i1 i2 l1 l2)
    (hz : IsZip s.heap z TI TO .none) (hTI : IsPair s.heap TI (.ref i1) (.ref i2)) (hTO : IsPair s.heap TO a b) (h1 : k.It s.heap i1 l1 n1) (h2 : k.It s.heap i2 l2 n2) (hl1 : k.Seq s.heap l1 xs) (hl2 : k.Seq s.heap l2 ys)
    (hx : xs[n1]? = some x) (hy : ys[n2]? = some y)
    (hQ : ∀ h', IsZip h' z TI TO (rawInt s.heap.objs.size) → IsPair h' TO x y → k.It h' i1 l1 (n1 + 1) → k.It h' i2 l2 (n2 + 1) → IsPair h' s.heap.objs.size x y → h'.objs.size = s.heap.objs.size + 1 →
      (∀ c o, c ≠ z → c ≠ TO → c ≠ i1 → c ≠ i2 → s.heap.get? c = some o → h'.get? c = some o) → Q (some (.ref s.heap.objs.size)) { s with heap := h' }) :
    wpAny (model prog w) A (pyNext (.ref z)) Q E s := by
  have hT : s.TypeIs (.ref z) "zip" := ⟨_, hz, rfl⟩
  unfold pyNext
  refine wpAny_bind (wpAny_attempt (wpAny_callSpecial?_slot (name := Str.ofString "__next__") hT F.slot_zip_next (wpAny_call_entry F.slot_zip_next hT F.entry_zip_next ?_ (F.args_zip_next_1 _))))
  show wpAny _ _ (field (.ref z) 2 >>= _) _ _ _; refine wpAny_bind (wpAny_field hz rfl (x := .bool false) rfl ?_)
  show wpAny _ _ (field (.ref z) 3 >>= _) _ _ _; refine wpAny_bind (wpAny_field hz rfl (x := .ref TI) rfl (wpAny_bind (wpAny_seqItems hTI rfl ?_)))
  show wpAny _ _ (Builtin.SmallTypes.ownedTupleIsFree (.ref z) >>= _) _ _ _; refine wpAny_bind ?_; unfold Builtin.SmallTypes.ownedTupleIsFree
  refine wpAny_bind (wpAny_field hz rfl (x := .none) rfl (wpAny_pure ?_)); simp only [if_true]
  refine wpAny_bind (wpAny_rule (wpAny_bind (wpAny_field hz rfl (x := .ref TO) rfl (wpAny_bind (wpAny_setField_rec hz (by simp) fun g1 z1 s1 => ?_)))))
  replace z1 : IsZip g1 z TI TO .ellipsis := z1
  refine wpAny_bind ?_; simp only [List.zipIdx_cons, List.zipIdx_nil, List.forIn_cons, List.forIn_nil]
  refine wpAny_bind (wpAny_bind (wpAny_onRaise ?_))
  show wpAny _ _ (Builtin.SmallTypes.nextOf (.ref i1) >>= _) _ _ _
  refine wpAny_bind (k.next (k.itAt h1 fun o e => s1.extBut _ _ D.i1z e) (k.seqAt hl1 fun o e => s1.extBut _ _ D.l1z e) hx fun g2 it2 s2 => wpAny_pure ?_)
  have TO2 : IsPair g2 TO a b := s2.extBut _ _ D.TOi1 (s1.extBut _ _ D.TOz hTO)
  refine wpAny_bind (wpAny_seqItems TO2 rfl (wpAny_bind (wpAny_updateSeq_pair TO2 fun g3 TO3 s3 => ?_)))
  replace TO3 : IsPair g3 TO x b := TO3
  refine wpAny_bind (wpAny_letGo (wpAny_pure ?_)); refine wpAny_bind (wpAny_bind (wpAny_onRaise ?_))
  show wpAny _ _ (Builtin.SmallTypes.nextOf (.ref i2) >>= _) _ _ _
  refine wpAny_bind (k.next (k.itAt h2 fun o e => s3.extBut _ _ D.TOi2.symm (s2.extBut _ _ D.i12.symm (s1.extBut _ _ D.i2z e))) (k.seqAt hl2 fun o e => s3.extBut _ _ D.l2TO (s2.extBut _ _ D.l2i1 (s1.extBut _ _ D.l2z e))) hy fun g4 it4 s4 => wpAny_pure ?_)
  have TO4 : IsPair g4 TO x b := s4.extBut _ _ D.TOi2 TO3
  refine wpAny_bind (wpAny_seqItems TO4 rfl (wpAny_bind (wpAny_updateSeq_pair TO4 fun g5 TO5 s5 => ?_)))
  replace TO5 : IsPair g5 TO x y := TO5
  refine wpAny_bind (wpAny_letGo (wpAny_pure (wpAny_pure ?_))); refine wpAny_bind (wpAny_seqItems TO5 rfl (wpAny_bind (wpAny_newTuple ?_)))
  have sz : g5.objs.size = s.heap.objs.size := by rw [s5.1, s4.1, s3.1, s2.1, s1.1]
  have z5 : IsZip g5 z TI TO .ellipsis := s5.extBut _ _ D.TOz.symm (s4.extBut _ _ D.i2z.symm (s3.extBut _ _ D.TOz.symm (s2.extBut _ _ D.i1z.symm z1)))
  have k5 : ∀ c o, c ≠ z → c ≠ TO → c ≠ i1 → c ≠ i2 → s.heap.get? c = some o → g5.get? c = some o := fun c o c1 c2 c3 c4 e => s5.extBut _ _ c2 (s4.extBut _ _ c4 (s3.extBut _ _ c2 (s2.extBut _ _ c3 (s1.extBut _ _ c1 e))))
  have it15 : k.It g5 i1 l1 (n1 + 1) := k.itAt it2 fun o e => s5.extBut _ _ D.TOi1.symm (s4.extBut _ _ D.i12 (s3.extBut _ _ D.TOi1.symm e))
  have it25 : k.It g5 i2 l2 (n2 + 1) := k.itAt it4 fun o e => s5.extBut _ _ D.TOi2.symm e
  have zlt : z < g5.objs.size := Heap.lt_size z5
  show wpAny _ _ (Builtin.SmallTypes.ownedTupleHandOut (.ref z) (.ref g5.objs.size) >>= _) _ _ _; refine wpAny_bind ?_; unfold Builtin.SmallTypes.ownedTupleHandOut
  have z6 : IsZip (g5.push { cls := .type "tuple", data := .seq #[x, y] }) z TI TO .ellipsis := Heap.get?_push_of_some _ z5
  refine wpAny_bind (wpAny_setField_rec z6 (by simp) fun g7 z7 s7 => ?_)
  replace z7 : IsZip g7 z TI TO (rawInt g5.objs.size) := z7
  refine wpAny_setField_rec z7 (by simp) fun g8 z8 s8 => ?_
  replace z8 : IsZip g8 z TI TO (rawInt g5.objs.size) := z8
  have up : ∀ c o, c ≠ z → g5.get? c = some o → g8.get? c = some o := fun c o c1 e => s8.extBut _ _ c1 (s7.extBut _ _ c1 (Heap.get?_push_of_some _ e))
  have T8 : IsPair g8 g5.objs.size x y := s8.extBut _ _ (Nat.ne_of_gt zlt) (s7.extBut _ _ (Nat.ne_of_gt zlt) (Heap.get?_push_size _ rfl))
  have sz8 : g8.objs.size = g5.objs.size + 1 := by rw [s8.1, s7.1, Heap.size_push]
  rw [sz] at z8 T8 sz8
  refine wpAny_pure ⟨_, rfl, wpAny_pure ?_⟩
  show Q (some (.ref g5.objs.size)) _; rw [sz]
  exact hQ g8 z8 (up _ _ D.TOz TO5) (k.itAt it15 fun o e => up _ o D.i1z e) (k.itAt it25 fun o e => up _ o D.i2z e) T8 sz8 fun c o c1 c2 c3 c4 e => up c o c1 (k5 c o c1 c2 c3 c4 e)
theorem zipK_end {z TI TO i1 i2 l1 l2 : Addr} {n1 n2 : Nat} {xs ys : Array Value} {a b : Value} {Q : Option Value → Shared → Prop} (hh : A.handled = none) (D : ZipApart z TI TO i1 i2 l1 l2)
    (hz : IsZip s.heap z TI TO .none) (hTI : IsPair s.heap TI (.ref i1) (.ref i2)) (hTO : IsPair s.heap TO a b) (h1 : k.It s.heap i1 l1 n1) (h2 : k.It s.heap i2 l2 n2) (hl1 : k.Seq s.heap l1 xs) (hl2 : k.Seq s.heap l2 ys)
    (hend : xs[n1]? = none ∨ ys[n2]? = none) (hQ : ∀ h', (∀ c o, c ≠ z → c ≠ TO → c ≠ i1 → c ≠ i2 → s.heap.get? c = some o → h'.get? c = some o) → Q none { s with heap := h' }) : wpAny (model prog w) A (pyNext (.ref z)) Q E s := by
  have hT : s.TypeIs (.ref z) "zip" := ⟨_, hz, rfl⟩
  unfold pyNext
  refine wpAny_bind (wpAny_attempt (wpAny_callSpecial?_slot (name := Str.ofString "__next__") hT F.slot_zip_next (wpAny_call_entry F.slot_zip_next hT F.entry_zip_next ?_ (F.args_zip_next_1 _))))
  have fin : ∀ (h' : Heap) (e : Addr), (∀ c o, c ≠ z → c ≠ TO → c ≠ i1 → c ≠ i2 → s.heap.get? c = some o → h'.get? c = some o) → (∃ o, h'.get? e = some o ∧ o.cls = .type "StopIteration") →
      wpAny (model prog w) A (isInstance (.ref e) (.type "StopIteration") >>= fun t => if t = true then pure none else throw (.ref e)) Q E { s with heap := h' } := fun h' e hk ⟨o, ho, hc⟩ =>
    wpAny_bind (wpAny_isInstance (T := "StopIteration") (b := true) ⟨o, ho, hc⟩ isSubtype_stop (wpAny_pure (hQ _ hk)))
  show wpAny _ _ (field (.ref z) 2 >>= _) _ _ _; refine wpAny_bind (wpAny_field hz rfl (x := .bool false) rfl ?_)
  show wpAny _ _ (field (.ref z) 3 >>= _) _ _ _; refine wpAny_bind (wpAny_field hz rfl (x := .ref TI) rfl (wpAny_bind (wpAny_seqItems hTI rfl ?_)))
  show wpAny _ _ (Builtin.SmallTypes.ownedTupleIsFree (.ref z) >>= _) _ _ _; refine wpAny_bind ?_; unfold Builtin.SmallTypes.ownedTupleIsFree
  refine wpAny_bind (wpAny_field hz rfl (x := .none) rfl (wpAny_pure ?_)); simp only [if_true]
  refine wpAny_bind (wpAny_rule (wpAny_bind (wpAny_field hz rfl (x := .ref TO) rfl (wpAny_bind (wpAny_setField_rec hz (by simp) fun g1 z1 s1 => ?_)))))
  replace z1 : IsZip g1 z TI TO .ellipsis := z1
  refine wpAny_bind ?_; simp only [List.zipIdx_cons, List.zipIdx_nil, List.forIn_cons, List.forIn_nil]
  refine wpAny_bind (wpAny_bind (wpAny_onRaise ?_))
  show wpAny _ _ (Builtin.SmallTypes.nextOf (.ref i1) >>= _) _ _ _
  cases hx : xs[n1]? with
  | none =>
    refine wpAny_bind (k.stop hh (k.itAt h1 fun o e => s1.extBut _ _ D.i1z e) (k.seqAt hl1 fun o e => s1.extBut _ _ D.l1z e) hx fun g2 e s2 he => ?_)
    obtain ⟨oe, hoe, hce⟩ := he
    have z2 : IsZip g2 z TI TO .ellipsis := s2 _ _ D.i1z.symm z1
    have ez : e ≠ z := fun q => by subst q; rw [z2] at hoe; cases hoe; simp at hce
    refine wpAny_setField_rec z2 (by simp) fun g3 _ s3 => ?_
    exact fin g3 e (fun c o c1 _ c3 _ q => s3.extBut _ _ c1 (s2 _ _ c3 (s1.extBut _ _ c1 q))) ⟨oe, s3.extBut _ _ ez hoe, hce⟩
  | some x =>
    have hy : ys[n2]? = none := by rcases hend with q | q; (rw [hx] at q; cases q); exact q
    refine wpAny_bind (k.next (k.itAt h1 fun o e => s1.extBut _ _ D.i1z e) (k.seqAt hl1 fun o e => s1.extBut _ _ D.l1z e) hx fun g2 it2 s2 => wpAny_pure ?_)
    have TO2 : IsPair g2 TO a b := s2.extBut _ _ D.TOi1 (s1.extBut _ _ D.TOz hTO)
    refine wpAny_bind (wpAny_seqItems TO2 rfl (wpAny_bind (wpAny_updateSeq_pair TO2 fun g3 TO3 s3 => ?_)))
    refine wpAny_bind (wpAny_letGo (wpAny_pure ?_)); refine wpAny_bind (wpAny_bind (wpAny_onRaise ?_))
    show wpAny _ _ (Builtin.SmallTypes.nextOf (.ref i2) >>= _) _ _ _
    refine wpAny_bind (k.stop hh (k.itAt h2 fun o e => s3.extBut _ _ D.TOi2.symm (s2.extBut _ _ D.i12.symm (s1.extBut _ _ D.i2z e))) (k.seqAt hl2 fun o e => s3.extBut _ _ D.l2TO (s2.extBut _ _ D.l2i1 (s1.extBut _ _ D.l2z e))) hy fun g4 e s4 he => ?_)
    obtain ⟨oe, hoe, hce⟩ := he
    have z4 : IsZip g4 z TI TO .ellipsis := s4 _ _ D.i2z.symm (s3.extBut _ _ D.TOz.symm (s2.extBut _ _ D.i1z.symm z1))
    have ez : e ≠ z := fun q => by subst q; rw [z4] at hoe; cases hoe; simp at hce
    refine wpAny_setField_rec z4 (by simp) fun g5 _ s5 => ?_
    exact fin g5 e (fun c o c1 c2 c3 c4 q => s5.extBut _ _ c1 (s4 _ _ c4 (s3.extBut _ _ c2 (s2.extBut _ _ c3 (s1.extBut _ _ c1 q))))) ⟨oe, s5.extBut _ _ ez hoe, hce⟩
end

/-- at turn i: the pair of the i-th items, a new tuple -/
def Itz (k : SeqKind) (K : PySem.W.Frag) (a b : Addr) : It :=
  ⟨fun i H => ∃ xs ys x y, k.sq K H a xs ∧ k.sq K H b ys ∧ xs[i]? = some x ∧ ys[i]? = some y,
   fun i H v H' => ∃ p x y, v = .ref p ∧ H p = none ∧ H' = upd H p (.tup [x, y]) ∧ (∀ xs, k.sq K H a xs → xs[i]? = some x) ∧ ∀ ys, k.sq K H b ys → ys[i]? = some y,
   fun i H => ∃ xs ys, k.sq K H a xs ∧ k.sq K H b ys ∧ (xs.length ≤ i ∨ ys.length ≤ i)⟩
theorem turn_zip (k : SeqKind) {P : Program} {w : World} {K : PySem.W.Frag} {es : List Expr} {x1 : Nat} {tpos : Pos} {z TI TO i1 i2 a b : Addr} (D : ZipApart z TI TO i1 i2 a b) :
    Turn P w K (.Tuple es x1 tpos) (Itz k K a b) [z, TI, TO, i1, i2] z (fun i h => IsZip h z TI TO .none ∧ IsPair h TI (.ref i1) (.ref i2) ∧ (∃ u v, IsPair h TO u v) ∧ k.It h i1 a i ∧ k.It h i2 b i) where
  mem := by simp
  obj := fun i h st c hc => by
    obtain ⟨h1, h2, ⟨u, v, h3⟩, h4, h5⟩ := st
    simp only [List.mem_cons, List.not_mem_nil, or_false] at hc
    rcases hc with rfl | rfl | rfl | rfl | rfl
    · exact ⟨_, h1, fun v z => by cases z⟩
    · exact ⟨_, h2, fun v z => by cases z⟩
    · exact ⟨_, h3, fun v z => by cases z⟩
    · exact k.itO h4
    · exact k.itO h5
  keep := fun i h h' st kp => by
    obtain ⟨h1, h2, ⟨u, v, h3⟩, h4, h5⟩ := st
    exact ⟨kp z (by simp) _ h1, kp TI (by simp) _ h2, ⟨u, v, kp TO (by simp) _ h3⟩, k.itAt h4 fun o e => kp i1 (by simp) o e, k.itAt h5 fun o e => kp i2 (by simp) o e⟩
  item := by
    intro X hP hw hK hc i pins s σ H E I hf st hg
    subst hP hw hK
    obtain ⟨h1, h2, ⟨u, v, h3⟩, h4, h5⟩ := st
    obtain ⟨xs, ys, x, y, q1, q2, e1, e2⟩ := hg
    obtain ⟨its1, r1, p1⟩ := k.read I q1
    obtain ⟨its2, r2, p2⟩ := k.read I q2
    obtain ⟨u1, hu1, ru1⟩ := r1.get e1
    obtain ⟨u2, hu2, ru2⟩ := r2.get e2
    refine zipK_item k D h1 h2 h3 h4 h5 p1 p2 (x := u1) (y := u2) (by simpa using hu1) (by simpa using hu2) fun h' a1 a2 a3 a4 a5 a6 hk => ⟨_, rfl, ?_⟩
    refine wpAny_letOwnedTupleGo_zip a1 fun h'' b1 b2 => ?_
    have hfp : ∀ c ∈ [z, TO, i1, i2], FpOk X pins H c := fun c hc => hf c (by simp only [List.mem_cons, List.not_mem_nil, or_false] at hc ⊢; rcases hc with q | q | q | q <;> simp [q])
    have lz : z < s.heap.objs.size := Heap.lt_size h1
    have up : ∀ c o, c ∉ [z, TO, i1, i2] → s.heap.get? c = some o → h''.get? c = some o := fun c o hc e => by
      simp only [List.mem_cons, List.not_mem_nil, or_false, not_or] at hc
      exact b2.extBut _ _ hc.1 (hk c o hc.1 hc.2.1 hc.2.2.1 hc.2.2.2 e)
    have T2 : IsPair h'' s.heap.objs.size u1 u2 := b2.extBut _ _ (Nat.ne_of_gt lz) a5
    have I2 : Inv X pins σ (upd H s.heap.objs.size (.tup [x, y])) { s with heap := h'', toks := s.toks } := I.turnedNew hfp up (Nat.le_refl _) ⟨by simp only [List.length_cons, List.length_nil]; rw [sizeLine_eq]; decide, [u1, u2], .cons ru1 (.cons ru2 .nil), ⟨_, T2, rfl, _, rfl⟩⟩
    refine ⟨.ref s.heap.objs.size, _, I2, rfl, ⟨_, x, y, rfl, I.fresh, rfl, fun xs' q => by rw [k.inj I q q1]; exact e1, fun ys' q => by rw [k.inj I q q2]; exact e2⟩, ⟨b1, up TI _ ?_ h2, ⟨_, _, b2.extBut _ _ D.TOz a2⟩, k.itAt a3 fun o e => b2.extBut _ _ D.i1z e, k.itAt a4 fun o e => b2.extBut _ _ D.i2z e⟩, fun c hc => ?_⟩
    · simp only [List.mem_cons, List.not_mem_nil, or_false, not_or]
      exact ⟨D.TIz, D.TITO, D.TIi1, D.TIi2⟩
    · have hlt : c < s.heap.objs.size := by
        simp only [List.mem_cons, List.not_mem_nil, or_false] at hc
        rcases hc with rfl | rfl | rfl | rfl | rfl
        · exact Heap.lt_size h1
        · exact Heap.lt_size h2
        · exact Heap.lt_size h3
        · obtain ⟨o, e, _⟩ := k.itO h4; exact Heap.lt_size e
        · obtain ⟨o, e, _⟩ := k.itO h5; exact Heap.lt_size e
      rw [upd_ne (Nat.ne_of_lt hlt)]; exact (hf c hc).1
  done := by
    intro X hP hw hK hc i pins s σ H E I hf st hg
    subst hP hw hK
    obtain ⟨h1, h2, ⟨u, v, h3⟩, h4, h5⟩ := st
    obtain ⟨xs, ys, q1, q2, e⟩ := hg
    obtain ⟨its1, r1, p1⟩ := k.read I q1
    obtain ⟨its2, r2, p2⟩ := k.read I q2
    have hfp : ∀ c ∈ [z, TO, i1, i2], FpOk X pins H c := fun c hc => hf c (by simp only [List.mem_cons, List.not_mem_nil, or_false] at hc ⊢; rcases hc with q | q | q | q <;> simp [q])
    refine zipK_end k (I.ok.hd hc) D h1 h2 h3 h4 h5 p1 p2 ?_ fun h' hk => ⟨rfl, I.turnedL (t' := s.toks) hfp fun c o hc e => ?_⟩
    · have l1 := r1.length
      have l2 := r2.length
      rcases e with q | q
      · exact .inl (by simp; omega)
      · exact .inr (by simp; omega)
    · simp only [List.mem_cons, List.not_mem_nil, or_false, not_or] at hc
      exact hk c o hc.1 hc.2.1 hc.2.2.1 hc.2.2.2 e
  self := fun _ _ _ _ _ st h => wpAny_pyIter_zip st.1 h
end L2

end

section
namespace L2
open PySem PySem.Spec PyProof.Rows

theorem bt_len : bootBuiltins "len" = some (.builtin "len") := by decide +kernel
theorem bt_isinstance : bootBuiltins "isinstance" = some (.builtin "isinstance") := by decide +kernel
theorem bt_max : bootBuiltins "max" = some (.builtin "max") := by decide +kernel
theorem bt_sorted : bootBuiltins "sorted" = some (.builtin "sorted") := by decide +kernel
theorem bt_int : bootBuiltins "int" = some (.type "int") := by decide +kernel
theorem bt_bool : bootBuiltins "bool" = some (.type "bool") := by decide +kernel
theorem bt_list : bootBuiltins "list" = some (.type "list") := by decide +kernel
theorem bt_tuple : bootBuiltins "tuple" = some (.type "tuple") := by decide +kernel
theorem bt_zip : bootBuiltins "zip" = some (.type "zip") := by decide +kernel

theorem sm {n : Nat} (h : Nat.ble n 1000 = true) : n ≤ sizeLine := Nat.le_of_lt (small1000 (Nat.le_of_ble_eq_true h))
theorem new_at {H : Hp} {p b : Addr} {o u : HO} (h : H p = none) (q : H b = some u) : upd H p o b = some u := same_new h o b u q
/-! ### steps of a reading -/


/-! ### zip(a, b) in a for or a comprehension, the target a tuple -/
section
variable {prog : Program} {w : World} {A : Around} {E : Value → Shared → Prop} {s : Shared}
end
section
variable {X : Cx} {es : List Expr} {x1 : Nat} {tpos : Pos}
def iZip (k : SeqKind) (K : PySem.W.Frag) (ta : TA) : TI := fun σ H R => ta σ H fun vs H1 => ∃ a b xs ys, vs = [.ref a, .ref b] ∧ k.sq K H1 a xs ∧ k.sq K H1 b ys ∧ R (Itz k K a b) H1
theorem zip_it {k : SeqKind} {pins : List (Addr × Obj)} {σ : St} {H : Hp} {s : Shared} {R : It → Hp → Prop} {E : Value → Shared → Prop} {a b : Addr} {h' : Heap} (I : Inv X pins σ H s) (la : a < s.heap.objs.size) (lb : b < s.heap.objs.size)
    (hz : IsZip h' (s.heap.objs.size + 4) (s.heap.objs.size + 2) (s.heap.objs.size + 3) .none) (hTI : IsPair h' (s.heap.objs.size + 2) (.ref s.heap.objs.size) (.ref (s.heap.objs.size + 1))) (hTO : IsPair h' (s.heap.objs.size + 3) .none .none)
    (h1 : k.It h' s.heap.objs.size a 0) (h2 : k.It h' (s.heap.objs.size + 1) b 0) (kp : ∀ c o, s.heap.get? c = some o → h'.get? c = some o) (q : R (Itz k X.K a b) H) :
    wpAny (model X.prog X.w) X.A (pyIter (.ref (s.heap.objs.size + 4))) (PIE X pins σ (.Tuple es x1 tpos) R) E { s with heap := h' } := by
  refine wpAny_pyIter_zip hz ⟨s.heap.objs.size + 4, [s.heap.objs.size + 4, s.heap.objs.size + 2, s.heap.objs.size + 3, s.heap.objs.size, s.heap.objs.size + 1], _, _, H, rfl, I.kept (t' := s.toks) kp, turn_zip k (zipApart_new la lb), ⟨hz, hTI, ⟨_, _, hTO⟩, h1, h2⟩, fun c hc => ?_, q⟩
  have hle : s.heap.objs.size ≤ c := by
    simp only [List.mem_cons, List.not_mem_nil, or_false] at hc
    rcases hc with rfl | rfl | rfl | rfl | rfl
    · exact Nat.le_add_right _ 4
    · exact Nat.le_add_right _ 2
    · exact Nat.le_add_right _ 3
    · exact Nat.le_refl _
    · exact Nat.le_add_right _ 1
  exact I.fpOk hle (I.hok.fresh hle)
theorem pi_zip {a b : Expr} {ta : TA} {p pos : Pos} (hg : Gl X "zip") (hm : X.mg "zip" = none) (ha : PA X [a, b] ta) (hs : starEach [a, b] X.env = (false, eval a X.env) :: starEach [b] X.env := by rfl) (hs2 : (backTo pos (starEach [b] X.env)).any (·.1) = false := by rfl) :
    PI X (.Tuple es x1 tpos) (.Call (.Name "zip" p) [a, b] [] pos) (iZip kL X.K ta) := by
  intro pins s σ H R I h
  refine Call_ (ld_blt I hg hm bt_zip (PyProof.Rows.callWith_type1 (thn (ha pos pins s σ H _ I h) fun us s1 ⟨vs, H1, I1, r1, q1⟩ => ?_) hs hs2))
  obtain ⟨c, d, xs, ys, rfl, e1, e2, q⟩ := q1
  obtain ⟨u, u', rfl, ru, ru'⟩ := vals2 r1
  cases ru; cases ru'
  obtain ⟨its1, _, p1⟩ := kL.read I1 e1
  obtain ⟨its2, _, p2⟩ := kL.read I1 e2
  obtain ⟨_, g1⟩ := kL.seqO p1
  obtain ⟨_, g2⟩ := kL.seqO p2
  exact call_zip_2 p1 p2 fun h' hz hTI hTO h1 h2 _ kp => zip_it (k := kL) I1 (Heap.lt_size g1) (Heap.lt_size g2) hz hTI hTO h1 h2 kp q
end

/-! ### the forms: a for, a comprehension over zip(a, b) of sequences that stay -/
theorem for_zip {k : SeqKind} {K : PySem.W.Frag} {a b : Addr} {xs ys : List V} {g : TG} {tb : TS} {D : Ends} {σ : St} {H : Hp} (Pv : Nat → St → Hp → Prop) (h0 : Pv 0 σ H) (hl : ∀ i σ H, i ≤ min xs.length ys.length → Pv i σ H → k.sq K H a xs ∧ k.sq K H b ys)
    (hs : ∀ i x y p σ H, xs[i]? = some x → ys[i]? = some y → H p = none → Pv i σ H → g (.ref p) σ (upd H p (.tup [x, y])) fun σ2 H2 => tb { D with nx := Pv (i + 1), ct := Pv (i + 1), bk := D.nx } σ2 H2) (hd : ∀ σ H, Pv (min xs.length ys.length) σ H → D.nx σ H) :
    ∃ W : Nat → Nat → St → Hp → Prop, (∃ m, W 0 m σ H) ∧ ∀ i m σ H, W i m σ H →
      ((Itz k K a b).stop i H ∧ D.nx σ H) ∨ ((Itz k K a b).go i H ∧ ∃ N : St → Hp → Prop, (∀ σ' H', N σ' H' → ∃ m', m' < m ∧ W (i + 1) m' σ' H') ∧ ∀ x H', (Itz k K a b).yld i H x H' → g x σ H' fun σ2 H2 => tb { D with nx := N, ct := N, bk := D.nx } σ2 H2) := by
  refine ⟨fun i m σ H => m = min xs.length ys.length - i ∧ i ≤ min xs.length ys.length ∧ Pv i σ H, ⟨min xs.length ys.length, by simp, Nat.zero_le _, h0⟩, ?_⟩
  rintro i m σ H ⟨rfl, hi, p⟩
  obtain ⟨q1, q2⟩ := hl i σ H hi p
  by_cases hlt : i < min xs.length ys.length
  · have h1 : i < xs.length := by omega
    have h2 : i < ys.length := by omega
    refine .inr ⟨⟨xs, ys, xs[i], ys[i], q1, q2, by simp [h1], by simp [h2]⟩, Pv (i + 1), fun σ' H' p' => ⟨min xs.length ys.length - (i + 1), by omega, rfl, hlt, p'⟩, fun v H' y => ?_⟩
    obtain ⟨c, x, y, rfl, hc, rfl, e1, e2⟩ := y
    exact hs i x y c σ H (e1 xs q1) (e2 ys q2) hc p
  · have e : i = min xs.length ys.length := by omega
    subst e
    exact .inl ⟨⟨xs, ys, q1, q2, by omega⟩, hd σ H p⟩
theorem comp_zip {n : Nat} {js : List Nat} {σ : St} {g : TG} {tt : TT} {te : TE} {H1 : Hp} {Q : VK} {k : SeqKind} {K : PySem.W.Frag} {a b : Addr} {xs ys : List V} (Pv : Addr → Nat → List V → Hp → Prop) (hz : xs.length < sizeLine) (h0 : ∀ D, H1 D = none → Pv D 0 [] (upd H1 D (.lst [])))
    (hl : ∀ D i zs H, H1 D = none → i ≤ min xs.length ys.length → Pv D i zs H → (k.sq K H a xs ∧ k.sq K H b ys) ∧ H D = some (.lst zs) ∧ zs.length ≤ i)
    (hs : ∀ D i x y p zs H, H1 D = none → xs[i]? = some x → ys[i]? = some y → H p = none → Pv D i zs H → Turn1 n js σ g tt te D (.ref p) zs (upd H p (.tup [x, y])) (Pv D (i + 1))) (hd : ∀ D zs H, H1 D = none → Pv D (min xs.length ys.length) zs H → Q (.ref D) H) :
    LoopC n js σ g tt te (Itz k K a b) H1 Q := by
  intro D hD
  refine ⟨fun i m zs H => m = min xs.length ys.length - i ∧ i ≤ min xs.length ys.length ∧ Pv D i zs H, ⟨min xs.length ys.length, by simp, Nat.zero_le _, h0 D hD⟩, ?_⟩
  rintro i m zs H ⟨rfl, hi, p⟩
  obtain ⟨⟨q1, q2⟩, q3, q4⟩ := hl D i zs H hD hi p
  refine ⟨q3, ?_⟩
  by_cases hlt : i < min xs.length ys.length
  · have h1 : i < xs.length := by omega
    have h2 : i < ys.length := by omega
    refine .inr ⟨by omega, ⟨xs, ys, xs[i], ys[i], q1, q2, by simp [h1], by simp [h2]⟩, Pv D (i + 1), fun zs' H' p' => ⟨min xs.length ys.length - (i + 1), by omega, rfl, hlt, p'⟩, fun v H' y => ?_⟩
    obtain ⟨c, x, y, rfl, hc, rfl, e1, e2⟩ := y
    exact hs D i x y c zs H hD (e1 xs q1) (e2 ys q2) hc p
  · have e : i = min xs.length ys.length := by omega
    subst e
    exact .inl ⟨⟨xs, ys, q1, q2, by omega⟩, hd D zs H hD p⟩
end L2

end

section
namespace L2
open PySem PySem.Spec PyProof.Rows

/-! ### comprehensions of ints over a list of ints, one name -/
theorem drop_set0 {α : Type} (l : List α) (v : α) : (l.set 0 v).drop 1 = l.drop 1 := by cases l <;> rfl

theorem pe_type {X : Cx} {x : Str} {T : String} {pos : Pos} (hg : Gl X x) (hm : X.mg x = none) (hv : bootBuiltins x = some (.type T)) (hn : x ≠ "__name__" := by decide) (hd : (x == ("__debug__" : Str)) = false := by decide) : PE X (.Name x pos) (tC (.ty T)) := pe_bltn hg hm hv rfl hn hd
/-! ### sizes -/
def R60 (x : Int) : Prop := 0 ≤ x ∧ x < 1152921504606846976
theorem p60 : (2 : Int) ^ (60 : Int).toNat = 1152921504606846976 := by decide
theorem m60 (x : Int) : R60 (x % 2 ^ (60 : Int).toNat) := by rw [p60]; unfold R60; omega
theorem and_bd {x y B : Int} (hx : 0 ≤ x) (hb : x < B) (hy : 0 ≤ y) : 0 ≤ Builtin.bitAnd x y ∧ Builtin.bitAnd x y < B ∧ Builtin.bitAnd x y ≤ y := by
  rw [bitAnd_pp hx hy]
  have h1 : (x.toNat &&& y.toNat) ≤ x.toNat := Nat.and_le_left
  have h2 : (x.toNat &&& y.toNat) ≤ y.toNat := Nat.and_le_right
  omega
end L2

end

section
namespace L2
open PySem PySem.Spec PyProof.Rows

/-! ### the rules by the written part's own name (so that a block's reading does not hang on the block's entry) -/
section
variable {X : Cx}
theorem ixL (K : PySem.W.Frag) (h : X.K = K := by rfl) : IxR X (rIxL K) := by subst h; exact ix_list
theorem ixT (K : PySem.W.Frag) (h : X.K = K := by rfl) : IxR X (rIxT K) := by subst h; exact ix_tup
theorem slL (K : PySem.W.Frag) (h : X.K = K := by rfl) : SlR X (rSlL K) := by subst h; exact sl_list
def rLen (K : PySem.W.Frag) : List V → Hp → VK → Prop := fun xs H Q => ∃ p ys, xs = [.ref p] ∧ (SqL K H p ys ∨ SqT K H p ys) ∧ Q (.int ys.length) H
theorem lenQ (K : PySem.W.Frag) (h : X.K = K := by rfl) : CallR X (.builtin "len") (rLen K) := by subst h; exact call_len_seq
theorem isI (K : PySem.W.Frag) (h : X.K = K := by rfl) : CallR X (.builtin "isinstance") (rIsI K) := by subst h; exact call_isinstance
def rListOf (K : PySem.W.Frag) : List V → Hp → VK → Prop := fun xs H Q => ∃ p ys, xs = [.ref p] ∧ (SqL K H p ys ∨ SqT K H p ys) ∧ ∀ l, H l = none → Q (.ref l) (upd H l (.lst ys))
theorem listOf (K : PySem.W.Frag) (h : X.K = K := by rfl) : CallR X (.type "list") (rListOf K) := by subst h; exact call_list_of
theorem piL (K : PySem.W.Frag) {tg l : Expr} {tl : TE} (hl : PE X l tl) (h : X.K = K := by rfl) : PI X tg l (iList K tl) := by subst h; exact pi_list hl
theorem pgT (K : PySem.W.Frag) {es : List Expr} {k : Nat} {t : TGs} {n : Nat} {pos : Pos} (hc : X.calm = true) (h : PGs X es t) (hn : (assignEach es X.env).length = n := by rfl) (hst : (assignEach es X.env).findIdx? (·.1) = none := by rfl) (hK : X.K = K := by rfl) : PG X (.Tuple es k pos) (gTup K n t) := by
  subst hK; exact pg_tup hc h hn hst
theorem piZ (K : PySem.W.Frag) {es : List Expr} {x1 : Nat} {tpos : Pos} {a b : Expr} {ta : TA} {p pos : Pos} (hg : Gl X "zip") (hm : X.mg "zip" = none) (ha : PA X [a, b] ta) (hs : starEach [a, b] X.env = (false, eval a X.env) :: starEach [b] X.env := by rfl) (hs2 : (backTo pos (starEach [b] X.env)).any (·.1) = false := by rfl) (hK : X.K = K := by rfl) :
    PI X (.Tuple es x1 tpos) (.Call (.Name "zip" p) [a, b] [] pos) (iZip kL K ta) := by subst hK; exact pi_zip hg hm ha hs hs2
theorem pe_bmK (K : PySem.W.Frag) {o e : Expr} {es : List Expr} {to : TE} {t : TA} {name : Str} {apos cpos : Pos} {T id : String} {r : V → List V → Hp → VK → Prop} (pa : PlainAttrs T) (slot : Slot T name id) (hty : typeOf (.builtin id) = pure (.type "method_descriptor")) (hm : MtR X id r) (ho : PE X o to) (ha : PA X (e :: es) t)
    (hbase : attributeBase o name X.env (eval o X.env) = eval o X.env := by rfl)
    (hfew : ((backTo cpos (starEach (e :: es) X.env)).all (fun x => !x.1) && (backToKw cpos (keywordEach [] X.env)).all (fun x => x.1.isSome) && decide ((e :: es).length + ([] : List Keyword).length + (if ([] : List Keyword).isEmpty then 0 else 1) < 30)) = true := by rfl)
    (hline : (apos.endLine == cpos.line) = true := by rfl) (hs : starEach (e :: es) X.env = (false, eval e X.env) :: starEach es X.env := by rfl) (hplain : (backTo cpos (starEach es X.env)).any (·.1) = false := by rfl) (hK : X.K = K := by rfl) :
    PE X (.Call (.Attribute o name apos) (e :: es) [] cpos) (tBM K T r to t) := by subst hK; exact pe_bm pa slot hty hm ho ha hbase hfew hline hs hplain
end
end L2

end

section
namespace L2
open PySem PySem.Spec PyProof.Rows

/-! ### max, min of a list of ints, with and without a default -/
def maxF : Option Int → List Int → Option Int
  | b, [] => b
  | none, x :: r => maxF (some x) r
  | some m, x :: r => maxF (some (if m < x then x else m)) r
def curA : Option (Int × Tok) → Array Value
  | none => #[]
  | some (m, t) => #[.int m t, .int m t]
/-- what comes back: the best one, or the default -/
def MRes (kw : List (Str × Value)) : Option Int → Value → Prop
  | some m, v => ∃ t, v = .int m t
  | none, v => ∃ n r, kw = (n, v) :: r
section
variable {prog : Program} {w : World} {A : Around} {E : Value → Shared → Prop} {s : Shared} {R : Result → Shared → Prop}
theorem rcGt {a b : Int} {t u : Tok} {Q : Value → Shared → Prop} (h : Q (.bool (decide (b < a))) s) : wpAny (model prog w) A (richCompare .Gt (.int a t) (.int b u)) Q E s := (PyProof.Rows.gt_int h : wpAny (model prog w) A (compareOp .Gt (.int a t) (.int b u)) Q E s)

theorem max_loopK {I l S : Addr} {vs : List Value} {ns : List Int} {kw : List (Str × Value)} (hi : Vals (ns.map V.int) vs) (hh : A.handled = none) (h1 : l ≠ I) (h2 : S ≠ I) (h3 : S ≠ l) (hkw : kw = [] → ns ≠ []) :
    ∀ (k j : Nat) (s : Shared) (cur : Option (Int × Tok)) (c : Nat), ns.length - j = k → j ≤ ns.length → (cur = none → j = 0) → s.heap.IsListIter I l j → s.heap.IsList l vs.toArray →
    s.heap.get? S = some { cls := .type "list", dict := none, data := .seq (curA cur) c, slots := #[] } →
    (∀ v h' tk, MRes kw (maxF (cur.map (·.1)) (ns.drop j)) v → (∀ b o, b ≠ I → b ≠ S → s.heap.get? b = some o → h'.get? b = some o) → R (.ok (.ret v)) { s with heap := h', toks := tk }) →
    codeAny (model prog w) A (.builtin "max.loop" ⟨[.ref I, .none, .ref S], kw⟩) R s := by
  have nm : (toString "max" ++ toString ".loop" : String) = "max.loop" := by decide
  have lenV : ns.length = vs.length := by have := hi.length; rwa [List.length_map] at this
  intro k
  induction k with
  | zero =>
    intro j s cur c hk hj hc it li hS hR
    have hjn : j = ns.length := by omega
    refine codeAny_builtin F.entry_max_loop ?_; rw [Around.under_plainId F.plain_max_loop _]
    show wpAny _ A.in1 (seqItems? (.ref S) >>= _) _ _ s; refine wpAny_bind (wpAny_seqItems hS rfl ?_)
    show wpAny _ A.in1 (tryCatch (pyNext (.ref I)) _ >>= _) _ _ s; refine wpAny_bind (wpAny_tryCatch (wpAny_pyNext_list_end (A := A.in1) hh it li (by simp; omega) fun h' he => ?_))
    have S2 := he S _ h2 hS
    have hd : ns.drop j = [] := List.drop_eq_nil_of_le (by omega)
    rw [hd] at hR
    cases cur with
    | some p =>
      obtain ⟨m, t⟩ := p
      show wpAny _ A.in1 (updateSeq S (fun _ => #[]) >>= _) _ _ _; refine wpAny_bind ?_
      refine wpAny_updateSeq (hz := (by show 2 ≤ sizeLine; decide)) S2 rfl (wpAny_bind (wpAny_letGo (wpAny_pure ?_)))
      exact hR (.int m t) _ s.toks ⟨t, rfl⟩ fun b o b1 b2 e => (Heap.get?_update_other _ _ (Ne.symm b2)).trans (he b o b1 e)
    | none =>
      cases kw with
      | nil =>
        have := hc rfl
        have e0 : ns = [] := List.length_eq_zero_iff.mp (by omega)
        exact absurd e0 (hkw rfl)
      | cons d r =>
        obtain ⟨n, d⟩ := d
        exact wpAny_bind (wpAny_rule (wpAny_pure (hR d _ s.toks ⟨n, r, rfl⟩ fun b o b1 b2 e => he b o b1 e)))
  | succ k ih =>
    intro j s cur c hk hj hc it li hS hR
    have hlt : j < ns.length := by omega
    have hltv : j < vs.length := by omega
    obtain ⟨u0, hv, t, e0⟩ := hi.get (i := j) (x := .int ns[j]) (by rw [List.getElem?_map, List.getElem?_eq_getElem hlt]; rfl)
    subst e0
    have hd : ns.drop j = ns[j] :: ns.drop (j + 1) := List.drop_eq_getElem_cons hlt
    refine codeAny_builtin F.entry_max_loop ?_; rw [Around.under_plainId F.plain_max_loop _]
    show wpAny _ A.in1 (seqItems? (.ref S) >>= _) _ _ s; refine wpAny_bind (wpAny_seqItems hS rfl ?_)
    show wpAny _ A.in1 (tryCatch (pyNext (.ref I)) _ >>= _) _ _ s; refine wpAny_bind (wpAny_tryCatch (wpAny_pyNext_list_item it li (x := .int ns[j] t) (by simpa using hv) fun h' it' hs' => ?_))
    have S2 : h'.get? S = _ := (hs'.2 S h2).trans hS
    have li' : h'.IsList l vs.toArray := li.at fun o e => (hs'.2 l h1).trans e
    cases cur with
    | none =>
      show wpAny _ A.in1 (updateSeq S (fun _ => #[.int ns[j] t, .int ns[j] t]) >>= _) _ _ _; refine wpAny_bind ?_
      refine wpAny_updateSeq S2 rfl ?_; rw [nm]
      refine wpAny_pure ⟨plainId_quiet F.plain_max_loop _, ih (j + 1) _ (some (ns[j], t)) _ (by omega) hlt (fun z => by cases z) (it'.at fun o e => (Heap.get?_update_other _ _ h2).trans e) (li'.at fun o e => (Heap.get?_update_other _ _ h3).trans e) (Heap.get?_update_self _ S2 rfl) fun v h'' tk r kp => ?_⟩
      exact hR v h'' tk (by rw [hd]; exact r) fun b o b1 b2 e => kp b o b1 b2 ((Heap.get?_update_other _ _ (Ne.symm b2)).trans ((hs'.2 b b1).trans e))
    | some p =>
      obtain ⟨m, u⟩ := p
      show wpAny _ A.in1 (tryCatch (holding [.int ns[j] t, .int ns[j] t] (richCompare .Gt (.int ns[j] t) (.int m u) >>= _)) _ >>= _) _ _ _
      refine wpAny_bind (wpAny_tryCatch (wpAny_holding (wpAny_bind (rcGt ?_))))
      refine wpAny_bind (wpAny_holding (wpAny_truthy_bool (wpAny_bind (wpAny_letGo (wpAny_pure ?_)))))
      by_cases hb : m < ns[j]
      · rw [decide_eq_true hb]; simp only [if_true]
        refine wpAny_bind ?_; refine wpAny_updateSeq (hz := (by show 2 ≤ sizeLine; decide)) S2 rfl (wpAny_bind (wpAny_letGo ?_)); rw [nm]
        refine wpAny_pure ⟨plainId_quiet F.plain_max_loop _, ih (j + 1) _ (some (ns[j], t)) _ (by omega) hlt (fun z => by cases z) (it'.at fun o e => (Heap.get?_update_other _ _ h2).trans e) (li'.at fun o e => (Heap.get?_update_other _ _ h3).trans e) (Heap.get?_update_self _ S2 rfl) fun v h'' tk r kp => ?_⟩
        refine hR v h'' tk ?_ fun b o b1 b2 e => kp b o b1 b2 ((Heap.get?_update_other _ _ (Ne.symm b2)).trans ((hs'.2 b b1).trans e))
        rw [hd]; show MRes kw (maxF (some (if m < ns[j] then ns[j] else m)) _) v; rw [if_pos hb]; exact r
      · rw [decide_eq_false hb]; simp only [Bool.false_eq_true, if_false]
        refine wpAny_bind (wpAny_letGo ?_); rw [nm]
        refine wpAny_pure ⟨plainId_quiet F.plain_max_loop _, ih (j + 1) _ (some (m, u)) _ (by omega) hlt (fun z => by cases z) it' li' S2 fun v h'' tk r kp => ?_⟩
        refine hR v h'' tk ?_ fun b o b1 b2 e => kp b o b1 b2 ((hs'.2 b b1).trans e)
        rw [hd]; show MRes kw (maxF (some (if m < ns[j] then ns[j] else m)) _) v; rw [if_neg hb]; exact r


theorem fn_tree_kw {id : String} {b : Builtin} {args : List Value} {kw : List (Str × Value)} {Q : Value → Shared → Prop} (hk : builtinKind id = none) (hp : plainId id = true) (hb : entryFor table id = some b) (ha : argsOk id ⟨args, kw⟩)
    (hc : wpAny (model prog w) A.in1 (b ⟨args, kw⟩) (fun fin s' => match fin with
      | .done f => (match (Except.ok f : Result) with | .ok (.ret v) => Q v s' | .ok _ => False | .error e => E e s')
      | .again c' => c'.quiet = true ∧ codeAny (model prog w) A c' (fun r s' => match r with | .ok (.ret v) => Q v s' | .ok _ => False | .error e => E e s') s') E s) :
    wpAny (model prog w) A (call (.builtin id) args kw) Q E s := by
  refine wpAny_call (codeAny_call_builtin hp hb ?_)
  simp only [checkBuiltinCall, hk]
  cases q : Manifest.signature? id with
  | none => exact wpAny_pure hc
  | some sg =>
    have h2 : Bind.checkArgs id sg ⟨args, kw⟩ = pure () := by simpa only [argsOk, q] using ha
    simp only [h2]
    exact wpAny_pure hc

theorem call_maxK {l : Addr} {vs : List Value} {ns : List Int} {kw : List (Str × Value)} {o : Option Value} {Q : Value → Shared → Prop} (hh : A.handled = none) (hi : Vals (ns.map V.int) vs) (li : s.heap.IsList l vs.toArray) (hkw : kw = [] → ns ≠ []) (ha : argsOk "max" ⟨[.ref l], kw⟩)
    (hb : Builtin.Builtins.bindParams "max" ["key", "default"] 0 ⟨[], kw⟩ = pure [none, o]) (hko : (o.toList.map fun d => (Str.ofString "default", d)) = kw)
    (h : ∀ v h' tk, MRes kw (maxF none ns) v → (∀ b o, s.heap.get? b = some o → h'.get? b = some o) → Q v { s with heap := h', toks := tk }) : wpAny (model prog w) A (call (.builtin "max") [.ref l] kw) Q E s := by
  have nm : (toString "max" ++ toString ".loop" : String) = "max.loop" := by decide
  obtain ⟨ol, hol, _⟩ := id li
  have ll := Heap.lt_size hol
  refine fn_tree_kw F.kind_max F.plain_max F.entry_max ha ?_
  show wpAny _ A.in1 (Builtin.Builtins.bindParams "max" ["key", "default"] 0 ⟨[], kw⟩ >>= _) _ _ s
  refine wpAny_bind (wpAny_of_eq hb (wpAny_bind (wpAny_pure (wpAny_bind (wpAny_pyIter_list li (wpAny_bind (wpAny_newObj_type ?_)))))))
  rw [nm]
  have e0 : (o.toList.map fun d => (Str.ofString "default", d)) = kw := hko
  show wpAny _ A.in1 (pure (Fin.again (.builtin "max.loop" ⟨[.ref s.heap.objs.size, .none, .ref (s.heap.push _).objs.size], o.toList.map fun d => (Str.ofString "default", d)⟩))) _ _ _
  rw [e0]
  refine wpAny_pure ⟨plainId_quiet F.plain_max_loop _, max_loopK hi hh (Nat.ne_of_lt ll) (by rw [Heap.size_push]; exact Nat.succ_ne_self _) (by rw [Heap.size_push]; exact Nat.ne_of_gt (Nat.lt_succ_of_lt ll)) hkw _ 0 _ none 0 rfl (Nat.zero_le _) (fun _ => rfl) ⟨_, Heap.get?_push_of_some _ (Heap.get?_push_size _ rfl), rfl, rfl⟩ ((li.push _).push _) (Heap.get?_push_size _ rfl) fun v h' tk r kp => ?_⟩
  refine h v h' tk r fun b o e => kp b o (Nat.ne_of_lt (Heap.lt_size e)) (by rw [Heap.size_push]; exact Nat.ne_of_lt (Nat.lt_succ_of_lt (Heap.lt_size e))) (Heap.get?_push_of_some _ (Heap.get?_push_of_some _ e))

end

section
variable {X : Cx}
theorem args_maxD (a d : Value) : argsOk "max" ⟨[a], [(Str.ofString "default", d)]⟩ := by unfold argsOk; kernel_rfl
/-- max(a list of ints, default=d) -/
def maxD (d : Int) (ns : List Int) : Int := (maxF none ns).getD d
def tMaxD (K : PySem.W.Frag) (t tk : TA) : TE := fun σ H Q => t σ H fun xs H1 => tk σ H1 fun ys H2 => ∃ l ns d, xs = [.ref l] ∧ ys = [.int d] ∧ SqL K H2 l (ns.map V.int) ∧ Q (.int (maxD d ns)) H2
theorem pe_maxD (K : PySem.W.Frag) {e dv : Expr} {p kp pos : Pos} {t tk : TA} (hc : X.calm = true) (hg : Gl X "max") (hm : X.mg "max" = none) (ha : PA X [e] t) (hkw : PK X [⟨some "default", dv, kp⟩] tk)
    (he : backTo pos (starEach [e] X.env) = (false, eval e X.env) :: backTo pos (starEach [] X.env) := by rfl) (hpl : (backTo pos (starEach [e] X.env)).any (·.1) = false := by rfl) (hall : (backToKw pos (keywordEach [⟨some "default", dv, kp⟩] X.env)).all (·.1.isSome) = true := by rfl)
    (hkn : (backToKw pos (keywordEach [⟨some "default", dv, kp⟩] X.env)).any (·.1.isNone) = false := by rfl) (hks : (backToKw pos (keywordEach [⟨some "default", dv, kp⟩] X.env)).filterMap (·.1) = [Str.ofString "default"] := by rfl) (hK : X.K = K := by rfl) :
    PE X (.Call (.Name "max" p) [e] [⟨some "default", dv, kp⟩] pos) (tMaxD K t tk) := by
  subst hK
  intro pins s σ H Q I h
  refine wpAny_Call_Name_kw (ld_blt I hg hm bt_max ?_)
  refine PyProof.Rows.callWith_kw (thn (ha pos pins s σ H _ I h) fun us s1 ⟨vs, H1, I1, r1, q1⟩ => thn (hkw pos pins s1 σ H1 _ I1 q1) fun ws s2 ⟨zs, H2, I2, r2, q2⟩ => ?_) he hpl hall hkn
  obtain ⟨l, ns, d, rfl, rfl, hS, q⟩ := q2
  obtain ⟨u, rfl, ru⟩ := vals1 r1
  obtain ⟨u2, rfl, t2, rfl⟩ := vals1 r2
  cases ru
  rw [hks]
  obtain ⟨its, rv, pl, hz⟩ := I2.list hS
  refine call_maxK (o := some (.int d t2)) (I2.ok.hd hc) rv pl.isList (fun z => by cases z) (args_maxD _ _) rfl rfl fun v h' tk mr kp => ?_
  refine ⟨.int (maxD d ns), H2, I2.kept kp, ?_, q⟩
  unfold maxD
  cases e : maxF none ns with
  | some m => rw [e] at mr; exact mr
  | none =>
    rw [e] at mr
    obtain ⟨n, r, z⟩ := mr
    have z1 : (Str.ofString "default", Value.int d t2) = (n, v) := (List.cons.inj z).1
    exact ⟨t2, (Prod.mk.inj z1).2.symm⟩
end
end L2

end

section
namespace L2
open PySem PySem.Spec PyProof.Rows

/-! ### lists whose items tell data -/
theorem Paired.getL {α β : Type} {F : α → β → Prop} : ∀ {l₁ : List α} {l₂ : List β} {i : Nat} {a : α}, Paired F l₁ l₂ → l₁[i]? = some a → ∃ b, l₂[i]? = some b ∧ F a b
  | _, _, _, _, .nil, e => by simp at e
  | _, _, 0, _, .cons r _, e => by simp at e; subst e; exact ⟨_, rfl, r⟩
  | _, _, i + 1, a, .cons _ t, e => by
    obtain ⟨b, h1, h2⟩ := Paired.getL (i := i) (a := a) t (by simpa using e)
    exact ⟨b, by simpa using h1, h2⟩
theorem Paired.getR {α β : Type} {F : α → β → Prop} : ∀ {l₁ : List α} {l₂ : List β} {i : Nat} {b : β}, Paired F l₁ l₂ → l₂[i]? = some b → ∃ a, l₁[i]? = some a ∧ F a b
  | _, _, _, _, .nil, e => by simp at e
  | _, _, 0, _, .cons r _, e => by simp at e; subst e; exact ⟨_, rfl, r⟩
  | _, _, i + 1, b, .cons _ t, e => by
    obtain ⟨a, h1, h2⟩ := Paired.getR (i := i) (b := b) t (by simpa using e)
    exact ⟨a, by simpa using h1, h2⟩
theorem Paired.app {α β : Type} {F : α → β → Prop} : ∀ {l₁ m₁ : List α} {l₂ m₂ : List β}, Paired F l₁ l₂ → Paired F m₁ m₂ → Paired F (l₁ ++ m₁) (l₂ ++ m₂)
  | _, _, _, _, .nil, s => s
  | _, _, _, _, .cons r t, s => .cons r (Paired.app t s)
theorem Paired.tk {α β : Type} {F : α → β → Prop} : ∀ {l₁ : List α} {l₂ : List β} (n : Nat), Paired F l₁ l₂ → Paired F (l₁.take n) (l₂.take n)
  | _, _, 0, _ => .nil
  | _, _, _ + 1, .nil => .nil
  | _, _, n + 1, .cons r t => .cons r (Paired.tk n t)
theorem Paired.dp {α β : Type} {F : α → β → Prop} : ∀ {l₁ : List α} {l₂ : List β} (n : Nat), Paired F l₁ l₂ → Paired F (l₁.drop n) (l₂.drop n)
  | _, _, 0, r => r
  | _, _, _ + 1, .nil => .nil
  | _, _, n + 1, .cons _ t => Paired.dp n t
/-- what is told of a value stays when the heap grows, and when a list is written -/
structure Stab {β : Type} (P : Hp → V → β → Prop) : Prop where
  same : ∀ {H H' : Hp} {v : V} {b : β}, Same H H' → P H v b → P H' v b
  wr : ∀ {H : Hp} {v : V} {b : β} {l : Addr} {xs ys : List V}, H l = some (.lst xs) → P H v b → P (upd H l (.lst ys)) v b
theorem T3.wr {H : Hp} {l : Addr} {xs : List V} {v : V} {d : D3} {o : HO} (hl : H l = some (.lst xs)) (h : T3 H v d) : T3 (upd H l o) v d := by
  obtain ⟨a, e, q⟩ := h
  exact ⟨a, e, by rw [upd_ne (ne_of q hl (by intro z; cases z))]; exact q⟩
theorem stab_T3 : Stab T3 := ⟨fun S h => h.same S, fun hl h => h.wr hl⟩
theorem Stab.list {β : Type} {P : Hp → V → β → Prop} (st : Stab P) {H H' : Hp} {vs : List V} {bs : List β} (S : Same H H') (h : Paired (P H) vs bs) : Paired (P H') vs bs := Paired.mapP h fun _ _ z => st.same S z
theorem Stab.listW {β : Type} {P : Hp → V → β → Prop} (st : Stab P) {H : Hp} {vs : List V} {bs : List β} {l : Addr} {xs ys : List V} (hl : H l = some (.lst xs)) (h : Paired (P H) vs bs) : Paired (P (upd H l (.lst ys))) vs bs := Paired.mapP h fun _ _ z => st.wr hl z

/-! ### comprehensions whose element makes things: one name, no test -/
theorem comp_grow {β : Type} {P : Hp → V → β → Prop} (st : Stab P) {K : PySem.W.Frag} {js : List Nat} {σ : St} {te : TE} {H : Hp} {a : Addr} {Q : VK} (xs : List V) (bs : List β) (hlen : xs.length = bs.length) (hz : xs.length < sizeLine) (hS : ∀ H', Same H H' → SqL K H' a xs)
    (hte : ∀ (i : Nat) x b, xs[i]? = some x → bs[i]? = some b → ∀ H' Q', Same H H' → (∀ y H'', Same H' H'' → P H'' y b → Q' y H'') → te ((stC 1 js σ).set 0 (some x)) H' Q')
    (q : ∀ D ys H', Same H H' → H D = none → H' D = some (.lst ys) → Paired (P H') ys bs → Q (.ref D) H') : LoopC 1 js σ (gName 0) tYes te (Itl K a) H Q := by
  refine comp_list (xs := xs) (fun D i ys H' => Same H H' ∧ H' D = some (.lst ys) ∧ Paired (P H') ys (bs.take i)) hz (fun D hD => ⟨same_new hD _, upd_same, .nil⟩) (fun D i ys H' hD hi h => ?_) (fun D i x ys H' hD hx h => ?_) fun D ys H' hD h => ?_
  · obtain ⟨S, hl, p⟩ := h
    refine ⟨hS H' S, hl, ?_⟩
    rw [Paired.length p, List.length_take]; omega
  · obtain ⟨S, hl, p⟩ := h
    have hi : i < xs.length := (List.getElem?_eq_some_iff.mp hx).1
    have hb : bs[i]? = some bs[i] := List.getElem?_eq_getElem (by omega)
    refine ⟨drop_set0 _ _, hte i x _ hx hb H' _ S fun y H6 S6 py => ⟨S6 _ _ hl, (S.trans S6).wr hD _, upd_same, ?_⟩⟩
    rw [List.take_add_one, hb]
    exact Paired.app (st.listW (S6 _ _ hl) (st.list S6 p)) (.cons (st.wr (S6 _ _ hl) py) .nil)
  · obtain ⟨S, hl, p⟩ := h
    rw [hlen, List.take_length] at p
    exact q D ys H' S hD hl p

/-! ### deeds: their sizes, when they clash -/
def okD (d : D3) : Prop := (0 ≤ d.2.1 ∧ d.2.1 < 2 ^ 60) ∧ 0 ≤ d.2.2 ∧ d.2.2 < 2 ^ 60
/-- the law's own clash -/
def clashL (d e : D3) : Bool := distB d e || !decide (V.int (Builtin.bitAnd e.2.2 d.2.1) = V.int 0)
theorem clashL_eq {d e : D3} (hd : okD d) (he : okD e) : clashL d e = clashB d e := by
  obtain ⟨⟨d1, d2⟩, d3, d4⟩ := hd
  obtain ⟨⟨e1, e2⟩, e3, e4⟩ := he
  unfold clashL clashB distB
  rw [decI, decI, decI, bitOr_pp e1 e3, bitOr_pp d1 d3, bitAnd_pp d3 (Int.natCast_nonneg _), bitAnd_pp e3 d1, bitAnd_pp e3 (Int.natCast_nonneg _), Int.toNat_natCast, Int.toNat_natCast]
  have h0 : ∀ n : Nat, decide (((n : Nat) : Int) = 0) = decide (n = 0) := fun n => by
    by_cases hn : n = 0
    · rw [decide_eq_true hn, decide_eq_true (by omega)]
    · rw [decide_eq_false hn, decide_eq_false (by omega)]
  rw [h0, h0, h0, Nat.and_or_distrib_left, Nat.and_or_distrib_left]
  have h1 : ∀ a b : Nat, decide ((a ||| b) = 0) = (decide (a = 0) && decide (b = 0)) := fun a b => by
    rw [← Bool.decide_and]
    congr 1
    exact propext Nat.or_eq_zero_iff
  rw [h1, h1, Nat.and_comm e.2.2.toNat d.2.2.toNat]
  generalize decide ((d.2.2.toNat &&& e.2.1.toNat) = 0) = x1
  generalize decide ((d.2.2.toNat &&& e.2.2.toNat) = 0) = x2
  generalize decide ((e.2.2.toNat &&& d.2.1.toNat) = 0) = x3
  cases x1 <;> cases x2 <;> cases x3 <;> rfl
theorem clash_comm (d e : D3) : clashB d e = clashB e d := Bool.or_comm _ _
end L2
namespace L2
open PySem PySem.Spec PyProof.Rows
/-! ### what the drawing defs of the laws promise -/
def spCell (K : PySem.W.Frag) : Sp := fun vs H Q _ => ∃ (a : Addr) (ns : List Int) (k : Int), vs = [.ref a, .int k] ∧ SqL K H a (ns.map V.int) ∧ 0 ≤ k ∧ Q (.int (ns.getD k.toNat 0)) H
theorem at_ints {ns : List Int} {k : Int} (h0 : 0 ≤ k) (h : k < (ns.length : Int)) : atI (ns.map V.int) k = some (.int (ns.getD k.toNat 0)) := by
  have hk : k.toNat < ns.length := by omega
  have e : k = ((k.toNat : Nat) : Int) := by omega
  have q : atI (ns.map V.int) ((k.toNat : Nat) : Int) = some (.int (ns.getD k.toNat 0)) := atI_nat (by rw [List.getElem?_map, List.getElem?_eq_getElem hk, List.getD_eq_getElem?_getD, List.getElem?_eq_getElem hk]; rfl)
  rw [← e] at q
  exact q
theorem at_l0 {a : V} {r : List V} : atI (a :: r) 0 = some a := atI_nat (j := 0) rfl
theorem at_l1 {a b : V} {r : List V} : atI (a :: b :: r) 1 = some b := atI_nat (j := 1) rfl
theorem at_l2 {a b c : V} {r : List V} : atI (a :: b :: c :: r) 2 = some c := atI_nat (j := 2) rfl
def spClashL : Sp := fun vs H Q _ => ∃ x y d e, vs = [x, y] ∧ T3 H x d ∧ T3 H y e ∧ Q (.bl (clashL d e)) H
end L2

end

section
namespace L2
/-! ### heights, plainly -/
theorem maxF_some : ∀ (ns : List Int) (m : Int), ∃ x, maxF (some m) ns = some x ∧ m ≤ x ∧ (∀ y ∈ ns, y ≤ x) ∧ (x = m ∨ x ∈ ns)
  | [], m => ⟨m, rfl, Int.le_refl _, (fun y hy => nomatch hy), .inl rfl⟩
  | n :: ns, m => by
    obtain ⟨x, e, h1, h2, h3⟩ := maxF_some ns (if m < n then n else m)
    refine ⟨x, e, ?_, fun y hy => ?_, ?_⟩
    · split at h1 <;> omega
    · rcases List.mem_cons.mp hy with rfl | hy
      · split at h1 <;> omega
      · exact h2 y hy
    · rcases h3 with h3 | h3
      · split at h3
        · exact .inr (by rw [h3]; exact List.mem_cons_self)
        · exact .inl h3
      · exact .inr (List.mem_cons_of_mem _ h3)
theorem maxF_cons (n : Int) (ns : List Int) : ∃ x, maxF none (n :: ns) = some x ∧ (∀ y ∈ n :: ns, y ≤ x) ∧ x ∈ n :: ns := by
  obtain ⟨x, e, h1, h2, h3⟩ := maxF_some ns n
  refine ⟨x, e, fun y hy => ?_, ?_⟩
  · rcases List.mem_cons.mp hy with rfl | hy
    · exact h1
    · exact h2 y hy
  · rcases h3 with rfl | h3
    · exact List.mem_cons_self
    · exact List.mem_cons_of_mem _ h3
/-- the greatest, told by its bounds -/
theorem maxD_spec (d : Int) (ns : List Int) : (ns = [] ∧ maxD d ns = d) ∨ (maxD d ns ∈ ns ∧ ∀ y ∈ ns, y ≤ maxD d ns) := by
  cases ns with
  | nil => exact .inl ⟨rfl, rfl⟩
  | cons n ns =>
    obtain ⟨x, e, h1, h2⟩ := maxF_cons n ns
    right
    unfold maxD
    rw [e]
    exact ⟨h2, h1⟩
theorem maxD_eq {d x : Int} {ns : List Int} (h1 : ∀ y ∈ ns, y ≤ x) (h2 : x ∈ ns ∨ (ns = [] ∧ x = d)) : maxD d ns = x := by
  rcases maxD_spec d ns with ⟨e1, e2⟩ | ⟨e1, e2⟩
  · rcases h2 with h2 | ⟨_, h2⟩
    · rw [e1] at h2; cases h2
    · rw [e2, h2]
  · rcases h2 with h2 | ⟨h2, _⟩
    · exact Int.le_antisymm (h1 _ e1) (e2 _ h2)
    · rw [h2] at e1; cases e1

section
variable {α : Type} (c : α → α → Bool)
/-- the height of d behind those ahead, each with its own -/
def hOf (acc : List (α × Int)) (d : α) : Int := maxD 0 ((acc.filter fun p => c p.1 d).map fun p => p.2 + 1)
/-- the deeds with their heights -/
def hp (ds : List α) : List (α × Int) := ds.foldl (fun acc d => acc ++ [(d, hOf c acc d)]) []
def hts (ds : List α) : List Int := (hp c ds).map (·.2)
theorem hp_snoc (ds : List α) (d : α) : hp c (ds ++ [d]) = hp c ds ++ [(d, hOf c (hp c ds) d)] := by
  unfold hp
  rw [List.foldl_append]
  rfl
/-- from the end -/
theorem snocInd {β : Type} {p : List β → Prop} (h0 : p []) (h1 : ∀ l x, p l → p (l ++ [x])) (l : List β) : p l := by
  have h : ∀ r : List β, p r.reverse := fun r => by
    induction r with
    | nil => exact h0
    | cons x r ih => rw [List.reverse_cons]; exact h1 _ x ih
  have := h l.reverse
  rwa [List.reverse_reverse] at this
theorem hp_fst (ds : List α) : (hp c ds).map (·.1) = ds := by
  induction ds using snocInd with
  | h0 => rfl
  | h1 l x ih => rw [hp_snoc, List.map_append, ih]; rfl
theorem hp_length (ds : List α) : (hp c ds).length = ds.length := by
  have := congrArg List.length (hp_fst c ds)
  rwa [List.length_map] at this
theorem hts_length (ds : List α) : (hts c ds).length = ds.length := by unfold hts; rw [List.length_map, hp_length]
theorem hp_zip (ds : List α) : ds.zip (hts c ds) = hp c ds := by
  have h : ∀ l : List (α × Int), (l.map (·.1)).zip (l.map (·.2)) = l := fun l => by
    induction l with
    | nil => rfl
    | cons p l ih => simp [ih]
  have := h (hp c ds)
  rw [hp_fst] at this
  exact this
theorem hp_append (ds es : List α) : ∃ r, hp c (ds ++ es) = hp c ds ++ r := by
  induction es using snocInd with
  | h0 => exact ⟨[], by rw [List.append_nil, List.append_nil]⟩
  | h1 l x ih =>
    obtain ⟨r, e⟩ := ih
    refine ⟨r ++ [(x, hOf c (hp c (ds ++ l)) x)], ?_⟩
    rw [← List.append_assoc, hp_snoc, e, List.append_assoc]
theorem hp_take (ds : List α) (i : Nat) : hp c (ds.take i) = (hp c ds).take i := by
  obtain ⟨r, e⟩ := hp_append c (ds.take i) (ds.drop i)
  rw [List.take_append_drop] at e
  by_cases hi : i ≤ ds.length
  · have hl : (hp c (ds.take i)).length = i := by rw [hp_length, List.length_take]; omega
    conv => rhs; rw [e]
    rw [List.take_append_of_le_length (Nat.le_of_eq hl.symm), List.take_of_length_le (Nat.le_of_eq hl)]
  · rw [List.take_of_length_le (by omega : ds.length ≤ i), List.take_of_length_le (by rw [hp_length]; omega)]
theorem hp_get {ds : List α} {i : Nat} {d : α} (h : ds[i]? = some d) : (hp c ds)[i]? = some (d, hOf c ((hp c ds).take i) d) := by
  have hi : i < ds.length := (List.getElem?_eq_some_iff.mp h).1
  have e : ds.take (i + 1) = ds.take i ++ [d] := by rw [List.take_add_one, h]; rfl
  have e2 := hp_take c ds (i + 1)
  rw [e, hp_snoc, hp_take] at e2
  have e3 : ((hp c ds).take (i + 1))[i]? = (hp c ds)[i]? := by rw [List.getElem?_take_of_lt (Nat.lt_succ_self i)]
  rw [← e3, ← e2, List.getElem?_append_right (by rw [List.length_take]; omega), List.length_take, hp_length, Nat.min_eq_left (by omega), Nat.sub_self]
  rfl
theorem hts_get {ds : List α} {i : Nat} {d : α} (h : ds[i]? = some d) : (hts c ds)[i]? = some (hOf c ((hp c ds).take i) d) := by
  unfold hts; rw [List.getElem?_map, hp_get c h]; rfl
theorem hts_snoc (ds : List α) (d : α) : hts c (ds ++ [d]) = hts c ds ++ [hOf c (hp c ds) d] := by unfold hts; rw [hp_snoc, List.map_append]; rfl
theorem hOf_nonneg {acc : List (α × Int)} (h : ∀ p ∈ acc, 0 ≤ p.2) (d : α) : 0 ≤ hOf c acc d := by
  unfold hOf
  rcases maxD_spec 0 ((acc.filter fun p => c p.1 d).map fun p => p.2 + 1) with ⟨_, e⟩ | ⟨e, _⟩
  · omega
  · obtain ⟨p, hp, e⟩ := List.mem_map.mp e
    have := h p (List.mem_filter.mp hp).1
    omega
theorem hp_nonneg (ds : List α) : ∀ p ∈ hp c ds, 0 ≤ p.2 := by
  induction ds using snocInd with
  | h0 => intro p hp; cases hp
  | h1 l x ih =>
    intro p hp
    rw [hp_snoc] at hp
    rcases List.mem_append.mp hp with hp | hp
    · exact ih p hp
    · rw [List.mem_singleton.mp hp]; exact hOf_nonneg c ih x
theorem hOf_lt {acc : List (α × Int)} {d : α} {p : α × Int} (hp : p ∈ acc) (h : c p.1 d = true) : p.2 < hOf c acc d := by
  unfold hOf
  have hm : p.2 + 1 ∈ (acc.filter fun p => c p.1 d).map fun p => p.2 + 1 := List.mem_map.mpr ⟨p, List.mem_filter.mpr ⟨hp, h⟩, rfl⟩
  rcases maxD_spec 0 ((acc.filter fun p => c p.1 d).map fun p => p.2 + 1) with ⟨e, _⟩ | ⟨_, e⟩
  · rw [e] at hm; cases hm
  · have := e _ hm
    omega
theorem hOf_from {acc : List (α × Int)} {d : α} (h : 0 < hOf c acc d) : ∃ p ∈ acc, c p.1 d = true ∧ hOf c acc d = p.2 + 1 := by
  unfold hOf at h ⊢
  rcases maxD_spec 0 ((acc.filter fun p => c p.1 d).map fun p => p.2 + 1) with ⟨_, e⟩ | ⟨e, _⟩
  · omega
  · obtain ⟨p, hp, e⟩ := List.mem_map.mp e
    obtain ⟨h1, h2⟩ := List.mem_filter.mp hp
    exact ⟨p, h1, h2, e.symm⟩
/-- a height is told by what it is to be: no less than any, and met -/
theorem hOf_eq {acc : List (α × Int)} {d : α} {x : Int} (h1 : ∀ p ∈ acc, c p.1 d = true → p.2 < x) (h2 : x = 0 ∨ ∃ p ∈ acc, c p.1 d = true ∧ x = p.2 + 1) (h3 : ∀ p ∈ acc, 0 ≤ p.2) : hOf c acc d = x := by
  unfold hOf
  refine maxD_eq (fun y hy => ?_) ?_
  · obtain ⟨p, hp, rfl⟩ := List.mem_map.mp hy
    obtain ⟨a, b⟩ := List.mem_filter.mp hp
    have := h1 p a b
    omega
  · rcases h2 with h2 | ⟨p, a, b, e⟩
    · right
      refine ⟨?_, h2⟩
      cases e : (acc.filter fun p => c p.1 d) with
      | nil => rfl
      | cons p r =>
        have hp : p ∈ acc.filter fun p => c p.1 d := by rw [e]; exact List.mem_cons_self
        obtain ⟨a, b⟩ := List.mem_filter.mp hp
        have := h1 p a b
        have := h3 p a
        omega
    · exact .inl (List.mem_map.mpr ⟨p, List.mem_filter.mpr ⟨a, b⟩, e.symm⟩)
end

section
variable {α : Type} (c : α → α → Bool)
/-! ### layers -/
theorem hOf_mono {acc acc' : List (α × Int)} (h : ∀ p ∈ acc, p ∈ acc') (h0 : ∀ p ∈ acc', 0 ≤ p.2) (d : α) : hOf c acc d ≤ hOf c acc' d := by
  by_cases hz : 0 < hOf c acc d
  · obtain ⟨p, hp, hc, e⟩ := hOf_from c hz
    have := hOf_lt c (h p hp) hc
    omega
  · have := hOf_nonneg c h0 d
    omega
/-- equal ones: never lower behind -/
theorem hp_eqs {ds : List α} {i j : Nat} {d : α} {x y : Int} (hij : i ≤ j) (hi : (hp c ds)[i]? = some (d, x)) (hj : (hp c ds)[j]? = some (d, y)) : x ≤ y := by
  have f : ∀ {k : Nat} {z : Int}, (hp c ds)[k]? = some (d, z) → z = hOf c ((hp c ds).take k) d := fun {k z} hk => by
    have e : ds[k]? = some d := by
      have := congrArg (fun l => l[k]?) (hp_fst c ds)
      simp only [List.getElem?_map, hk] at this
      exact this.symm
    have := hp_get c e
    rw [hk] at this
    injection this with this
    injection this
  rw [f hi, f hj]
  refine hOf_mono c (fun p hm => ?_) (fun p hm => hp_nonneg c ds p (List.mem_of_mem_take hm)) d
  have : ((hp c ds).take j).take i = (hp c ds).take i := by rw [List.take_take, Nat.min_eq_left hij]
  rw [← this] at hm
  exact List.mem_of_mem_take hm
/-- clashing ones: higher behind -/
theorem hp_clash {ds : List α} {i j : Nat} {d e : α} {x y : Int} (hij : i < j) (hi : (hp c ds)[i]? = some (d, x)) (hj : (hp c ds)[j]? = some (e, y)) (hc : c d e = true) : x < y := by
  have ej : ds[j]? = some e := by
    have := congrArg (fun l => l[j]?) (hp_fst c ds)
    simp only [List.getElem?_map, hj] at this
    exact this.symm
  have := hp_get c ej
  rw [hj] at this
  injection this with this
  injection this with _ this
  rw [this]
  refine hOf_lt (p := (d, x)) c ?_ hc
  refine List.mem_of_getElem? (i := i) ?_
  rw [List.getElem?_take_of_lt hij]; exact hi
/-- the number of layers -/
def nL (ds : List α) : Nat := (maxD (-1) (hts c ds) + 1).toNat
theorem hts_nonneg (ds : List α) : ∀ h ∈ hts c ds, 0 ≤ h := fun h hh => by
  obtain ⟨p, hp, rfl⟩ := List.mem_map.mp hh
  exact hp_nonneg c ds p hp
theorem nL_cast (ds : List α) : ((nL c ds : Nat) : Int) = maxD (-1) (hts c ds) + 1 := by
  unfold nL
  rcases maxD_spec (-1) (hts c ds) with ⟨_, e⟩ | ⟨e, _⟩
  · rw [e]; rfl
  · have := hts_nonneg c ds _ e
    omega
theorem lt_nL {ds : List α} {h : Int} (hh : h ∈ hts c ds) : h < nL c ds := by
  rw [nL_cast]
  rcases maxD_spec (-1) (hts c ds) with ⟨e, _⟩ | ⟨_, e⟩
  · rw [e] at hh; cases hh
  · have := e h hh
    omega
/-- the deeds of height h, in the diary's order -/
def rowOf (l : List (α × Int)) (h : Nat) : List α := (l.filter fun p => p.2 == (h : Int)).map (·.1)
def rowsOf (l : List (α × Int)) (n : Nat) : List (List α) := (List.range n).map (rowOf l)
theorem rowOf_snoc (l : List (α × Int)) (d : α) (x : Int) (h : Nat) : rowOf (l ++ [(d, x)]) h = if x = (h : Int) then rowOf l h ++ [d] else rowOf l h := by
  unfold rowOf
  rw [List.filter_append, List.map_append]
  by_cases e : x = (h : Int)
  · rw [if_pos e]; simp [e]
  · rw [if_neg e]; simp [e]
theorem rowsOf_set (l : List (α × Int)) (d : α) (k n : Nat) (hk : k < n) : rowsOf (l ++ [(d, (k : Int))]) n = (rowsOf l n).set k (rowOf l k ++ [d]) := by
  apply List.ext_getElem?
  intro j
  unfold rowsOf
  rw [List.getElem?_set, List.length_map, List.length_range, List.getElem?_map, List.getElem?_map]
  by_cases hj : j < n
  · rw [List.getElem?_range hj]
    by_cases e : k = j
    · subst e
      rw [if_pos rfl, if_pos hk]
      simp [rowOf_snoc]
    · rw [if_neg e]
      simp only [Option.map_some, rowOf_snoc]
      rw [if_neg (by omega)]
  · have : (List.range n)[j]? = none := List.getElem?_eq_none (by rw [List.length_range]; omega)
    rw [this]
    by_cases e : k = j
    · omega
    · rw [if_neg e]; rfl
theorem rowsOf_get {l : List (α × Int)} {n k : Nat} (hk : k < n) : (rowsOf l n)[k]? = some (rowOf l k) := by
  unfold rowsOf; rw [List.getElem?_map, List.getElem?_range hk]; rfl
theorem rowsOf_length (l : List (α × Int)) (n : Nat) : (rowsOf l n).length = n := by unfold rowsOf; rw [List.length_map, List.length_range]
/-- every height up to the greatest is met -/
theorem met_below {ds : List α} {i : Nat} {d : α} {x : Int} (hi : (hp c ds)[i]? = some (d, x)) : ∀ (k : Nat), (k : Int) ≤ x → ∃ p ∈ hp c ds, p.2 = (k : Int) := by
  have go : ∀ (m : Nat) (i : Nat) (d : α) (x : Int), (hp c ds)[i]? = some (d, x) → x.toNat ≤ m → ∀ (k : Nat), (k : Int) ≤ x → ∃ p ∈ hp c ds, p.2 = (k : Int) := by
    intro m
    induction m with
    | zero =>
      intro i d x hi hm k hk
      exact ⟨(d, x), List.mem_of_getElem? hi, show x = k by omega⟩
    | succ m ih =>
      intro i d x hi hm k hk
      by_cases e : (k : Int) = x
      · exact ⟨(d, x), List.mem_of_getElem? hi, e.symm⟩
      · have ed : ds[i]? = some d := by
          have := congrArg (fun l => l[i]?) (hp_fst c ds)
          simp only [List.getElem?_map, hi] at this
          exact this.symm
        have := hp_get c ed
        rw [hi] at this
        injection this with this
        injection this with _ this
        obtain ⟨p, hp', hc, e2⟩ := hOf_from c (acc := (hp c ds).take i) (d := d) (by omega)
        obtain ⟨j, hj⟩ := List.getElem?_of_mem (List.mem_of_mem_take hp')
        exact ih j p.1 p.2 hj (by omega) k (by omega)
  intro k hk
  exact go x.toNat i d x hi (Nat.le_refl _) k hk
theorem row_ne {ds : List α} {k : Nat} (hk : k < nL c ds) : rowOf (hp c ds) k ≠ [] := by
  have hmax : (maxD (-1) (hts c ds)) ∈ hts c ds := by
    rcases maxD_spec (-1) (hts c ds) with ⟨_, e⟩ | ⟨e, _⟩
    · have := nL_cast c ds
      omega
    · exact e
  obtain ⟨q, hq, e⟩ := List.mem_map.mp hmax
  obtain ⟨i, hi⟩ := List.getElem?_of_mem hq
  obtain ⟨p, hp', e2⟩ := met_below c (d := q.1) (x := q.2) hi k (by have := nL_cast c ds; omega)
  intro z
  have : p.1 ∈ rowOf (hp c ds) k := List.mem_map.mpr ⟨p, List.mem_filter.mpr ⟨hp', by simp [e2]⟩, rfl⟩
  rw [z] at this
  cases this
end

/-! ### the law's levels: the first layer where an equal one is left -/
section
variable {α : Type} [DecidableEq α] (c : α → α → Bool)
end
section
variable {α : Type} (c : α → α → Bool)
/-! ### the chain -/
theorem hp_ds {ds : List α} {i : Nat} {d : α} {x : Int} (hi : (hp c ds)[i]? = some (d, x)) : ds[i]? = some d ∧ x = hOf c ((hp c ds).take i) d ∧ 0 ≤ x ∧ x < nL c ds := by
  have e : ds[i]? = some d := by
    have := congrArg (fun l => l[i]?) (hp_fst c ds)
    simp only [List.getElem?_map, hi] at this
    exact this.symm
  refine ⟨e, ?_, hp_nonneg c ds _ (List.mem_of_getElem? hi), lt_nL c (List.mem_map.mpr ⟨(d, x), List.mem_of_getElem? hi, rfl⟩)⟩
  have := hp_get c e
  rw [hi] at this
  injection this with this
  injection this
end
/-! ### partners -/
section
variable {α : Type} [DecidableEq α]
theorem occ_ex {a : α} : ∀ {l : List α} {i : Nat}, i < l.count a → ∃ p, l[p]? = some a ∧ (l.take p).count a = i
  | [], i, h => by simp at h
  | b :: l, i, h => by
    by_cases e : b = a
    · subst e
      cases i with
      | zero => exact ⟨0, rfl, rfl⟩
      | succ i =>
        rw [List.count_cons_self] at h
        obtain ⟨p, h1, h2⟩ := occ_ex (a := b) (l := l) (i := i) (by omega)
        exact ⟨p + 1, by simpa using h1, by rw [List.take_succ_cons, List.count_cons_self, h2]⟩
    · rw [List.count_cons_of_ne e] at h
      obtain ⟨p, h1, h2⟩ := occ_ex h
      exact ⟨p + 1, by simpa using h1, by rw [List.take_succ_cons, List.count_cons_of_ne e, h2]⟩
theorem take_count_mono {a : α} {l : List α} {p q : Nat} (h : p ≤ q) : (l.take p).count a ≤ (l.take q).count a := by
  have e : (l.take q).take p = l.take p := by rw [List.take_take, Nat.min_eq_left h]
  rw [← e]
  exact (List.take_sublist p (l.take q)).count_le a
theorem take_count_lt {a : α} {l : List α} {p q : Nat} (h : p < q) (hp : l[p]? = some a) : (l.take p).count a < (l.take q).count a := by
  have h1 : (l.take (p + 1)).count a ≤ (l.take q).count a := take_count_mono h
  have h2 : l.take (p + 1) = l.take p ++ [a] := by rw [List.take_add_one, hp]; rfl
  rw [h2, List.count_append] at h1
  simp at h1
  omega
theorem occ_lt {a : α} {l : List α} {p : Nat} (hp : l[p]? = some a) : (l.take p).count a < l.count a := by
  have := take_count_lt (q := l.length) (by exact (List.getElem?_eq_some_iff.mp hp).1) hp
  rwa [List.take_of_length_le (Nat.le_refl _)] at this
theorem occ_inj {a : α} {l : List α} {p q : Nat} (hp : l[p]? = some a) (hq : l[q]? = some a) (e : (l.take p).count a = (l.take q).count a) : p = q := by
  rcases Nat.lt_trichotomy p q with z | z | z
  · have := take_count_lt z hp; omega
  · exact z
  · have := take_count_lt z hq; omega
/-- f tells the partners -/
def Mate (xs ys : List α) (f : Nat → Nat) : Prop := ∀ p a, xs[p]? = some a → ys[f p]? = some a ∧ (ys.take (f p)).count a = (xs.take p).count a
theorem Mate.inj {xs ys : List α} {f : Nat → Nat} (M : Mate xs ys f) {p q : Nat} {a b : α} (hp : xs[p]? = some a) (hq : xs[q]? = some b) (e : f p = f q) : p = q := by
  obtain ⟨h1, h2⟩ := M p a hp
  obtain ⟨h3, h4⟩ := M q b hq
  rw [e] at h1
  rw [h1] at h3
  cases h3
  exact occ_inj hp hq (by rw [← h2, ← h4, e])
theorem Mate.sur {xs ys : List α} {f : Nat → Nat} (M : Mate xs ys f) (hc : ∀ a, ys.count a ≤ xs.count a) {r : Nat} {a : α} (hr : ys[r]? = some a) : ∃ p, xs[p]? = some a ∧ f p = r := by
  obtain ⟨p, h1, h2⟩ := occ_ex (l := xs) (a := a) (i := (ys.take r).count a) (Nat.lt_of_lt_of_le (occ_lt hr) (hc a))
  refine ⟨p, h1, ?_⟩
  obtain ⟨h3, h4⟩ := M p a h1
  exact occ_inj h3 hr (by rw [h4, h2])
theorem Mate.count {xs ys : List α} {f : Nat → Nat} (M : Mate xs ys f) (a : α) : xs.count a ≤ ys.count a := by
  by_cases h : xs.count a = 0
  · omega
  · obtain ⟨p, h1, h2⟩ := occ_ex (l := xs) (a := a) (i := xs.count a - 1) (by omega)
    obtain ⟨h3, h4⟩ := M p a h1
    have := occ_lt h3
    omega
theorem count_sum_le {xs ys : List α} (h : ∀ a, xs.count a ≤ ys.count a) (hl : xs.length = ys.length) : ∀ a, ys.count a ≤ xs.count a := by
  have key : ∀ (xs ys : List α), (∀ a, xs.count a ≤ ys.count a) → xs.length = ys.length → xs.Perm ys := by
    intro xs
    induction xs with
    | nil => intro ys _ hl; rw [List.length_eq_zero_iff.mp hl.symm]
    | cons x xs ih =>
      intro ys h hl
      have hx : x ∈ ys := by
        have := h x
        rw [List.count_cons_self] at this
        exact List.count_pos_iff.mp (by omega)
      have p := List.perm_cons_erase hx
      refine (List.Perm.cons x (ih (ys.erase x) (fun a => ?_) ?_)).trans p.symm
      · have h1 := h a
        have h2 := p.count a
        rw [h2] at h1
        by_cases e : x = a
        · subst e; rw [List.count_cons_self, List.count_cons_self] at h1; omega
        · rw [List.count_cons_of_ne e, List.count_cons_of_ne e] at h1; exact h1
      · have := p.length_eq
        rw [List.length_cons] at this
        rw [List.length_cons] at hl
        omega
  intro a
  rw [(key xs ys h hl).count a]
  exact Nat.le_refl _
/-- by the same counts there are partners -/
theorem mate_ex {xs ys : List α} (h : ∀ a, xs.count a ≤ ys.count a) : ∃ f, Mate xs ys f := by
  have : ∀ p, ∃ r, ∀ a, xs[p]? = some a → ys[r]? = some a ∧ (ys.take r).count a = (xs.take p).count a := fun p => by
    cases e : xs[p]? with
    | none => exact ⟨0, fun a z => by cases z⟩
    | some a =>
      obtain ⟨r, h1, h2⟩ := occ_ex (l := ys) (a := a) (i := (xs.take p).count a) (Nat.lt_of_lt_of_le (occ_lt e) (h a))
      exact ⟨r, fun b z => by cases z; exact ⟨h1, h2⟩⟩
  exact ⟨fun p => Classical.choose (this p), fun p a h => Classical.choose_spec (this p) a h⟩
/-- clashing ones stand in the same order -/
def Kept (c : α → α → Bool) (xs : List α) (f : Nat → Nat) : Prop := ∀ p q a b, p < q → xs[p]? = some a → xs[q]? = some b → c a b = true → f p < f q
variable (c : α → α → Bool)
/-- alike: the heights are the partners' -/
theorem alike_hp {xs ys : List α} {f : Nat → Nat} (hsym : ∀ a b, c a b = c b a) (M : Mate xs ys f) (hc : ∀ a, ys.count a ≤ xs.count a) (O : Kept c xs f) : ∀ (p : Nat) (a : α) (x : Int), (hp c xs)[p]? = some (a, x) → (hp c ys)[f p]? = some (a, x) := by
  intro p
  induction p using Nat.strongRecOn with
  | _ p ih =>
    intro a x hx
    obtain ⟨e1, e2, e3, e4⟩ := hp_ds c hx
    obtain ⟨m1, m2⟩ := M p a e1
    rw [hp_get c m1]
    congr 2
    refine hOf_eq c (fun q hq hcl => ?_) ?_ (fun q hq => hp_nonneg c ys q (List.mem_of_mem_take hq))
    · obtain ⟨r, hr⟩ := List.getElem?_of_mem hq
      have hrl : r < f p := by
        have := (List.getElem?_eq_some_iff.mp hr).1
        rw [List.length_take] at this
        omega
      rw [List.getElem?_take_of_lt hrl] at hr
      obtain ⟨d1, _⟩ := hp_ds c (d := q.1) (x := q.2) hr
      obtain ⟨s, s1, s2⟩ := M.sur hc d1
      have hs : s < p := by
        rcases Nat.lt_trichotomy s p with z | z | z
        · exact z
        · subst z; omega
        · have := O p s a q.1 z e1 s1 (by rw [hsym]; exact hcl)
          omega
      have g := ih s hs q.1 _ (hp_get c s1)
      rw [s2, hr] at g
      have e5 : q.2 = hOf c ((hp c xs).take s) q.1 := by
        injection g with g
        rw [g]
      have := hp_clash c hs (hp_get c s1) hx hcl
      omega
    · by_cases z : x = 0
      · exact .inl z
      · right
        obtain ⟨q, hq, hcl, e⟩ := hOf_from c (acc := (hp c xs).take p) (d := a) (by omega)
        obtain ⟨s, hs⟩ := List.getElem?_of_mem hq
        have hsl : s < p := by
          have := (List.getElem?_eq_some_iff.mp hs).1
          rw [List.length_take] at this
          omega
        rw [List.getElem?_take_of_lt hsl] at hs
        have g := ih s hsl q.1 q.2 hs
        have hlt := O s p q.1 a hsl (hp_ds c hs).1 e1 hcl
        refine ⟨q, ?_, hcl, by omega⟩
        refine List.mem_of_getElem? (i := f s) ?_
        rw [List.getElem?_take_of_lt hlt]; exact g
/-- lists that tell the same by partners hold the same -/
theorem perm_of_mate {β : Type} {l l' : List β} {f : Nat → Nat} (h1 : ∀ p x, l[p]? = some x → l'[f p]? = some x) (h2 : ∀ p q, p < l.length → q < l.length → f p = f q → p = q) (h3 : ∀ r, r < l'.length → ∃ p, p < l.length ∧ f p = r) : l.Perm l' := by
  have hl : ((List.range l.length).map f).Perm (List.range l'.length) := by
    refine (List.perm_ext_iff_of_nodup ?_ List.nodup_range).mpr fun r => ?_
    · rw [List.nodup_iff_pairwise_ne, List.pairwise_map]
      refine List.Pairwise.imp_of_mem ?_ (List.nodup_range (n := l.length))
      intro p q hp hq hne e
      exact hne (h2 p q (List.mem_range.mp hp) (List.mem_range.mp hq) e)
    · rw [List.mem_map, List.mem_range]
      constructor
      · rintro ⟨p, hp, rfl⟩
        have := h1 p _ (List.getElem?_eq_getElem (List.mem_range.mp hp))
        exact (List.getElem?_eq_some_iff.mp this).1
      · intro hr
        obtain ⟨p, hp, e⟩ := h3 r hr
        exact ⟨p, List.mem_range.mpr hp, e⟩
  have e1 : l.map some = ((List.range l.length).map f).map fun r => l'[r]? := by
    apply List.ext_getElem?
    intro i
    rw [List.getElem?_map, List.getElem?_map, List.getElem?_map]
    by_cases hi : i < l.length
    · rw [List.getElem?_range hi, List.getElem?_eq_getElem hi]
      show some (some l[i]) = some (l'[f i]?)
      rw [h1 i _ (List.getElem?_eq_getElem hi)]
    · rw [List.getElem?_eq_none (by omega), List.getElem?_eq_none (by rw [List.length_range]; omega)]
      rfl
  have e2 : l'.map some = (List.range l'.length).map fun r => l'[r]? := by
    apply List.ext_getElem?
    intro i
    rw [List.getElem?_map, List.getElem?_map]
    by_cases hi : i < l'.length
    · rw [List.getElem?_range hi, List.getElem?_eq_getElem hi]
      show some (some l'[i]) = some (l'[i]?)
      rw [List.getElem?_eq_getElem hi]
    · rw [List.getElem?_eq_none (by omega), List.getElem?_eq_none (by rw [List.length_range]; omega)]
      rfl
  have p : (l.map some).Perm (l'.map some) := by
    rw [e1, e2]
    exact hl.map _
  have := p.filterMap id
  simpa [List.filterMap_map] using this
theorem alike_perm {xs ys : List α} {f : Nat → Nat} (hsym : ∀ a b, c a b = c b a) (M : Mate xs ys f) (hc : ∀ a, ys.count a ≤ xs.count a) (O : Kept c xs f) : (hp c xs).Perm (hp c ys) := by
  refine perm_of_mate (f := f) (fun p x hx => alike_hp c hsym M hc O p x.1 x.2 hx) (fun p q hp hq e => ?_) fun r hr => ?_
  · rw [hp_length] at hp hq
    exact M.inj (List.getElem?_eq_getElem hp) (List.getElem?_eq_getElem hq) e
  · rw [hp_length] at hr
    obtain ⟨p, h1, h2⟩ := M.sur hc (List.getElem?_eq_getElem hr)
    exact ⟨p, by rw [hp_length]; exact (List.getElem?_eq_some_iff.mp h1).1, h2⟩
/-! the other way about -/
theorem fil_get {β : Type} {P : β → Bool} {x : β} (hx : P x = true) : ∀ {l : List β} {p : Nat}, l[p]? = some x → (l.filter P)[((l.take p).filter P).length]? = some x
  | [], _, h => by simp at h
  | y :: l, 0, h => by
    simp at h; subst h
    simp [List.filter_cons, hx]
  | y :: l, p + 1, h => by
    have ih := fil_get hx (l := l) (p := p) (by simpa using h)
    rw [List.take_succ_cons, List.filter_cons, List.filter_cons]
    split
    · simpa using ih
    · exact ih
theorem hp_take_count (xs : List α) (p : Nat) (a : α) : (((hp c xs).take p).filter fun q => decide (q.1 = a)).length = (xs.take p).count a := by
  have e : xs.take p = ((hp c xs).take p).map (·.1) := by rw [List.map_take, hp_fst]
  rw [e, List.count_eq_length_filter, List.filter_map, List.length_map]
  congr 1
theorem sorted_eqs (xs : List α) (a : α) : (((hp c xs).filter fun q => decide (q.1 = a)).map (·.2)).Pairwise (· ≤ ·) := by
  rw [List.pairwise_map, List.pairwise_filter]
  rw [List.pairwise_iff_getElem]
  intro i j hi hj hij h1 h2
  have e1 : (hp c xs)[i].1 = a := by simpa using h1
  have e2 : (hp c xs)[j].1 = a := by simpa using h2
  refine hp_eqs c (ds := xs) (d := a) (Nat.le_of_lt hij) ?_ ?_
  · rw [List.getElem?_eq_getElem hi, ← e1]
  · rw [List.getElem?_eq_getElem hj, ← e2]
theorem perm_hp {xs ys : List α} {f : Nat → Nat} (P : (hp c xs).Perm (hp c ys)) (M : Mate xs ys f) : ∀ (p : Nat) (a : α) (x : Int), (hp c xs)[p]? = some (a, x) → (hp c ys)[f p]? = some (a, x) := by
  intro p a x hx
  obtain ⟨e1, e2, _⟩ := hp_ds c hx
  obtain ⟨m1, m2⟩ := M p a e1
  have same : ((hp c xs).filter fun q => decide (q.1 = a)).map (·.2) = ((hp c ys).filter fun q => decide (q.1 = a)).map (·.2) :=
    List.Perm.eq_of_pairwise (fun _ _ _ _ h h' => Int.le_antisymm h h') (sorted_eqs c xs a) (sorted_eqs c ys a) ((P.filter _).map _)
  have g1 := fil_get (P := fun q : α × Int => decide (q.1 = a)) (x := (a, x)) (by simp) hx
  have g2 := fil_get (P := fun q : α × Int => decide (q.1 = a)) (x := (a, hOf c ((hp c ys).take (f p)) a)) (by simp) (hp_get c m1)
  rw [hp_take_count] at g1 g2
  rw [m2] at g2
  have k1 := congrArg (fun l => l[(xs.take p).count a]?) same
  simp only [List.getElem?_map, g1, g2, Option.map_some] at k1
  injection k1 with k1
  rw [hp_get c m1, k1]
theorem perm_kept {xs ys : List α} {f : Nat → Nat} (hsym : ∀ a b, c a b = c b a) (P : (hp c xs).Perm (hp c ys)) (M : Mate xs ys f) : Kept c xs f := by
  intro p q a b hpq ha hb hc
  have g1 := perm_hp c P M p a _ (hp_get c ha)
  have g2 := perm_hp c P M q b _ (hp_get c hb)
  have lt := hp_clash c hpq (hp_get c ha) (hp_get c hb) hc
  rcases Nat.lt_trichotomy (f p) (f q) with z | z | z
  · exact z
  · have := M.inj ha hb z
    omega
  · have := hp_clash c z g2 g1 (by rw [hsym]; exact hc)
    omega
end
section
variable {α : Type} (c : α → α → Bool)
/-! ### the layers, one behind the other -/
def lvG (n : Nat) : List (List α) → List (α × Int)
  | [] => []
  | r :: rs => r.map (fun a => (a, (n : Int))) ++ lvG (n + 1) rs
theorem lvG_app : ∀ (rs rs' : List (List α)) (n : Nat), lvG n (rs ++ rs') = lvG n rs ++ lvG (n + rs.length) rs'
  | [], _, n => rfl
  | r :: rs, rs', n => by
    show _ ++ lvG (n + 1) (rs ++ rs') = (_ ++ lvG (n + 1) rs) ++ _
    rw [lvG_app rs rs' (n + 1), List.append_assoc, List.length_cons, Nat.add_right_comm, Nat.add_assoc]
theorem mem_lvG : ∀ {rs : List (List α)} {n : Nat} {p : α × Int}, p ∈ lvG n rs ↔ ∃ (k : Nat) (r : List α), rs[k]? = some r ∧ p.1 ∈ r ∧ p.2 = ((n + k : Nat) : Int)
  | [], n, p => by simp [lvG]
  | r :: rs, n, p => by
    show p ∈ (r.map fun a => (a, (n : Int))) ++ lvG (n + 1) rs ↔ _
    rw [List.mem_append, mem_lvG (rs := rs)]
    constructor
    · rintro (h | ⟨k, q, h1, h2, h3⟩)
      · obtain ⟨a, ha, rfl⟩ := List.mem_map.mp h
        exact ⟨0, r, rfl, ha, rfl⟩
      · exact ⟨k + 1, q, by simpa using h1, h2, by rw [h3]; congr 1; omega⟩
    · rintro ⟨k, q, h1, h2, h3⟩
      cases k with
      | zero =>
        left
        have : r = q := by simpa using h1
        subst this
        exact List.mem_map.mpr ⟨p.1, h2, by show (p.1, ((n : Nat) : Int)) = p; rw [show ((n : Nat) : Int) = p.2 from h3.symm]⟩
      | succ k => exact .inr ⟨k, q, by simpa using h1, h2, by rw [h3]; congr 1; omega⟩
theorem row_free (hsym : ∀ a b, c a b = c b a) (ds : List α) (k : Nat) : (rowOf (hp c ds) k).Pairwise fun a b => c a b = false := by
  unfold rowOf
  rw [List.pairwise_map, List.pairwise_filter, List.pairwise_iff_getElem]
  intro i j hi hj hij h1 h2
  have e1 : (hp c ds)[i].2 = (k : Int) := by simpa using h1
  have e2 : (hp c ds)[j].2 = (k : Int) := by simpa using h2
  refine Bool.eq_false_iff.mpr fun z => ?_
  have := hp_clash c (ds := ds) (d := (hp c ds)[i].1) (x := (hp c ds)[i].2) (e := (hp c ds)[j].1) (y := (hp c ds)[j].2) hij (List.getElem?_eq_getElem hi) (List.getElem?_eq_getElem hj) z
  omega
/-- rows that hold the deeds of the layers, in any order -/
def RowsOk (ds : List α) (rs : List (List α)) : Prop := rs.length = nL c ds ∧ ∀ (k : Nat) (r : List α), rs[k]? = some r → r.Perm (rowOf (hp c ds) k)
theorem rows_hp (hsym : ∀ a b, c a b = c b a) {ds : List α} {rs : List (List α)} (R : RowsOk c ds rs) : hp c rs.flatten = lvG 0 rs := by
  have free : ∀ (k : Nat) (r : List α), rs[k]? = some r → r.Pairwise fun a b => c a b = false := fun k r h =>
    ((R.2 k r h).pairwise_iff fun {x y} z => by rw [hsym]; exact z).mpr (row_free c hsym ds k)
  have fr : ∀ (k : Nat) (r : List α), rs[k]? = some r → 0 < k → ∀ d ∈ r, ∃ q e, rs[k - 1]? = some q ∧ e ∈ q ∧ c e d = true := fun k r h hk d hd => by
    have hd' := (R.2 k r h).mem_iff.mp hd
    obtain ⟨p, hp1, e1⟩ := List.mem_map.mp hd'
    obtain ⟨hp2, hp3⟩ := List.mem_filter.mp hp1
    have e3 : p.2 = (k : Int) := by simpa using hp3
    obtain ⟨i, hi⟩ := List.getElem?_of_mem hp2
    obtain ⟨_, e2, _, _⟩ := hp_ds c (d := p.1) (x := p.2) hi
    obtain ⟨q, hq, hc, e4⟩ := hOf_from c (acc := (hp c ds).take i) (d := p.1) (by omega)
    have hq' := List.mem_of_mem_take hq
    have hkl : k < rs.length := (List.getElem?_eq_some_iff.mp h).1
    have hk1 : rs[k - 1]? = some rs[k - 1] := List.getElem?_eq_getElem (by omega)
    refine ⟨rs[k - 1], q.1, hk1, (R.2 _ _ hk1).mem_iff.mpr (List.mem_map.mpr ⟨q, List.mem_filter.mpr ⟨hq', ?_⟩, rfl⟩), by rw [← e1]; exact hc⟩
    have : q.2 = ((k - 1 : Nat) : Int) := by omega
    simp [this]
  have go : ∀ k, k ≤ rs.length → hp c (rs.take k).flatten = lvG 0 (rs.take k) := by
    intro k
    induction k with
    | zero => intro _; rfl
    | succ k ih =>
      intro hk
      have hg : rs[k]? = some rs[k] := List.getElem?_eq_getElem (by omega)
      have e : rs.take (k + 1) = rs.take k ++ [rs[k]] := by rw [List.take_add_one, hg]; rfl
      have hl : (rs.take k).length = k := by rw [List.length_take]; omega
      rw [e, List.flatten_append, lvG_app, hl, Nat.zero_add]
      show hp c ((rs.take k).flatten ++ (rs[k] ++ [])) = lvG 0 (rs.take k) ++ (rs[k].map (fun a => (a, (k : Int))) ++ [])
      rw [List.append_nil, List.append_nil]
      have inner : ∀ m, m ≤ rs[k].length → hp c ((rs.take k).flatten ++ rs[k].take m) = lvG 0 (rs.take k) ++ (rs[k].take m).map fun a => (a, (k : Int)) := by
        intro m
        induction m with
        | zero => intro _; simpa using ih (by omega)
        | succ m ihm =>
          intro hm
          have hgm : rs[k][m]? = some rs[k][m] := List.getElem?_eq_getElem (by omega)
          have em : rs[k].take (m + 1) = rs[k].take m ++ [rs[k][m]] := by rw [List.take_add_one, hgm]; rfl
          rw [em, ← List.append_assoc, hp_snoc, ihm (by omega), List.map_append, List.append_assoc]
          congr 2
          show [_] = [_]
          congr 2
          refine hOf_eq c (fun p hp' hc => ?_) ?_ fun p hp' => ?_
          · rcases List.mem_append.mp hp' with h | h
            · obtain ⟨j, r, h1, h2, h3⟩ := mem_lvG.mp h
              have := (List.getElem?_eq_some_iff.mp h1).1
              rw [hl] at this
              omega
            · obtain ⟨a, ha, rfl⟩ := List.mem_map.mp h
              have hfree := free k _ hg
              rw [← List.take_append_drop (m + 1) rs[k], em] at hfree
              have h1 := (List.pairwise_append.mp hfree).1
              have h2 := (List.pairwise_append.mp h1).2.2 a ha rs[k][m] (by simp)
              rw [h2] at hc
              cases hc
          · by_cases hz : k = 0
            · left; omega
            · right
              obtain ⟨q, e0, h1, h2, h3⟩ := fr k _ hg (by omega) rs[k][m] (List.getElem_mem _)
              refine ⟨(e0, ((k - 1 : Nat) : Int)), List.mem_append_left _ (mem_lvG.mpr ⟨k - 1, q, ?_, h2, by rw [Nat.zero_add]⟩), h3, by show (k : Int) = ((k - 1 : Nat) : Int) + 1; omega⟩
              rw [List.getElem?_take_of_lt (by omega)]; exact h1
          · rcases List.mem_append.mp hp' with h | h
            · obtain ⟨j, r, h1, h2, h3⟩ := mem_lvG.mp h
              omega
            · obtain ⟨a, ha, rfl⟩ := List.mem_map.mp h
              exact Int.natCast_nonneg _
      have := inner rs[k].length (Nat.le_refl _)
      rwa [List.take_of_length_le (Nat.le_refl _)] at this
  have := go rs.length (Nat.le_refl _)
  rwa [List.take_of_length_le (Nat.le_refl _)] at this
end
section
variable {α : Type} [DecidableEq α] (c : α → α → Bool)
theorem lvG_count : ∀ (rs : List (List α)) (n : Nat) (a : α) (x : Int), (lvG n rs).count (a, x) = if (n : Int) ≤ x then ((rs[(x - n).toNat]?).map fun r => r.count a).getD 0 else 0
  | [], n, a, x => by simp [lvG]
  | r :: rs, n, a, x => by
    show ((r.map fun a => (a, (n : Int))) ++ lvG (n + 1) rs).count (a, x) = _
    rw [List.count_append, lvG_count rs (n + 1) a x]
    have h1 : (r.map fun a => (a, (n : Int))).count (a, x) = if x = (n : Int) then r.count a else 0 := by
      rw [List.count_eq_countP, List.countP_map, List.count_eq_countP]
      by_cases e : x = (n : Int)
      · subst e
        rw [if_pos rfl]
        congr 1
        funext b
        show ((b, (n : Int)) == (a, (n : Int))) = (b == a)
        by_cases hb : b = a
        · rw [hb, beq_self_eq_true, beq_self_eq_true]
        · rw [beq_eq_false_iff_ne.mpr hb, beq_eq_false_iff_ne.mpr fun z => hb (Prod.mk.inj z).1]
      · rw [if_neg e]
        refine List.countP_eq_zero.mpr fun b _ => ?_
        show ¬ (((b, (n : Int)) == (a, x)) = true)
        intro z
        have z' := eq_of_beq z
        injection z' with _ z'
        exact e z'.symm
    rw [h1]
    by_cases e : x = (n : Int)
    · subst e
      rw [if_pos rfl, if_neg (by omega), if_pos (Int.le_refl _)]
      simp
    · rw [if_neg e]
      by_cases hlt : (n : Int) ≤ x
      · rw [if_pos hlt, if_pos (by omega)]
        have : (x - (n : Int)).toNat = (x - ((n + 1 : Nat) : Int)).toNat + 1 := by omega
        rw [this, List.getElem?_cons_succ]
        simp
      · rw [if_neg hlt, if_neg (by omega)]
theorem row_count (l : List (α × Int)) (k : Nat) (a : α) : (rowOf l k).count a = l.count (a, (k : Int)) := by
  unfold rowOf
  rw [List.count_eq_countP, List.countP_map, List.countP_filter, List.count_eq_countP]
  rfl
theorem rows_perm (hsym : ∀ a b, c a b = c b a) {ds : List α} {rs : List (List α)} (R : RowsOk c ds rs) : (hp c ds).Perm (hp c rs.flatten) := by
  rw [rows_hp c hsym R, List.perm_iff_count]
  rintro ⟨a, x⟩
  rw [lvG_count]
  by_cases h0 : (0 : Int) ≤ x
  · rw [if_pos (by simpa using h0)]
    have ex : x = ((x.toNat : Nat) : Int) := by omega
    have e : (x - ((0 : Nat) : Int)).toNat = x.toNat := by omega
    rw [e]
    by_cases hk : x.toNat < rs.length
    · have hg : rs[x.toNat]? = some rs[x.toNat] := List.getElem?_eq_getElem hk
      rw [hg]
      show _ = rs[x.toNat].count a
      rw [(R.2 _ _ hg).count a, row_count, ← ex]
    · rw [List.getElem?_eq_none (by omega)]
      show _ = 0
      refine List.count_eq_zero_of_not_mem fun hm => ?_
      have := lt_nL c (ds := ds) (h := x) (List.mem_map.mpr ⟨(a, x), hm, rfl⟩)
      rw [R.1] at hk
      omega
  · rw [if_neg (by simpa using h0)]
    refine List.count_eq_zero_of_not_mem fun hm => ?_
    have := hp_nonneg c ds _ hm
    exact h0 this
/-- equal layers: the same deeds at the same heights -/
theorem perm_of_rows {xs ys : List α} (hn : nL c xs = nL c ys) (h : ∀ k, k < nL c xs → (rowOf (hp c xs) k).Perm (rowOf (hp c ys) k)) : (hp c xs).Perm (hp c ys) := by
  rw [List.perm_iff_count]
  rintro ⟨a, x⟩
  by_cases h0 : 0 ≤ x ∧ x < nL c xs
  · have ex : x = ((x.toNat : Nat) : Int) := by omega
    rw [ex, ← row_count, ← row_count]
    exact (h x.toNat (by omega)).count a
  · rw [List.count_eq_zero_of_not_mem fun hm => ?_, List.count_eq_zero_of_not_mem fun hm => ?_]
    · have h1 := hp_nonneg c ys _ hm
      have h2 := lt_nL c (ds := ys) (h := x) (List.mem_map.mpr ⟨(a, x), hm, rfl⟩)
      rw [← hn] at h2
      exact h0 ⟨h1, h2⟩
    · have h1 := hp_nonneg c xs _ hm
      have h2 := lt_nL c (ds := xs) (h := x) (List.mem_map.mpr ⟨(a, x), hm, rfl⟩)
      exact h0 ⟨h1, h2⟩
theorem rows_of_perm {xs ys : List α} (P : (hp c xs).Perm (hp c ys)) : nL c xs = nL c ys ∧ ∀ k, (rowOf (hp c xs) k).Perm (rowOf (hp c ys) k) := by
  refine ⟨?_, fun k => (P.filter _).map _⟩
  have hm : (hts c xs).Perm (hts c ys) := P.map _
  have : maxD (-1) (hts c xs) = maxD (-1) (hts c ys) := by
    refine maxD_eq (fun y hy => ?_) ?_
    · rcases maxD_spec (-1) (hts c ys) with ⟨e, _⟩ | ⟨_, e⟩
      · rw [hm.mem_iff, e] at hy; cases hy
      · exact e y (hm.mem_iff.mp hy)
    · rcases maxD_spec (-1) (hts c ys) with ⟨e, e2⟩ | ⟨e, _⟩
      · right
        refine ⟨?_, e2⟩
        rw [e] at hm
        exact hm.eq_nil
      · exact .inl (hm.mem_iff.mpr e)
  have h1 := nL_cast c xs
  have h2 := nL_cast c ys
  omega
end
section
variable {α : Type} [DecidableEq α] (c : α → α → Bool)
/-! ### brought one by one -/
inductive Lk : List α → List α → Prop
  | nil : Lk [] []
  | cons {l1 l2 ys : List α} {b : α} : (∀ a ∈ l1, a ≠ b) → (∀ a ∈ l1, c a b = false) → Lk (l1 ++ l2) ys → Lk (l1 ++ b :: l2) (b :: ys)
theorem Lk.perm {xs ys : List α} (h : Lk c xs ys) : xs.Perm ys := by
  induction h with
  | nil => exact .refl _
  | @cons l1 l2 ys b _ _ _ ih => exact List.perm_middle.trans (ih.cons b)
/-- the partners once b is brought ahead: g tells those of the rest -/
def mUp (n : Nat) (g : Nat → Nat) (p : Nat) : Nat := if p < n then g p + 1 else if p = n then 0 else g (p - 1) + 1
theorem Lk.mate {xs ys : List α} (h : Lk c xs ys) : ∃ f, Mate xs ys f ∧ Kept c xs f := by
  induction h with
  | nil => exact ⟨id, (fun p a h => by simp at h), fun p q a b _ h => by simp at h⟩
  | @cons l1 l2 ys b hne hfree _ ih =>
    obtain ⟨g, M, O⟩ := ih
    have lo : ∀ {p : Nat}, p < l1.length → (l1 ++ b :: l2)[p]? = (l1 ++ l2)[p]? := fun {p} h => by rw [List.getElem?_append_left h, List.getElem?_append_left h]
    have hi : ∀ {p : Nat}, l1.length < p → (l1 ++ b :: l2)[p]? = (l1 ++ l2)[p - 1]? := fun {p} h => by
      rw [List.getElem?_append_right (by omega), List.getElem?_append_right (by omega)]
      have : p - l1.length = (p - 1 - l1.length) + 1 := by omega
      rw [this, List.getElem?_cons_succ]
    have at' : (l1 ++ b :: l2)[l1.length]? = some b := by rw [List.getElem?_append_right (Nat.le_refl _), Nat.sub_self]; rfl
    have tlo : ∀ {p : Nat}, p ≤ l1.length → (l1 ++ b :: l2).take p = (l1 ++ l2).take p := fun {p} h => by rw [List.take_append_of_le_length h, List.take_append_of_le_length h]
    have thi : ∀ {p : Nat} (a : α), l1.length < p → ((l1 ++ b :: l2).take p).count a = ((l1 ++ l2).take (p - 1)).count a + if b = a then 1 else 0 := fun {p} a h => by
      have e : p = l1.length + ((p - 1 - l1.length) + 1) := by omega
      have e2 : p - 1 = l1.length + (p - 1 - l1.length) := by omega
      rw [e2, e, List.take_length_add_append, List.take_length_add_append]
      have : l1.length + ((p - 1 - l1.length) + 1) - 1 - l1.length = p - 1 - l1.length := by omega
      rw [List.take_succ_cons, List.count_append, List.count_append, List.count_cons, this]
      simp only [beq_iff_eq]
      rw [Nat.add_assoc]
    have m0 : ∀ {p : Nat}, p < l1.length → mUp l1.length g p = g p + 1 := fun {p} h => by unfold mUp; rw [if_pos h]
    have m1 : mUp l1.length g l1.length = 0 := by unfold mUp; rw [if_neg (Nat.lt_irrefl _), if_pos rfl]
    have m2 : ∀ {p : Nat}, l1.length < p → mUp l1.length g p = g (p - 1) + 1 := fun {p} h => by unfold mUp; rw [if_neg (by omega), if_neg (by omega)]
    refine ⟨mUp l1.length g, fun p a hp => ?_, fun p q a a' hpq ha ha' hc => ?_⟩
    · rcases Nat.lt_trichotomy p l1.length with z | z | z
      · rw [m0 z]
        rw [lo z] at hp
        obtain ⟨h1, h2⟩ := M p a hp
        have hab : b ≠ a := by
          rw [List.getElem?_append_left z] at hp
          exact fun e => hne a (List.mem_of_getElem? hp) e.symm
        refine ⟨by rw [List.getElem?_cons_succ]; exact h1, ?_⟩
        rw [List.take_succ_cons, List.count_cons_of_ne hab, h2, tlo (Nat.le_of_lt z)]
      · subst z
        rw [at'] at hp
        cases hp
        rw [m1]
        refine ⟨rfl, ?_⟩
        rw [tlo (Nat.le_refl _), List.take_left']
        · show 0 = _
          exact (List.count_eq_zero_of_not_mem fun hm => hne b hm rfl).symm
        · rfl
      · rw [m2 z]
        rw [hi z] at hp
        obtain ⟨h1, h2⟩ := M (p - 1) a hp
        refine ⟨by rw [List.getElem?_cons_succ]; exact h1, ?_⟩
        rw [List.take_succ_cons, List.count_cons, h2, thi a z]
        simp only [beq_iff_eq]
    · rcases Nat.lt_trichotomy p l1.length with z | z | z
      · rcases Nat.lt_trichotomy q l1.length with y | y | y
        · rw [m0 z, m0 y]
          rw [lo z] at ha
          rw [lo y] at ha'
          exact Nat.succ_lt_succ (O p q a a' hpq ha ha' hc)
        · subst y
          rw [at'] at ha'
          cases ha'
          rw [List.getElem?_append_left z] at ha
          rw [hfree a (List.mem_of_getElem? ha)] at hc
          cases hc
        · rw [m0 z, m2 y]
          rw [lo z] at ha
          rw [hi y] at ha'
          exact Nat.succ_lt_succ (O p (q - 1) a a' (by omega) ha ha' hc)
      · subst z
        rw [m1, m2 hpq]
        exact Nat.succ_pos _
      · rw [m2 z, m2 (Nat.lt_trans z hpq)]
        rw [hi z] at ha
        rw [hi (Nat.lt_trans z hpq)] at ha'
        exact Nat.succ_lt_succ (O (p - 1) (q - 1) a a' (by omega) ha ha' hc)
/-- partners are told in one way -/
theorem Mate.uniq {xs ys : List α} {f g : Nat → Nat} (M : Mate xs ys f) (N : Mate xs ys g) {p : Nat} (h : p < xs.length) : f p = g p := by
  obtain ⟨h1, h2⟩ := M p _ (List.getElem?_eq_getElem h)
  obtain ⟨h3, h4⟩ := N p _ (List.getElem?_eq_getElem h)
  exact occ_inj h1 h3 (by rw [h2, h4])
theorem first_split {b : α} : ∀ {l : List α}, b ∈ l → ∃ l1 l2, l = l1 ++ b :: l2 ∧ ∀ a ∈ l1, a ≠ b
  | [], h => by cases h
  | x :: l, h => by
    by_cases e : x = b
    · subst e; exact ⟨[], l, rfl, (fun a h => by cases h)⟩
    · rcases List.mem_cons.mp h with z | z
      · exact absurd z.symm e
      · obtain ⟨l1, l2, e1, e2⟩ := first_split z
        refine ⟨x :: l1, l2, by rw [e1]; rfl, fun a ha => ?_⟩
        rcases List.mem_cons.mp ha with rfl | ha
        · exact e
        · exact e2 a ha
/-- what the rest's partners are -/
theorem Mate.rest {l1 l2 ys : List α} {b : α} {f : Nat → Nat} (M : Mate (l1 ++ b :: l2) (b :: ys) f) (hne : ∀ a ∈ l1, a ≠ b) : f l1.length = 0 ∧ Mate (l1 ++ l2) ys (fun p => if p < l1.length then f p - 1 else f (p + 1) - 1) ∧ ∀ p, p < (l1 ++ b :: l2).length → p ≠ l1.length → 0 < f p := by
  have at' : (l1 ++ b :: l2)[l1.length]? = some b := by rw [List.getElem?_append_right (Nat.le_refl _), Nat.sub_self]; rfl
  have c0 : ((l1 ++ b :: l2).take l1.length).count b = 0 := by
    rw [List.take_left']
    · exact List.count_eq_zero_of_not_mem fun hm => hne b hm rfl
    · rfl
  have f0 : f l1.length = 0 := by
    obtain ⟨h1, h2⟩ := M _ b at'
    exact occ_inj (l := b :: ys) (a := b) h1 rfl (by rw [h2, c0]; rfl)
  have pos : ∀ p, p < (l1 ++ b :: l2).length → p ≠ l1.length → 0 < f p := fun p hp hn => by
    rcases Nat.eq_zero_or_pos (f p) with z | z
    · exact absurd (M.inj (List.getElem?_eq_getElem hp) at' (by rw [z, f0])) hn
    · exact z
  refine ⟨f0, fun p a hp => ?_, pos⟩
  by_cases z : p < l1.length
  · simp only [if_pos z]
    have hp' : (l1 ++ b :: l2)[p]? = some a := by rw [List.getElem?_append_left z] at hp ⊢; exact hp
    obtain ⟨h1, h2⟩ := M p a hp'
    have hpos := pos p (List.getElem?_eq_some_iff.mp hp').1 (by omega)
    have hab : b ≠ a := by
      rw [List.getElem?_append_left z] at hp
      exact fun e => hne a (List.mem_of_getElem? hp) e.symm
    have e : f p = (f p - 1) + 1 := by omega
    rw [e, List.getElem?_cons_succ] at h1
    rw [e, List.take_succ_cons, List.count_cons_of_ne hab, List.take_append_of_le_length (Nat.le_of_lt z)] at h2
    exact ⟨h1, by rw [h2, List.take_append_of_le_length (Nat.le_of_lt z)]⟩
  · simp only [if_neg z]
    have hp' : (l1 ++ b :: l2)[p + 1]? = some a := by
      rw [List.getElem?_append_right (by omega)] at hp ⊢
      have : p + 1 - l1.length = (p - l1.length) + 1 := by omega
      rw [this, List.getElem?_cons_succ]; exact hp
    obtain ⟨h1, h2⟩ := M (p + 1) a hp'
    have hpos := pos (p + 1) (List.getElem?_eq_some_iff.mp hp').1 (by omega)
    have e : f (p + 1) = (f (p + 1) - 1) + 1 := by omega
    rw [e, List.getElem?_cons_succ] at h1
    refine ⟨h1, ?_⟩
    have e3 : p + 1 = l1.length + ((p - l1.length) + 1) := by omega
    have e4 : p = l1.length + (p - l1.length) := by omega
    have t1 : (l1 ++ b :: l2).take (p + 1) = l1 ++ b :: l2.take (p - l1.length) := by
      rw [e3, List.take_length_add_append, List.take_succ_cons]
    have t2 : (l1 ++ l2).take p = l1 ++ l2.take (p - l1.length) := by
      conv => lhs; rw [e4]
      rw [List.take_length_add_append]
    rw [e, List.take_succ_cons, t1, List.count_cons, List.count_append, List.count_cons] at h2
    rw [t2, List.count_append]
    omega
theorem Kept.lk : ∀ {ys xs : List α} {f : Nat → Nat}, Mate xs ys f → xs.length = ys.length → Kept c xs f → Lk c xs ys
  | [], xs, _, _, hl, _ => by rw [List.length_eq_zero_iff.mp hl]; exact .nil
  | b :: ys, xs, f, M, hl, O => by
    have hb : b ∈ xs := by
      have := count_sum_le M.count hl b
      rw [List.count_cons_self] at this
      exact List.count_pos_iff.mp (by omega)
    obtain ⟨l1, l2, rfl, hne⟩ := first_split hb
    obtain ⟨f0, M', pos⟩ := M.rest hne
    have at' : (l1 ++ b :: l2)[l1.length]? = some b := by rw [List.getElem?_append_right (Nat.le_refl _), Nat.sub_self]; rfl
    refine .cons hne (fun a ha => Bool.eq_false_iff.mpr fun hc => ?_) (Kept.lk M' (by rw [List.length_append, List.length_cons, List.length_cons] at hl; rw [List.length_append]; omega) fun p q a a' hpq ha ha' hc => ?_)
    · obtain ⟨p, hp⟩ := List.getElem?_of_mem ha
      have hpl : p < l1.length := (List.getElem?_eq_some_iff.mp hp).1
      have := O p l1.length a b hpl (by rw [List.getElem?_append_left hpl]; exact hp) at' hc
      omega
    · have hq : ∀ {p : Nat} {a : α}, (l1 ++ l2)[p]? = some a → (l1 ++ b :: l2)[if p < l1.length then p else p + 1]? = some a := fun {p a} h => by
        by_cases z : p < l1.length
        · rw [if_pos z]
          rw [List.getElem?_append_left z] at h ⊢
          exact h
        · rw [if_neg z]
          rw [List.getElem?_append_right (by omega)] at h ⊢
          have : p + 1 - l1.length = (p - l1.length) + 1 := by omega
          rw [this, List.getElem?_cons_succ]; exact h
      have k := O (if p < l1.length then p else p + 1) (if q < l1.length then q else q + 1) a a' (by split <;> split <;> omega) (hq ha) (hq ha') hc
      have g1 := pos _ (List.getElem?_eq_some_iff.mp (hq ha)).1 (by split <;> omega)
      have g2 := pos _ (List.getElem?_eq_some_iff.mp (hq ha')).1 (by split <;> omega)
      by_cases z1 : p < l1.length
      · rw [if_pos z1] at k g1
        simp only [if_pos z1]
        by_cases z2 : q < l1.length
        · rw [if_pos z2] at k g2
          simp only [if_pos z2]
          omega
        · rw [if_neg z2] at k g2
          simp only [if_neg z2]
          omega
      · rw [if_neg z1] at k g1
        simp only [if_neg z1]
        by_cases z2 : q < l1.length
        · omega
        · rw [if_neg z2] at k g2
          simp only [if_neg z2]
          omega
end
end L2

end

section
namespace L2
open PySem PySem.Spec PyProof.Rows

/-! ### what a value tells, as a tree -/
mutual
inductive Dat (H : Hp) : V → PyData → Prop
  | non : Dat H .non .none
  | bl (b : Bool) : Dat H (.bl b) (.bool b)
  | int (i : Int) : Dat H (.int i) (.int i)
  | str (x : Str) (hx : (PyData.str x).canLay0 = true) : Dat H (.str x) (.str x)
  | lst {a : Addr} {vs : List V} {ds : List PyData} : H a = some (.lst vs) → DatAll H vs ds → Dat H (.ref a) (.list ds)
  | tup {a : Addr} {vs : List V} {ds : List PyData} : H a = some (.tup vs) → DatAll H vs ds → Dat H (.ref a) (.tuple ds)
inductive DatAll (H : Hp) : List V → List PyData → Prop
  | nil : DatAll H [] []
  | cons {v : V} {d : PyData} {vs : List V} {ds : List PyData} : Dat H v d → DatAll H vs ds → DatAll H (v :: vs) (d :: ds)
end
theorem DatAll.map {β : Type} {H : Hp} {f : β → PyData} {P : V → β → Prop} (hf : ∀ v b, P v b → Dat H v (f b)) : ∀ {vs : List V} {bs : List β}, Paired P vs bs → DatAll H vs (bs.map f)
  | _, _, .nil => .nil
  | _, _, .cons h t => .cons (hf _ _ h) (DatAll.map hf t)
mutual
theorem Dat.lay {H : Hp} : ∀ (d : PyData) {v : V}, Dat H v d → d.canLay0 = true
  | .none, _, _ => rfl
  | .bool _, _, _ => rfl
  | .int _, _, _ => rfl
  | .str _, _, h => by cases h with | str _ hx => exact hx
  | .list ds, _, h => by cases h with | lst _ h => exact DatAll.lay ds h
  | .tuple ds, _, h => by cases h with | tup _ h => exact DatAll.lay ds h
  | .dict _, _, h => by cases h
theorem DatAll.lay {H : Hp} : ∀ (ds : List PyData) {vs : List V}, DatAll H vs ds → PyData.canLayAll0 ds = true
  | [], _, _ => rfl
  | d :: ds, _, h => by
    cases h with
    | cons h1 h2 =>
      show (d.canLay0 && PyData.canLayAll0 ds) = true
      rw [Dat.lay d h1, DatAll.lay ds h2]; rfl
end
mutual
theorem Dat.same {H H' : Hp} (S : Same H H') : ∀ (d : PyData) {v : V}, Dat H v d → Dat H' v d
  | .none, _, h => by cases h; exact .non
  | .bool _, _, h => by cases h; exact .bl _
  | .int _, _, h => by cases h; exact .int _
  | .str _, _, h => by cases h with | str _ hx => exact .str _ hx
  | .list ds, _, h => by cases h with | lst e h => exact .lst (S _ _ e) (DatAll.same S ds h)
  | .tuple ds, _, h => by cases h with | tup e h => exact .tup (S _ _ e) (DatAll.same S ds h)
  | .dict _, _, h => by cases h
theorem DatAll.same {H H' : Hp} (S : Same H H') : ∀ (ds : List PyData) {vs : List V}, DatAll H vs ds → DatAll H' vs ds
  | [], _, h => by cases h; exact .nil
  | d :: ds, _, h => by cases h with | cons h1 h2 => exact .cons (Dat.same S d h1) (DatAll.same S ds h2)
end
section
variable {X : Cx} {pins : List (Addr × Obj)} {σ : St} {H : Hp} {s : Shared}
mutual
theorem Inv.dat (I : Inv X pins σ H s) : ∀ (d : PyData) {v : V} {u : Value}, Dat H v d → RelV v u → ∃ as, Reads s.heap u d as
  | .none, _, _, h, r => by cases h; cases r; exact ⟨_, .none⟩
  | .bool _, _, _, h, r => by cases h; cases r; exact ⟨_, .bool _⟩
  | .int _, _, _, h, r => by cases h; obtain ⟨t, rfl⟩ := r; exact ⟨_, .int _ _⟩
  | .str _, _, _, h, r => by cases h; obtain ⟨t, rfl⟩ := r; exact ⟨_, .str _ _⟩
  | .list ds, _, _, h, r => by
    cases h with
    | lst e h =>
      cases r
      obtain ⟨_, its, n, rv, g⟩ := I.hok _ _ e
      obtain ⟨as, q⟩ := Inv.datAll I ds h rv
      exact ⟨_, .list g rfl rfl (by simpa using q)⟩
  | .tuple ds, _, _, h, r => by
    cases h with
    | tup e h =>
      cases r
      obtain ⟨_, its, rv, o, g1, g2, n, g3⟩ := I.hok _ _ e
      obtain ⟨as, q⟩ := Inv.datAll I ds h rv
      exact ⟨_, .tuple g1 g2 g3 (by simpa using q)⟩
  | .dict _, _, _, h, _ => by cases h
theorem Inv.datAll (I : Inv X pins σ H s) : ∀ (ds : List PyData) {vs : List V} {us : List Value}, DatAll H vs ds → Vals vs us → ∃ as, ReadsAll s.heap us ds as
  | [], _, _, h, r => by cases h; cases r; exact ⟨_, .nil⟩
  | d :: ds, _, _, h, r => by
    cases h with
    | cons h1 h2 =>
      cases r with
      | cons r1 r2 =>
        obtain ⟨as, q⟩ := Inv.dat I d h1 r1
        obtain ⟨bs, q'⟩ := Inv.datAll I ds h2 r2
        exact ⟨_, .cons q q'⟩
end
end
/-! ### == and != of such values -/
def rEqD : R2 := fun x y H Q => ∃ d e, Dat H x d ∧ Dat H y e ∧ d.depth ≤ 60 ∧ Q (.bl (PyData.eqv d e)) H
def rNeD : R2 := fun x y H Q => ∃ d e, Dat H x d ∧ Dat H y e ∧ d.depth ≤ 60 ∧ Q (.bl (!PyData.eqv d e)) H
theorem op_eqD {X : Cx} (hu : X.A.units + 64 < cLine) : OpR X (compareOp .Eq) rEqD := by
  intro pins s σ H x y v u Q I rx ry h
  obtain ⟨d, e, hd, he, dp, q⟩ := h
  obtain ⟨as, r1⟩ := I.dat d hd rx
  obtain ⟨bs, r2⟩ := I.dat e he ry
  exact SeqAt.compareEq_reads r1 r2 (Dat.lay d hd) (Dat.lay e he) (by omega) ⟨.bl _, H, I, rfl, q⟩
theorem op_neD {X : Cx} (hu : X.A.units + 64 < cLine) : OpR X (compareOp .NotEq) rNeD := by
  intro pins s σ H x y v u Q I rx ry h
  obtain ⟨d, e, hd, he, dp, q⟩ := h
  obtain ⟨as, r1⟩ := I.dat d hd rx
  obtain ⟨bs, r2⟩ := I.dat e he ry
  exact SeqAt.compareNe_reads r1 r2 (Dat.lay d hd) (Dat.lay e he) (by omega) ⟨.bl _, H, I, rfl, q⟩

/-! ### ways to tell things as trees that tell them apart -/
structure Enc {β : Type} (f : β → PyData) (k : Nat) : Prop where
  inj : ∀ x y, PyData.eqv (f x) (f y) = true ↔ x = y
  dep : ∀ x, (f x).depth ≤ k
theorem Enc.dec {β : Type} [DecidableEq β] {f : β → PyData} {k : Nat} (h : Enc f k) (x y : β) : PyData.eqv (f x) (f y) = decide (x = y) := by
  by_cases e : x = y
  · rw [decide_eq_true e]; exact (h.inj x y).mpr e
  · rw [decide_eq_false e]; exact Bool.eq_false_iff.mpr fun z => e ((h.inj x y).mp z)
theorem enc_int : Enc PyData.int 0 := ⟨fun x y => by show (x == y) = true ↔ _; exact beq_iff_eq, fun _ => Nat.le_refl _⟩
theorem enc_all {β : Type} {f : β → PyData} {k : Nat} (h : Enc f k) : ∀ (xs ys : List β), PyData.eqvAll (xs.map f) (ys.map f) = true ↔ xs = ys
  | [], [] => by simp [PyData.eqvAll]
  | [], _ :: _ => by simp [PyData.eqvAll]
  | _ :: _, [] => by simp [PyData.eqvAll]
  | x :: xs, y :: ys => by
    show (PyData.eqv (f x) (f y) && PyData.eqvAll (xs.map f) (ys.map f)) = true ↔ _
    rw [Bool.and_eq_true, h.inj, enc_all h xs ys]
    constructor
    · rintro ⟨rfl, rfl⟩; rfl
    · intro e; injection e with e1 e2; exact ⟨e1, e2⟩
theorem dep_all {β : Type} {f : β → PyData} {k : Nat} (h : ∀ x, (f x).depth ≤ k) : ∀ (xs : List β), PyData.depthAll (xs.map f) ≤ k
  | [] => Nat.zero_le _
  | x :: xs => Nat.max_le.mpr ⟨h x, dep_all h xs⟩
theorem enc_list {β : Type} {f : β → PyData} {k : Nat} (h : Enc f k) : Enc (fun xs : List β => PyData.list (xs.map f)) (k + 1) :=
  ⟨fun xs ys => by rw [PyData.eqv]; exact enc_all h xs ys, fun xs => Nat.succ_le_succ (dep_all h.dep xs)⟩
/-- a deed -/
def dD (d : D3) : PyData := .tuple [.int d.1, .int d.2.1, .int d.2.2]
theorem enc_dD : Enc dD 1 := by
  refine ⟨fun x y => ?_, fun x => Nat.le_refl _⟩
  have e : PyData.eqv (dD x) (dD y) = ((x.1 == y.1) && ((x.2.1 == y.2.1) && ((x.2.2 == y.2.2) && true))) := by
    unfold dD
    simp only [PyData.eqv, PyData.eqvAll]
  rw [e]
  obtain ⟨a, b, c⟩ := x
  obtain ⟨a', b', c'⟩ := y
  simp
theorem T3.dat {H : Hp} {v : V} {d : D3} (h : T3 H v d) : Dat H v (dD d) := by
  obtain ⟨a, rfl, e⟩ := h
  exact .tup e (.cons (.int _) (.cons (.int _) (.cons (.int _) .nil)))
/-- a list of ints -/
def dI (ns : List Int) : PyData := .list (ns.map .int)
theorem enc_dI : Enc dI 1 := enc_list enc_int
theorem dat_ints {H : Hp} {a : Addr} {ns : List Int} (h : H a = some (.lst (ns.map V.int))) : Dat H (.ref a) (dI ns) := by
  refine .lst h ?_
  clear h
  induction ns with
  | nil => exact .nil
  | cons n ns ih => exact .cons (.int n) ih
/-- a list of deeds -/
def dL (ds : List D3) : PyData := .list (ds.map dD)
theorem enc_dL : Enc dL 2 := enc_list enc_dD
/-- the list at a holds the deeds ds -/
def LD (H : Hp) (a : Addr) (ds : List D3) : Prop := ∃ vs, H a = some (.lst vs) ∧ Paired (T3 H) vs ds
theorem LD.same {H H' : Hp} {a : Addr} {ds : List D3} (S : Same H H') (h : LD H a ds) : LD H' a ds := let ⟨vs, e, p⟩ := h; ⟨vs, S _ _ e, stab_T3.list S p⟩
theorem LD.dat {H : Hp} {a : Addr} {ds : List D3} (h : LD H a ds) : Dat H (.ref a) (dL ds) := let ⟨_, e, p⟩ := h; .lst e (DatAll.map (fun _ _ z => T3.dat z) p)
end L2

end

section
namespace L2
open PySem PySem.Spec PyProof.Rows

/-! ### the law's own sameness: ints, tuples, lists alone -/
mutual
def itl : PyData → Bool
  | .int _ => true
  | .list xs => itlAll xs
  | .tuple xs => itlAll xs
  | _ => false
def itlAll : List PyData → Bool
  | [] => true
  | x :: xs => itl x && itlAll xs
end
section
variable {K : PySem.W.Frag}
theorem kit_same {n : String} : PySem.W.kitOne K (.type n) (.type n) = some true := if_pos (beq_self_eq_true _)
theorem kit_int_bool : PySem.W.kitOne K (.type "int") (.type "bool") = some false := by kernel_rfl
end
/-! ### the drawn diary -/
theorem okD_of {x a b : Int} (h1 : R60 a) (h2 : R60 b) : okD (x, a, b) := by
  unfold R60 at h1 h2
  refine ⟨⟨h1.1, ?_⟩, h2.1, ?_⟩
  · show a < 2 ^ 60
    omega
  · show b < 2 ^ 60
    omega
theorem cut_ints (ns : List Int) (lo hi : Option Int) : ∃ ms : List Int, cutV (ns.map V.int) lo hi = ms.map V.int ∧ ms.length ≤ ns.length := by
  have h := cutV_length (ns.map V.int) lo hi
  unfold cutV at h ⊢
  rw [← List.map_drop, ← List.map_take] at h ⊢
  refine ⟨_, rfl, ?_⟩
  simp only [List.length_map] at h ⊢
  exact h
/-- a deed of a good size stands there -/
def DP (H : Hp) (v : V) (_ : Unit) : Prop := ∃ d, T3 H v d ∧ okD d
theorem stab_DP : Stab DP := ⟨fun S ⟨d, h, o⟩ => ⟨d, h.same S, o⟩, fun hl ⟨d, h, o⟩ => ⟨d, h.wr hl, o⟩⟩
theorem deeds_of {H : Hp} : ∀ {vs : List V} {us : List Unit}, Paired (DP H) vs us → ∃ ds : List D3, Paired (T3 H) vs ds ∧ (∀ d ∈ ds, okD d) ∧ ds.length = us.length
  | _, _, .nil => ⟨[], .nil, (fun _ h => nomatch h), rfl⟩
  | _, _, .cons ⟨d, h, o⟩ t => by
    obtain ⟨ds, p, q, e⟩ := deeds_of t
    refine ⟨d :: ds, .cons h p, fun x hx => ?_, congrArg Nat.succ e⟩
    rcases List.mem_cons.mp hx with rfl | hx
    · exact o
    · exact q x hx
end L2
namespace L2
open PySem PySem.Spec PyProof.Rows
/-! ### heights -/
def spBehind : Sp := fun vs H Q _ => ∃ (a b : Addr) (x : V) (ds : List D3) (hs : List Int) (d : D3), vs = [.ref a, .ref b, x] ∧ LD H a ds ∧ ds.length < sizeLine ∧ H b = some (.lst (hs.map V.int)) ∧ T3 H x d ∧
  ∀ H', Same H H' → Q (.int (hOf clashB (ds.zip hs) d)) H'
def spHeights : Sp := fun vs H Q _ => ∃ (a : Addr) (ds : List D3), vs = [.ref a] ∧ LD H a ds ∧ ds.length < sizeLine ∧
  ∀ r H', Same H H' → H r = none → H' r = some (.lst ((hts clashB ds).map V.int)) → Q (.ref r) H'
end L2
namespace L2
open PySem PySem.Spec PyProof.Rows
theorem zip_pre {α β : Type} : ∀ (xs : List α) (ys : List β), xs.zip ys = (xs.take ys.length).zip ys
  | [], _ => by simp
  | _ :: _, [] => by simp
  | x :: xs, y :: ys => by simp [← zip_pre xs ys]
theorem zip_hts {α : Type} (c : α → α → Bool) (ds : List α) {i : Nat} (hi : i ≤ ds.length) : ds.zip (hts c (ds.take i)) = hp c (ds.take i) := by
  rw [zip_pre, hts_length, List.length_take, Nat.min_eq_left hi, hp_zip]
theorem ints_get {hs : List Int} {i : Nat} {y : V} (h : (hs.map V.int)[i]? = some y) : ∃ n, hs[i]? = some n ∧ y = .int n := by
  rw [List.getElem?_map] at h
  cases e : hs[i]? with
  | none => rw [e] at h; cases h
  | some n => rw [e] at h; exact ⟨n, rfl, (Option.some.inj h).symm⟩
end L2
namespace L2
open PySem PySem.Spec PyProof.Rows
theorem at0 {α : Type} {xs : List α} {j : Nat} {v : α} (h : xs[j]? = some v) : atI xs (0 + (j : Int)) = some v := by rw [Int.zero_add]; exact atI_nat h
theorem cut_to {xs : List V} {m : Int} (h : 0 ≤ m) : cutV xs none (some m) = xs.take m.toNat := by
  obtain ⟨k, rfl⟩ := Int.eq_ofNat_of_zero_le h
  unfold cutV
  rw [HT.sIx_nat, HT.sIx_none, List.drop_zero, Nat.sub_zero, Int.toNat_natCast]
  rcases Nat.le_total k xs.length with z | z
  · rw [Nat.min_eq_left z]
  · rw [Nat.min_eq_right z, List.take_of_length_le (Nat.le_refl _), List.take_of_length_le z]
def spLaw (K : PySem.W.Frag) : Sp := fun vs H Q _ => ∃ (a : Addr) (ns : List Int), vs = [.ref a] ∧ SqL K H a (ns.map V.int) ∧ ns.length ≤ 63 ∧ ∀ H', Q (.bl true) H'
end L2
namespace L2
open PySem PySem.Spec PyProof.Rows
/-! ### a row of written ints -/
def intsOf : List Expr → Option (List Int)
  | [] => some []
  | .Constant (.int i) _ _ :: es => (intsOf es).map (i :: ·)
  | _ => none
theorem pa_ints {X : Cx} : ∀ {es : List Expr} {ns : List Int}, intsOf es = some ns → PA X es (fun _ H Q => Q (ns.map V.int) H)
  | [], ns, h => by
    have e : [] = ns := Option.some.inj h
    subst e
    exact pa_nil
  | e :: es, ns, h => by
    cases e with
    | Constant c j pos =>
      cases c with
      | int i =>
        have h' : (intsOf es).map (i :: ·) = some ns := h
        cases q : intsOf es with
        | none => rw [q] at h'; cases h'
        | some ms =>
          rw [q] at h'
          have e : i :: ms = ns := Option.some.inj h'
          subst e
          exact pa_cons pe_int (pa_ints q)
      | _ => cases h
    | _ => cases h
end L2

end

section
namespace L2
open PySem PySem.W PyProof.Rows
/-! ### the sort of few, as a tree of questions, answered by an order -/
section
variable (n : Nat) (lt : Nat → Nat → Bool)
variable {n lt}
structure LtOk (lt : Nat → Nat → Bool) : Prop where
  asy : ∀ i j, lt i j = true → lt j i = false
  tr : ∀ i j k, lt j i = false → lt k j = false → lt k i = false
variable (O : LtOk lt)
/-- the first k of p rise -/
def Srt (lt : Nat → Nat → Bool) (p : Array Nat) (k : Nat) : Prop := ∀ i j, i ≤ j → j < k → lt (p.getD j 0) (p.getD i 0) = false
/-- the numbers below n, in some order -/
def Prm (n : Nat) (p : Array Nat) : Prop := p.Perm (List.range n).toArray
theorem Prm.size {p : Array Nat} (h : Prm n p) : p.size = n := by have := Array.Perm.size_eq h; simpa using this
theorem Prm.ix {p : Array Nat} (h : Prm n p) {i : Nat} (hi : i < n) : p.getD i 0 < n := by
  have hs := h.size
  have : p[i] ∈ p := Array.getElem_mem (by omega)
  have := (Array.Perm.mem_iff h).mp this
  rw [show p.getD i 0 = p[i] by simp [Array.getD, hs, hi]]
  simpa using this
end
end L2

end

section
namespace L2
open PySem PySem.Spec PyProof.Rows PySem.W

/-! ### the order of deeds -/
def ltB (d e : D3) : Bool := decide (d.1 < e.1 ∨ (d.1 = e.1 ∧ (d.2.1 < e.2.1 ∨ (d.2.1 = e.2.1 ∧ d.2.2 < e.2.2))))
theorem ltB_iff {d e : D3} : ltB d e = true ↔ (d.1 < e.1 ∨ (d.1 = e.1 ∧ (d.2.1 < e.2.1 ∨ (d.2.1 = e.2.1 ∧ d.2.2 < e.2.2)))) := decide_eq_true_iff
theorem ltB_no {d e : D3} : ltB d e = false ↔ ¬ (d.1 < e.1 ∨ (d.1 = e.1 ∧ (d.2.1 < e.2.1 ∨ (d.2.1 = e.2.1 ∧ d.2.2 < e.2.2)))) := decide_eq_false_iff_not
theorem ltB_asy {d e : D3} (h : ltB d e = true) : ltB e d = false := by rw [ltB_iff] at h; rw [ltB_no]; omega
theorem ltB_tr {d e f : D3} (h1 : ltB e d = false) (h2 : ltB f e = false) : ltB f d = false := by rw [ltB_no] at h1 h2 ⊢; omega
theorem ltB_anti {d e : D3} (h1 : ltB e d = false) (h2 : ltB d e = false) : d = e := by
  rw [ltB_no] at h1 h2
  obtain ⟨a, b, c⟩ := d
  obtain ⟨a', b', c'⟩ := e
  dsimp only at h1 h2
  have e1 : a = a' := by omega
  have e2 : b = b' := by omega
  have e3 : c = c' := by omega
  rw [e1, e2, e3]
def leD (d e : D3) : Bool := !ltB e d
def srt (ds : List D3) : List D3 := ds.mergeSort leD
theorem srt_perm (ds : List D3) : (srt ds).Perm ds := List.mergeSort_perm ds leD
theorem srt_rises (ds : List D3) : (srt ds).Pairwise fun d e => ltB e d = false := by
  refine List.Pairwise.imp ?_ (List.pairwise_mergeSort (le := leD) ?_ ?_ ds)
  · intro a b h
    simpa [leD] using h
  · intro a b c h1 h2
    have h1' : ltB b a = false := by simpa [leD] using h1
    have h2' : ltB c b = false := by simpa [leD] using h2
    show (!ltB c a) = true
    rw [ltB_tr h1' h2']; rfl
  · intro a b
    unfold leD
    cases h : ltB b a with
    | false => rfl
    | true => rw [ltB_asy h]; rfl
theorem srt_uniq {ds es : List D3} (p : es.Perm ds) (r : es.Pairwise fun d e => ltB e d = false) : es = srt ds :=
  List.Perm.eq_of_pairwise (fun _ _ _ _ h h' => ltB_anti h h') r (srt_rises ds) (p.trans (srt_perm ds).symm)
theorem srt_of_perm {ds es : List D3} (p : ds.Perm es) : srt ds = srt es := srt_uniq ((srt_perm ds).trans p) (srt_rises ds)
theorem srt_length (ds : List D3) : (srt ds).length = ds.length := (srt_perm ds).length_eq

/-! ### the tree of questions, each answered where the state stays -/
section
variable {prog : Program} {w : World} {A : Around} {E : Value → Shared → Prop} {s : Shared}
theorem lt_ints3 {x y : Addr} {a b c a' b' c' : Int} {t1 t2 t3 u1 u2 u3 : Tok} {C : Bool → Shared → Prop} (hx : IsTup s.heap x #[.int a t1, .int b t2, .int c t3]) (hy : IsTup s.heap y #[.int a' u1, .int b' u2, .int c' u3]) (h : C (ltB (a, b, c) (a', b', c')) s) :
    wpAny (model prog w) A (keyLt' (tuples' true) (.ref x) (.ref y)) C (fun _ _ => False) s := by
  obtain ⟨ox, gx, _, nx, dx⟩ := hx
  obtain ⟨oy, gy, _, ny, dy⟩ := hy
  refine kat_lt gx dx gy dy ?_
  show KatLex prog w A true _ C [(.int a t1, .int a' u1), (.int b t2, .int b' u2), (.int c t3, .int c' u3)] 0 s
  refine kat_cons (SeqAt.EqAt.int_int a t1 a' u1 prog w _ _ ?_)
  refine kat_go (fun e1 => kat_yes ?_) (fun e1 => kat_no ?_)
  · have e1' : a = a' := by simpa using e1
    refine kat_cons (SeqAt.EqAt.int_int b t2 b' u2 prog w _ _ ?_)
    refine kat_go (fun e2 => kat_yes ?_) (fun e2 => kat_no ?_)
    · have e2' : b = b' := by simpa using e2
      refine kat_cons (SeqAt.EqAt.int_int c t3 c' u3 prog w _ _ ?_)
      refine kat_go (fun e3 => kat_yes (kat_nil ?_)) (fun e3 => kat_no ?_)
      · have e3' : c = c' := by simpa using e3
        have z : ltB (a, b, c) (a', b', c') = false := by rw [ltB_no]; dsimp only; omega
        rw [z] at h
        exact h
      · refine kat_one _ _ (lt_int ?_)
        have z : ltB (a, b, c) (a', b', c') = decide (c < c') := by
          by_cases q : c < c'
          · rw [decide_eq_true q, ltB_iff]; dsimp only; omega
          · rw [decide_eq_false q, ltB_no]; dsimp only; omega
        rw [z] at h
        exact h
    · have e2' : b ≠ b' := by simpa using e2
      refine kat_one _ _ (lt_int ?_)
      have z : ltB (a, b, c) (a', b', c') = decide (b < b') := by
        by_cases q : b < b'
        · rw [decide_eq_true q, ltB_iff]; dsimp only; omega
        · rw [decide_eq_false q, ltB_no]; dsimp only; omega
      rw [z] at h
      exact h
  · have e1' : a ≠ a' := by simpa using e1
    have z : ltB (a, b, c) (a', b', c') = decide (a < a') := by
      by_cases q : a < a'
      · rw [decide_eq_true q, ltB_iff]; dsimp only; omega
      · rw [decide_eq_false q, ltB_no]; dsimp only; omega
    rw [z] at h
    exact (kat_lt_int h : wpAny (model prog w) A (keyLt' oneType' (.int a t1) (.int a' u1)) C (fun _ _ => False) s)
/-- the values are tuples of three ints -/
def Tri (h : Heap) : List Value → List D3 → Prop := Paired fun v d => ∃ x t1 t2 t3, v = .ref x ∧ IsTup h x #[.int d.1 t1, .int d.2.1 t2, .int d.2.2 t3]
theorem Tri.keep {h h' : Heap} {l : Addr} (hk : ∀ b o, b ≠ l → h.get? b = some o → h'.get? b = some o) (hl : ∃ o, h.get? l = some o ∧ o.cls = .type "list") {vs : List Value} {ds : List D3} (t : Tri h vs ds) : Tri h' vs ds := by
  refine Paired.mapP t ?_
  rintro v d ⟨x, t1, t2, t3, rfl, o, g, cc, n, dd⟩
  refine ⟨x, t1, t2, t3, rfl, o, hk x o ?_ g, cc, n, dd⟩
  rintro rfl
  obtain ⟨o', g', c'⟩ := hl
  rw [g] at g'
  cases g'
  exact absurd (cc.symm.trans c') (by simp)
theorem Tri.firsts {h : Heap} : ∀ {vs : List Value} {ds : List D3}, Tri h vs ds → ∃ fs, KatTups h vs fs ∧ fs.length = vs.length ∧ ∀ v ∈ fs, ∃ i t, v = .int i t
  | _, _, .nil => ⟨[], KatTups.nil, rfl, (fun _ z => nomatch z)⟩
  | _, _, .cons ⟨x, t1, t2, t3, e, o, g, cc, n, dd⟩ t => by
    subst e
    obtain ⟨fs, k, l, z⟩ := Tri.firsts t
    refine ⟨_, KatTups.cons (f := .int _ t1) g cc dd rfl k, congrArg Nat.succ l, fun v hv => ?_⟩
    rcases List.mem_cons.mp hv with rfl | hv
    · exact ⟨_, _, rfl⟩
    · exact z v hv
theorem tri_lt {vs : List Value} {ds : List D3} (t : Tri s.heap vs ds) {i j : Nat} (hi : i < vs.length) (hj : j < vs.length) {C : Bool → Shared → Prop} (h : C (ltB (ds.getD i (0, 0, 0)) (ds.getD j (0, 0, 0))) s) : kas_ask prog w A (tuples' true) vs i j C s := by
  obtain ⟨d, gd, x, t1, t2, t3, ex, hx⟩ := Paired.getL t (List.getElem?_eq_getElem hi)
  obtain ⟨e, ge, y, u1, u2, u3, ey, hy⟩ := Paired.getL t (List.getElem?_eq_getElem hj)
  unfold kas_ask
  rw [List.getD_eq_getElem?_getD, List.getElem?_eq_getElem hi, List.getD_eq_getElem?_getD, List.getElem?_eq_getElem hj]
  show wpAny _ _ (keyLt' _ vs[i] vs[j]) _ _ _
  rw [ex, ey]
  refine lt_ints3 hx hy ?_
  rw [List.getD_eq_getElem?_getD, List.getD_eq_getElem?_getD, gd, ge] at h
  exact h
end
/-! ### the rule -/
theorem vals_cons {x : V} {xs : List V} {us : List Value} (h : Vals (x :: xs) us) : ∃ u r, us = u :: r ∧ RelV x u ∧ Vals xs r := by
  cases h with
  | cons a b => exact ⟨_, _, rfl, a, b⟩
theorem pick_perm {n : Nat} {p : Array Nat} (P : Prm n p) {α : Type} (xs : List α) (d : α) (hn : xs.length = n) : (p.toList.map fun i => xs.getD i d).Perm xs := by
  have e : (List.range n).map (fun i => xs.getD i d) = xs := by
    apply List.ext_getElem?
    intro i
    rw [List.getElem?_map]
    by_cases hi : i < n
    · rw [List.getElem?_range hi, List.getElem?_eq_getElem (by omega), Option.map_some, List.getD_eq_getElem?_getD, List.getElem?_eq_getElem (by omega)]; rfl
    · rw [List.getElem?_eq_none (by rw [List.length_range]; omega), List.getElem?_eq_none (by omega)]; rfl
  have q : p.toList.Perm (List.range n) := by
    have := Array.Perm.toList P
    simpa using this
  have := q.map fun i => xs.getD i d
  rwa [e] at this
theorem pick_paired {α β : Type} {F : α → β → Prop} {xs : List α} {ys : List β} (pr : Paired F xs ys) (a : α) (b : β) : ∀ (ix : List Nat), (∀ i ∈ ix, i < xs.length) → Paired F (ix.map fun i => xs.getD i a) (ix.map fun i => ys.getD i b)
  | [], _ => .nil
  | i :: ix, h => by
    have hi := h i List.mem_cons_self
    obtain ⟨y, gy, f⟩ := Paired.getL pr (List.getElem?_eq_getElem hi)
    refine .cons ?_ (pick_paired pr a b ix fun j hj => h j (List.mem_cons_of_mem _ hj))
    show F (xs.getD i a) (ys.getD i b)
    rw [List.getD_eq_getElem?_getD, List.getElem?_eq_getElem hi, List.getD_eq_getElem?_getD, gy]
    exact f
theorem Inv.tri {X : Cx} {pins : List (Addr × Obj)} {σ : St} {H : Hp} {s : Shared} (I : Inv X pins σ H s) : ∀ {vs : List V} {its : List Value} {ds : List D3}, Vals vs its → Paired (T3 H) vs ds → Tri s.heap its ds
  | _, _, _, .nil, .nil => .nil
  | _, _, _, .cons r1 r2, .cons p1 p2 => by
    refine .cons ?_ (Inv.tri I r2 p2)
    obtain ⟨x, e, ex⟩ := p1
    subst e
    have e2 := r1
    unfold RelV at e2
    subst e2
    obtain ⟨_, tv, trv, tup⟩ := I.hok x _ ex
    unfold tupV at trv
    obtain ⟨u1, r1, e1, q1, trv⟩ := vals_cons trv
    obtain ⟨u2, r2, e2, q2, trv⟩ := vals_cons trv
    obtain ⟨u3, r3, e3, q3, trv⟩ := vals_cons trv
    cases trv
    obtain ⟨t1, rfl⟩ := q1
    obtain ⟨t2, rfl⟩ := q2
    obtain ⟨t3, rfl⟩ := q3
    subst e3 e2 e1
    exact ⟨x, t1, t2, t3, rfl, tup⟩
end L2

end

section
namespace L2
open PySem PySem.Spec PyProof.Rows

/-! ### what equals a thing that is told as a tree -/
open Classical in
noncomputable def eR (h : Heap) (dx : PyData) (y : Value) : Bool := decide (∃ d as, Reads h y d as ∧ d.canLay0 = true ∧ PyData.eqv d dx = true)
theorem eR_eq {h : Heap} {dx d : PyData} {y : Value} {as : List Addr} (r : Reads h y d as) (hl : d.canLay0 = true) : eR h dx y = PyData.eqv d dx := by
  unfold eR
  cases e : PyData.eqv d dx with
  | true => exact @decide_eq_true _ (Classical.propDecidable _) ⟨d, as, r, hl, e⟩
  | false =>
    refine @decide_eq_false _ (Classical.propDecidable _) ?_
    rintro ⟨d', as', r', hl', e'⟩
    rw [SeqAt.Reads.unique d d' _ _ _ hl r r', e'] at e
    cases e
theorem any_eR {h : Heap} {dx : PyData} : ∀ {vs : List Value} {ds : List PyData} {as : List Addr}, ReadsAll h vs ds as → PyData.canLayAll0 ds = true → vs.any (eR h dx) = ds.any fun d => PyData.eqv d dx
  | _, _, _, .nil, _ => rfl
  | _, _, _, .cons (d := d) (ds := ds) r rs, hl => by
    have hl' : d.canLay0 = true ∧ PyData.canLayAll0 ds = true := by simpa [PyData.canLayAll0] using hl
    show (eR h dx _ || _) = (PyData.eqv d dx || _)
    rw [eR_eq r hl'.1, any_eR rs hl'.2]
theorem reads_mem {h : Heap} : ∀ {vs : List Value} {ds : List PyData} {as : List Addr}, ReadsAll h vs ds as → PyData.canLayAll0 ds = true → ∀ v ∈ vs, ∃ d as', Reads h v d as' ∧ d.canLay0 = true
  | _, _, _, .nil, _, v, hv => by cases hv
  | _, _, _, .cons (d := d) (ds := ds) r rs, hl, v, hv => by
    have hl' : d.canLay0 = true ∧ PyData.canLayAll0 ds = true := by simpa [PyData.canLayAll0] using hl
    rcases List.mem_cons.mp hv with rfl | hv
    · exact ⟨d, _, r, hl'.1⟩
    · exact reads_mem rs hl'.2 v hv
section
variable {A : Around} {s : Shared}
theorem eqAt_eR {dx d : PyData} {x y : Value} {as bs : List Addr} (ry : Reads s.heap y d as) (hd : d.canLay0 = true) (rx : Reads s.heap x dx bs) (hx : dx.canLay0 = true) (hu : A.units + dx.depth < cLine) : SeqAt.EqAt A s y x (eR s.heap dx y) := by
  rw [eR_eq ry hd]
  exact SeqAt.eqAt_reads d dx A s y x _ _ ry rx hd hx (by omega)
end
theorem in1_units {A : Around} : A.in1.units ≤ A.units + 1 := by
  show A.units + 1 ≤ A.units + 1
  exact Nat.le_refl _
def rInD (neg : Bool) : R2 := fun x y H Q => ∃ d ds, Dat H x d ∧ Dat H y (.list ds) ∧ d.depth ≤ 60 ∧ Q (.bl (if neg then !ds.any (fun e => PyData.eqv e d) else ds.any fun e => PyData.eqv e d)) H
theorem op_notInD {X : Cx} (hu : X.A.units + 64 < cLine) : OpR X (compareOp .NotIn) (rInD true) := by
  intro pins s σ H x y v u Q I rx ry h
  obtain ⟨d, ds, hd, he, dp, q⟩ := h
  obtain ⟨as, r1⟩ := I.dat d hd rx
  cases he with
  | lst e h =>
    have ry' : u = _ := ry
    subst ry'
    obtain ⟨_, its, n, rv, g⟩ := I.hok _ _ e
    obtain ⟨bs, r2⟩ := I.datAll ds h rv
    have hl := DatAll.lay ds h
    refine SeqAt.notIn_listAt (eR s.heap d) ⟨_, g, rfl, _, rfl⟩ (fun w hw => ?_) ⟨.bl _, H, I, rfl, ?_⟩
    · obtain ⟨dw, _, rw', hw'⟩ := reads_mem r2 hl w (by simpa using hw)
      have := in1_units (A := X.A)
      exact eqAt_eR rw' hw' r1 (Dat.lay d hd) (by omega)
    · rw [show its.toArray.any (eR s.heap d) = its.any (eR s.heap d) by simp, any_eR r2 hl]
      exact q
theorem any_deeds (ds : List D3) (d : D3) : (ds.map dD).any (fun e => PyData.eqv e (dD d)) = decide (d ∈ ds) := by
  rw [List.any_map]
  by_cases h : d ∈ ds
  · rw [decide_eq_true h]
    exact List.any_eq_true.mpr ⟨d, h, (enc_dD.inj d d).mpr rfl⟩
  · rw [decide_eq_false h]
    refine List.any_eq_false.mpr fun e he => ?_
    intro z
    have : e = d := (enc_dD.inj e d).mp z
    exact h (this ▸ he)

/-! ### xs.remove(d) -/
section
variable {X : Cx}
end
end L2

end

section
namespace L2
open PySem PySem.Spec PyProof.Rows

/-! ### rows: lists of lists of deeds -/
def Rows (H : Hp) (bs : List Addr) (rs : List (List D3)) : Prop := Paired (LD H) bs rs
theorem LD.wr {H : Hp} {b l : Addr} {r : List D3} {xs : List V} {o : HO} (hne : b ≠ l) (hl : H l = some (.lst xs)) (h : LD H b r) : LD (upd H l o) b r := by
  obtain ⟨vs, e, p⟩ := h
  exact ⟨vs, by rw [upd_ne hne]; exact e, Paired.mapP p fun _ _ z => z.wr hl⟩
theorem Rows.same {H H' : Hp} {bs : List Addr} {rs : List (List D3)} (S : Same H H') (h : Rows H bs rs) : Rows H' bs rs := Paired.mapP h fun _ _ z => z.same S
theorem Rows.wr {H : Hp} {l : Addr} {xs : List V} {o : HO} (hl : H l = some (.lst xs)) : ∀ {bs : List Addr} {rs : List (List D3)}, l ∉ bs → Rows H bs rs → Rows (upd H l o) bs rs
  | _, _, _, .nil => .nil
  | b :: bs, _, hn, .cons r t => .cons (r.wr (fun z => hn (by rw [z]; exact List.mem_cons_self)) hl) (Rows.wr hl (fun z => hn (List.mem_cons_of_mem _ z)) t)
theorem Rows.set {H : Hp} {b : Addr} {xs : List V} {o : HO} {r' : List D3} (hb : H b = some (.lst xs)) (h' : LD (upd H b o) b r') : ∀ {bs : List Addr} {rs : List (List D3)} {k : Nat}, bs.Nodup → bs[k]? = some b → Rows H bs rs → Rows (upd H b o) bs (rs.set k r')
  | _, _, _, _, e, .nil => by simp at e
  | c :: bs, _, 0, nd, e, .cons r t => by
    simp at e; subst e
    exact .cons h' (Rows.wr hb (List.nodup_cons.mp nd).1 t)
  | c :: bs, _, k + 1, nd, e, .cons r t => by
    have e' : bs[k]? = some b := by simpa using e
    refine .cons (r.wr (fun z => (List.nodup_cons.mp nd).1 (by rw [z]; exact List.mem_of_getElem? e')) hb) (Rows.set hb h' (List.nodup_cons.mp nd).2 e' t)
theorem Rows.dat {H : Hp} : ∀ {bs : List Addr} {rs : List (List D3)}, Rows H bs rs → DatAll H (bs.map V.ref) (rs.map dL)
  | _, _, .nil => .nil
  | _, _, .cons r t => .cons r.dat (Rows.dat t)
def dR (rs : List (List D3)) : PyData := .list (rs.map dL)
theorem enc_dR : Enc dR 3 := enc_list enc_dL
theorem Rows.dat' {H : Hp} {a : Addr} {bs : List Addr} {rs : List (List D3)} (e : H a = some (.lst (bs.map V.ref))) (h : Rows H bs rs) : Dat H (.ref a) (dR rs) := .lst e h.dat
/-- a list of new lists of deeds is made, item by item -/
theorem comp_rows {K : PySem.W.Frag} {js : List Nat} {σ : St} {te : TE} {H : Hp} {a : Addr} {Q : VK} (xs : List V) (rs : List (List D3)) (hlen : xs.length = rs.length) (hz : xs.length < sizeLine) (hS : ∀ H', Same H H' → SqL K H' a xs)
    (hte : ∀ (i : Nat) x r, xs[i]? = some x → rs[i]? = some r → ∀ H' Q', Same H H' → (∀ b ws, H' b = none → Paired (T3 H') ws r → Q' (.ref b) (upd H' b (.lst ws))) → te ((stC 1 js σ).set 0 (some x)) H' Q')
    (q : ∀ D bs H', Same H H' → H D = none → H' D = some (.lst (bs.map V.ref)) → Rows H' bs rs → (∀ b ∈ bs, H b = none ∧ b ≠ D) → bs.Nodup → Q (.ref D) H') : LoopC 1 js σ (gName 0) tYes te (Itl K a) H Q := by
  refine comp_list (xs := xs) (fun D i ys H' => Same H H' ∧ ∃ bs, ys = bs.map V.ref ∧ H' D = some (.lst ys) ∧ Rows H' bs (rs.take i) ∧ (∀ b ∈ bs, H b = none ∧ b ≠ D) ∧ bs.Nodup) hz (fun D hD => ⟨same_new hD _, [], rfl, upd_same, .nil, (fun _ z => nomatch z), .nil⟩) (fun D i ys H' hD hi h => ?_) (fun D i x ys H' hD hx h => ?_) fun D ys H' hD h => ?_
  · obtain ⟨S, bs, rfl, hl, p, _⟩ := h
    refine ⟨hS H' S, hl, ?_⟩
    rw [List.length_map, Paired.length p, List.length_take]; omega
  · obtain ⟨S, bs, rfl, hl, p, fr, nd⟩ := h
    have hi : i < xs.length := (List.getElem?_eq_some_iff.mp hx).1
    have hb : rs[i]? = some rs[i] := List.getElem?_eq_getElem (by omega)
    refine ⟨drop_set0 _ _, hte i x _ hx hb H' _ S fun b ws hb0 pw => ?_⟩
    have hbD : b ≠ D := Ne.symm (ne_of_none hl hb0)
    have nb : b ∉ bs := fun z => by
      obtain ⟨k, hk⟩ := List.getElem?_of_mem z
      obtain ⟨r, _, vs, e, _⟩ := Paired.getL p hk
      rw [hb0] at e; cases e
    refine ⟨new_at hb0 hl, (S.new hb0 _).wr hD _, bs ++ [b], by rw [List.map_append]; rfl, upd_same, ?_, fun c hc => ?_, ?_⟩
    · rw [List.take_add_one, hb]
      have Dn : D ∉ bs := fun z => (fr D z).2 rfl
      refine Paired.app (Rows.wr (new_at hb0 hl) Dn (Rows.same (same_new hb0 _) p)) (.cons (LD.wr hbD (new_at hb0 hl) ⟨ws, upd_same, stab_T3.list (same_new hb0 _) pw⟩) .nil)
    · rcases List.mem_append.mp hc with z | z
      · exact fr c z
      · rw [List.mem_singleton.mp z]; exact ⟨S.free hb0, hbD⟩
    · refine List.nodup_append.mpr ⟨nd, by simp, fun c hc d hd => ?_⟩
      rw [List.mem_singleton.mp hd]
      rintro rfl
      exact nb hc
  · obtain ⟨S, bs, rfl, hl, p, fr, nd⟩ := h
    rw [hlen, List.take_length] at p
    exact q D bs H' S hD hl p fr nd
theorem comp_empties {js : List Nat} {σ : St} {H : Hp} {Q : VK} {lo : Int} (n : Nat) (hz : n < sizeLine)
    (q : ∀ D bs H', Same H H' → H D = none → H' D = some (.lst (bs.map V.ref)) → Rows H' bs (List.replicate n []) → (∀ b ∈ bs, H b = none ∧ b ≠ D) → bs.Nodup → Q (.ref D) H') : LoopC 1 js σ (gName 0) tYes (tLst tNil) (Itr lo n) H Q := by
  refine comp_range (k := n) (fun D i ys H' => Same H H' ∧ ∃ bs, ys = bs.map V.ref ∧ H' D = some (.lst ys) ∧ Rows H' bs (List.replicate i []) ∧ (∀ b ∈ bs, H b = none ∧ b ≠ D) ∧ bs.Nodup) hz (fun D hD => ⟨same_new hD _, [], rfl, upd_same, .nil, (fun _ z => nomatch z), .nil⟩) (fun D i ys H' hD hi h => ?_) (fun D i ys H' hD hi h => ?_) fun D ys H' hD h => ?_
  · obtain ⟨S, bs, rfl, hl, p, _⟩ := h
    refine ⟨hl, ?_⟩
    rw [List.length_map, Paired.length p, List.length_replicate]; exact Nat.le_refl _
  · obtain ⟨S, bs, rfl, hl, p, fr, nd⟩ := h
    refine ⟨drop_set0 _ _, (by decide : 0 ≤ sizeLine), fun b hb0 => ?_⟩
    have hbD : b ≠ D := Ne.symm (ne_of_none hl hb0)
    have nb : b ∉ bs := fun z => by
      obtain ⟨k, hk⟩ := List.getElem?_of_mem z
      obtain ⟨r, _, vs, e, _⟩ := Paired.getL p hk
      rw [hb0] at e; cases e
    refine ⟨new_at hb0 hl, (S.new hb0 _).wr hD _, bs ++ [b], by rw [List.map_append]; rfl, upd_same, ?_, fun c hc => ?_, ?_⟩
    · rw [List.replicate_succ']
      have Dn : D ∉ bs := fun z => (fr D z).2 rfl
      refine Paired.app (Rows.wr (new_at hb0 hl) Dn (Rows.same (same_new hb0 _) p)) (.cons (LD.wr hbD (new_at hb0 hl) ⟨[], upd_same, .nil⟩) .nil)
    · rcases List.mem_append.mp hc with z | z
      · exact fr c z
      · rw [List.mem_singleton.mp z]; exact ⟨S.free hb0, hbD⟩
    · refine List.nodup_append.mpr ⟨nd, by simp, fun c hc d hd => ?_⟩
      rw [List.mem_singleton.mp hd]
      rintro rfl
      exact nb hc
  · obtain ⟨S, bs, rfl, hl, p, fr, nd⟩ := h
    exact q D bs H' S hD hl p fr nd
/-! ### what the program's defs promise -/
/-- the layers -/
def layF (ds : List D3) : List (List D3) := (rowsOf (hp clashB ds) (nL clashB ds)).map srt
theorem layF_length (ds : List D3) : (layF ds).length = nL clashB ds := by unfold layF; rw [List.length_map, rowsOf_length]
theorem layF_get {ds : List D3} {k : Nat} (h : k < nL clashB ds) : (layF ds)[k]? = some (srt (rowOf (hp clashB ds) k)) := by unfold layF; rw [List.getElem?_map, rowsOf_get h]; rfl
theorem row_length (l : List (D3 × Int)) (k : Nat) : (rowOf l k).length ≤ l.length := by unfold rowOf; rw [List.length_map]; exact List.length_filter_le _ _
theorem nL_le (ds : List D3) : nL clashB ds ≤ ds.length := by
  -- the rows are none of them empty, and hold no more than the diary
  have h : ∀ n, n ≤ nL clashB ds → n ≤ (((hp clashB ds).filter fun p => decide (p.2 < (n : Int))).length) := by
    intro n
    induction n with
    | zero => intro _; exact Nat.zero_le _
    | succ n ih =>
      intro hn
      have i := ih (by omega)
      have ne := row_ne clashB (ds := ds) (k := n) (by omega)
      have key : ((hp clashB ds).filter fun p => decide (p.2 < ((n + 1 : Nat) : Int))).length = ((hp clashB ds).filter fun p => decide (p.2 < (n : Int))).length + (rowOf (hp clashB ds) n).length := by
        unfold rowOf
        rw [List.length_map]
        generalize hp clashB ds = l
        induction l with
        | nil => rfl
        | cons p l ihl =>
          rw [List.filter_cons, List.filter_cons, List.filter_cons]
          by_cases h1 : p.2 < (n : Int)
          · rw [if_pos (decide_eq_true (by omega : p.2 < ((n + 1 : Nat) : Int))), if_pos (decide_eq_true h1), if_neg (by simp; omega)]
            simp only [List.length_cons]
            omega
          · by_cases h3 : p.2 = (n : Int)
            · rw [if_pos (decide_eq_true (by omega : p.2 < ((n + 1 : Nat) : Int))), if_neg (by simpa using h1), if_pos (by simpa using h3)]
              simp only [List.length_cons]
              omega
            · rw [if_neg (by have : ¬ p.2 < ((n + 1 : Nat) : Int) := by omega
                             simpa using this), if_neg (by simpa using h1), if_neg (by simpa using h3)]
              exact ihl
      have pos : 0 < (rowOf (hp clashB ds) n).length := List.length_pos_iff.mpr ne
      omega
  refine Nat.le_trans (h _ (Nat.le_refl _)) ?_
  rw [← hp_length clashB ds]
  exact List.length_filter_le _ _
def ixs (l : List Nat) : List V := l.map fun (p : Nat) => V.int (p : Int)
/-! ### the least -/
/-! ### sorted(ints) -/
end L2

end

section
namespace L2
open PySem PySem.Spec PyProof.Rows
def rNotInD : R2 := fun x y H Q => ∃ d ds, Dat H x d ∧ Dat H y (.list ds) ∧ d.depth ≤ 60 ∧ Q (.bl (!ds.any fun e => PyData.eqv e d)) H
theorem op_nin {X : Cx} (hu : X.A.units + 64 < cLine) : OpR X (compareOp .NotIn) rNotInD := fun pins s σ H x y v u Q I rx ry h => by
  obtain ⟨d, ds, h1, h2, h3, q⟩ := h
  exact op_notInD hu pins s σ H x y v u Q I rx ry ⟨d, ds, h1, h2, h3, q⟩
/-! ### what the law's own defs promise -/
end L2

end

section
open PySem PySem.Spec PyProof.Rows
namespace L2

/-! ### an exception on its way: behind a call -/

section
variable {P : Program} {w : World} {outer : List Env} {H H' : Hp} {s s' : Shared} {a : Addr} {cls a0 : Value} {B : Heap}
end


section
variable {X : Cx} {pins : List (Addr × Obj)} {σ : St} {H : Hp} {s : Shared}


end
end L2

end

section
open PySem PySem.Spec PyProof.Rows
namespace L2

/-! ### raise of an own class -/

section
variable {P : Program} {w : World} {K : PySem.W.Frag} {mg : Str → Option Value} {base : Heap} {N : List Str} {qual : Str} {scope : Scope} {f : Addr} {cd : Value} {A : Around} {outer : List Env} {s₀ : Shared} {H₀ : Hp} {E : XK}
end

section
variable {X : Cx} {x : Str} {C : Addr} {B newId initId : String} {bm : List Value} {e : Expr} {es : List Expr} {t : TA} {E : XK} {np cpos pos : Pos}
end
end L2

end

section
open PySem PySem.Spec PyProof.Rows
namespace L2

/-! ### code that an exception may leave, caught in the same frame -/


section
variable {X : Cx} {k : Nat} {f C : Addr} {fd : FuncData} {ps : List Str} {sp : Sp} {dvs : List V} {ds : List Value} {x : Str} {p pos : Pos} {e : Expr} {es : List Expr} {t : TA} {tx : TEX} {st : Stmt} {sts : List Stmt} {ts us : TSX} {ta : TS}

end

/-! ### the handler -/
section
variable {X : Cx} {pins : List (Addr × Obj)} {σ : St} {H : Hp} {s : Shared}
end
end L2

end

section
open PySem PySem.Spec PyProof.Rows
namespace L2

/-! ### try .. except C as n / except C -/
section
variable {X : Cx} {body : List Stmt} {b₀ : Stmt} {suite : List Stmt} {tb : TSX} {th : TS} {c n : Str} {C : Addr} {i : Nat} {np hpos pos : Pos}
end
end L2

end

section
namespace L2X
open PySem PySem.Spec PySem.W PyProof.Rows

section
variable {prog : Program} {w : World} {A : Around} {E : Value → Shared → Prop} {h : Heap} {g : Array GenState} {d : Drawn} {t : Nat} {os : OsState} {a D : Addr} {o : Obj} {K : Frag}
end
end L2X
namespace L2
open PySem PySem.Spec PyProof.Rows
end L2

end

section
open PySem PySem.Spec PyProof.Rows
namespace L2

/-! ### a def whose calls an exception may leave -/
section
variable {P : Program} {w : World} {K : PySem.W.Frag} {mg : Str → Option Value} {base : Heap}
end

/-! ### a def that is called within an except suite -/
section
variable {P : Program} {w : World} {K : PySem.W.Frag} {mg : Str → Option Value} {base : Heap}
end
section
variable {X : Cx} {k : Nat} {f : Addr} {fd : FuncData} {ps : List Str} {sp : Sp} {dvs : List V} {ds : List Value} {E : XK} {x : Str} {p pos : Pos} {e : Expr} {es : List Expr} {t : TA}
end
end L2

end

section
open PySem PySem.Spec PyProof.Rows
namespace L2

/-! ### a def that may raise, with one default at its end -/
section
variable {X : Cx} {k : Nat} {ps : List Str} {sp : Sp} {d : V} {x : Str} {p pos kpos : Pos} {e ek : Expr} {es : List Expr} {t tk : TA} {tek : TE}
end

theorem iteB {b : Bool} {A B : Prop} (h1 : b = true → B) (h2 : b = false → A) : if (!b) = true then A else B := by
  cases b with
  | true => exact iteF (h1 rfl)
  | false => exact iteT (h2 rfl)
/-! ### what an argument may be -/
section
variable {K : PySem.W.Frag}
end
/-! ### isinstance of a caught exception, as a rule -/
end L2

end

section
namespace L2X
open PySem PySem.W
end L2X
namespace L2
open PySem PySem.Spec PySem.W PyProof.Rows
end L2

end

section
open PySem PySem.Spec PyProof.Rows
namespace L2
/-! ### o.m(..) that an exception may leave -/
section
variable {X : Cx} {k : Nat} {f C : Addr} {fd : FuncData} {ps : List Str} {sp : Sp} {dvs : List V} {ds : List Value} {m : Str} {pos apos : Pos} {e o : Expr} {es : List Expr} {ta : TE} {t : TA}
end
end L2

end

section
open PySem PySem.Spec PyProof.Rows
namespace L2
/-! ### a def that may raise, without defaults -/
section
variable {X : Cx} {k : Nat} {ps : List Str} {sp : Sp} {x : Str} {p pos : Pos} {e : Expr} {es : List Expr} {t : TA}
end
/-! ### slices from a place on -/
theorem cut_from {xs : List V} {m : Int} (h : 0 ≤ m) (h2 : m ≤ xs.length) : cutV xs (some m) none = xs.drop m.toNat := by
  obtain ⟨k, rfl⟩ := Int.eq_ofNat_of_zero_le h
  unfold cutV
  rw [HT.sIx_nat, HT.sIx_none, Int.toNat_natCast, Nat.min_eq_left (by omega)]
  rw [List.take_of_length_le (by rw [List.length_drop]; exact Nat.le_refl _)]
/-- two neighbours have passed one another -/
def swp {α : Type} (xs : List α) (p : Nat) (y x : α) : List α := xs.take p ++ [y, x] ++ xs.drop (p + 2)
theorem swp_length {α : Type} {xs : List α} {p : Nat} {y x : α} (h : p + 1 < xs.length) : (swp xs p y x).length = xs.length := by
  unfold swp
  rw [List.length_append, List.length_append, List.length_take, List.length_drop]
  show min p xs.length + 2 + _ = _
  omega
theorem swp_mem {α : Type} {xs : List α} {p : Nat} {y x : α} (hy : y ∈ xs) (hx : x ∈ xs) : ∀ d ∈ swp xs p y x, d ∈ xs := by
  unfold swp
  intro d hd
  rcases List.mem_append.mp hd with hd | hd
  · rcases List.mem_append.mp hd with hd | hd
    · exact List.mem_of_mem_take hd
    · rcases List.mem_cons.mp hd with rfl | hd
      · exact hy
      · rw [List.mem_singleton.mp hd]; exact hx
  · exact List.mem_of_mem_drop hd
end L2

end

section
open PySem PySem.Spec PyProof.Rows
namespace L2
section
variable {X : Cx}
/-! ### sum(a list of ints) -/
/-! ### n.bit_length() -/
/-! ### xs.insert(i, v) -/
/-! ### isinstance(e, (A, B, ..)) of a caught exception -/
end
section
variable {X : Cx}
/-- // by a positive divisor of not too many figures -/
def CDivB (i j : Int) : Prop := 0 < j ∧ j.natAbs.log2 < 9000
theorem op_fdivB : OpR X (binaryOp .FloorDiv) (rI CDivB fun i j => .int (i / j)) := opI fun i j _ _ _ _ _ hc q => by
  have h1 : (0 : Int) < j := hc.1
  exact floordiv_int (by omega) (by rw [Int.fdiv_eq_ediv_of_nonneg i (by omega)]; exact q) (.inl (PyProof.noPylong_of_log2 hc.2))
end
end L2

end

section
open PySem PySem.Spec PyProof.Rows
namespace L2
/-! ### done -/
section
variable {α : Type} (nm : α → Int) (lk ch : α → Nat → Bool) (n : Nat)
variable {nm lk ch n}
end
/-! ### boxes -/
theorem pow_le_pow {m k : Nat} (hk : m ≤ k) : (2 : Int) ^ m ≤ 2 ^ k := by
  have := Nat.pow_le_pow_right (by decide : 0 < 2) hk
  have e1 : (((2 ^ m : Nat) : Int)) = (2 : Int) ^ m := by simp
  have e2 : (((2 ^ k : Nat) : Int)) = (2 : Int) ^ k := by simp
  omega

/-! ### a diary is done -/
theorem and60 {x y : Int} (hx : R60 x) (hy : R60 y) : R60 (Builtin.bitAnd x y) := by
  unfold R60 at *
  have := and_bd hx.1 hx.2 hy.1
  exact ⟨this.1, this.2.1⟩
theorem getD_all {P : Int → Prop} {l : List Int} (h : ∀ x ∈ l, P x) (h0 : P 0) (k : Nat) : P (l.getD k 0) := by
  rw [List.getD_eq_getElem?_getD]
  by_cases hk : k < l.length
  · rw [List.getElem?_eq_getElem hk]
    exact h _ (List.getElem_mem hk)
  · rw [List.getElem?_eq_none (by omega)]
    exact h0
theorem mul60 {e l : Int} (h : 0 ≤ e ∧ e ≤ 20) (h0 : 0 ≤ l) (h1 : l ≤ 2 ^ 55) : R60 (e * l) := by
  unfold R60
  have a := Int.mul_nonneg h.1 h0
  have b := Int.mul_le_mul h.2 h1 h0 (by decide)
  exact ⟨a, by omega⟩
end L2

end

section
namespace L2X
open PySem PySem.Spec PyProof.Rows
theorem lri_no_len : typeLookup (.type "list_reverseiterator") "__len__" = pure none := by rw [typeLookup_type, builtinLookup_eq_fast]; kernel_rfl
theorem lri_hint : typeLookup (.type "list_reverseiterator") "__length_hint__" = pure (some (.builtin "list_reverseiterator.__length_hint__")) := by rw [typeLookup_type, builtinLookup_eq_fast]; kernel_rfl
section
variable {prog : Program} {w : World} {A : Around} {E : Value → Shared → Prop} {s : Shared}
theorem hint_rev {it l : Addr} {i : Int} {Q : Bool → Shared → Prop} (hit : s.heap.IsRevIter it l i) (h : Q false s) : wpAny (model prog w) A (Builtin.List.listLengthHint (.ref it)) Q E s := by
  unfold Builtin.List.listLengthHint
  refine wpAny_bind (wpAny_specialOf hit.typeIs lri_no_len ?_)
  refine wpAny_ite_split (fun hab => absurd hab (by decide +kernel)) (fun _ => ?_)
  refine wpAny_ite_split (fun hab => absurd hab (by decide)) (fun _ => ?_)
  refine wpAny_bind (wpAny_specialOf hit.typeIs lri_hint ?_)
  generalize hid : ("list_reverseiterator.__length_hint__" : String) = id0
  wp_delta
  rw [show splitId id0 = some ("list_reverseiterator", "__length_hint__") from by subst hid; decide +kernel]
  subst hid
  refine wpAny_bind (wpAny_isInstance (T := "list_reverseiterator") (b := true) hit.typeIs (by rw [isSubtype_type]; kernel_rfl) ?_)
  refine wpAny_ite_split (fun hab => absurd hab (by decide)) (fun _ => ?_)
  refine wpAny_ite_split (fun _ => ?_) (fun hab => absurd (by decide +kernel) hab)
  refine wpAny_ite_split (fun hab => absurd hab (by decide +kernel)) (fun _ => ?_)
  exact wpAny_pure h
variable {R : Result → Shared → Prop}
theorem extend_rev {I l : Addr} {items : Array Value} (hh : A.handled = none) (hit : s.heap.IsRevIter I l ((items.size : Int) - 1)) (hl : s.heap.IsList l items) (hz : items.size ≤ sizeLine) (S : Addr) (res : Value) (c₀ : Nat) (hSI : S ≠ I) (hSl : S ≠ l) (hIl : l ≠ I) (hS : s.heap.get? S = some { cls := .type "list", data := .seq #[] c₀ })
    (hR : ∀ h' tk acc' c', (∀ b o, b ≠ S → b ≠ I → s.heap.get? b = some o → h'.get? b = some o) → h'.get? S = some { cls := .type "list", dict := none, data := .seq acc' c', slots := #[] } →
      ItemsOf (fun i v => items[items.size - 1 - i]? = some v) acc' items.size → R (.ok (.ret res)) { s with heap := h', toks := tk }) :
    wpAny (model prog w) A.in1 (Builtin.List.listExtendWith (.ref S) (.ref I) res)
      (fun fin s' => match fin with | .done f => R (.ok f) s' | .again c' => c'.quiet = true ∧ codeAny (model prog w) A c' R s') (fun e s' => R (.error e) s') s := by
  have W := (Walks.listRev (prog := prog) (w := w) (A := A.in1) hh I l hIl items).toS
  have hSf : S ∉ [I, l] := fun hm => by
    rcases List.mem_cons.mp hm with e | hm
    · exact hSI e
    · exact hSl (List.mem_singleton.mp hm)
  have key : ∀ (h : Heap) (c₁ tk : Nat), h.IsRevIter I l ((items.size : Int) - 1 - ((0 : Nat) : Int)) → h.IsList l items → (∀ b o, b ≠ S → s.heap.get? b = some o → h.get? b = some o) →
      h.get? S = some { cls := .type "list", data := .seq #[] c₁ } → codeAny (model prog w) A (.builtin "list.extend.loop" ⟨[.ref S, .ref I, res], []⟩) R { s with heap := h, toks := tk } := by
    intro h c₁ tk hi hl1 hk hS₁
    refine codeAny_extend_loopS W hz S hSf res items.size 0 _ #[] c₁ rfl (Nat.zero_le _) ⟨Nat.zero_le _, hi, hl1⟩ hS₁ (ItemsOf.nil _) fun s' acc' c' hm hS' hacc => ?_
    rw [Moved.eq_with hm]
    refine hR s'.heap s'.toks acc' c' (fun b o hb hbI e => hm.heap b o (fun hmem => ?_) (hk b o hb e)) hS' hacc
    rcases List.mem_cons.mp hmem with e' | hmem
    · exact hb e'
    · exact hbI (List.mem_singleton.mp hmem)
  unfold Builtin.List.listExtendWith
  refine wpAny_bind (wpAny_typeOf hit.typeIs ?_)
  have h1 : Builtin.List.listSameRef (.ref S) (.ref I) = false := by simp [Builtin.List.listSameRef, hSI]
  have h2 : (Value.type "list_reverseiterator" == Value.type "list") = false := by decide
  have h3 : (Value.type "list_reverseiterator" == Value.type "tuple") = false := by decide
  simp only [h1, h2, h3, Bool.or_false, Bool.false_eq_true, if_false]
  refine wpAny_bind (wpAny_pyIter_revIter hit ?_)
  refine wpAny_bind (wpAny_holding (hint_rev hit ?_))
  have hi0 : s.heap.IsRevIter I l ((items.size : Int) - 1 - ((0 : Nat) : Int)) := by simpa using hit
  refine wpAny_ite_split (fun _ => ?_) (fun _ => wpAny_pure ⟨plainId_quiet F.plain_extend_loop _, key _ c₀ _ hi0 hl (fun b o _ e => e) hS⟩)
  refine wpAny_bind (wpAny_rule ?_)
  refine wpAny_bind ?_
  show wpAny _ _ (updateSeq S (·.push .none) >>= fun _ => updateSeq S (·.pop)) _ _ _
  refine wpAny_bind (wpAny_updateSeq hS rfl ?_)
  have hS₂ := Heap.get?_update_self (Obj.mapSeq (·.push Value.none)) hS rfl
  refine wpAny_updateSeq (hz := by seq_fits) hS₂ rfl ?_
  have hS₃ := Heap.get?_update_self (Obj.mapSeq (·.pop)) hS₂ rfl
  have oth : ∀ b o, b ≠ S → s.heap.get? b = some o → ((s.heap.update S (Obj.mapSeq (·.push Value.none))).update S (Obj.mapSeq (·.pop))).get? b = some o :=
    fun b o hb e => (Heap.get?_update_other _ _ (Ne.symm hb)).trans ((Heap.get?_update_other _ _ (Ne.symm hb)).trans e)
  exact wpAny_pure ⟨plainId_quiet F.plain_extend_loop _, key _ _ _ (hi0.at fun o e => oth _ _ (Ne.symm hSI) e) (hl.at fun o e => oth _ _ (Ne.symm hSl) e) oth hS₃⟩
theorem list_init_rev {I l : Addr} {items : Array Value} (hh : A.handled = none) (hit : s.heap.IsRevIter I l ((items.size : Int) - 1)) (hl : s.heap.IsList l items) (hz : items.size ≤ sizeLine) (S : Addr) (hSI : S ≠ I) (hSl : S ≠ l) (hIl : l ≠ I) (hS : s.heap.get? S = some { cls := .type "list", data := .seq #[] })
    (hR : ∀ h' tk acc' c', (∀ b o, b ≠ S → b ≠ I → s.heap.get? b = some o → h'.get? b = some o) → h'.get? S = some { cls := .type "list", dict := none, data := .seq acc' c', slots := #[] } →
      ItemsOf (fun i v => items[items.size - 1 - i]? = some v) acc' items.size → R (.ok (.ret .none)) { s with heap := h', toks := tk }) :
    wpAny (model prog w) A.in1 (Builtin.«list.__init__» ⟨[.ref S, .ref I], []⟩)
      (fun fin s' => match fin with | .done f => R (.ok f) s' | .again c' => c'.quiet = true ∧ codeAny (model prog w) A c' R s') (fun e s' => R (.error e) s') s := by
  show wpAny _ A.in1 (do let old ← Builtin.List.listItems (.ref S); Builtin.List.listUpdate (.ref S) (fun _ => #[]); letGo old.toList.reverse; Builtin.List.listExtendWith (.ref S) (.ref I) .none) _ _ s
  refine wpAny_bind ?_
  unfold Builtin.List.listItems
  refine wpAny_bind (wpAny_seqItems hS rfl (wpAny_pure ?_))
  show wpAny _ A.in1 (updateSeq S (fun _ => #[]) >>= fun _ => letGo (#[] : Array Value).toList.reverse >>= fun _ => Builtin.List.listExtendWith (.ref S) (.ref I) .none) _ _ s
  refine wpAny_bind (wpAny_updateSeq hS rfl ?_)
  have hS₂ := Heap.get?_update_self (Obj.mapSeq (fun _ => (#[] : Array Value))) hS rfl
  have oth : ∀ b o, b ≠ S → s.heap.get? b = some o → (s.heap.update S (Obj.mapSeq (fun _ => (#[] : Array Value)))).get? b = some o :=
    fun b o hb e => (Heap.get?_update_other _ _ (Ne.symm hb)).trans e
  refine wpAny_bind (wpAny_letGo ?_)
  exact extend_rev hh (hit.at fun o e => oth _ _ (Ne.symm hSI) e) (hl.at fun o e => oth _ _ (Ne.symm hSl) e) hz S .none _ hSI hSl hIl hS₂ fun h' tk acc' c' kp e i => hR h' tk acc' c' (fun b o hb hbI q => kp b o hb hbI (oth b o hb q)) e i
theorem call_list_rev {Q : Value → Shared → Prop} {I l : Addr} {items : Array Value} (hh : A.handled = none) (hit : s.heap.IsRevIter I l ((items.size : Int) - 1)) (hl : s.heap.IsList l items) (hz : items.size ≤ sizeLine) (hIl : l ≠ I)
    (hQ : ∀ h' tk acc' c', (∀ b o, b ≠ I → s.heap.get? b = some o → h'.get? b = some o) → h'.get? s.heap.objs.size = some { cls := .type "list", dict := none, data := .seq acc' c', slots := #[] } →
      ItemsOf (fun i v => items[items.size - 1 - i]? = some v) acc' items.size → Q (.ref s.heap.objs.size) { s with heap := h', toks := tk }) :
    wpAny (model prog w) A (call (.type "list") [.ref I]) Q E s := by
  refine callType_codes (Q₁ := fun obj s₁ => obj = .ref s.heap.objs.size ∧ s₁ = { s with heap := s.heap.push { cls := .type "list", data := .seq #[] } }) F.called_list (F.typeCall_list_1 _) F.entry_list_init
    (code_list_new _ ⟨rfl, rfl⟩) fun obj s₁ h₁ => ?_
  obtain ⟨rfl, rfl⟩ := h₁
  have hS : (s.heap.push { cls := .type "list", data := .seq #[] }).get? s.heap.objs.size = some { cls := .type "list", data := .seq #[] } := Heap.get?_push_size _ rfl
  have lI : I < s.heap.objs.size := by obtain ⟨o, e, _⟩ := id hit; exact Heap.lt_size e
  have ll : l < s.heap.objs.size := by obtain ⟨o, e, _⟩ := id hl; exact Heap.lt_size e
  refine ⟨⟨_, hS, rfl⟩, F.args_list_init_2 _ _, list_init_rev (A := A.in1) hh (hit.at fun o e => Heap.get?_push_of_some _ e) (hl.push _) hz _ (Nat.ne_of_gt lI) (Nat.ne_of_gt ll) hIl hS fun h' tk acc' c' kp e i => ?_⟩
  exact ⟨rfl, hQ h' tk acc' c' (fun b o hb q => kp b o (Nat.ne_of_lt (Heap.lt_size q)) hb (Heap.get?_push_of_some _ q)) e i⟩
end
end L2X
namespace L2
open PySem PySem.Spec PyProof.Rows
/-! ### list(reversed(e)), e a list -/
def tRev (K : PySem.W.Frag) (te : TE) : TE := fun σ H Q => te σ H fun x H1 => ∃ a xs, x = .ref a ∧ SqL K H1 a xs ∧ ∀ l, H1 l = none → Q (.ref l) (upd H1 l (.lst xs.reverse))
theorem vals_rev {xs : List V} {us : List Value} (h : Vals xs us) : Vals xs.reverse us.reverse := by
  induction h with
  | nil => exact .nil
  | cons a _ ih =>
    rw [List.reverse_cons, List.reverse_cons]
    exact ih.append (.cons a .nil)
theorem bt_reversed : bootBuiltins "reversed" = some (.type "reversed") := boot_reversed
theorem pe_listrev {X : Cx} (K : PySem.W.Frag) {e : Expr} {te : TE} {p p2 pos pos2 : Pos} (hc : X.calm = true) (he : PE X e te) (hg1 : Gl X "list") (hm1 : X.mg "list" = none) (hg2 : Gl X "reversed") (hm2 : X.mg "reversed" = none)
    (hs : starEach [e] X.env = (false, eval e X.env) :: starEach [] X.env := by rfl) (hp : (backTo pos2 (starEach [] X.env)).any (·.1) = false := by rfl)
    (hs' : starEach [.Call (.Name "reversed" p2) [e] [] pos2] X.env = (false, eval (.Call (.Name "reversed" p2) [e] [] pos2) X.env) :: starEach [] X.env := by rfl) (hp' : (backTo pos (starEach [] X.env)).any (·.1) = false := by rfl) (hK : X.K = K := by rfl) :
    PE X (.Call (.Name "list" p) [.Call (.Name "reversed" p2) [e] [] pos2] [] pos) (tRev K te) := by
  subst hK
  intro pins s σ H Q I h
  refine wpAny_Call_Name_kw (ld_blt I hg1 hm1 bt_list ?_ (by decide) (by decide))
  refine PyProof.Rows.callWith_type1 ?_ hs' hp'
  rw [hs']
  show wpAny _ _ (spliced ((false, eval (.Call (.Name "reversed" p2) [e] [] pos2) X.env) :: backTo pos (starEach [] X.env))) _ _ s
  refine Calls.spliced_cons ?_
  refine wpAny_Call_Name_kw (ld_blt I hg2 hm2 bt_reversed ?_ (by decide) (by decide))
  refine PyProof.Rows.callWith_type1 ?_ hs hp
  rw [hs]
  show wpAny _ _ (spliced ((false, eval e X.env) :: backTo pos2 (starEach [] X.env))) _ _ s
  refine Calls.spliced_cons (thn (he pins s σ H _ I h) fun u s1 ⟨x, H1, I1, r1, a, xs, ex, hS, q⟩ => ?_)
  subst ex
  obtain rfl : u = Value.ref a := r1
  refine Calls.spliced_nil ?_
  obtain ⟨its, rv, pl, hz⟩ := I1.list hS
  have li := pl.isList
  have la : a < s1.heap.objs.size := by obtain ⟨o, e, _⟩ := id li; exact Heap.lt_size e
  refine call_reversed_list li ?_
  refine Calls.spliced_nil ?_
  have I2 : Inv X pins σ H1 { s1 with heap := s1.heap.push (revObj a ((its.toArray.size : Int) - 1)) } := I1.kept (t' := s1.toks) fun b o e => Heap.get?_push_of_some _ e
  have hl2 := li.push (revObj a ((its.toArray.size : Int) - 1))
  have len := rv.length
  refine L2X.call_list_rev (s := { s1 with heap := s1.heap.push (revObj a ((its.toArray.size : Int) - 1)) }) (items := its.toArray) (I.ok.hd hc) ⟨_, Heap.get?_push_size _ rfl, rfl, rfl⟩ hl2 (by rw [List.size_toArray]; omega) (Nat.ne_of_lt la) fun h' tk acc' c' kp e i => ?_
  have hsz : ((s1.heap.push (revObj a ((its.toArray.size : Int) - 1))).objs.size) = s1.heap.objs.size + 1 := Heap.size_push _ _
  have ea : acc' = its.reverse.toArray := by
    apply Array.toList_inj.mp
    apply List.ext_getElem?
    intro j
    have i1 : acc'.toList.length = its.length := by have := i.1; simpa using this
    by_cases hj : j < its.length
    · have hj' : j < acc'.size := by have := i.1; have e2 : its.toArray.size = its.length := List.size_toArray; omega
      have g := i.2 j acc'[j] (by simp [hj'])
      rw [List.size_toArray] at g
      have g' : its[its.length - 1 - j]? = some acc'[j] := by simpa using g
      rw [List.getElem?_reverse hj, g']
      simp [hj']
    · rw [List.getElem?_eq_none (by omega), List.getElem?_eq_none (by simp; omega)]
  have kp0 : ∀ b o, s1.heap.get? b = some o → h'.get? b = some o := fun b o q => kp b o (Nat.ne_of_lt (Heap.lt_size q)) (Heap.get?_push_of_some _ q)
  refine ⟨.ref _, _, I1.laid (t' := tk) kp0 (by rw [hsz]; exact Nat.le_succ _) (show ObjOk X.prog X.w _ h' _ (.lst xs.reverse) from ⟨by rw [List.length_reverse]; exact hz, its.reverse, c', vals_rev rv, by rw [← ea]; exact e⟩), rfl, q _ (I1.hok.fresh (by rw [hsz]; exact Nat.le_succ _))⟩
end L2

end

section
namespace L2
open PySem PySem.Spec PyProof.Rows PySem.W
/-! ### sorted of pairs of a deed and a number -/
section
variable {prog : Program} {w : World} {A : Around} {E : Value → Shared → Prop} {s : Shared}
end
/-! ### the rule -/
end L2

end

section
namespace L2
open PySem PySem.Spec PyProof.Rows
/-! ### alike diaries do the same -/
theorem rows_lk {ds : List D3} {rs : List (List D3)} (R : RowsOk clashB ds rs) : Lk clashB ds rs.flatten := by
  have P := rows_perm clashB clash_comm R
  have Q : ds.Perm rs.flatten := by
    have := P.map (·.1)
    have e : ∀ l : List D3, (hp clashB l).map (·.1) = l := fun l => hp_fst clashB l
    rwa [e, e] at this
  obtain ⟨f, M⟩ := mate_ex (xs := ds) (ys := rs.flatten) fun a => Nat.le_of_eq (@List.Perm.count_eq D3 instBEqOfDecidableEq _ _ Q a)
  exact Kept.lk clashB M Q.length_eq (perm_kept clashB clash_comm P M)
end L2

end

section
open PySem PySem.Spec PyProof.Rows
namespace L2
section
variable {X : Cx}
/-! ### any(a list of truths) -/
theorem any_range (bs : List Bool) : (List.range bs.length).any (fun i => bs.getD i false) = bs.any id := by
  have e : bs = (List.range bs.length).map fun i => bs.getD i false := by
    apply List.ext_getElem?
    intro i
    rw [List.getElem?_map]
    by_cases hi : i < bs.length
    · rw [List.getElem?_range hi, List.getElem?_eq_getElem hi, Option.map_some, List.getD_eq_getElem?_getD, List.getElem?_eq_getElem hi]; rfl
    · rw [List.getElem?_eq_none (by omega), List.getElem?_eq_none (by rw [List.length_range]; omega)]; rfl
  conv => rhs; rw [e, List.any_map]
  rfl
def rAny (K : PySem.W.Frag) : List V → Hp → VK → Prop := fun xs H Q => ∃ (l : Addr) (bs : List Bool), xs = [.ref l] ∧ SqL K H l (bs.map V.bl) ∧ Q (.bl (bs.any id)) H
theorem anyQ (K : PySem.W.Frag) (hc : X.calm = true) (hK : X.K = K := by rfl) : CallR X (.builtin "any") (rAny K) := by
  subst hK
  intro pins s σ H xs us Q I r h
  obtain ⟨l, bs, rfl, hS, q⟩ := h
  obtain ⟨u, rfl, ru⟩ := vals1 r
  cases ru
  obtain ⟨its, rv, p, hz⟩ := I.list hS
  have li := p.isList
  have hlt : l < s.heap.objs.size := by obtain ⟨_, e, _⟩ := id li; exact Heap.lt_size e
  have len : bs.length = its.length := by have := rv.length; rwa [List.length_map] at this
  refine call_any_walk (wpAny_pyIter_list li ?_)
  refine ⟨_, _, _, _, _, _, fun i => bs.getD i false, rfl, Walks.list (A := X.A.in1) (I.ok.hd hc) _ l (Nat.ne_of_lt hlt) its.toArray, ⟨⟨_, Heap.get?_push_size _ rfl, rfl, rfl⟩, li.push _⟩, fun i v s' Q' E' hv hq => ?_, fun h' tk hk => ?_⟩
  · have hv' : its[i]? = some v := by simpa using hv
    have hi : i < its.length := (List.getElem?_eq_some_iff.mp hv').1
    obtain ⟨u0, hu, e0⟩ := rv.get (i := i) (x := .bl (bs.getD i false)) (by rw [List.getElem?_map, List.getD_eq_getElem?_getD, List.getElem?_eq_getElem (by omega : i < bs.length)]; rfl)
    rw [hv'] at hu
    cases hu
    have e1 : v = Value.bool (bs.getD i false) := e0
    subst e1
    exact wpAny_truthy_bool hq
  · have e : (List.range its.toArray.size).any (fun i => bs.getD i false) = bs.any id := by
      rw [show its.toArray.size = bs.length by rw [List.size_toArray]; omega]
      exact any_range bs
    rw [e]
    refine ⟨.bl _, H, I.kept fun b o eb => ?_, rfl, q⟩
    refine hk b o (fun hm => ?_) (Heap.get?_push_of_some _ eb)
    rcases List.mem_cons.mp hm with e1 | hm
    · exact absurd (e1 ▸ Heap.lt_size eb) (Nat.lt_irrefl _)
    · cases hm
theorem bt_any : bootBuiltins "any" = some (.builtin "any") := by decide +kernel
/-! ### xs.index(d), a list of deeds -/
def rIndexD : V → List V → Hp → VK → Prop := fun x vs H Q => ∃ (l : Addr) (ds : List D3) (d : D3) (y : V) (j : Nat), x = .ref l ∧ vs = [y] ∧ LD H l ds ∧ T3 H y d ∧ ds[j]? = some d ∧ (∀ m e, m < j → ds[m]? = some e → e ≠ d) ∧ Q (.int (j : Nat)) H
theorem mt_indexD (hu : X.A.units + 64 < cLine) : MtM X "list.index" rIndexD := by
  intro pins s σ H x vs v us Q I rx rv h
  obtain ⟨l, ds, d, y, j, rfl, rfl, ⟨ws, hl, pr⟩, hy, g1, g2, q⟩ := h
  have rx' : v = Value.ref l := rx
  subst rx'
  obtain ⟨u, rfl, ru⟩ := rv.one
  obtain ⟨z, its, n, r, hlen, e⟩ := I.lstM hl
  have hl0 := Paired.length pr
  have hj : j < ds.length := (List.getElem?_eq_some_iff.mp g1).1
  obtain ⟨as, rd⟩ := I.dat (dD d) hy.dat ru
  have da : DatAll H ws (ds.map dD) := DatAll.map (fun _ _ z => T3.dat z) pr
  obtain ⟨bs, ra⟩ := I.datAll _ da r
  have hlay := DatAll.lay _ da
  have at' : ∀ (m : Nat) (hmm : m < its.toArray.size), eR s.heap (dD d) its.toArray[m] = decide ((ds.getD m (0, 0, 0)) = d) := fun m hmm => by
    have hm1 : m < its.length := by simpa using hmm
    have hm2 : m < ws.length := by omega
    obtain ⟨um, em, rm⟩ := r.get (List.getElem?_eq_getElem hm2)
    obtain ⟨dm, gm, tm⟩ := Paired.getL pr (List.getElem?_eq_getElem hm2)
    have e1 : its.toArray[m] = um := by
      rw [List.getElem?_eq_getElem hm1] at em
      exact Option.some.inj em
    obtain ⟨cs, rr⟩ := I.dat (dD dm) tm.dat rm
    rw [e1, eR_eq rr (Dat.lay _ tm.dat), enc_dD.dec, List.getD_eq_getElem?_getD, gm]
    rfl
  have hjz : j < its.toArray.size := by rw [List.size_toArray]; omega
  have hz63 := line63
  refine call_meets F.slot_list_index ⟨_, e, rfl⟩ F.entry_list_index (F.args_list_index_2 _ _) (SeqAt.list_indexAt l its.toArray n none #[] u (eR s.heap (dD d)) j hjz (by omega) ?_ ?_) ⟨e, fun w hw => ?_, ?_⟩
  · rw [at' j hjz, List.getD_eq_getElem?_getD, g1]; exact decide_eq_true rfl
  · intro m hmm hmj
    rw [at' m hmm]
    refine decide_eq_false ?_
    have hm2 : m < ds.length := by rw [List.size_toArray] at hmm; omega
    rw [List.getD_eq_getElem?_getD, List.getElem?_eq_getElem hm2]
    exact g2 m _ hmj (List.getElem?_eq_getElem hm2)
  · obtain ⟨dw, _, rw', hw'⟩ := reads_mem ra hlay w (by simpa using hw)
    have := in1_units (A := X.A)
    have dp := enc_dD.dep d
    exact eqAt_eR rw' hw' rd (Dat.lay _ hy.dat) (by omega)
  · exact ⟨.int j, H, I.tok _, ⟨_, rfl⟩, q⟩
end
end L2

end

section
namespace L2
open PySem PySem.W PyProof.Rows
/-! ### the sort of fewer than 128 things whose comparison leaves the state as it is: runs -/
section runs
variable (rk : Keyed → Nat)
def KR (xs : Array Keyed) (i : Nat) : Nat := match xs[i]? with
  | some p => rk p
  | none => 0
def UpS (xs : Array Keyed) (lo hi : Nat) : Prop := ∀ i j, lo ≤ i → i ≤ j → j < hi → KR rk xs i ≤ KR rk xs j
def DnS (xs : Array Keyed) (lo hi : Nat) : Prop := ∀ i j, lo ≤ i → i ≤ j → j < hi → KR rk xs j ≤ KR rk xs i
/-- what lies ahead of lo stays -/
def Fm (lo : Nat) (xs ys : Array Keyed) : Prop := ∀ k, k < lo → ys[k]? = xs[k]?
structure SB (κ : SortKind) (pd : Array (Nat × Nat × Nat)) (a₀ : Array Keyed) (st : SortSt) : Prop where
  perm : (arrOf st).Perm a₀
  kind : kindOf st = κ
  failed : failedOf st = none
  pend : pendingOf st = pd
variable {rk}
theorem KR_congr {xs ys : Array Keyed} {i j : Nat} (h : xs[i]? = ys[j]?) : KR rk xs i = KR rk ys j := by unfold KR; rw [h]
theorem Fm.refl (lo : Nat) (xs : Array Keyed) : Fm lo xs xs := fun _ _ => rfl
theorem Fm.trans {lo : Nat} {xs ys zs : Array Keyed} (h : Fm lo xs ys) (h' : Fm lo ys zs) : Fm lo xs zs := fun k hk => (h' k hk).trans (h k hk)
theorem fm_mirror {lo : Nat} {xs : Array Keyed} {i j : Nat} (hj : j ≤ xs.size) (hi : lo ≤ i) : Fm lo xs (mirror xs i j ((j - i) / 2)) := fun k hk => by
  rw [getElem?_mirror_all hj, if_neg (by omega)]
theorem KR_mirror {xs : Array Keyed} {i j : Nat} (hj : j ≤ xs.size) (k : Nat) : KR rk (mirror xs i j ((j - i) / 2)) k = if i ≤ k ∧ k < j then KR rk xs (i + j - 1 - k) else KR rk xs k := by
  have e := getElem?_mirror_all (i := i) hj k
  by_cases h1 : i ≤ k ∧ k < j
  · rw [if_pos h1] at e ⊢; exact KR_congr e
  · rw [if_neg h1] at e ⊢; exact KR_congr e
theorem KR_mirror_equal {xs : Array Keyed} {i j : Nat} (hj : j ≤ xs.size) (heq : ∀ k, i ≤ k → k < j → KR rk xs k = KR rk xs (j - 1)) (k : Nat) : KR rk (mirror xs i j ((j - i) / 2)) k = KR rk xs k := by
  rw [KR_mirror hj]
  split
  · rw [heq _ (by omega) (by omega), heq k (by omega) (by omega)]
  · rfl
theorem KR_bubble {xs : Array Keyed} {src d : Nat} (hs : src < xs.size) (hd : d ≤ src) (k : Nat) :
    KR rk (bubble xs src d) k = if k = src - d then KR rk xs src else if src - d < k ∧ k ≤ src then KR rk xs (k - 1) else KR rk xs k := by
  have e := getElem?_bubble hs d hd k
  by_cases h1 : k = src - d
  · rw [if_pos h1] at e ⊢; exact KR_congr e
  · rw [if_neg h1] at e ⊢
    by_cases h2 : src - d < k ∧ k ≤ src
    · rw [if_pos h2] at e ⊢; exact KR_congr e
    · rw [if_neg h2] at e ⊢; exact KR_congr e
theorem SB.size {κ : SortKind} {pd : Array (Nat × Nat × Nat)} {a₀ : Array Keyed} {st : SortSt} (h : SB κ pd a₀ st) : (arrOf st).size = a₀.size := h.perm.size_eq
theorem SB.set {κ : SortKind} {pd : Array (Nat × Nat × Nat)} {a₀ : Array Keyed} {st : SortSt} (h : SB κ pd a₀ st) {xs : Array Keyed} (hp : xs.Perm (arrOf st)) : SB κ pd a₀ (setArr st xs) := ⟨hp.trans h.perm, h.kind, h.failed, h.pend⟩

section
variable {prog : Program} {w : World} {A : Around} {E : Value → Shared → Prop} {s : Shared} {a₀ : Array Keyed} {κ : SortKind} {pd : Array (Nat × Nat × Nat)}
/-- two of the things compare as their ranks, and nothing changes -/
def Cmp (prog : Program) (w : World) (A : Around) (s : Shared) (κ : SortKind) (rk : Keyed → Nat) (a₀ : Array Keyed) : Prop :=
  ∀ x y : Keyed, x ∈ a₀.toList → y ∈ a₀.toList → ∀ C : Bool → Shared → Prop, C (decide (rk x < rk y)) s → wpAny (model prog w) A (keyLt' κ x.1 y.1) C (fun _ _ => False) s
theorem wpS_lt {st : SortSt} {x y : Keyed} {Q : Option Bool → SortSt → Prop} (hc : Cmp prog w A s κ rk a₀) (hk : kindOf st = κ) (hx : x ∈ a₀.toList) (hy : y ∈ a₀.toList) (h : Q (some (decide (rk x < rk y))) st) :
    wpS (model prog w) A E s (lt' x y) Q st := by
  rw [lt'_eq]
  refine wpS_bind (wpS_get ?_)
  rw [hk]
  refine wpS_bind (wpS_lift (wpAny_attempt (wpAny_mono (hc x y hx hy (fun b s' => s' = s ∧ b = decide (rk x < rk y)) ⟨rfl, rfl⟩) ?_ fun _ _ hF => hF.elim)))
  rintro b s' ⟨rfl, rfl⟩
  exact ⟨rfl, wpS_pure h⟩
theorem SB.at {st : SortSt} (hB : SB κ pd a₀ st) {i : Nat} (hi : i < a₀.size) : ∃ p, (arrOf st)[i]? = some p ∧ p ∈ a₀.toList ∧ KR rk (arrOf st) i = rk p := by
  have hi' : i < (arrOf st).size := by rw [hB.size]; exact hi
  refine ⟨(arrOf st)[i], getElem?_pos _ i hi', (Array.perm_iff_toList_perm.mp hB.perm).mem_iff.mp (by simp), ?_⟩
  unfold KR
  rw [getElem?_pos _ i hi']
theorem wpS_ltR {st : SortSt} {i j : Nat} {Q : Option Bool → SortSt → Prop} (hc : Cmp prog w A s κ rk a₀) (hB : SB κ pd a₀ st) (hi : i < a₀.size) (hj : j < a₀.size)
    (h : Q (some (decide (KR rk (arrOf st) i < KR rk (arrOf st) j))) st) : wpS (model prog w) A E s (ltAt' i j) Q st := by
  obtain ⟨p, e1, m1, r1⟩ := hB.at (rk := rk) hi
  obtain ⟨q, e2, m2, r2⟩ := hB.at (rk := rk) hj
  rw [ltAt'_eq]
  refine wpS_bind (wpS_get ?_)
  show wpS _ _ _ _ (do let x ← elem' (arrOf st) i; let y ← elem' (arrOf st) j; lt' x y) Q st
  rw [elem'_eq, elem'_eq, e1, e2]
  refine wpS_bind (wpS_pure (wpS_bind (wpS_pure ?_)))
  rw [r1, r2] at h
  exact wpS_lt hc hB.kind m1 m2 h

theorem wpS_rev {st : SortSt} {i j : Nat} {Q : Unit → SortSt → Prop} (h : Q () (setArr st (mirror (arrOf st) i j ((j - i) / 2)))) : wpS (model prog w) A E s (reverseSlice' i j) Q st := by
  rw [reverseSlice'_eq]; exact wpS_modify h
variable (hc : Cmp prog w A s κ rk a₀)
include hc
/-- the rising row, by what a turn does -/
theorem wpS_ascF {st : SortSt} {lo a nrem : Nat} {f : Nat → AscSt → StateT SortSt Sem (ForInStep AscSt)} {Q : AscSt → SortSt → Prop} (hn : lo + nrem ≤ a₀.size) (ha : 1 ≤ a) (han : a ≤ nrem) (hB : SB κ pd a₀ st) (hs : UpS rk (arrOf st) lo (lo + a))
    (hf : ∀ x n (R : ForInStep AscSt → SortSt → Prop), 1 ≤ n → lo + n < a₀.size → R (if KR rk (arrOf st) (lo + n) < KR rk (arrOf st) (lo + n - 1) then .done (none, n) else .yield (none, n + 1)) st → wpS (model prog w) A E s (f x (none, n)) R st)
    (h : ∀ n, a ≤ n → n ≤ nrem → UpS rk (arrOf st) lo (lo + n) → (n = nrem ∨ KR rk (arrOf st) (lo + n) < KR rk (arrOf st) (lo + n - 1)) → Q (none, n) st) :
    wpS (model prog w) A E s (forIn [a:nrem] ((none, a) : AscSt) f) Q st := by
  refine wpS_forRange (I := fun x c st' => st' = st ∧ c = (none, x) ∧ UpS rk (arrOf st) lo (lo + x)) ?step ?fin ⟨rfl, rfl, hs⟩
  case fin =>
    rintro c st' ⟨rfl, rfl, hs'⟩
    rw [show max a nrem = nrem by omega] at hs' ⊢
    exact h nrem han (Nat.le_refl _) hs' (.inl rfl)
  case step =>
    rintro x c st' hax hxn ⟨rfl, rfl, hs'⟩
    refine hf x x _ (by omega) (by omega) ?_
    by_cases hless : KR rk (arrOf st') (lo + x) < KR rk (arrOf st') (lo + x - 1)
    · rw [if_pos hless]
      exact h x hax (by omega) hs' (.inr hless)
    · rw [if_neg hless]
      refine ⟨rfl, rfl, fun i j hl hij hj => ?_⟩
      by_cases hjx : j < lo + x
      · exact hs' i j hl hij hjx
      · have hj' : j = lo + x := by omega
        subst hj'
        by_cases hi' : i = lo + x
        · subst hi'; exact Nat.le_refl _
        · exact Nat.le_trans (hs' i (lo + x - 1) hl (by omega) (by omega)) (Nat.not_lt.mp hless)
/-- the falling row: what a turn does by the two questions -/
theorem wpS_descF {st : SortSt} {lo n nrem : Nat} {f : Nat → DescSt → StateT SortSt Sem (ForInStep DescSt)} {Q : DescSt → SortSt → Prop} (hn : lo + nrem ≤ a₀.size) (h1 : 1 ≤ n) (hnn : n ≤ nrem) (hB : SB κ pd a₀ st) (hs : DnS rk (arrOf st) lo (lo + n))
    (hf : ∀ x m q st' (R : ForInStep DescSt → SortSt → Prop), SB κ pd a₀ st' → 1 ≤ m → lo + m < a₀.size →
      (KR rk (arrOf st') (lo + m) < KR rk (arrOf st') (lo + m - 1) → q > 0 → R (.yield (none, m + 1, 0)) (setArr st' (mirror (arrOf st') (lo + m - (q + 1)) (lo + m) ((lo + m - (lo + m - (q + 1))) / 2)))) →
      (KR rk (arrOf st') (lo + m) < KR rk (arrOf st') (lo + m - 1) → ¬ q > 0 → R (.yield (none, m + 1, 0)) st') →
      (¬ KR rk (arrOf st') (lo + m) < KR rk (arrOf st') (lo + m - 1) → KR rk (arrOf st') (lo + m - 1) < KR rk (arrOf st') (lo + m) → R (.done (none, m, q)) st') →
      (¬ KR rk (arrOf st') (lo + m) < KR rk (arrOf st') (lo + m - 1) → ¬ KR rk (arrOf st') (lo + m - 1) < KR rk (arrOf st') (lo + m) → R (.yield (none, m + 1, q + 1)) st') → wpS (model prog w) A E s (f x (none, m, q)) R st')
    (h : ∀ m neq st', SB κ pd a₀ st' → Fm lo (arrOf st) (arrOf st') → n ≤ m → m ≤ nrem → DnS rk (arrOf st') lo (lo + m) → neq + 1 ≤ m → (∀ i, lo + m - (neq + 1) ≤ i → i < lo + m → KR rk (arrOf st') i = KR rk (arrOf st') (lo + m - 1)) → Q (none, m, neq) st') :
    wpS (model prog w) A E s (forIn [n:nrem] ((none, n, 0) : DescSt) f) Q st := by
  refine wpS_forRange (I := fun x c st' => ∃ neq, c = (none, x, neq) ∧ SB κ pd a₀ st' ∧ Fm lo (arrOf st) (arrOf st') ∧ DnS rk (arrOf st') lo (lo + x) ∧ neq + 1 ≤ x ∧
      (∀ i, lo + x - (neq + 1) ≤ i → i < lo + x → KR rk (arrOf st') i = KR rk (arrOf st') (lo + x - 1))) ?step ?fin ⟨0, rfl, hB, Fm.refl _ _, hs, by omega, fun i h1 h2 => by congr 1; omega⟩
  case fin =>
    rintro c st' ⟨neq, rfl, hB', hf', hs', hq, he⟩
    rw [show max n nrem = nrem by omega] at hs' hq he ⊢
    exact h nrem neq st' hB' hf' hnn (Nat.le_refl _) hs' hq he
  case step =>
    rintro x c st' hax hxn ⟨neq, rfl, hB', hf', hs', hq, he⟩
    have hsz : lo + x ≤ (arrOf st').size := by rw [hB'.size]; omega
    have step1 : KR rk (arrOf st') (lo + x) < KR rk (arrOf st') (lo + x - 1) → ∀ xs : Array Keyed, (∀ k, KR rk xs k = KR rk (arrOf st') k) → DnS rk xs lo (lo + (x + 1)) := by
      intro hless xs hk i j hl hij hj
      rw [hk, hk]
      by_cases hjx : j < lo + x
      · exact hs' i j hl hij hjx
      · have hj' : j = lo + x := by omega
        subst hj'
        by_cases hi' : i = lo + x
        · subst hi'; exact Nat.le_refl _
        · exact Nat.le_trans (Nat.le_of_lt hless) (hs' i (lo + x - 1) hl (by omega) (by omega))
    refine hf x x neq st' _ hB' (by omega) (by omega) (fun c1 c2 => ?_) (fun c1 c2 => ?_) (fun c1 c2 => ?_) (fun c1 c2 => ?_)
    · exact ⟨0, rfl, hB'.set (mirror_perm _ _ _ _), hf'.trans (fm_mirror hsz (by omega)), step1 c1 _ (KR_mirror_equal hsz he), by omega, fun i h1 h2 => by congr 1; omega⟩
    · exact ⟨0, rfl, hB', hf', step1 c1 _ (fun _ => rfl), by omega, fun i h1 h2 => by congr 1; omega⟩
    · exact h x neq st' hB' hf' hax (by omega) hs' hq he
    · have heqx : KR rk (arrOf st') (lo + x) = KR rk (arrOf st') (lo + x - 1) := by omega
      refine ⟨neq + 1, rfl, hB', hf', fun i j hl hij hj => ?_, by omega, fun i h1 h2 => ?_⟩
      · by_cases hjx : j < lo + x
        · exact hs' i j hl hij hjx
        · have hj' : j = lo + x := by omega
          subst hj'
          by_cases hi' : i = lo + x
          · subst hi'; exact Nat.le_refl _
          · rw [heqx]; exact hs' i (lo + x - 1) hl (by omega) (by omega)
      · rw [show lo + (x + 1) - 1 = lo + x by omega]
        by_cases hix : i = lo + x
        · subst hix; rfl
        · rw [heqx]; exact he i (by omega) (by omega)
theorem wpS_countL {st : SortSt} {lo nrem : Nat} {Q : Option Nat → SortSt → Prop} (hn : lo + nrem ≤ a₀.size) (h1 : 1 ≤ nrem) (hB : SB κ pd a₀ st)
    (h : ∀ m st', SB κ pd a₀ st' → Fm lo (arrOf st) (arrOf st') → 1 ≤ m → m ≤ nrem → UpS rk (arrOf st') lo (lo + m) → Q (some m) st') :
    wpS (model prog w) A E s (countRun' lo nrem) Q st := by
  rw [countRun'_eq]
  dsimp only
  have up1 : UpS rk (arrOf st) lo (lo + 1) := fun i j hl hij hj => by
    have : i = j := by omega
    subst this
    exact Nat.le_refl _
  refine wpS_bind (wpS_ascF hc hn (Nat.le_refl 1) h1 hB up1 (fun x n' R g1 g2 hR => by
    dsimp only
    refine wpS_bind (wpS_ltR hc hB (by omega) (by omega) ?_)
    by_cases hless : KR rk (arrOf st) (lo + n') < KR rk (arrOf st) (lo + n' - 1)
    · rw [if_pos hless] at hR
      simp only [hless, decide_true, if_true]
      exact wpS_pure hR
    · rw [if_neg hless] at hR
      simp only [hless, decide_false, Bool.false_eq_true, if_false]
      exact wpS_pure hR) fun n hn1 hn2 hsn hor => ?_)
  dsimp only
  by_cases hnn : n = nrem
  · rw [if_pos (by simpa using hnn)]
    exact wpS_pure (h n st hB (Fm.refl _ _) hn1 hn2 hsn)
  · rw [if_neg (by simpa using hnn)]
    have hlt : KR rk (arrOf st) (lo + n) < KR rk (arrOf st) (lo + n - 1) := hor.resolve_left hnn
    by_cases hgt : n > 1
    · rw [if_pos hgt]
      refine wpS_bind (wpS_ltR hc hB (by omega) (by omega) ?_)
      by_cases hrose : KR rk (arrOf st) lo < KR rk (arrOf st) (lo + n - 1)
      · simp only [hrose, decide_true, if_true]
        exact wpS_pure (h n st hB (Fm.refl _ _) hn1 hn2 hsn)
      · simp only [hrose, decide_false, Bool.false_eq_true, if_false]
        have hsz0 : lo + n ≤ (arrOf st).size := by rw [hB.size]; omega
        have hall : ∀ k, lo ≤ k → k < lo + n → KR rk (arrOf st) k = KR rk (arrOf st) (lo + n - 1) := by
          intro k hl hk
          have a1 := hsn lo k (Nat.le_refl _) hl hk
          have a2 := hsn k (lo + n - 1) hl (by omega) (by omega)
          omega
        refine wpS_bind (wpS_rev ?_)
        have hB1 := hB.set (mirror_perm (arrOf st) lo (lo + n) ((lo + n - lo) / 2))
        have hf1 : Fm lo (arrOf st) (mirror (arrOf st) lo (lo + n) ((lo + n - lo) / 2)) := fm_mirror hsz0 (Nat.le_refl _)
        have hs1 : DnS rk (mirror (arrOf st) lo (lo + n) ((lo + n - lo) / 2)) lo (lo + (n + 1)) := by
          intro i j hl hij hj
          rw [KR_mirror_equal hsz0 hall, KR_mirror_equal hsz0 hall]
          by_cases hjn : j < lo + n
          · rw [hall i hl (by omega), hall j (by omega) hjn]; exact Nat.le_refl _
          · have hj' : j = lo + n := by omega
            subst hj'
            by_cases hi' : i = lo + n
            · subst hi'; exact Nat.le_refl _
            · rw [hall i hl (by omega)]; exact Nat.le_of_lt hlt
        refine wpS_bind (wpS_lift (wpAny_rule ⟨rfl, ?_⟩))
        refine wpS_bind (wpS_descF hc hn (by omega) (by omega) hB1 hs1 (fun x m q st' R hBd g1 g2 r1 r2 r3 r4 => ?_) fun m neq st' hB' hf hm1 hm2 hs' hq he => ?_)
        · dsimp only
          refine wpS_bind (wpS_ltR hc hBd (by omega) (by omega) ?_)
          by_cases hless : KR rk (arrOf st') (lo + m) < KR rk (arrOf st') (lo + m - 1)
          · simp only [hless, decide_true, if_true]
            by_cases hq : q > 0
            · rw [if_pos hq]
              exact wpS_bind (wpS_rev (wpS_pure (r1 hless hq)))
            · rw [if_neg hq]
              exact wpS_pure (r2 hless hq)
          · simp only [hless, decide_false, Bool.false_eq_true, if_false]
            refine wpS_bind (wpS_ltR hc hBd (by omega) (by omega) ?_)
            by_cases hlarger : KR rk (arrOf st') (lo + m - 1) < KR rk (arrOf st') (lo + m)
            · simp only [hlarger, decide_true, if_true]
              exact wpS_pure (r3 hless hlarger)
            · simp only [hlarger, decide_false, Bool.false_eq_true, if_false]
              exact wpS_pure (r4 hless hlarger)
        dsimp only
        have hsz : lo + m ≤ (arrOf st').size := by rw [hB'.size]; omega
        by_cases hneq : neq > 0
        · rw [if_pos hneq]
          refine wpS_bind (wpS_rev ?_)
          have hB2 := hB'.set (mirror_perm (arrOf st') (lo + m - (neq + 1)) (lo + m) ((lo + m - (lo + m - (neq + 1))) / 2))
          have hs2 : DnS rk (mirror (arrOf st') (lo + m - (neq + 1)) (lo + m) ((lo + m - (lo + m - (neq + 1))) / 2)) lo (lo + m) := by
            intro i j hl hij hj
            rw [KR_mirror_equal hsz he, KR_mirror_equal hsz he]
            exact hs' i j hl hij hj
          have hf2 : Fm lo (arrOf st') (mirror (arrOf st') (lo + m - (neq + 1)) (lo + m) ((lo + m - (lo + m - (neq + 1))) / 2)) := fm_mirror hsz (by omega)
          refine wpS_bind (wpS_rev ?_)
          have hBt := (hB2).set (mirror_perm (arrOf (setArr st' (mirror (arrOf st') (lo + m - (neq + 1)) (lo + m) ((lo + m - (lo + m - (neq + 1))) / 2)))) lo (lo + m) ((lo + m - lo) / 2))
          have hszt : lo + m ≤ (arrOf (setArr st' (mirror (arrOf st') (lo + m - (neq + 1)) (lo + m) ((lo + m - (lo + m - (neq + 1))) / 2)))).size := by rw [(hB2).size]; omega
          have upt : UpS rk (mirror (arrOf (setArr st' (mirror (arrOf st') (lo + m - (neq + 1)) (lo + m) ((lo + m - (lo + m - (neq + 1))) / 2)))) lo (lo + m) ((lo + m - lo) / 2)) lo (lo + m) := by
            intro i j hl hij hj
            rw [KR_mirror hszt, KR_mirror hszt, if_pos (by omega), if_pos (by omega)]
            exact hs2 _ _ (by omega) (by omega) (by omega)
          refine wpS_bind (wpS_ascF hc hn (by omega) hm2 hBt upt (fun x n' R g1 g2 hR => by
            dsimp only
            refine wpS_bind (wpS_ltR hc hBt (by omega) (by omega) ?_)
            by_cases hless : KR rk (arrOf (setArr (setArr st' (mirror (arrOf st') (lo + m - (neq + 1)) (lo + m) ((lo + m - (lo + m - (neq + 1))) / 2))) (mirror (arrOf (setArr st' (mirror (arrOf st') (lo + m - (neq + 1)) (lo + m) ((lo + m - (lo + m - (neq + 1))) / 2)))) lo (lo + m) ((lo + m - lo) / 2)))) (lo + n') < KR rk (arrOf (setArr (setArr st' (mirror (arrOf st') (lo + m - (neq + 1)) (lo + m) ((lo + m - (lo + m - (neq + 1))) / 2))) (mirror (arrOf (setArr st' (mirror (arrOf st') (lo + m - (neq + 1)) (lo + m) ((lo + m - (lo + m - (neq + 1))) / 2)))) lo (lo + m) ((lo + m - lo) / 2)))) (lo + n' - 1)
            · rw [if_pos hless] at hR
              simp only [hless, decide_true, if_true]
              exact wpS_pure hR
            · rw [if_neg hless] at hR
              simp only [hless, decide_false, Bool.false_eq_true, if_false]
              exact wpS_pure hR) fun m' hm1' hm2' hsm' _ => ?_)
          exact wpS_pure (h m' _ hBt (Fm.trans hf1 <| Fm.trans hf <| Fm.trans hf2 <| (fm_mirror hszt (Nat.le_refl _))) (by omega) hm2' hsm')
        · rw [if_neg hneq]
          refine wpS_bind (wpS_rev ?_)
          have hBt := (hB').set (mirror_perm (arrOf st') lo (lo + m) ((lo + m - lo) / 2))
          have hszt : lo + m ≤ (arrOf st').size := by rw [(hB').size]; omega
          have upt : UpS rk (mirror (arrOf st') lo (lo + m) ((lo + m - lo) / 2)) lo (lo + m) := by
            intro i j hl hij hj
            rw [KR_mirror hszt, KR_mirror hszt, if_pos (by omega), if_pos (by omega)]
            exact hs' _ _ (by omega) (by omega) (by omega)
          refine wpS_bind (wpS_ascF hc hn (by omega) hm2 hBt upt (fun x n' R g1 g2 hR => by
            dsimp only
            refine wpS_bind (wpS_ltR hc hBt (by omega) (by omega) ?_)
            by_cases hless : KR rk (arrOf (setArr st' (mirror (arrOf st') lo (lo + m) ((lo + m - lo) / 2)))) (lo + n') < KR rk (arrOf (setArr st' (mirror (arrOf st') lo (lo + m) ((lo + m - lo) / 2)))) (lo + n' - 1)
            · rw [if_pos hless] at hR
              simp only [hless, decide_true, if_true]
              exact wpS_pure hR
            · rw [if_neg hless] at hR
              simp only [hless, decide_false, Bool.false_eq_true, if_false]
              exact wpS_pure hR) fun m' hm1' hm2' hsm' _ => ?_)
          exact wpS_pure (h m' _ hBt (Fm.trans hf1 <| Fm.trans hf <| (fm_mirror hszt (Nat.le_refl _))) (by omega) hm2' hsm')
    · rw [if_neg hgt]
      have hn1' : n = 1 := by omega
      subst hn1'
      have hs1 : DnS rk (arrOf st) lo (lo + (1 + 1)) := by
        intro i j hl hij hj
        by_cases hi' : i = j
        · subst hi'; exact Nat.le_refl _
        · have hi0 : i = lo := by omega
          have hj1 : j = lo + 1 := by omega
          subst hi0; subst hj1
          exact Nat.le_of_lt hlt
      refine wpS_bind (wpS_lift (wpAny_rule ⟨rfl, ?_⟩))
      refine wpS_bind (wpS_descF hc hn (by omega) (by omega) hB hs1 (fun x m q st' R hBd g1 g2 r1 r2 r3 r4 => ?_) fun m neq st' hB' hf hm1 hm2 hs' hq he => ?_)
      · dsimp only
        refine wpS_bind (wpS_ltR hc hBd (by omega) (by omega) ?_)
        by_cases hless : KR rk (arrOf st') (lo + m) < KR rk (arrOf st') (lo + m - 1)
        · simp only [hless, decide_true, if_true]
          by_cases hq : q > 0
          · rw [if_pos hq]
            exact wpS_bind (wpS_rev (wpS_pure (r1 hless hq)))
          · rw [if_neg hq]
            exact wpS_pure (r2 hless hq)
        · simp only [hless, decide_false, Bool.false_eq_true, if_false]
          refine wpS_bind (wpS_ltR hc hBd (by omega) (by omega) ?_)
          by_cases hlarger : KR rk (arrOf st') (lo + m - 1) < KR rk (arrOf st') (lo + m)
          · simp only [hlarger, decide_true, if_true]
            exact wpS_pure (r3 hless hlarger)
          · simp only [hlarger, decide_false, Bool.false_eq_true, if_false]
            exact wpS_pure (r4 hless hlarger)
      dsimp only
      have hsz : lo + m ≤ (arrOf st').size := by rw [hB'.size]; omega
      by_cases hneq : neq > 0
      · rw [if_pos hneq]
        refine wpS_bind (wpS_rev ?_)
        have hB2 := hB'.set (mirror_perm (arrOf st') (lo + m - (neq + 1)) (lo + m) ((lo + m - (lo + m - (neq + 1))) / 2))
        have hs2 : DnS rk (mirror (arrOf st') (lo + m - (neq + 1)) (lo + m) ((lo + m - (lo + m - (neq + 1))) / 2)) lo (lo + m) := by
          intro i j hl hij hj
          rw [KR_mirror_equal hsz he, KR_mirror_equal hsz he]
          exact hs' i j hl hij hj
        have hf2 : Fm lo (arrOf st') (mirror (arrOf st') (lo + m - (neq + 1)) (lo + m) ((lo + m - (lo + m - (neq + 1))) / 2)) := fm_mirror hsz (by omega)
        refine wpS_bind (wpS_rev ?_)
        have hBt := (hB2).set (mirror_perm (arrOf (setArr st' (mirror (arrOf st') (lo + m - (neq + 1)) (lo + m) ((lo + m - (lo + m - (neq + 1))) / 2)))) lo (lo + m) ((lo + m - lo) / 2))
        have hszt : lo + m ≤ (arrOf (setArr st' (mirror (arrOf st') (lo + m - (neq + 1)) (lo + m) ((lo + m - (lo + m - (neq + 1))) / 2)))).size := by rw [(hB2).size]; omega
        have upt : UpS rk (mirror (arrOf (setArr st' (mirror (arrOf st') (lo + m - (neq + 1)) (lo + m) ((lo + m - (lo + m - (neq + 1))) / 2)))) lo (lo + m) ((lo + m - lo) / 2)) lo (lo + m) := by
          intro i j hl hij hj
          rw [KR_mirror hszt, KR_mirror hszt, if_pos (by omega), if_pos (by omega)]
          exact hs2 _ _ (by omega) (by omega) (by omega)
        refine wpS_bind (wpS_ascF hc hn (by omega) hm2 hBt upt (fun x n' R g1 g2 hR => by
          dsimp only
          refine wpS_bind (wpS_ltR hc hBt (by omega) (by omega) ?_)
          by_cases hless : KR rk (arrOf (setArr (setArr st' (mirror (arrOf st') (lo + m - (neq + 1)) (lo + m) ((lo + m - (lo + m - (neq + 1))) / 2))) (mirror (arrOf (setArr st' (mirror (arrOf st') (lo + m - (neq + 1)) (lo + m) ((lo + m - (lo + m - (neq + 1))) / 2)))) lo (lo + m) ((lo + m - lo) / 2)))) (lo + n') < KR rk (arrOf (setArr (setArr st' (mirror (arrOf st') (lo + m - (neq + 1)) (lo + m) ((lo + m - (lo + m - (neq + 1))) / 2))) (mirror (arrOf (setArr st' (mirror (arrOf st') (lo + m - (neq + 1)) (lo + m) ((lo + m - (lo + m - (neq + 1))) / 2)))) lo (lo + m) ((lo + m - lo) / 2)))) (lo + n' - 1)
          · rw [if_pos hless] at hR
            simp only [hless, decide_true, if_true]
            exact wpS_pure hR
          · rw [if_neg hless] at hR
            simp only [hless, decide_false, Bool.false_eq_true, if_false]
            exact wpS_pure hR) fun m' hm1' hm2' hsm' _ => ?_)
        exact wpS_pure (h m' _ hBt ( Fm.trans hf <| Fm.trans hf2 <| (fm_mirror hszt (Nat.le_refl _))) (by omega) hm2' hsm')
      · rw [if_neg hneq]
        refine wpS_bind (wpS_rev ?_)
        have hBt := (hB').set (mirror_perm (arrOf st') lo (lo + m) ((lo + m - lo) / 2))
        have hszt : lo + m ≤ (arrOf st').size := by rw [(hB').size]; omega
        have upt : UpS rk (mirror (arrOf st') lo (lo + m) ((lo + m - lo) / 2)) lo (lo + m) := by
          intro i j hl hij hj
          rw [KR_mirror hszt, KR_mirror hszt, if_pos (by omega), if_pos (by omega)]
          exact hs' _ _ (by omega) (by omega) (by omega)
        refine wpS_bind (wpS_ascF hc hn (by omega) hm2 hBt upt (fun x n' R g1 g2 hR => by
          dsimp only
          refine wpS_bind (wpS_ltR hc hBt (by omega) (by omega) ?_)
          by_cases hless : KR rk (arrOf (setArr st' (mirror (arrOf st') lo (lo + m) ((lo + m - lo) / 2)))) (lo + n') < KR rk (arrOf (setArr st' (mirror (arrOf st') lo (lo + m) ((lo + m - lo) / 2)))) (lo + n' - 1)
          · rw [if_pos hless] at hR
            simp only [hless, decide_true, if_true]
            exact wpS_pure hR
          · rw [if_neg hless] at hR
            simp only [hless, decide_false, Bool.false_eq_true, if_false]
            exact wpS_pure hR) fun m' hm1' hm2' hsm' _ => ?_)
        exact wpS_pure (h m' _ hBt ( Fm.trans hf <| (fm_mirror hszt (Nat.le_refl _))) (by omega) hm2' hsm')
theorem wpS_binL {st : SortSt} {lo n ok : Nat} {Q : Bool → SortSt → Prop} (hn : lo + n ≤ a₀.size) (hok : ok ≤ n) (hB : SB κ pd a₀ st) (hs : UpS rk (arrOf st) lo (lo + ok))
    (h : ∀ st', SB κ pd a₀ st' → Fm lo (arrOf st) (arrOf st') → UpS rk (arrOf st') lo (lo + n) → Q true st') : wpS (model prog w) A E s (binarySort' lo n ok) Q st := by
  rw [binarySort'_eq]
  refine wpS_bind (wpS_mono (wpS_forRange (I := fun k c st' => c = (none, ()) ∧ SB κ pd a₀ st' ∧ Fm lo (arrOf st) (arrOf st') ∧ UpS rk (arrOf st') lo (lo + min k n))
    (Q := fun c st' => c = (none, ()) ∧ SB κ pd a₀ st' ∧ Fm lo (arrOf st) (arrOf st') ∧ UpS rk (arrOf st') lo (lo + n)) ?step ?fin ?init) ?post)
  case post =>
    rintro c st' ⟨rfl, hB', hf, hs'⟩
    exact wpS_pure (h st' hB' hf hs')
  case init =>
    refine ⟨rfl, hB, Fm.refl _ _, fun i j hl hij hj => ?_⟩
    by_cases h1 : ok = 0
    · have : i = j := by omega
      subst this; exact Nat.le_refl _
    · exact hs i j hl hij (by omega)
  case fin =>
    rintro c st' ⟨hc', hB', hf, hs'⟩
    refine ⟨hc', hB', hf, ?_⟩
    rwa [show min (max (max ok 1) n) n = n by omega] at hs'
  case step =>
    rintro k c st' hak hkn ⟨rfl, hB', hf, hs'⟩
    rw [show min k n = k by omega] at hs'
    have hk : lo + k < a₀.size := by omega
    refine wpS_bind (wpS_mono (wpS_forRange (I := fun x c st'' => st'' = st' ∧ ∃ l r, c = (none, l, r) ∧ l ≤ r ∧ r ≤ k ∧ r - l ≤ k - x ∧
        (∀ i, i < l → KR rk (arrOf st') (lo + i) ≤ KR rk (arrOf st') (lo + k)) ∧ (∀ i, r ≤ i → i < k → KR rk (arrOf st') (lo + k) < KR rk (arrOf st') (lo + i)))
      (Q := fun c st'' => st'' = st' ∧ ∃ l r, c = (none, l, r) ∧ l ≤ k ∧
        (∀ i, i < l → KR rk (arrOf st') (lo + i) ≤ KR rk (arrOf st') (lo + k)) ∧ (∀ i, l ≤ i → i < k → KR rk (arrOf st') (lo + k) < KR rk (arrOf st') (lo + i))) ?istep ?ifin ?iinit) ?ipost)
    case iinit => exact ⟨rfl, 0, k, rfl, by omega, by omega, by omega, fun i hi => by omega, fun i h1 h2 => by omega⟩
    case ifin =>
      rintro c st'' ⟨rfl, l, r, rfl, hlr, hrk, hm, hlo, hhi⟩
      have : l = r := by omega
      subst this
      exact ⟨rfl, l, l, rfl, hrk, hlo, hhi⟩
    case istep =>
      rintro x c st'' _ hxk ⟨rfl, l, r, rfl, hlr, hrk, hm, hlo, hhi⟩
      dsimp only
      by_cases hge : l ≥ r
      · rw [if_pos hge]
        have : l = r := by omega
        subst this
        exact wpS_pure ⟨rfl, l, l, rfl, hrk, hlo, hhi⟩
      · rw [if_neg hge]
        refine wpS_bind (wpS_ltR hc hB' hk (by omega) ?_)
        by_cases hless : KR rk (arrOf st'') (lo + k) < KR rk (arrOf st'') (lo + (l + r) / 2)
        · simp only [hless, decide_true, if_true]
          refine wpS_pure ⟨rfl, l, (l + r) / 2, rfl, by omega, by omega, by omega, hlo, fun i h1 h2 => ?_⟩
          exact Nat.lt_of_lt_of_le hless (hs' _ _ (by omega) (by omega) (by omega))
        · simp only [hless, decide_false, Bool.false_eq_true, if_false]
          refine wpS_pure ⟨rfl, (l + r) / 2 + 1, r, rfl, by omega, by omega, by omega, fun i h1 => ?_, hhi⟩
          exact Nat.le_trans (hs' (lo + i) (lo + (l + r) / 2) (by omega) (by omega) (by omega)) (Nat.not_lt.mp hless)
    case ipost =>
      rintro c st'' ⟨rfl, l, r, rfl, hlk, hlo, hhi⟩
      show wpS _ _ _ _ (do moveDown' (lo + k) (lo + l); pure (ForInStep.yield (none, ()))) _ _
      rw [moveDown'_eq]
      have hks : lo + k < (arrOf st'').size := by rw [hB'.size]; exact hk
      refine wpS_bind (wpS_modify (wpS_pure ⟨rfl, hB'.set (bubble_perm _ _ _), hf.trans (fun i hi => ?_), ?_⟩))
      · show (bubble (arrOf st'') (lo + k) (lo + k - (lo + l)))[i]? = _
        rw [getElem?_bubble hks _ (by omega), if_neg (by omega), if_neg (by omega)]
      rw [show min (k + 1) n = k + 1 by omega]
      have hlo' : ∀ i, lo ≤ i → i < lo + l → KR rk (arrOf st'') i ≤ KR rk (arrOf st'') (lo + k) := fun i a b => by
        have := hlo (i - lo) (by omega)
        rwa [show lo + (i - lo) = i by omega] at this
      have hhi' : ∀ i, lo + l ≤ i → i < lo + k → KR rk (arrOf st'') (lo + k) < KR rk (arrOf st'') i := fun i a b => by
        have := hhi (i - lo) (by omega) (by omega)
        rwa [show lo + (i - lo) = i by omega] at this
      intro i j hl hij hj
      show KR rk (bubble (arrOf st'') (lo + k) (lo + k - (lo + l))) i ≤ KR rk (bubble (arrOf st'') (lo + k) (lo + k - (lo + l))) j
      rw [KR_bubble hks (by omega), KR_bubble hks (by omega), show lo + k - (lo + k - (lo + l)) = lo + l by omega]
      repeat' split
      all_goals first
        | (exfalso; omega)
        | exact Nat.le_refl _
        | exact hlo' _ (by omega) (by omega)
        | exact Nat.le_of_lt (hhi' _ (by omega) (by omega))
        | exact hs' _ _ (by omega) (by omega) (by omega)
end
end runs
end L2

end

section
namespace L2
open PySem PySem.W PyProof.Rows
def gallop' : Bool → Keyed → Array Keyed → Nat → Nat → Nat → StateT SortSt Sem (Option Nat) := sortPriv% PySem.Builtin.gallop
def setMinGallop' : Nat → StateT SortSt Sem Unit := sortPriv% PySem.Builtin.setMinGallop
def mergeLo' : Array Keyed → Array Keyed → StateT SortSt Sem (Array Keyed) := sortPriv% PySem.Builtin.mergeLo
def mergeHi' : Array Keyed → Array Keyed → StateT SortSt Sem (Array Keyed) := sortPriv% PySem.Builtin.mergeHi
/-- the question that gallop asks -/
def beyond' (left : Bool) (key : Keyed) (arr : Array Keyed) (base i : Nat) : StateT SortSt Sem (Option Bool) := elem' arr (base + i) >>= fun x => if left = true then lt' x key else lt' key x >>= fun r => pure (Option.map (fun c => !c) r)
local macro_rules | `(tactic| walk_at "gallop") => do
  let n := Lean.mkIdent (Lean.mkPrivateNameCore `PySem.Builtin.List.W1All `PySem.Builtin.gallop)
  `(tactic| (delta gallop'; delta $n))
section
variable {prog : Program} {w : World} {A : Around} {E : Value → Shared → Prop} {s : Shared} {κ : SortKind}
theorem wpS_binF {n lo hi : Nat} {f : Nat → Option (Option Nat) × Nat × Nat → StateT SortSt Sem (ForInStep (Option (Option Nat) × Nat × Nat))} {st : SortSt} {Q : Option (Option Nat) × Nat × Nat → SortSt → Prop} (b : Nat → Bool)
    (mono : ∀ i j, i ≤ j → j < n → b j = true → b i = true)
    (f1 : ∀ x l r R, l ≥ r → R (.done (none, l, r)) st → wpS (model prog w) A E s (f x (none, l, r)) R st)
    (f2 : ∀ x l r R, l < r → r ≤ n → (b (l + (r - l) / 2) = true → R (.yield (none, l + (r - l) / 2 + 1, r)) st) → (b (l + (r - l) / 2) = false → R (.yield (none, l, l + (r - l) / 2)) st) → wpS (model prog w) A E s (f x (none, l, r)) R st)
    (hlh : lo ≤ hi) (hhn : hi ≤ n) (h1 : ∀ i, i < lo → b i = true) (h2 : ∀ i, hi ≤ i → i < n → b i = false)
    (h : ∀ k, k ≤ n → (∀ i, i < k → b i = true) → (∀ i, k ≤ i → i < n → b i = false) → Q (none, k, k) st) : wpS (model prog w) A E s (forIn [:n] (none, lo, hi) f) Q st := by
  have anti : ∀ i j, i ≤ j → j < n → b i = false → b j = false := fun i j hij hj e => by
    cases z : b j with
    | false => rfl
    | true => rw [mono i j hij hj z] at e; cases e
  refine wpS_forRange (I := fun x c st' => st' = st ∧ ∃ l r, c = (none, l, r) ∧ l ≤ r ∧ r ≤ n ∧ r - l ≤ n - x ∧ (∀ i, i < l → b i = true) ∧ (∀ i, r ≤ i → i < n → b i = false)) ?step ?fin ⟨rfl, lo, hi, rfl, hlh, hhn, by omega, h1, h2⟩
  case fin =>
    rintro c st' ⟨rfl, l, r, rfl, hlr, hrn, hd, q1, q2⟩
    have : l = r := by omega
    subst this
    exact h l hrn q1 q2
  case step =>
    rintro x c st' _ hx ⟨rfl, l, r, rfl, hlr, hrn, hd, q1, q2⟩
    by_cases hge : l ≥ r
    · have : l = r := by omega
      subst this
      exact f1 x l l _ hge (h l hrn q1 q2)
    · refine f2 x l r _ (by omega) hrn (fun e => ?_) fun e => ?_
      · exact ⟨rfl, _, _, rfl, by omega, hrn, by omega, fun i hi => mono i _ (by omega) (by omega) e, q2⟩
      · exact ⟨rfl, _, _, rfl, by omega, by omega, by omega, q1, fun i a c => anti _ i a c e⟩
theorem wpS_gallop {left : Bool} {key : Keyed} {arr : Array Keyed} {base n hint : Nat} {st : SortSt} {Q : Option Nat → SortSt → Prop} (b : Nat → Bool)
    (hb : ∀ i, i < n → ∀ R : Option Bool → SortSt → Prop, R (some (b i)) st → wpS (model prog w) A E s (beyond' left key arr base i) R st)
    (mono : ∀ i j, i ≤ j → j < n → b j = true → b i = true) (hh : hint < n)
    (h : ∀ k, k ≤ n → (∀ i, i < k → b i = true) → (∀ i, k ≤ i → i < n → b i = false) → Q (some k) st) : wpS (model prog w) A E s (gallop' left key arr base n hint) Q st := by
  walk_at "gallop"
  dsimp only
  refine wpS_bind (hb hint hh _ ?_)
  dsimp only
  have anti : ∀ i j, i ≤ j → j < n → b i = false → b j = false := fun i j hij hj e => by
    cases z : b j with
    | false => rfl
    | true => rw [mono i j hij hj z] at e; cases e
  cases e : b hint with
  | true =>
    rw [if_pos rfl]
    refine wpS_bind (wpS_mono (wpS_forRange (I := fun x c st' => st' = st ∧ ∃ l o, c = (none, l, o) ∧ l < o ∧ x + 1 ≤ o ∧ hint + l < n ∧ b (hint + l) = true)
      (Q := fun c st' => st' = st ∧ ∃ l o, c = (none, l, o) ∧ l < o ∧ hint + l < n ∧ b (hint + l) = true ∧ (hint + o < n → b (hint + o) = false)) ?step ?fin ⟨rfl, 0, 1, rfl, by omega, by omega, by omega, e⟩) ?post)
    case post =>
      rintro c st' ⟨rfl, l, o, rfl, hlo, hln, q1, q2⟩
      dsimp only
      refine wpS_bind (wpS_binF b mono ?g1 ?g2 (by omega) (by omega) (fun i hi => mono i _ (by omega) hln q1) (fun i hi hin => anti (hint + o) i (by omega) hin (q2 (by omega))) ?g3)
      case g1 => (intro x l r R hge hR; dsimp only; rw [if_pos hge]; exact wpS_pure hR)
      case g2 =>
        intro x l r R hlt hrn t1 t2
        dsimp only
        rw [if_neg (by omega)]
        refine wpS_bind (hb _ (by omega) _ ?_)
        dsimp only
        split
        · exact wpS_pure (t1 (by assumption))
        · exact wpS_pure (t2 (Bool.eq_false_iff.mpr (by assumption)))
      case g3 => (intro k a1 a2 a3; exact wpS_pure (h k a1 a2 a3))
    case fin =>
      rintro c st' ⟨rfl, l, o, rfl, hlo, hxo, hln, q1⟩
      exact ⟨rfl, l, o, rfl, hlo, hln, q1, fun z => by omega⟩
    case step =>
      rintro x c st' _ hx ⟨rfl, l, o, rfl, hlo, hxo, hln, q1⟩
      dsimp only
      by_cases hge : o ≥ n - hint
      · rw [if_pos hge]
        exact wpS_pure ⟨rfl, l, o, rfl, hlo, hln, q1, fun z => by omega⟩
      · rw [if_neg hge]
        refine wpS_bind (hb _ (by omega) _ ?_)
        dsimp only
        cases e2 : b (hint + o) with
        | true =>
          rw [if_neg (by decide)]
          exact wpS_pure ⟨rfl, o, _, rfl, by omega, by omega, by omega, e2⟩
        | false =>
          rw [if_pos (by decide)]
          exact wpS_pure ⟨rfl, l, o, rfl, hlo, hln, q1, fun _ => e2⟩
  | false =>
    rw [if_neg (by decide)]
    refine wpS_bind (wpS_mono (wpS_forRange (I := fun x c st' => st' = st ∧ ∃ l o, c = (none, l, o) ∧ l < o ∧ x + 1 ≤ o ∧ l ≤ hint ∧ b (hint - l) = false)
      (Q := fun c st' => st' = st ∧ ∃ l o, c = (none, l, o) ∧ l < o ∧ l ≤ hint ∧ b (hint - l) = false ∧ (o ≤ hint → b (hint - o) = true)) ?step ?fin ⟨rfl, 0, 1, rfl, by omega, by omega, by omega, e⟩) ?post)
    case post =>
      rintro c st' ⟨rfl, l, o, rfl, hlo, hln, q1, q2⟩
      dsimp only
      refine wpS_bind (wpS_binF b mono ?g1 ?g2 (by omega) (by omega) (fun i hi => mono i (hint - o) (by omega) (by omega) (q2 (by omega))) (fun i hi hin => anti _ i hi hin q1) ?g3)
      case g1 => (intro x l r R hge hR; dsimp only; rw [if_pos hge]; exact wpS_pure hR)
      case g2 =>
        intro x l r R hlt hrn t1 t2
        dsimp only
        rw [if_neg (by omega)]
        refine wpS_bind (hb _ (by omega) _ ?_)
        dsimp only
        split
        · exact wpS_pure (t1 (by assumption))
        · exact wpS_pure (t2 (Bool.eq_false_iff.mpr (by assumption)))
      case g3 => (intro k a1 a2 a3; exact wpS_pure (h k a1 a2 a3))
    case fin =>
      rintro c st' ⟨rfl, l, o, rfl, hlo, hxo, hln, q1⟩
      exact ⟨rfl, l, o, rfl, hlo, hln, q1, fun z => by omega⟩
    case step =>
      rintro x c st' _ hx ⟨rfl, l, o, rfl, hlo, hxo, hln, q1⟩
      dsimp only
      by_cases hge : o ≥ hint + 1
      · rw [if_pos hge]
        exact wpS_pure ⟨rfl, l, o, rfl, hlo, hln, q1, fun z => by omega⟩
      · rw [if_neg hge]
        refine wpS_bind (hb _ (by omega) _ ?_)
        dsimp only
        cases e2 : b (hint - o) with
        | true =>
          rw [if_pos rfl]
          exact wpS_pure ⟨rfl, l, o, rfl, hlo, hln, q1, fun _ => e2⟩
        | false =>
          rw [if_neg (by decide)]
          exact wpS_pure ⟨rfl, o, _, rfl, by omega, by omega, by omega, e2⟩
end
end L2

end

section
namespace L2
open PySem PySem.W PyProof.Rows
/-! ### two sorted rows merged: what is out, and what is left -/
section
variable {rk : Keyed → Nat} {a b out : Array Keyed} {ia ib k : Nat}
abbrev Ups (rk : Keyed → Nat) (xs : List Keyed) : Prop := xs.Pairwise fun x y => rk x ≤ rk y
theorem KR_some {p : Keyed} {i : Nat} (h : a[i]? = some p) : KR rk a i = rk p := by unfold KR; rw [h]
theorem mem_dr {y : Keyed} (h : y ∈ a.toList.drop ia) : ∃ i, ia ≤ i ∧ i < a.size ∧ a[i]? = some y := by
  obtain ⟨j, hj, e⟩ := List.mem_iff_getElem.mp h
  rw [List.length_drop, Array.length_toList] at hj
  refine ⟨ia + j, Nat.le_add_right _ _, by omega, ?_⟩
  rw [List.getElem_drop] at e
  rw [← Array.getElem?_toList, List.getElem?_eq_getElem (by rw [Array.length_toList]; omega), e]
theorem mem_tk {y : Keyed} (h : y ∈ a.toList.take k) : ∃ i, i < k ∧ i < a.size ∧ a[i]? = some y := by
  obtain ⟨j, hj, e⟩ := List.mem_iff_getElem.mp h
  rw [List.length_take, Array.length_toList] at hj
  refine ⟨j, by omega, by omega, ?_⟩
  rw [List.getElem_take] at e
  rw [← Array.getElem?_toList, List.getElem?_eq_getElem (by rw [Array.length_toList]; omega), e]
theorem ups_of (h : UpS rk a 0 a.size) : Ups rk a.toList := by
  refine List.pairwise_iff_getElem.mpr ?_
  intro i j hi hj hij
  have hi' : i < a.size := by simpa using hi
  have hj' : j < a.size := by simpa using hj
  have z := h i j (Nat.zero_le _) (Nat.le_of_lt hij) hj'
  rwa [KR_some (getElem?_pos a i hi'), KR_some (getElem?_pos a j hj')] at z
theorem up_of (h : Ups rk a.toList) : UpS rk a 0 a.size := by
  intro i j _ hij hj
  rw [KR_some (getElem?_pos a i (by omega)), KR_some (getElem?_pos a j hj)]
  rcases Nat.lt_or_ge i j with q | q
  · exact List.pairwise_iff_getElem.mp h i j (by rw [Array.length_toList]; omega) (by rw [Array.length_toList]; exact hj) q
  · have : i = j := by omega
    subst this; exact Nat.le_refl _
theorem ext_dr (a : Array Keyed) (i j : Nat) : (a.extract i j).toList = (a.toList.drop i).take (j - i) := by
  rw [Array.toList_extract, List.extract_eq_take_drop]
def MI (rk : Keyed → Nat) (a b out : Array Keyed) (ia ib : Nat) : Prop :=
  Ups rk out.toList ∧ (∀ x ∈ out.toList, (∀ y ∈ a.toList.drop ia, rk x ≤ rk y) ∧ (∀ y ∈ b.toList.drop ib, rk x ≤ rk y)) ∧ (out.toList ++ (a.toList.drop ia ++ b.toList.drop ib)).Perm (a.toList ++ b.toList)
def Gd2 (rk : Keyed → Nat) (a b r : Array Keyed) : Prop := Ups rk r.toList ∧ r.toList.Perm (a.toList ++ b.toList)
theorem pw_drop {xs : List Keyed} (h : Ups rk xs) (n : Nat) : Ups rk (xs.drop n) := h.sublist (List.drop_sublist _ _)
theorem pw_take {xs : List Keyed} (h : Ups rk xs) (n : Nat) : Ups rk (xs.take n) := h.sublist (List.take_sublist _ _)
theorem dr_split (xs : List Keyed) (i k : Nat) : xs.drop i = (xs.drop i).take k ++ xs.drop (i + k) := by
  rw [← List.drop_drop, List.take_append_drop]
theorem MI.moveA (M : MI rk a b out ia ib) (hA : UpS rk a 0 a.size) (h : ∀ i, ia ≤ i → i < ia + k → i < a.size → ∀ j, ib ≤ j → j < b.size → KR rk a i ≤ KR rk b j) : MI rk a b (out ++ a.extract ia (ia + k)) (ia + k) ib := by
  obtain ⟨m1, m2, m3⟩ := M
  have e := dr_split a.toList ia k
  have eo : (out ++ a.extract ia (ia + k)).toList = out.toList ++ (a.toList.drop ia).take k := by
    rw [Array.toList_append, ext_dr, Nat.add_sub_cancel_left]
  have pw := pw_drop (ups_of hA) ia
  have tm : ∀ {y}, y ∈ (a.toList.drop ia).take k → ∃ i, ia ≤ i ∧ i < ia + k ∧ i < a.size ∧ a[i]? = some y := by
    intro y hy
    obtain ⟨j, hj, e⟩ := List.mem_iff_getElem.mp hy
    rw [List.length_take, List.length_drop, Array.length_toList] at hj
    rw [List.getElem_take, List.getElem_drop] at e
    refine ⟨ia + j, Nat.le_add_right _ _, by omega, by omega, ?_⟩
    rw [← Array.getElem?_toList, List.getElem?_eq_getElem (by rw [Array.length_toList]; omega), e]
  refine ⟨?_, ?_, ?_⟩
  · rw [eo]
    refine List.pairwise_append.mpr ⟨m1, pw_take pw k, fun x hx y hy => (m2 x hx).1 y (List.take_subset _ _ hy)⟩
  · rw [eo]
    intro x hx
    rcases List.mem_append.mp hx with hx | hx
    · refine ⟨fun y hy => (m2 x hx).1 y ?_, (m2 x hx).2⟩
      rw [e]; exact List.mem_append_right _ hy
    · refine ⟨fun y hy => ?_, fun y hy => ?_⟩
      · rw [e] at pw
        exact (List.pairwise_append.mp pw).2.2 x hx y hy
      · obtain ⟨i, i1, i2, i3, i4⟩ := tm hx
        obtain ⟨j, j1, j2, j3⟩ := mem_dr hy
        have z := h i i1 i2 i3 j j1 j2
        rwa [KR_some i4, KR_some j3] at z
  · rw [eo]
    rw [e] at m3
    simpa only [List.append_assoc] using m3
theorem MI.swap (M : MI rk a b out ia ib) : MI rk b a out ib ia := by
  obtain ⟨m1, m2, m3⟩ := M
  refine ⟨m1, fun x hx => ⟨(m2 x hx).2, (m2 x hx).1⟩, ?_⟩
  exact (List.Perm.append_left _ List.perm_append_comm).trans (m3.trans List.perm_append_comm)
theorem MI.moveB (M : MI rk a b out ia ib) (hB : UpS rk b 0 b.size) (h : ∀ j, ib ≤ j → j < ib + k → j < b.size → ∀ i, ia ≤ i → i < a.size → KR rk b j ≤ KR rk a i) : MI rk a b (out ++ b.extract ib (ib + k)) ia (ib + k) := (M.swap.moveA hB h).swap
theorem ext_one {p : Keyed} (h : a[ia]? = some p) : out ++ a.extract ia (ia + 1) = out.push p := by
  apply Array.toList_inj.mp
  rw [Array.toList_append, Array.toList_push, ext_dr, Nat.add_sub_cancel_left]
  congr 1
  have hi : ia < a.toList.length := by
    rw [Array.length_toList]
    exact (Array.getElem?_eq_some_iff.mp h).1
  rw [List.drop_eq_getElem_cons hi]
  have : a.toList[ia] = p := by
    have e2 := (Array.getElem?_eq_some_iff.mp h).2
    simpa using e2
  simp [this]
theorem MI.pushA {p : Keyed} (M : MI rk a b out ia ib) (hA : UpS rk a 0 a.size) (hB : UpS rk b 0 b.size) (hp : a[ia]? = some p) (h : KR rk a ia ≤ KR rk b ib) : MI rk a b (out.push p) (ia + 1) ib := by
  have z := M.moveA (k := 1) hA (fun i i1 i2 i3 j j1 j2 => by
    have : i = ia := by omega
    subst this
    exact Nat.le_trans h (hB ib j (Nat.zero_le _) j1 j2))
  rwa [ext_one hp] at z
theorem MI.pushB {p : Keyed} (M : MI rk a b out ia ib) (hA : UpS rk a 0 a.size) (hB : UpS rk b 0 b.size) (hp : b[ib]? = some p) (h : KR rk b ib ≤ KR rk a ia) : MI rk a b (out.push p) ia (ib + 1) := (M.swap.pushA hB hA hp h).swap
theorem MI.done (M : MI rk a b out ia ib) (hA : UpS rk a 0 a.size) (hb : ib = b.size) : Gd2 rk a b (out ++ a.extract ia a.size ++ b.extract ib b.size) := by
  obtain ⟨m1, m2, m3⟩ := M
  subst hb
  have e0 : b.toList.drop b.size = [] := by rw [List.drop_eq_nil_iff]; simp
  have eo : (out ++ a.extract ia a.size ++ b.extract b.size b.size).toList = out.toList ++ a.toList.drop ia := by
    rw [Array.toList_append, Array.toList_append, ext_dr, ext_dr, e0, List.take_nil, List.append_nil, List.take_of_length_le (by simp)]
  rw [e0, List.append_nil] at m3
  refine ⟨?_, ?_⟩
  · rw [eo]
    exact List.pairwise_append.mpr ⟨m1, pw_drop (ups_of hA) ia, fun x hx y hy => (m2 x hx).1 y hy⟩
  · rw [eo]; exact m3
theorem MI.lastA (M : MI rk a b out ia ib) (hB : UpS rk b 0 b.size) (ha : ia + 1 = a.size) (hl : ∀ j, j < b.size → KR rk b j < KR rk a (a.size - 1)) : Gd2 rk a b (out ++ b.extract ib b.size ++ a.extract ia a.size) := by
  obtain ⟨m1, m2, m3⟩ := M
  have eo : (out ++ b.extract ib b.size ++ a.extract ia a.size).toList = out.toList ++ (b.toList.drop ib ++ a.toList.drop ia) := by
    rw [Array.toList_append, Array.toList_append, ext_dr, ext_dr, List.take_of_length_le (by simp), List.take_of_length_le (by simp), List.append_assoc]
  refine ⟨?_, ?_⟩
  · rw [eo]
    refine List.pairwise_append.mpr ⟨m1, List.pairwise_append.mpr ⟨pw_drop (ups_of hB) ib, ?_, fun x hx y hy => ?_⟩, fun x hx y hy => ?_⟩
    · have hi : ia < a.toList.length := by rw [Array.length_toList]; omega
      rw [List.drop_eq_getElem_cons hi, List.drop_eq_nil_iff.mpr (by rw [Array.length_toList]; omega)]
      exact List.pairwise_singleton _ _
    · obtain ⟨j, j1, j2, j3⟩ := mem_dr hx
      obtain ⟨i, i1, i2, i3⟩ := mem_dr hy
      have : i = a.size - 1 := by omega
      subst this
      have z := hl j j2
      rw [KR_some j3, KR_some i3] at z
      omega
    · rcases List.mem_append.mp hy with hy | hy
      · exact (m2 x hx).2 y hy
      · exact (m2 x hx).1 y hy
  · rw [eo]
    exact (List.Perm.append_left _ List.perm_append_comm).trans m3
/-- the same from behind: out lies turned about -/
def MH (rk : Keyed → Nat) (a b out : Array Keyed) (na nb : Nat) : Prop :=
  Ups rk out.toList.reverse ∧ (∀ x ∈ out.toList, (∀ y ∈ a.toList.take na, rk y ≤ rk x) ∧ (∀ y ∈ b.toList.take nb, rk y ≤ rk x)) ∧ (a.toList.take na ++ b.toList.take nb ++ out.toList.reverse).Perm (a.toList ++ b.toList)
theorem tk_split (xs : List Keyed) (i n : Nat) (h : i ≤ n) : xs.take n = xs.take i ++ (xs.drop i).take (n - i) := by
  rw [← List.take_add, Nat.add_sub_cancel' h]
variable {na nb at_ : Nat}
theorem MH.swap (M : MH rk a b out na nb) : MH rk b a out nb na := by
  obtain ⟨m1, m2, m3⟩ := M
  exact ⟨m1, fun x hx => ⟨(m2 x hx).2, (m2 x hx).1⟩, (List.Perm.append_right _ List.perm_append_comm).trans (m3.trans List.perm_append_comm)⟩
theorem MH.moveA (M : MH rk a b out na nb) (hA : UpS rk a 0 a.size) (hat : at_ ≤ na) (h : ∀ i, at_ ≤ i → i < na → i < a.size → ∀ j, j < nb → j < b.size → KR rk b j ≤ KR rk a i) : MH rk a b (out ++ (a.extract at_ na).reverse) at_ nb := by
  obtain ⟨m1, m2, m3⟩ := M
  have e := tk_split a.toList at_ na hat
  have eo : (out ++ (a.extract at_ na).reverse).toList = out.toList ++ ((a.toList.drop at_).take (na - at_)).reverse := by
    rw [Array.toList_append, Array.toList_reverse, ext_dr]
  have er : (out ++ (a.extract at_ na).reverse).toList.reverse = (a.toList.drop at_).take (na - at_) ++ out.toList.reverse := by
    rw [eo, List.reverse_append, List.reverse_reverse]
  have pw := pw_take (ups_of hA) na
  have tm : ∀ {y}, y ∈ (a.toList.drop at_).take (na - at_) → ∃ i, at_ ≤ i ∧ i < na ∧ i < a.size ∧ a[i]? = some y := by
    intro y hy
    obtain ⟨j, hj, e⟩ := List.mem_iff_getElem.mp hy
    rw [List.length_take, List.length_drop, Array.length_toList] at hj
    rw [List.getElem_take, List.getElem_drop] at e
    refine ⟨at_ + j, Nat.le_add_right _ _, by omega, by omega, ?_⟩
    rw [← Array.getElem?_toList, List.getElem?_eq_getElem (by rw [Array.length_toList]; omega), e]
  refine ⟨?_, ?_, ?_⟩
  · rw [er]
    rw [e] at pw
    refine List.pairwise_append.mpr ⟨(List.pairwise_append.mp pw).2.1, m1, fun x hx y hy => (m2 y (List.mem_reverse.mp hy)).1 x ?_⟩
    rw [e]; exact List.mem_append_right _ hx
  · rw [eo]
    intro x hx
    rcases List.mem_append.mp hx with hx | hx
    · refine ⟨fun y hy => (m2 x hx).1 y ?_, (m2 x hx).2⟩
      rw [e]; exact List.mem_append_left _ hy
    · have hx := List.mem_reverse.mp hx
      refine ⟨fun y hy => ?_, fun y hy => ?_⟩
      · rw [e] at pw
        exact (List.pairwise_append.mp pw).2.2 y hy x hx
      · obtain ⟨i, i1, i2, i3, i4⟩ := tm hx
        obtain ⟨j, j1, j2, j3⟩ := mem_tk hy
        have z := h i i1 i2 i3 j j1 j2
        rwa [KR_some i4, KR_some j3] at z
  · rw [er]
    rw [e] at m3
    refine List.Perm.trans ?_ m3
    simp only [List.append_assoc]
    refine List.Perm.append_left _ ?_
    rw [← List.append_assoc, ← List.append_assoc]
    exact List.Perm.append_right _ List.perm_append_comm
theorem MH.moveB (M : MH rk a b out na nb) (hB : UpS rk b 0 b.size) (hat : at_ ≤ nb) (h : ∀ j, at_ ≤ j → j < nb → j < b.size → ∀ i, i < na → i < a.size → KR rk a i ≤ KR rk b j) : MH rk a b (out ++ (b.extract at_ nb).reverse) na at_ := (M.swap.moveA hB hat h).swap
theorem MH.pushA {p : Keyed} (M : MH rk a b out (na + 1) nb) (hA : UpS rk a 0 a.size) (hB : UpS rk b 0 b.size) (hp : a[na]? = some p) (hnb : nb ≤ b.size) (h : 0 < nb → KR rk b (nb - 1) ≤ KR rk a na) : MH rk a b (out.push p) na nb := by
  have z := M.moveA (at_ := na) hA (Nat.le_succ _) (fun i i1 i2 i3 j j1 j2 => by
    have : i = na := by omega
    subst this
    exact Nat.le_trans (hB j (nb - 1) (Nat.zero_le _) (by omega) (by omega)) (h (by omega)))
  have e : (a.extract na (na + 1)).reverse = a.extract na (na + 1) := by
    have z := ext_one (out := #[]) hp
    simp only [Array.empty_append] at z
    rw [z]; rfl
  rwa [e, ext_one hp] at z
theorem MH.done (M : MH rk a b out na nb) (hB : UpS rk b 0 b.size) (h0 : na = 0) : Gd2 rk a b (a.extract 0 na ++ b.extract 0 nb ++ out.reverse) := by
  obtain ⟨m1, m2, m3⟩ := M
  subst h0
  have eo : (a.extract 0 0 ++ b.extract 0 nb ++ out.reverse).toList = b.toList.take nb ++ out.toList.reverse := by
    rw [Array.toList_append, Array.toList_append, ext_dr, ext_dr, Array.toList_reverse]
    simp
  refine ⟨?_, ?_⟩
  · rw [eo]
    exact List.pairwise_append.mpr ⟨pw_take (ups_of hB) nb, m1, fun x hx y hy => (m2 y (List.mem_reverse.mp hy)).2 x hx⟩
  · rw [eo]; simpa using m3
theorem MH.firstB (M : MH rk a b out na nb) (hA : UpS rk a 0 a.size) (h1 : nb = 1) (hf : ∀ i, i < a.size → KR rk b 0 < KR rk a i) : Gd2 rk a b (b.extract 0 nb ++ a.extract 0 na ++ out.reverse) := by
  obtain ⟨m1, m2, m3⟩ := M
  subst h1
  have eo : (b.extract 0 1 ++ a.extract 0 na ++ out.reverse).toList = b.toList.take 1 ++ a.toList.take na ++ out.toList.reverse := by
    rw [Array.toList_append, Array.toList_append, ext_dr, ext_dr, Array.toList_reverse]
    simp
  refine ⟨?_, ?_⟩
  · rw [eo]
    refine List.pairwise_append.mpr ⟨List.pairwise_append.mpr ⟨?_, pw_take (ups_of hA) na, fun x hx y hy => ?_⟩, m1, fun x hx y hy => ?_⟩
    · match b.toList with
      | [] => exact .nil
      | x :: _ => exact List.pairwise_singleton _ _
    · obtain ⟨j, j1, j2, j3⟩ := mem_tk hx
      obtain ⟨i, i1, i2, i3⟩ := mem_tk hy
      have : j = 0 := by omega
      subst this
      have z := hf i i2
      rw [KR_some j3, KR_some i3] at z
      omega
    · have hy := List.mem_reverse.mp hy
      rcases List.mem_append.mp hx with hx | hx
      · exact (m2 y hy).2 x hx
      · exact (m2 y hy).1 x hx
  · rw [eo]
    exact (List.Perm.append_right _ List.perm_append_comm).trans m3
end
end L2

end

section
namespace L2
open PySem PySem.W PyProof.Rows
local macro_rules | `(tactic| walk_at "setMinGallop") => do
  let n := Lean.mkIdent (Lean.mkPrivateNameCore `PySem.Builtin.List.W1All `PySem.Builtin.setMinGallop)
  `(tactic| (delta setMinGallop'; delta $n))
local macro_rules | `(tactic| walk_at "mergeLo") => do
  let n := Lean.mkIdent (Lean.mkPrivateNameCore `PySem.Builtin.List.W1All `PySem.Builtin.mergeLo)
  `(tactic| (delta mergeLo'; delta $n))
/-- all but minGallop stays -/
def Sm (st st' : SortSt) : Prop := kindOf st' = kindOf st ∧ arrOf st' = arrOf st ∧ pendingOf st' = pendingOf st ∧ failedOf st' = failedOf st
theorem Sm.refl (st : SortSt) : Sm st st := ⟨rfl, rfl, rfl, rfl⟩
theorem Sm.g {st st' : SortSt} (h : Sm st st') (g : Nat) : Sm st (SortSt.mk' (kindOf st') (arrOf st') (pendingOf st') g (failedOf st')) := h
section
variable {prog : Program} {w : World} {A : Around} {E : Value → Shared → Prop} {s : Shared} {κ : SortKind} {a₀ a b : Array Keyed} {rk : Keyed → Nat}
theorem wpS_elem {i : Nat} {p : Keyed} {st : SortSt} {Q : Keyed → SortSt → Prop} (e : a[i]? = some p) (h : Q p st) : wpS (model prog w) A E s (elem' a i) Q st := by
  rw [elem'_eq, e]; exact wpS_pure h
theorem wpS_setG {g : Nat} {st : SortSt} {Q : Unit → SortSt → Prop} (h : Q () (SortSt.mk' (kindOf st) (arrOf st) (pendingOf st) g (failedOf st))) : wpS (model prog w) A E s (setMinGallop' g) Q st := by
  walk_at "setMinGallop"
  exact wpS_modify h
theorem at_of (ha : ∀ p ∈ a.toList, p ∈ a₀.toList) {i : Nat} (hi : i < a.size) : ∃ p, a[i]? = some p ∧ p ∈ a₀.toList ∧ KR rk a i = rk p :=
  ⟨a[i], getElem?_pos a i hi, ha _ (by simp), KR_some (getElem?_pos a i hi)⟩
theorem bey_t {key : Keyed} {base i : Nat} {st : SortSt} {R : Option Bool → SortSt → Prop} (hc : Cmp prog w A s κ rk a₀) (hk : kindOf st = κ) (ha : ∀ p ∈ a.toList, p ∈ a₀.toList) (hkey : key ∈ a₀.toList) (hi : base + i < a.size)
    (h : R (some (decide (KR rk a (base + i) < rk key))) st) : wpS (model prog w) A E s (beyond' true key a base i) R st := by
  obtain ⟨p, e, m, r⟩ := at_of (rk := rk) ha hi
  unfold beyond'
  refine wpS_bind (wpS_elem e ?_)
  rw [if_pos rfl]
  refine wpS_lt hc hk m hkey ?_
  rw [r] at h
  exact h
theorem bey_f {key : Keyed} {base i : Nat} {st : SortSt} {R : Option Bool → SortSt → Prop} (hc : Cmp prog w A s κ rk a₀) (hk : kindOf st = κ) (ha : ∀ p ∈ a.toList, p ∈ a₀.toList) (hkey : key ∈ a₀.toList) (hi : base + i < a.size)
    (h : R (some (!decide (rk key < KR rk a (base + i)))) st) : wpS (model prog w) A E s (beyond' false key a base i) R st := by
  obtain ⟨p, e, m, r⟩ := at_of (rk := rk) ha hi
  unfold beyond'
  refine wpS_bind (wpS_elem e ?_)
  rw [if_neg (by decide)]
  refine wpS_bind (wpS_lt hc hk hkey m ?_)
  rw [r] at h
  exact wpS_pure h
theorem MI.nil (rk : Keyed → Nat) (a b : Array Keyed) : MI rk a b #[] 0 0 := ⟨.nil, (fun _ z => nomatch z), by simp⟩
theorem wpS_mergeLo {st : SortSt} {Q : Array Keyed → SortSt → Prop} (hc : Cmp prog w A s κ rk a₀) (hk : kindOf st = κ) (ha : ∀ p ∈ a.toList, p ∈ a₀.toList) (hb : ∀ p ∈ b.toList, p ∈ a₀.toList) (hA : UpS rk a 0 a.size) (hB : UpS rk b 0 b.size)
    (na : 0 < a.size) (nb : 0 < b.size) (h0 : KR rk b 0 < KR rk a 0) (hl : ∀ j, j < b.size → KR rk b j < KR rk a (a.size - 1)) (h : ∀ r st', Sm st st' → Gd2 rk a b r → Q r st') : wpS (model prog w) A E s (mergeLo' a b) Q st := by
  walk_at "mergeLo"
  dsimp only
  refine wpS_bind (wpS_lift (wpAny_rule ⟨rfl, ?_⟩))
  obtain ⟨b0, eb0, mb0, rb0⟩ := at_of (rk := rk) hb nb
  refine wpS_bind (wpS_elem eb0 ?_)
  have M0 : MI rk a b #[b0] 0 1 := (MI.nil rk a b).pushB hA hB eb0 (Nat.le_of_lt h0)
  by_cases c1 : (1 == b.size) = true
  · rw [if_pos c1]; exact wpS_pure (h _ _ (Sm.refl st) (M0.done hA (by simpa using c1)))
  rw [if_neg c1]
  by_cases c2 : (0 + 1 == a.size) = true
  · rw [if_pos c2]; exact wpS_pure (h _ _ (Sm.refl st) (M0.lastA hB (by simpa using c2) hl))
  rw [if_neg c2]
  have c1' : ¬ 1 = b.size := fun z => c1 (by simpa using z)
  have c2' : ¬ 1 = a.size := fun z => c2 (by simpa using z)
  refine wpS_bind (wpS_get ?_)
  refine wpS_bind (wpS_mono (wpS_forRange (I := fun x c st' => Sm st st' ∧ c.1 = none ∧ MI rk a b c.2.1 c.2.2.1 c.2.2.2.1 ∧ c.2.2.1 + 1 < a.size ∧ c.2.2.2.1 < b.size ∧ x + 1 ≤ c.2.2.1 + c.2.2.2.1)
    (Q := fun c st' => Sm st st' ∧ ∃ r, c.1 = some r ∧ Gd2 rk a b r) ?step ?fin ⟨Sm.refl st, rfl, M0, by dsimp only; omega, by dsimp only; omega, by dsimp only; omega⟩) ?post)
  case post =>
    rintro ⟨c, c'⟩ st' ⟨sm, r, e, g⟩
    dsimp only at e
    subst e
    exact wpS_pure (h r st' sm g)
  case fin =>
    rintro c st' ⟨sm, e, M, h1, h2, h3⟩
    omega
  case step =>
    rintro x ⟨c, out, ia, ib, mg⟩ st' _ hx ⟨sm, e, M, h1, h2, h3⟩
    dsimp only at e M h1 h2 h3
    subst e
    dsimp only
    refine wpS_bind (wpS_mono (wpS_forRange (I := fun y c st' => Sm st st' ∧ c.1 = none ∧ MI rk a b c.2.1 c.2.2.1 c.2.2.2.1 ∧ c.2.2.1 + 1 < a.size ∧ c.2.2.2.1 < b.size ∧ x + 1 ≤ c.2.2.1 + c.2.2.2.1)
      (Q := fun c st' => Sm st st' ∧ ((∃ r, c.1 = some r ∧ Gd2 rk a b r) ∨ c.1 = none ∧ MI rk a b c.2.1 c.2.2.1 c.2.2.2.1 ∧ c.2.2.1 + 1 < a.size ∧ c.2.2.2.1 < b.size ∧ x + 1 ≤ c.2.2.1 + c.2.2.2.1)) ?istep ?ifin ⟨sm, rfl, M, h1, h2, h3⟩) ?ipost)
    case ifin =>
      rintro c st2 ⟨sm, z⟩
      exact ⟨sm, .inr z⟩
    case istep =>
      rintro y ⟨c, out, ia, ib, ac, bc⟩ st2 _ hy ⟨sm2, e, M, h1, h2, h3⟩
      dsimp only at e M h1 h2 h3
      subst e
      dsimp only
      obtain ⟨p, ep, mp, rp⟩ := at_of (rk := rk) hb h2
      obtain ⟨q, eq, mq, rq⟩ := at_of (rk := rk) ha (i := ia) (by omega)
      refine wpS_bind (wpS_elem ep (wpS_bind (wpS_elem eq (wpS_bind (wpS_lt hc (sm2.1.trans hk) mp mq ?_)))))
      dsimp only
      by_cases hw : rk p < rk q
      · rw [decide_eq_true hw, if_pos rfl]
        refine wpS_bind (wpS_elem ep ?_)
        have M' := M.pushB hA hB ep (by omega)
        by_cases e1 : (ib + 1 == b.size) = true
        · rw [if_pos e1]; exact wpS_pure ⟨sm2, .inl ⟨_, rfl, M'.done hA (by simpa using e1)⟩⟩
        · rw [if_neg e1]
          have e1' : ¬ ib + 1 = b.size := fun z => e1 (by simpa using z)
          split
          · exact wpS_pure ⟨sm2, .inr ⟨rfl, M', h1, by dsimp only; omega, by dsimp only; omega⟩⟩
          · exact wpS_pure ⟨sm2, rfl, M', h1, by dsimp only; omega, by dsimp only; omega⟩
      · rw [decide_eq_false hw, if_neg (by decide)]
        refine wpS_bind (wpS_elem eq ?_)
        have M' := M.pushA hA hB eq (by omega)
        by_cases e1 : (ia + 1 + 1 == a.size) = true
        · rw [if_pos e1]; exact wpS_pure ⟨sm2, .inl ⟨_, rfl, M'.lastA hB (by simpa using e1) hl⟩⟩
        · rw [if_neg e1]
          have e1' : ¬ ia + 1 + 1 = a.size := fun z => e1 (by simpa using z)
          split
          · exact wpS_pure ⟨sm2, .inr ⟨rfl, M', by dsimp only; omega, h2, by dsimp only; omega⟩⟩
          · exact wpS_pure ⟨sm2, rfl, M', by dsimp only; omega, h2, by dsimp only; omega⟩
    case ipost =>
      rintro ⟨c, out, ia, ib, ac, bc⟩ st2 ⟨sm2, ⟨r, e, g⟩ | ⟨e, M, h1, h2, h3⟩⟩
      · dsimp only at e
        subst e
        exact wpS_pure ⟨sm2, r, rfl, g⟩
      dsimp only at e M h1 h2 h3
      subst e
      dsimp only
      refine wpS_bind (wpS_lift (wpAny_rule ⟨rfl, ?_⟩))
      refine wpS_bind (wpS_mono (wpS_forRange (I := fun y c st' => Sm st st' ∧ c.1 = none ∧ MI rk a b c.2.1 c.2.2.1 c.2.2.2.1 ∧ c.2.2.1 + 1 < a.size ∧ c.2.2.2.1 < b.size ∧ x + 1 + y ≤ c.2.2.1 + c.2.2.2.1)
        (Q := fun c st' => Sm st st' ∧ ((∃ r, c.1 = some r ∧ Gd2 rk a b r) ∨ c.1 = none ∧ MI rk a b c.2.1 c.2.2.1 c.2.2.2.1 ∧ c.2.2.1 + 1 < a.size ∧ c.2.2.2.1 < b.size ∧ x + 1 + 1 ≤ c.2.2.1 + c.2.2.2.1)) ?gstep ?gfin ⟨sm2, rfl, M, h1, h2, h3⟩) ?gpost)
      case gfin =>
        rintro c st3 ⟨sm3, e, M, h1, h2, h3⟩
        exact ⟨sm3, .inr ⟨e, M, h1, h2, by omega⟩⟩
      case gpost =>
        rintro ⟨c, out, ia, ib, mg, ac, bc⟩ st3 ⟨sm3, ⟨r, e, g⟩ | ⟨e, M, h1, h2, h3⟩⟩
        · dsimp only at e
          subst e
          exact wpS_pure ⟨sm3, r, rfl, g⟩
        dsimp only at e M h1 h2 h3
        subst e
        exact wpS_bind (wpS_setG (wpS_pure ⟨sm3.g _, rfl, M, h1, h2, h3⟩))
      case gstep =>
        clear sm2 M h1 h2 h3
        rintro y ⟨c, out, ia, ib, mg, ac, bc⟩ st3 _ hy ⟨sm3, e, M, h1, h2, h3⟩
        dsimp only at e M h1 h2 h3
        subst e
        dsimp only
        obtain ⟨p, ep, mp, rp⟩ := at_of (rk := rk) hb h2
        by_cases hmg : mg > 1
        · rw [if_pos hmg]
          refine wpS_bind (wpS_setG ?_)
          refine wpS_bind (wpS_elem ep (wpS_bind (wpS_gallop (fun i => !decide (rk p < KR rk a (ia + i))) (fun i hi R hR => bey_f hc (sm3.1.trans hk) ha mp (by omega) hR) (fun i j hij hj z => ?_) (by omega) ?_)))
          · have z1 : ¬ rk p < KR rk a (ia + j) := by simpa using z
            have z2 := hA (ia + i) (ia + j) (by omega) (by omega) (by omega)
            have z3 : ¬ rk p < KR rk a (ia + i) := by omega
            simpa using z3
          intro k hk' t1 t2
          have u1 : ∀ i, i < k → KR rk a (ia + i) ≤ rk p := fun i hi => by
            have := t1 i hi
            simpa using this
          have u2 : ∀ i, k ≤ i → i < a.size - ia → rk p < KR rk a (ia + i) := fun i hi hj => by
            have := t2 i hi hj
            simpa using this
          have hkl : ia + k + 1 ≤ a.size := by
            apply Nat.le_of_not_lt
            intro z
            have z1 := u1 (a.size - 1 - ia) (by omega)
            rw [show ia + (a.size - 1 - ia) = a.size - 1 by omega] at z1
            have z2 := hl ib h2
            omega
          dsimp only
          by_cases hk0 : k > 0
          · rw [if_pos hk0]
            have M1 := M.moveA (k := k) hA (fun i i1 i2 i3 j j1 j2 => by
              have z1 := u1 (i - ia) (by omega)
              rw [show ia + (i - ia) = i by omega] at z1
              have z2 := hB ib j (by omega) j1 j2
              omega)
            by_cases e1 : (ia + k + 1 == a.size) = true
            · rw [if_pos e1]; exact wpS_pure ⟨sm3, .inl ⟨_, rfl, M1.lastA hB (by simpa using e1) hl⟩⟩
            · rw [if_neg e1]
              have e1' : ¬ ia + k + 1 = a.size := fun z => e1 (by simpa using z)
              rw [if_neg (fun z => by have z' : ia + k = a.size := by simpa using z
                                      omega)]
              have M2 := M1.pushB hA hB ep (by have := u2 k (Nat.le_refl _) (by omega); omega)
              refine wpS_bind (wpS_elem ep ?_)
              by_cases e3 : (ib + 1 == b.size) = true
              · rw [if_pos e3]; exact wpS_pure ⟨sm3, .inl ⟨_, rfl, M2.done hA (by simpa using e3)⟩⟩
              · rw [if_neg e3]
                have e3' : ¬ ib + 1 = b.size := fun z => e3 (by simpa using z)
                obtain ⟨q, eq, mq, rq⟩ := at_of (rk := rk) ha (i := (ia + k)) (by omega)
                refine wpS_bind (wpS_elem eq (wpS_bind (wpS_gallop (fun i => decide (KR rk b (ib + 1 + i) < rk q)) (fun i hi R hR => bey_t hc (sm3.1.trans hk) hb mq (by omega) hR) (fun i j hij hj z => ?_) (by omega) ?_)))
                · have z1 := of_decide_eq_true z
                  have z2 := hB (ib + 1 + i) (ib + 1 + j) (by omega) (by omega) (by omega)
                  exact decide_eq_true (by omega)
                intro k' hk' t1 t2
                have u1 : ∀ i, i < k' → KR rk b (ib + 1 + i) < rk q := fun i hi => of_decide_eq_true (t1 i hi)
                have u2 : ∀ i, k' ≤ i → i < b.size - (ib + 1) → rk q ≤ KR rk b (ib + 1 + i) := fun i hi hj => Nat.not_lt.mp (of_decide_eq_false (t2 i hi hj))
                dsimp only
                by_cases hk0 : k' > 0
                · rw [if_pos hk0]
                  have M3 := M2.moveB (k := k') hB (fun j j1 j2 j3 i i1 i2 => by
                    have z1 := u1 (j - (ib + 1)) (by omega)
                    rw [show ib + 1 + (j - (ib + 1)) = j by omega] at z1
                    have z2 := hA (ia + k) i (by omega) i1 i2
                    omega)
                  by_cases e4 : (ib + 1 + k' == b.size) = true
                  · rw [if_pos e4]; exact wpS_pure ⟨sm3, .inl ⟨_, rfl, M3.done hA (by simpa using e4)⟩⟩
                  · rw [if_neg e4]
                    have e4' : ¬ ib + 1 + k' = b.size := fun z => e4 (by simpa using z)
                    have M4 := M3.pushA hA hB eq (by rw [rq]; exact u2 k' (Nat.le_refl _) (by omega))
                    refine wpS_bind (wpS_elem eq ?_)
                    by_cases e5 : ((ia + k) + 1 + 1 == a.size) = true
                    · rw [if_pos e5]; exact wpS_pure ⟨sm3, .inl ⟨_, rfl, M4.lastA hB (by simpa using e5) hl⟩⟩
                    · rw [if_neg e5]
                      have e5' : ¬ (ia + k) + 1 + 1 = a.size := fun z => e5 (by simpa using z)
                      split
                      · exact wpS_pure ⟨sm3, .inr ⟨rfl, M4, by dsimp only; omega, by dsimp only; omega, by dsimp only; omega⟩⟩
                      · exact wpS_pure ⟨sm3, rfl, M4, by dsimp only; omega, by dsimp only; omega, by dsimp only; omega⟩
                · rw [if_neg hk0]
                  have M4 := M2.pushA hA hB eq (by rw [rq]; exact u2 0 (by omega) (by omega))
                  refine wpS_bind (wpS_elem eq ?_)
                  by_cases e5 : ((ia + k) + 1 + 1 == a.size) = true
                  · rw [if_pos e5]; exact wpS_pure ⟨sm3, .inl ⟨_, rfl, M4.lastA hB (by simpa using e5) hl⟩⟩
                  · rw [if_neg e5]
                    have e5' : ¬ (ia + k) + 1 + 1 = a.size := fun z => e5 (by simpa using z)
                    split
                    · exact wpS_pure ⟨sm3, .inr ⟨rfl, M4, by dsimp only; omega, by dsimp only; omega, by dsimp only; omega⟩⟩
                    · exact wpS_pure ⟨sm3, rfl, M4, by dsimp only; omega, by dsimp only; omega, by dsimp only; omega⟩
          · rw [if_neg hk0]
            have hk00 : k = 0 := by omega
            have M2 := M.pushB hA hB ep (by have := u2 0 (by omega) (by omega); rw [Nat.add_zero] at this; omega)
            refine wpS_bind (wpS_elem ep ?_)
            by_cases e3 : (ib + 1 == b.size) = true
            · rw [if_pos e3]; exact wpS_pure ⟨sm3, .inl ⟨_, rfl, M2.done hA (by simpa using e3)⟩⟩
            · rw [if_neg e3]
              have e3' : ¬ ib + 1 = b.size := fun z => e3 (by simpa using z)
              obtain ⟨q, eq, mq, rq⟩ := at_of (rk := rk) ha (i := ia) (by omega)
              refine wpS_bind (wpS_elem eq (wpS_bind (wpS_gallop (fun i => decide (KR rk b (ib + 1 + i) < rk q)) (fun i hi R hR => bey_t hc (sm3.1.trans hk) hb mq (by omega) hR) (fun i j hij hj z => ?_) (by omega) ?_)))
              · have z1 := of_decide_eq_true z
                have z2 := hB (ib + 1 + i) (ib + 1 + j) (by omega) (by omega) (by omega)
                exact decide_eq_true (by omega)
              intro k' hk' t1 t2
              have u1 : ∀ i, i < k' → KR rk b (ib + 1 + i) < rk q := fun i hi => of_decide_eq_true (t1 i hi)
              have u2 : ∀ i, k' ≤ i → i < b.size - (ib + 1) → rk q ≤ KR rk b (ib + 1 + i) := fun i hi hj => Nat.not_lt.mp (of_decide_eq_false (t2 i hi hj))
              dsimp only
              by_cases hk0 : k' > 0
              · rw [if_pos hk0]
                have M3 := M2.moveB (k := k') hB (fun j j1 j2 j3 i i1 i2 => by
                  have z1 := u1 (j - (ib + 1)) (by omega)
                  rw [show ib + 1 + (j - (ib + 1)) = j by omega] at z1
                  have z2 := hA ia i (by omega) i1 i2
                  omega)
                by_cases e4 : (ib + 1 + k' == b.size) = true
                · rw [if_pos e4]; exact wpS_pure ⟨sm3, .inl ⟨_, rfl, M3.done hA (by simpa using e4)⟩⟩
                · rw [if_neg e4]
                  have e4' : ¬ ib + 1 + k' = b.size := fun z => e4 (by simpa using z)
                  have M4 := M3.pushA hA hB eq (by rw [rq]; exact u2 k' (Nat.le_refl _) (by omega))
                  refine wpS_bind (wpS_elem eq ?_)
                  by_cases e5 : (ia + 1 + 1 == a.size) = true
                  · rw [if_pos e5]; exact wpS_pure ⟨sm3, .inl ⟨_, rfl, M4.lastA hB (by simpa using e5) hl⟩⟩
                  · rw [if_neg e5]
                    have e5' : ¬ ia + 1 + 1 = a.size := fun z => e5 (by simpa using z)
                    split
                    · exact wpS_pure ⟨sm3, .inr ⟨rfl, M4, by dsimp only; omega, by dsimp only; omega, by dsimp only; omega⟩⟩
                    · exact wpS_pure ⟨sm3, rfl, M4, by dsimp only; omega, by dsimp only; omega, by dsimp only; omega⟩
              · rw [if_neg hk0]
                have M4 := M2.pushA hA hB eq (by rw [rq]; exact u2 0 (by omega) (by omega))
                refine wpS_bind (wpS_elem eq ?_)
                by_cases e5 : (ia + 1 + 1 == a.size) = true
                · rw [if_pos e5]; exact wpS_pure ⟨sm3, .inl ⟨_, rfl, M4.lastA hB (by simpa using e5) hl⟩⟩
                · rw [if_neg e5]
                  have e5' : ¬ ia + 1 + 1 = a.size := fun z => e5 (by simpa using z)
                  split
                  · exact wpS_pure ⟨sm3, .inr ⟨rfl, M4, by dsimp only; omega, by dsimp only; omega, by dsimp only; omega⟩⟩
                  · exact wpS_pure ⟨sm3, rfl, M4, by dsimp only; omega, by dsimp only; omega, by dsimp only; omega⟩
        · rw [if_neg hmg]
          refine wpS_bind (wpS_setG ?_)
          refine wpS_bind (wpS_elem ep (wpS_bind (wpS_gallop (fun i => !decide (rk p < KR rk a (ia + i))) (fun i hi R hR => bey_f hc (sm3.1.trans hk) ha mp (by omega) hR) (fun i j hij hj z => ?_) (by omega) ?_)))
          · have z1 : ¬ rk p < KR rk a (ia + j) := by simpa using z
            have z2 := hA (ia + i) (ia + j) (by omega) (by omega) (by omega)
            have z3 : ¬ rk p < KR rk a (ia + i) := by omega
            simpa using z3
          intro k hk' t1 t2
          have u1 : ∀ i, i < k → KR rk a (ia + i) ≤ rk p := fun i hi => by
            have := t1 i hi
            simpa using this
          have u2 : ∀ i, k ≤ i → i < a.size - ia → rk p < KR rk a (ia + i) := fun i hi hj => by
            have := t2 i hi hj
            simpa using this
          have hkl : ia + k + 1 ≤ a.size := by
            apply Nat.le_of_not_lt
            intro z
            have z1 := u1 (a.size - 1 - ia) (by omega)
            rw [show ia + (a.size - 1 - ia) = a.size - 1 by omega] at z1
            have z2 := hl ib h2
            omega
          dsimp only
          by_cases hk0 : k > 0
          · rw [if_pos hk0]
            have M1 := M.moveA (k := k) hA (fun i i1 i2 i3 j j1 j2 => by
              have z1 := u1 (i - ia) (by omega)
              rw [show ia + (i - ia) = i by omega] at z1
              have z2 := hB ib j (by omega) j1 j2
              omega)
            by_cases e1 : (ia + k + 1 == a.size) = true
            · rw [if_pos e1]; exact wpS_pure ⟨sm3, .inl ⟨_, rfl, M1.lastA hB (by simpa using e1) hl⟩⟩
            · rw [if_neg e1]
              have e1' : ¬ ia + k + 1 = a.size := fun z => e1 (by simpa using z)
              rw [if_neg (fun z => by have z' : ia + k = a.size := by simpa using z
                                      omega)]
              have M2 := M1.pushB hA hB ep (by have := u2 k (Nat.le_refl _) (by omega); omega)
              refine wpS_bind (wpS_elem ep ?_)
              by_cases e3 : (ib + 1 == b.size) = true
              · rw [if_pos e3]; exact wpS_pure ⟨sm3, .inl ⟨_, rfl, M2.done hA (by simpa using e3)⟩⟩
              · rw [if_neg e3]
                have e3' : ¬ ib + 1 = b.size := fun z => e3 (by simpa using z)
                obtain ⟨q, eq, mq, rq⟩ := at_of (rk := rk) ha (i := (ia + k)) (by omega)
                refine wpS_bind (wpS_elem eq (wpS_bind (wpS_gallop (fun i => decide (KR rk b (ib + 1 + i) < rk q)) (fun i hi R hR => bey_t hc (sm3.1.trans hk) hb mq (by omega) hR) (fun i j hij hj z => ?_) (by omega) ?_)))
                · have z1 := of_decide_eq_true z
                  have z2 := hB (ib + 1 + i) (ib + 1 + j) (by omega) (by omega) (by omega)
                  exact decide_eq_true (by omega)
                intro k' hk' t1 t2
                have u1 : ∀ i, i < k' → KR rk b (ib + 1 + i) < rk q := fun i hi => of_decide_eq_true (t1 i hi)
                have u2 : ∀ i, k' ≤ i → i < b.size - (ib + 1) → rk q ≤ KR rk b (ib + 1 + i) := fun i hi hj => Nat.not_lt.mp (of_decide_eq_false (t2 i hi hj))
                dsimp only
                by_cases hk0 : k' > 0
                · rw [if_pos hk0]
                  have M3 := M2.moveB (k := k') hB (fun j j1 j2 j3 i i1 i2 => by
                    have z1 := u1 (j - (ib + 1)) (by omega)
                    rw [show ib + 1 + (j - (ib + 1)) = j by omega] at z1
                    have z2 := hA (ia + k) i (by omega) i1 i2
                    omega)
                  by_cases e4 : (ib + 1 + k' == b.size) = true
                  · rw [if_pos e4]; exact wpS_pure ⟨sm3, .inl ⟨_, rfl, M3.done hA (by simpa using e4)⟩⟩
                  · rw [if_neg e4]
                    have e4' : ¬ ib + 1 + k' = b.size := fun z => e4 (by simpa using z)
                    have M4 := M3.pushA hA hB eq (by rw [rq]; exact u2 k' (Nat.le_refl _) (by omega))
                    refine wpS_bind (wpS_elem eq ?_)
                    by_cases e5 : ((ia + k) + 1 + 1 == a.size) = true
                    · rw [if_pos e5]; exact wpS_pure ⟨sm3, .inl ⟨_, rfl, M4.lastA hB (by simpa using e5) hl⟩⟩
                    · rw [if_neg e5]
                      have e5' : ¬ (ia + k) + 1 + 1 = a.size := fun z => e5 (by simpa using z)
                      split
                      · exact wpS_pure ⟨sm3, .inr ⟨rfl, M4, by dsimp only; omega, by dsimp only; omega, by dsimp only; omega⟩⟩
                      · exact wpS_pure ⟨sm3, rfl, M4, by dsimp only; omega, by dsimp only; omega, by dsimp only; omega⟩
                · rw [if_neg hk0]
                  have M4 := M2.pushA hA hB eq (by rw [rq]; exact u2 0 (by omega) (by omega))
                  refine wpS_bind (wpS_elem eq ?_)
                  by_cases e5 : ((ia + k) + 1 + 1 == a.size) = true
                  · rw [if_pos e5]; exact wpS_pure ⟨sm3, .inl ⟨_, rfl, M4.lastA hB (by simpa using e5) hl⟩⟩
                  · rw [if_neg e5]
                    have e5' : ¬ (ia + k) + 1 + 1 = a.size := fun z => e5 (by simpa using z)
                    split
                    · exact wpS_pure ⟨sm3, .inr ⟨rfl, M4, by dsimp only; omega, by dsimp only; omega, by dsimp only; omega⟩⟩
                    · exact wpS_pure ⟨sm3, rfl, M4, by dsimp only; omega, by dsimp only; omega, by dsimp only; omega⟩
          · rw [if_neg hk0]
            have hk00 : k = 0 := by omega
            have M2 := M.pushB hA hB ep (by have := u2 0 (by omega) (by omega); rw [Nat.add_zero] at this; omega)
            refine wpS_bind (wpS_elem ep ?_)
            by_cases e3 : (ib + 1 == b.size) = true
            · rw [if_pos e3]; exact wpS_pure ⟨sm3, .inl ⟨_, rfl, M2.done hA (by simpa using e3)⟩⟩
            · rw [if_neg e3]
              have e3' : ¬ ib + 1 = b.size := fun z => e3 (by simpa using z)
              obtain ⟨q, eq, mq, rq⟩ := at_of (rk := rk) ha (i := ia) (by omega)
              refine wpS_bind (wpS_elem eq (wpS_bind (wpS_gallop (fun i => decide (KR rk b (ib + 1 + i) < rk q)) (fun i hi R hR => bey_t hc (sm3.1.trans hk) hb mq (by omega) hR) (fun i j hij hj z => ?_) (by omega) ?_)))
              · have z1 := of_decide_eq_true z
                have z2 := hB (ib + 1 + i) (ib + 1 + j) (by omega) (by omega) (by omega)
                exact decide_eq_true (by omega)
              intro k' hk' t1 t2
              have u1 : ∀ i, i < k' → KR rk b (ib + 1 + i) < rk q := fun i hi => of_decide_eq_true (t1 i hi)
              have u2 : ∀ i, k' ≤ i → i < b.size - (ib + 1) → rk q ≤ KR rk b (ib + 1 + i) := fun i hi hj => Nat.not_lt.mp (of_decide_eq_false (t2 i hi hj))
              dsimp only
              by_cases hk0 : k' > 0
              · rw [if_pos hk0]
                have M3 := M2.moveB (k := k') hB (fun j j1 j2 j3 i i1 i2 => by
                  have z1 := u1 (j - (ib + 1)) (by omega)
                  rw [show ib + 1 + (j - (ib + 1)) = j by omega] at z1
                  have z2 := hA ia i (by omega) i1 i2
                  omega)
                by_cases e4 : (ib + 1 + k' == b.size) = true
                · rw [if_pos e4]; exact wpS_pure ⟨sm3, .inl ⟨_, rfl, M3.done hA (by simpa using e4)⟩⟩
                · rw [if_neg e4]
                  have e4' : ¬ ib + 1 + k' = b.size := fun z => e4 (by simpa using z)
                  have M4 := M3.pushA hA hB eq (by rw [rq]; exact u2 k' (Nat.le_refl _) (by omega))
                  refine wpS_bind (wpS_elem eq ?_)
                  by_cases e5 : (ia + 1 + 1 == a.size) = true
                  · rw [if_pos e5]; exact wpS_pure ⟨sm3, .inl ⟨_, rfl, M4.lastA hB (by simpa using e5) hl⟩⟩
                  · rw [if_neg e5]
                    have e5' : ¬ ia + 1 + 1 = a.size := fun z => e5 (by simpa using z)
                    split
                    · exact wpS_pure ⟨sm3, .inr ⟨rfl, M4, by dsimp only; omega, by dsimp only; omega, by dsimp only; omega⟩⟩
                    · exact wpS_pure ⟨sm3, rfl, M4, by dsimp only; omega, by dsimp only; omega, by dsimp only; omega⟩
              · rw [if_neg hk0]
                have M4 := M2.pushA hA hB eq (by rw [rq]; exact u2 0 (by omega) (by omega))
                refine wpS_bind (wpS_elem eq ?_)
                by_cases e5 : (ia + 1 + 1 == a.size) = true
                · rw [if_pos e5]; exact wpS_pure ⟨sm3, .inl ⟨_, rfl, M4.lastA hB (by simpa using e5) hl⟩⟩
                · rw [if_neg e5]
                  have e5' : ¬ ia + 1 + 1 = a.size := fun z => e5 (by simpa using z)
                  split
                  · exact wpS_pure ⟨sm3, .inr ⟨rfl, M4, by dsimp only; omega, by dsimp only; omega, by dsimp only; omega⟩⟩
                  · exact wpS_pure ⟨sm3, rfl, M4, by dsimp only; omega, by dsimp only; omega, by dsimp only; omega⟩
end
end L2

end

section
namespace L2
open PySem PySem.W PyProof.Rows
section
variable {prog : Program} {w : World} {A : Around} {E : Value → Shared → Prop} {s : Shared} {κ : SortKind} {a₀ a b out : Array Keyed} {rk : Keyed → Nat} {na nb : Nat}
local macro_rules | `(tactic| walk_at "mergeHi") => do
  let n := Lean.mkIdent (Lean.mkPrivateNameCore `PySem.Builtin.List.W1All `PySem.Builtin.mergeHi)
  `(tactic| (delta mergeHi'; delta $n))
theorem MH.nil (rk : Keyed → Nat) (a b : Array Keyed) : MH rk a b #[] a.size b.size := by
  refine ⟨.nil, (fun _ z => nomatch z), ?_⟩
  rw [List.take_of_length_le (by simp), List.take_of_length_le (by simp)]
  simp
theorem MH.pushA' {p : Keyed} (M : MH rk a b out na nb) (hA : UpS rk a 0 a.size) (hB : UpS rk b 0 b.size) (h0 : 0 < na) (hp : a[na - 1]? = some p) (hnb : nb ≤ b.size) (h : 0 < nb → KR rk b (nb - 1) ≤ KR rk a (na - 1)) : MH rk a b (out.push p) (na - 1) nb := by
  have e : na = na - 1 + 1 := by omega
  rw [e] at M
  exact M.pushA hA hB hp hnb h
theorem MH.pushB' {p : Keyed} (M : MH rk a b out na nb) (hA : UpS rk a 0 a.size) (hB : UpS rk b 0 b.size) (h0 : 0 < nb) (hp : b[nb - 1]? = some p) (hna : na ≤ a.size) (h : 0 < na → KR rk a (na - 1) ≤ KR rk b (nb - 1)) : MH rk a b (out.push p) na (nb - 1) := (M.swap.pushA' hB hA h0 hp hna h).swap
theorem wpS_mergeHi {st : SortSt} {Q : Array Keyed → SortSt → Prop} (hc : Cmp prog w A s κ rk a₀) (hk : kindOf st = κ) (ha : ∀ p ∈ a.toList, p ∈ a₀.toList) (hb : ∀ p ∈ b.toList, p ∈ a₀.toList) (hA : UpS rk a 0 a.size) (hB : UpS rk b 0 b.size)
    (na0 : 0 < a.size) (nb0 : 0 < b.size) (h0 : KR rk b 0 < KR rk a 0) (hl : ∀ j, j < b.size → KR rk b j < KR rk a (a.size - 1)) (h : ∀ r st', Sm st st' → Gd2 rk a b r → Q r st') : wpS (model prog w) A E s (mergeHi' a b) Q st := by
  have hf : ∀ i, i < a.size → KR rk b 0 < KR rk a i := fun i hi => Nat.lt_of_lt_of_le h0 (hA 0 i (by omega) (by omega) hi)
  walk_at "mergeHi"
  dsimp only
  refine wpS_bind (wpS_lift (wpAny_rule ⟨rfl, ?_⟩))
  obtain ⟨p0, ep0, mp0, rp0⟩ := at_of (rk := rk) ha (i := a.size - 1) (by omega)
  refine wpS_bind (wpS_elem ep0 ?_)
  have M0 : MH rk a b #[p0] (a.size - 1) b.size := (MH.nil rk a b).pushA' hA hB na0 ep0 (Nat.le_refl _) (fun _ => Nat.le_of_lt (hl _ (by omega)))
  by_cases c1 : (a.size - 1 == 0) = true
  · rw [if_pos c1]; exact wpS_pure (h _ _ (Sm.refl st) (M0.done hB (by simpa using c1)))
  rw [if_neg c1]
  by_cases c2 : (b.size == 1) = true
  · rw [if_pos c2]; exact wpS_pure (h _ _ (Sm.refl st) (M0.firstB hA (by simpa using c2) hf))
  rw [if_neg c2]
  have c1' : ¬ a.size - 1 = 0 := fun z => c1 (by simpa using z)
  have c2' : ¬ b.size = 1 := fun z => c2 (by simpa using z)
  refine wpS_bind (wpS_get ?_)
  refine wpS_bind (wpS_mono (wpS_forRange (I := fun x c st' => Sm st st' ∧ c.1 = none ∧ MH rk a b c.2.2.2.1 c.2.1 c.2.2.1 ∧ 0 < c.2.1 ∧ c.2.1 ≤ a.size ∧ 1 < c.2.2.1 ∧ c.2.2.1 ≤ b.size ∧ c.2.1 + c.2.2.1 + x + 1 ≤ a.size + b.size)
    (Q := fun c st' => Sm st st' ∧ ∃ r, c.1 = some r ∧ Gd2 rk a b r) ?step ?fin ?init) ?post)
  case init => exact ⟨Sm.refl st, rfl, M0, by dsimp only; omega, by dsimp only; omega, by dsimp only; omega, by dsimp only; omega, by dsimp only; omega⟩
  case post =>
    rintro ⟨c, c'⟩ st' ⟨sm, r, e, g⟩
    dsimp only at e
    subst e
    exact wpS_pure (h r st' sm g)
  case fin =>
    rintro c st' ⟨sm, e, M, h1, h2, h3, h4, h5⟩
    omega
  case step =>
    rintro x ⟨c, na, nb, out, mg⟩ st' _ hx ⟨sm, e, M, h1, h2, h3, h4, h5⟩
    dsimp only at e M h1 h2 h3 h4 h5
    subst e
    dsimp only
    refine wpS_bind (wpS_mono (wpS_forRange (I := fun y c st' => Sm st st' ∧ c.1 = none ∧ MH rk a b c.2.2.2.1 c.2.1 c.2.2.1 ∧ 0 < c.2.1 ∧ c.2.1 ≤ a.size ∧ 1 < c.2.2.1 ∧ c.2.2.1 ≤ b.size ∧ c.2.1 + c.2.2.1 + x + 1 ≤ a.size + b.size)
      (Q := fun c st' => Sm st st' ∧ ((∃ r, c.1 = some r ∧ Gd2 rk a b r) ∨ c.1 = none ∧ MH rk a b c.2.2.2.1 c.2.1 c.2.2.1 ∧ 0 < c.2.1 ∧ c.2.1 ≤ a.size ∧ 1 < c.2.2.1 ∧ c.2.2.1 ≤ b.size ∧ c.2.1 + c.2.2.1 + x + 1 ≤ a.size + b.size)) ?istep ?ifin ⟨sm, rfl, M, h1, h2, h3, h4, h5⟩) ?ipost)
    case ifin =>
      rintro c st2 ⟨sm, z⟩
      exact ⟨sm, .inr z⟩
    case istep =>
      rintro y ⟨c, na, nb, out, ac, bc⟩ st2 _ hy ⟨sm2, e, M, h1, h2, h3, h4, h5⟩
      dsimp only at e M h1 h2 h3 h4 h5
      subst e
      dsimp only
      obtain ⟨p, ep, mp, rp⟩ := at_of (rk := rk) hb (i := nb - 1) (by omega)
      obtain ⟨q, eq, mq, rq⟩ := at_of (rk := rk) ha (i := na - 1) (by omega)
      refine wpS_bind (wpS_elem ep (wpS_bind (wpS_elem eq (wpS_bind (wpS_lt hc (sm2.1.trans hk) mp mq ?_)))))
      dsimp only
      by_cases hw : rk p < rk q
      · rw [decide_eq_true hw, if_pos rfl]
        refine wpS_bind (wpS_elem eq ?_)
        have M' := M.pushA' hA hB h1 eq h4 (fun _ => by omega)
        by_cases e1 : (na - 1 == 0) = true
        · rw [if_pos e1]; exact wpS_pure ⟨sm2, .inl ⟨_, rfl, M'.done hB (by simpa using e1)⟩⟩
        · rw [if_neg e1]
          have e1' : ¬ na - 1 = 0 := fun z => e1 (by simpa using z)
          split
          · exact wpS_pure ⟨sm2, .inr ⟨rfl, M', by dsimp only; omega, by dsimp only; omega, h3, h4, by dsimp only; omega⟩⟩
          · exact wpS_pure ⟨sm2, rfl, M', by dsimp only; omega, by dsimp only; omega, h3, h4, by dsimp only; omega⟩
      · rw [decide_eq_false hw, if_neg (by decide)]
        refine wpS_bind (wpS_elem ep ?_)
        have M' := M.pushB' hA hB (by omega) ep h2 (fun _ => by omega)
        by_cases e1 : (nb - 1 == 1) = true
        · rw [if_pos e1]; exact wpS_pure ⟨sm2, .inl ⟨_, rfl, M'.firstB hA (by simpa using e1) hf⟩⟩
        · rw [if_neg e1]
          have e1' : ¬ nb - 1 = 1 := fun z => e1 (by simpa using z)
          split
          · exact wpS_pure ⟨sm2, .inr ⟨rfl, M', h1, h2, by dsimp only; omega, by dsimp only; omega, by dsimp only; omega⟩⟩
          · exact wpS_pure ⟨sm2, rfl, M', h1, h2, by dsimp only; omega, by dsimp only; omega, by dsimp only; omega⟩
    case ipost =>
      rintro ⟨c, na, nb, out, ac, bc⟩ st2 ⟨sm2, ⟨r, e, g⟩ | ⟨e, M, h1, h2, h3, h4, h5⟩⟩
      · dsimp only at e
        subst e
        exact wpS_pure ⟨sm2, r, rfl, g⟩
      dsimp only at e M h1 h2 h3 h4 h5
      subst e
      dsimp only
      refine wpS_bind (wpS_lift (wpAny_rule ⟨rfl, ?_⟩))
      refine wpS_bind (wpS_mono (wpS_forRange (I := fun y c st' => Sm st st' ∧ c.1 = none ∧ MH rk a b c.2.2.2.1 c.2.1 c.2.2.1 ∧ 0 < c.2.1 ∧ c.2.1 ≤ a.size ∧ 1 < c.2.2.1 ∧ c.2.2.1 ≤ b.size ∧ c.2.1 + c.2.2.1 + x + 1 + y ≤ a.size + b.size)
        (Q := fun c st' => Sm st st' ∧ ((∃ r, c.1 = some r ∧ Gd2 rk a b r) ∨ c.1 = none ∧ MH rk a b c.2.2.2.1 c.2.1 c.2.2.1 ∧ 0 < c.2.1 ∧ c.2.1 ≤ a.size ∧ 1 < c.2.2.1 ∧ c.2.2.1 ≤ b.size ∧ c.2.1 + c.2.2.1 + x + 1 + 1 ≤ a.size + b.size)) ?gstep ?gfin ⟨sm2, rfl, M, h1, h2, h3, h4, h5⟩) ?gpost)
      case gfin =>
        rintro c st3 ⟨sm3, e, M, h1, h2, h3, h4, h5⟩
        exact ⟨sm3, .inr ⟨e, M, h1, h2, h3, h4, by omega⟩⟩
      case gpost =>
        rintro ⟨c, na, nb, out, mg, ac, bc⟩ st3 ⟨sm3, ⟨r, e, g⟩ | ⟨e, M, h1, h2, h3, h4, h5⟩⟩
        · dsimp only at e
          subst e
          exact wpS_pure ⟨sm3, r, rfl, g⟩
        dsimp only at e M h1 h2 h3 h4 h5
        subst e
        exact wpS_bind (wpS_setG (wpS_pure ⟨sm3.g _, rfl, M, h1, h2, h3, h4, by dsimp only; omega⟩))
      case gstep =>
        clear sm2 M h1 h2 h3 h4 h5
        rintro y ⟨c, na, nb, out, mg, ac, bc⟩ st3 _ hy ⟨sm3, e, M, h1, h2, h3, h4, h5⟩
        dsimp only at e M h1 h2 h3 h4 h5
        subst e
        dsimp only
        obtain ⟨p, ep, mp, rp⟩ := at_of (rk := rk) hb (i := nb - 1) (by omega)
        by_cases hmg : mg > 1
        · rw [if_pos hmg]
          refine wpS_bind (wpS_setG ?_)
          refine wpS_bind (wpS_elem ep (wpS_bind (wpS_gallop (fun i => !decide (rk p < KR rk a (0 + i))) (fun i hi R hR => bey_f hc (sm3.1.trans hk) ha mp (by omega) hR) (fun i j hij hj z => ?_) (by omega) ?_)))
          · have z1 : ¬ rk p < KR rk a (0 + j) := by simpa using z
            have z2 := hA (0 + i) (0 + j) (by omega) (by omega) (by omega)
            have z3 : ¬ rk p < KR rk a (0 + i) := by omega
            simpa using z3
          intro at_ hat t1 t2
          have u1 : ∀ i, i < at_ → KR rk a i ≤ rk p := fun i hi => by
            have := t1 i hi
            simpa using this
          have u2 : ∀ i, at_ ≤ i → i < na → rk p < KR rk a i := fun i hi hj => by
            have := t2 i hi hj
            simpa using this
          dsimp only
          by_cases hk0 : na - at_ > 0
          · rw [if_pos hk0]
            have M1 := M.moveA (at_ := at_) hA (by omega) (fun i i1 i2 i3 j j1 j2 => by
              have z1 := u2 i i1 i2
              have z2 := hB j (nb - 1) (by omega) (by omega) (by omega)
              omega)
            by_cases e1 : (at_ == 0) = true
            · rw [if_pos e1]; exact wpS_pure ⟨sm3, .inl ⟨_, rfl, M1.done hB (by simpa using e1)⟩⟩
            · rw [if_neg e1]
              have e1' : ¬ at_ = 0 := fun z => e1 (by simpa using z)
              have M2 := M1.pushB' hA hB (by omega) ep (by omega) (fun z => by rw [rp]; exact u1 _ (by omega))
              refine wpS_bind (wpS_elem ep ?_)
              by_cases e3 : (nb - 1 == 1) = true
              · rw [if_pos e3]; exact wpS_pure ⟨sm3, .inl ⟨_, rfl, M2.firstB hA (by simpa using e3) hf⟩⟩
              · rw [if_neg e3]
                have e3' : ¬ nb - 1 = 1 := fun z => e3 (by simpa using z)
                obtain ⟨q, eq, mq, rq⟩ := at_of (rk := rk) ha (i := at_ - 1) (by omega)
                refine wpS_bind (wpS_elem eq (wpS_bind (wpS_gallop (fun i => decide (KR rk b (0 + i) < rk q)) (fun i hi R hR => bey_t hc (sm3.1.trans hk) hb mq (by omega) hR) (fun i j hij hj z => ?_) (by omega) ?_)))
                · have z1 := of_decide_eq_true z
                  have z2 := hB (0 + i) (0 + j) (by omega) (by omega) (by omega)
                  exact decide_eq_true (by omega)
                intro at2 hat2 t1 t2
                have u1 : ∀ i, i < at2 → KR rk b i < rk q := fun i hi => by
                  have z := of_decide_eq_true (t1 i hi)
                  rwa [Nat.zero_add] at z
                have u2 : ∀ i, at2 ≤ i → i < nb - 1 → rk q ≤ KR rk b i := fun i hi hj => by
                  have z := Nat.not_lt.mp (of_decide_eq_false (t2 i hi hj))
                  rwa [Nat.zero_add] at z
                have hat1 : 1 ≤ at2 := by
                  apply Nat.le_of_not_lt
                  intro z
                  have z1 := u2 0 (by omega) (by omega)
                  have z2 := hf (at_ - 1) (by omega)
                  omega
                dsimp only
                by_cases hk0 : nb - 1 - at2 > 0
                · rw [if_pos hk0]
                  have M3 := M2.moveB (at_ := at2) hB (by omega) (fun j j1 j2 j3 i i1 i2 => by
                    have z1 := u2 j j1 j2
                    have z2 := hA i (at_ - 1) (by omega) (by omega) (by omega)
                    omega)
                  by_cases e4 : (at2 == 1) = true
                  · rw [if_pos e4]; exact wpS_pure ⟨sm3, .inl ⟨_, rfl, M3.firstB hA (by simpa using e4) hf⟩⟩
                  · rw [if_neg e4]
                    have e4' : ¬ at2 = 1 := fun z => e4 (by simpa using z)
                    rw [if_neg (fun z => by have z' : at2 = 0 := by simpa using z
                                            omega)]
                    have M4 := M3.pushA' hA hB (by omega) eq (by omega) (fun z => by rw [rq]; exact Nat.le_of_lt (u1 _ (by omega)))
                    refine wpS_bind (wpS_elem eq ?_)
                    by_cases e5 : (at_ - 1 == 0) = true
                    · rw [if_pos e5]; exact wpS_pure ⟨sm3, .inl ⟨_, rfl, M4.done hB (by simpa using e5)⟩⟩
                    · rw [if_neg e5]
                      have e5' : ¬ at_ - 1 = 0 := fun z => e5 (by simpa using z)
                      split
                      · exact wpS_pure ⟨sm3, .inr ⟨rfl, M4, by dsimp only; omega, by dsimp only; omega, by dsimp only; omega, by dsimp only; omega, by dsimp only; omega⟩⟩
                      · exact wpS_pure ⟨sm3, rfl, M4, by dsimp only; omega, by dsimp only; omega, by dsimp only; omega, by dsimp only; omega, by dsimp only; omega⟩
                · rw [if_neg hk0]
                  have M4 := M2.pushA' hA hB (by omega) eq (by omega) (fun z => by rw [rq]; exact Nat.le_of_lt (u1 _ (by omega)))
                  refine wpS_bind (wpS_elem eq ?_)
                  by_cases e5 : (at_ - 1 == 0) = true
                  · rw [if_pos e5]; exact wpS_pure ⟨sm3, .inl ⟨_, rfl, M4.done hB (by simpa using e5)⟩⟩
                  · rw [if_neg e5]
                    have e5' : ¬ at_ - 1 = 0 := fun z => e5 (by simpa using z)
                    split
                    · exact wpS_pure ⟨sm3, .inr ⟨rfl, M4, by dsimp only; omega, by dsimp only; omega, by dsimp only; omega, by dsimp only; omega, by dsimp only; omega⟩⟩
                    · exact wpS_pure ⟨sm3, rfl, M4, by dsimp only; omega, by dsimp only; omega, by dsimp only; omega, by dsimp only; omega, by dsimp only; omega⟩
          · rw [if_neg hk0]
            have M2 := M.pushB' hA hB (by omega) ep (by omega) (fun z => by rw [rp]; exact u1 _ (by omega))
            refine wpS_bind (wpS_elem ep ?_)
            by_cases e3 : (nb - 1 == 1) = true
            · rw [if_pos e3]; exact wpS_pure ⟨sm3, .inl ⟨_, rfl, M2.firstB hA (by simpa using e3) hf⟩⟩
            · rw [if_neg e3]
              have e3' : ¬ nb - 1 = 1 := fun z => e3 (by simpa using z)
              obtain ⟨q, eq, mq, rq⟩ := at_of (rk := rk) ha (i := na - 1) (by omega)
              refine wpS_bind (wpS_elem eq (wpS_bind (wpS_gallop (fun i => decide (KR rk b (0 + i) < rk q)) (fun i hi R hR => bey_t hc (sm3.1.trans hk) hb mq (by omega) hR) (fun i j hij hj z => ?_) (by omega) ?_)))
              · have z1 := of_decide_eq_true z
                have z2 := hB (0 + i) (0 + j) (by omega) (by omega) (by omega)
                exact decide_eq_true (by omega)
              intro at2 hat2 t1 t2
              have u1 : ∀ i, i < at2 → KR rk b i < rk q := fun i hi => by
                have z := of_decide_eq_true (t1 i hi)
                rwa [Nat.zero_add] at z
              have u2 : ∀ i, at2 ≤ i → i < nb - 1 → rk q ≤ KR rk b i := fun i hi hj => by
                have z := Nat.not_lt.mp (of_decide_eq_false (t2 i hi hj))
                rwa [Nat.zero_add] at z
              have hat1 : 1 ≤ at2 := by
                apply Nat.le_of_not_lt
                intro z
                have z1 := u2 0 (by omega) (by omega)
                have z2 := hf (na - 1) (by omega)
                omega
              dsimp only
              by_cases hk0 : nb - 1 - at2 > 0
              · rw [if_pos hk0]
                have M3 := M2.moveB (at_ := at2) hB (by omega) (fun j j1 j2 j3 i i1 i2 => by
                  have z1 := u2 j j1 j2
                  have z2 := hA i (na - 1) (by omega) (by omega) (by omega)
                  omega)
                by_cases e4 : (at2 == 1) = true
                · rw [if_pos e4]; exact wpS_pure ⟨sm3, .inl ⟨_, rfl, M3.firstB hA (by simpa using e4) hf⟩⟩
                · rw [if_neg e4]
                  have e4' : ¬ at2 = 1 := fun z => e4 (by simpa using z)
                  rw [if_neg (fun z => by have z' : at2 = 0 := by simpa using z
                                          omega)]
                  have M4 := M3.pushA' hA hB (by omega) eq (by omega) (fun z => by rw [rq]; exact Nat.le_of_lt (u1 _ (by omega)))
                  refine wpS_bind (wpS_elem eq ?_)
                  by_cases e5 : (na - 1 == 0) = true
                  · rw [if_pos e5]; exact wpS_pure ⟨sm3, .inl ⟨_, rfl, M4.done hB (by simpa using e5)⟩⟩
                  · rw [if_neg e5]
                    have e5' : ¬ na - 1 = 0 := fun z => e5 (by simpa using z)
                    split
                    · exact wpS_pure ⟨sm3, .inr ⟨rfl, M4, by dsimp only; omega, by dsimp only; omega, by dsimp only; omega, by dsimp only; omega, by dsimp only; omega⟩⟩
                    · exact wpS_pure ⟨sm3, rfl, M4, by dsimp only; omega, by dsimp only; omega, by dsimp only; omega, by dsimp only; omega, by dsimp only; omega⟩
              · rw [if_neg hk0]
                have M4 := M2.pushA' hA hB (by omega) eq (by omega) (fun z => by rw [rq]; exact Nat.le_of_lt (u1 _ (by omega)))
                refine wpS_bind (wpS_elem eq ?_)
                by_cases e5 : (na - 1 == 0) = true
                · rw [if_pos e5]; exact wpS_pure ⟨sm3, .inl ⟨_, rfl, M4.done hB (by simpa using e5)⟩⟩
                · rw [if_neg e5]
                  have e5' : ¬ na - 1 = 0 := fun z => e5 (by simpa using z)
                  split
                  · exact wpS_pure ⟨sm3, .inr ⟨rfl, M4, by dsimp only; omega, by dsimp only; omega, by dsimp only; omega, by dsimp only; omega, by dsimp only; omega⟩⟩
                  · exact wpS_pure ⟨sm3, rfl, M4, by dsimp only; omega, by dsimp only; omega, by dsimp only; omega, by dsimp only; omega, by dsimp only; omega⟩
        · rw [if_neg hmg]
          refine wpS_bind (wpS_setG ?_)
          refine wpS_bind (wpS_elem ep (wpS_bind (wpS_gallop (fun i => !decide (rk p < KR rk a (0 + i))) (fun i hi R hR => bey_f hc (sm3.1.trans hk) ha mp (by omega) hR) (fun i j hij hj z => ?_) (by omega) ?_)))
          · have z1 : ¬ rk p < KR rk a (0 + j) := by simpa using z
            have z2 := hA (0 + i) (0 + j) (by omega) (by omega) (by omega)
            have z3 : ¬ rk p < KR rk a (0 + i) := by omega
            simpa using z3
          intro at_ hat t1 t2
          have u1 : ∀ i, i < at_ → KR rk a i ≤ rk p := fun i hi => by
            have := t1 i hi
            simpa using this
          have u2 : ∀ i, at_ ≤ i → i < na → rk p < KR rk a i := fun i hi hj => by
            have := t2 i hi hj
            simpa using this
          dsimp only
          by_cases hk0 : na - at_ > 0
          · rw [if_pos hk0]
            have M1 := M.moveA (at_ := at_) hA (by omega) (fun i i1 i2 i3 j j1 j2 => by
              have z1 := u2 i i1 i2
              have z2 := hB j (nb - 1) (by omega) (by omega) (by omega)
              omega)
            by_cases e1 : (at_ == 0) = true
            · rw [if_pos e1]; exact wpS_pure ⟨sm3, .inl ⟨_, rfl, M1.done hB (by simpa using e1)⟩⟩
            · rw [if_neg e1]
              have e1' : ¬ at_ = 0 := fun z => e1 (by simpa using z)
              have M2 := M1.pushB' hA hB (by omega) ep (by omega) (fun z => by rw [rp]; exact u1 _ (by omega))
              refine wpS_bind (wpS_elem ep ?_)
              by_cases e3 : (nb - 1 == 1) = true
              · rw [if_pos e3]; exact wpS_pure ⟨sm3, .inl ⟨_, rfl, M2.firstB hA (by simpa using e3) hf⟩⟩
              · rw [if_neg e3]
                have e3' : ¬ nb - 1 = 1 := fun z => e3 (by simpa using z)
                obtain ⟨q, eq, mq, rq⟩ := at_of (rk := rk) ha (i := at_ - 1) (by omega)
                refine wpS_bind (wpS_elem eq (wpS_bind (wpS_gallop (fun i => decide (KR rk b (0 + i) < rk q)) (fun i hi R hR => bey_t hc (sm3.1.trans hk) hb mq (by omega) hR) (fun i j hij hj z => ?_) (by omega) ?_)))
                · have z1 := of_decide_eq_true z
                  have z2 := hB (0 + i) (0 + j) (by omega) (by omega) (by omega)
                  exact decide_eq_true (by omega)
                intro at2 hat2 t1 t2
                have u1 : ∀ i, i < at2 → KR rk b i < rk q := fun i hi => by
                  have z := of_decide_eq_true (t1 i hi)
                  rwa [Nat.zero_add] at z
                have u2 : ∀ i, at2 ≤ i → i < nb - 1 → rk q ≤ KR rk b i := fun i hi hj => by
                  have z := Nat.not_lt.mp (of_decide_eq_false (t2 i hi hj))
                  rwa [Nat.zero_add] at z
                have hat1 : 1 ≤ at2 := by
                  apply Nat.le_of_not_lt
                  intro z
                  have z1 := u2 0 (by omega) (by omega)
                  have z2 := hf (at_ - 1) (by omega)
                  omega
                dsimp only
                by_cases hk0 : nb - 1 - at2 > 0
                · rw [if_pos hk0]
                  have M3 := M2.moveB (at_ := at2) hB (by omega) (fun j j1 j2 j3 i i1 i2 => by
                    have z1 := u2 j j1 j2
                    have z2 := hA i (at_ - 1) (by omega) (by omega) (by omega)
                    omega)
                  by_cases e4 : (at2 == 1) = true
                  · rw [if_pos e4]; exact wpS_pure ⟨sm3, .inl ⟨_, rfl, M3.firstB hA (by simpa using e4) hf⟩⟩
                  · rw [if_neg e4]
                    have e4' : ¬ at2 = 1 := fun z => e4 (by simpa using z)
                    rw [if_neg (fun z => by have z' : at2 = 0 := by simpa using z
                                            omega)]
                    have M4 := M3.pushA' hA hB (by omega) eq (by omega) (fun z => by rw [rq]; exact Nat.le_of_lt (u1 _ (by omega)))
                    refine wpS_bind (wpS_elem eq ?_)
                    by_cases e5 : (at_ - 1 == 0) = true
                    · rw [if_pos e5]; exact wpS_pure ⟨sm3, .inl ⟨_, rfl, M4.done hB (by simpa using e5)⟩⟩
                    · rw [if_neg e5]
                      have e5' : ¬ at_ - 1 = 0 := fun z => e5 (by simpa using z)
                      split
                      · exact wpS_pure ⟨sm3, .inr ⟨rfl, M4, by dsimp only; omega, by dsimp only; omega, by dsimp only; omega, by dsimp only; omega, by dsimp only; omega⟩⟩
                      · exact wpS_pure ⟨sm3, rfl, M4, by dsimp only; omega, by dsimp only; omega, by dsimp only; omega, by dsimp only; omega, by dsimp only; omega⟩
                · rw [if_neg hk0]
                  have M4 := M2.pushA' hA hB (by omega) eq (by omega) (fun z => by rw [rq]; exact Nat.le_of_lt (u1 _ (by omega)))
                  refine wpS_bind (wpS_elem eq ?_)
                  by_cases e5 : (at_ - 1 == 0) = true
                  · rw [if_pos e5]; exact wpS_pure ⟨sm3, .inl ⟨_, rfl, M4.done hB (by simpa using e5)⟩⟩
                  · rw [if_neg e5]
                    have e5' : ¬ at_ - 1 = 0 := fun z => e5 (by simpa using z)
                    split
                    · exact wpS_pure ⟨sm3, .inr ⟨rfl, M4, by dsimp only; omega, by dsimp only; omega, by dsimp only; omega, by dsimp only; omega, by dsimp only; omega⟩⟩
                    · exact wpS_pure ⟨sm3, rfl, M4, by dsimp only; omega, by dsimp only; omega, by dsimp only; omega, by dsimp only; omega, by dsimp only; omega⟩
          · rw [if_neg hk0]
            have M2 := M.pushB' hA hB (by omega) ep (by omega) (fun z => by rw [rp]; exact u1 _ (by omega))
            refine wpS_bind (wpS_elem ep ?_)
            by_cases e3 : (nb - 1 == 1) = true
            · rw [if_pos e3]; exact wpS_pure ⟨sm3, .inl ⟨_, rfl, M2.firstB hA (by simpa using e3) hf⟩⟩
            · rw [if_neg e3]
              have e3' : ¬ nb - 1 = 1 := fun z => e3 (by simpa using z)
              obtain ⟨q, eq, mq, rq⟩ := at_of (rk := rk) ha (i := na - 1) (by omega)
              refine wpS_bind (wpS_elem eq (wpS_bind (wpS_gallop (fun i => decide (KR rk b (0 + i) < rk q)) (fun i hi R hR => bey_t hc (sm3.1.trans hk) hb mq (by omega) hR) (fun i j hij hj z => ?_) (by omega) ?_)))
              · have z1 := of_decide_eq_true z
                have z2 := hB (0 + i) (0 + j) (by omega) (by omega) (by omega)
                exact decide_eq_true (by omega)
              intro at2 hat2 t1 t2
              have u1 : ∀ i, i < at2 → KR rk b i < rk q := fun i hi => by
                have z := of_decide_eq_true (t1 i hi)
                rwa [Nat.zero_add] at z
              have u2 : ∀ i, at2 ≤ i → i < nb - 1 → rk q ≤ KR rk b i := fun i hi hj => by
                have z := Nat.not_lt.mp (of_decide_eq_false (t2 i hi hj))
                rwa [Nat.zero_add] at z
              have hat1 : 1 ≤ at2 := by
                apply Nat.le_of_not_lt
                intro z
                have z1 := u2 0 (by omega) (by omega)
                have z2 := hf (na - 1) (by omega)
                omega
              dsimp only
              by_cases hk0 : nb - 1 - at2 > 0
              · rw [if_pos hk0]
                have M3 := M2.moveB (at_ := at2) hB (by omega) (fun j j1 j2 j3 i i1 i2 => by
                  have z1 := u2 j j1 j2
                  have z2 := hA i (na - 1) (by omega) (by omega) (by omega)
                  omega)
                by_cases e4 : (at2 == 1) = true
                · rw [if_pos e4]; exact wpS_pure ⟨sm3, .inl ⟨_, rfl, M3.firstB hA (by simpa using e4) hf⟩⟩
                · rw [if_neg e4]
                  have e4' : ¬ at2 = 1 := fun z => e4 (by simpa using z)
                  rw [if_neg (fun z => by have z' : at2 = 0 := by simpa using z
                                          omega)]
                  have M4 := M3.pushA' hA hB (by omega) eq (by omega) (fun z => by rw [rq]; exact Nat.le_of_lt (u1 _ (by omega)))
                  refine wpS_bind (wpS_elem eq ?_)
                  by_cases e5 : (na - 1 == 0) = true
                  · rw [if_pos e5]; exact wpS_pure ⟨sm3, .inl ⟨_, rfl, M4.done hB (by simpa using e5)⟩⟩
                  · rw [if_neg e5]
                    have e5' : ¬ na - 1 = 0 := fun z => e5 (by simpa using z)
                    split
                    · exact wpS_pure ⟨sm3, .inr ⟨rfl, M4, by dsimp only; omega, by dsimp only; omega, by dsimp only; omega, by dsimp only; omega, by dsimp only; omega⟩⟩
                    · exact wpS_pure ⟨sm3, rfl, M4, by dsimp only; omega, by dsimp only; omega, by dsimp only; omega, by dsimp only; omega, by dsimp only; omega⟩
              · rw [if_neg hk0]
                have M4 := M2.pushA' hA hB (by omega) eq (by omega) (fun z => by rw [rq]; exact Nat.le_of_lt (u1 _ (by omega)))
                refine wpS_bind (wpS_elem eq ?_)
                by_cases e5 : (na - 1 == 0) = true
                · rw [if_pos e5]; exact wpS_pure ⟨sm3, .inl ⟨_, rfl, M4.done hB (by simpa using e5)⟩⟩
                · rw [if_neg e5]
                  have e5' : ¬ na - 1 = 0 := fun z => e5 (by simpa using z)
                  split
                  · exact wpS_pure ⟨sm3, .inr ⟨rfl, M4, by dsimp only; omega, by dsimp only; omega, by dsimp only; omega, by dsimp only; omega, by dsimp only; omega⟩⟩
                  · exact wpS_pure ⟨sm3, rfl, M4, by dsimp only; omega, by dsimp only; omega, by dsimp only; omega, by dsimp only; omega, by dsimp only; omega⟩
end
end L2

end

section
namespace L2
open PySem PySem.W PyProof.Rows
local macro_rules | `(tactic| walk_at "mergeAt") => do
  let n := Lean.mkIdent (Lean.mkPrivateNameCore `PySem.Builtin.List.W1All `PySem.Builtin.mergeAt)
  `(tactic| (delta mergeAt'; delta $n))
section
variable {rk : Keyed → Nat}
theorem set_all (sa : Nat) : ∀ (m : List Keyed) (j0 : Nat) (xs : Array Keyed), sa + j0 + m.length ≤ xs.size →
    ((m.zipIdx j0).foldl (fun a (x : Keyed × Nat) => a.setIfInBounds (sa + x.2) x.1) xs).toList = xs.toList.take (sa + j0) ++ m ++ xs.toList.drop (sa + j0 + m.length)
  | [], j0, xs, h => by simp
  | p :: m, j0, xs, h => by
    rw [List.length_cons] at h
    rw [List.zipIdx_cons, List.foldl_cons, set_all sa m (j0 + 1) _ (by rw [Array.size_setIfInBounds]; omega), Array.toList_setIfInBounds]
    have hl : sa + j0 < xs.toList.length := by rw [Array.length_toList]; omega
    have e1 : (xs.toList.set (sa + j0) p).take (sa + (j0 + 1)) = xs.toList.take (sa + j0) ++ [p] := by
      rw [show sa + (j0 + 1) = sa + j0 + 1 by omega, List.take_succ_eq_append_getElem (by rw [List.length_set]; exact hl), List.getElem_set_self, List.take_set_of_le (Nat.le_refl _)]
    have e2 : (xs.toList.set (sa + j0) p).drop (sa + (j0 + 1) + m.length) = xs.toList.drop (sa + j0 + (p :: m).length) := by
      rw [List.drop_set_of_lt (by omega), List.length_cons]
      congr 1; omega
    rw [e1, e2]
    simp
theorem KR_ext {a : Array Keyed} {i j k : Nat} (h : i + k < j) (hj : j ≤ a.size) : KR rk (a.extract i j) k = KR rk a (i + k) := by
  refine KR_congr ?_
  rw [Array.getElem?_extract, if_pos (by omega)]
theorem up_ext {a : Array Keyed} {i j : Nat} (h : UpS rk a i j) (hj : j ≤ a.size) : UpS rk (a.extract i j) 0 (a.extract i j).size := by
  intro x y _ hxy hy
  rw [Array.size_extract, Nat.min_eq_left hj] at hy
  rw [KR_ext (by omega) hj, KR_ext (by omega) hj]
  exact h _ _ (by omega) (by omega) (by omega)
theorem up_join {a : Array Keyed} {n m : Nat} (h1 : UpS rk a 0 n) (h2 : UpS rk a n m) (h : 0 < n → n < m → KR rk a (n - 1) ≤ KR rk a n) : UpS rk a 0 m := by
  intro i j _ hij hj
  by_cases c : j < n
  · exact h1 i j (by omega) hij c
  · by_cases d : n ≤ i
    · exact h2 i j d hij hj
    · have z1 := h1 i (n - 1) (by omega) (by omega) (by omega)
      have z2 := h2 n j (by omega) (by omega) hj
      have z3 := h (by omega) (by omega)
      omega
theorem mem_ext {a : Array Keyed} {i j : Nat} {y : Keyed} (h : y ∈ (a.extract i j).toList) : ∃ k, i ≤ k ∧ k < j ∧ k < a.size ∧ a[k]? = some y := by
  rw [ext_dr] at h
  obtain ⟨c, hc, e⟩ := List.mem_iff_getElem.mp h
  rw [List.length_take, List.length_drop, Array.length_toList] at hc
  rw [List.getElem_take, List.getElem_drop] at e
  refine ⟨i + c, Nat.le_add_right _ _, by omega, by omega, ?_⟩
  rw [← Array.getElem?_toList, List.getElem?_eq_getElem (by rw [Array.length_toList]; omega), e]
/-- the merged part laid back -/
theorem laid_back {a r : Array Keyed} {k n nb : Nat} (hk : k ≤ n) (hn : n + nb ≤ a.size) (h1 : UpS rk a 0 n) (h2 : UpS rk a n a.size) (g : Gd2 rk (a.extract k n) (a.extract n (n + nb)) r) (hn1 : k < n) (hn2 : 0 < nb)
    (u1 : ∀ i, i < k → KR rk a i ≤ KR rk a n) (u2 : ∀ i, k ≤ i → i < n → KR rk a n < KR rk a i) (u3 : ∀ i, n + nb ≤ i → i < a.size → KR rk a (n - 1) ≤ KR rk a i) :
    let ys := r.toList.zipIdx.foldl (fun a (x : Keyed × Nat) => a.setIfInBounds (k + x.2) x.1) a
    ys.Perm a ∧ UpS rk ys 0 a.size := by
  intro ys
  obtain ⟨gs, gp⟩ := g
  have hl : r.toList.length = n - k + nb := by
    rw [gp.length_eq, List.length_append, Array.length_toList, Array.length_toList, Array.size_extract, Array.size_extract]; omega
  have e : ys.toList = a.toList.take k ++ r.toList ++ a.toList.drop (n + nb) := by
    have z := set_all k r.toList 0 a (by rw [hl]; omega)
    rw [hl] at z
    rw [show k + 0 = k by omega, show k + (n - k + nb) = n + nb by omega] at z
    exact z
  have ea : a.toList = a.toList.take k ++ ((a.extract k n).toList ++ (a.extract n (n + nb)).toList) ++ a.toList.drop (n + nb) := by
    rw [ext_dr, ext_dr]
    have s1 : a.toList.take n = a.toList.take k ++ (a.toList.drop k).take (n - k) := tk_split _ _ _ hk
    have s2 : a.toList.drop n = (a.toList.drop n).take nb ++ a.toList.drop (n + nb) := dr_split _ _ _
    rw [show n + nb - n = nb by omega, ← List.append_assoc, ← s1, List.append_assoc, ← s2, List.take_append_drop]
  have hp : ys.toList.Perm a.toList := by
    rw [e]
    refine List.Perm.trans ?_ (List.Perm.of_eq ea.symm)
    exact List.Perm.append_right _ (List.Perm.append_left _ gp)
  have hsz : ys.size = a.size := by
    have := hp.length_eq
    simpa using this
  refine ⟨Array.perm_iff_toList_perm.mpr hp, ?_⟩
  rw [← hsz]
  refine up_of ?_
  rw [e]
  have inM : ∀ y ∈ r.toList, ∃ i, k ≤ i ∧ i < n + nb ∧ a[i]? = some y := by
    intro y hy
    rcases List.mem_append.mp (gp.mem_iff.mp hy) with hy | hy
    · obtain ⟨i, i1, i2, i3, i4⟩ := mem_ext hy
      exact ⟨i, i1, by omega, i4⟩
    · obtain ⟨i, i1, i2, i3, i4⟩ := mem_ext hy
      exact ⟨i, by omega, i2, i4⟩
  refine List.pairwise_append.mpr ⟨List.pairwise_append.mpr ⟨?_, gs, fun x hx y hy => ?_⟩, ?_, fun x hx y hy => ?_⟩
  · refine List.pairwise_iff_getElem.mpr fun i j hi hj hij => ?_
    rw [List.length_take, Array.length_toList] at hi hj
    have z := h1 i j (by omega) (by omega) (by omega)
    rw [KR_some (getElem?_pos a i (by omega)), KR_some (getElem?_pos a j (by omega))] at z
    rw [List.getElem_take, List.getElem_take]
    exact z
  · obtain ⟨i, i1, i2, i3⟩ := mem_tk hx
    obtain ⟨j, j1, j2, j3⟩ := inM y hy
    have z1 := u1 i i1
    rw [← KR_some (rk := rk) i3, ← KR_some (rk := rk) j3]
    by_cases c : j < n
    · have := u2 j j1 c; omega
    · have := h2 n j (Nat.le_refl _) (by omega) (by omega); omega
  · refine List.pairwise_iff_getElem.mpr fun i j hi hj hij => ?_
    rw [List.length_drop, Array.length_toList] at hi hj
    have z := h2 (n + nb + i) (n + nb + j) (by omega) (by omega) (by omega)
    rw [KR_some (getElem?_pos a _ (by omega)), KR_some (getElem?_pos a _ (by omega))] at z
    rw [List.getElem_drop, List.getElem_drop]
    exact z
  · obtain ⟨j, j1, j2, j3⟩ := mem_dr hy
    rw [← KR_some (rk := rk) j3]
    rcases List.mem_append.mp hx with hx | hx
    · obtain ⟨i, i1, i2, i3⟩ := mem_tk hx
      rw [← KR_some (rk := rk) i3]
      have z1 := u1 i i1
      have z2 := h2 n j (Nat.le_refl _) (by omega) (by omega)
      omega
    · obtain ⟨i, i1, i2, i3⟩ := inM x hx
      rw [← KR_some (rk := rk) i3]
      by_cases c : i < n
      · have z1 := h1 i (n - 1) (by omega) (by omega) (by omega)
        have z2 := u3 j j1 j2
        omega
      · exact h2 i j (by omega) (by omega) j2
theorem pend_one (x y z : Nat × Nat × Nat) : ((#[x, y] : Array (Nat × Nat × Nat)).setIfInBounds 0 z |>.eraseIdxIfInBounds (0 + 1)).size = 1 := by
  simp [Array.eraseIdxIfInBounds]
variable {prog : Program} {w : World} {A : Around} {E : Value → Shared → Prop} {s : Shared} {κ : SortKind} {a₀ : Array Keyed}
theorem wpS_set {st st' : SortSt} {Q : PUnit → SortSt → Prop} (h : Q ⟨⟩ st') : wpS (model prog w) A E s (set st' : StateT SortSt Sem PUnit) Q st := by
  unfold wpS; rw [StateT.run_set]; exact wpAny_pure ⟨rfl, h⟩
theorem wpS_mergeAt {st : SortSt} {n1 n2 p1 p2 : Nat} {Q : Bool → SortSt → Prop} (hc : Cmp prog w A s κ rk a₀) (hB : SB κ #[(0, n1, p1), (n1, n2, p2)] a₀ st) (hn : n1 + n2 = a₀.size) (l1 : 0 < n1) (l2 : 0 < n2)
    (h1 : UpS rk (arrOf st) 0 n1) (h2 : UpS rk (arrOf st) n1 (n1 + n2)) (h : ∀ st', (arrOf st').Perm a₀ → failedOf st' = none → (pendingOf st').size = 1 → UpS rk (arrOf st') 0 a₀.size → Q true st') : wpS (model prog w) A E s (mergeAt' 0) Q st := by
  walk_at "mergeAt"
  dsimp only
  refine wpS_bind (wpS_get ?_)
  have hp0 := hB.pend
  unfold pendingOf at hp0
  rw [hp0]
  refine wpS_bind (wpS_set ?_)
  have hsz := hB.size
  have hszR := hB.size
  unfold arrOf at hszR
  have hin : ∀ p ∈ (arrOf st).toList, p ∈ a₀.toList := fun p hp => (Array.perm_iff_toList_perm.mp hB.perm).mem_iff.mp hp
  obtain ⟨key, ek, mk, rkk⟩ := at_of (rk := rk) hin (i := n1) (by omega)
  refine wpS_bind (wpS_elem ek ?_)
  refine wpS_bind (wpS_gallop (fun i => !decide (rk key < KR rk (arrOf st) (0 + i))) (fun i hi R hR => bey_f hc hB.kind hin mk (by omega) hR) (fun i j hij hj z => ?_) l1 ?_)
  · have z1 : ¬ rk key < KR rk (arrOf st) (0 + j) := by simpa using z
    have z2 := h1 (0 + i) (0 + j) (by omega) (by omega) (by omega)
    have z3 : ¬ rk key < KR rk (arrOf st) (0 + i) := by omega
    simpa using z3
  intro k hk t1 t2
  have u1 : ∀ i, i < k → KR rk (arrOf st) i ≤ KR rk (arrOf st) n1 := fun i hi => by
    have := t1 i hi
    rw [rkk]
    simpa using this
  have u2 : ∀ i, k ≤ i → i < n1 → KR rk (arrOf st) n1 < KR rk (arrOf st) i := fun i hi hj => by
    have := t2 i hi hj
    rw [rkk]
    simpa using this
  dsimp only
  by_cases e1 : (n1 - k == 0) = true
  · rw [if_pos e1]
    have e1' : n1 - k = 0 := by simpa using e1
    refine wpS_pure (h _ hB.perm hB.failed (pend_one _ _ _) ?_)
    rw [← hn]
    exact up_join h1 h2 fun _ _ => u1 _ (by omega)
  rw [if_neg e1]
  have e1' : ¬ n1 - k = 0 := fun z => e1 (by simpa using z)
  obtain ⟨top, et, mt, rt⟩ := at_of (rk := rk) hin (i := 0 + k + (n1 - k) - 1) (by omega)
  rw [show 0 + k + (n1 - k) - 1 = n1 - 1 by omega] at rt
  refine wpS_bind (wpS_elem et ?_)
  refine wpS_bind (wpS_gallop (fun i => decide (KR rk (arrOf st) (n1 + i) < rk top)) (fun i hi R hR => bey_t hc hB.kind hin mt (by omega) hR) (fun i j hij hj z => ?_) (by omega) ?_)
  · have z1 := of_decide_eq_true z
    have z2 := h2 (n1 + i) (n1 + j) (by omega) (by omega) (by omega)
    exact decide_eq_true (by omega)
  intro nb hnb t3 t4
  have u3 : ∀ i, i < nb → KR rk (arrOf st) (n1 + i) < KR rk (arrOf st) (n1 - 1) := fun i hi => by rw [rt]; exact of_decide_eq_true (t3 i hi)
  have u4 : ∀ i, nb ≤ i → i < n2 → KR rk (arrOf st) (n1 - 1) ≤ KR rk (arrOf st) (n1 + i) := fun i hi hj => by rw [rt]; exact Nat.not_lt.mp (of_decide_eq_false (t4 i hi hj))
  dsimp only
  by_cases e2 : (nb == 0) = true
  · rw [if_pos e2]
    have e2' : nb = 0 := by simpa using e2
    refine wpS_pure (h _ hB.perm hB.failed (pend_one _ _ _) ?_)
    rw [← hn]
    exact up_join h1 h2 fun _ _ => u4 0 (by omega) (by omega)
  rw [if_neg e2]
  have e2' : ¬ nb = 0 := fun z => e2 (by simpa using z)
  have hX : UpS rk ((arrOf st).extract (0 + k) n1) 0 ((arrOf st).extract (0 + k) n1).size := up_ext (fun i j a b c => h1 i j (by omega) b c) (by omega)
  have hY : UpS rk ((arrOf st).extract n1 (n1 + nb)) 0 ((arrOf st).extract n1 (n1 + nb)).size := up_ext (fun i j a b c => h2 i j a b (by omega)) (by omega)
  have sX : ((arrOf st).extract (0 + k) n1).size = n1 - k := by rw [Array.size_extract]; omega
  have sY : ((arrOf st).extract n1 (n1 + nb)).size = nb := by rw [Array.size_extract]; omega
  have iX : ∀ p ∈ ((arrOf st).extract (0 + k) n1).toList, p ∈ a₀.toList := fun p hp => hin p (by
    obtain ⟨i, _, _, _, e⟩ := mem_ext hp
    rw [← Array.getElem?_toList] at e
    exact List.mem_of_getElem? e)
  have iY : ∀ p ∈ ((arrOf st).extract n1 (n1 + nb)).toList, p ∈ a₀.toList := fun p hp => hin p (by
    obtain ⟨i, _, _, _, e⟩ := mem_ext hp
    rw [← Array.getElem?_toList] at e
    exact List.mem_of_getElem? e)
  have h00 : KR rk ((arrOf st).extract n1 (n1 + nb)) 0 < KR rk ((arrOf st).extract (0 + k) n1) 0 := by
    rw [KR_ext (by omega) (by omega), KR_ext (by omega) (by omega)]
    exact u2 _ (by omega) (by omega)
  have hll : ∀ j, j < ((arrOf st).extract n1 (n1 + nb)).size → KR rk ((arrOf st).extract n1 (n1 + nb)) j < KR rk ((arrOf st).extract (0 + k) n1) (((arrOf st).extract (0 + k) n1).size - 1) := fun j hj => by
    rw [sY] at hj
    rw [sX, KR_ext (by omega) (by omega), KR_ext (by omega) (by omega), show 0 + k + (n1 - k - 1) = n1 - 1 by omega]
    exact u3 j hj
  by_cases hlo : n1 - k ≤ nb
  · rw [if_pos hlo]
    refine wpS_bind (wpS_mergeLo (a := (arrOf st).extract (0 + k) n1) (b := (arrOf st).extract n1 (n1 + nb)) hc hB.kind iX iY hX hY (by omega) (by omega) h00 hll fun r st' sm g => ?_)
    obtain ⟨s1, s2, s3, s4⟩ := sm
    have s2' : arrOf st' = arrOf st := s2
    have s3' : (pendingOf st').size = 1 := by rw [s3]; exact pend_one _ _ _
    have s4' : failedOf st' = none := s4.trans hB.failed
    refine wpS_bind (wpS_modify (wpS_bind (wpS_get ?_)))
    show wpS _ _ _ _ (pure (failedOf st').isNone) _ _
    rw [s4']
    simp only [Nat.zero_add] at g ⊢
    have L := laid_back hk (by omega) h1 (fun i j a b c => h2 i j a b (by omega)) g (by omega) (by omega) u1 u2 (fun i a b => by
      have := u4 (i - n1) (by omega) (by omega)
      rwa [show n1 + (i - n1) = i by omega] at this)
    rw [← s2'] at L
    refine wpS_pure (h _ (L.1.trans (by rw [s2']; exact hB.perm)) s4' s3' ?_)
    have L2 := L.2
    rw [s2', hsz] at L2
    show UpS rk (r.toList.zipIdx.foldl (fun a (x : Keyed × Nat) => a.setIfInBounds (k + x.2) x.1) (arrOf st')) 0 a₀.size
    rw [s2']
    exact L2
  · rw [if_neg hlo]
    refine wpS_bind (wpS_mergeHi (a := (arrOf st).extract (0 + k) n1) (b := (arrOf st).extract n1 (n1 + nb)) hc hB.kind iX iY hX hY (by omega) (by omega) h00 hll fun r st' sm g => ?_)
    obtain ⟨s1, s2, s3, s4⟩ := sm
    have s2' : arrOf st' = arrOf st := s2
    have s3' : (pendingOf st').size = 1 := by rw [s3]; exact pend_one _ _ _
    have s4' : failedOf st' = none := s4.trans hB.failed
    refine wpS_bind (wpS_modify (wpS_bind (wpS_get ?_)))
    show wpS _ _ _ _ (pure (failedOf st').isNone) _ _
    rw [s4']
    simp only [Nat.zero_add] at g ⊢
    have L := laid_back hk (by omega) h1 (fun i j a b c => h2 i j a b (by omega)) g (by omega) (by omega) u1 u2 (fun i a b => by
      have := u4 (i - n1) (by omega) (by omega)
      rwa [show n1 + (i - n1) = i by omega] at this)
    rw [← s2'] at L
    refine wpS_pure (h _ (L.1.trans (by rw [s2']; exact hB.perm)) s4' s3' ?_)
    have L2 := L.2
    rw [s2', hsz] at L2
    show UpS rk (r.toList.zipIdx.foldl (fun a (x : Keyed × Nat) => a.setIfInBounds (k + x.2) x.1) (arrOf st')) 0 a₀.size
    rw [s2']
    exact L2
end
end L2

end

section
namespace L2
open PySem PySem.Spec PySem.W PyProof.Rows
section
variable {rk : Keyed → Nat} {prog : Program} {w : World} {A : Around} {E : Value → Shared → Prop} {s : Shared} {κ : SortKind} {a₀ : Array Keyed}
theorem minRun_ok {n : Nat} (h2 : 2 ≤ n) (h : n < 128) : 1 ≤ minRun' n n 0 ∧ minRun' n n 0 ≤ n ∧ n ≤ 2 * minRun' n n 0 := by
  obtain ⟨f, rfl⟩ : ∃ f, n = f + 2 := ⟨n - 2, by omega⟩
  have e : minRun' (f + 2) (f + 2) 0 = if f + 2 < 64 then f + 2 + 0 else minRun' (f + 1) ((f + 2) / 2) (max 0 ((f + 2) % 2)) := minRun'_succ _ _ _
  have e2 : minRun' (f + 1) ((f + 2) / 2) (max 0 ((f + 2) % 2)) = if (f + 2) / 2 < 64 then (f + 2) / 2 + max 0 ((f + 2) % 2) else minRun' f ((f + 2) / 2 / 2) (max (max 0 ((f + 2) % 2)) ((f + 2) / 2 % 2)) := minRun'_succ _ _ _
  rw [e]
  by_cases c : f + 2 < 64
  · rw [if_pos c]; omega
  · rw [if_neg c, e2, if_pos (by omega)]
    omega
def D1 (rk : Keyed → Nat) (a₀ : Array Keyed) (st : SortSt) : Prop := (arrOf st).Perm a₀ ∧ failedOf st = none ∧ (pendingOf st).size = 1 ∧ UpS rk (arrOf st) 0 a₀.size
def D2 (rk : Keyed → Nat) (κ : SortKind) (a₀ : Array Keyed) (st : SortSt) : Prop := ∃ n1 n2 p1 p2, SB κ #[(0, n1, p1), (n1, n2, p2)] a₀ st ∧ n1 + n2 = a₀.size ∧ 0 < n1 ∧ 0 < n2 ∧ UpS rk (arrOf st) 0 n1 ∧ UpS rk (arrOf st) n1 (n1 + n2)
theorem mod_one {α : Type} (x : α) (f : α → α) : (#[x] : Array α).modify 0 f = #[f x] := by
  refine Array.ext (by simp) fun i h1 h2 => ?_
  have : i = 0 := by simpa using h2
  subst this
  simp [Array.getElem_modify]
theorem wpS_runs {st : SortSt} {Q : Unit → SortSt → Prop} (hc : Cmp prog w A s κ rk a₀) (hB : SB κ #[] a₀ st) (h2 : 2 ≤ a₀.size) (h128 : a₀.size < 128)
    (h : ∀ st', (arrOf st').Perm a₀ → failedOf st' = none → UpS rk (arrOf st') 0 a₀.size → Q () st') : wpS (model prog w) A E s sortRuns' Q st := by
  obtain ⟨m1, m2, m3⟩ := minRun_ok h2 h128
  rw [sortRuns'_eq]
  refine wpS_bind (wpS_get ?_)
  dsimp only
  simp only [hB.size]
  generalize minRun' a₀.size a₀.size 0 = mr at m1 m2 m3 ⊢
  refine wpS_bind (wpS_mono (wpS_forRange
    (I := fun x c st' => (x = 0 ∧ c = (none, 0) ∧ SB κ #[] a₀ st') ∨ (1 ≤ x ∧ ∃ n1, c = (none, n1) ∧ mr ≤ n1 ∧ n1 ≤ a₀.size ∧ SB κ #[(0, n1, 0)] a₀ st' ∧ UpS rk (arrOf st') 0 n1 ∧ (x = 1 ∨ n1 = a₀.size)) ∨ (2 ≤ x ∧ c = (none, a₀.size) ∧ D2 rk κ a₀ st'))
    (Q := fun c st' => c = (none, a₀.size) ∧ (D1 rk a₀ st' ∨ D2 rk κ a₀ st')) ?step ?fin (.inl ⟨rfl, rfl, hB⟩)) ?post)
  case fin =>
    rintro c st' (⟨hx, _, _⟩ | ⟨_, n1, rfl, a1, a2, a3, a4, a5⟩ | ⟨_, rfl, d⟩)
    · omega
    · have e : n1 = a₀.size := by omega
      subst e
      exact ⟨rfl, .inl ⟨a3.perm, a3.failed, by rw [a3.pend]; rfl, a4⟩⟩
    · exact ⟨rfl, .inr d⟩
  case step =>
    rintro x c st' _ hx (⟨rfl, rfl, hB'⟩ | ⟨hx1, n1, rfl, a1, a2, a3, a4, a5⟩ | ⟨hx2, rfl, d⟩)
    · dsimp only
      rw [if_neg (by omega)]
      refine wpS_bind (wpS_countL hc (by omega) (by omega) hB' fun m st2 hB2 _ hm1 hm2 hs2 => ?_)
      dsimp only
      have fin : ∀ n1 st3, SB κ #[] a₀ st3 → UpS rk (arrOf st3) 0 n1 → mr ≤ n1 → n1 ≤ a₀.size → (1 = 1 ∨ n1 = a₀.size) →
          (1 ≤ 0 + 1 ∧ ∃ n2, ((none, 0 + n1) : Option PUnit × Nat) = (none, n2) ∧ mr ≤ n2 ∧ n2 ≤ a₀.size ∧ SB κ #[(0, n2, 0)] a₀ (setPending st3 ((pendingOf st3).push (0, n1, 0))) ∧ UpS rk (arrOf (setPending st3 ((pendingOf st3).push (0, n1, 0)))) 0 n2 ∧ (0 + 1 = 1 ∨ n2 = a₀.size)) := by
        intro n1 st3 b u l1 l2 _
        refine ⟨Nat.le_refl _, n1, by rw [Nat.zero_add], l1, l2, ⟨b.perm, b.kind, b.failed, ?_⟩, u, .inl rfl⟩
        show (pendingOf st3).push _ = _
        rw [b.pend]; rfl
      by_cases hlt : m < mr
      · rw [if_pos hlt]
        refine wpS_bind (wpS_lift (wpAny_rule ⟨rfl, ?_⟩))
        refine wpS_bind (wpS_binL hc (by omega) (by omega) hB2 hs2 fun st3 hB3 _ hs3 => ?_)
        rw [if_neg (by decide)]
        refine wpS_bind (wpS_get ?_)
        have hb : (pendingOf st3).back? = none := by rw [hB3.pend]; rfl
        rw [hb]
        dsimp only
        refine wpS_bind (wpS_modify (wpS_pure (.inr (.inl (fin _ st3 hB3 (by rw [Nat.zero_add] at hs3; exact hs3) (by omega) (by omega) (.inl rfl))))))
      · rw [if_neg hlt]
        refine wpS_bind (wpS_get ?_)
        have hb : (pendingOf st2).back? = none := by rw [hB2.pend]; rfl
        rw [hb]
        dsimp only
        refine wpS_bind (wpS_modify (wpS_pure (.inr (.inl (fin _ st2 hB2 (by rw [Nat.zero_add] at hs2; exact hs2) (by omega) (by omega) (.inl rfl))))))
    · dsimp only
      by_cases hge : n1 ≥ a₀.size
      · rw [if_pos hge]
        have e : n1 = a₀.size := by omega
        subst e
        exact wpS_pure ⟨rfl, .inl ⟨a3.perm, a3.failed, by rw [a3.pend]; rfl, a4⟩⟩
      · rw [if_neg hge]
        have hx1' : x = 1 := by omega
        subst hx1'
        refine wpS_bind (wpS_countL hc (by omega) (by omega) a3 fun m st2 hB2 hf2 hm1 hm2 hs2 => ?_)
        dsimp only
        have up1 : ∀ st3, Fm n1 (arrOf st') (arrOf st3) → UpS rk (arrOf st3) 0 n1 := fun st3 hf i j a b c => by
          rw [KR_congr (hf i (by omega)), KR_congr (hf j c)]
          exact a4 i j a b c
        have fin : ∀ n2 st3 pw, SB κ #[(0, n1, 0)] a₀ st3 → UpS rk (arrOf st3) 0 n1 → UpS rk (arrOf st3) n1 (n1 + n2) → n2 = a₀.size - n1 →
            ((none, n1 + n2) : Option PUnit × Nat) = (none, a₀.size) ∧ D2 rk κ a₀ (setPending (setPending st3 ((pendingOf st3).modify ((pendingOf st3).size - 1) fun (st, len, _) => (st, len, pw))) (((pendingOf st3).modify ((pendingOf st3).size - 1) fun (st, len, _) => (st, len, pw)).push (n1, n2, 0))) := by
          intro n2 st3 pw b u1 u2 e
          refine ⟨by rw [show n1 + n2 = a₀.size by omega], n1, n2, pw, 0, ⟨b.perm, b.kind, b.failed, ?_⟩, by omega, by omega, by omega, u1, u2⟩
          show ((pendingOf st3).modify ((pendingOf st3).size - 1) fun (st, len, _) => (st, len, pw)).push (n1, n2, 0) = _
          rw [b.pend]
          show ((#[(0, n1, 0)] : Array (Nat × Nat × Nat)).modify 0 _).push (n1, n2, 0) = _
          rw [mod_one]
          rfl
        by_cases hlt : m < mr
        · rw [if_pos hlt]
          refine wpS_bind (wpS_lift (wpAny_rule ⟨rfl, ?_⟩))
          refine wpS_bind (wpS_binL hc (by omega) (by omega) hB2 hs2 fun st3 hB3 hf3 hs3 => ?_)
          rw [if_neg (by decide)]
          refine wpS_bind (wpS_get ?_)
          rw [show ((pendingOf _).back? : Option (Nat × Nat × Nat)) = some (0, n1, 0) by rw [hB3.pend]; rfl]
          dsimp only
          refine wpS_bind (wpS_mono (wpS_forRange (I := fun _ c st4 => SB κ #[(0, n1, 0)] a₀ st4 ∧ arrOf st4 = arrOf _ ∧ c = (none, ())) (Q := fun c st4 => SB κ #[(0, n1, 0)] a₀ st4 ∧ arrOf st4 = arrOf _ ∧ c = (none, ())) ?_ (fun _ _ z => z) ⟨hB3, rfl, rfl⟩) ?_)
          · rintro y c st4 _ _ ⟨hB4, e4, rfl⟩
            refine wpS_bind (wpS_get ?_)
            rw [hB4.pend, if_neg (show ¬ (#[(0, n1, 0)] : Array (Nat × Nat × Nat)).size > 1 from Nat.lt_irrefl 1)]
            exact wpS_pure ⟨hB4, e4, rfl⟩
          · rintro c st4 ⟨hB4, e4, rfl⟩
            dsimp only
            refine wpS_bind (wpS_modify (wpS_bind (wpS_modify (wpS_pure (.inr (.inr ⟨Nat.le_refl _, fin _ st4 _ hB4 ?_ ?_ ?_⟩))))))
            · rw [e4]; exact up1 _ (hf2.trans hf3)
            · rw [e4]; exact hs3
            · omega
        · rw [if_neg hlt]
          refine wpS_bind (wpS_get ?_)
          have hB3 := hB2
          have hs3 := hs2
          have hf3 : Fm n1 (arrOf st2) (arrOf st2) := Fm.refl _ _
          rw [show ((pendingOf _).back? : Option (Nat × Nat × Nat)) = some (0, n1, 0) by rw [hB3.pend]; rfl]
          dsimp only
          refine wpS_bind (wpS_mono (wpS_forRange (I := fun _ c st4 => SB κ #[(0, n1, 0)] a₀ st4 ∧ arrOf st4 = arrOf _ ∧ c = (none, ())) (Q := fun c st4 => SB κ #[(0, n1, 0)] a₀ st4 ∧ arrOf st4 = arrOf _ ∧ c = (none, ())) ?_ (fun _ _ z => z) ⟨hB3, rfl, rfl⟩) ?_)
          · rintro y c st4 _ _ ⟨hB4, e4, rfl⟩
            refine wpS_bind (wpS_get ?_)
            rw [hB4.pend, if_neg (show ¬ (#[(0, n1, 0)] : Array (Nat × Nat × Nat)).size > 1 from Nat.lt_irrefl 1)]
            exact wpS_pure ⟨hB4, e4, rfl⟩
          · rintro c st4 ⟨hB4, e4, rfl⟩
            dsimp only
            refine wpS_bind (wpS_modify (wpS_bind (wpS_modify (wpS_pure (.inr (.inr ⟨Nat.le_refl _, fin _ st4 _ hB4 ?_ ?_ ?_⟩))))))
            · rw [e4]; exact up1 _ (hf2.trans hf3)
            · rw [e4]; exact hs3
            · omega
    · dsimp only
      rw [if_pos (Nat.le_refl _)]
      exact wpS_pure ⟨rfl, .inr d⟩
  case post =>
    rintro c st' ⟨rfl, hD⟩
    dsimp only
    refine wpS_bind (wpS_mono (wpS_forRange (I := fun x c st'' => c = (none, ()) ∧ (D1 rk a₀ st'' ∨ (x = 0 ∧ D2 rk κ a₀ st''))) (Q := fun c st'' => c = (none, ()) ∧ D1 rk a₀ st'') ?_ ?_ ⟨rfl, hD.imp_right fun z => ⟨rfl, z⟩⟩) ?_)
    · rintro x c st'' _ _ ⟨rfl, d | ⟨rfl, n1, n2, p1, p2, b, l0, l1, l2, u1, u2⟩⟩
      · refine wpS_bind (wpS_get ?_)
        rw [if_pos (by rw [d.2.2.1]; exact Nat.le_refl 1)]
        exact wpS_pure ⟨rfl, d⟩
      · refine wpS_bind (wpS_get ?_)
        rw [b.pend]
        rw [if_neg (show ¬ (#[(0, n1, p1), (n1, n2, p2)] : Array (Nat × Nat × Nat)).size ≤ 1 from fun z => absurd z (by decide : ¬ 2 ≤ 1))]
        refine wpS_bind (wpS_mergeAt hc b l0 l1 l2 u1 u2 fun st3 z1 z2 z3 z4 => ?_)
        exact wpS_pure ⟨rfl, .inl ⟨z1, z2, z3, z4⟩⟩
    · rintro c st'' ⟨e, d | ⟨z, _⟩⟩
      · exact ⟨e, d⟩
      · omega
    · rintro c st'' ⟨rfl, d⟩
      exact wpS_pure (h _ d.1 d.2.1 d.2.2.2)
end
end L2

end

section
namespace L2
open PySem PySem.Spec PySem.W PyProof.Rows
/-! ### sorted of fewer than 128 deeds -/
theorem perm_map_ex {α β : Type} (f : α → β) {l' m : List β} (h : l'.Perm m) : ∀ l : List α, m = l.map f → ∃ k : List α, k.Perm l ∧ l' = k.map f := by
  induction h with
  | nil =>
    intro l e
    match l, e with
    | [], _ => exact ⟨[], .nil, rfl⟩
  | cons x h ih =>
    intro l e
    cases l with
    | nil => cases e
    | cons y t =>
      rw [List.map_cons] at e
      injection e with e1 e2
      obtain ⟨k, p, q⟩ := ih t e2
      exact ⟨y :: k, p.cons _, by rw [List.map_cons, e1, q]⟩
  | swap x y l0 =>
    intro l e
    match l, e with
    | a :: b :: t, e =>
      rw [List.map_cons, List.map_cons] at e
      injection e with e1 e2
      injection e2 with e2 e3
      exact ⟨b :: a :: t, .swap _ _ _, by rw [List.map_cons, List.map_cons, e1, e2, e3]⟩
  | trans _ _ ih1 ih2 =>
    intro l e
    obtain ⟨k, p, q⟩ := ih2 l e
    obtain ⟨k', p', q'⟩ := ih1 k q
    exact ⟨k', p'.trans p, q'⟩
def rkOf (ds : List D3) (d : D3) : Nat := ds.countP fun z => ltB z d
theorem cp_le {α : Type} {p q : α → Bool} : ∀ {l : List α}, (∀ z ∈ l, p z = true → q z = true) → l.countP p ≤ l.countP q := fun {l} h => List.countP_mono_left h
theorem cp_lt {α : Type} {p q : α → Bool} : ∀ {l : List α}, (∀ z ∈ l, p z = true → q z = true) → (∃ z ∈ l, q z = true ∧ p z = false) → l.countP p < l.countP q
  | [], _, ⟨_, h, _⟩ => nomatch h
  | x :: l, h, ⟨z, hz, h1, h2⟩ => by
    rw [List.countP_cons, List.countP_cons]
    have hl : ∀ z ∈ l, p z = true → q z = true := fun z hz => h z (List.mem_cons_of_mem _ hz)
    rcases List.mem_cons.mp hz with rfl | hz
    · have := cp_le hl
      rw [if_pos h1, if_neg (by rw [h2]; decide)]
      omega
    · have ih := cp_lt hl ⟨z, hz, h1, h2⟩
      by_cases c : p x = true
      · rw [if_pos c, if_pos (h x List.mem_cons_self c)]; omega
      · rw [if_neg c]; omega
theorem ltB_trans {d e f : D3} (h1 : ltB d e = true) (h2 : ltB e f = true) : ltB d f = true := by rw [ltB_iff] at h1 h2 ⊢; omega
theorem ltB_le {z d e : D3} (h1 : ltB z e = true) (h2 : ltB d e = false) : ltB z d = true := by rw [ltB_iff] at h1 ⊢; rw [ltB_no] at h2; omega
theorem rk_lt {ds : List D3} {d e : D3} (hd : d ∈ ds) : decide (rkOf ds d < rkOf ds e) = ltB d e := by
  cases h : ltB d e with
  | true =>
    refine decide_eq_true (cp_lt (fun z _ hz => ltB_trans hz h) ⟨d, hd, h, ?_⟩)
    rw [ltB_no]; omega
  | false => exact decide_eq_false (Nat.not_lt.mpr (cp_le fun z _ hz => ltB_le hz h))
open Classical in
/-- the deed that lies there -/
noncomputable def decD (h : Heap) (v : Value) : D3 := if e : ∃ d : D3, ∃ x t1 t2 t3, v = .ref x ∧ IsTup h x #[.int d.1 t1, .int d.2.1 t2, .int d.2.2 t3] then choose e else (0, 0, 0)
theorem decD_of {h : Heap} {v : Value} {d : D3} (e : ∃ x t1 t2 t3, v = .ref x ∧ IsTup h x #[.int d.1 t1, .int d.2.1 t2, .int d.2.2 t3]) : decD h v = d := by
  have e' : ∃ d : D3, ∃ x t1 t2 t3, v = .ref x ∧ IsTup h x #[.int d.1 t1, .int d.2.1 t2, .int d.2.2 t3] := ⟨d, e⟩
  unfold decD
  rw [dif_pos e']
  have s := Classical.choose_spec e'
  generalize Classical.choose e' = c at s
  obtain ⟨x, t1, t2, t3, rfl, o, g, _, n, dd⟩ := e
  obtain ⟨y, u1, u2, u3, ey, o', g', _, n', dd'⟩ := s
  cases ey
  rw [g] at g'
  cases g'
  rw [dd] at dd'
  injection dd' with e1 _
  have e2 := congrArg Array.toList e1
  simp only at e2
  injection e2 with q1 e2
  injection e2 with q2 e2
  injection e2 with q3 _
  injection q1 with q1 _
  injection q2 with q2 _
  injection q3 with q3 _
  obtain ⟨a, b, c⟩ := c
  obtain ⟨a', b', c'⟩ := d
  dsimp only at q1 q2 q3
  rw [q1, q2, q3]
section
variable {prog : Program} {w : World} {A : Around} {E : Value → Shared → Prop} {s : Shared}
theorem sort_run {vs : List Value} {ds : List D3} (t : Tri s.heap vs ds) (h2 : 2 ≤ vs.length) (h128 : vs.length < 128) :
    wpAny (model prog w) A ((sortRuns').run (SortSt.mk' (tuples' true) (vs.toArray.zip vs.toArray) #[] 7 none)) (fun r s' => s' = s ∧ failedOf r.2 = none ∧ ∃ p : Array Nat, Prm vs.length p ∧ Srt (fun i j => ltB (ds.getD i (0, 0, 0)) (ds.getD j (0, 0, 0))) p vs.length ∧ arrOf r.2 = p.map (kas_item (vs.toArray.zip vs.toArray))) E s := by
  have hz : (vs.toArray.zip vs.toArray).size = vs.length := by simp
  have hl := Paired.length t
  have dec_at : ∀ i, i < vs.length → decD s.heap (vs.getD i Value.none) = ds.getD i (0, 0, 0) ∧ ds.getD i (0, 0, 0) ∈ ds := by
    intro i hi
    obtain ⟨d, gd, e⟩ := Paired.getL t (List.getElem?_eq_getElem hi)
    rw [List.getD_eq_getElem?_getD, List.getElem?_eq_getElem hi, List.getD_eq_getElem?_getD, gd]
    exact ⟨decD_of e, List.mem_of_getElem? gd⟩
  have itm : ∀ i, i < vs.length → kas_item (vs.toArray.zip vs.toArray) i = (vs.getD i Value.none, vs.getD i Value.none) := by
    intro i hi
    unfold kas_item
    have e : (vs.toArray.zip vs.toArray).getD i (Value.none, Value.none) = (vs.toArray.zip vs.toArray)[i]'(by omega) := by simp [Array.getD, hi]
    rw [e]
    simp [hi]
  have mem_of : ∀ x, x ∈ (vs.toArray.zip vs.toArray).toList → ∃ i, i < vs.length ∧ x = (vs.getD i Value.none, vs.getD i Value.none) := by
    intro x hx
    obtain ⟨i, hi, e⟩ := List.mem_iff_getElem.mp hx
    have hi' : i < vs.length := by simpa using hi
    refine ⟨i, hi', ?_⟩
    rw [← e]
    simp [hi']
  have hc : Cmp prog w A s (tuples' true) (fun x => rkOf ds (decD s.heap x.1)) (vs.toArray.zip vs.toArray) := by
    intro x y hx hy C hC
    obtain ⟨i, hi, rfl⟩ := mem_of x hx
    obtain ⟨j, hj, rfl⟩ := mem_of y hy
    refine tri_lt t hi hj ?_
    have e : decide (rkOf ds (decD s.heap (vs.getD i Value.none)) < rkOf ds (decD s.heap (vs.getD j Value.none))) = ltB (ds.getD i (0, 0, 0)) (ds.getD j (0, 0, 0)) := by
      rw [(dec_at i hi).1, (dec_at j hj).1]
      exact rk_lt (dec_at i hi).2
    rw [← e]
    exact hC
  refine wpS_runs (Q := fun _ st' => failedOf st' = none ∧ ∃ p : Array Nat, Prm vs.length p ∧ Srt (fun i j => ltB (ds.getD i (0, 0, 0)) (ds.getD j (0, 0, 0))) p vs.length ∧ arrOf st' = p.map (kas_item (vs.toArray.zip vs.toArray)))
    hc ⟨Array.Perm.refl _, rfl, rfl, rfl⟩ (by omega) (by omega) fun st' pm hf up => ⟨hf, ?_⟩
  obtain ⟨k, kp, ke⟩ := perm_map_ex (kas_item (vs.toArray.zip vs.toArray)) (Array.perm_iff_toList_perm.mp pm) (List.range vs.length) (by
    have e := kas_range (vs.toArray.zip vs.toArray)
    rw [hz] at e
    have e2 := congrArg Array.toList e
    rw [Array.toList_map] at e2
    exact e2.symm)
  have hP : Prm vs.length k.toArray := Array.perm_iff_toList_perm.mpr kp
  have har : arrOf st' = k.toArray.map (kas_item (vs.toArray.zip vs.toArray)) := by
    apply Array.toList_inj.mp
    rw [ke, Array.toList_map]
  refine ⟨k.toArray, hP, ?_, har⟩
  rw [hz] at up
  intro i j hij hj
  have z := up i j (Nat.zero_le _) hij hj
  have hk : ∀ i, i < vs.length → KR (fun x => rkOf ds (decD s.heap x.1)) (arrOf st') i = rkOf ds (ds.getD (k.toArray.getD i 0) (0, 0, 0)) := by
    intro i hi
    have hp := hP.ix hi
    have e : (arrOf st')[i]? = some (kas_item (vs.toArray.zip vs.toArray) (k.toArray.getD i 0)) := by
      rw [har, Array.getElem?_map]
      have hs := hP.size
      have : i < k.toArray.size := by omega
      have e3 : k.toArray.getD i 0 = k.toArray[i] := by
        unfold Array.getD
        rw [dif_pos this]
        rfl
      rw [getElem?_pos k.toArray i this, e3]
      rfl
    rw [KR_some e, itm _ hp]
    dsimp only
    rw [(dec_at _ hp).1]
  rw [hk i (by omega), hk j hj] at z
  have q := rk_lt (ds := ds) (d := ds.getD (k.toArray.getD j 0) (0, 0, 0)) (e := ds.getD (k.toArray.getD i 0) (0, 0, 0)) (dec_at _ (hP.ix hj)).2
  rw [decide_eq_false (Nat.not_lt.mpr z)] at q
  exact q.symm
theorem sort_bodyN {a : Addr} {vs : List Value} {ds : List D3} {n : Nat} {P : Fin → Shared → Prop} (ho : s.heap.get? a = some (seqObj "list" vs.toArray n)) (t : Tri s.heap vs ds) (h64 : vs.length < 128)
    (h : ∀ p : Array Nat, Prm vs.length p → Srt (fun i j => ltB (ds.getD i (0, 0, 0)) (ds.getD j (0, 0, 0))) p vs.length → P (.done (.ret .none)) { s with heap := sortedHeap s.heap a vs (p.toList.map fun i => vs.getD i Value.none).toArray }) :
    wpAny (model prog w) A (Builtin.«list.sort» ⟨[.ref a], []⟩) P E s := by
  rw [list_sort_plain]
  have la : a < s.heap.objs.size := Heap.lt_size ho
  have hz : vs.length ≤ sizeLine := by rw [sizeLine_eq]; omega
  refine wpAny_bind (listItems_at ho rfl (wpAny_bind (listUpdate_at ho rfl ?_ (by rw [List.size_toArray]; exact hz) (Nat.zero_le _))))
  obtain ⟨e1, o1⟩ : ∃ e1, (s.heap.update a (Obj.mapSeq fun _ => #[])).get? a = some (seqObj "list" #[] e1) := ⟨_, get?_update_seq ho (fun _ => #[])⟩
  refine wpAny_bind (seqEpoch_at o1 rfl (wpAny_bind (wpAny_newTuple (wpAny_bind (wpAny_newList (wpAny_holding ?_) (Nat.zero_le _))) (by show vs.length ≤ _; exact hz))))
  have o6 : (((s.heap.update a (Obj.mapSeq fun _ => #[])).push (seqObj "tuple" vs.toArray 0)).push (seqObj "list" #[] 0)).get? a = some (seqObj "list" #[] e1) := Heap.get?_push_of_some _ (Heap.get?_push_of_some _ o1)
  have kp : ∀ b o, b ≠ a → s.heap.get? b = some o → (((s.heap.update a (Obj.mapSeq fun _ => #[])).push (seqObj "tuple" vs.toArray 0)).push (seqObj "list" #[] 0)).get? b = some o := fun b o hb e =>
    Heap.get?_push_of_some _ (Heap.get?_push_of_some _ ((Heap.get?_update_other _ _ (Ne.symm hb)).trans e))
  show wpAny (model prog w) A _ P E { s with heap := ((s.heap.update a (Obj.mapSeq fun _ => #[])).push (seqObj "tuple" vs.toArray 0)).push (seqObj "list" #[] 0) }
  have t6 := t.keep kp ⟨_, ho, rfl⟩
  dsimp only
  by_cases h2 : vs.toArray.size < 2
  · have hv : vs.length < 2 := by simpa using h2
    rw [if_pos h2, if_pos h2]
    refine wpAny_bind (wpAny_pure ?_)
    rw [StateT.run_pure]
    refine wpAny_bind (wpAny_pure (wpAny_bind (seqEpoch_at o6 rfl (wpAny_bind (listUpdate_at o6 rfl ?_ (Nat.zero_le _) ?_)))))
    · have f := h (List.range vs.length).toArray (Array.Perm.refl _) fun i j hij hj => by
        have : i = j := by omega
        subst this
        exact (ltB_no.mpr (by omega))
      have eo : (((List.range vs.length).toArray).toList.map fun i => vs.getD i Value.none).toArray = (Array.zip vs.toArray vs.toArray).map (·.2) := by
        match vs, hv with
        | [], _ => simp
        | [_], _ => simp
      rw [eo] at f
      simp only [bne_self_eq_false, Bool.false_eq_true, if_false]
      exact wpAny_pure f
    · rw [Array.size_map, Array.size_zip, Nat.min_self, List.size_toArray]; omega
  · have hv : 2 ≤ vs.length := by
      rw [List.size_toArray] at h2
      omega
    rw [if_neg h2, if_neg h2]
    obtain ⟨fs, kt, kl, ki⟩ := t6.firsts
    refine wpAny_bind (kat_kind (T := .type "int") kt (by omega) (fun v hv => ?_) rfl ?_)
    · obtain ⟨i, u, rfl⟩ := ki v hv
      exact Looks.of_pure rfl
    have ek : tuples' ((Value.type "int") != Value.type "tuple") = tuples' true := by
      have : ((Value.type "int") != Value.type "tuple") = true := by simp
      rw [this]
    rw [ek]
    have run := sort_run (s := { s with heap := ((s.heap.update a (Obj.mapSeq fun _ => #[])).push (seqObj "tuple" vs.toArray 0)).push (seqObj "list" #[] 0) }) (E := E) (prog := prog) (w := w) (A := A) t6 hv h64
    refine wpAny_bind (wpAny_mono run ?_ fun _ _ e => e)
    rintro ⟨⟨⟩, st'⟩ s' ⟨rfl, hf, p, hP, hS, har⟩
    dsimp only
    have hout := kat_snds (vs := vs) (ks := vs) rfl har
    refine wpAny_bind (seqEpoch_at o6 rfl (wpAny_bind (listUpdate_at o6 rfl ?_ (Nat.zero_le _) ?_)))
    · rw [hf]
      simp only [bne_self_eq_false, Bool.false_eq_true, if_false]
      rw [hout]
      exact wpAny_pure (h p hP hS)
    · rw [hout, List.size_toArray, List.length_map, Array.length_toList, hP.size]; omega
theorem call_sortedN3 {l : Addr} {vs : List Value} {ds : List D3} {Q : Value → Shared → Prop} (hl : s.heap.IsList l vs.toArray) (t : Tri s.heap vs ds) (h64 : vs.length < 128)
    (h : ∀ p : Array Nat, Prm vs.length p → Srt (fun i j => ltB (ds.getD i (0, 0, 0)) (ds.getD j (0, 0, 0))) p vs.length → Q (.ref (s.heap.objs.size + 1)) { s with heap := sortedAll s.heap vs (p.toList.map fun i => vs.getD i Value.none).toArray }) :
    wpAny (model prog w) A (call (.builtin "sorted") [.ref l]) Q E s := by
  refine Calls.call_function_entry kind_sorted plain_sorted entry_sorted (args_sorted1 _) ?_
  unfold Builtin.«sorted»
  have hz : vs.length ≤ sizeLine := by rw [sizeLine_eq]; omega
  refine wpAny_bind (m := checkCount "sorted" 1 1 _) (wpAny_pure (wpAny_bind (collect_list hl (wpAny_bind (wpAny_newList ?_ hz)) hz)))
  have hs1 : ((s.heap.push (seqObj "list" #[] 0)).update s.heap.objs.size (Obj.mapSeq (· ++ vs.toArray))).objs.size = s.heap.objs.size + 1 := by rw [Heap.size_update, size_push']
  have kp : ∀ b o, s.heap.get? b = some o → (((s.heap.push (seqObj "list" #[] 0)).update s.heap.objs.size (Obj.mapSeq (· ++ vs.toArray))).push (seqObj "list" vs.toArray 0)).get? b = some o := fun b o e =>
    Heap.get?_push_of_some _ ((Heap.get?_update_other _ _ (Nat.ne_of_gt (Heap.lt_size e))).trans (Heap.get?_push_of_some _ e))
  have hL : (((s.heap.push (seqObj "list" #[] 0)).update s.heap.objs.size (Obj.mapSeq (· ++ vs.toArray))).push (seqObj "list" vs.toArray 0)).get? (s.heap.objs.size + 1) = some (seqObj "list" vs.toArray 0) := by
    rw [← hs1]; exact Heap.get?_push_size _ rfl
  show wpAny _ _ _ _ _ { s with heap := ((s.heap.push (seqObj "list" #[] 0)).update s.heap.objs.size (Obj.mapSeq (· ++ vs.toArray))).push (seqObj "list" vs.toArray 0) }
  rw [hs1]
  obtain ⟨ol, gl, cl, _⟩ := hl
  have t' : Tri (((s.heap.push (seqObj "list" #[] 0)).update s.heap.objs.size (Obj.mapSeq (· ++ vs.toArray))).push (seqObj "list" vs.toArray 0)) vs ds := t.keep (l := l) (fun b o _ e => kp b o e) ⟨ol, gl, cl⟩
  refine wpAny_bind (wpAny_holding (wpAny_call_entry slot_list_sort ⟨_, hL, rfl⟩ entry_list_sort (sort_bodyN (s := { s with heap := ((s.heap.push (seqObj "list" #[] 0)).update s.heap.objs.size (Obj.mapSeq (· ++ vs.toArray))).push (seqObj "list" vs.toArray 0) }) hL t' h64 fun p hP hS => ⟨_, rfl, ?_⟩) (args_list_sort _)))
  have z := h p hP hS
  unfold sortedAll at z
  refine wpAny_pure ⟨_, rfl, ?_⟩
  dsimp only
  exact z
end
def rSortedN : List V → Hp → VK → Prop := fun xs H Q => ∃ a ds, xs = [.ref a] ∧ LD H a ds ∧ ds.length < 128 ∧ ∀ r vs, H r = none → Paired (T3 H) vs (srt ds) → Q (.ref r) (upd H r (.lst vs))
theorem call_sortedN {X : Cx} : CallR X (.builtin "sorted") rSortedN := by
  intro pins s σ H xs us Q I r h
  obtain ⟨a, ds, rfl, ⟨vs, ha, pr⟩, h64, q⟩ := h
  obtain ⟨u, rfl, ru⟩ := vals1 r
  have ru' : u = Value.ref a := ru
  subst ru'
  obtain ⟨hz, its, n, rv, hlen, g⟩ := I.lstM ha
  have hl0 := Paired.length pr
  refine call_sortedN3 (ds := ds) (vs := its) ⟨_, g, rfl, _, rfl⟩ (I.tri rv pr) (by omega) fun p hP hS => ?_
  have e2 : ∀ i ∈ p.toList, i < vs.length := fun i hi => by
    have := (Array.Perm.mem_iff hP).mp (Array.mem_toList_iff.mp hi)
    have : i < its.length := by simpa using this
    omega
  have pv := pick_paired pr V.non (0, 0, 0) p.toList e2
  have pu := pick_paired rv V.non Value.none p.toList e2
  have es : (p.toList.map fun i => ds.getD i (0, 0, 0)) = srt ds := by
    refine srt_uniq (pick_perm hP ds _ (by omega)) ?_
    rw [List.pairwise_map, List.pairwise_iff_getElem]
    intro i j hi hj hij
    have hs := hP.size
    have hi' : i < p.size := by simpa using hi
    have hj' : j < p.size := by simpa using hj
    have ei : p.toList[i] = p.getD i 0 := by simp [Array.getD, hi']
    have ej : p.toList[j] = p.getD j 0 := by simp [Array.getD, hj']
    rw [ei, ej]
    exact hS i j (Nat.le_of_lt hij) (by omega)
  rw [es] at pv
  generalize hvs : (p.toList.map fun i => vs.getD i V.non) = vs' at pv pu
  generalize hits : (p.toList.map fun i => its.getD i Value.none) = its' at pu ⊢
  obtain ⟨e, ge⟩ := sortedAll_at s.heap its its'.toArray
  have hlen' : vs'.length ≤ sizeLine := by rw [Paired.length pv, srt_length]; omega
  have J : Inv X pins σ (upd H (s.heap.objs.size + 1) (.lst vs')) { s with heap := sortedAll s.heap its its'.toArray, toks := s.toks } :=
    I.laid (h' := sortedAll s.heap its its'.toArray) (fun b o q => sortedAll_old q) (Nat.le_succ _) ⟨hlen', its', e, pu, ge⟩
  exact ⟨.ref (s.heap.objs.size + 1), _, J, rfl, q _ _ (I.hok.fresh (Nat.le_succ _)) pv⟩
end L2

end

section
namespace L2
open PySem PySem.Spec PyProof.Rows
/-! ### dicts whose keys are deeds -/
def kd (d : D3) : List Key := [.inl d.1, .inl d.2.1, .inl d.2.2]
theorem kd_tup (d : D3) : (kd d).map kV = tupV d := rfl
theorem kd_inj {d e : D3} (h : kd d = kd e) : d = e := by
  unfold kd at h
  injection h with h1 h
  injection h with h2 h
  injection h with h3 _
  obtain ⟨a, b, c⟩ := d
  obtain ⟨a', b', c'⟩ := e
  have e1 : a = a' := Sum.inl.inj h1
  have e2 : b = b' := Sum.inl.inj h2
  have e3 : c = c' := Sum.inl.inj h3
  rw [e1, e2, e3]
section
variable {X : Cx}
theorem dget_of {H : Hp} {a : Addr} {kvs : List (List Key × V)} {y : V} {d : D3} (e : H a = some (.dT kvs)) (ty : T3 H y d) : DGet H a y (valV kvs (kd d)) := by
  obtain ⟨b, rfl, eb⟩ := ty
  exact DGet.t e (by rw [kd_tup]; exact eb)
/-- d[y], there -/
def rIxD : R2 := fun x y H Q => ∃ (a : Addr) (kvs : List (List Key × V)) (d : D3) (v : V), x = .ref a ∧ H a = some (.dT kvs) ∧ T3 H y d ∧ valV kvs (kd d) = some v ∧ Q v H
theorem ix_dict (hu : X.A.units + 1 < cLine) : IxR X rIxD := by
  intro value slice pins s σ H x y v u Q I rx ry h hs
  obtain ⟨a, kvs, d, z, rfl, ea, ty, hv, q⟩ := h
  cases rx
  obtain ⟨b, rfl, eb⟩ := ty
  cases ry
  have eb' : H b = some (.tup ((kd d).map kV)) := by rw [kd_tup]; exact eb
  obtain ⟨_, hd, xs, rel, dd⟩ := dt_of I.hok ea
  obtain ⟨w', hw, rw'⟩ := RelO.some_of (v := z) (o := (atKey xs (kd d)).map (·.2)) (by rw [← hv]; exact rel.val (kd d))
  obtain ⟨p, hp, hp2⟩ := Option.map_eq_some_iff.mp hw
  exact subscriptTail_builtinR (x := w') dd.typeIs slot_dict_getitem.lookup (wpAny_getItem_heap (Q := fun r s' => r = w' ∧ EP X pins σ Q r s') (tupleKind_room_in1 hu) (key_of I.hok eb') dd hp ⟨hp2, z, H, I.tok _, (by rw [hp2]; exact rw'), q⟩) hs
/-- d[y] = v -/
def rSetD : V → V → V → Hp → (Hp → Prop) → Prop := fun o i v H Q => ∃ (a : Addr) (kvs : List (List Key × V)) (d : D3), o = .ref a ∧ H a = some (.dT kvs) ∧ T3 H i d ∧ kvs.length < sizeLine ∧ Q (upd H a (.dT (putK kvs (kd d) v)))
theorem set_dict (hu : X.A.units + 1 < cLine) : PSet X rSetD := by
  intro pins s σ H o i v ov iv u Q I ro ri rv h
  obtain ⟨a, kvs, d, rfl, ea, ⟨b, rfl, eb⟩, hz, q⟩ := h
  cases ro
  cases ri
  exact d_setItem hu I (DPut.t ea (by rw [kd_tup]; exact eb) hz) rfl rv fun s' I' => ⟨_, I', q⟩
/-- d.get(y, z) -/
def rGetD : V → List V → Hp → VK → Prop := fun x vs H Q => ∃ (a : Addr) (kvs : List (List Key × V)) (d : D3) (y z : V), x = .ref a ∧ vs = [y, z] ∧ H a = some (.dT kvs) ∧ T3 H y d ∧ Q ((valV kvs (kd d)).getD z) H
theorem mt_getD (hu : X.A.units + 1 < cLine) : MtR X "dict.get" rGetD := by
  intro pins s σ H x vs v us Q I rx rv h
  obtain ⟨a, kvs, d, y, z, rfl, rfl, ea, ty, q⟩ := h
  cases rx
  obtain ⟨u1, u2, rfl, r1, r2⟩ := rv.two
  exact d_get2 hu I (dget_of ea ty) r1 r2 fun w' s' I' rw' => ⟨_, H, I', rw', q⟩
end
section
variable {prog : Program} {w : World} {K : Type} [DecidableEq K] {knd : HeapKind prog w K} {A : Around} {E : Value → Shared → Prop} {s : Shared} {d a : Addr} {k : K} {xs : List (K × Addr × Value)}
theorem setDefault_heap {dflt : Value} {Q : Value → Shared → Prop} (hu : knd.room A) (hkey : knd.is s.heap k a) (hm : s.heap.DictOfH knd d xs)
    (h1 : ∀ p, atKey xs k = some p → Q p.2 { s with toks := s.toks + knd.draws k })
    (h2 : atKey xs k = none → ∀ h', h'.DictOfH knd d (storedH xs k a dflt) → Heap.SameBut d s.heap h' → Q dflt { s with heap := h', toks := s.toks + knd.draws k })
    (hsz : xs.length ≤ sizeLine) : wpAny (model prog w) A (dictSetDefault d (.ref a) dflt) Q E s := by
  obtain ⟨o, es, ep, ho, hc, hd, he, his, hn⟩ := hm
  unfold dictSetDefault
  try with_reducible refine wpAny_holding ?_
  refine wpAny_bind (knd.pyHash hu hkey ?_)
  refine wpAny_bind (wpAny_dictFind_heap (s := { s with toks := s.toks + knd.draws k }) hu hkey ho hd he his hn ?_ ?_)
  · intro hno
    have hnot : k ∉ xs.map (·.1) := not_mem_keys_of_get hno
    have hnone := atKey_none_of_get hno
    refine wpAny_bind (wpAny_rule (wpAny_bind (wpAny_updateDictKeys (hz := by have e := size_of_entries he; omega) (s := { s with toks := s.toks + knd.draws k }) ho hd (wpAny_pure (h2 hnone _ ⟨_, _, ep + 1, Heap.get?_update_self _ ho (Obj.isFreed_of_dict (Obj.data_mapDictKeys hd _)),
      hc.mapDictKeys _, Obj.data_mapDictKeys hd _, ?_, ?_, ?_⟩ (Heap.SameBut.update ..))))))
    · rw [storedH_new hnone]
      simp [he, entryOfKey]
    · rw [storedH_new hnone]
      intro x hx
      rcases List.mem_append.mp hx with hx | hx
      · exact knd.keeps (his x hx) ho hd (Heap.SameBut.update ..)
      · simp only [List.mem_singleton] at hx
        subst hx
        exact knd.keeps hkey ho hd (Heap.SameBut.update ..)
    · rw [storedH_new hnone]
      rw [List.map_append, List.nodup_append]
      refine ⟨hn, by simp, ?_⟩
      intro x hx y hy
      simp only [List.map_cons, List.map_nil, List.mem_singleton] at hy
      subst hy
      exact fun e => hnot (e ▸ hx)
  · intro j p hj
    refine wpAny_bind (wpAny_dictEntries (s := { s with toks := s.toks + knd.draws k }) ho hd ?_)
    have e : es[j]? = some (entryOfKey knd (k, p)) := by
      rw [← Array.getElem?_toList, he, List.getElem?_map, hj]; rfl
    rw [e]
    exact wpAny_bind (wpAny_rule (wpAny_pure (h1 p (atKey_of_get hn hj))))
theorem meetsH_setdefault (hd : (d == sysModules) = false) (dflt : Value) :
    MeetsIn prog w (Builtin.«dict.setdefault» ⟨[.ref d, .ref a, dflt], []⟩) (fun A R s => knd.room A.in1 ∧ ∃ k xs, knd.is s.heap k a ∧ s.heap.DictOfH knd d xs ∧ xs.length ≤ sizeLine ∧
      (∀ p, atKey xs k = some p → R (.ok (.ret p.2)) { s with toks := s.toks + knd.draws k }) ∧
      (atKey xs k = none → ∀ h', h'.DictOfH knd d (storedH xs k a dflt) → Heap.SameBut d s.heap h' → R (.ok (.ret dflt)) { s with heap := h', toks := s.toks + knd.draws k })) :=
  .of_wp fun A R s ⟨hu, k, xs, hkey, hm, hz, h1, h2⟩ => by
    unfold Builtin.«dict.setdefault»
    refine wpAny_bind ?_
    unfold Builtin.Dict.keyAndDefault
    refine wpAny_bind (wpAny_notOrdered_dict hm.typeIs ?_)
    show wpAny _ _ (pure (d, Value.ref a, some dflt)) _ _ s
    refine wpAny_pure ?_
    show wpAny _ _ (if (d == sysModules) = true then _ else (dictSetDefault d (.ref a) dflt >>= _)) _ _ s
    rw [if_neg (by rw [hd]; exact Bool.false_ne_true)]
    exact wpAny_bind (setDefault_heap hu hkey hm (fun v hv => wpAny_pure ⟨v.2, rfl, h1 v hv⟩) (fun hn h' hm' hs' => wpAny_pure ⟨dflt, rfl, h2 hn h' hm' hs'⟩) hz)
end
section
variable {X : Cx}
/-- d.setdefault(y, z) -/
def rSetDef : V → List V → Hp → VK → Prop := fun x vs H Q => ∃ (a : Addr) (kvs : List (List Key × V)) (d : D3) (y z : V), x = .ref a ∧ vs = [y, z] ∧ H a = some (.dT kvs) ∧ T3 H y d ∧ kvs.length < sizeLine ∧
  (∀ v, valV kvs (kd d) = some v → Q v H) ∧ (valV kvs (kd d) = none → Q z (upd H a (.dT (putK kvs (kd d) z))))
theorem mt_setdefault (hu : X.A.units + 1 < cLine) : MtR X "dict.setdefault" rSetDef := by
  intro pins s σ H x vs v us Q I rx rv h
  obtain ⟨a, kvs, d, y, z, rfl, rfl, ea, ⟨b, rfl, eb⟩, hl, q1, q2⟩ := h
  cases rx
  obtain ⟨u1, u2, rfl, r1, r2⟩ := rv.two
  cases r1
  have eb' : H b = some (.tup ((kd d).map kV)) := by rw [kd_tup]; exact eb
  obtain ⟨hz, hd, xs, rel, dd⟩ := dt_of I.hok ea
  have hz' : xs.length ≤ sizeLine := by rw [← Paired.length rel]; exact hz
  refine call_meetsIn PySem.F.slot_dict_setdefault dd.typeIs PySem.F.entry_dict_setdefault (PySem.F.args_dict_setdefault_3 _ _ _) (meetsH_setdefault (knd := tupleKind (mixKind X.prog X.w)) hd u2) ⟨tupleKind_room_in1 hu, kd d, xs, key_of I.hok eb', dd, hz', fun p hp => ?_, fun hn h' dd' hs => ?_⟩
  · have z1 := rel.val (kd d)
    rw [hp] at z1
    cases e : valV kvs (kd d) with
    | none => rw [e] at z1; exact z1.elim
    | some v0 =>
      rw [e] at z1
      exact ⟨v0, H, I.tok _, z1, q1 v0 e⟩
  · have e : valV kvs (kd d) = none := by
      have z1 := (rel.val (kd d)).isSome_eq
      rw [hn] at z1
      cases e : valV kvs (kd d) with
      | none => rfl
      | some _ => rw [e] at z1; cases z1
    have hl' : (putK kvs (kd d) z).length ≤ sizeLine := by have := length_putK kvs (kd d) z; omega
    obtain ⟨q, es, ep, hq, h2, h3, h4, _, h5⟩ := dd'
    refine ⟨z, _, d_write (ob := .dT (putK kvs (kd d) z)) I (by rw [ea]; exact True.intro) hs ⟨q, hq⟩ ⟨hl', hd, _, (rel.put (kd d) eb' r2).keeps fun c ys ec => ?_, q, es, ep, hq, h2, h3, h4, h5⟩, r2, q2 e⟩
    rw [upd_ne (ne_of ec ea (fun z => nomatch z))]
    exact ec
theorem tyD {K : PySem.W.Frag} {H : Hp} {a : Addr} {kvs : List (List Key × V)} (e : H a = some (.dT kvs)) : tyV K "dict" (.ref a) H := .inr (.inr (.inl ⟨rfl, .inr ⟨kvs, e⟩⟩))
end
end L2

end

section
namespace L2
open PySem PySem.Spec PyProof.Rows
/-! ### for k, x in enumerate(a list) -/
def Ite (K : PySem.W.Frag) (a : Addr) : It :=
  ⟨fun i H => ∃ xs x, kL.sq K H a xs ∧ xs[i]? = some x,
   fun i H v H' => ∃ p x, v = .ref p ∧ H p = none ∧ H' = upd H p (.tup [.int (i : Int), x]) ∧ ∀ xs, kL.sq K H a xs → xs[i]? = some x,
   fun i H => ∃ xs, kL.sq K H a xs ∧ xs.length ≤ i⟩
theorem turn_enum {P : Program} {w : World} {K : PySem.W.Frag} {es : List Expr} {x1 : Nat} {tpos : Pos} {e it a : Addr} (D : e ≠ it) :
    Turn P w K (.Tuple es x1 tpos) (Ite K a) [e, it] e (fun i h => (∃ old, IsEnum h e it (i : Int) old) ∧ kL.It h it a i) where
  mem := by simp
  obj := fun i h st c hc => by
    obtain ⟨⟨old, h1⟩, h4⟩ := st
    simp only [List.mem_cons, List.not_mem_nil, or_false] at hc
    rcases hc with rfl | rfl
    · exact ⟨_, h1, fun v z => by cases z⟩
    · exact kL.itO h4
  keep := fun i h h' st kp => by
    obtain ⟨⟨old, h1⟩, h4⟩ := st
    exact ⟨⟨old, kp e (by simp) _ h1⟩, kL.itAt h4 fun o e => kp it (by simp) o e⟩
  item := by
    intro X hP hw hK hc i pins s σ H E I hf st hg
    subst hP hw hK
    obtain ⟨⟨old, h1⟩, h4⟩ := st
    obtain ⟨xs, x, q1, e1⟩ := hg
    obtain ⟨its1, r1, p1⟩ := kL.read I q1
    obtain ⟨u1, hu1, ru1⟩ := r1.get e1
    refine wpAny_pyNext_enum_item h1 h4 p1 (x := u1) (by simpa using hu1) D fun h' a1 a2 a3 a4 hk => ⟨_, rfl, ?_⟩
    refine wpAny_letOwnedTupleGo_enum (s := { s with heap := h', toks := s.toks + 1 }) a1 fun h'' b1 b2 => ?_
    have lz : e < s.heap.objs.size := Heap.lt_size h1
    have up : ∀ c o, c ∉ [e, it] → s.heap.get? c = some o → h''.get? c = some o := fun c o hc q => by
      simp only [List.mem_cons, List.not_mem_nil, or_false, not_or] at hc
      exact b2.extBut _ _ hc.1 (hk c o hc.1 hc.2 q)
    have T2 := b2.extBut _ _ (Nat.ne_of_gt lz) a3
    have I2 : Inv X pins σ (upd H s.heap.objs.size (.tup [.int (i : Int), x])) { s with heap := h'', toks := s.toks + 1 } := I.turnedNew hf up (Nat.le_refl _) ⟨by simp only [List.length_cons, List.length_nil]; rw [sizeLine_eq]; decide, [.int (i : Int) s.toks, u1], .cons ⟨_, rfl⟩ (.cons ru1 .nil), ⟨_, T2, rfl, _, rfl⟩⟩
    refine ⟨.ref s.heap.objs.size, _, I2, rfl, ⟨_, x, rfl, I.fresh, rfl, fun xs' q => by rw [kL.inj I q q1]; exact e1⟩, ⟨⟨_, b1⟩, kL.itAt a2 fun o q => b2.extBut _ _ (Ne.symm D) q⟩, fun c hc => ?_⟩
    have hlt : c < s.heap.objs.size := by
      simp only [List.mem_cons, List.not_mem_nil, or_false] at hc
      rcases hc with rfl | rfl
      · exact Heap.lt_size h1
      · obtain ⟨o, e, _⟩ := kL.itO h4; exact Heap.lt_size e
    rw [upd_ne (Nat.ne_of_lt hlt)]; exact (hf c hc).1
  done := by
    intro X hP hw hK hc i pins s σ H E I hf st hg
    subst hP hw hK
    obtain ⟨⟨old, h1⟩, h4⟩ := st
    obtain ⟨xs, q1, e1⟩ := hg
    obtain ⟨its1, r1, p1⟩ := kL.read I q1
    have l1 := r1.length
    refine wpAny_pyNext_enum_end (I.ok.hd hc) h1 h4 p1 (by simp; omega) fun h' hk => ⟨rfl, I.turnedL (t' := s.toks) hf fun c o hc e => ?_⟩
    simp only [List.mem_cons, List.not_mem_nil, or_false, not_or] at hc
    exact hk c o hc.2 e
  self := fun _ _ _ _ _ st h => by
    obtain ⟨⟨old, h1⟩, _⟩ := st
    exact wpAny_pyIter_enum h1 h
section
variable {X : Cx} {es : List Expr} {x1 : Nat} {tpos : Pos}
theorem bt_enumerate : bootBuiltins "enumerate" = some (.type "enumerate") := by decide +kernel
def iEnum (K : PySem.W.Frag) (ta : TA) : TI := fun σ H R => ta σ H fun vs H1 => ∃ a xs, vs = [.ref a] ∧ kL.sq K H1 a xs ∧ R (Ite K a) H1
theorem pi_enum {a : Expr} {ta : TA} {p pos : Pos} (hg : Gl X "enumerate") (hm : X.mg "enumerate" = none) (ha : PA X [a] ta) (hs : starEach [a] X.env = (false, eval a X.env) :: starEach [] X.env := by rfl) (hs2 : (backTo pos (starEach [] X.env)).any (·.1) = false := by rfl) :
    PI X (.Tuple es x1 tpos) (.Call (.Name "enumerate" p) [a] [] pos) (iEnum X.K ta) := by
  intro pins s σ H R I h
  refine Call_ (ld_blt I hg hm bt_enumerate (PyProof.Rows.callWith_type1 (thn (ha pos pins s σ H _ I h) fun us s1 ⟨vs, H1, I1, r1, q1⟩ => ?_) hs hs2))
  obtain ⟨c, xs, rfl, e1, q⟩ := q1
  obtain ⟨u, rfl, ru⟩ := vals1 r1
  cases ru
  obtain ⟨its1, _, p1⟩ := kL.read I1 e1
  refine call_enumerate_list p1 fun h' he hit _ kp => ?_
  refine wpAny_pyIter_enum he ⟨s1.heap.objs.size + 1, [s1.heap.objs.size + 1, s1.heap.objs.size], _, _, H1, rfl, I1.kept (t' := s1.toks) kp, turn_enum (Nat.ne_of_gt (Nat.lt_succ_self _)), ⟨⟨_, he⟩, hit⟩, fun c hc => ?_, q⟩
  have hle : s1.heap.objs.size ≤ c := by
    simp only [List.mem_cons, List.not_mem_nil, or_false] at hc
    rcases hc with rfl | rfl
    · exact Nat.le_succ _
    · exact Nat.le_refl _
  exact I1.fpOk hle (I1.hok.fresh hle)
theorem piE (K : PySem.W.Frag) {a : Expr} {ta : TA} {p pos : Pos} (hg : Gl X "enumerate") (hm : X.mg "enumerate" = none) (ha : PA X [a] ta) (hK : X.K = K := by rfl) (hs : starEach [a] X.env = (false, eval a X.env) :: starEach [] X.env := by rfl) (hs2 : (backTo pos (starEach [] X.env)).any (·.1) = false := by rfl) :
    PI X (.Tuple es x1 tpos) (.Call (.Name "enumerate" p) [a] [] pos) (iEnum K ta) := by
  subst hK; exact pi_enum hg hm ha hs hs2
end
theorem for_enum {K : PySem.W.Frag} {a : Addr} {xs : List V} {g : TG} {tb : TS} {D : Ends} {σ : St} {H : Hp} (Pv : Nat → St → Hp → Prop) (h0 : Pv 0 σ H) (hl : ∀ i σ H, i ≤ xs.length → Pv i σ H → kL.sq K H a xs)
    (hs : ∀ i x p σ H, xs[i]? = some x → H p = none → Pv i σ H → g (.ref p) σ (upd H p (.tup [.int (i : Int), x])) fun σ2 H2 => tb { D with nx := Pv (i + 1), ct := Pv (i + 1), bk := D.nx } σ2 H2) (hd : ∀ σ H, Pv xs.length σ H → D.nx σ H) :
    ∃ W : Nat → Nat → St → Hp → Prop, (∃ m, W 0 m σ H) ∧ ∀ i m σ H, W i m σ H →
      ((Ite K a).stop i H ∧ D.nx σ H) ∨ ((Ite K a).go i H ∧ ∃ N : St → Hp → Prop, (∀ σ' H', N σ' H' → ∃ m', m' < m ∧ W (i + 1) m' σ' H') ∧ ∀ x H', (Ite K a).yld i H x H' → g x σ H' fun σ2 H2 => tb { D with nx := N, ct := N, bk := D.nx } σ2 H2) := by
  refine ⟨fun i m σ H => m = xs.length - i ∧ i ≤ xs.length ∧ Pv i σ H, ⟨xs.length, by simp, Nat.zero_le _, h0⟩, ?_⟩
  rintro i m σ H ⟨rfl, hi, p⟩
  have q1 := hl i σ H hi p
  by_cases hlt : i < xs.length
  · refine .inr ⟨⟨xs, xs[i], q1, by simp [hlt]⟩, Pv (i + 1), fun σ' H' p' => ⟨xs.length - (i + 1), by omega, rfl, hlt, p'⟩, fun v H' y => ?_⟩
    obtain ⟨c, x, rfl, hc, rfl, e1⟩ := y
    exact hs i x c σ H (e1 xs q1) hc p
  · have e : i = xs.length := by omega
    subst e
    exact .inl ⟨⟨xs, q1, by omega⟩, hd σ H p⟩
end L2

end

section
namespace L2
open PySem PySem.Spec PyProof.Rows
/-! ### list(range(j, k, -1)) -/
def dnL (j : Int) (n : Nat) : List Int := (List.range n).map fun (i : Nat) => j - (i : Int)
def tDown (ta : TA) : TE := fun σ H Q => ta σ H fun vs H1 => ∃ (j : Int) (n : Nat), vs = [.int j, .int (j - n), .int (-1)] ∧ n ≤ 1000 ∧ -1000 ≤ j ∧ j ≤ 1000 ∧ ∀ p, H1 p = none → Q (.ref p) (upd H1 p (.lst ((dnL j n).map V.int)))
theorem down_size (j : Int) (n : Nat) : Builtin.Range.rangeSize j (j - n) (-1) = n := by
  unfold Builtin.Range.rangeSize
  rw [if_neg (by decide)]
  by_cases h : n = 0
  · subst h
    rw [if_neg (by omega)]; rfl
  · rw [if_pos (by omega)]
    simp only [Int.neg_neg, Int.ediv_one]
    omega
theorem vals_down (j : Int) : ∀ {acc : Array Value} {n : Nat}, PySem.ItemsOf (fun i v => ∃ t, v = .int (j + (i : Int) * (-1)) t) acc n → Vals ((dnL j n).map V.int) acc.toList := by
  intro acc n h
  have hs : acc.toList.length = n := by simpa using h.1
  have key : ∀ (m : Nat), m ≤ n → Vals (((List.range m).map fun (i : Nat) => j - (i : Int)).map V.int) (acc.toList.take m) := by
    intro m
    induction m with
    | zero => intro _; exact .nil
    | succ m ih =>
      intro hm
      have hi : m < acc.toList.length := by omega
      rw [List.range_succ, List.map_append, List.map_append, List.take_succ_eq_append_getElem hi]
      refine (ih (by omega)).append (.cons ?_ .nil)
      obtain ⟨t, e⟩ := h.2 m (acc.toList[m]) (by rw [← Array.getElem?_toList, List.getElem?_eq_getElem hi])
      rw [e]
      refine ⟨t, ?_⟩
      show Value.int (j + (m : Int) * (-1)) t = Value.int (j - (m : Int)) t
      congr 1
      omega
  have z := key n (Nat.le_refl _)
  rwa [List.take_of_length_le (by omega)] at z
theorem pe_down {X : Cx} {a b c : Expr} {ta : TA} {p p2 pos pos2 : Pos} (hc : X.calm = true) (ha : PA X [a, b, c] ta) (hg1 : Gl X "list") (hm1 : X.mg "list" = none) (hg2 : Gl X "range") (hm2 : X.mg "range" = none)
    (hs : starEach [a, b, c] X.env = (false, eval a X.env) :: starEach [b, c] X.env := by rfl) (hp : (backTo pos2 (starEach [b, c] X.env)).any (·.1) = false := by rfl)
    (hs' : starEach [.Call (.Name "range" p2) [a, b, c] [] pos2] X.env = (false, eval (.Call (.Name "range" p2) [a, b, c] [] pos2) X.env) :: starEach [] X.env := by rfl) (hp' : (backTo pos (starEach [] X.env)).any (·.1) = false := by rfl) :
    PE X (.Call (.Name "list" p) [.Call (.Name "range" p2) [a, b, c] [] pos2] [] pos) (tDown ta) := by
  intro pins s σ H Q I h
  refine wpAny_Call_Name_kw (ld_blt I hg1 hm1 bt_list ?_ (by decide) (by decide))
  refine PyProof.Rows.callWith_type1 ?_ hs' hp'
  rw [hs']
  show wpAny _ _ (spliced ((false, eval (.Call (.Name "range" p2) [a, b, c] [] pos2) X.env) :: backTo pos (starEach [] X.env))) _ _ s
  refine Calls.spliced_cons ?_
  refine wpAny_Call_Name_kw (ld_blt I hg2 hm2 boot_range ?_ (by decide) (by decide))
  refine PyProof.Rows.callWith_type1 (thn (ha pos2 pins s σ H _ I h) fun us s1 ⟨vs, H1, I1, r1, q1⟩ => ?_) hs hp
  obtain ⟨j, n, rfl, hn, hj1, hj2, q⟩ := q1
  cases r1 with
  | cons r rr =>
    cases rr with
    | cons r' rr =>
      cases rr with
      | cons r'' rr =>
        cases rr
        obtain ⟨t, rfl⟩ := r
        obtain ⟨t', rfl⟩ := r'
        obtain ⟨t'', rfl⟩ := r''
        refine call_range_3 (by decide) ?_ (.inl (PyProof.noPylong_small (by omega)))
        refine Calls.spliced_nil ?_
        have I2 : Inv X pins σ H1 { s1 with heap := s1.heap.push { cls := .type "range", data := .fields #[.int j t, .int (j - n) t', .int (-1) t''] }, toks := s1.toks } := I1.kept (t' := s1.toks) fun b o e => Heap.get?_push_of_some _ e
        have hsz : (s1.heap.push { cls := .type "range", data := .fields #[.int j t, .int (j - n) t', .int (-1) t''] }).objs.size = s1.heap.objs.size + 1 := Heap.size_push _ _
        have hsm : Builtin.Range.small j (j - n) (-1) = true := by
          unfold Builtin.Range.small
          rw [down_size]
          simp only [Builtin.Range.rangeFitsLong, Bool.and_eq_true, Bool.or_eq_true, decide_eq_true_eq, beq_iff_eq, show ¬ ((-1 : Int) > 0) by decide, if_false]
          omega
        refine call_list_range (s := { s1 with heap := s1.heap.push { cls := .type "range", data := .fields #[.int j t, .int (j - n) t', .int (-1) t''] }, toks := s1.toks }) (I.ok.hd hc) (IsRange.new ..) hsm (down_size j n) (by omega) fun h' tk acc' c' kp e i => ?_
        have kp0 : ∀ b o, s1.heap.get? b = some o → h'.get? b = some o := fun b o q => kp b o (Heap.get?_push_of_some _ q)
        have rv := vals_down j i
        have hl : ((dnL j n).map V.int).length ≤ sizeLine := by unfold dnL; rw [List.length_map, List.length_map, List.length_range, sizeLine_eq]; omega
        refine ⟨.ref _, _, I1.laid (t' := tk) kp0 (by rw [hsz]; exact Nat.le_succ _) (show ObjOk X.prog X.w _ h' _ (.lst ((dnL j n).map V.int)) from ⟨hl, acc'.toList, c', rv, by rw [Array.toArray_toList]; exact e⟩), rfl, q _ (I1.hok.fresh (by rw [hsz]; exact Nat.le_succ _))⟩
end L2

end

section
namespace L2
open PySem PySem.Spec PyProof.Rows
theorem Paired.er {α β : Type} {F : α → β → Prop} : ∀ {xs : List α} {ys : List β}, Paired F xs ys → ∀ n, Paired F (xs.eraseIdx n) (ys.eraseIdx n)
  | _, _, .nil, _ => .nil
  | _, _, .cons _ t, 0 => t
  | _, _, .cons h t, n + 1 => .cons h (Paired.er t n)
theorem small9 {n : Nat} (h : n ≤ 100000) : n < sizeLine := by rw [sizeLine_eq]; omega
section
variable {X : Cx}
/-! ### rules by deeds -/
def rNin3 : R2 := fun x y H Q => ∃ (l : Addr) (ds : List D3) (d : D3), y = .ref l ∧ LD H l ds ∧ T3 H x d ∧ Q (.bl (!decide (d ∈ ds))) H
theorem op_nin3 (hu : X.A.units + 64 < cLine) : OpR X (compareOp .NotIn) rNin3 := fun pins s σ H x y v u Q I rx ry h => by
  obtain ⟨l, ds, d, rfl, hl, hx, q⟩ := h
  refine op_nin hu pins s σ H x (.ref l) v u Q I rx ry ⟨dD d, ds.map dD, hx.dat, hl.dat, Nat.le_trans (enc_dD.dep d) (by decide), ?_⟩
  rw [any_deeds]
  exact q
theorem ixD (hu : X.A.units + 64 < cLine) : IxR X rIxD := ix_dict (by omega)
theorem setD (hu : X.A.units + 64 < cLine) : PSet X rSetD := set_dict (by omega)
theorem getD2 (hu : X.A.units + 64 < cLine) : MtR X "dict.get" rGetD := mt_getD (by omega)
theorem setDef (hu : X.A.units + 64 < cLine) : MtR X "dict.setdefault" rSetDef := mt_setdefault (by omega)
end
/-! ### the way, purely -/
/-- the place of the first equal one -/
def fst? (d : D3) : List D3 → Nat
  | [] => 0
  | e :: es => if e = d then 0 else fst? d es + 1
theorem fst_ok {d : D3} : ∀ {ds : List D3}, d ∈ ds → ds[fst? d ds]? = some d ∧ (∀ m e, m < fst? d ds → ds[m]? = some e → e ≠ d)
  | [], h => nomatch h
  | e :: es, h => by
    unfold fst?
    by_cases c : e = d
    · rw [if_pos c]
      exact ⟨by rw [c]; rfl, fun m x hm => absurd hm (Nat.not_lt_zero _)⟩
    · rw [if_neg c]
      have h' : d ∈ es := (List.mem_cons.mp h).resolve_left fun z => c z.symm
      obtain ⟨a, b⟩ := fst_ok h'
      refine ⟨a, fun m x hm hx => ?_⟩
      cases m with
      | zero => simp at hx; rw [← hx]; exact c
      | succ m => exact b m x (by omega) (by simpa using hx)
/-- the passings from rest to ds, the first of which comes to the place p -/
def wayF : Nat → List D3 → List D3 → Option (List Int)
  | _, rest, [] => if rest = [] then some [] else none
  | p, rest, d :: ds => if d ∈ rest then (if (rest.take (fst? d rest)).any (fun e => clashB e d) = true then none else (wayF (p + 1) (rest.eraseIdx (fst? d rest)) ds).map (dnL ((p : Int) + (fst? d rest : Nat) - 1) (fst? d rest) ++ ·)) else none
theorem dnL_length (j : Int) (n : Nat) : (dnL j n).length = n := by unfold dnL; rw [List.length_map, List.length_range]
theorem wayF_no {p : Nat} {rest ds : List D3} {d : D3} (h : d ∉ rest) : wayF p rest (d :: ds) = none := by
  show (if d ∈ rest then _ else none) = none
  rw [if_neg h]
theorem wayF_cl {p : Nat} {rest ds : List D3} {d : D3} (h : (rest.take (fst? d rest)).any (fun e => clashB e d) = true) : wayF p rest (d :: ds) = none := by
  show (if d ∈ rest then (if (rest.take (fst? d rest)).any (fun e => clashB e d) = true then none else _) else none) = none
  by_cases c : d ∈ rest
  · rw [if_pos c, if_pos h]
  · rw [if_neg c]
theorem wayF_go {p : Nat} {rest ds : List D3} {d : D3} (h1 : d ∈ rest) (h2 : ¬ (rest.take (fst? d rest)).any (fun e => clashB e d) = true) :
    wayF p rest (d :: ds) = (wayF (p + 1) (rest.eraseIdx (fst? d rest)) ds).map (dnL ((p : Int) + (fst? d rest : Nat) - 1) (fst? d rest) ++ ·) := by
  show (if d ∈ rest then (if (rest.take (fst? d rest)).any (fun e => clashB e d) = true then none else _) else none) = _
  rw [if_pos h1, if_neg h2]
theorem wayF_lk : ∀ {ds rest : List D3} (p : Nat), Lk clashB rest ds → (wayF p rest ds).isSome = true := by
  intro ds rest p h
  induction h generalizing p with
  | nil => rfl
  | @cons l1 l2 ys b h1 h2 hL ih =>
    have e : fst? b (l1 ++ b :: l2) = l1.length := by
      clear ih h2 hL
      induction l1 with
      | nil => show (if b = b then 0 else _) = 0; rw [if_pos rfl]
      | cons a l1 ih =>
        show (if a = b then 0 else fst? b (l1 ++ b :: l2) + 1) = _
        rw [if_neg (h1 a List.mem_cons_self), ih fun a ha => h1 a (List.mem_cons_of_mem _ ha)]; rfl
    have hm : b ∈ l1 ++ b :: l2 := by simp
    rw [wayF_go hm (by
      rw [e, List.take_left, List.any_eq_true]
      rintro ⟨x, hx, hc⟩
      rw [h2 x hx] at hc
      cases hc), e, Option.isSome_map]
    have e2 : (l1 ++ b :: l2).eraseIdx l1.length = l1 ++ l2 := by
      rw [List.eraseIdx_append_of_length_le (Nat.le_refl _), Nat.sub_self]; rfl
    rw [e2]
    exact ih (p + 1)
def spSome : Sp := fun vs H Q _ => ∃ (a : Addr) (x : V) (ds : List D3) (d : D3), vs = [.ref a, x] ∧ LD H a ds ∧ ds.length ≤ 1000 ∧ T3 H x d ∧ ∀ H', Same H H' → Q (.bl (ds.any fun e => clashB e d)) H'
def spWay : Sp := fun vs H Q _ => ∃ (a b : Addr) (xs ys : List D3), vs = [.ref a, .ref b] ∧ LD H a xs ∧ LD H b ys ∧ xs.length ≤ 100 ∧ ys.length ≤ 100 ∧ (wayF 0 xs ys = none → ∀ H', Same H H' → Q .non H') ∧
  ∀ ps, wayF 0 xs ys = some ps → ∀ r H', Same H H' → H r = none → H' r = some (.lst (ps.map V.int)) → Q (.ref r) H'
end L2

end

section
namespace L2
open PySem PySem.Spec PyProof.Rows
/-! ### slices: how long, and of what -/
theorem cl_to {xs : List V} {m : Int} (h : 0 ≤ m) : (cutV xs none (some m)).length = min m.toNat xs.length := by
  rw [cut_to h, List.length_take]
theorem cl_from {xs : List V} {m : Int} (h : 0 ≤ m) : (cutV xs (some m) none).length = xs.length - m.toNat := by
  obtain ⟨k, rfl⟩ := Int.eq_ofNat_of_zero_le h
  unfold cutV
  rw [HT.sIx_nat, HT.sIx_none, List.length_take, List.length_drop, Int.toNat_natCast]
  omega
theorem cl_mid {xs : List V} {m n : Int} (h : 0 ≤ m) (h' : 0 ≤ n) : (cutV xs (some m) (some n)).length = min n.toNat xs.length - min m.toNat xs.length := by
  obtain ⟨k, rfl⟩ := Int.eq_ofNat_of_zero_le h
  obtain ⟨j, rfl⟩ := Int.eq_ofNat_of_zero_le h'
  unfold cutV
  rw [HT.sIx_nat, HT.sIx_nat, List.length_take, List.length_drop, Int.toNat_natCast, Int.toNat_natCast]
  omega
theorem cut_mem {xs : List V} {lo hi : Option Int} {z : V} (h : z ∈ cutV xs lo hi) : z ∈ xs := List.drop_subset _ _ (List.take_subset _ _ h)
/-- values that each are one of the deeds', or the one beside -/
theorem sub_paired {H : Hp} {us : List V} {ds : List D3} (pr : Paired (T3 H) us ds) (e : D3) : ∀ {zs : List V}, (∀ z ∈ zs, z ∈ us ∨ T3 H z e) → ∃ es, Paired (T3 H) zs es ∧ ∀ x ∈ es, x ∈ ds ∨ x = e
  | [], _ => ⟨[], .nil, (fun _ h => nomatch h)⟩
  | z :: zs, h => by
    obtain ⟨es, p, q⟩ := sub_paired pr e (zs := zs) fun x hx => h x (List.mem_cons_of_mem _ hx)
    rcases h z List.mem_cons_self with hz | hz
    · obtain ⟨k, hk⟩ := List.getElem?_of_mem hz
      obtain ⟨d, gd, td⟩ := Paired.getL pr hk
      refine ⟨d :: es, .cons td p, fun x hx => ?_⟩
      rcases List.mem_cons.mp hx with rfl | hx
      · exact .inl (List.mem_of_getElem? gd)
      · exact q x hx
    · refine ⟨e :: es, .cons hz p, fun x hx => ?_⟩
      rcases List.mem_cons.mp hx with rfl | hx
      · exact .inr rfl
      · exact q x hx
def spPassed : Sp := fun vs H Q _ => ∃ (a c : Addr) (ds : List D3) (ms : List Int), vs = [.ref a, .ref c] ∧ LD H a ds ∧ ds.length ≤ 60 ∧ H c = some (.lst (ms.map V.int)) ∧
  ∀ r es H', Same H H' → H r = none → LD H' r es → (∀ e ∈ es, e ∈ ds) → es.length = ds.length → Q (.ref r) H'
def spExch : Sp := fun vs H Q _ => ∃ (x y : V) (k : Int) (d e : D3), vs = [x, .int k, y] ∧ T3 H x d ∧ T3 H y e ∧ okD d ∧ okD e ∧ ∀ z g H', Same H H' → T3 H' z g → okD g → Q z H'
def spChanged : Sp := fun vs H Q _ => ∃ (a : Addr) (kd cell l : Int) (ds : List D3), vs = [.ref a, .int kd, .int cell, .int l] ∧ LD H a ds ∧ (∀ d ∈ ds, okD d) ∧ ds.length ≤ 60 ∧ 0 ≤ l ∧ l ≤ 2 ^ 55 ∧
  ∀ r es e H', Same H H' → LD H' r es → (∀ x ∈ es, x ∈ ds ∨ x = e) → okD e → es.length ≤ 89 → Q (.ref r) H'
end L2

end

section
namespace L2
open PySem PySem.Spec PyProof.Rows
/-! ### how often, by one way of comparing -/
section
variable {α : Type} [DecidableEq α]
def cnt (d : α) (l : List α) : Nat := l.count d
theorem cnt_app (d : α) (l m : List α) : cnt d (l ++ m) = cnt d l + cnt d m := List.count_append
theorem cnt_self (d : α) : cnt d [d] = 1 := List.count_singleton_self
theorem cnt_ne {d x : α} (h : ¬ x = d) : cnt d [x] = 0 := by unfold cnt; rw [List.count_singleton]; simp [h]
theorem cnt_zero {d : α} {l : List α} (h : d ∉ l) : cnt d l = 0 := List.count_eq_zero.mpr h
theorem cnt_pos {d : α} {l : List α} (h : 0 < cnt d l) : d ∈ l := List.count_pos_iff.mp h
theorem cnt_le (d : α) (l : List α) : cnt d l ≤ l.length := List.count_le_length
theorem cnt_sub {l m : List α} (h : l.Sublist m) (d : α) : cnt d l ≤ cnt d m := h.count_le _
theorem cnt_perm {l m : List α} (h : l.Perm m) (d : α) : cnt d l = cnt d m := h.count_eq d
end
/-! ### the places of a deed in a row -/
def posOf (d : D3) (l : List D3) : List Nat := (List.range l.length).filter fun i => decide (l[i]? = some d)
theorem posOf_snoc (d x : D3) (l : List D3) : posOf d (l ++ [x]) = posOf d l ++ (if x = d then [l.length] else []) := by
  unfold posOf
  rw [List.length_append, List.length_singleton, List.range_succ, List.filter_append]
  have e1 : (List.range l.length).filter (fun i => decide ((l ++ [x])[i]? = some d)) = (List.range l.length).filter fun i => decide (l[i]? = some d) := by
    refine List.filter_congr fun i hi => ?_
    rw [List.getElem?_append_left (List.mem_range.mp hi)]
  rw [e1]
  congr 1
  by_cases c : x = d
  · rw [if_pos c, List.filter_cons, if_pos (by rw [List.getElem?_concat_length, c]; exact decide_eq_true rfl)]; rfl
  · rw [if_neg c, List.filter_cons, if_neg (by rw [List.getElem?_concat_length]; simpa using c)]; rfl
theorem snoc_ind {P : List D3 → Prop} (h0 : P []) (h1 : ∀ l x, P l → P (l ++ [x])) : ∀ l, P l := by
  have key : ∀ n l, l.length = n → P l := by
    intro n
    induction n with
    | zero => intro l e; rw [List.length_eq_zero_iff.mp e]; exact h0
    | succ n ih =>
      intro l e
      have hne : l ≠ [] := fun z => by rw [z] at e; cases e
      rw [← List.dropLast_concat_getLast hne]
      exact h1 _ _ (ih _ (by rw [List.length_dropLast]; omega))
  exact fun l => key _ l rfl
theorem posOf_len (d : D3) (l : List D3) : (posOf d l).length = (cnt d l) := by
  refine snoc_ind (P := fun l => (posOf d l).length = (cnt d l)) rfl (fun l x ih => ?_) l
  rw [posOf_snoc, List.length_append, ih, cnt_app]
  by_cases c : x = d
  · subst c
    rw [if_pos rfl, cnt_self]; rfl
  · rw [if_neg c, cnt_ne c]; rfl
theorem posOf_at (d : D3) (l : List D3) : ∀ j p, (posOf d l)[j]? = some p → l[p]? = some d ∧ (cnt d (l.take p)) = j := by
  refine snoc_ind (P := fun l => ∀ j p, (posOf d l)[j]? = some p → l[p]? = some d ∧ (cnt d (l.take p)) = j) (fun j p h => by simp [posOf] at h) (fun l x ih j p h => ?_) l
  rw [posOf_snoc] at h
  by_cases hj : j < (posOf d l).length
  · rw [List.getElem?_append_left hj] at h
    obtain ⟨a, b⟩ := ih j p h
    have hp : p < l.length := (List.getElem?_eq_some_iff.mp a).1
    exact ⟨by rw [List.getElem?_append_left hp]; exact a, by rw [List.take_append_of_le_length (by omega)]; exact b⟩
  · rw [List.getElem?_append_right (by omega)] at h
    by_cases c : x = d
    · rw [if_pos c] at h
      have e : j - (posOf d l).length = 0 := by
        have := (List.getElem?_eq_some_iff.mp h).1
        simpa using this
      rw [e] at h
      have hp : l.length = p := by simpa using h
      subst hp
      refine ⟨by rw [List.getElem?_concat_length, c], ?_⟩
      rw [List.take_append_of_le_length (Nat.le_refl _), List.take_length, ← posOf_len]
      omega
    · rw [if_neg c] at h; cases h
/-! ### alike, as the law counts -/
def AlkP (xs ys : List D3) : Prop := ∃ f, Mate xs ys f ∧ xs.length = ys.length ∧ Kept clashB xs f
theorem alk_none {xs ys : List D3} {d : D3} (h : (cnt d ys) < (cnt d xs)) : ¬ AlkP xs ys := fun ⟨f, M, _⟩ => by
  have : cnt d xs ≤ cnt d ys := M.count d
  omega
theorem alk_len {xs ys : List D3} (h : xs.length ≠ ys.length) : ¬ AlkP xs ys := fun ⟨_, _, e, _⟩ => h e
theorem alk_turned {xs ys : List D3} {g : Nat → Nat} (M : Mate xs ys g) {p q : Nat} {a b : D3} (hpq : p < q) (ha : xs[p]? = some a) (hb : xs[q]? = some b) (h : g p > g q) (c : clashB a b = true) : ¬ AlkP xs ys := fun ⟨f, N, _, k⟩ => by
  have e1 := Mate.uniq N M (p := p) (List.getElem?_eq_some_iff.mp ha).1
  have e2 := Mate.uniq N M (p := q) (List.getElem?_eq_some_iff.mp hb).1
  have := k p q a b hpq ha hb c
  omega
theorem alk_all {xs ys : List D3} {g : Nat → Nat} (M : Mate xs ys g) (hl : xs.length = ys.length) (h : ∀ p q a b, p < q → xs[p]? = some a → xs[q]? = some b → ¬ (g p > g q ∧ clashB a b = true)) : AlkP xs ys :=
  ⟨g, M, hl, fun p q a b hpq ha hb c => by
    have n1 := h p q a b hpq ha hb
    have n2 : g p ≠ g q := fun e => by have := M.inj ha hb e; omega
    have n3 : ¬ g p > g q := fun z => n1 ⟨z, c⟩
    omega⟩
/-! ### the law's dicts -/
/-- at each deed of l the list of its places -/
def Spots (H0 H : Hp) (sp : Addr) (l : List D3) : Prop := ∃ kvs, H sp = some (.dT kvs) ∧ kvs.length ≤ l.length ∧ (∀ d, d ∉ l → valV kvs (kd d) = none) ∧
  (∀ d, d ∈ l → ∃ b, valV kvs (kd d) = some (.ref b) ∧ H b = some (.lst (ixs (posOf d l))) ∧ H0 b = none) ∧ ∀ d e b, valV kvs (kd d) = some (.ref b) → valV kvs (kd e) = some (.ref b) → d = e
/-- at each deed how often it comes -/
def Ahead (H : Hp) (ad : Addr) (l : List D3) : Prop := ∃ kvs, H ad = some (.dT kvs) ∧ kvs.length ≤ l.length ∧ ∀ d, (valV kvs (kd d)).getD (.int 0) = .int ((cnt d l) : Nat) ∧ (d ∈ l → valV kvs (kd d) = some (.int ((cnt d l) : Nat)))
theorem valV_kd (kvs : List (List Key × V)) (d e : D3) (v : V) : valV (putK kvs (kd d) v) (kd e) = if e = d then some v else valV kvs (kd e) := by
  rw [valV_put]
  by_cases c : e = d
  · rw [if_pos c, if_pos (by rw [c])]
  · rw [if_neg c, if_neg (fun z => c (kd_inj z))]
theorem Spots.nil {H0 H : Hp} {sp : Addr} (h : H sp = some (.dT [])) : Spots H0 H sp [] := ⟨[], h, Nat.le_refl _, fun _ _ => rfl, (fun _ z => nomatch z), (fun d e b z => nomatch z)⟩
theorem Spots.same {H0 H H' : Hp} {sp : Addr} {l : List D3} (S : Same H H') (h : Spots H0 H sp l) : Spots H0 H' sp l := by
  obtain ⟨kvs, a, b, c, d, e⟩ := h
  exact ⟨kvs, S _ _ a, b, c, fun x hx => let ⟨b, q1, q2, q3⟩ := d x hx; ⟨b, q1, S _ _ q2, q3⟩, e⟩
theorem Spots.wr {H0 H : Hp} {sp t : Addr} {l : List D3} {o : HO} (h : Spots H0 H sp l) (h1 : t ≠ sp) (h2 : ∀ vs, H t ≠ some (.lst vs)) : Spots H0 (upd H t o) sp l := by
  obtain ⟨kvs, a, b, c, d, e⟩ := h
  refine ⟨kvs, by rw [upd_ne (Ne.symm h1)]; exact a, b, c, fun x hx => ?_, e⟩
  obtain ⟨b, q1, q2, q3⟩ := d x hx
  exact ⟨b, q1, by rw [upd_ne (fun z => h2 _ (z ▸ q2))]; exact q2, q3⟩
theorem Spots.wrL {H0 H : Hp} {sp t : Addr} {l : List D3} {o : HO} (h : Spots H0 H sp l) (h1 : t ≠ sp) (h2 : ∀ d b', (∃ kvs, H sp = some (.dT kvs) ∧ valV kvs (kd d) = some (.ref b')) → b' ≠ t) : Spots H0 (upd H t o) sp l := by
  obtain ⟨kvs, a, b, c, d, e⟩ := h
  refine ⟨kvs, by rw [upd_ne (Ne.symm h1)]; exact a, b, c, fun x hx => ?_, e⟩
  obtain ⟨b, q1, q2, q3⟩ := d x hx
  exact ⟨b, q1, by rw [upd_ne (h2 x b ⟨kvs, a, q1⟩)]; exact q2, q3⟩
theorem mate_snoc {l ys : List D3} {fs : List Nat} {d : D3} {p : Nat} (M : Mate l ys (fun p => fs.getD p 0)) (hl : fs.length = l.length) (h1 : ys[p]? = some d) (h2 : (cnt d (ys.take p)) = (cnt d l)) : Mate (l ++ [d]) ys (fun q => (fs ++ [p]).getD q 0) := by
  intro q a hq
  by_cases c : q < l.length
  · rw [List.getElem?_append_left c] at hq
    obtain ⟨m1, m2⟩ := M q a hq
    dsimp only at m1 m2 ⊢
    have e : (fs ++ [p]).getD q 0 = fs.getD q 0 := by
      rw [List.getD_eq_getElem?_getD, List.getElem?_append_left (by omega), ← List.getD_eq_getElem?_getD]
    rw [e, List.take_append_of_le_length (by omega)]
    exact ⟨m1, m2⟩
  · have hlt := (List.getElem?_eq_some_iff.mp hq).1
    rw [List.length_append, List.length_singleton] at hlt
    have e : q = l.length := by omega
    subst e
    rw [List.getElem?_concat_length] at hq
    cases hq
    have e : (fs ++ [p]).getD l.length 0 = p := by
      rw [List.getD_eq_getElem?_getD, ← hl, List.getElem?_concat_length]; rfl
    dsimp only
    rw [e, List.take_append_of_le_length (Nat.le_refl _), List.take_length]
    exact ⟨h1, h2⟩
theorem ixs_snoc (l : List Nat) (k : Nat) : ixs (l ++ [k]) = ixs l ++ [V.int (k : Int)] := by unfold ixs; rw [List.map_append]; rfl
/-- one more place at a deed that is there -/
theorem Spots.more {H0 H : Hp} {sp b : Addr} {l : List D3} {d : D3} {kvs : List (List Key × V)} (h : Spots H0 H sp l) (hk : H sp = some (.dT kvs)) (hd : d ∈ l) (hb : valV kvs (kd d) = some (.ref b)) (hl : H b = some (.lst (ixs (posOf d l)))) : Spots H0 (upd H b (.lst (ixs (posOf d l) ++ [V.int (l.length : Int)]))) sp (l ++ [d]) := by
  obtain ⟨kvs', a, lb, c, dd, e⟩ := h
  rw [a] at hk
  cases hk
  have nb : sp ≠ b := fun z => by rw [z, hl] at a; cases a
  refine ⟨kvs, by rw [upd_ne nb]; exact a, by rw [List.length_append]; omega, fun x hx => c x fun z => hx (List.mem_append_left _ z), fun x hx => ?_, e⟩
  have hx' : x ∈ l := by
    rcases List.mem_append.mp hx with z | z
    · exact z
    · rw [List.mem_singleton.mp z]; exact hd
  obtain ⟨b', q1, q2, q3⟩ := dd x hx'
  refine ⟨b', q1, ?_, q3⟩
  rw [posOf_snoc]
  by_cases cx : d = x
  · subst cx
    rw [hb] at q1
    cases q1
    rw [if_pos rfl, ixs_snoc]
    exact upd_same
  · rw [if_neg cx, List.append_nil, upd_ne (fun z => cx (e d x b hb (by rw [← z]; exact q1)))]
    exact q2
/-- a deed that was not there -/
theorem Spots.first {H0 H : Hp} {sp b : Addr} {l : List D3} {d : D3} {kvs : List (List Key × V)} (h : Spots H0 H sp l) (hk : H sp = some (.dT kvs)) (hd : d ∉ l) (h0 : H0 b = none) (hl : H b = some (.lst [])) (hn : ∀ x c, valV kvs (kd x) = some (.ref c) → c ≠ b) :
    Spots H0 (upd (upd H sp (.dT (putK kvs (kd d) (.ref b)))) b (.lst [V.int (l.length : Int)])) sp (l ++ [d]) := by
  obtain ⟨kvs', a, lb, c, dd, e⟩ := h
  rw [a] at hk
  cases hk
  have nb : sp ≠ b := fun z => by rw [z, hl] at a; cases a
  refine ⟨putK kvs (kd d) (.ref b), by rw [upd_ne nb, upd_same], ?_, fun x hx => ?_, fun x hx => ?_, fun x y b' h1 h2 => ?_⟩
  · rw [List.length_append, List.length_singleton]
    have := length_putK kvs (kd d) (.ref b)
    omega
  · rw [valV_kd, if_neg (fun z => hx (by rw [z]; simp))]
    exact c x fun z => hx (List.mem_append_left _ z)
  · rw [valV_kd, posOf_snoc]
    by_cases cx : x = d
    · subst cx
      rw [if_pos rfl, if_pos rfl]
      refine ⟨b, rfl, ?_, h0⟩
      have e0 : posOf x l = [] := List.length_eq_zero_iff.mp (by rw [posOf_len]; exact cnt_zero hd)
      rw [e0]
      exact upd_same
    · rw [if_neg cx, if_neg (fun z => cx z.symm), List.append_nil]
      have hx' : x ∈ l := by
        rcases List.mem_append.mp hx with z | z
        · exact z
        · exact absurd (List.mem_singleton.mp z) cx
      obtain ⟨b', q1, q2, q3⟩ := dd x hx'
      refine ⟨b', q1, ?_, q3⟩
      rw [upd_ne (hn x b' q1), upd_ne (fun z => by rw [z, a] at q2; cases q2)]
      exact q2
  · rw [valV_kd] at h1 h2
    by_cases cx : x = d
    · rw [if_pos cx] at h1
      by_cases cy : y = d
      · rw [cx, cy]
      · rw [if_neg cy] at h2
        cases h1
        exact absurd rfl (hn y b h2)
    · rw [if_neg cx] at h1
      by_cases cy : y = d
      · rw [if_pos cy] at h2
        cases h2
        exact absurd rfl (hn x b h1)
      · rw [if_neg cy] at h2
        exact e x y b' h1 h2
theorem Ahead.nil {H : Hp} {ad : Addr} (h : H ad = some (.dT [])) : Ahead H ad [] := ⟨[], h, Nat.le_refl _, fun _ => ⟨rfl, (fun z => nomatch z)⟩⟩
theorem Ahead.same {H H' : Hp} {ad : Addr} {l : List D3} (S : Same H H') (h : Ahead H ad l) : Ahead H' ad l := let ⟨kvs, a, b⟩ := h; ⟨kvs, S _ _ a, b⟩
theorem Ahead.wr {H : Hp} {ad t : Addr} {l : List D3} {o : HO} (h : Ahead H ad l) (h1 : t ≠ ad) : Ahead (upd H t o) ad l := let ⟨kvs, a, b⟩ := h; ⟨kvs, by rw [upd_ne (Ne.symm h1)]; exact a, b⟩
theorem Ahead.more {H : Hp} {ad : Addr} {l : List D3} {d : D3} {kvs : List (List Key × V)} (hk : H ad = some (.dT kvs)) (hz : kvs.length ≤ l.length) (h : ∀ d, (valV kvs (kd d)).getD (.int 0) = .int ((cnt d l) : Nat) ∧ (d ∈ l → valV kvs (kd d) = some (.int ((cnt d l) : Nat)))) :
    Ahead (upd H ad (.dT (putK kvs (kd d) (.int (((cnt d l) : Nat) + 1))))) ad (l ++ [d]) := by
  refine ⟨_, upd_same, ?_, fun x => ?_⟩
  · rw [List.length_append, List.length_singleton]
    have := length_putK kvs (kd d) (.int (((cnt d l) : Nat) + 1))
    omega
  · rw [valV_kd, cnt_app]
    by_cases cx : x = d
    · subst cx
      rw [if_pos rfl, cnt_self]
      exact ⟨rfl, fun _ => rfl⟩
    · have e1 : cnt x [d] = 0 := cnt_ne fun z => cx z.symm
      rw [if_neg cx, e1, Nat.add_zero]
      refine ⟨(h x).1, fun hx => (h x).2 ?_⟩
      rcases List.mem_append.mp hx with z | z
      · exact z
      · exact absurd (List.mem_singleton.mp z) cx
def spMates : Sp := fun vs H Q _ => ∃ (a b : Addr) (xs ys : List D3), vs = [.ref a, .ref b] ∧ LD H a xs ∧ LD H b ys ∧ xs.length ≤ 100 ∧ ys.length ≤ 100 ∧ (∀ H' d, Same H H' → (cnt d ys) < (cnt d xs) → Q .non H') ∧
  ∀ r fs H', Same H H' → H r = none → H' r = some (.lst (ixs fs)) → fs.length = xs.length → Mate xs ys (fun p => fs.getD p 0) → Q (.ref r) H'
def spAlike : Sp := fun vs H Q _ => ∃ (a b : Addr) (xs ys : List D3), vs = [.ref a, .ref b] ∧ LD H a xs ∧ LD H b ys ∧ (∀ d ∈ xs, okD d) ∧ xs.length ≤ 100 ∧ ys.length ≤ 100 ∧ ∀ H' t, Same H H' → (t = true ↔ AlkP xs ys) → Q (.bl t) H'
end L2

end

section
namespace L2
open PySem PySem.Spec PyProof.Rows
/-! ### layers tell whether two diaries are alike -/
theorem lay_rowsOk (ds : List D3) : RowsOk clashB ds (layF ds) := by
  refine ⟨layF_length ds, fun k r h => ?_⟩
  have hk : k < nL clashB ds := by
    have := (List.getElem?_eq_some_iff.mp h).1
    rwa [layF_length] at this
  rw [layF_get hk] at h
  have e := Option.some.inj h
  subst e
  exact srt_perm _
theorem hp_perm {xs ys : List D3} (P : (hp clashB xs).Perm (hp clashB ys)) : xs.Perm ys := by
  have := P.map (·.1)
  rwa [hp_fst, hp_fst] at this
theorem alk_of_perm {xs ys : List D3} (P : (hp clashB xs).Perm (hp clashB ys)) : AlkP xs ys := by
  have p := hp_perm P
  obtain ⟨f, M⟩ := mate_ex (xs := xs) (ys := ys) fun a => Nat.le_of_eq (cnt_perm p a)
  exact ⟨f, M, p.length_eq, perm_kept clashB clash_comm P M⟩
theorem perm_of_alk {xs ys : List D3} (h : AlkP xs ys) : (hp clashB xs).Perm (hp clashB ys) := by
  obtain ⟨f, M, hl, O⟩ := h
  have p := (Kept.lk clashB M hl O).perm
  exact alike_perm clashB clash_comm M (fun a => Nat.le_of_eq (cnt_perm p a).symm) O
theorem lay_alk (xs ys : List D3) : layF xs = layF ys ↔ AlkP xs ys := by
  constructor
  · intro h
    have hn : nL clashB xs = nL clashB ys := by rw [← layF_length, ← layF_length, h]
    refine alk_of_perm (perm_of_rows clashB hn fun k hk => ?_)
    have e1 := layF_get hk
    have e2 := layF_get (ds := ys) (k := k) (by omega)
    rw [h, e2] at e1
    have e := Option.some.inj e1
    exact (srt_perm _).symm.trans (by rw [← e]; exact srt_perm _)
  · intro h
    obtain ⟨hn, hr⟩ := rows_of_perm clashB (perm_of_alk h)
    apply List.ext_getElem?
    intro k
    by_cases hk : k < nL clashB xs
    · rw [layF_get hk, layF_get (by omega), srt_of_perm (hr k)]
    · rw [List.getElem?_eq_none (by rw [layF_length]; omega), List.getElem?_eq_none (by rw [layF_length]; omega)]
theorem lay_flat (ds : List D3) : AlkP ds (layF ds).flatten ∧ (layF ds).flatten.Perm ds ∧ (wayF 0 ds (layF ds).flatten).isSome = true ∧ hts clashB (layF ds).flatten = (lvG 0 (layF ds)).map (·.2) := by
  have R := lay_rowsOk ds
  have L := rows_lk R
  obtain ⟨f, M, O⟩ := L.mate
  refine ⟨⟨f, M, L.perm.length_eq, O⟩, L.perm.symm, wayF_lk 0 L, ?_⟩
  have e := rows_hp clashB clash_comm R
  have z := congrArg (fun l => l.map (·.2)) e
  exact z
theorem lvG_take {rs : List (List D3)} {i : Nat} {r : List D3} (h : rs[i]? = some r) : (lvG 0 (rs.take (i + 1))).map (·.2) = (lvG 0 (rs.take i)).map (·.2) ++ r.map fun _ => (i : Int) := by
  have hi : i < rs.length := (List.getElem?_eq_some_iff.mp h).1
  rw [List.take_add_one, h]
  show (lvG 0 (rs.take i ++ [r])).map (·.2) = _
  rw [lvG_app, List.map_append, List.length_take, Nat.min_eq_left (by omega), Nat.zero_add]
  show _ ++ ((r.map fun a => (a, (i : Int))) ++ lvG (i + 1) ([] : List (List D3))).map (fun x : D3 × Int => x.2) = _
  rw [List.map_append, List.map_map]
  show _ ++ ((r.map fun _ => (i : Int)) ++ []) = _
  rw [List.append_nil]
theorem lvG_len : ∀ (rs : List (List D3)) (n : Nat), ((lvG n rs).map (·.2)).length = rs.flatten.length
  | [], _ => rfl
  | r :: rs, n => by
    have ih := lvG_len rs (n + 1)
    rw [List.length_map] at ih
    show ((r.map (fun a => (a, (n : Int))) ++ lvG (n + 1) rs).map (fun x : D3 × Int => x.2)).length = _
    rw [List.length_map, List.length_append, List.length_map, ih, List.flatten_cons, List.length_append]
theorem flat_take {rs : List (List D3)} {i : Nat} {r : List D3} (h : rs[i]? = some r) : (rs.take (i + 1)).flatten = (rs.take i).flatten ++ r := by
  rw [List.take_add_one, h, List.flatten_append]
  simp
theorem flat_le (rs : List (List D3)) (i : Nat) : (rs.take i).flatten.length ≤ rs.flatten.length := by
  have e : rs.flatten = (rs.take i).flatten ++ (rs.drop i).flatten := by rw [← List.flatten_append, List.take_append_drop]
  rw [e, List.length_append]
  omega
theorem lay_rowsN {ds : List D3} (h : ds.length < 128) : ∀ r ∈ layF ds, r ≠ [] ∧ r.length < 128 := fun r hr => by
  obtain ⟨k, hk⟩ := List.getElem?_of_mem hr
  have hk' : k < nL clashB ds := by
    have := (List.getElem?_eq_some_iff.mp hk).1
    rwa [layF_length] at this
  rw [layF_get hk'] at hk
  have e := Option.some.inj hk
  subst e
  have := row_length (hp clashB ds) k
  rw [hp_length] at this
  refine ⟨fun z => row_ne clashB hk' ?_, by rw [srt_length]; omega⟩
  have l := srt_length (rowOf (hp clashB ds) k)
  rw [z] at l
  exact List.length_eq_zero_iff.mp l.symm
end L2

end

open PySem L2
local macro_rules | `(tactic| walk_at "hp") => `(tactic| first | assumption | exact upd_same | (apply new_at; (focus assumption); walk_at "hp") | (apply Same.at; (focus assumption); walk_at "hp"))
local macro_rules | `(tactic| walk_at "cond") => `(tactic| first | decide | omega | assumption | (show (0 : Int) < _; first | decide | omega) | exact ⟨by decide, by decide⟩ | exact ⟨by decide, by decide, by decide⟩ | exact ⟨by omega, by omega, by decide⟩ | exact Or.inl ⟨by decide, by decide⟩ | exact Or.inr ⟨by decide, by decide⟩)
local macro_rules | `(tactic| walk_at "rd") => `(tactic| first
  | refine iteT ?_
  | refine iteF ?_
  | refine ⟨_, rfl, ?_⟩
  | refine ⟨_, _, rfl, rfl, ?_⟩
  | refine ⟨rfl, ?_⟩
  | (refine And.intro ?_ ?_; (focus (walk_at "cond")); skip)
  | refine ⟨_, _, _, _, rfl, rfl, SqT.of (by walk_at "hp"), (by first | exact at_l0 | exact at_l1 | exact at_l2 | exact at_l3 | exact at_l4 | exact at_l5 | exact at_l6 | exact at_l7), ?_⟩
  | refine ⟨_, _, _, _, rfl, rfl, SqL.of (by walk_at "hp"), (by first | exact at_l0 | exact at_l1 | exact at_l2 | exact at_l3 | exact at_l4 | exact at_l5 | exact at_l6 | exact at_l7), ?_⟩
  | refine ⟨_, _, rfl, .inl (SqL.of (by walk_at "hp")), ?_⟩)
local macro_rules | `(tactic| walk_at "rds") => `(tactic| repeat (walk_at "rd"))

namespace K09
open PySem L2
def top (i : Nat) : Stmt := PySem.Challenge.pw_passby_k09_whole_layers_tell.main.body.getD i (.Pass ⟨0, 0, 0, 0⟩)
abbrev s_disturbs : Stmt := top 1
abbrev s_clash : Stmt := top 2
theorem sc_disturbs : FnScope ["one", "other"] ["one", "other"] (defScope s_disturbs) := ⟨rfl, rfl, rfl, by decide +kernel, rfl, by decide +kernel, by decide +kernel⟩
theorem sc_clash : FnScope ["one", "other"] ["one", "other"] (defScope s_clash) := ⟨rfl, rfl, rfl, by decide +kernel, rfl, by decide +kernel, by decide +kernel⟩
section
variable {P : Program} {w : World} {K : PySem.W.Frag} {mg : Str → Option Value} {base : Heap} {f : Addr} {fd : FuncData}
theorem ok_disturbs (F : Fun K "disturbs" "disturbs" s_disturbs f fd) : FnOk P w K mg base CX0 1 f fd ["one", "other"] spDisturbs := by
  have sc := sc_disturbs
  refine F.ok sc (fun vs H Q E h => ?_) (fun cdv A outer s H vs Q E hr h => ?_)
  · obtain ⟨x, y, d, e, rfl, _⟩ := h
    rfl
  obtain ⟨x, y, d, e, rfl, ⟨a, rfl, ha⟩, ⟨b, rfl, hb⟩, q⟩ := h
  refine ⟨_, (pss_one (ps_ret (pe_cmpR op_ne (pe_op op_and (pe_ix (ixT K) (pv 0) pe_int (fun _ _ => rfl)) (pe_op op_or (pe_ix (ixT K) (pv 1) pe_int (fun _ _ => rfl)) (pe_ix (ixT K) (pv 1) pe_int (fun _ _ => rfl)))) pe_int (nomark _)))), ?_⟩
  walk_at "rds"
  exact q
theorem ok_clash (F : Fun K "clash" "clash" s_clash f fd) (D_disturbs : Df P w K mg base "disturbs" 1 ["one", "other"] spDisturbs) : FnOk P w K mg base CX0 2 f fd ["one", "other"] spClash := by
  have sc := sc_clash
  refine F.ok sc (fun vs H Q E h => ?_) (fun cdv A outer s H vs Q E hr h => ?_)
  · obtain ⟨x, y, d, e, rfl, _⟩ := h
    rfl
  obtain ⟨x, y, d, e, rfl, ha, hb, q⟩ := h
  refine ⟨_, (pss_one (ps_ret (pe_or (pe_callD D_disturbs (hr.mono (by decide)) rfl (pa_cons (pv 0) (pa_cons (pv 1) pa_nil))) (pe_one (pe_callD D_disturbs (hr.mono (by decide)) rfl (pa_cons (pv 1) (pa_cons (pv 0) pa_nil))))))), ?_⟩
  walk_at "rds"
  refine ⟨_, _, d, e, rfl, ha, hb, _, rfl, ?_⟩
  have q' : Q (.bl (distB d e || distB e d)) H := q
  refine ite2 (fun c => ?_) (fun c => ?_)
  · rw [c] at q'
    exact q'
  · walk_at "rds"
    refine ⟨_, _, e, d, rfl, hb, ha, ?_⟩
    rw [Bool.eq_false_iff.mpr c] at q'
    exact q'
end
end K09

namespace K09
open PySem L2
abbrev s_some : Stmt := top 9
abbrev s_way : Stmt := top 10
theorem sc_some : FnScope ["between", "deed"] ["between", "deed"] (defScope s_some) := ⟨rfl, rfl, rfl, by decide +kernel, rfl, by decide +kernel, by decide +kernel⟩
theorem sc_way : FnScope ["one", "other", "rest", "places", "place", "deed", "steps"] ["one", "other"] (defScope s_way) := ⟨rfl, rfl, rfl, by decide +kernel, rfl, by decide +kernel, by decide +kernel⟩
section
variable {P : Program} {w : World} {K : PySem.W.Frag} {mg : Str → Option Value} {base : Heap} {f : Addr} {fd : FuncData}
seal PySem.eval PySem.spliced in
theorem ok_some (F : Fun K "some_clash" "some_clash" s_some f fd) (D_clash : Df P w K mg base "clash" 2 ["one", "other"] spClash) (m_any : mg "any" = none) : FnOk P w K mg base CX0 3 f fd ["between", "deed"] spSome := by
  have sc := sc_some
  refine F.ok sc (fun vs H Q E h => ?_) (fun cdv A outer s H vs Q E hr h => ?_)
  · obtain ⟨a, x, ds, d, rfl, _⟩ := h
    rfl
  obtain ⟨a, x, ds, d, rfl, ⟨vs, ha, pr⟩, hz, hx, q⟩ := h
  refine ⟨_, (pss_one (ps_ret (pe_callB (anyQ K rfl) rfl m_any bt_any (pa_cons (pe_comp ["passing"] [1] rfl (comp_scope sc) (piL K (pv 0)) (fun _ _ _ _ _ => ⟨(pg_name (i := 0) (nd_c sc (by decide +kernel)) rfl (Or.inl rfl)), pts_nil, (pe_callD D_clash (hr.mono (by decide)) rfl (pa_cons (pv 0) (pa_cons (pv 1) pa_nil)))⟩)) pa_nil)))), ?_⟩
  have hl0 := Paired.length pr
  refine ⟨_, rfl, a, rfl, ⟨_, SqL.of ha⟩, comp_list (xs := vs) (fun D i zs H' => Same H H' ∧ H' D = some (.lst zs) ∧ zs = ((ds.take i).map fun e => clashB e d).map V.bl) (small1000 (by omega)) (fun D hD => ⟨same_new hD _, upd_same, rfl⟩) ?_ ?_ ?_⟩
  · rintro D i zs H' hD hi ⟨S, hl, rfl⟩
    exact ⟨SqL.of (S _ _ ha), hl, by rw [List.length_map, List.length_map, List.length_take]; omega⟩
  · rintro D i x' zs H' hD hx' ⟨S, hl, rfl⟩
    obtain ⟨d1, g1, t1⟩ := Paired.getL pr hx'
    refine ⟨rfl, _, rfl, _, rfl, _, _, d1, d, rfl, t1.same S, hx.same S, hl, S.wr hD _, upd_same, ?_⟩
    rw [List.take_add_one, g1, List.map_append, List.map_append]
    rfl
  · rintro D zs H' hD ⟨S, hl, rfl⟩
    rw [hl0, List.take_length] at hl
    refine ⟨D, _, rfl, SqL.of hl, ?_⟩
    rw [List.any_map]
    exact q H' S
seal PySem.eval PySem.spliced in
theorem ok_way (F : Fun K "way" "way" s_way f fd) (D_some_clash : Df P w K mg base "some_clash" 3 ["between", "deed"] spSome) (m_list : mg "list" = none) (m_enumerate : mg "enumerate" = none) (m_range : mg "range" = none) (m_len : mg "len" = none) : FnOk P w K mg base CX0 4 f fd ["one", "other"] spWay := by
  have sc := sc_way
  refine F.ok sc (fun vs H Q E h => ?_) (fun cdv A outer s H vs Q E hr h => ?_)
  · obtain ⟨a, b, xs, ys, rfl, _⟩ := h
    rfl
  obtain ⟨a, b, xs, ys, rfl, ⟨us, ha, pu⟩, ⟨vs, hb, pr⟩, hx1, hy1, qn, qs⟩ := h
  refine ⟨_, (pss_cons (ps_set (i := 2) sc.nd rfl (Or.inl rfl) (pe_callTy (listOf K) rfl m_list bt_list (pa_cons (pv 0) pa_nil)))
    (pss_cons (ps_set (i := 3) sc.nd rfl (Or.inl rfl) (pe_lst pa_nil))
    (pss_cons (ps_for PassesOwn.never rfl (piE K rfl m_enumerate (pa_cons (pv 1) pa_nil)) (pgT K (n := 2) rfl (pgs_cons (pg_name (i := 4) sc.nd rfl (Or.inl rfl)) (pgs_cons (pg_name (i := 5) sc.nd rfl (Or.inl rfl)) pgs_nil))) (pss_cons (ps_if (pt_cmpR (op_nin3 hr.units) (pv 5) (pv 2) (by with_unfolding_all rfl)) (pss_one (ps_ret pe_non)) pss_nil)
    (pss_cons (ps_set (i := 6) sc.nd rfl (Or.inl rfl) (pe_bmK K PySem.F.plainAttrs_list PySem.F.slot_list_index PySem.F.type_list_index (mt_indexD hr.units) (pv 2) (pa_cons (pv 5) pa_nil)))
    (pss_cons (ps_if (pt_val (pe_callD D_some_clash (hr.mono (by decide)) rfl (pa_cons (pe_slice (slL K) (pv 2) po_none (po_some (pv 6))) (pa_cons (pv 5) pa_nil)))) (pss_one (ps_ret pe_non)) pss_nil)
    (pss_cons (ps_expr (pe_bmK K PySem.F.plainAttrs_list PySem.F.slot_list_extend PySem.F.type_list_extend mt_extend (pv 3) (pa_cons (pe_down rfl (pa_cons (pe_op op_sub (pe_op op_add (pv 4) (pv 6)) pe_int) (pa_cons (pe_op op_sub (pv 4) pe_int) (pa_cons (pe_un un_neg pe_int) pa_nil))) rfl m_list rfl m_range) pa_nil)))
    (pss_one (ps_expr (pe_bmK K PySem.F.plainAttrs_list PySem.F.slot_list_pop PySem.F.type_list_pop mt_popAt (pv 2) (pa_cons (pv 6) pa_nil)))))))))
    (pss_cons (ps_if (pt_cmpR op_gt (pe_callB (lenQ K) rfl m_len bt_len (pa_cons (pv 2) pa_nil)) pe_int (nomark _)) (pss_one (ps_ret pe_non)) pss_nil)
    (pss_one (ps_ret (pv 3))))))), ?_⟩
  have hl0 := Paired.length pr
  have hl1 := Paired.length pu
  refine ⟨_, rfl, a, us, rfl, .inl (SqL.of ha), fun r hr0 => ?_⟩
  have S1 := same_new hr0 (.lst us)
  refine ⟨(by decide : 0 ≤ sizeLine), fun pl hpl => ?_⟩
  have S2 := S1.new hpl (.lst [])
  have hpl0 : H pl = none := S1.free hpl
  have npr : pl ≠ r := fun z => by rw [z, upd_same] at hpl; cases hpl
  refine ⟨_, rfl, b, vs, rfl, SqL.of (S2 _ _ hb), for_enum (xs := vs) (fun i σ H' => ∃ z4 z5 z6 ws R Pl, σ = [some (.ref a), some (.ref b), some (.ref r), some (.ref pl), z4, z5, z6] ∧ Same H H' ∧ H' r = some (.lst ws) ∧ Paired (T3 H') ws R ∧ H' pl = some (.lst (Pl.map V.int)) ∧ R.length ≤ 100 ∧ Pl.length ≤ i * 100 ∧ wayF 0 xs ys = (wayF i R (ys.drop i)).map (Pl ++ ·))
    ⟨none, none, none, us, xs, [], rfl, S2, new_at hpl upd_same, stab_T3.list S2 pu, upd_same, hx1, Nat.zero_le _, by simp⟩ ?_ ?_ ?_⟩
  · rintro i σ H' _ ⟨z4, z5, z6, ws, R, Pl, rfl, S, _⟩
    exact SqL.of (S _ _ hb)
  · rintro i x p σ H' hx hp ⟨z4, z5, z6, ws, R, Pl, rfl, S, er, pR, ep, hR, hP, eq⟩
    obtain ⟨d, gd, td⟩ := Paired.getL pr hx
    have hi : i < ys.length := (List.getElem?_eq_some_iff.mp gd).1
    have hi' : i < 100 := by omega
    have S' := S.new hp (.tup [.int (i : Int), x])
    have td' := td.same S'
    have pR' := stab_T3.list (same_new hp (.tup [.int (i : Int), x])) pR
    have er' := new_at (o := .tup [.int (i : Int), x]) hp er
    have ep' := new_at (o := .tup [.int (i : Int), x]) hp ep
    have hlR := Paired.length pR
    have edr : ys.drop i = d :: ys.drop (i + 1) := by
      rw [List.drop_eq_getElem_cons hi]
      congr 1
      rw [List.getElem?_eq_getElem hi] at gd
      exact Option.some.inj gd
    rw [edr] at eq
    refine ⟨p, _, rfl, SqT.of upd_same, rfl, _, _, rfl, _, _, rfl, rfl, ?_⟩
    refine ⟨_, rfl, _, rfl, r, R, d, rfl, ⟨ws, er', pR'⟩, td', _, rfl, ?_⟩
    refine iteB (fun c => ?_) (fun c => ?_)
    · have hm : d ∈ R := of_decide_eq_true c
      obtain ⟨g1, g2⟩ := fst_ok hm
      have hk : fst? d R < R.length := (List.getElem?_eq_some_iff.mp g1).1
      refine ⟨_, rfl, .inl ⟨rfl, _, SqL.of er'⟩, _, rfl, r, R, d, x, fst? d R, rfl, rfl, ⟨ws, er', pR'⟩, td', g1, g2, ?_⟩
      refine ⟨_, rfl, _, rfl, ((fst? d R : Nat) : Int), rfl, r, ws, rfl, SqL.of er', fun c1 hc1 => ?_⟩
      have S2' := S'.new hc1 (.lst (cutV ws none (some ((fst? d R : Nat) : Int))))
      have Sn := same_new hc1 (.lst (cutV ws none (some ((fst? d R : Nat) : Int))))
      have ec : cutV ws none (some ((fst? d R : Nat) : Int)) = ws.take (fst? d R) := by rw [cut_to (by omega), Int.toNat_natCast]
      have pc : Paired (T3 (upd H' p (.tup [.int (i : Int), x]))) (cutV ws none (some ((fst? d R : Nat) : Int))) (R.take (fst? d R)) := by rw [ec]; exact Paired.tk _ pR'
      refine ⟨_, rfl, c1, x, R.take (fst? d R), d, rfl, ⟨_, upd_same, stab_T3.list Sn pc⟩, by rw [List.length_take]; omega, td.same S2', fun H3 S3 => ?_⟩
      have SS := S2'.trans S3
      have er3 := S3 _ _ (new_at hc1 er')
      have ep3 := S3 _ _ (new_at hc1 ep')
      have pR3 := stab_T3.list (Sn.trans S3) pR'
      refine ⟨_, rfl, ite2 (fun c2 => ?_) (fun c2 => ?_)⟩
      · rw [wayF_cl c2] at eq
        exact qn eq _ SS
      rw [wayF_go hm c2] at eq
      refine ⟨_, rfl, .inl ⟨rfl, _, SqL.of ep3⟩, ?_⟩
      refine ⟨_, rfl, _, rfl, _, _, rfl, rfl, _, _, rfl, rfl, _, rfl, _, _, rfl, rfl, _, rfl, (i : Int) + ((fst? d R : Nat) : Int) - 1, fst? d R, ?_, by omega, by omega, by omega, fun c3 hc3 => ?_⟩
      · rw [show (i : Int) + ((fst? d R : Nat) : Int) - 1 - ((fst? d R : Nat) : Int) = (i : Int) - 1 by omega]
      have S4 := same_new hc3 (.lst ((dnL ((i : Int) + ((fst? d R : Nat) : Int) - 1) (fst? d R)).map V.int))
      have er4 := S4 _ _ er3
      have ep4 := S4 _ _ ep3
      have pR4 := stab_T3.list S4 pR3
      refine ⟨pl, c3, _, _, rfl, rfl, ep4, upd_same, ?_, ?_⟩
      · rw [List.length_map, List.length_map, dnL_length]
        exact Nat.le_of_lt (small9 (by omega))
      have er5 := (upd_ne (o := .lst (Pl.map V.int ++ (dnL ((i : Int) + ((fst? d R : Nat) : Int) - 1) (fst? d R)).map V.int)) (Ne.symm npr)).trans er4
      have gw : ws[fst? d R]? = some (ws[fst? d R]'(by omega)) := List.getElem?_eq_getElem (by omega)
      refine ⟨_, rfl, .inl ⟨rfl, _, SqL.of er5⟩, _, rfl, r, ws, ((fst? d R : Nat) : Int), fst? d R, _, rfl, rfl, er5, by omega, by omega, ?_, gw, ?_⟩
      · rw [seqIndex_of (by omega) (by omega), Int.toNat_natCast]
      have S6 : Same H (upd (upd (upd H3 c3 (.lst ((dnL ((i : Int) + ((fst? d R : Nat) : Int) - 1) (fst? d R)).map V.int))) pl (.lst (Pl.map V.int ++ (dnL ((i : Int) + ((fst? d R : Nat) : Int) - 1) (fst? d R)).map V.int))) r (.lst (ws.eraseIdx (fst? d R)))) := ((SS.trans S4).wr hpl0 _).wr hr0 _
      refine ⟨_, _, _, ws.eraseIdx (fst? d R), R.eraseIdx (fst? d R), Pl ++ dnL ((i : Int) + ((fst? d R : Nat) : Int) - 1) (fst? d R), rfl, S6, upd_same, ?_, ?_, ?_, ?_, ?_⟩
      · exact Paired.mapP (Paired.er pR4 _) fun _ _ z => (z.wr ep4).wr er5
      · rw [upd_ne npr, upd_same, List.map_append]
      · rw [List.length_eraseIdx]
        split <;> omega
      · rw [List.length_append, dnL_length]; omega
      · rw [eq, Option.map_map]
        congr 1
        funext l
        simp
    · have hn : d ∉ R := of_decide_eq_false c
      rw [wayF_no hn] at eq
      exact qn eq _ S'
  · rintro σ H' ⟨z4, z5, z6, ws, R, Pl, rfl, S, er, pR, ep, hR, hP, eq⟩
    rw [hl0, List.drop_length] at eq
    have hlR := Paired.length pR
    refine ⟨_, rfl, r, ws, rfl, .inl (SqL.of er), _, _, rfl, rfl, _, rfl, iteD (fun c => ?_) (fun c => ?_)⟩
    · have : R ≠ [] := fun z => by rw [z] at hlR; rw [hlR] at c; exact absurd c (by decide)
      refine qn ?_ _ S
      rw [eq]
      show (if R = [] then some [] else none : Option (List Int)).map _ = none
      rw [if_neg this]; rfl
    · have e0 : R = [] := by
        apply List.eq_nil_of_length_eq_zero
        omega
      subst e0
      refine ⟨_, rfl, qs Pl ?_ pl _ S hpl0 ep⟩
      rw [eq]
      show (some [] : Option (List Int)).map _ = _
      simp
end
end K09


namespace K09
open PySem L2
abbrev s_behind : Stmt := top 4
theorem sc_behind : FnScope ["ahead", "told", "deed"] ["ahead", "told", "deed"] (defScope s_behind) := ⟨rfl, rfl, rfl, by decide +kernel, rfl, by decide +kernel, by decide +kernel⟩
section
variable {P : Program} {w : World} {K : PySem.W.Frag} {mg : Str → Option Value} {base : Heap} {f : Addr} {fd : FuncData}
theorem ok_behind (F : Fun K "height_behind" "height_behind" s_behind f fd) (D_clash : Df P w K mg base "clash" 2 ["one", "other"] spClash) (m_max : mg "max" = none) (m_zip : mg "zip" = none) : FnOk P w K mg base CX0 3 f fd ["ahead", "told", "deed"] spBehind := by
  have sc := sc_behind
  refine F.ok sc (fun vs H Q E h => ?_) (fun cdv A outer s H vs Q E hr h => ?_)
  · obtain ⟨a, b, x, ds, hs, d, rfl, _⟩ := h
    rfl
  obtain ⟨a, b, x, ds, hs, d, rfl, ⟨vs, ha, pr⟩, hz, hb, hx, q⟩ := h
  refine ⟨_, (pss_one (ps_ret (pe_maxD K rfl rfl m_max (pa_cons (pe_comp ["earlier", "height"] [2] rfl (comp_scope sc) (piZ K rfl m_zip (pa_cons (pv 0) (pa_cons (pv 1) pa_nil))) (fun _ _ _ _ _ => ⟨(pgT K (n := 2) rfl (pgs_cons (pg_name (i := 0) (nd_c sc (by decide +kernel)) rfl (Or.inl rfl)) (pgs_cons (pg_name (i := 1) (nd_c sc (by decide +kernel)) rfl (Or.inl rfl)) pgs_nil))), (pts_one (pt_val (pe_callD D_clash (hr.mono (by decide)) rfl (pa_cons (pv 0) (pa_cons (pv 2) pa_nil))))), (pe_op op_add (pv 1) pe_int)⟩)) pa_nil) (pk_cons pe_int pk_nil)))), ?_⟩
  have hl0 := Paired.length pr
  refine ⟨_, rfl, _, rfl, a, b, _, _, rfl, SqL.of ha, SqL.of hb, ?_⟩
  refine comp_zip (k := kL) (xs := vs) (ys := hs.map V.int) (fun D i zs H' => Same H H' ∧ H' D = some (.lst zs) ∧ zs = ((((ds.zip hs).take i).filter fun p => clashB p.1 d).map fun p => p.2 + 1).map V.int) (by omega) (fun D hD => ⟨same_new hD _, upd_same, rfl⟩) ?_ ?_ ?_
  · rintro D i zs H' hD hi ⟨S, hl, rfl⟩
    refine ⟨⟨SqL.of (S _ _ ha), SqL.of (S _ _ hb)⟩, hl, ?_⟩
    rw [List.length_map, List.length_map]
    exact Nat.le_trans (List.length_filter_le _ _) (by rw [List.length_take]; omega)
  · rintro D i x' y' p zs H' hD hx' hy' hp ⟨S, hl, rfl⟩
    obtain ⟨d1, g1, t1⟩ := Paired.getL pr hx'
    obtain ⟨h, g2, rfl⟩ := ints_get hy'
    have S' := S.new hp (.tup [x', .int h])
    have g3 : (ds.zip hs)[i]? = some (d1, h) := List.getElem?_zip_eq_some.mpr ⟨g1, g2⟩
    refine ⟨p, _, rfl, SqT.of upd_same, rfl, _, _, rfl, _, _, rfl, rfl, rfl, ?_⟩
    refine ⟨_, rfl, _, rfl, _, _, d1, d, rfl, t1.same S', hx.same S', _, rfl, ?_⟩
    refine ite2 (fun c => ?_) (fun c => ?_)
    · refine ⟨_, rfl, _, _, rfl, rfl, new_at hp hl, S'.wr hD _, upd_same, ?_⟩
      rw [List.take_add_one, g3, List.filter_append, List.map_append, List.map_append]
      simp [c]
    · refine ⟨S', new_at hp hl, ?_⟩
      rw [List.take_add_one, g3, List.filter_append, List.map_append, List.map_append]
      simp [c]
  · rintro D zs H' hD ⟨S, hl, rfl⟩
    refine ⟨D, _, 0, rfl, rfl, SqL.of hl, ?_⟩
    rw [List.take_of_length_le (by rw [List.length_zip, List.length_map]; omega)]
    exact q H' S
end
end K09

namespace K09
open PySem L2
abbrev s_heights : Stmt := top 5
theorem sc_heights : FnScope ["diary", "told", "deed"] ["diary"] (defScope s_heights) := ⟨rfl, rfl, rfl, by decide +kernel, rfl, by decide +kernel, by decide +kernel⟩
section
variable {P : Program} {w : World} {K : PySem.W.Frag} {mg : Str → Option Value} {base : Heap} {f : Addr} {fd : FuncData}
theorem ok_heights (F : Fun K "heights" "heights" s_heights f fd) (D_height_behind : Df P w K mg base "height_behind" 3 ["ahead", "told", "deed"] spBehind) : FnOk P w K mg base CX0 4 f fd ["diary"] spHeights := by
  have sc := sc_heights
  refine F.ok sc (fun vs H Q E h => ?_) (fun cdv A outer s H vs Q E hr h => ?_)
  · obtain ⟨a, ds, rfl, _⟩ := h
    rfl
  obtain ⟨a, ds, rfl, ⟨vs, ha, pr⟩, hz, q⟩ := h
  have hl0 := Paired.length pr
  refine ⟨_, (pss_cons (ps_set (i := 1) sc.nd rfl (Or.inl rfl) (pe_lst pa_nil))
    (pss_cons (ps_for PassesOwn.never rfl (piL K (pv 0)) (pg_name (i := 2) sc.nd rfl (Or.inl rfl)) (pss_one (ps_expr (pe_bmK K PySem.F.plainAttrs_list PySem.F.slot_list_append PySem.F.type_list_append mt_append (pv 1) (pa_cons (pe_callD D_height_behind (hr.mono (by decide)) rfl (pa_cons (pv 0) (pa_cons (pv 1) (pa_cons (pv 2) pa_nil)))) pa_nil)))))
    (pss_one (ps_ret (pv 1))))), ?_⟩
  refine ⟨(by decide : 0 ≤ sizeLine), fun l hl => ?_⟩
  refine ⟨_, rfl, a, rfl, ⟨_, SqL.of (new_at hl ha)⟩, for_list (xs := vs) (fun i σ H' => ∃ z, σ = [some (.ref a), some (.ref l), z] ∧ Same H H' ∧ H' l = some (.lst ((hts clashB (ds.take i)).map V.int))) ⟨none, rfl, same_new hl _, upd_same⟩ ?_ ?_ ?_⟩
  · rintro i σ H' _ ⟨z, rfl, S, _⟩
    exact SqL.of (S _ _ ha)
  · rintro i x σ H' hx ⟨z, rfl, S, hl'⟩
    obtain ⟨d, g, t⟩ := Paired.getL pr hx
    have hi : i < ds.length := (List.getElem?_eq_some_iff.mp g).1
    refine ⟨_, rfl, .inl ⟨rfl, _, SqL.of hl'⟩, _, rfl, _, rfl, _, rfl, a, l, x, ds, hts clashB (ds.take i), d, rfl, ⟨vs, S _ _ ha, stab_T3.list S pr⟩, hz, hl', t.same S, fun H2 S2 => ?_⟩
    refine ⟨l, _, _, rfl, rfl, S2 _ _ hl', ?_, ?_⟩
    · rw [List.length_map, hts_length, List.length_take]; omega
    · refine ⟨_, rfl, (S.trans S2).wr hl _, ?_⟩
      rw [zip_hts clashB ds (Nat.le_of_lt hi), List.take_add_one, g]
      show upd H2 l _ l = some (.lst ((hts clashB (ds.take i ++ [d])).map V.int))
      rw [hts_snoc, List.map_append]
      exact upd_same
  · rintro σ H' ⟨z, rfl, S, hl'⟩
    rw [hl0, List.take_of_length_le (Nat.le_refl _)] at hl'
    exact ⟨_, rfl, q l H' S hl hl'⟩
end
end K09

namespace K09
open PySem L2
abbrev s_laid : Stmt := top 6
theorem sc_laid : FnScope ["diary", "told", "rows", "deed", "height"] ["diary", "told"] (defScope s_laid) := ⟨rfl, rfl, rfl, by decide +kernel, rfl, by decide +kernel, by decide +kernel⟩
def spLaid : Sp := fun vs H Q _ => ∃ (a t : Addr) (ds : List D3), vs = [.ref a, .ref t] ∧ LD H a ds ∧ ds.length < 128 ∧ H t = some (.lst ((hts clashB ds).map V.int)) ∧
  ∀ r bs H', Same H H' → H r = none → H' r = some (.lst (bs.map V.ref)) → Rows H' bs (layF ds) → (∀ b ∈ bs, H b = none ∧ b ≠ r) → Q (.ref r) H'
section
variable {P : Program} {w : World} {K : PySem.W.Frag} {mg : Str → Option Value} {base : Heap} {f : Addr} {fd : FuncData}
seal PySem.eval PySem.spliced in
theorem ok_laid (F : Fun K "laid" "laid" s_laid f fd) (m_range : mg "range" = none) (m_max : mg "max" = none) (m_zip : mg "zip" = none) (m_sorted : mg "sorted" = none) :
    FnOk P w K mg base CX0 4 f fd ["diary", "told"] spLaid := by
  have sc := sc_laid
  refine F.ok sc (fun vs H Q E h => ?_) (fun cdv A outer s H vs Q E hr h => ?_)
  · obtain ⟨a, t, ds, rfl, _⟩ := h
    rfl
  obtain ⟨a, t, ds, rfl, La, h128, et, q⟩ := h
  obtain ⟨vs, ha, pr⟩ := id La
  have hl0 := Paired.length pr
  have hl1 := hts_length clashB ds
  have hnl := nL_le ds
  have hnc := nL_cast clashB ds
  refine ⟨_, (pss_cons (ps_setC (i := 2) ["height"] [] rfl sc.nd rfl rfl (comp_scope sc) (pi_range1 rfl m_range (pa_cons (pe_op op_add (pe_maxD K rfl rfl m_max (pa_cons (pv 1) pa_nil) (pk_cons (pe_un un_neg pe_int) pk_nil)) pe_int) pa_nil)) (fun _ _ _ _ _ => ⟨(pg_name (i := 0) (nd_c sc (by decide +kernel)) rfl (Or.inl rfl)), pts_nil, (pe_lst pa_nil)⟩))
    (pss_cons (ps_for PassesOwn.never rfl (piZ K rfl m_zip (pa_cons (pv 0) (pa_cons (pv 1) pa_nil))) (pgT K (n := 2) rfl (pgs_cons (pg_name (i := 3) sc.nd rfl (Or.inl rfl)) (pgs_cons (pg_name (i := 4) sc.nd rfl (Or.inl rfl)) pgs_nil))) (pss_one (ps_expr (pe_bmK K PySem.F.plainAttrs_list PySem.F.slot_list_append PySem.F.type_list_append mt_append (pe_ix (ixL K) (pv 2) (pv 4) (fun _ _ => rfl)) (pa_cons (pv 3) pa_nil)))))
    (pss_one (ps_ret (pe_comp ["row"] [] rfl (comp_scope sc) (piL K (pv 2)) (fun _ _ _ _ _ => ⟨(pg_name (i := 0) (nd_c sc (by decide +kernel)) rfl (Or.inl rfl)), pts_nil, (pe_callB call_sortedN rfl m_sorted bt_sorted (pa_cons (pv 0) pa_nil))⟩)))))), ?_⟩
  refine ⟨_, rfl, _, rfl, t, hts clashB ds, -1, rfl, rfl, SqL.of et, _, _, rfl, rfl, _, rfl, by omega, by omega, ?_⟩
  rw [show (maxD (-1) (hts clashB ds) + 1).toNat = nL clashB ds by omega]
  refine comp_empties (nL clashB ds) (small1000 (by omega)) fun rw' bs H2 S2 hrw erw Rw fr nd => ?_
  have S02 := S2
  have t2 : H2 t = some (.lst ((hts clashB ds).map V.int)) := S2 _ _ et
  have a2 : H2 a = some (.lst vs) := S02 _ _ ha
  have nt : t ∉ bs := fun z => by have := (fr t z).1; rw [et] at this; cases this
  have na : a ∉ bs := fun z => by have := (fr a z).1; rw [ha] at this; cases this
  have nr : rw' ∉ bs := fun z => (fr rw' z).2 rfl
  have fr0 : ∀ b ∈ bs, H b = none := fun b hb => (fr b hb).1
  refine ⟨_, rfl, _, rfl, a, t, _, _, rfl, SqL.of a2, SqL.of t2, ?_⟩
  refine for_zip (k := kL) (xs := vs) (ys := (hts clashB ds).map V.int) (fun i σ H' => ∃ z3 z4, σ = [some (.ref a), some (.ref t), some (.ref rw'), z3, z4] ∧ Same H H' ∧ H' t = some (.lst ((hts clashB ds).map V.int)) ∧ H' rw' = some (.lst (bs.map V.ref)) ∧ Rows H' bs (rowsOf ((hp clashB ds).take i) (nL clashB ds)))
    ⟨none, none, rfl, S02, t2, erw, ?_⟩ ?_ ?_ ?_
  · have e : rowsOf ((hp clashB ds).take 0) (nL clashB ds) = List.replicate (nL clashB ds) [] := by
      apply List.ext_getElem?
      intro j
      unfold rowsOf
      rw [List.getElem?_map, List.getElem?_replicate]
      by_cases hj : j < nL clashB ds
      · rw [List.getElem?_range hj, if_pos hj]; rfl
      · rw [List.getElem?_eq_none (by rw [List.length_range]; omega), if_neg hj]; rfl
    rw [e]; exact Rw
  · rintro i σ H' _ ⟨z3, z4, rfl, S, t', _⟩
    exact ⟨SqL.of (S _ _ ha), SqL.of t'⟩
  · rintro i x y p σ H' hx hy hp0 ⟨z3, z4, rfl, S, t', r', R'⟩
    obtain ⟨d, gd, td⟩ := Paired.getL pr hx
    obtain ⟨hh, gh, rfl⟩ := ints_get hy
    have gp := hp_get clashB gd
    have ehh : hh = hOf clashB ((hp clashB ds).take i) d := by
      have := hts_get clashB gd
      rw [gh] at this
      exact Option.some.inj this
    obtain ⟨_, _, hh0, hhn⟩ := hp_ds clashB gp
    rw [← ehh] at gp hh0 hhn
    have hk : hh.toNat < nL clashB ds := by omega
    obtain ⟨b, gb, Lb⟩ := Paired.getR R' (rowsOf_get (l := (hp clashB ds).take i) hk)
    obtain ⟨ws, eb, pb⟩ := id Lb
    have S' := same_new hp0 (.tup [x, .int hh])
    have bm := List.mem_of_getElem? gb
    have bl : atI (bs.map V.ref) hh = some (.ref b) := by
      have e : hh = ((hh.toNat : Nat) : Int) := by omega
      rw [e]
      exact atI_nat (by rw [List.getElem?_map, gb]; rfl)
    refine ⟨p, _, rfl, SqT.of upd_same, rfl, _, _, rfl, _, _, rfl, rfl, ?_⟩
    refine ⟨_, rfl, _, rfl, _, _, _, _, rfl, rfl, SqL.of (new_at hp0 r'), bl, .inl ⟨rfl, _, SqL.of (new_at hp0 eb)⟩, _, rfl, b, ws, x, rfl, rfl, new_at hp0 eb, ?_, ?_⟩
    · rw [Paired.length pb]
      exact small1000 (by have := row_length ((hp clashB ds).take i) hh.toNat; rw [List.length_take, hp_length] at this; omega)
    refine ⟨_, _, rfl, (S.trans S').wr (fr0 b bm) _, ?_, ?_, ?_⟩
    · rw [upd_ne fun z => nt (by rw [z]; exact bm)]; exact new_at hp0 t'
    · rw [upd_ne fun z => nr (by rw [z]; exact bm)]; exact new_at hp0 r'
    · have e : (hp clashB ds).take (i + 1) = (hp clashB ds).take i ++ [(d, ((hh.toNat : Nat) : Int))] := by
        rw [List.take_add_one, gp, show ((hh.toNat : Nat) : Int) = hh by omega]; rfl
      rw [e, rowsOf_set _ _ _ _ hk]
      refine Rows.set (new_at hp0 eb) ⟨ws ++ [x], upd_same, ?_⟩ nd gb (Rows.same S' R')
      refine Paired.mapP (Paired.app (stab_T3.list S' pb) (.cons (td.same (S.trans S')) .nil)) fun _ _ z => z.wr (new_at hp0 eb)
  · rintro σ H3 ⟨z3, z4, rfl, S, t', r', R'⟩
    rw [List.length_map, hl0, hl1, Nat.min_self, List.take_of_length_le (by rw [hp_length]; exact Nat.le_refl _)] at R'
    refine ⟨_, rfl, rw', rfl, ⟨_, SqL.of r'⟩, comp_rows (bs.map V.ref) (layF ds) ?_ ?_ (fun H' S' => SqL.of (S' _ _ r')) ?_ ?_⟩
    · rw [List.length_map, Paired.length R', layF_length, rowsOf_length]
    · rw [List.length_map, Paired.length R', rowsOf_length]; exact small1000 (by omega)
    · rintro i x r hx hr' H' Q' S' q'
      have hi : i < nL clashB ds := by
        have := (List.getElem?_eq_some_iff.mp hr').1
        rwa [layF_length] at this
      rw [layF_get hi] at hr'
      have hr2 : srt (rowOf (hp clashB ds) i) = r := Option.some.inj hr'
      obtain ⟨b, gb, Lb⟩ := Paired.getR R' (rowsOf_get (l := hp clashB ds) hi)
      rw [List.getElem?_map, gb] at hx
      have ex : V.ref b = x := Option.some.inj hx
      subst ex
      refine ⟨_, rfl, b, rowOf (hp clashB ds) i, rfl, Lb.same S', ?_, fun r2 ws2 hr2' pw => q' r2 ws2 hr2' (by rw [← hr2]; exact pw)⟩
      have := row_length (hp clashB ds) i
      rw [hp_length] at this
      omega
    · intro D cs H4 S4 hD eD Rc frc ndc
      exact q D cs H4 (S.trans S4) (S.free hD) eD Rc fun b hb => ⟨S.free (frc b hb).1, (frc b hb).2⟩
end
end K09

namespace K09
open PySem L2
def spLayersN : Sp := fun vs H Q _ => ∃ (a : Addr) (ds : List D3), vs = [.ref a] ∧ LD H a ds ∧ ds.length < 128 ∧
  ∀ r bs H', Same H H' → H r = none → H' r = some (.lst (bs.map V.ref)) → Rows H' bs (layF ds) → (∀ b ∈ bs, H b = none ∧ b ≠ r) → Q (.ref r) H'
end K09
namespace K09
open PySem L2
abbrev s_layers : Stmt := top 7
theorem sc_layers : FnScope ["diary"] ["diary"] (defScope s_layers) := ⟨rfl, rfl, rfl, by decide +kernel, rfl, by decide +kernel, by decide +kernel⟩
section
variable {P : Program} {w : World} {K : PySem.W.Frag} {mg : Str → Option Value} {base : Heap} {f : Addr} {fd : FuncData}
seal PySem.eval PySem.spliced in
theorem ok_layers (F : Fun K "layers" "layers" s_layers f fd) (D_heights : Df P w K mg base "heights" 4 ["diary"] spHeights) (D_laid : Df P w K mg base "laid" 4 ["diary", "told"] spLaid) :
    FnOk P w K mg base CX0 5 f fd ["diary"] spLayersN := by
  have sc := sc_layers
  refine F.ok sc (fun vs H Q E h => ?_) (fun cdv A outer s H vs Q E hr h => ?_)
  · obtain ⟨a, ds, rfl, _⟩ := h
    rfl
  obtain ⟨a, ds, rfl, La, h128, q⟩ := h
  refine ⟨_, (pss_one (ps_ret (pe_callD D_laid (hr.mono (by decide)) rfl (pa_cons (pv 0) (pa_cons (pe_callD D_heights (hr.mono (by decide)) rfl (pa_cons (pv 0) pa_nil)) pa_nil))))), ?_⟩
  refine ⟨_, rfl, _, rfl, a, ds, rfl, La, small1000 (by omega), fun t H1 S1 ht et => ?_⟩
  exact ⟨a, t, ds, rfl, La.same S1, h128, et, fun r bs H2 S2 hr er R fr => q r bs H2 (S1.trans S2) (S1.free hr) er R fun b hb => ⟨S1.free (fr b hb).1, (fr b hb).2⟩⟩
end
end K09


namespace K09
open PySem L2
abbrev s_cell : Stmt := top 12
abbrev s_whole : Stmt := top 13
abbrev s_power : Stmt := top 14
abbrev s_wide : Stmt := top 15
abbrev s_deed : Stmt := top 16
theorem sc_cell : FnScope ["_law_script", "_law_k"] ["_law_script", "_law_k"] (defScope s_cell) := ⟨rfl, rfl, rfl, by decide +kernel, rfl, by decide +kernel, by decide +kernel⟩
theorem sc_whole : FnScope ["_law_found"] ["_law_found"] (defScope s_whole) := ⟨rfl, rfl, rfl, by decide +kernel, rfl, by decide +kernel, by decide +kernel⟩
theorem sc_power : FnScope ["_law_k", "_law_found", "_law_step"] ["_law_k"] (defScope s_power) := ⟨rfl, rfl, rfl, by decide +kernel, rfl, by decide +kernel, by decide +kernel⟩
theorem sc_wide : FnScope ["_law_cell", "_law_factor"] ["_law_cell", "_law_factor"] (defScope s_wide) := ⟨rfl, rfl, rfl, by decide +kernel, rfl, by decide +kernel, by decide +kernel⟩
theorem sc_deed : FnScope ["_law_cell", "_law_lift", "_law_rest", "_law_looks", "_law_changes"] ["_law_cell", "_law_lift"] (defScope s_deed) := ⟨rfl, rfl, rfl, by decide +kernel, rfl, by decide +kernel, by decide +kernel⟩
def spWholeI : Sp := fun vs H Q _ => ∃ n : Int, vs = [.int n] ∧ Q (.bl true) H
def spPower : Sp := fun vs H Q _ => ∃ k : Int, vs = [.int k] ∧ 0 ≤ k ∧ k ≤ 1000 ∧ Q (.int (2 ^ k.toNat)) H
def spWide : Sp := fun vs H Q _ => ∃ c g : Int, vs = [.int c, .int g] ∧ (0 ≤ g ∧ g < 1000000) ∧ ∀ n, R60 n → Q (.int n) H
def spDeedW : Sp := fun vs H Q _ => ∃ c l : Int, vs = [.int c, .int l] ∧ 0 ≤ l ∧ l ≤ 2 ^ 55 ∧ ∀ x d H', Same H H' → T3 H' x d → okD d → Q x H'
section
variable {P : Program} {w : World} {K : PySem.W.Frag} {mg : Str → Option Value} {base : Heap} {f : Addr} {fd : FuncData}
theorem ok_cell (F : Fun K "_law_cell_at" "_law_cell_at" s_cell f fd) (m_len : mg "len" = none) : FnOk P w K mg base CX0 1 f fd ["_law_script", "_law_k"] (spCell K) := by
  have sc := sc_cell
  refine F.ok sc (fun vs H Q E h => ?_) (fun cdv A outer s H vs Q E hr h => ?_)
  · obtain ⟨a, ns, k, rfl, _⟩ := h
    rfl
  obtain ⟨a, ns, k, rfl, hS, h0, q⟩ := h
  refine ⟨_, (pss_cons (ps_if (pt_cmpR op_lt (pv 1) (pe_callB (lenQ K) rfl m_len bt_len (pa_cons (pv 0) pa_nil)) (nomark _)) (pss_one (ps_ret (pe_ix (ixL K) (pv 0) (pv 1) (fun _ _ => rfl)))) pss_nil)
    (pss_one (ps_ret pe_int))), ?_⟩
  have hl : (ns.map V.int).length = ns.length := List.length_map _
  refine ⟨_, rfl, _, rfl, a, _, rfl, .inl hS, _, _, rfl, rfl, _, rfl, ?_⟩
  refine iteD (fun c => ?_) (fun c => ?_)
  · rw [hl] at c
    exact ⟨_, rfl, _, rfl, _, _, _, _, rfl, rfl, hS, at_ints h0 c, q⟩
  · rw [hl] at c
    have e : ns.getD k.toNat 0 = 0 := by rw [List.getD_eq_getElem?_getD, List.getElem?_eq_none (by omega)]; rfl
    rw [e] at q
    exact q
theorem ok_whole (F : Fun K "_law_whole" "_law_whole" s_whole f fd) (m_isinstance : mg "isinstance" = none) (m_int : mg "int" = none) (m_bool : mg "bool" = none) : FnOk P w K mg base CX0 1 f fd ["_law_found"] spWholeI := by
  have sc := sc_whole
  refine F.ok sc (fun vs H Q E h => ?_) (fun cdv A outer s H vs Q E hr h => ?_)
  · obtain ⟨n, rfl, _⟩ := h
    rfl
  obtain ⟨n, rfl, q⟩ := h
  refine ⟨_, (pss_one (ps_ret (pe_and (pe_callB (isI K) rfl m_isinstance bt_isinstance (pa_cons (pv 0) (pa_cons (pe_type rfl m_int bt_int) pa_nil))) (pe_one (pe_not (pe_callB (isI K) rfl m_isinstance bt_isinstance (pa_cons (pv 0) (pa_cons (pe_type rfl m_bool bt_bool) pa_nil)))))))), ?_⟩
  exact ⟨_, rfl, _, _, _, _, true, rfl, rfl, .int _, kit_same, true, rfl, iteT ⟨_, rfl, _, _, _, _, false, rfl, rfl, .int _, kit_int_bool, false, rfl, q⟩⟩
theorem ok_power (F : Fun K "_law_power" "_law_power" s_power f fd) (m_range : mg "range" = none) : FnOk P w K mg base CX0 1 f fd ["_law_k"] spPower := by
  have sc := sc_power
  refine F.ok sc (fun vs H Q E h => ?_) (fun cdv A outer s H vs Q E hr h => ?_)
  · obtain ⟨k, rfl, _⟩ := h
    rfl
  obtain ⟨k', rfl, hk0, hk, q⟩ := h
  obtain ⟨k, rfl⟩ := Int.eq_ofNat_of_zero_le hk0
  rw [Int.toNat_natCast] at q
  refine ⟨_, (pss_cons (ps_set (i := 1) sc.nd rfl (Or.inl rfl) pe_int)
    (pss_cons (ps_for PassesOwn.never rfl (pi_range1 rfl m_range (pa_cons (pv 0) pa_nil)) (pg_name (i := 2) sc.nd rfl (Or.inl rfl)) (pss_one (ps_set (i := 1) sc.nd rfl (Or.inl rfl) (pe_op op_mul (pv 1) pe_int))))
    (pss_one (ps_ret (pv 1))))), ?_⟩
  refine ⟨_, rfl, _, rfl, by omega, by omega, ?_⟩
  rw [Int.toNat_natCast]
  refine for_range (n := k) (fun i σ H' => ∃ z, σ = [some (.int k), some (.int (2 ^ i)), z] ∧ H' = H) ⟨none, rfl, rfl⟩ ?_ ?_
  · rintro i σ H' hi ⟨z, rfl, rfl⟩
    refine ⟨_, rfl, _, _, rfl, rfl, .inr ⟨by decide, by decide⟩, ?_⟩
    exact ⟨_, by rw [Int.pow_succ]; rfl, rfl⟩
  · rintro σ H' ⟨z, rfl, rfl⟩
    exact ⟨_, rfl, q⟩
theorem ok_wide (F : Fun K "_law_wide" "_law_wide" s_wide f fd) : FnOk P w K mg base CX0 1 f fd ["_law_cell", "_law_factor"] spWide := by
  have sc := sc_wide
  refine F.ok sc (fun vs H Q E h => ?_) (fun cdv A outer s H vs Q E hr h => ?_)
  · obtain ⟨c, g, rfl, _⟩ := h
    rfl
  obtain ⟨c, g, rfl, hg, q⟩ := h
  refine ⟨_, (pss_one (ps_ret (pe_op op_mod (pe_op op_mod (pe_op op_mul (pe_op op_mod (pv 0) (pe_op op_sub (pe_op op_pow pe_int pe_int) pe_int)) (pv 1)) (pe_op op_sub (pe_op op_pow pe_int pe_int) pe_int)) (pe_op op_pow pe_int pe_int)))), ?_⟩
  refine ⟨_, rfl, _, _, rfl, rfl, ⟨by decide, by decide, by decide⟩, _, _, rfl, rfl, _, _, rfl, rfl, (show (0 : Int) < _ by decide), ?_⟩
  refine ⟨_, rfl, _, _, rfl, rfl, .inr ⟨by omega, by omega⟩, ?_⟩
  refine ⟨_, _, rfl, rfl, ⟨by decide, by decide, by decide⟩, _, _, rfl, rfl, _, _, rfl, rfl, (show (0 : Int) < _ by decide), ?_⟩
  exact ⟨_, _, rfl, rfl, ⟨by decide, by decide, by decide⟩, _, _, rfl, rfl, (show (0 : Int) < _ by decide), q _ (m60 _)⟩
seal PySem.eval PySem.spliced in
theorem ok_deed (F : Fun K "_law_deed" "_law_deed" s_deed f fd) (D__law_wide : Df P w K mg base "_law_wide" 1 ["_law_cell", "_law_factor"] spWide) : FnOk P w K mg base CX0 2 f fd ["_law_cell", "_law_lift"] spDeedW := by
  have sc := sc_deed
  refine F.ok sc (fun vs H Q E h => ?_) (fun cdv A outer s H vs Q E hr h => ?_)
  · obtain ⟨c, l, rfl, _⟩ := h
    rfl
  obtain ⟨c, l, rfl, l0, l1, q⟩ := h
  refine ⟨_, (pss_cons (ps_set (i := 2) sc.nd rfl (Or.inl rfl) (pe_op op_fdiv (pv 0) pe_int))
    (pss_cons (ps_if (pt_cmpR op_eq (pe_op op_mod (pv 0) pe_int) pe_int (nomark _)) (pss_one (ps_ret (pe_tup (pa_cons (pe_op op_mod (pe_op op_fdivB (pe_op op_fdivB (pv 2) (pe_op op_pow pe_int pe_int)) (pe_op op_pow pe_int pe_int)) (pe_op op_pow pe_int pe_int)) (pa_cons (pe_op op_mod (pv 2) (pe_op op_pow pe_int pe_int)) (pa_cons (pe_op op_mod (pe_op op_fdivB (pv 2) (pe_op op_pow pe_int pe_int)) (pe_op op_pow pe_int pe_int)) pa_nil)))))) pss_nil)
    (pss_cons (ps_if (pt_cmpR op_eq (pe_op op_mod (pv 0) pe_int) pe_int (nomark _)) (pss_cons (ps_set (i := 3) sc.nd rfl (Or.inl rfl) (pe_op op_and (pe_op op_and (pe_callD D__law_wide (hr.mono (by decide)) rfl (pa_cons (pv 0) (pa_cons pe_int pa_nil))) (pe_callD D__law_wide (hr.mono (by decide)) rfl (pa_cons (pv 0) (pa_cons pe_int pa_nil)))) (pe_callD D__law_wide (hr.mono (by decide)) rfl (pa_cons (pv 0) (pa_cons pe_int pa_nil)))))
    (pss_cons (ps_set (i := 4) sc.nd rfl (Or.inl rfl) (pe_op op_and (pe_op op_and (pe_callD D__law_wide (hr.mono (by decide)) rfl (pa_cons (pv 0) (pa_cons pe_int pa_nil))) (pe_callD D__law_wide (hr.mono (by decide)) rfl (pa_cons (pv 0) (pa_cons pe_int pa_nil)))) (pe_callD D__law_wide (hr.mono (by decide)) rfl (pa_cons (pv 0) (pa_cons pe_int pa_nil)))))
    (pss_one (ps_ret (pe_tup (pa_cons (pe_op op_mod (pe_op op_mul (pv 0) pe_int) (pe_op op_pow pe_int pe_int)) (pa_cons (pv 3) (pa_cons (pe_op op_and (pv 4) (pe_callD D__law_wide (hr.mono (by decide)) rfl (pa_cons (pv 0) (pa_cons pe_int pa_nil)))) pa_nil)))))))) pss_nil)
    (pss_cons (ps_set (i := 3) sc.nd rfl (Or.inl rfl) (pe_op op_mul (pe_ix (ixL K) (pe_lst (pa_ints (ns := [0, 1, 2, 4, 8, 16, 3, 20]) rfl)) (pe_op op_mod (pe_op op_fdiv (pv 2) pe_int) pe_int) (fun _ _ => rfl)) (pv 1)))
    (pss_one (ps_ret (pe_tup (pa_cons (pe_op op_mod (pv 2) pe_int) (pa_cons (pv 3) (pa_cons (pe_op op_mul (pe_ix (ixL K) (pe_lst (pa_ints (ns := [0, 0, 1, 2, 4, 8, 16, 9]) rfl)) (pe_op op_mod (pe_op op_fdiv (pv 2) pe_int) pe_int) (fun _ _ => rfl)) (pv 1)) pa_nil)))))))))), ?_⟩
  refine ⟨_, rfl, _, _, rfl, rfl, ⟨by decide, by decide⟩, ?_⟩
  refine ⟨_, rfl, _, _, rfl, rfl, (show (0 : Int) < 4 by decide), rfl, _, rfl, iteI (fun _ => ?_) (fun _ => ?_)⟩
  · refine ⟨_, rfl, _, _, rfl, rfl, ⟨by decide, by decide, by decide⟩, _, _, rfl, rfl, ⟨by decide, by decide +kernel⟩, _, _, rfl, rfl, ⟨by decide, by decide, by decide⟩, _, _, rfl, rfl, ⟨by decide, by decide +kernel⟩, _, _, rfl, rfl, ⟨by decide, by decide, by decide⟩, _, _, rfl, rfl, (show (0 : Int) < _ by decide), ?_⟩
    refine ⟨_, rfl, _, _, rfl, rfl, ⟨by decide, by decide, by decide⟩, _, _, rfl, rfl, (show (0 : Int) < _ by decide), ?_⟩
    refine ⟨_, rfl, _, _, rfl, rfl, ⟨by decide, by decide, by decide⟩, _, _, rfl, rfl, ⟨by decide, by decide +kernel⟩, _, _, rfl, rfl, ⟨by decide, by decide, by decide⟩, _, _, rfl, rfl, (show (0 : Int) < _ by decide), ?_⟩
    exact ⟨sm rfl, fun t ht => q _ (_, _, _) _ (same_new ht _) ⟨t, rfl, upd_same⟩ (okD_of (m60 _) (m60 _))⟩
  refine ⟨_, rfl, _, _, rfl, rfl, (show (0 : Int) < 4 by decide), rfl, _, rfl, iteI (fun _ => ?_) (fun _ => ?_)⟩
  · refine ⟨_, rfl, c, _, rfl, ⟨by decide, by decide⟩, fun n1 r1 => ⟨_, rfl, c, _, rfl, ⟨by decide, by decide⟩, fun n2 r2 => ⟨_, _, rfl, rfl, _, rfl, c, _, rfl, ⟨by decide, by decide⟩, fun n3 r3 => ⟨_, _, rfl, rfl, ?_⟩⟩⟩⟩
    refine ⟨_, rfl, c, _, rfl, ⟨by decide, by decide⟩, fun m1 s1 => ⟨_, rfl, c, _, rfl, ⟨by decide, by decide⟩, fun m2 s2 => ⟨_, _, rfl, rfl, _, rfl, c, _, rfl, ⟨by decide, by decide⟩, fun m3 s3 => ⟨_, _, rfl, rfl, ?_⟩⟩⟩⟩
    refine ⟨_, rfl, _, _, rfl, rfl, .inr ⟨by decide, by decide⟩, _, _, rfl, rfl, ⟨by decide, by decide, by decide⟩, _, _, rfl, rfl, (show (0 : Int) < _ by decide), _, rfl, _, rfl, _, rfl, c, _, rfl, ⟨by decide, by decide⟩, fun m4 s4 => ⟨_, _, rfl, rfl, ?_⟩⟩
    exact ⟨sm rfl, fun t ht => q _ (_, _, _) _ (same_new ht _) ⟨t, rfl, upd_same⟩ (okD_of (and60 (and60 r1 r2) r3) (and60 (and60 (and60 s1 s2) s3) s4))⟩
  have b1 := getD_all (P := fun x => 0 ≤ x ∧ x ≤ 20) (l := [0, 1, 2, 4, 8, 16, 3, 20]) (by decide) (by decide) (c / 4 / 3 % 8).toNat
  have b2 := getD_all (P := fun x => 0 ≤ x ∧ x ≤ 20) (l := [0, 0, 1, 2, 4, 8, 16, 9]) (by decide) (by decide) (c / 4 / 24 % 8).toNat
  have g1 := at_ints (ns := [0, 1, 2, 4, 8, 16, 3, 20]) (k := c / 4 / 3 % 8) (by omega) (by show c / 4 / 3 % 8 < 8; omega)
  have g2 := at_ints (ns := [0, 0, 1, 2, 4, 8, 16, 9]) (k := c / 4 / 24 % 8) (by omega) (by show c / 4 / 24 % 8 < 8; omega)
  refine ⟨sm rfl, fun p hp => ?_⟩
  refine ⟨_, rfl, _, _, rfl, rfl, ⟨by decide, by decide⟩, _, _, rfl, rfl, (show (0 : Int) < 8 by decide), _, _, _, _, rfl, rfl, SqL.of upd_same, g1, _, rfl, _, _, rfl, rfl, .inl ⟨by omega, by omega⟩, ?_⟩
  refine ⟨_, rfl, _, _, rfl, rfl, (show (0 : Int) < 3 by decide), _, rfl, sm rfl, fun p2 hp2 => ?_⟩
  refine ⟨_, rfl, _, _, rfl, rfl, ⟨by decide, by decide⟩, _, _, rfl, rfl, (show (0 : Int) < 8 by decide), _, _, _, _, rfl, rfl, SqL.of upd_same, g2, _, rfl, _, _, rfl, rfl, .inl ⟨by omega, by omega⟩, ?_⟩
  exact ⟨sm rfl, fun t ht => q _ (_, _, _) _ (((same_new hp _).new hp2 _).new ht _) ⟨t, rfl, upd_same⟩ (okD_of (mul60 b1 l0 l1) (mul60 b2 l0 l1))⟩
end
end K09


namespace K09
open PySem L2
abbrev s_lclash : Stmt := top 17
abbrev s_passed : Stmt := top 18
abbrev s_exch : Stmt := top 19
abbrev s_changed : Stmt := top 20
theorem sc_lclash : FnScope ["_law_one", "_law_other"] ["_law_one", "_law_other"] (defScope s_lclash) := ⟨rfl, rfl, rfl, by decide +kernel, rfl, by decide +kernel, by decide +kernel⟩
theorem sc_passed : FnScope ["_law_rows", "_law_cells", "_law_now", "_law_cell", "_law_at", "_law_step"] ["_law_rows", "_law_cells"] (defScope s_passed) := ⟨rfl, rfl, rfl, by decide +kernel, rfl, by decide +kernel, by decide +kernel⟩
theorem sc_exch : FnScope ["_law_row", "_law_which", "_law_new"] ["_law_row", "_law_which", "_law_new"] (defScope s_exch) := ⟨rfl, rfl, rfl, by decide +kernel, rfl, by decide +kernel, by decide +kernel⟩
theorem sc_changed : FnScope ["_law_rows", "_law_kind", "_law_cell", "_law_lift", "_law_at", "_law_new"] ["_law_rows", "_law_kind", "_law_cell", "_law_lift"] (defScope s_changed) := ⟨rfl, rfl, rfl, by decide +kernel, rfl, by decide +kernel, by decide +kernel⟩
section
variable {P : Program} {w : World} {K : PySem.W.Frag} {mg : Str → Option Value} {base : Heap} {f : Addr} {fd : FuncData}
theorem ok_lclash (F : Fun K "_law_clash" "_law_clash" s_lclash f fd) : FnOk P w K mg base CX0 1 f fd ["_law_one", "_law_other"] spClashL := by
  have sc := sc_lclash
  refine F.ok sc (fun vs H Q E h => ?_) (fun cdv A outer s H vs Q E hr h => ?_)
  · obtain ⟨x, y, d, e, rfl, _⟩ := h
    rfl
  obtain ⟨x, y, d, e, rfl, ⟨a, rfl, ha⟩, ⟨b, rfl, hb⟩, q⟩ := h
  refine ⟨_, (pss_one (ps_ret (pe_or (pe_cmpR op_ne (pe_op op_and (pe_ix (ixT K) (pv 0) pe_int (fun _ _ => rfl)) (pe_op op_or (pe_ix (ixT K) (pv 1) pe_int (fun _ _ => rfl)) (pe_ix (ixT K) (pv 1) pe_int (fun _ _ => rfl)))) pe_int (nomark _)) (pe_one (pe_cmpR op_ne (pe_op op_and (pe_ix (ixT K) (pv 0) pe_int (fun _ _ => rfl)) (pe_ix (ixT K) (pv 1) pe_int (fun _ _ => rfl))) pe_int (nomark _)))))), ?_⟩
  have q' : Q (.bl (distB d e || !decide (V.int (Builtin.bitAnd d.2.1 e.2.2) = V.int 0))) H := by rw [PyProof.Rows.bitAnd_comm]; exact q
  refine ⟨_, rfl, _, _, _, _, rfl, rfl, SqT.of ha, at_l2, _, rfl, _, _, _, _, rfl, rfl, SqT.of hb, at_l1, _, rfl, _, _, _, _, rfl, rfl, SqT.of hb, at_l2, _, _, rfl, rfl, _, _, rfl, rfl, rfl, _, rfl, ite2 (fun c => ?_) (fun c => ?_)⟩
  · rw [show distB d e = true from c] at q'
    exact q'
  · rw [show distB d e = false from Bool.eq_false_iff.mpr c] at q'
    exact ⟨_, rfl, _, _, _, _, rfl, rfl, SqT.of ha, at_l1, _, rfl, _, _, _, _, rfl, rfl, SqT.of hb, at_l2, _, _, rfl, rfl, rfl, q'⟩
seal PySem.eval PySem.spliced in
theorem ok_passed (F : Fun K "_law_passed_on" "_law_passed_on" s_passed f fd) (D__law_clash : Df P w K mg base "_law_clash" 1 ["_law_one", "_law_other"] spClashL) (m_list : mg "list" = none) (m_range : mg "range" = none) (m_len : mg "len" = none) (m_max : mg "max" = none) :
    FnOk P w K mg base CX0 2 f fd ["_law_rows", "_law_cells"] spPassed := by
  have sc := sc_passed
  refine F.ok sc (fun vs H Q E h => ?_) (fun cdv A outer s H vs Q E hr h => ?_)
  · obtain ⟨a, c, ds, ms, rfl, _⟩ := h
    rfl
  obtain ⟨a, c, ds, ms, rfl, ⟨vs, ha, pr⟩, hz, hc, q⟩ := h
  refine ⟨_, (pss_cons (ps_set (i := 2) sc.nd rfl (Or.inl rfl) (pe_callTy (listOf K) rfl m_list bt_list (pa_cons (pv 0) pa_nil)))
    (pss_cons (ps_for PassesOwn.never rfl (piL K (pv 1)) (pg_name (i := 3) sc.nd rfl (Or.inl rfl)) (pss_cons (ps_set (i := 4) sc.nd rfl (Or.inl rfl) (pe_op op_mod (pe_op op_mod (pe_op op_mul (pe_op op_mod (pv 3) pe_int) pe_int) pe_int) (pe_callB (call_max2 rfl) rfl m_max bt_max (pa_cons pe_int (pa_cons (pe_callB (lenQ K) rfl m_len bt_len (pa_cons (pv 2) pa_nil)) pa_nil)))))
    (pss_one (ps_for PassesOwn.never rfl (pi_range1 rfl m_range (pa_cons (pe_op op_mod (pe_op op_mod (pv 3) pe_int) pe_int) pa_nil)) (pg_name (i := 5) sc.nd rfl (Or.inl rfl)) (pss_one (ps_if (PW.pt (pw_and (pt_cmpR op_lt (pe_op op_add (pv 4) pe_int) (pe_callB (lenQ K) rfl m_len bt_len (pa_cons (pv 2) pa_nil)) (nomark _)) (pw_and1 (pt_not (pt_val (pe_callD D__law_clash (hr.mono (by decide)) rfl (pa_cons (pe_ix (ixL K) (pv 2) (pv 4) (fun _ _ => rfl)) (pa_cons (pe_ix (ixL K) (pv 2) (pe_op op_add (pv 4) pe_int) (fun _ _ => rfl)) pa_nil)))))))) (pss_cons (ps_set (i := 2) sc.nd rfl (Or.inl rfl) (pe_op op_cat (pe_op op_cat (pe_slice (slL K) (pv 2) po_none (po_some (pv 4))) (pe_lst (pa_cons (pe_ix (ixL K) (pv 2) (pe_op op_add (pv 4) pe_int) (fun _ _ => rfl)) (pa_cons (pe_ix (ixL K) (pv 2) (pv 4) (fun _ _ => rfl)) pa_nil)))) (pe_slice (slL K) (pv 2) (po_some (pe_op op_add (pv 4) pe_int)) po_none)))
    (pss_one (ps_set (i := 4) sc.nd rfl (Or.inl rfl) (pe_op op_add (pv 4) pe_int)))) pss_nil))))))
    (pss_one (ps_ret (pv 2))))), ?_⟩
  have hl0 := Paired.length pr
  refine ⟨_, rfl, a, vs, rfl, .inl (SqL.of ha), fun nw0 hn0 => ?_⟩
  have S0 := same_new hn0 (.lst vs)
  refine ⟨_, rfl, c, rfl, ⟨_, SqL.of (S0 _ _ hc)⟩, for_list (xs := ms.map V.int) (fun i σ H' => ∃ nw us es z3 z4 z5, σ = [some (.ref a), some (.ref c), some (.ref nw), z3, z4, z5] ∧ Same H H' ∧ H nw = none ∧ H' nw = some (.lst us) ∧ Paired (T3 H') us es ∧ (∀ e ∈ es, e ∈ ds) ∧ es.length = ds.length)
    ⟨nw0, vs, ds, none, none, none, rfl, S0, hn0, upd_same, stab_T3.list S0 pr, fun _ z => z, rfl⟩ ?_ ?_ ?_⟩
  · rintro i σ H' _ ⟨nw, us, es, z3, z4, z5, rfl, S, _⟩
    exact SqL.of (S _ _ hc)
  · rintro i x σ H' hx ⟨nw, us, es, z3, z4, z5, rfl, S, n0, en, pn, sb, el⟩
    obtain ⟨cc, _, rfl⟩ := ints_get hx
    have hmx : (0 : Int) < (if (us.length : Int) > 1 then (us.length : Int) else 1) := by split <;> omega
    refine ⟨_, rfl, _, _, rfl, rfl, (show (0 : Int) < _ by decide), _, _, rfl, rfl, .inr ⟨by decide, by decide⟩, _, _, rfl, rfl, (show (0 : Int) < _ by decide), _, rfl, nw, us, rfl, .inl (SqL.of en), _, _, rfl, _, _, rfl, rfl, hmx, ?_⟩
    obtain ⟨k0, hk⟩ := Int.eq_ofNat_of_zero_le (Int.emod_nonneg (cc % 2147483647 * 48271 % 2147483629) (Int.ne_of_gt hmx))
    have hb4 : (0 : Int) ≤ cc % 2147483629 % 4 ∧ cc % 2147483629 % 4 < 4 := ⟨Int.emod_nonneg _ (by decide), Int.emod_lt_of_pos _ (by decide)⟩
    refine ⟨_, rfl, _, _, rfl, rfl, (show (0 : Int) < _ by decide), _, _, rfl, rfl, (show (0 : Int) < 4 by decide), cc % 2147483629 % 4, rfl, by omega, by omega, ?_⟩
    refine for_range (n := (cc % 2147483629 % 4).toNat) (fun j σ H'' => ∃ (nw : Addr) (us : List V) (es : List D3) (k : Nat) (z5 : Option V), σ = [some (.ref a), some (.ref c), some (.ref nw), some (.int cc), some (.int (k : Int)), z5] ∧ Same H H'' ∧ H nw = none ∧ H'' nw = some (.lst us) ∧ Paired (T3 H'') us es ∧ (∀ e ∈ es, e ∈ ds) ∧ es.length = ds.length)
      ⟨nw, us, es, k0, z5, by rw [← hk]; rfl, S, n0, en, pn, sb, el⟩ ?_ ?_
    · clear S n0 en pn sb el
      rintro j σ H2 hj ⟨nw, us, es, k, z5, rfl, S, n0, en, pn, sb, el⟩
      have hlu := Paired.length pn
      have ex : ∃ (nw' : Addr) (us' : List V) (es' : List D3) (k' : Nat) (z5' : Option V), [some (.ref a), some (.ref c), some (.ref nw), some (.int cc), some (.int (k : Int)), some (.int (0 + (j : Int)))] = [some (.ref a), some (.ref c), some (.ref nw'), some (.int cc), some (.int (k' : Int)), z5'] ∧ Same H H2 ∧ H nw' = none ∧ H2 nw' = some (.lst us') ∧ Paired (T3 H2) us' es' ∧ (∀ e ∈ es', e ∈ ds) ∧ es'.length = ds.length := ⟨nw, us, es, k, _, rfl, S, n0, en, pn, sb, el⟩
      refine ⟨_, rfl, _, _, rfl, rfl, _, rfl, nw, us, rfl, .inl (SqL.of en), _, _, rfl, rfl, _, rfl, iteD (fun c2 => ?_) (fun c2 => iteF ex)⟩
      have hlt : k + 1 < es.length := by omega
      have gb : es[k]? = some es[k] := List.getElem?_eq_getElem (by omega)
      have ga : es[k + 1]? = some es[k + 1] := List.getElem?_eq_getElem hlt
      obtain ⟨vb, gvb, tb⟩ := Paired.getR pn gb
      obtain ⟨va, gva, ta⟩ := Paired.getR pn ga
      have a1 : atI us ((k : Int) + 1) = some va := by rw [show ((k : Int) + 1) = ((k + 1 : Nat) : Int) by omega]; exact atI_nat gva
      refine ⟨_, rfl, _, rfl, _, _, _, _, rfl, rfl, SqL.of en, atI_nat gvb, _, rfl, _, rfl, _, _, rfl, rfl, _, _, _, _, rfl, rfl, SqL.of en, a1, _, _, es[k], es[k + 1], rfl, tb, ta, _, rfl, iteB (fun _ => ex) (fun c3 => ?_)⟩
      refine ⟨_, rfl, _, rfl, (k : Int), rfl, nw, us, rfl, SqL.of en, fun p1 hp1 => ?_⟩
      refine ⟨_, rfl, _, rfl, _, _, rfl, rfl, _, _, _, _, rfl, rfl, SqL.of (new_at hp1 en), a1, _, rfl, _, rfl, _, _, _, _, rfl, rfl, SqL.of (new_at hp1 en), atI_nat gvb, sm rfl, fun p2 hp2 => ?_⟩
      have ec : cutV us none (some (k : Int)) ++ [va, vb] ++ cutV us (some ((k : Int) + 2)) none = swp us k va vb := by
        rw [cut_to (by omega), cut_from (by omega) (by omega), Int.toNat_natCast, show ((k : Int) + 2).toNat = k + 2 by omega]; rfl
      refine ⟨p1, p2, _, _, rfl, rfl, new_at hp2 upd_same, upd_same, ?_, fun p3 hp3 => ?_⟩
      · have := cutV_length us none (some (k : Int))
        exact Nat.le_of_lt (small1000 (by show _ + 2 ≤ 1000; omega))
      refine ⟨_, rfl, _, rfl, _, _, rfl, rfl, ((k : Int) + 2), rfl, nw, us, rfl, SqL.of (new_at hp3 (new_at hp2 (new_at hp1 en))), fun p4 hp4 => ?_⟩
      refine ⟨p3, p4, _, _, rfl, rfl, new_at hp4 upd_same, upd_same, ?_, fun p5 hp5 => ?_⟩
      · rw [← List.length_append, ec, swp_length (by omega)]
        exact Nat.le_of_lt (small1000 (by omega))
      rw [ec]
      have S4 := ((((same_new hp1 (.lst (cutV us none (some (k : Int))))).new hp2 (.lst [va, vb])).new hp3 (.lst (cutV us none (some (k : Int)) ++ [va, vb]))).new hp4 (.lst (cutV us (some ((k : Int) + 2)) none)))
      have S5 := S4.new hp5 (.lst (swp us k va vb))
      refine ⟨_, rfl, _, _, rfl, rfl, p5, swp us k va vb, swp es k es[k + 1] es[k], k + 1, _, rfl, S.trans S5, (S.trans S4).free hp5, upd_same, ?_, ?_, ?_⟩
      · exact stab_T3.list S5 (Paired.app (Paired.app (Paired.tk k pn) (.cons ta (.cons tb .nil))) (Paired.dp (k + 2) pn))
      · exact fun e he => sb e (swp_mem (List.getElem_mem _) (List.getElem_mem _) e he)
      · rw [swp_length hlt]; exact el
    · rintro σ H2 ⟨nw, us, es, k, z5, rfl, S, n0, en, pn, sb, el⟩
      exact ⟨nw, us, es, _, _, _, rfl, S, n0, en, pn, sb, el⟩
  · rintro σ H' ⟨nw, us, es, z3, z4, z5, rfl, S, n0, en, pn, sb, el⟩
    exact ⟨_, rfl, q nw es H' S n0 ⟨us, en, pn⟩ sb el⟩
theorem ok_exch (F : Fun K "_law_exchanged" "_law_exchanged" s_exch f fd) : FnOk P w K mg base CX0 1 f fd ["_law_row", "_law_which", "_law_new"] spExch := by
  have sc := sc_exch
  refine F.ok sc (fun vs H Q E h => ?_) (fun cdv A outer s H vs Q E hr h => ?_)
  · obtain ⟨x, y, k, d, e, rfl, _⟩ := h
    rfl
  obtain ⟨x, y, k, d, e, rfl, ⟨a, rfl, ha⟩, ⟨b, rfl, hb⟩, od, oe, q⟩ := h
  refine ⟨_, (pss_cons (ps_if (pt_cmpR op_eq (pv 1) pe_int (nomark _)) (pss_one (ps_ret (pe_tup (pa_cons (pe_ix (ixT K) (pv 2) pe_int (fun _ _ => rfl)) (pa_cons (pe_ix (ixT K) (pv 0) pe_int (fun _ _ => rfl)) (pa_cons (pe_ix (ixT K) (pv 0) pe_int (fun _ _ => rfl)) pa_nil)))))) pss_nil)
    (pss_cons (ps_if (pt_cmpR op_eq (pv 1) pe_int (nomark _)) (pss_one (ps_ret (pe_tup (pa_cons (pe_ix (ixT K) (pv 0) pe_int (fun _ _ => rfl)) (pa_cons (pe_ix (ixT K) (pv 2) pe_int (fun _ _ => rfl)) (pa_cons (pe_ix (ixT K) (pv 0) pe_int (fun _ _ => rfl)) pa_nil)))))) pss_nil)
    (pss_one (ps_ret (pe_tup (pa_cons (pe_ix (ixT K) (pv 0) pe_int (fun _ _ => rfl)) (pa_cons (pe_ix (ixT K) (pv 0) pe_int (fun _ _ => rfl)) (pa_cons (pe_ix (ixT K) (pv 2) pe_int (fun _ _ => rfl)) pa_nil)))))))), ?_⟩
  refine ⟨_, rfl, rfl, _, rfl, iteI (fun _ => ?_) (fun _ => ?_)⟩
  · exact ⟨_, rfl, _, _, _, _, rfl, rfl, SqT.of hb, at_l0, _, rfl, _, _, _, _, rfl, rfl, SqT.of ha, at_l1, _, rfl, _, _, _, _, rfl, rfl, SqT.of ha, at_l2, sm rfl, fun t ht => q _ (e.1, d.2.1, d.2.2) _ (same_new ht _) ⟨t, rfl, upd_same⟩ ⟨od.1, od.2⟩⟩
  refine ⟨_, rfl, rfl, _, rfl, iteI (fun _ => ?_) (fun _ => ?_)⟩
  · exact ⟨_, rfl, _, _, _, _, rfl, rfl, SqT.of ha, at_l0, _, rfl, _, _, _, _, rfl, rfl, SqT.of hb, at_l1, _, rfl, _, _, _, _, rfl, rfl, SqT.of ha, at_l2, sm rfl, fun t ht => q _ (d.1, e.2.1, d.2.2) _ (same_new ht _) ⟨t, rfl, upd_same⟩ ⟨oe.1, od.2⟩⟩
  · exact ⟨_, rfl, _, _, _, _, rfl, rfl, SqT.of ha, at_l0, _, rfl, _, _, _, _, rfl, rfl, SqT.of ha, at_l1, _, rfl, _, _, _, _, rfl, rfl, SqT.of hb, at_l2, sm rfl, fun t ht => q _ (d.1, d.2.1, e.2.2) _ (same_new ht _) ⟨t, rfl, upd_same⟩ ⟨od.1, oe.2⟩⟩
seal PySem.eval PySem.spliced in
theorem ok_changed (F : Fun K "_law_changed" "_law_changed" s_changed f fd) (D__law_deed : Df P w K mg base "_law_deed" 2 ["_law_cell", "_law_lift"] spDeedW) (D__law_exchanged : Df P w K mg base "_law_exchanged" 1 ["_law_row", "_law_which", "_law_new"] spExch) (m_list : mg "list" = none) (m_reversed : mg "reversed" = none) (m_len : mg "len" = none) :
    FnOk P w K mg base CX0 3 f fd ["_law_rows", "_law_kind", "_law_cell", "_law_lift"] spChanged := by
  have sc := sc_changed
  refine F.ok sc (fun vs H Q E h => ?_) (fun cdv A outer s H vs Q E hr h => ?_)
  · obtain ⟨a, kk, cell, l, ds, rfl, _⟩ := h
    rfl
  obtain ⟨a, kk, cell, l, ds, rfl, ⟨vs, ha, pr⟩, okd, hz, hl1, hl2, q⟩ := h
  refine ⟨_, (pss_cons (ps_set (i := 4) sc.nd rfl (Or.inl rfl) (pe_op op_mod (pe_op op_mod (pv 2) pe_int) (pe_op op_add (pe_callB (lenQ K) rfl m_len bt_len (pa_cons (pv 0) pa_nil)) pe_int)))
    (pss_cons (ps_set (i := 5) sc.nd rfl (Or.inr rfl) (pe_callD D__law_deed (hr.mono (by decide)) rfl (pa_cons (pe_op op_fdiv (pv 2) pe_int) (pa_cons (pv 3) pa_nil))))
    (pss_cons (ps_if (pt_cmpR op_eq (pv 1) pe_int (nomark _)) (pss_one (ps_ret (pe_op op_cat (pe_op op_cat (pe_slice (slL K) (pv 0) po_none (po_some (pv 4))) (pe_listrev K rfl (pe_slice (slL K) (pv 0) (po_some (pv 4)) (po_some (pe_op op_add (pv 4) pe_int))) rfl m_list rfl m_reversed)) (pe_slice (slL K) (pv 0) (po_some (pe_op op_add (pv 4) pe_int)) po_none)))) pss_nil)
    (pss_cons (ps_if (pt_cmpR op_eq (pv 1) pe_int (nomark _)) (pss_one (ps_ret (pe_op op_cat (pe_op op_cat (pe_slice (slL K) (pv 0) po_none (po_some (pv 4))) (pe_comp ["_law_row"] [5, 2] rfl (comp_scope sc) (piL K (pe_slice (slL K) (pv 0) (po_some (pv 4)) (po_some (pe_op op_add (pv 4) pe_int)))) (fun _ _ _ _ _ => ⟨(pg_name (i := 0) (nd_c sc (by decide +kernel)) rfl (Or.inl rfl)), pts_nil, (pe_callD D__law_exchanged (hr.mono (by decide)) rfl (pa_cons (pv 0) (pa_cons (pe_op op_mod (pe_op op_fdiv (pv 2) pe_int) pe_int) (pa_cons (pv 1) pa_nil))))⟩))) (pe_slice (slL K) (pv 0) (po_some (pe_op op_add (pv 4) pe_int)) po_none)))) pss_nil)
    (pss_cons (ps_if (pt_cmpR op_eq (pv 1) pe_int (nomark _)) (pss_one (ps_ret (pe_op op_cat (pe_slice (slL K) (pv 0) po_none (po_some (pv 4))) (pe_slice (slL K) (pv 0) (po_some (pe_op op_add (pv 4) pe_int)) po_none)))) pss_nil)
    (pss_cons (ps_if (pt_cmpR op_eq (pv 1) pe_int (nomark _)) (pss_one (ps_ret (pe_op op_cat (pe_op op_cat (pe_slice (slL K) (pv 0) po_none (po_some (pv 4))) (pe_lst (pa_cons (pv 5) pa_nil))) (pe_slice (slL K) (pv 0) (po_some (pv 4)) po_none)))) pss_nil)
    (pss_cons (ps_if (pt_cmpR op_eq (pv 1) pe_int (nomark _)) (pss_one (ps_ret (pe_listrev K rfl (pv 0) rfl m_list rfl m_reversed))) pss_nil)
    (pss_cons (ps_if (pt_cmpR op_eq (pv 1) pe_int (nomark _)) (pss_one (ps_ret (pe_op op_cat (pe_slice (slL K) (pv 0) (po_some (pv 4)) po_none) (pe_slice (slL K) (pv 0) po_none (po_some (pv 4)))))) pss_nil)
    (pss_cons (ps_if (pt_cmpR op_eq (pv 1) pe_int (nomark _)) (pss_one (ps_ret (pe_slice (slL K) (pv 0) po_none (po_some (pv 4))))) pss_nil)
    (pss_cons (ps_if (pt_cmpR op_eq (pv 1) pe_int (nomark _)) (pss_one (ps_ret (pe_op op_cat (pv 0) (pe_slice (slL K) (pv 0) po_none (po_some (pe_op op_mod (pv 4) pe_int)))))) pss_nil)
    (pss_one (ps_ret (pv 0))))))))))))), ?_⟩
  have hl0 := Paired.length pr
  have hmp : (0 : Int) < (vs.length : Int) + 1 := by omega
  obtain ⟨m, hm⟩ : ∃ m : Int, m = cell % 61 % ((vs.length : Int) + 1) := ⟨_, rfl⟩
  have m0 : 0 ≤ m := by rw [hm]; exact Int.emod_nonneg _ (by omega)
  have m1 : m ≤ vs.length := by
    have := Int.emod_lt_of_pos (cell % 61) hmp
    omega
  refine ⟨_, rfl, _, _, rfl, rfl, (show (0 : Int) < 61 by decide), _, rfl, a, vs, rfl, .inl (SqL.of ha), _, _, rfl, rfl, _, _, rfl, rfl, hmp, ?_⟩
  refine ⟨_, rfl, _, _, rfl, rfl, ⟨by decide, by decide⟩, _, rfl, _, l, rfl, hl1, hl2, fun x e H1 S1 te oke => ?_⟩
  have h1 := S1 _ _ ha
  have pr1 := stab_T3.list S1 pr
  have fin : ∀ r zs e' H', Same H1 H' → okD e' → H' r = some (.lst zs) → (∀ z ∈ zs, z ∈ vs ∨ T3 H' z e') → zs.length ≤ 89 → Q (.ref r) H' := by
    intro r zs e' H' S oe hr hs hlen
    obtain ⟨es, p, hsub⟩ := sub_paired (stab_T3.list S pr1) e' hs
    exact q r es e' H' (S1.trans S) ⟨zs, hr, p⟩ hsub oe (by rw [← Paired.length p]; exact hlen)
  have fin0 : ∀ r zs H', Same H1 H' → H' r = some (.lst zs) → (∀ z ∈ zs, z ∈ vs) → zs.length ≤ 89 → Q (.ref r) H' := fun r zs H' S hr hs => fin r zs e H' S oke hr fun z hz => .inl (hs z hz)
  have c1 := cl_to (xs := vs) m0
  have c2 := cl_from (xs := vs) m0
  have c3 := cl_from (xs := vs) (m := m + 1) (by omega)
  have c4 := cl_from (xs := vs) (m := m + 2) (by omega)
  have c5 := cl_mid (xs := vs) (m := m) (n := m + 1) m0 (by omega)
  have c6 := cl_mid (xs := vs) (m := m) (n := m + 2) m0 (by omega)
  have q0 : (0 : Int) ≤ m % 30 ∧ m % 30 < 30 := ⟨Int.emod_nonneg _ (by decide), Int.emod_lt_of_pos _ (by decide)⟩
  have c7 := cl_to (xs := vs) q0.1
  rw [hm] at c1 c2 c3 c4 c5 c6 c7 q0 m0 m1
  refine ⟨_, rfl, rfl, _, rfl, iteI (fun _ => ?_) (fun _ => ?_)⟩
  · refine ⟨_, rfl, _, rfl, _, rfl, a, vs, rfl, SqL.of h1, fun p1 hp1 => ?_⟩
    refine ⟨_, rfl, _, rfl, _, rfl, _, rfl, _, _, rfl, rfl, _, rfl, a, vs, rfl, SqL.of (new_at hp1 h1), fun p2 hp2 => ?_⟩
    refine ⟨p2, _, rfl, SqL.of upd_same, fun p3 hp3 => ?_⟩
    refine ⟨p1, p3, _, _, rfl, rfl, new_at hp3 (new_at hp2 upd_same), upd_same, (Nat.le_of_lt (small1000 (by (try simp only [List.length_append, List.length_reverse, List.length_cons, List.length_nil]); omega))), fun p4 hp4 => ?_⟩
    refine ⟨_, rfl, _, rfl, _, _, rfl, rfl, _, rfl, a, vs, rfl, SqL.of (new_at hp4 (new_at hp3 (new_at hp2 (new_at hp1 h1)))), fun p5 hp5 => ?_⟩
    refine ⟨p4, p5, _, _, rfl, rfl, new_at hp5 upd_same, upd_same, (Nat.le_of_lt (small1000 (by (try simp only [List.length_append, List.length_reverse, List.length_cons, List.length_nil]); omega))), fun p6 hp6 => ?_⟩
    exact fin0 p6 _ _ ((((((same_new hp1 _).new hp2 _).new hp3 _).new hp4 _).new hp5 _).new hp6 _) upd_same (fun z hz => by simp only [List.mem_append, List.mem_reverse] at hz; rcases hz with (hz | hz) | hz <;> exact cut_mem hz) (by simp only [List.length_append, List.length_reverse]; omega)
  refine ⟨_, rfl, rfl, _, rfl, iteI (fun _ => ?_) (fun _ => ?_)⟩
  · refine ⟨_, rfl, _, rfl, _, rfl, a, vs, rfl, SqL.of h1, fun p1 hp1 => ?_⟩
    refine ⟨_, rfl, _, rfl, _, rfl, _, rfl, _, _, rfl, rfl, _, rfl, a, vs, rfl, SqL.of (new_at hp1 h1), fun p2 hp2 => ?_⟩
    have Sb := (same_new hp1 (.lst (cutV vs none (some (cell % 61 % ((vs.length : Int) + 1)))))).new hp2 (.lst (cutV vs (some (cell % 61 % ((vs.length : Int) + 1))) (some (cell % 61 % ((vs.length : Int) + 1) + 1))))
    refine ⟨p2, rfl, ⟨_, SqL.of upd_same⟩, comp_list (xs := cutV vs (some (cell % 61 % ((vs.length : Int) + 1))) (some (cell % 61 % ((vs.length : Int) + 1) + 1))) (fun D i ys H' => Same H1 H' ∧ H' p1 = some (.lst (cutV vs none (some (cell % 61 % ((vs.length : Int) + 1))))) ∧ H' p2 = some (.lst (cutV vs (some (cell % 61 % ((vs.length : Int) + 1))) (some (cell % 61 % ((vs.length : Int) + 1) + 1)))) ∧ H' D = some (.lst ys) ∧ ys.length = i ∧ ∀ z ∈ ys, ∃ g, T3 H' z g ∧ okD g) (small1000 (by omega))
      (fun D hD => ⟨Sb.new hD _, new_at hD (new_at hp2 upd_same), new_at hD upd_same, upd_same, rfl, fun _ z => nomatch z⟩) ?_ ?_ ?_⟩
    · rintro D i ys H' hD hi ⟨S, _, e2, hl, hle, _⟩
      exact ⟨SqL.of e2, hl, by omega⟩
    · rintro D i z ys H' hD hx ⟨S, e1, e2, hl, hle, hall⟩
      have hD1 : H1 D = none := Sb.free hD
      obtain ⟨k, hk⟩ := List.getElem?_of_mem (cut_mem (List.mem_of_getElem? hx))
      obtain ⟨d, gd, td⟩ := Paired.getL pr1 hk
      refine ⟨rfl, _, rfl, _, rfl, _, _, rfl, rfl, ⟨by decide, by decide⟩, _, _, rfl, rfl, (show (0 : Int) < 3 by decide), _, rfl, z, x, _, d, e, rfl, td.same S, te.same S, okd d (List.mem_of_getElem? gd), oke, fun z' g H2 S2 tz og => ?_⟩
      have nD1 : p1 ≠ D := fun q1 => by rw [← q1, upd_ne (ne_of_none upd_same hp2), upd_same] at hD; cases hD
      have nD2 : p2 ≠ D := fun q1 => by rw [← q1, upd_same] at hD; cases hD
      refine ⟨S2 _ _ hl, (S.trans S2).wr hD1 _, ?_, ?_, upd_same, ?_, ?_⟩
      · rw [upd_ne nD1]; exact S2 _ _ e1
      · rw [upd_ne nD2]; exact S2 _ _ e2
      · rw [List.length_append, hle]; rfl
      · intro y hy
        rcases List.mem_append.mp hy with hy | hy
        · obtain ⟨g', t', o'⟩ := hall y hy
          exact ⟨g', (t'.same S2).wr (S2 _ _ hl), o'⟩
        · rw [List.mem_singleton.mp hy]
          exact ⟨g, tz.wr (S2 _ _ hl), og⟩
    · rintro D ys H2 hD ⟨S, e1, e2, hl, hle, hall⟩
      have hle' : ys.length ≤ 1 := by omega
      refine ⟨p1, D, _, _, rfl, rfl, e1, hl, (Nat.le_of_lt (small1000 (by (try simp only [List.length_append, List.length_reverse, List.length_cons, List.length_nil]); omega))), fun p4 hp4 => ?_⟩
      refine ⟨_, rfl, _, rfl, _, _, rfl, rfl, _, rfl, a, vs, rfl, SqL.of (new_at hp4 (S _ _ h1)), fun p5 hp5 => ?_⟩
      refine ⟨p4, p5, _, _, rfl, rfl, new_at hp5 upd_same, upd_same, (Nat.le_of_lt (small1000 (by (try simp only [List.length_append, List.length_reverse, List.length_cons, List.length_nil]); omega))), fun p6 hp6 => ?_⟩
      obtain ⟨g, og, hg⟩ : ∃ g, okD g ∧ ∀ z ∈ ys, T3 H2 z g := by
        match ys, hle', hall with
        | [], _, _ => exact ⟨e, oke, fun _ z => nomatch z⟩
        | [z], _, hall =>
          obtain ⟨g, t, o⟩ := hall z List.mem_cons_self
          exact ⟨g, o, fun y hy => by rw [List.mem_singleton.mp hy]; exact t⟩
      have Sf := ((same_new hp4 (.lst (cutV vs none (some (cell % 61 % ((vs.length : Int) + 1))) ++ ys))).new hp5 (.lst (cutV vs (some (cell % 61 % ((vs.length : Int) + 1) + 1)) none))).new hp6 (.lst (cutV vs none (some (cell % 61 % ((vs.length : Int) + 1))) ++ ys ++ cutV vs (some (cell % 61 % ((vs.length : Int) + 1) + 1)) none))
      refine fin p6 _ g _ (S.trans Sf) og upd_same (fun z hz => ?_) (by simp only [List.length_append, List.length_reverse]; omega)
      simp only [List.mem_append] at hz
      rcases hz with (hz | hz) | hz
      · exact .inl (cut_mem hz)
      · exact .inr ((hg z hz).same Sf)
      · exact .inl (cut_mem hz)
  refine ⟨_, rfl, rfl, _, rfl, iteI (fun _ => ?_) (fun _ => ?_)⟩
  · refine ⟨_, rfl, _, rfl, _, rfl, a, vs, rfl, SqL.of h1, fun p1 hp1 => ?_⟩
    refine ⟨_, rfl, _, rfl, _, _, rfl, rfl, _, rfl, a, vs, rfl, SqL.of (new_at hp1 h1), fun p2 hp2 => ?_⟩
    refine ⟨p1, p2, _, _, rfl, rfl, new_at hp2 upd_same, upd_same, (Nat.le_of_lt (small1000 (by (try simp only [List.length_append, List.length_reverse, List.length_cons, List.length_nil]); omega))), fun p3 hp3 => ?_⟩
    exact fin0 p3 _ _ (((same_new hp1 _).new hp2 _).new hp3 _) upd_same (fun z hz => by simp only [List.mem_append] at hz; rcases hz with hz | hz <;> exact cut_mem hz) (by simp only [List.length_append, List.length_reverse]; omega)
  refine ⟨_, rfl, rfl, _, rfl, iteI (fun _ => ?_) (fun _ => ?_)⟩
  · refine ⟨_, rfl, _, rfl, _, rfl, a, vs, rfl, SqL.of h1, fun p1 hp1 => ?_⟩
    refine ⟨_, rfl, sm rfl, fun p2 hp2 => ?_⟩
    refine ⟨p1, p2, _, _, rfl, rfl, new_at hp2 upd_same, upd_same, (Nat.le_of_lt (small1000 (by (try simp only [List.length_append, List.length_reverse, List.length_cons, List.length_nil]); omega))), fun p3 hp3 => ?_⟩
    refine ⟨_, rfl, _, rfl, _, rfl, a, vs, rfl, SqL.of (new_at hp3 (new_at hp2 (new_at hp1 h1))), fun p4 hp4 => ?_⟩
    refine ⟨p3, p4, _, _, rfl, rfl, new_at hp4 upd_same, upd_same, (Nat.le_of_lt (small1000 (by (try simp only [List.length_append, List.length_reverse, List.length_cons, List.length_nil]); omega))), fun p5 hp5 => ?_⟩
    have Sf := ((((same_new hp1 (.lst (cutV vs none (some (cell % 61 % ((vs.length : Int) + 1)))))).new hp2 (.lst [x])).new hp3 (.lst (cutV vs none (some (cell % 61 % ((vs.length : Int) + 1))) ++ [x]))).new hp4 (.lst (cutV vs (some (cell % 61 % ((vs.length : Int) + 1))) none))).new hp5 (.lst (cutV vs none (some (cell % 61 % ((vs.length : Int) + 1))) ++ [x] ++ cutV vs (some (cell % 61 % ((vs.length : Int) + 1))) none))
    refine fin p5 _ e _ Sf oke upd_same (fun z hz => ?_) (by simp only [List.length_append, List.length_cons, List.length_nil]; omega)
    simp only [List.mem_append, List.mem_singleton] at hz
    rcases hz with (hz | hz) | hz
    · exact .inl (cut_mem hz)
    · rw [hz]; exact .inr (te.same Sf)
    · exact .inl (cut_mem hz)
  refine ⟨_, rfl, rfl, _, rfl, iteI (fun _ => ?_) (fun _ => ?_)⟩
  · refine ⟨_, rfl, a, vs, rfl, SqL.of h1, fun p1 hp1 => ?_⟩
    exact fin0 p1 _ _ (same_new hp1 _) upd_same (fun z hz => List.mem_reverse.mp hz) (by rw [List.length_reverse]; omega)
  refine ⟨_, rfl, rfl, _, rfl, iteI (fun _ => ?_) (fun _ => ?_)⟩
  · refine ⟨_, rfl, _, rfl, _, rfl, a, vs, rfl, SqL.of h1, fun p1 hp1 => ?_⟩
    refine ⟨_, rfl, _, rfl, _, rfl, a, vs, rfl, SqL.of (new_at hp1 h1), fun p2 hp2 => ?_⟩
    refine ⟨p1, p2, _, _, rfl, rfl, new_at hp2 upd_same, upd_same, (Nat.le_of_lt (small1000 (by (try simp only [List.length_append, List.length_reverse, List.length_cons, List.length_nil]); omega))), fun p3 hp3 => ?_⟩
    exact fin0 p3 _ _ (((same_new hp1 _).new hp2 _).new hp3 _) upd_same (fun z hz => by simp only [List.mem_append] at hz; rcases hz with hz | hz <;> exact cut_mem hz) (by simp only [List.length_append, List.length_reverse]; omega)
  refine ⟨_, rfl, rfl, _, rfl, iteI (fun _ => ?_) (fun _ => ?_)⟩
  · refine ⟨_, rfl, _, rfl, _, rfl, a, vs, rfl, SqL.of h1, fun p1 hp1 => ?_⟩
    exact fin0 p1 _ _ (same_new hp1 _) upd_same (fun z hz => cut_mem hz) (by omega)
  refine ⟨_, rfl, rfl, _, rfl, iteI (fun _ => ?_) (fun _ => ?_)⟩
  · refine ⟨_, rfl, _, rfl, _, rfl, _, _, rfl, rfl, (show (0 : Int) < 30 by decide), _, rfl, a, vs, rfl, SqL.of h1, fun p1 hp1 => ?_⟩
    refine ⟨a, p1, _, _, rfl, rfl, new_at hp1 h1, upd_same, (Nat.le_of_lt (small1000 (by (try simp only [List.length_append, List.length_reverse, List.length_cons, List.length_nil]); omega))), fun p2 hp2 => ?_⟩
    exact fin0 p2 _ _ ((same_new hp1 _).new hp2 _) upd_same (fun z hz => by rcases List.mem_append.mp hz with hz | hz; exact hz; exact cut_mem hz) (by simp only [List.length_append, List.length_reverse]; omega)
  exact ⟨_, rfl, fin0 a vs _ (Same.refl _) h1 (fun z hz => hz) (by omega)⟩
end
end K09


namespace K09
open PySem L2
abbrev s_mates : Stmt := top 21
theorem sc_mates : FnScope ["_law_one", "_law_other", "_law_spots", "_law_k", "_law_ahead", "_law_found", "_law_row"] ["_law_one", "_law_other"] (defScope s_mates) := ⟨rfl, rfl, rfl, by decide +kernel, rfl, by decide +kernel, by decide +kernel⟩
section
variable {P : Program} {w : World} {K : PySem.W.Frag} {mg : Str → Option Value} {base : Heap} {f : Addr} {fd : FuncData}
seal PySem.eval PySem.spliced in
theorem ok_mates (F : Fun K "_law_mates" "_law_mates" s_mates f fd) (m_range : mg "range" = none) (m_len : mg "len" = none) : FnOk P w K mg base CX0 1 f fd ["_law_one", "_law_other"] spMates := by
  have sc := sc_mates
  refine F.ok sc (fun vs H Q E h => ?_) (fun cdv A outer s H vs Q E hr h => ?_)
  · obtain ⟨a, b, xs, ys, rfl, _⟩ := h
    rfl
  obtain ⟨a, b, xs, ys, rfl, ⟨us, ha, pu⟩, ⟨vs, hb, pr⟩, hx1, hy1, qn, qs⟩ := h
  refine ⟨_, (pss_cons (ps_set (i := 2) sc.nd rfl (Or.inl rfl) pe_dnewT)
    (pss_cons (ps_for PassesOwn.never rfl (pi_range1 rfl m_range (pa_cons (pe_callB (lenQ K) rfl m_len bt_len (pa_cons (pv 1) pa_nil)) pa_nil)) (pg_name (i := 3) sc.nd rfl (Or.inl rfl)) (pss_one (ps_expr (pe_bmK K PySem.F.plainAttrs_list PySem.F.slot_list_append PySem.F.type_list_append mt_append (pe_bmK K PySem.F.plainAttrs_dict PySem.F.slot_dict_setdefault PySem.F.type_dict_setdefault (setDef hr.units) (pv 2) (pa_cons (pe_ix (ixL K) (pv 1) (pv 3) (fun _ _ => rfl)) (pa_cons (pe_lst pa_nil) pa_nil))) (pa_cons (pv 3) pa_nil)))))
    (pss_cons (ps_set (i := 4) sc.nd rfl (Or.inl rfl) pe_dnewT)
    (pss_cons (ps_set (i := 5) sc.nd rfl (Or.inl rfl) (pe_lst pa_nil))
    (pss_cons (ps_for PassesOwn.never rfl (piL K (pv 0)) (pg_name (i := 6) sc.nd rfl (Or.inl rfl)) (pss_cons (ps_asg (pe_op op_add (pe_bmK K PySem.F.plainAttrs_dict PySem.F.slot_dict_get PySem.F.type_dict_get (getD2 hr.units) (pv 4) (pa_cons (pv 6) (pa_cons pe_int pa_nil))) pe_int) (pg_sub (pv 4) (pv 6) (setD hr.units)))
    (pss_cons (ps_if (pt_cmpR op_lt (pe_callB (lenQ K) rfl m_len bt_len (pa_cons (pe_bmK K PySem.F.plainAttrs_dict PySem.F.slot_dict_get PySem.F.type_dict_get (getD2 hr.units) (pv 2) (pa_cons (pv 6) (pa_cons (pe_lst pa_nil) pa_nil))) pa_nil)) (pe_ix (ixD hr.units) (pv 4) (pv 6) (fun _ _ => rfl)) (nomark _)) (pss_one (ps_ret pe_non)) pss_nil)
    (pss_one (ps_expr (pe_bmK K PySem.F.plainAttrs_list PySem.F.slot_list_append PySem.F.type_list_append mt_append (pv 5) (pa_cons (pe_ix (ixL K) (pe_ix (ixD hr.units) (pv 2) (pv 6) (fun _ _ => rfl)) (pe_op op_sub (pe_ix (ixD hr.units) (pv 4) (pv 6) (fun _ _ => rfl)) pe_int) (fun _ _ => rfl)) pa_nil)))))))
    (pss_one (ps_ret (pv 5)))))))), ?_⟩
  have hl0 := Paired.length pr
  have hl1 := Paired.length pu
  intro sp hsp
  have S1 := same_new hsp (.dT [])
  refine ⟨_, rfl, b, vs, rfl, .inl (SqL.of (S1 _ _ hb)), _, rfl, by omega, by omega, ?_⟩
  rw [Int.toNat_natCast]
  refine for_range (n := vs.length) (fun i σ H' => ∃ z, σ = [some (.ref a), some (.ref b), some (.ref sp), z, none, none, none] ∧ Same H H' ∧ Spots H H' sp (ys.take i)) ⟨none, rfl, S1, Spots.nil upd_same⟩ ?_ ?_
  · rintro i σ H' hi ⟨z, rfl, S, SP⟩
    have gx : vs[i]? = some (vs[i]'hi) := List.getElem?_eq_getElem hi
    obtain ⟨d, gd, td⟩ := Paired.getL pr gx
    have hi' : i < ys.length := by omega
    have et : ys.take (i + 1) = ys.take i ++ [d] := by rw [List.take_add_one, gd]; rfl
    have hlt : (ys.take i).length = i := by rw [List.length_take]; omega
    obtain ⟨kvs, hk, hkz, hno, hin, hij⟩ := id SP
    refine ⟨_, rfl, tyD hk, _, rfl, _, rfl, _, _, _, _, rfl, rfl, SqL.of (S _ _ hb), at0 gx, (by decide : 0 ≤ sizeLine), fun nl hnl => ?_⟩
    have Sn := same_new hnl (.lst [])
    refine ⟨sp, kvs, d, vs[i]'hi, .ref nl, rfl, rfl, Sn _ _ hk, (td.same S).same Sn, small1000 (by omega), fun v hv => ?_, fun hv => ?_⟩
    · have dm : d ∈ ys.take i := by
        apply Classical.byContradiction
        intro z
        rw [hno d z] at hv; cases hv
      obtain ⟨c, q1, q2, q3⟩ := hin d dm
      rw [q1] at hv
      cases hv
      refine ⟨.inl ⟨rfl, _, SqL.of (Sn _ _ q2)⟩, _, rfl, c, _, _, rfl, rfl, Sn _ _ q2, ?_, ?_⟩
      · unfold ixs
        have := posOf_len d (ys.take i)
        have := cnt_le d (ys.take i)
        rw [List.length_map]
        exact small1000 (by omega)
      refine ⟨_, rfl, (S.trans Sn).wr q3 _, ?_⟩
      rw [et, show (0 : Int) + (i : Int) = ((ys.take i).length : Int) by omega]
      exact (SP.same Sn).more (Sn _ _ hk) dm q1 (Sn _ _ q2)
    · have dn : d ∉ ys.take i := fun z => by
        obtain ⟨c, q1, _⟩ := hin d z
        rw [q1] at hv; cases hv
      have nsp : nl ≠ sp := fun z => by rw [z, hk] at hnl; cases hnl
      have enl : upd (upd H' nl (.lst [])) sp (.dT (putK kvs (kd d) (.ref nl))) nl = some (.lst []) := by rw [upd_ne nsp]; exact upd_same
      refine ⟨.inl ⟨rfl, _, SqL.of enl⟩, _, rfl, nl, _, _, rfl, rfl, enl, small1000 (by simp), ?_⟩
      refine ⟨_, rfl, ((S.trans Sn).wr hsp _).wr (S.free hnl) _, ?_⟩
      rw [et, show (0 : Int) + (i : Int) = ((ys.take i).length : Int) by omega]
      refine (SP.same Sn).first (Sn _ _ hk) dn (S.free hnl) upd_same fun x c hc z => ?_
      have xm : x ∈ ys.take i := by
        apply Classical.byContradiction
        intro w
        rw [hno x w] at hc; cases hc
      obtain ⟨c', r1, r2, _⟩ := hin x xm
      rw [r1] at hc
      cases hc
      rw [z, hnl] at r2
      cases r2
  · rintro σ H1 ⟨z3, rfl, S, SP⟩
    rw [hl0, List.take_length] at SP
    intro ad had
    have Sa := same_new had (.dT [])
    refine ⟨(by decide : 0 ≤ sizeLine), fun fo hfo => ?_⟩
    have Sb := same_new hfo (.lst [])
    have had0 : H ad = none := S.free had
    have hfo0 : H fo = none := (S.trans Sa).free hfo
    have nfa : fo ≠ ad := fun z => by rw [z, upd_same] at hfo; cases hfo
    have nas : ad ≠ sp := fun z => by obtain ⟨kvs, hk, _⟩ := SP; rw [z, hk] at had; cases had
    have nfs : fo ≠ sp := fun z => by obtain ⟨kvs, hk, _⟩ := SP; rw [z, Sa _ _ hk] at hfo; cases hfo
    refine ⟨_, rfl, a, rfl, ⟨_, SqL.of (Sb _ _ (Sa _ _ (S _ _ ha)))⟩, for_list (xs := us) (fun i σ H' => ∃ z6 fs, σ = [some (.ref a), some (.ref b), some (.ref sp), z3, some (.ref ad), some (.ref fo), z6] ∧ Same H H' ∧ Spots H H' sp ys ∧ Ahead H' ad (xs.take i) ∧ H' fo = some (.lst (ixs fs)) ∧ (∀ d b', (∃ kvs, H' sp = some (.dT kvs) ∧ valV kvs (kd d) = some (.ref b')) → b' ≠ fo) ∧ fs.length = i ∧ Mate (xs.take i) ys (fun p => fs.getD p 0))
      ⟨none, [], rfl, (S.trans Sa).trans Sb, (SP.same Sa).same Sb, Ahead.same Sb (Ahead.nil upd_same), upd_same, ?_, rfl, fun p a' h => by simp at h⟩ ?_ ?_ ?_⟩
    · rintro d b' ⟨kvs, hk, hv⟩ z
      obtain ⟨kvs', hk', _, hno, hin, _⟩ := SP
      rw [Sb _ _ (Sa _ _ hk')] at hk
      cases hk
      have dm : d ∈ ys := by
        apply Classical.byContradiction
        intro w
        rw [hno d w] at hv; cases hv
      obtain ⟨c, q1, q2, _⟩ := hin d dm
      rw [q1] at hv
      cases hv
      rw [z] at q2
      rw [Sa _ _ q2] at hfo
      cases hfo
    · rintro i σ H' _ ⟨z6, fs, rfl, S', _⟩
      exact SqL.of (S' _ _ ha)
    · rintro i x σ H' hx ⟨z6, fs, rfl, S', SP', AH, efo, hnf, hfl, M⟩
      obtain ⟨d, gd, td⟩ := Paired.getL pu hx
      have hi : i < xs.length := (List.getElem?_eq_some_iff.mp gd).1
      have et : xs.take (i + 1) = xs.take i ++ [d] := by rw [List.take_add_one, gd]; rfl
      obtain ⟨kA, hkA, hzA, hvA⟩ := id AH
      have hzA' : kA.length ≤ 100 := by rw [List.length_take] at hzA; omega
      have td' := td.same S'
      refine ⟨_, rfl, tyD hkA, _, rfl, ad, kA, d, x, .int 0, rfl, rfl, hkA, td', ?_⟩
      rw [(hvA d).1]
      refine ⟨_, _, rfl, rfl, _, rfl, _, rfl, ad, kA, d, rfl, hkA, td', small1000 (by omega), ?_⟩
      have AH2 : Ahead (upd H' ad (.dT (putK kA (kd d) (.int ((cnt d (xs.take i) : Nat) + 1))))) ad (xs.take i ++ [d]) := Ahead.more hkA hzA hvA
      have SA := S'.wr had0 (.dT (putK kA (kd d) (.int ((cnt d (xs.take i) : Nat) + 1))))
      have SP2 := SP'.wr (o := .dT (putK kA (kd d) (.int ((cnt d (xs.take i) : Nat) + 1)))) nas (fun vs z => by rw [hkA] at z; cases z)
      have efo2 : upd H' ad (.dT (putK kA (kd d) (.int ((cnt d (xs.take i) : Nat) + 1)))) fo = some (.lst (ixs fs)) := by rw [upd_ne nfa]; exact efo
      have hnf2 : ∀ d' b', (∃ kvs, upd H' ad (.dT (putK kA (kd d) (.int ((cnt d (xs.take i) : Nat) + 1)))) sp = some (.dT kvs) ∧ valV kvs (kd d') = some (.ref b')) → b' ≠ fo := fun d' b' ⟨kvs, h1, h2⟩ => hnf d' b' ⟨kvs, by rw [upd_ne (Ne.symm nas)] at h1; exact h1, h2⟩
      generalize upd H' ad (.dT (putK kA (kd d) (.int ((cnt d (xs.take i) : Nat) + 1)))) = Hq at AH2 SA SP2 efo2 hnf2 ⊢
      obtain ⟨kA2, hkA2, hzA2, hvA2⟩ := id AH2
      obtain ⟨kS, hkS, hzS, hnoS, hinS, hijS⟩ := id SP2
      have hv2 := (hvA2 d).2 (by simp)
      have ec : cnt d (xs.take i ++ [d]) = cnt d (xs.take i) + 1 := by rw [cnt_app, cnt_self]
      have td2 := td.same SA
      refine ⟨_, rfl, tyD hkS, _, rfl, (by decide : 0 ≤ sizeLine), fun nl hnl => ?_⟩
      have Sn := same_new hnl (.lst [])
      refine ⟨sp, kS, d, x, .ref nl, rfl, rfl, Sn _ _ hkS, td2.same Sn, ?_⟩
      obtain ⟨lb, L, e1, e2, e3⟩ : ∃ lb L, (valV kS (kd d)).getD (.ref nl) = .ref lb ∧ upd Hq nl (.lst []) lb = some (.lst L) ∧ L.length = cnt d ys := by
        by_cases dm : d ∈ ys
        · obtain ⟨c, q1, q2, q3⟩ := hinS d dm
          exact ⟨c, _, by rw [q1]; rfl, Sn _ _ q2, by unfold ixs; rw [List.length_map, posOf_len]⟩
        · exact ⟨nl, [], by rw [hnoS d dm]; rfl, upd_same, (cnt_zero dm).symm⟩
      rw [e1]
      refine ⟨lb, L, rfl, .inl (SqL.of e2), _, rfl, _, rfl, ad, kA2, d, _, rfl, Sn _ _ hkA2, td2.same Sn, hv2, _, _, rfl, rfl, _, rfl, iteD (fun c => ?_) (fun c => ?_)⟩
      · refine qn _ d (SA.trans Sn) ?_
        have : cnt d (xs.take (i + 1)) ≤ cnt d xs := cnt_sub (List.take_sublist _ _) _
        rw [et] at this
        omega
      have dm : d ∈ ys := cnt_pos (by omega)
      obtain ⟨cb, q1, q2, q3⟩ := hinS d dm
      have hj : cnt d (xs.take i) < (posOf d ys).length := by rw [posOf_len]; omega
      have gp : (posOf d ys)[cnt d (xs.take i)]? = some ((posOf d ys)[cnt d (xs.take i)]'hj) := List.getElem?_eq_getElem hj
      generalize ((posOf d ys)[cnt d (xs.take i)]'hj) = p0 at gp
      obtain ⟨m1, m2⟩ := posOf_at d ys _ _ gp
      have gat : atI (ixs (posOf d ys)) (((cnt d (xs.take i ++ [d]) : Nat) : Int) - 1) = some (.int (p0 : Int)) := by
        rw [show ((cnt d (xs.take i ++ [d]) : Nat) : Int) - 1 = ((cnt d (xs.take i) : Nat) : Int) by omega]
        refine atI_nat ?_
        unfold ixs
        rw [List.getElem?_map, gp]; rfl
      refine ⟨_, rfl, .inl ⟨rfl, _, SqL.of (Sn _ _ efo2)⟩, ?_⟩
      refine ⟨_, rfl, _, rfl, sp, kS, d, _, rfl, Sn _ _ hkS, td2.same Sn, q1, ?_⟩
      refine ⟨_, rfl, _, rfl, ad, kA2, d, _, rfl, Sn _ _ hkA2, td2.same Sn, hv2, _, _, rfl, rfl, _, _, _, _, rfl, rfl, SqL.of (Sn _ _ q2), gat, ?_⟩
      refine ⟨fo, _, _, rfl, rfl, Sn _ _ efo2, ?_, ?_⟩
      · unfold ixs
        rw [List.length_map]
        exact small1000 (by omega)
      have hnf3 : ∀ d' b', (∃ kvs, upd Hq nl (.lst []) sp = some (.dT kvs) ∧ valV kvs (kd d') = some (.ref b')) → b' ≠ fo := fun d' b' ⟨kvs, h1, h2⟩ => hnf2 d' b' ⟨kvs, by rw [Sn _ _ hkS] at h1; cases h1; exact hkS, h2⟩
      refine ⟨_, fs ++ [p0], rfl, (SA.trans Sn).wr hfo0 _, (SP2.same Sn).wrL nfs hnf3, ?_, ?_, fun d' b' ⟨kvs, h1, h2⟩ => ?_, ?_, ?_⟩
      · rw [et]
        exact (AH2.same Sn).wr nfa
      · rw [ixs_snoc]; exact upd_same
      · refine hnf3 d' b' ⟨kvs, ?_, h2⟩
        rw [upd_ne (Ne.symm nfs)] at h1
        exact h1
      · rw [List.length_append, hfl]; rfl
      · rw [et]
        exact mate_snoc M (by rw [List.length_take]; omega) m1 m2
    · rintro σ H' ⟨z6, fs, rfl, S', SP', AH, efo, hnf, hfl, M⟩
      rw [hl1, List.take_length] at M
      exact ⟨_, rfl, qs fo fs H' S' hfo0 efo (by omega) M⟩
end
end K09

namespace K09
open PySem L2
abbrev s_alike : Stmt := top 22
theorem sc_alike : FnScope ["_law_one", "_law_other", "_law_mates_here", "_law_p", "_law_q"] ["_law_one", "_law_other"] (defScope s_alike) := ⟨rfl, rfl, rfl, by decide +kernel, rfl, by decide +kernel, by decide +kernel⟩
section
variable {P : Program} {w : World} {K : PySem.W.Frag} {mg : Str → Option Value} {base : Heap} {f : Addr} {fd : FuncData}
seal PySem.eval PySem.spliced in
theorem ok_alike (F : Fun K "_law_alike" "_law_alike" s_alike f fd) (D__law_mates : Df P w K mg base "_law_mates" 1 ["_law_one", "_law_other"] spMates) (D__law_clash : Df P w K mg base "_law_clash" 1 ["_law_one", "_law_other"] spClashL) (m_range : mg "range" = none) (m_len : mg "len" = none) :
    FnOk P w K mg base CX0 2 f fd ["_law_one", "_law_other"] spAlike := by
  have sc := sc_alike
  refine F.ok sc (fun vs H Q E h => ?_) (fun cdv A outer s H vs Q E hr h => ?_)
  · obtain ⟨a, b, xs, ys, rfl, _⟩ := h
    rfl
  obtain ⟨a, b, xs, ys, rfl, La, Lb, okx, hx1, hy1, q⟩ := h
  obtain ⟨us, ha, pu⟩ := id La
  obtain ⟨vs, hb, pr⟩ := id Lb
  have hl0 := Paired.length pr
  have hl1 := Paired.length pu
  refine ⟨_, (pss_cons (ps_set (i := 2) sc.nd rfl (Or.inl rfl) (pe_callD D__law_mates (hr.mono (by decide)) rfl (pa_cons (pv 0) (pa_cons (pv 1) pa_nil))))
    (pss_cons (ps_if (PW.pt (pw_or (pt_cmpR op_isN (pv 2) pe_non (nomark _)) (pw_or1 (pt_cmpR op_ne (pe_callB (lenQ K) rfl m_len bt_len (pa_cons (pv 0) pa_nil)) (pe_callB (lenQ K) rfl m_len bt_len (pa_cons (pv 1) pa_nil)) (nomark _))))) (pss_one (ps_ret pe_bl)) pss_nil)
    (pss_cons (ps_for PassesOwn.never rfl (pi_range1 rfl m_range (pa_cons (pe_callB (lenQ K) rfl m_len bt_len (pa_cons (pv 0) pa_nil)) pa_nil)) (pg_name (i := 3) sc.nd rfl (Or.inl rfl)) (pss_one (ps_for PassesOwn.never rfl (pi_range2 rfl m_range (pa_cons (pe_op op_add (pv 3) pe_int) (pa_cons (pe_callB (lenQ K) rfl m_len bt_len (pa_cons (pv 0) pa_nil)) pa_nil))) (pg_name (i := 4) sc.nd rfl (Or.inl rfl)) (pss_one (ps_if (PW.pt (pw_and (pt_cmpR op_gt (pe_ix (ixL K) (pv 2) (pv 3) (fun _ _ => rfl)) (pe_ix (ixL K) (pv 2) (pv 4) (fun _ _ => rfl)) (nomark _)) (pw_and1 (pt_val (pe_callD D__law_clash (hr.mono (by decide)) rfl (pa_cons (pe_ix (ixL K) (pv 0) (pv 3) (fun _ _ => rfl)) (pa_cons (pe_ix (ixL K) (pv 0) (pv 4) (fun _ _ => rfl)) pa_nil))))))) (pss_one (ps_ret pe_bl)) pss_nil)))))
    (pss_one (ps_ret pe_bl))))), ?_⟩
  have no : ∀ H', Same H H' → ¬ AlkP xs ys → Q (.bl false) H' := fun H' S n => q H' false S ⟨fun z => (by cases z), fun z => absurd z n⟩
  refine ⟨_, rfl, _, rfl, a, b, xs, ys, rfl, La, Lb, hx1, hy1, fun H1 d S1 hlt => ?_, fun r fs H1 S1 hr er hfl M => ?_⟩
  · exact ⟨_, rfl, rfl, _, rfl, iteD (fun _ => iteT (no H1 S1 (alk_none hlt))) (fun c => absurd rfl c)⟩
  refine ⟨_, rfl, rfl, _, rfl, iteD (fun c => (by cases c)) (fun _ => ?_)⟩
  refine ⟨_, rfl, a, us, rfl, .inl (SqL.of (S1 _ _ ha)), _, rfl, b, vs, rfl, .inl (SqL.of (S1 _ _ hb)), rfl, _, rfl, iteIn (fun c => no H1 S1 (alk_len (by omega))) (fun c => ?_)⟩
  have eln : xs.length = ys.length := by omega
  refine ⟨_, rfl, a, us, rfl, .inl (SqL.of (S1 _ _ ha)), _, rfl, by omega, by omega, ?_⟩
  rw [Int.toNat_natCast]
  have fat : ∀ p, p < xs.length → atI (ixs fs) (p : Int) = some (.int ((fs.getD p 0 : Nat) : Int)) := fun p hp => by
    refine atI_nat ?_
    unfold ixs
    rw [List.getElem?_map, List.getD_eq_getElem?_getD, List.getElem?_eq_getElem (by omega : p < fs.length)]; rfl
  have pu1 := stab_T3.list S1 pu
  refine for_range (n := us.length) (fun i σ H' => (∃ z3 z4, σ = [some (.ref a), some (.ref b), some (.ref r), z3, z4]) ∧ H' = H1 ∧ ∀ p q a b, p < i → p < q → xs[p]? = some a → xs[q]? = some b → ¬ (fs.getD p 0 > fs.getD q 0 ∧ clashB a b = true)) ⟨⟨none, none, rfl⟩, rfl, fun p q a b h => absurd h (Nat.not_lt_zero _)⟩ ?_ ?_
  · rintro i σ H' hi ⟨⟨z3, z4, rfl⟩, rfl, hok⟩
    have ei : (0 : Int) + (i : Int) = (i : Int) := Int.zero_add _
    rw [ei]
    refine ⟨_, rfl, _, _, rfl, rfl, _, rfl, a, us, rfl, .inl (SqL.of (S1 _ _ ha)), (i : Int) + 1, _, rfl, ⟨by omega, by omega, by omega, by omega⟩, ?_⟩
    refine for_range (n := ((us.length : Int) - ((i : Int) + 1)).toNat) (fun j σ H2 => (∃ z4, σ = [some (.ref a), some (.ref b), some (.ref r), some (.int (i : Int)), z4]) ∧ H2 = H' ∧ ∀ q a b, i < q → q < i + 1 + j → xs[i]? = some a → xs[q]? = some b → ¬ (fs.getD i 0 > fs.getD q 0 ∧ clashB a b = true)) ⟨⟨z4, rfl⟩, rfl, fun q a b h1 h2 => by omega⟩ ?_ ?_
    · rintro j σ H' hj ⟨⟨z4, rfl⟩, rfl, hok2⟩
      have ej : (i : Int) + 1 + (j : Int) = ((i + 1 + j : Nat) : Int) := by omega
      rw [ej]
      have hq : i + 1 + j < xs.length := by omega
      have ga : xs[i]? = some xs[i] := List.getElem?_eq_getElem (by omega)
      have gb : xs[i + 1 + j]? = some xs[i + 1 + j] := List.getElem?_eq_getElem hq
      obtain ⟨va, gva, ta⟩ := Paired.getR pu1 ga
      obtain ⟨vb, gvb, tb⟩ := Paired.getR pu1 gb
      have go : (fs.getD i 0 > fs.getD (i + 1 + j) 0 ∧ clashB xs[i] xs[i + 1 + j] = true → False) → ∀ q a b, i < q → q < i + 1 + (j + 1) → xs[i]? = some a → xs[q]? = some b → ¬ (fs.getD i 0 > fs.getD q 0 ∧ clashB a b = true) := by
        intro hn q a b h1 h2 h3 h4
        by_cases e : q = i + 1 + j
        · subst e
          rw [ga] at h3; cases h3
          rw [gb] at h4; cases h4
          exact hn
        · exact hok2 q a b h1 (by omega) h3 h4
      refine ⟨_, rfl, _, rfl, _, _, _, _, rfl, rfl, SqL.of er, fat i (by omega), _, rfl, _, rfl, _, _, _, _, rfl, rfl, SqL.of er, fat _ hq, _, _, rfl, rfl, _, rfl, iteD (fun c1 => ?_) (fun c1 => iteF ⟨⟨_, rfl⟩, rfl, go fun z => by omega⟩)⟩
      refine ⟨_, rfl, _, rfl, _, _, _, _, rfl, rfl, SqL.of (S1 _ _ ha), atI_nat gva, _, rfl, _, rfl, _, _, _, _, rfl, rfl, SqL.of (S1 _ _ ha), atI_nat gvb, _, _, xs[i], xs[i + 1 + j], rfl, ta, tb, _, rfl, ?_⟩
      rw [clashL_eq (okx _ (List.getElem_mem _)) (okx _ (List.getElem_mem _))]
      refine ite2 (fun c2 => ?_) (fun c2 => ⟨⟨_, rfl⟩, rfl, go fun z => c2 z.2⟩)
      exact no H' S1 (alk_turned M (by omega) ga gb (by show fs.getD i 0 > _; omega) c2)
    · rintro σ H' ⟨⟨z4, rfl⟩, rfl, hok2⟩
      refine ⟨⟨_, _, rfl⟩, rfl, fun p q a b h1 h2 h3 h4 => ?_⟩
      by_cases e : p = i
      · subst e
        have := (List.getElem?_eq_some_iff.mp h4).1
        exact hok2 q a b h2 (by omega) h3 h4
      · exact hok p q a b (by omega) h2 h3 h4
  · rintro σ H' ⟨⟨z3, z4, rfl⟩, rfl, hok⟩
    refine q H' true S1 ⟨fun _ => ?_, fun _ => rfl⟩
    refine alk_all M eln fun p q a b hpq h3 h4 => ?_
    have := (List.getElem?_eq_some_iff.mp h3).1
    exact hok p q a b (by omega) hpq h3 h4
end
end K09


namespace K09
open PySem L2
abbrev s_listed : Stmt := top 23
theorem sc_listed : FnScope ["_law_told", "_law_row"] ["_law_told"] (defScope s_listed) := ⟨rfl, rfl, rfl, by decide +kernel, rfl, by decide +kernel, by decide +kernel⟩
def spListed : Sp := fun vs H Q _ => ∃ (r : Addr) (bs : List Addr) (rs : List (List D3)), vs = [.ref r] ∧ H r = some (.lst (bs.map V.ref)) ∧ Rows H bs rs ∧ (∀ r ∈ rs, r ≠ [] ∧ r.length < 128) ∧ ∀ H', Same H H' → Q (.bl true) H'
section
variable {P : Program} {w : World} {K : PySem.W.Frag} {mg : Str → Option Value} {base : Heap} {f : Addr} {fd : FuncData}
seal PySem.eval PySem.spliced in
theorem ok_listed (F : Fun K "_law_listed" "_law_listed" s_listed f fd) (m_isinstance : mg "isinstance" = none) (m_list : mg "list" = none) (m_tuple : mg "tuple" = none) : FnOk P w K mg base CX0 1 f fd ["_law_told"] spListed := by
  have sc := sc_listed
  refine F.ok sc (fun vs H Q E h => ?_) (fun cdv A outer s H vs Q E hr h => ?_)
  · obtain ⟨r, bs, rs, rfl, _⟩ := h
    rfl
  obtain ⟨r, bs, rs, rfl, er, R, hrs, q⟩ := h
  refine ⟨_, (pss_cons (ps_if (pt_not (pt_val (pe_callB (isI K) rfl m_isinstance bt_isinstance (pa_cons (pv 0) (pa_cons (pe_type rfl m_list bt_list) pa_nil))))) (pss_one (ps_ret pe_bl)) pss_nil)
    (pss_cons (ps_for PassesOwn.never rfl (piL K (pv 0)) (pg_name (i := 1) sc.nd rfl (Or.inl rfl)) (pss_cons (ps_if (PW.pt (pw_or (pt_not (pt_val (pe_callB (isI K) rfl m_isinstance bt_isinstance (pa_cons (pv 1) (pa_cons (pe_type rfl m_list bt_list) pa_nil))))) (pw_or1 (pt_cmpR (op_eqD hr.units) (pv 1) (pe_lst pa_nil) (nomark _))))) (pss_one (ps_ret pe_bl)) pss_nil)
    (pss_one (ps_if (pt_cmpR (op_neD hr.units) (pe_comp ["_law_thing"] [] rfl (comp_scope sc) (piL K (pv 1)) (fun _ _ _ _ _ => ⟨(pg_name (i := 0) (nd_c sc (by decide +kernel)) rfl (Or.inl rfl)), (pts_one (pt_not (pt_val (pe_callB (isI K) rfl m_isinstance bt_isinstance (pa_cons (pv 0) (pa_cons (pe_type rfl m_tuple bt_tuple) pa_nil)))))), (pv 0)⟩)) (pe_lst pa_nil) (nomark _)) (pss_one (ps_ret pe_bl)) pss_nil))))
    (pss_one (ps_ret pe_bl)))), ?_⟩
  refine ⟨_, rfl, _, _, _, _, true, rfl, rfl, .lst er, kit_same, true, rfl, iteF ?_⟩
  refine ⟨_, rfl, r, rfl, ⟨_, SqL.of er⟩, for_list (xs := bs.map V.ref) (fun i σ H' => ∃ z1, σ = [some (.ref r), z1] ∧ Same H H') ⟨none, rfl, Same.refl _⟩ ?_ ?_ ?_⟩
  · rintro i σ H' _ ⟨z1, rfl, S⟩
    exact SqL.of (S _ _ er)
  · rintro i x σ H' hx ⟨z1, rfl, S⟩
    rw [List.getElem?_map] at hx
    cases gb : bs[i]? with
    | none => rw [gb] at hx; cases hx
    | some b =>
      rw [gb] at hx
      have ex : V.ref b = x := Option.some.inj hx
      subst ex
      obtain ⟨row, grow, Lb⟩ := Paired.getL R gb
      obtain ⟨hne, hlen⟩ := hrs row (List.mem_of_getElem? grow)
      obtain ⟨ws, eb, pb⟩ := id Lb
      have hlw := Paired.length pb
      refine ⟨_, rfl, _, _, _, _, true, rfl, rfl, .lst (S _ _ eb), kit_same, true, rfl, iteF ?_⟩
      refine ⟨_, rfl, (by decide : 0 ≤ sizeLine), fun e he => ?_⟩
      have S' := S.new he (.lst [])
      refine ⟨dL row, dL [], (Lb.same S').dat, .lst upd_same .nil, Nat.le_trans (enc_dL.dep _) (by decide), ?_⟩
      rw [enc_dL.dec]
      refine ⟨_, rfl, iteD (fun z => absurd z hne) fun _ => ?_⟩
      refine ⟨_, rfl, b, rfl, ⟨_, SqL.of (S' _ _ eb)⟩, comp_list (xs := ws) (fun D i zs H2 => Same H H2 ∧ H2 D = some (.lst zs) ∧ zs = []) (small1000 (by omega)) (fun D hD => ⟨S'.new hD _, upd_same, rfl⟩) ?_ ?_ ?_⟩
      · rintro D j zs H2 hD hj ⟨S2, hl, rfl⟩
        exact ⟨SqL.of (S2 _ _ eb), hl, Nat.zero_le _⟩
      · rintro D j y zs H2 hD hy ⟨S2, hl, rfl⟩
        obtain ⟨d, _, a, rfl, ea⟩ := Paired.getL pb hy
        refine ⟨rfl, ?_⟩
        exact ⟨_, rfl, _, _, _, _, true, rfl, rfl, .tup (S2 _ _ ea), kit_same, true, rfl, iteF ⟨S2, hl, rfl⟩⟩
      · rintro D zs H2 hD ⟨S2, hl, rfl⟩
        refine ⟨(by decide : 0 ≤ sizeLine), fun e2 he2 => ?_⟩
        have S3 := same_new he2 (.lst [])
        refine ⟨dL [], dL [], .lst (S3 _ _ hl) .nil, .lst upd_same .nil, Nat.le_trans (enc_dL.dep _) (by decide), ?_⟩
        rw [enc_dL.dec]
        exact ⟨_, rfl, iteNS rfl ⟨_, rfl, S2.trans S3⟩⟩
  · rintro σ H' ⟨z1, rfl, S⟩
    exact q H' S
end
end K09

namespace K09
open PySem L2
abbrev s_law : Stmt := top 24
theorem sc_law : FnScope ["_law_script", "_law_lift", "_law_one", "_law_other", "_law_handed", "_law_told", "_law_beside", "_law_rows", "_law_due", "_law_k", "_law_found"] ["_law_script"] (defScope s_law) := ⟨rfl, rfl, rfl, by decide +kernel, rfl, by decide +kernel, by decide +kernel⟩
section
variable {P : Program} {w : World} {K : PySem.W.Frag} {mg : Str → Option Value} {base : Heap} {f : Addr} {fd : FuncData}
seal PySem.eval PySem.spliced in
theorem ok_law (F : Fun K "law" "law" s_law f fd) (D__law_cell_at : Df P w K mg base "_law_cell_at" 1 ["_law_script", "_law_k"] (spCell K)) (D__law_whole : Df P w K mg base "_law_whole" 1 ["_law_found"] spWholeI) (D__law_power : Df P w K mg base "_law_power" 1 ["_law_k"] spPower) (D__law_deed : Df P w K mg base "_law_deed" 2 ["_law_cell", "_law_lift"] spDeedW)
    (D__law_passed_on : Df P w K mg base "_law_passed_on" 2 ["_law_rows", "_law_cells"] spPassed) (D__law_changed : Df P w K mg base "_law_changed" 3 ["_law_rows", "_law_kind", "_law_cell", "_law_lift"] spChanged) (D_layers : Df P w K mg base "layers" 5 ["diary"] spLayersN) (D__law_listed : Df P w K mg base "_law_listed" 1 ["_law_told"] spListed) (D__law_alike : Df P w K mg base "_law_alike" 2 ["_law_one", "_law_other"] spAlike)
    (D_way : Df P w K mg base "way" 4 ["one", "other"] spWay) (D_heights : Df P w K mg base "heights" 4 ["diary"] spHeights) (m_list : mg "list" = none) (m_len : mg "len" = none) (m_range : mg "range" = none) (m_isinstance : mg "isinstance" = none) : FnOk P w K mg base CX0 6 f fd ["_law_script"] (spLaw K) := by
  have sc := sc_law
  refine F.ok sc (fun vs H Q E h => ?_) (fun cdv A outer s H vs Q E hr h => ?_)
  · obtain ⟨a, ns, rfl, _⟩ := h
    rfl
  obtain ⟨a, ns, rfl, hS, h63, q⟩ := h
  refine ⟨_, (pss_cons (ps_set (i := 1) sc.nd rfl (Or.inr rfl) (pe_callD D__law_power (hr.mono (by decide)) rfl (pa_cons (pe_op op_mod (pe_op op_fdiv (pe_callD D__law_cell_at (hr.mono (by decide)) rfl (pa_cons (pv 0) (pa_cons pe_int pa_nil))) pe_int) pe_int) pa_nil)))
    (pss_cons (ps_setC (i := 2) ["_law_cell"] [1] rfl sc.nd rfl rfl (comp_scope sc) (piL K (pe_slice (slL K) (pv 0) (po_some pe_int) (po_some pe_int))) (fun _ _ _ _ _ => ⟨(pg_name (i := 0) (nd_c sc (by decide +kernel)) rfl (Or.inl rfl)), pts_nil, (pe_callD D__law_deed (hr.mono (by decide)) rfl (pa_cons (pv 0) (pa_cons (pv 1) pa_nil)))⟩))
    (pss_cons (ps_set (i := 3) sc.nd rfl (Or.inl rfl) (pe_callD D__law_passed_on (hr.mono (by decide)) rfl (pa_cons (pv 2) (pa_cons (pe_slice (slL K) (pv 0) (po_some pe_int) (po_some pe_int)) pa_nil))))
    (pss_cons (ps_set (i := 3) sc.nd rfl (Or.inl rfl) (pe_callD D__law_changed (hr.mono (by decide)) rfl (pa_cons (pv 3) (pa_cons (pe_op op_mod (pe_callD D__law_cell_at (hr.mono (by decide)) rfl (pa_cons (pv 0) (pa_cons pe_int pa_nil))) pe_int) (pa_cons (pe_callD D__law_cell_at (hr.mono (by decide)) rfl (pa_cons (pv 0) (pa_cons pe_int pa_nil))) (pa_cons (pv 1) pa_nil))))))
    (pss_cons (ps_set (i := 4) sc.nd rfl (Or.inl rfl) (pe_lst (pa_cons (pe_callTy (listOf K) rfl m_list bt_list (pa_cons (pv 2) pa_nil)) (pa_cons (pe_callTy (listOf K) rfl m_list bt_list (pa_cons (pv 3) pa_nil)) pa_nil))))
    (pss_cons (ps_set (i := 5) sc.nd rfl (Or.inl rfl) (pe_callD D_layers (hr.mono (by decide)) rfl (pa_cons (pe_ix (ixL K) (pv 4) pe_int (fun _ _ => rfl)) pa_nil)))
    (pss_cons (ps_set (i := 6) sc.nd rfl (Or.inl rfl) (pe_callD D_layers (hr.mono (by decide)) rfl (pa_cons (pe_ix (ixL K) (pv 4) pe_int (fun _ _ => rfl)) pa_nil)))
    (pss_cons (ps_if (PW.pt (pw_or (pt_cmpR (op_neD hr.units) (pv 4) (pe_lst (pa_cons (pv 2) (pa_cons (pv 3) pa_nil))) (nomark _)) (pw_or (pt_not (pt_val (pe_callD D__law_listed (hr.mono (by decide)) rfl (pa_cons (pv 5) pa_nil)))) (pw_or1 (pt_not (pt_val (pe_callD D__law_listed (hr.mono (by decide)) rfl (pa_cons (pv 6) pa_nil)))))))) (pss_one (ps_ret pe_bl)) pss_nil)
    (pss_cons (ps_if (pt_cmpR op_ne (pe_cmpR (op_eqD hr.units) (pv 5) (pv 6) (nomark _)) (pe_callD D__law_alike (hr.mono (by decide)) rfl (pa_cons (pv 2) (pa_cons (pv 3) pa_nil))) (nomark _)) (pss_one (ps_ret pe_bl)) pss_nil)
    (pss_cons (ps_set (i := 7) sc.nd rfl (Or.inl rfl) (pe_lst pa_nil))
    (pss_cons (ps_set (i := 8) sc.nd rfl (Or.inl rfl) (pe_lst pa_nil))
    (pss_cons (ps_for PassesOwn.never rfl (pi_range1 rfl m_range (pa_cons (pe_callB (lenQ K) rfl m_len bt_len (pa_cons (pv 5) pa_nil)) pa_nil)) (pg_name (i := 9) sc.nd rfl (Or.inr rfl)) (pss_cons (ps_set (i := 7) sc.nd rfl (Or.inl rfl) (pe_op op_cat (pv 7) (pe_ix (ixL K) (pv 5) (pv 9) (fun _ _ => rfl))))
    (pss_one (ps_set (i := 8) sc.nd rfl (Or.inl rfl) (pe_op op_cat (pv 8) (pe_comp ["_law_row"] [9] rfl (comp_scope sc) (piL K (pe_ix (ixL K) (pv 5) (pv 9) (fun _ _ => rfl))) (fun _ _ _ _ _ => ⟨(pg_name (i := 0) (nd_c sc (by decide +kernel)) rfl (Or.inl rfl)), pts_nil, (pv 1)⟩)))))))
    (pss_cons (ps_if (PW.pt (pw_or (pt_not (pt_val (pe_callD D__law_alike (hr.mono (by decide)) rfl (pa_cons (pv 2) (pa_cons (pv 7) pa_nil))))) (pw_or1 (pt_not (pt_val (pe_callB (isI K) rfl m_isinstance bt_isinstance (pa_cons (pe_callD D_way (hr.mono (by decide)) rfl (pa_cons (pv 2) (pa_cons (pv 7) pa_nil))) (pa_cons (pe_type rfl m_list bt_list) pa_nil)))))))) (pss_one (ps_ret pe_bl)) pss_nil)
    (pss_cons (ps_set (i := 10) sc.nd rfl (Or.inl rfl) (pe_callD D_heights (hr.mono (by decide)) rfl (pa_cons (pv 7) pa_nil)))
    (pss_cons (ps_if (PW.pt (pw_or (pt_not (pt_val (pe_callB (isI K) rfl m_isinstance bt_isinstance (pa_cons (pv 10) (pa_cons (pe_type rfl m_list bt_list) pa_nil))))) (pw_or1 (pt_cmpR (op_neD hr.units) (pe_comp ["_law_number"] [] rfl (comp_scope sc) (piL K (pv 10)) (fun _ _ _ _ _ => ⟨(pg_name (i := 0) (nd_c sc (by decide +kernel)) rfl (Or.inl rfl)), (pts_one (pt_not (pt_val (pe_callD D__law_whole (hr.mono (by decide)) rfl (pa_cons (pv 0) pa_nil))))), (pv 0)⟩)) (pe_lst pa_nil) (nomark _))))) (pss_one (ps_ret pe_bl)) pss_nil)
    (pss_one (ps_ret (pe_cmpR (op_eqD hr.units) (pv 10) (pv 8) (nomark _))))))))))))))))))), ?_⟩
  have hm0 := Int.emod_nonneg (ns.getD (0 : Int).toNat 0 / 10) (show (56 : Int) ≠ 0 by decide)
  have hm1 := Int.emod_lt_of_pos (ns.getD (0 : Int).toNat 0 / 10) (show (0 : Int) < 56 by decide)
  refine ⟨_, rfl, a, ns, 0, rfl, hS, by decide, _, _, rfl, rfl, ⟨by decide, by decide⟩, _, _, rfl, rfl, (show (0 : Int) < 56 by decide), _, rfl, hm0, by omega, ?_⟩
  have hlf : (2 : Int) ^ (ns.getD (0 : Int).toNat 0 / 10 % 56).toNat ≤ 2 ^ 55 := pow_le_pow (by omega)
  have hlf0 : (0 : Int) < 2 ^ (ns.getD (0 : Int).toNat 0 / 10 % 56).toNat := Int.pow_pos (by decide)
  obtain ⟨ms, hms, hml⟩ := cut_ints ns (some 2) (some 62)
  have hml2 : ms.length ≤ 60 := by
    have e := congrArg List.length hms
    rw [cl_mid (by decide) (by decide), List.length_map, List.length_map, show (62 : Int).toNat = 62 from rfl, show (2 : Int).toNat = 2 from rfl] at e
    omega
  refine ⟨_, rfl, _, rfl, _, rfl, a, _, rfl, hS, fun p hp => ?_⟩
  rw [hms]
  have S0 := same_new hp (.lst (ms.map V.int))
  refine ⟨p, rfl, ⟨_, SqL.of upd_same⟩, comp_grow stab_DP (ms.map V.int) (List.replicate ms.length ()) (by rw [List.length_map, List.length_replicate]) (small1000 (by rw [List.length_map]; omega)) (fun H' S' => SqL.of (S' _ _ upd_same)) ?_ ?_⟩
  · rintro i v _ hv _ H' Q' S' q'
    obtain ⟨cc, _, rfl⟩ := ints_get hv
    exact ⟨_, rfl, _, rfl, cc, _, rfl, by omega, hlf, fun x d H3 S3 t3 o3 => q' x H3 S3 ⟨d, t3, o3⟩⟩
  intro r us H1 S1 hr1 e1 p1
  obtain ⟨xs, pd, okx, hlx⟩ := deeds_of p1
  rw [List.length_replicate] at hlx
  have Lx : LD H1 r xs := ⟨us, e1, pd⟩
  have S01 := S0.trans S1
  refine ⟨_, rfl, _, rfl, _, rfl, _, rfl, a, _, rfl, S01.seq hS, fun p2 hp2 => ?_⟩
  rw [hms]
  have S2 := same_new hp2 (.lst (ms.map V.int))
  refine ⟨r, p2, xs, ms, rfl, Lx.same S2, by omega, upd_same, fun ot es H3 S3 hot Lo sub el => ?_⟩
  have S13 := S2.trans S3
  have S03 := S01.trans S13
  refine ⟨_, rfl, _, rfl, a, ns, 0, rfl, S03.seq hS, by decide, _, _, rfl, rfl, (show (0 : Int) < 10 by decide), _, rfl, a, ns, 1, rfl, S03.seq hS, by decide, _, rfl, ot, _, _, _, es, rfl, Lo, fun d hd => okx d (sub d hd), by omega, by omega, hlf, fun o2 ys e0 H4 S4 Ly sub4 oke hly => ?_⟩
  have S14 := S13.trans S4
  have oky : ∀ d ∈ ys, okD d := fun d hd => (sub4 d hd).elim (fun z => okx d (sub d z)) fun z => by rw [z]; exact oke
  obtain ⟨vx, ex, px⟩ := id (Lx.same S14)
  obtain ⟨vy, ey, py⟩ := id Ly
  refine ⟨_, rfl, r, vx, rfl, .inl (SqL.of ex), fun l1 hl1 => ⟨_, rfl, o2, vy, rfl, .inl (SqL.of (new_at hl1 ey)), fun l2 hl2 => ⟨sm rfl, fun hd hhd => ?_⟩⟩⟩
  have S5 := ((same_new hl1 (.lst vx)).new hl2 (.lst vy)).new hhd (.lst [.ref l1, .ref l2])
  have X5 : LD (upd (upd (upd H4 l1 (.lst vx)) l2 (.lst vy)) hd (.lst [.ref l1, .ref l2])) l1 xs := ⟨vx, new_at hhd (new_at hl2 upd_same), stab_T3.list S5 px⟩
  have Y5 : LD (upd (upd (upd H4 l1 (.lst vx)) l2 (.lst vy)) hd (.lst [.ref l1, .ref l2])) l2 ys := ⟨vy, new_at hhd upd_same, stab_T3.list S5 py⟩
  have E5 : upd (upd (upd H4 l1 (.lst vx)) l2 (.lst vy)) hd (.lst [.ref l1, .ref l2]) hd = some (.lst ([l1, l2].map V.ref)) := upd_same
  generalize upd (upd (upd H4 l1 (.lst vx)) l2 (.lst vy)) hd (.lst [.ref l1, .ref l2]) = H5 at S5 X5 Y5 E5 ⊢
  refine ⟨_, rfl, _, _, _, _, rfl, rfl, SqL.of E5, at_l0, l1, xs, rfl, X5, by omega, fun L1 b1 H6 S6 hL1 eL1 R1 fr1 => ?_⟩
  refine ⟨_, rfl, _, _, _, _, rfl, rfl, SqL.of (S6 _ _ E5), at_l1, l2, ys, rfl, Y5.same S6, by omega, fun L2 b2 H7 S7 hL2 eL2 R2 fr2 => ?_⟩
  have S57 := S6.trans S7
  have S47 := S5.trans S57
  have Lx7 := (Lx.same S14).same S47
  have Ly7 := Ly.same S47
  refine ⟨_, rfl, _, rfl, _, rfl, sm rfl, fun cm hcm => ?_⟩
  have S8 := same_new hcm (.lst [.ref r, .ref o2])
  refine ⟨dR [xs, ys], dR [xs, ys], Rows.dat' (S8 _ _ (S57 _ _ E5)) (.cons ((X5.same S57).same S8) (.cons ((Y5.same S57).same S8) .nil)), Rows.dat' (bs := [r, o2]) upd_same (.cons (Lx7.same S8) (.cons (Ly7.same S8) .nil)), Nat.le_trans (enc_dR.dep _) (by decide), ?_⟩
  rw [enc_dR.dec]
  refine ⟨_, rfl, iteNS rfl ?_⟩
  refine ⟨_, rfl, L1, b1, layF xs, rfl, S8 _ _ (S7 _ _ eL1), Rows.same (S7.trans S8) R1, lay_rowsN (by omega), fun H9 S9 => ⟨_, rfl, iteF ?_⟩⟩
  refine ⟨_, rfl, L2, b2, layF ys, rfl, S9 _ _ (S8 _ _ eL2), Rows.same (S8.trans S9) R2, lay_rowsN (by omega), fun H10 S10 => ⟨_, rfl, iteF ?_⟩⟩
  have S7a := (S8.trans S9).trans S10
  have S6a := S7.trans S7a
  refine ⟨_, rfl, _, rfl, dR (layF xs), dR (layF ys), Rows.dat' (S6a _ _ eL1) (Rows.same S6a R1), Rows.dat' (S7a _ _ eL2) (Rows.same S7a R2), Nat.le_trans (enc_dR.dep _) (by decide), ?_⟩
  rw [enc_dR.dec]
  refine ⟨_, rfl, _, rfl, r, o2, xs, ys, rfl, Lx7.same S7a, Ly7.same S7a, okx, by omega, by omega, fun H11 t S11 ht => ⟨rfl, ?_⟩⟩
  have et : decide (layF xs = layF ys) = t := by
    cases t with
    | true => exact decide_eq_true ((lay_alk xs ys).mpr (ht.mp rfl))
    | false => exact decide_eq_false fun z => Bool.false_ne_true (ht.mpr ((lay_alk xs ys).mp z))
  rw [et]
  refine ⟨_, rfl, iteNS rfl ?_⟩
  have S6b := S6a.trans S11
  have Lxb := (Lx7.same S7a).same S11
  obtain ⟨fA, fP, fW, fH⟩ := lay_flat xs
  have fl := fP.length_eq
  have hlb : b1.length = (layF xs).length := Paired.length R1
  have hnl := nL_le xs
  have hly1 := layF_length xs
  refine ⟨(by decide : 0 ≤ sizeLine), fun rw0 hrw => ⟨(by decide : 0 ≤ sizeLine), fun du0 hdu => ?_⟩⟩
  have S12 := (same_new hrw (.lst [])).new hdu (.lst [])
  have erw0 : upd (upd H11 rw0 (.lst [])) du0 (.lst []) rw0 = some (.lst []) := new_at hdu upd_same
  have edu0 : upd (upd H11 rw0 (.lst [])) du0 (.lst []) du0 = some (.lst []) := upd_same
  generalize upd (upd H11 rw0 (.lst [])) du0 (.lst []) = H12 at S12 erw0 edu0 ⊢
  have S6c := S6b.trans S12
  have eL := S6c _ _ eL1
  have RL := Rows.same S6c R1
  have Lxc := Lxb.same S12
  refine ⟨_, rfl, L1, _, rfl, .inl (SqL.of eL), _, rfl, by rw [List.length_map]; omega, by rw [List.length_map]; omega, ?_⟩
  rw [Int.toNat_natCast]
  refine for_range (n := (b1.map V.ref).length) (fun i σ H' => ∃ z9 rw du, σ = [some (.ref a), some (.int (2 ^ (ns.getD (0 : Int).toNat 0 / 10 % 56).toNat)), some (.ref r), some (.ref o2), some (.ref hd), some (.ref L1), some (.ref L2), some (.ref rw), some (.ref du), z9, none] ∧ Same H12 H' ∧ LD H' rw ((layF xs).take i).flatten ∧ H' du = some (.lst (((lvG 0 ((layF xs).take i)).map (·.2)).map V.int)))
    ⟨none, rw0, du0, rfl, Same.refl _, ⟨[], erw0, .nil⟩, edu0⟩ ?_ ?_
  · rintro i σ H' hi ⟨z9, rw, du, rfl, S, ⟨tv, erw, prw⟩, edu⟩
    rw [List.length_map] at hi
    have gb : b1[i]? = some b1[i] := List.getElem?_eq_getElem hi
    obtain ⟨row, grow, lv, eb, pb⟩ := Paired.getL RL gb
    have gat : atI (b1.map V.ref) (0 + (i : Int)) = some (.ref b1[i]) := at0 (by rw [List.getElem?_map, gb]; rfl)
    have l1' := Paired.length prw
    have l2' := Paired.length pb
    have pl := flat_le (layF xs) (i + 1)
    rw [flat_take grow, List.length_append, fl] at pl
    have ll : ((lvG 0 ((layF xs).take i)).map (·.2)).length = ((layF xs).take i).flatten.length := lvG_len _ _
    refine ⟨_, rfl, _, rfl, _, rfl, _, _, _, _, rfl, rfl, SqL.of (S _ _ eL), gat, rw, b1[i], _, _, rfl, rfl, erw, S _ _ eb, Nat.le_of_lt (small1000 (by omega)), fun p3 hp3 => ?_⟩
    have S13' := same_new hp3 (.lst (tv ++ lv))
    refine ⟨_, rfl, _, rfl, _, rfl, _, _, _, _, rfl, rfl, SqL.of (S13' _ _ (S _ _ eL)), gat, b1[i], rfl, ⟨_, SqL.of (S13' _ _ (S _ _ eb))⟩, comp_list (xs := lv) (fun D j zs H2 => Same (upd H' p3 (.lst (tv ++ lv))) H2 ∧ H2 D = some (.lst zs) ∧ zs = ((row.take j).map fun _ => (i : Int)).map V.int) (small1000 (by omega)) (fun D hD => ⟨same_new hD _, upd_same, rfl⟩) ?_ ?_ ?_⟩
    · rintro D j zs H2 hD hj ⟨S2', hl, rfl⟩
      exact ⟨SqL.of (S2' _ _ (S13' _ _ (S _ _ eb))), hl, by rw [List.length_map, List.length_map, List.length_take]; omega⟩
    · rintro D j y zs H2 hD hy ⟨S2', hl, rfl⟩
      obtain ⟨d, gd, _⟩ := Paired.getL pb hy
      refine ⟨rfl, _, rfl, hl, S2'.wr hD _, upd_same, ?_⟩
      rw [List.take_add_one, gd, List.map_append, List.map_append, Int.zero_add]
      rfl
    · rintro D zs H2 hD ⟨S2', hl, rfl⟩
      rw [l2', List.take_length] at hl
      refine ⟨du, D, _, _, rfl, rfl, S2' _ _ (S13' _ _ edu), hl, ?_, fun p4 hp4 => ?_⟩
      · simp only [List.length_map] at ll ⊢
        exact Nat.le_of_lt (small1000 (by omega))
      have S14' := (S13'.trans S2').new hp4 (.lst (((lvG 0 ((layF xs).take i)).map (·.2)).map V.int ++ (row.map fun _ => (i : Int)).map V.int))
      refine ⟨_, p3, p4, rfl, S.trans S14', ⟨tv ++ lv, new_at hp4 (S2' _ _ upd_same), ?_⟩, ?_⟩
      · rw [flat_take grow]
        exact _root_.L2.Paired.app (stab_T3.list S14' prw) (stab_T3.list (S.trans S14') pb)
      · rw [lvG_take grow, List.map_append]
        exact upd_same
  · rintro σ H13 ⟨z9, rw, du, rfl, S13', Lrw, edu⟩
    rw [List.length_map, List.take_of_length_le (by omega)] at Lrw edu
    have Lx13 := Lxc.same S13'
    generalize (layF xs).flatten = rows at Lrw fA fP fW fH fl
    refine ⟨_, rfl, _, rfl, r, rw, xs, rows, rfl, Lx13, Lrw, okx, by omega, by omega, fun H14 t2 S14' ht2 => ?_⟩
    have et2 : t2 = true := ht2.mpr fA
    subst et2
    refine ⟨_, rfl, iteF ?_⟩
    refine ⟨_, rfl, _, rfl, r, rw, xs, rows, rfl, Lx13.same S14', Lrw.same S14', by omega, by omega, fun hn => ?_, fun ps hps wr H15 S15 hwr ewr => ?_⟩
    · rw [hn] at fW; cases fW
    refine ⟨_, _, _, _, true, rfl, rfl, .lst ewr, kit_same, true, rfl, iteF ?_⟩
    have S15' := S14'.trans S15
    refine ⟨_, rfl, rw, rows, rfl, Lrw.same S15', small1000 (by omega), fun fo H16 S16 hfo efo => ?_⟩
    refine ⟨_, rfl, _, _, _, _, true, rfl, rfl, .lst efo, kit_same, true, rfl, iteF ?_⟩
    refine ⟨_, rfl, fo, rfl, ⟨_, SqL.of efo⟩, comp_list (xs := (hts clashB rows).map V.int) (fun D j zs H2 => Same H16 H2 ∧ H2 D = some (.lst zs) ∧ zs = []) (small1000 (by rw [List.length_map, hts_length]; omega)) (fun D hD => ⟨same_new hD _, upd_same, rfl⟩) ?_ ?_ ?_⟩
    · rintro D j zs H2 hD hj ⟨S2', hl, rfl⟩
      exact ⟨SqL.of (S2' _ _ efo), hl, Nat.zero_le _⟩
    · rintro D j y zs H2 hD hy ⟨S2', hl, rfl⟩
      obtain ⟨n, _, rfl⟩ := ints_get hy
      refine ⟨rfl, ?_⟩
      exact ⟨_, rfl, n, rfl, _, rfl, iteF ⟨S2', hl, rfl⟩⟩
    · rintro D zs H17 hD ⟨S17, hl, rfl⟩
      refine ⟨(by decide : 0 ≤ sizeLine), fun e2 he2 => ?_⟩
      have S18 := same_new he2 (.lst [])
      refine ⟨dL [], dL [], .lst (S18 _ _ hl) .nil, .lst upd_same .nil, Nat.le_trans (enc_dL.dep _) (by decide), ?_⟩
      rw [enc_dL.dec]
      refine ⟨_, rfl, iteNS rfl ?_⟩
      refine ⟨_, rfl, _, rfl, dI (hts clashB rows), dI ((lvG 0 (layF xs)).map (·.2)), dat_ints (S18 _ _ (S17 _ _ efo)), dat_ints (S18 _ _ (S17 _ _ (S16 _ _ (S15' _ _ edu)))), Nat.le_trans (enc_dI.dep _) (by decide), ?_⟩
      rw [enc_dI.dec, decide_eq_true fH]
      exact q _
end
end K09

namespace K09
open PySem L2
theorem all_mk {l : PySem.W.OpenLaw} {w : World} {K : PySem.W.Frag} {h : Heap} {mg : Str → Option Value} {fa f0 f1 f2 f3 f4 f5 f6 f7 f8 f9 f10 f11 f12 f13 f14 f15 f16 f17 f18 f19 f20 : Addr} (X : K.In h) (G : h.Ns mainGlobals mg) (hfa : mg "law" = some (.ref fa))
    {od0 an0 od1 an1 od2 an2 od3 an3 od4 an4 od5 an5 od6 an6 od7 an7 od8 an8 od9 an9 od10 an10 od11 an11 od12 an12 od13 an13 od14 an14 od15 an15 od16 an16 od17 an17 od18 an18 od19 an19 od20 an20 : Option Addr} {sl0 sl1 sl2 sl3 sl4 sl5 sl6 sl7 sl8 sl9 sl10 sl11 sl12 sl13 sl14 sl15 sl16 sl17 sl18 sl19 sl20 : Array (Option Value)} {oc0 kV0 dc0 pm0 cd0 ct0 oc1 kV1 dc1 pm1 cd1 ct1 oc2 kV2 dc2 pm2 cd2 ct2 oc3 kV3 dc3 pm3 cd3 ct3 oc4 kV4 dc4 pm4 cd4 ct4 oc5 kV5 dc5 pm5 cd5 ct5 oc6 kV6 dc6 pm6 cd6 ct6 oc7 kV7 dc7 pm7 cd7 ct7 oc8 kV8 dc8 pm8 cd8 ct8 oc9 kV9 dc9 pm9 cd9 ct9 oc10 kV10 dc10 pm10 cd10 ct10 oc11 kV11 dc11 pm11 cd11 ct11 oc12 kV12 dc12 pm12 cd12 ct12 oc13 kV13 dc13 pm13 cd13 ct13 oc14 kV14 dc14 pm14 cd14 ct14 oc15 kV15 dc15 pm15 cd15 ct15 oc16 kV16 dc16 pm16 cd16 ct16 oc17 kV17 dc17 pm17 cd17 ct17 oc18 kV18 dc18 pm18 cd18 ct18 oc19 kV19 dc19 pm19 cd19 ct19 oc20 kV20 dc20 pm20 cd20 ct20 : Value}
    (a0 : PySem.W.nsIn K mainGlobals "disturbs" = some (some (.ref f0))) (l0 : K.lookup f0 = some ⟨oc0, od0, .func (PySem.W.fnOf "disturbs" "disturbs" (defArgs s_disturbs) (defBody s_disturbs) (defScope s_disturbs) .none kV0 dc0 pm0 an0 cd0 ct0), sl0⟩) (c0 : PySem.W.codeIn K cd0 "disturbs" = true) (k0 : PySem.W.keepIn K (.ref f0) = true)
    (a1 : PySem.W.nsIn K mainGlobals "clash" = some (some (.ref f1))) (l1 : K.lookup f1 = some ⟨oc1, od1, .func (PySem.W.fnOf "clash" "clash" (defArgs s_clash) (defBody s_clash) (defScope s_clash) .none kV1 dc1 pm1 an1 cd1 ct1), sl1⟩) (c1 : PySem.W.codeIn K cd1 "clash" = true) (k1 : PySem.W.keepIn K (.ref f1) = true)
    (a2 : PySem.W.nsIn K mainGlobals "height_behind" = some (some (.ref f2))) (l2 : K.lookup f2 = some ⟨oc2, od2, .func (PySem.W.fnOf "height_behind" "height_behind" (defArgs s_behind) (defBody s_behind) (defScope s_behind) .none kV2 dc2 pm2 an2 cd2 ct2), sl2⟩) (c2 : PySem.W.codeIn K cd2 "height_behind" = true) (k2 : PySem.W.keepIn K (.ref f2) = true)
    (a3 : PySem.W.nsIn K mainGlobals "heights" = some (some (.ref f3))) (l3 : K.lookup f3 = some ⟨oc3, od3, .func (PySem.W.fnOf "heights" "heights" (defArgs s_heights) (defBody s_heights) (defScope s_heights) .none kV3 dc3 pm3 an3 cd3 ct3), sl3⟩) (c3 : PySem.W.codeIn K cd3 "heights" = true) (k3 : PySem.W.keepIn K (.ref f3) = true)
    (a4 : PySem.W.nsIn K mainGlobals "laid" = some (some (.ref f4))) (l4 : K.lookup f4 = some ⟨oc4, od4, .func (PySem.W.fnOf "laid" "laid" (defArgs s_laid) (defBody s_laid) (defScope s_laid) .none kV4 dc4 pm4 an4 cd4 ct4), sl4⟩) (c4 : PySem.W.codeIn K cd4 "laid" = true) (k4 : PySem.W.keepIn K (.ref f4) = true)
    (a5 : PySem.W.nsIn K mainGlobals "layers" = some (some (.ref f5))) (l5 : K.lookup f5 = some ⟨oc5, od5, .func (PySem.W.fnOf "layers" "layers" (defArgs s_layers) (defBody s_layers) (defScope s_layers) .none kV5 dc5 pm5 an5 cd5 ct5), sl5⟩) (c5 : PySem.W.codeIn K cd5 "layers" = true) (k5 : PySem.W.keepIn K (.ref f5) = true)
    (a6 : PySem.W.nsIn K mainGlobals "some_clash" = some (some (.ref f6))) (l6 : K.lookup f6 = some ⟨oc6, od6, .func (PySem.W.fnOf "some_clash" "some_clash" (defArgs s_some) (defBody s_some) (defScope s_some) .none kV6 dc6 pm6 an6 cd6 ct6), sl6⟩) (c6 : PySem.W.codeIn K cd6 "some_clash" = true) (k6 : PySem.W.keepIn K (.ref f6) = true)
    (a7 : PySem.W.nsIn K mainGlobals "way" = some (some (.ref f7))) (l7 : K.lookup f7 = some ⟨oc7, od7, .func (PySem.W.fnOf "way" "way" (defArgs s_way) (defBody s_way) (defScope s_way) .none kV7 dc7 pm7 an7 cd7 ct7), sl7⟩) (c7 : PySem.W.codeIn K cd7 "way" = true) (k7 : PySem.W.keepIn K (.ref f7) = true)
    (a8 : PySem.W.nsIn K mainGlobals "_law_cell_at" = some (some (.ref f8))) (l8 : K.lookup f8 = some ⟨oc8, od8, .func (PySem.W.fnOf "_law_cell_at" "_law_cell_at" (defArgs s_cell) (defBody s_cell) (defScope s_cell) .none kV8 dc8 pm8 an8 cd8 ct8), sl8⟩) (c8 : PySem.W.codeIn K cd8 "_law_cell_at" = true) (k8 : PySem.W.keepIn K (.ref f8) = true)
    (a9 : PySem.W.nsIn K mainGlobals "_law_whole" = some (some (.ref f9))) (l9 : K.lookup f9 = some ⟨oc9, od9, .func (PySem.W.fnOf "_law_whole" "_law_whole" (defArgs s_whole) (defBody s_whole) (defScope s_whole) .none kV9 dc9 pm9 an9 cd9 ct9), sl9⟩) (c9 : PySem.W.codeIn K cd9 "_law_whole" = true) (k9 : PySem.W.keepIn K (.ref f9) = true)
    (a10 : PySem.W.nsIn K mainGlobals "_law_power" = some (some (.ref f10))) (l10 : K.lookup f10 = some ⟨oc10, od10, .func (PySem.W.fnOf "_law_power" "_law_power" (defArgs s_power) (defBody s_power) (defScope s_power) .none kV10 dc10 pm10 an10 cd10 ct10), sl10⟩) (c10 : PySem.W.codeIn K cd10 "_law_power" = true) (k10 : PySem.W.keepIn K (.ref f10) = true)
    (a11 : PySem.W.nsIn K mainGlobals "_law_wide" = some (some (.ref f11))) (l11 : K.lookup f11 = some ⟨oc11, od11, .func (PySem.W.fnOf "_law_wide" "_law_wide" (defArgs s_wide) (defBody s_wide) (defScope s_wide) .none kV11 dc11 pm11 an11 cd11 ct11), sl11⟩) (c11 : PySem.W.codeIn K cd11 "_law_wide" = true) (k11 : PySem.W.keepIn K (.ref f11) = true)
    (a12 : PySem.W.nsIn K mainGlobals "_law_deed" = some (some (.ref f12))) (l12 : K.lookup f12 = some ⟨oc12, od12, .func (PySem.W.fnOf "_law_deed" "_law_deed" (defArgs s_deed) (defBody s_deed) (defScope s_deed) .none kV12 dc12 pm12 an12 cd12 ct12), sl12⟩) (c12 : PySem.W.codeIn K cd12 "_law_deed" = true) (k12 : PySem.W.keepIn K (.ref f12) = true)
    (a13 : PySem.W.nsIn K mainGlobals "_law_clash" = some (some (.ref f13))) (l13 : K.lookup f13 = some ⟨oc13, od13, .func (PySem.W.fnOf "_law_clash" "_law_clash" (defArgs s_lclash) (defBody s_lclash) (defScope s_lclash) .none kV13 dc13 pm13 an13 cd13 ct13), sl13⟩) (c13 : PySem.W.codeIn K cd13 "_law_clash" = true) (k13 : PySem.W.keepIn K (.ref f13) = true)
    (a14 : PySem.W.nsIn K mainGlobals "_law_passed_on" = some (some (.ref f14))) (l14 : K.lookup f14 = some ⟨oc14, od14, .func (PySem.W.fnOf "_law_passed_on" "_law_passed_on" (defArgs s_passed) (defBody s_passed) (defScope s_passed) .none kV14 dc14 pm14 an14 cd14 ct14), sl14⟩) (c14 : PySem.W.codeIn K cd14 "_law_passed_on" = true) (k14 : PySem.W.keepIn K (.ref f14) = true)
    (a15 : PySem.W.nsIn K mainGlobals "_law_exchanged" = some (some (.ref f15))) (l15 : K.lookup f15 = some ⟨oc15, od15, .func (PySem.W.fnOf "_law_exchanged" "_law_exchanged" (defArgs s_exch) (defBody s_exch) (defScope s_exch) .none kV15 dc15 pm15 an15 cd15 ct15), sl15⟩) (c15 : PySem.W.codeIn K cd15 "_law_exchanged" = true) (k15 : PySem.W.keepIn K (.ref f15) = true)
    (a16 : PySem.W.nsIn K mainGlobals "_law_changed" = some (some (.ref f16))) (l16 : K.lookup f16 = some ⟨oc16, od16, .func (PySem.W.fnOf "_law_changed" "_law_changed" (defArgs s_changed) (defBody s_changed) (defScope s_changed) .none kV16 dc16 pm16 an16 cd16 ct16), sl16⟩) (c16 : PySem.W.codeIn K cd16 "_law_changed" = true) (k16 : PySem.W.keepIn K (.ref f16) = true)
    (a17 : PySem.W.nsIn K mainGlobals "_law_mates" = some (some (.ref f17))) (l17 : K.lookup f17 = some ⟨oc17, od17, .func (PySem.W.fnOf "_law_mates" "_law_mates" (defArgs s_mates) (defBody s_mates) (defScope s_mates) .none kV17 dc17 pm17 an17 cd17 ct17), sl17⟩) (c17 : PySem.W.codeIn K cd17 "_law_mates" = true) (k17 : PySem.W.keepIn K (.ref f17) = true)
    (a18 : PySem.W.nsIn K mainGlobals "_law_alike" = some (some (.ref f18))) (l18 : K.lookup f18 = some ⟨oc18, od18, .func (PySem.W.fnOf "_law_alike" "_law_alike" (defArgs s_alike) (defBody s_alike) (defScope s_alike) .none kV18 dc18 pm18 an18 cd18 ct18), sl18⟩) (c18 : PySem.W.codeIn K cd18 "_law_alike" = true) (k18 : PySem.W.keepIn K (.ref f18) = true)
    (a19 : PySem.W.nsIn K mainGlobals "_law_listed" = some (some (.ref f19))) (l19 : K.lookup f19 = some ⟨oc19, od19, .func (PySem.W.fnOf "_law_listed" "_law_listed" (defArgs s_listed) (defBody s_listed) (defScope s_listed) .none kV19 dc19 pm19 an19 cd19 ct19), sl19⟩) (c19 : PySem.W.codeIn K cd19 "_law_listed" = true) (k19 : PySem.W.keepIn K (.ref f19) = true)
    (a20 : PySem.W.nsIn K mainGlobals "law" = some (some (.ref f20))) (l20 : K.lookup f20 = some ⟨oc20, od20, .func (PySem.W.fnOf "law" "law" (defArgs s_law) (defBody s_law) (defScope s_law) .none kV20 dc20 pm20 an20 cd20 ct20), sl20⟩) (c20 : PySem.W.codeIn K cd20 "law" = true) (k20 : PySem.W.keepIn K (.ref f20) = true)
    (z_len : PySem.W.nsIn K mainGlobals "len" = some none) (z_range : PySem.W.nsIn K mainGlobals "range" = some none) (z_isinstance : PySem.W.nsIn K mainGlobals "isinstance" = some none) (z_int : PySem.W.nsIn K mainGlobals "int" = some none) (z_bool : PySem.W.nsIn K mainGlobals "bool" = some none) (z_tuple : PySem.W.nsIn K mainGlobals "tuple" = some none) (z_list : PySem.W.nsIn K mainGlobals "list" = some none) (z_zip : PySem.W.nsIn K mainGlobals "zip" = some none) (z_max : PySem.W.nsIn K mainGlobals "max" = some none) (z_sorted : PySem.W.nsIn K mainGlobals "sorted" = some none) (z_reversed : PySem.W.nsIn K mainGlobals "reversed" = some none) (z_any : PySem.W.nsIn K mainGlobals "any" = some none) (z_enumerate : PySem.W.nsIn K mainGlobals "enumerate" = some none) :
    ∃ fd : FuncData, (∀ (s : Shared) (v : Value), BindsTo s fd ⟨[v], []⟩ [("_law_script", v)]) ∧ ∀ base : Heap, K.In base → base.Ns mainGlobals mg → FnOk l.prog w K mg base CX0 6 fa fd ["_law_script"] (spLaw K) := by
  have e := hfa.symm.trans (PySem.W.mg_of X G a20)
  cases e
  have m_len := PySem.W.mg_none_of X G z_len
  have m_range := PySem.W.mg_none_of X G z_range
  have m_isinstance := PySem.W.mg_none_of X G z_isinstance
  have m_int := PySem.W.mg_none_of X G z_int
  have m_bool := PySem.W.mg_none_of X G z_bool
  have m_tuple := PySem.W.mg_none_of X G z_tuple
  have m_list := PySem.W.mg_none_of X G z_list
  have m_zip := PySem.W.mg_none_of X G z_zip
  have m_max := PySem.W.mg_none_of X G z_max
  have m_sorted := PySem.W.mg_none_of X G z_sorted
  have m_reversed := PySem.W.mg_none_of X G z_reversed
  have m_any := PySem.W.mg_none_of X G z_any
  have m_enumerate := PySem.W.mg_none_of X G z_enumerate
  have F0 := fun_mk (st := s_disturbs) l0 c0 k0
  have b0 := F0.binds (ps := ["one", "other"]) fun _ _ _ _ _ _ us hl => match us, hl with | [_, _], _ => rfl
  have F1 := fun_mk (st := s_clash) l1 c1 k1
  have b1 := F1.binds (ps := ["one", "other"]) fun _ _ _ _ _ _ us hl => match us, hl with | [_, _], _ => rfl
  have F2 := fun_mk (st := s_behind) l2 c2 k2
  have b2 := F2.binds (ps := ["ahead", "told", "deed"]) fun _ _ _ _ _ _ us hl => match us, hl with | [_, _, _], _ => rfl
  have F3 := fun_mk (st := s_heights) l3 c3 k3
  have b3 := F3.binds (ps := ["diary"]) fun _ _ _ _ _ _ us hl => match us, hl with | [_], _ => rfl
  have F4 := fun_mk (st := s_laid) l4 c4 k4
  have b4 := F4.binds (ps := ["diary", "told"]) fun _ _ _ _ _ _ us hl => match us, hl with | [_, _], _ => rfl
  have F5 := fun_mk (st := s_layers) l5 c5 k5
  have b5 := F5.binds (ps := ["diary"]) fun _ _ _ _ _ _ us hl => match us, hl with | [_], _ => rfl
  have F6 := fun_mk (st := s_some) l6 c6 k6
  have b6 := F6.binds (ps := ["between", "deed"]) fun _ _ _ _ _ _ us hl => match us, hl with | [_, _], _ => rfl
  have F7 := fun_mk (st := s_way) l7 c7 k7
  have b7 := F7.binds (ps := ["one", "other"]) fun _ _ _ _ _ _ us hl => match us, hl with | [_, _], _ => rfl
  have F8 := fun_mk (st := s_cell) l8 c8 k8
  have b8 := F8.binds (ps := ["_law_script", "_law_k"]) fun _ _ _ _ _ _ us hl => match us, hl with | [_, _], _ => rfl
  have F9 := fun_mk (st := s_whole) l9 c9 k9
  have b9 := F9.binds (ps := ["_law_found"]) fun _ _ _ _ _ _ us hl => match us, hl with | [_], _ => rfl
  have F10 := fun_mk (st := s_power) l10 c10 k10
  have b10 := F10.binds (ps := ["_law_k"]) fun _ _ _ _ _ _ us hl => match us, hl with | [_], _ => rfl
  have F11 := fun_mk (st := s_wide) l11 c11 k11
  have b11 := F11.binds (ps := ["_law_cell", "_law_factor"]) fun _ _ _ _ _ _ us hl => match us, hl with | [_, _], _ => rfl
  have F12 := fun_mk (st := s_deed) l12 c12 k12
  have b12 := F12.binds (ps := ["_law_cell", "_law_lift"]) fun _ _ _ _ _ _ us hl => match us, hl with | [_, _], _ => rfl
  have F13 := fun_mk (st := s_lclash) l13 c13 k13
  have b13 := F13.binds (ps := ["_law_one", "_law_other"]) fun _ _ _ _ _ _ us hl => match us, hl with | [_, _], _ => rfl
  have F14 := fun_mk (st := s_passed) l14 c14 k14
  have b14 := F14.binds (ps := ["_law_rows", "_law_cells"]) fun _ _ _ _ _ _ us hl => match us, hl with | [_, _], _ => rfl
  have F15 := fun_mk (st := s_exch) l15 c15 k15
  have b15 := F15.binds (ps := ["_law_row", "_law_which", "_law_new"]) fun _ _ _ _ _ _ us hl => match us, hl with | [_, _, _], _ => rfl
  have F16 := fun_mk (st := s_changed) l16 c16 k16
  have b16 := F16.binds (ps := ["_law_rows", "_law_kind", "_law_cell", "_law_lift"]) fun _ _ _ _ _ _ us hl => match us, hl with | [_, _, _, _], _ => rfl
  have F17 := fun_mk (st := s_mates) l17 c17 k17
  have b17 := F17.binds (ps := ["_law_one", "_law_other"]) fun _ _ _ _ _ _ us hl => match us, hl with | [_, _], _ => rfl
  have F18 := fun_mk (st := s_alike) l18 c18 k18
  have b18 := F18.binds (ps := ["_law_one", "_law_other"]) fun _ _ _ _ _ _ us hl => match us, hl with | [_, _], _ => rfl
  have F19 := fun_mk (st := s_listed) l19 c19 k19
  have b19 := F19.binds (ps := ["_law_told"]) fun _ _ _ _ _ _ us hl => match us, hl with | [_], _ => rfl
  have F20 := fun_mk (st := s_law) l20 c20 k20
  refine ⟨PySem.W.fnOf "law" "law" (defArgs s_law) (defBody s_law) (defScope s_law) .none kV20 dc20 pm20 an20 cd20 ct20, fun s v => .of_eq rfl, fun base XB _ => ?_⟩
  have D0 := Df.mk' (P := l.prog) (w := w) (mg := mg) (base := base) (x := "disturbs") (ok_disturbs F0) b0 k0 (PySem.W.mg_of X G a0)
  have D1 := Df.mk' (P := l.prog) (w := w) (mg := mg) (base := base) (x := "clash") (ok_clash F1 D0) b1 k1 (PySem.W.mg_of X G a1)
  have D2 := Df.mk' (P := l.prog) (w := w) (mg := mg) (base := base) (x := "height_behind") (ok_behind F2 D1 m_max m_zip) b2 k2 (PySem.W.mg_of X G a2)
  have D3 := Df.mk' (P := l.prog) (w := w) (mg := mg) (base := base) (x := "heights") (ok_heights F3 D2) b3 k3 (PySem.W.mg_of X G a3)
  have D4 := Df.mk' (P := l.prog) (w := w) (mg := mg) (base := base) (x := "laid") (ok_laid F4 m_range m_max m_zip m_sorted) b4 k4 (PySem.W.mg_of X G a4)
  have D5 := Df.mk' (P := l.prog) (w := w) (mg := mg) (base := base) (x := "layers") (ok_layers F5 D3 D4) b5 k5 (PySem.W.mg_of X G a5)
  have D6 := Df.mk' (P := l.prog) (w := w) (mg := mg) (base := base) (x := "some_clash") (ok_some F6 D1 m_any) b6 k6 (PySem.W.mg_of X G a6)
  have D7 := Df.mk' (P := l.prog) (w := w) (mg := mg) (base := base) (x := "way") (ok_way F7 D6 m_list m_enumerate m_range m_len) b7 k7 (PySem.W.mg_of X G a7)
  have D8 := Df.mk' (P := l.prog) (w := w) (mg := mg) (base := base) (x := "_law_cell_at") (ok_cell F8 m_len) b8 k8 (PySem.W.mg_of X G a8)
  have D9 := Df.mk' (P := l.prog) (w := w) (mg := mg) (base := base) (x := "_law_whole") (ok_whole F9 m_isinstance m_int m_bool) b9 k9 (PySem.W.mg_of X G a9)
  have D10 := Df.mk' (P := l.prog) (w := w) (mg := mg) (base := base) (x := "_law_power") (ok_power F10 m_range) b10 k10 (PySem.W.mg_of X G a10)
  have D11 := Df.mk' (P := l.prog) (w := w) (mg := mg) (base := base) (x := "_law_wide") (ok_wide F11) b11 k11 (PySem.W.mg_of X G a11)
  have D12 := Df.mk' (P := l.prog) (w := w) (mg := mg) (base := base) (x := "_law_deed") (ok_deed F12 D11) b12 k12 (PySem.W.mg_of X G a12)
  have D13 := Df.mk' (P := l.prog) (w := w) (mg := mg) (base := base) (x := "_law_clash") (ok_lclash F13) b13 k13 (PySem.W.mg_of X G a13)
  have D14 := Df.mk' (P := l.prog) (w := w) (mg := mg) (base := base) (x := "_law_passed_on") (ok_passed F14 D13 m_list m_range m_len m_max) b14 k14 (PySem.W.mg_of X G a14)
  have D15 := Df.mk' (P := l.prog) (w := w) (mg := mg) (base := base) (x := "_law_exchanged") (ok_exch F15) b15 k15 (PySem.W.mg_of X G a15)
  have D16 := Df.mk' (P := l.prog) (w := w) (mg := mg) (base := base) (x := "_law_changed") (ok_changed F16 D12 D15 m_list m_reversed m_len) b16 k16 (PySem.W.mg_of X G a16)
  have D17 := Df.mk' (P := l.prog) (w := w) (mg := mg) (base := base) (x := "_law_mates") (ok_mates F17 m_range m_len) b17 k17 (PySem.W.mg_of X G a17)
  have D18 := Df.mk' (P := l.prog) (w := w) (mg := mg) (base := base) (x := "_law_alike") (ok_alike F18 D17 D13 m_range m_len) b18 k18 (PySem.W.mg_of X G a18)
  have D19 := Df.mk' (P := l.prog) (w := w) (mg := mg) (base := base) (x := "_law_listed") (ok_listed F19 m_isinstance m_list m_tuple) b19 k19 (PySem.W.mg_of X G a19)
  exact ok_law F20 D8 D9 D10 D12 D14 D16 D5 D19 D18 D7 D3 m_list m_len m_range m_isinstance
theorem walk {l : PySem.W.OpenLaw} {q : Program} {loose : List Str} {XP : (Str → Option Value) → Heap → Prop} {YP : World → Heap → Prop} {d : DefRec} {K : Params → PySem.W.Frag} (hn : l.most = some 63) (hdf : d.params.defaults = [])
    (hY : ∀ (w : World) (h : Heap), YP w h → (K w.params).In h)
    (F : ∀ (w : World) (mg : Str → Option Value) (fa : Addr) (h : Heap), (K w.params).In h → h.Ns mainGlobals mg → mg d.name = some (.ref fa) →
      ∃ fd : FuncData, (∀ (s : Shared) (u : Value), BindsTo s fd ⟨[u], []⟩ [("_law_script", u)]) ∧ ∀ base : Heap, (K w.params).In base → base.Ns mainGlobals mg → FnOk l.prog w (K w.params) mg base CX0 6 fa fd ["_law_script"] (spLaw (K w.params))) :
    PySem.W.WalkO q loose XP YP l.row.toRowW d [] (fun f vs => PySem.call f vs) :=
  L2.walk_of (n := 63) (k := 6) (x := "_law_script") (CX := fun _ => CX0) (sp := fun w => spLaw (K w.params)) hn (by decide) hdf ⟨rfl, by decide, by decide⟩ hY F (fun _ _ a ns hl _ hS => ⟨a, ns, rfl, hS, hl, fun _ => rfl⟩) fun _ _ _ _ _ z => z
end K09
open PySem PySem.W PyProof.Rows
set_option maxRecDepth 100000 in
set_option maxHeartbeats 0 in
theorem PySem.Challenge.cw_passby_k09_whole_layers_tell_holds : PySem.Challenge.rw_passby_k09_whole_layers_tell.Holds := by
  w_on; o_law; k_head; (case hw => w_witness2)
  k_fill
  refine K09.walk (l := PySem.Challenge.rw_passby_k09_whole_layers_tell) rfl rfl (fun w h Y => PySem.W.kIn_of Y) ?F
  case F =>
    intro w mg fa h KX G hmg
    refine' K09.all_mk KX G hmg ?a0 ?l0 ?c0 ?k0 ?a1 ?l1 ?c1 ?k1 ?a2 ?l2 ?c2 ?k2 ?a3 ?l3 ?c3 ?k3 ?a4 ?l4 ?c4 ?k4 ?a5 ?l5 ?c5 ?k5 ?a6 ?l6 ?c6 ?k6 ?a7 ?l7 ?c7 ?k7 ?a8 ?l8 ?c8 ?k8 ?a9 ?l9 ?c9 ?k9 ?a10 ?l10 ?c10 ?k10 ?a11 ?l11 ?c11 ?k11 ?a12 ?l12 ?c12 ?k12 ?a13 ?l13 ?c13 ?k13 ?a14 ?l14 ?c14 ?k14 ?a15 ?l15 ?c15 ?k15 ?a16 ?l16 ?c16 ?k16 ?a17 ?l17 ?c17 ?k17 ?a18 ?l18 ?c18 ?k18 ?a19 ?l19 ?c19 ?k19 ?a20 ?l20 ?c20 ?k20     ?z_len ?z_range ?z_isinstance ?z_int ?z_bool ?z_tuple ?z_list ?z_zip ?z_max ?z_sorted ?z_reversed ?z_any ?z_enumerate
    (case a0 => k_is); (case l0 => k_is); (case c0 => k_is); (case k0 => k_is)
    (case a1 => k_is); (case l1 => k_is); (case c1 => k_is); (case k1 => k_is)
    (case a2 => k_is); (case l2 => k_is); (case c2 => k_is); (case k2 => k_is)
    (case a3 => k_is); (case l3 => k_is); (case c3 => k_is); (case k3 => k_is)
    (case a4 => k_is); (case l4 => k_is); (case c4 => k_is); (case k4 => k_is)
    (case a5 => k_is); (case l5 => k_is); (case c5 => k_is); (case k5 => k_is)
    (case a6 => k_is); (case l6 => k_is); (case c6 => k_is); (case k6 => k_is)
    (case a7 => k_is); (case l7 => k_is); (case c7 => k_is); (case k7 => k_is)
    (case a8 => k_is); (case l8 => k_is); (case c8 => k_is); (case k8 => k_is)
    (case a9 => k_is); (case l9 => k_is); (case c9 => k_is); (case k9 => k_is)
    (case a10 => k_is); (case l10 => k_is); (case c10 => k_is); (case k10 => k_is)
    (case a11 => k_is); (case l11 => k_is); (case c11 => k_is); (case k11 => k_is)
    (case a12 => k_is); (case l12 => k_is); (case c12 => k_is); (case k12 => k_is)
    (case a13 => k_is); (case l13 => k_is); (case c13 => k_is); (case k13 => k_is)
    (case a14 => k_is); (case l14 => k_is); (case c14 => k_is); (case k14 => k_is)
    (case a15 => k_is); (case l15 => k_is); (case c15 => k_is); (case k15 => k_is)
    (case a16 => k_is); (case l16 => k_is); (case c16 => k_is); (case k16 => k_is)
    (case a17 => k_is); (case l17 => k_is); (case c17 => k_is); (case k17 => k_is)
    (case a18 => k_is); (case l18 => k_is); (case c18 => k_is); (case k18 => k_is)
    (case a19 => k_is); (case l19 => k_is); (case c19 => k_is); (case k19 => k_is)
    (case a20 => k_is); (case l20 => k_is); (case c20 => k_is); (case k20 => k_is)
    (case z_len => k_is)
    (case z_range => k_is)
    (case z_isinstance => k_is)
    (case z_int => k_is)
    (case z_bool => k_is)
    (case z_tuple => k_is)
    (case z_list => k_is)
    (case z_zip => k_is)
    (case z_max => k_is)
    (case z_sorted => k_is)
    (case z_reversed => k_is)
    (case z_any => k_is)
    (case z_enumerate => k_is)
#print axioms PySem.Challenge.cw_passby_k09_whole_layers_tell_holds

