import PyProof.Rows.All
import Wide.All
import OpenK.AllK
import Wide.FinOn
import Lean
import PyProof.EqAt
import PyProof.EqKinds
import PyProof.TupleCall
import PySem.Challenge.RW_passby_k08_whole_way_or_reason
set_option maxHeartbeats 4000000
set_option Elab.async false
set_option linter.all false
set_option maxRecDepth 100000
set_option Elab.async false
set_option linter.all false
set_option maxRecDepth 100000
/-! THE HAND LAYER, for ints, bools, texts, own classes, LISTS and tuples (index, slices, in, append, pop ..), calls, loops. Paste it whole ahead of your own text; what your proof does not reach may be deleted. -/
namespace L2
open PySem PySem.Spec PyProof.Rows

/-- a key: an int or a str -/
abbrev Key := Sum Int Str
def keyIs : Key → Value → Bool
  | .inl k, v => Value.isInt k v
  | .inr x, v => Value.isStrOf x v
def keyH (w : World) : Key → Int
  | .inl k => hashInt k
  | .inr x => hashStr w x
theorem keyIs_shape : ∀ {k : Key} {v : Value}, keyIs k v = true → (∃ i t, k = Sum.inl i ∧ v = Value.int i t) ∨ (∃ x t, k = Sum.inr x ∧ v = Value.str x t)
  | .inl i, v, h => by
    obtain ⟨t, e⟩ := Value.isInt_shape (k := i) (v := v) h
    exact .inl ⟨i, t, rfl, e⟩
  | .inr x, v, h => by
    obtain ⟨t, e⟩ := Value.isStrOf_shape (x := x) (v := v) h
    exact .inr ⟨x, t, rfl, e⟩
theorem keyIs_int (i : Int) (t : Tok) : keyIs (.inl i) (.int i t) = true := by simp [keyIs, Value.isInt]
theorem keyIs_str (x : Str) (t : Tok) : keyIs (.inr x) (.str x t) = true := by simp [keyIs, Value.isStrOf]
theorem key_ll (a b : Int) : decide ((Sum.inl a : Key) = Sum.inl b) = (a == b) := by
  by_cases e : a = b
  · subst e; simp
  · have h : ¬ (Sum.inl a : Key) = Sum.inl b := fun q => e (Sum.inl.inj q)
    rw [decide_eq_false h]
    exact (beq_eq_false_iff_ne.mpr e).symm
theorem key_rr (a b : Str) : decide ((Sum.inr a : Key) = Sum.inr b) = decide (a = b) := by
  by_cases e : a = b
  · subst e; simp
  · have h : ¬ (Sum.inr a : Key) = Sum.inr b := fun q => e (Sum.inr.inj q)
    rw [decide_eq_false h, decide_eq_false e]
theorem key_lr (a : Int) (b : Str) : decide ((Sum.inl a : Key) = Sum.inr b) = false := decide_eq_false (fun q => nomatch q)
theorem key_rl (a : Str) (b : Int) : decide ((Sum.inr a : Key) = Sum.inl b) = false := decide_eq_false (fun q => nomatch q)

def mixKind (prog : Program) (w : World) : PySem.KeyKind prog w Key where
  is := keyIs
  hash := keyH w
  inj := fun v a b ha hb => by
    rcases keyIs_shape ha with ⟨i, t, rfl, rfl⟩ | ⟨x, t, rfl, rfl⟩
    · rcases keyIs_shape hb with ⟨j, u, rfl, e⟩ | ⟨y, u, rfl, e⟩
      · injection e with e1 _; rw [e1]
      · exact nomatch e
    · rcases keyIs_shape hb with ⟨j, u, rfl, e⟩ | ⟨y, u, rfl, e⟩
      · exact nomatch e
      · injection e with e1 _; rw [e1]
  byValue := fun k v h => by
    rcases keyIs_shape h with ⟨i, t, rfl, rfl⟩ | ⟨x, t, rfl, rfl⟩ <;> rfl
  pyHash := fun hv h => by
    rcases keyIs_shape hv with ⟨i, t, rfl, rfl⟩ | ⟨x, t, rfl, rfl⟩
    · exact wpAny_pyHash_int h
    · exact wpAny_pyHash_str h
  eqBool := fun hu hv h => by
    rcases keyIs_shape hu with ⟨i, t, rfl, rfl⟩ | ⟨x, t, rfl, rfl⟩
    · rcases keyIs_shape hv with ⟨j, u, rfl, rfl⟩ | ⟨y, u, rfl, rfl⟩
      · rw [key_ll] at h; exact wpAny_eqBool_int h
      · rw [key_lr] at h; exact SeqAt.EqAt.int_str i t y u _ _ _ _ h
    · rcases keyIs_shape hv with ⟨j, u, rfl, rfl⟩ | ⟨y, u, rfl, rfl⟩
      · rw [key_rl] at h; exact SeqAt.EqAt.str_int x t j u _ _ _ _ h
      · rw [key_rr] at h; exact wpAny_eqBool_str h
  «strs» := fun k x t v h => by
    rcases keyIs_shape h with ⟨i, u, rfl, e⟩ | ⟨y, u, rfl, e⟩
    · exact nomatch e
    · injection e with e1 _
      subst e1
      cases v <;> rfl

theorem mixKind_int (prog : Program) (w : World) (i : Int) (t : Tok) : (mixKind prog w).is (.inl i) (.int i t) = true := keyIs_int i t
theorem mixKind_str (prog : Program) (w : World) (x : Str) (t : Tok) : (mixKind prog w).is (.inr x) (.str x t) = true := keyIs_str x t
end L2

namespace L2
open PySem PySem.Spec PyProof.Rows

/-- a value, without the heap -/
inductive V where
  | non | bl (b : Bool) | int (i : Int) | str (x : Str) | byt (b : Array UInt8) | flt (b : UInt64) | ref (a : Addr) | ty (n : String)
  deriving DecidableEq

def RelV : V → Value → Prop
  | .non, u => u = Value.none
  | .bl b, u => u = Value.bool b
  | .int i, u => ∃ t, u = Value.int i t
  | .str x, u => ∃ t, u = Value.str x t
  | .byt b, u => ∃ t, u = Value.bytes b t
  | .flt b, u => ∃ t, u = Value.float b t
  | .ref a, u => u = Value.ref a
  | .ty n, u => u = Value.type n

abbrev Vals : List V → List Value → Prop := Paired RelV
theorem Vals.length {xs : List V} {us : List Value} (r : Vals xs us) : xs.length = us.length := Paired.length r
theorem Vals.get : ∀ {xs : List V} {us : List Value} {i : Nat} {x : V}, Vals xs us → xs[i]? = some x → ∃ u, us[i]? = some u ∧ RelV x u
  | _, _, _, _, .nil, e => by simp at e
  | _, _, 0, _, .cons r _, e => by simp at e; subst e; exact ⟨_, rfl, r⟩
  | _, _, i + 1, x, .cons _ t, e => by
    obtain ⟨u, h1, h2⟩ := Vals.get (i := i) (x := x) t (by simpa using e)
    exact ⟨u, by simpa using h1, h2⟩
theorem Vals.append : ∀ {xs ys : List V} {us ws : List Value}, Vals xs us → Vals ys ws → Vals (xs ++ ys) (us ++ ws)
  | _, _, _, _, .nil, s => s
  | _, _, _, _, .cons r t, s => .cons r (Vals.append t s)
theorem Vals.take : ∀ {xs : List V} {us : List Value} (n : Nat), Vals xs us → Vals (xs.take n) (us.take n)
  | _, _, 0, _ => .nil
  | _, _, _ + 1, .nil => .nil
  | _, _, n + 1, .cons r t => .cons r (Vals.take n t)
theorem Vals.drop : ∀ {xs : List V} {us : List Value} (n : Nat), Vals xs us → Vals (xs.drop n) (us.drop n)
  | _, _, 0, r => r
  | _, _, _ + 1, .nil => .nil
  | _, _, n + 1, .cons _ t => Vals.drop n t

def RelO : Option V → Option Value → Prop
  | some v, some u => RelV v u
  | none, none => True
  | _, _ => False
def KV {κ : Type} : List (κ × V) → List (κ × Value) → Prop := Paired fun (p : κ × V) (q : κ × Value) => p.1 = q.1 ∧ RelV p.2 q.2

/-- a key of a dict (00_mix): an int or a text -/
def kV : Key → V
  | .inl i => .int i
  | .inr x => .str x

/-- what stands at a tracked address -/
inductive HO where
  /-- a list -/
  | lst (xs : List V)
  /-- a tuple (never changes) -/
  | tup (xs : List V)
  /-- a dict whose keys are ints and texts; one whose keys are tuples of ints and texts (the empty one is both) -/
  | dK (kvs : List (Key × V)) | dT (kvs : List (List Key × V))
  /-- a set of ints: its members, its size -/
  | set (S : Int → Bool) (n : Nat)
  /-- an instance of the class at C, its dict at dx, its attributes -/
  | ins (C dx : Addr) (fs : List (Str × V))
  /-- the dict of the instance at x -/
  | own (x : Addr)
  /-- the dict of an exception -/
  | xd (fs : List (Str × V))
  /-- a bound method, f of x -/
  | met (f x : Addr)
  /-- a range object lo, lo + 1, .. below hi -/
  | rng (lo hi : Int)
  /-- a thing that is known to the object (the script; a dict while a loop walks it): read, never written while it is so -/
  | frz (o : Obj) (u : HO)
  /-- a code object's table -/
  | tbl (ps : Array Value)
  /-- any other thing, by what is true of its one object (a def of one's own: SetO a S n := HO.ext fun h => ..) -/
  | ext (φ : Heap → Prop)

abbrev Hp := Addr → Option HO
def upd (H : Hp) (a : Addr) (o : HO) : Hp := fun b => if b = a then some o else H b
theorem upd_same {H : Hp} {a : Addr} {o : HO} : upd H a o a = some o := by unfold upd; rw [if_pos rfl]
theorem upd_ne {H : Hp} {a b : Addr} {o : HO} (h : b ≠ a) : upd H a o b = H b := by unfold upd; rw [if_neg h]
theorem upd_upd {H : Hp} {a : Addr} {o u : HO} : upd (upd H a o) a u = upd H a u := by
  funext b; unfold upd; split <;> rfl
/-- two objects of different content stand apart -/
theorem ne_of {H : Hp} {a b : Addr} {o u : HO} (h : H a = some o) (h' : H b = some u) (d : o ≠ u) : a ≠ b := by
  intro e; subst e; rw [h] at h'; exact d (Option.some.inj h')
theorem ne_of_none {H : Hp} {a b : Addr} {o : HO} (h : H a = some o) (h' : H b = none) : a ≠ b := by
  intro e; subst e; rw [h] at h'; cases h'

section
variable (P : Program) (w : World)
def ObjOk (H : Hp) (h : Heap) (a : Addr) : HO → Prop
  | .lst xs => xs.length ≤ sizeLine ∧ ∃ (its : List Value) (n : Nat), Vals xs its ∧ h.get? a = some { cls := .type "list", data := .seq its.toArray n }
  | .tup xs => xs.length ≤ sizeLine ∧ ∃ its : List Value, Vals xs its ∧ IsTup h a its.toArray
  | .dK kvs => kvs.length ≤ sizeLine ∧ (a == sysModules) = false ∧ ∃ vs, KV kvs vs ∧ h.DictOf (mixKind P w) a vs
  | .dT kvs => kvs.length ≤ sizeLine ∧ (a == sysModules) = false ∧ ∃ xs : List (List Key × Addr × Value),
      Paired (fun (p : List Key × V) (q : List Key × Addr × Value) => p.1 = q.1 ∧ H q.2.1 = some (.tup (p.1.map kV)) ∧ RelV p.2 q.2.2) kvs xs ∧
      ∃ o es ep, h.get? a = some o ∧ o.ExactDict ∧ o.data = .dict es ep ∧ es.toList = xs.map (entryOfKey (tupleKind (mixKind P w))) ∧ (xs.map (·.1)).Nodup
  | .set S n => h.SetOf (intKind P w) a S n
  | .ins C dx fs => H dx = some (.own a) ∧ fs.length ≤ 1000 ∧ dx ≠ a ∧ h.get? a = some (PySem.W.instObj C dx) ∧
      ∃ mA, h.Ns1 dx mA ∧ (∀ f, RelO (fs.lookup f) (mA f)) ∧ PySem.Within mA (fs.map (·.1))
  | .own _ => ∃ o, h.get? a = some o
  | .xd fs => ∃ mA, h.Ns1 a mA ∧ ∀ f, RelO (fs.lookup f) (mA f)
  | .rng lo hi => ∃ t u v, h.get? a = some { cls := .type "range", data := .fields #[.int lo t, .int hi u, .int 1 v] }
  | .frz o u => h.get? a = some o ∧ ObjOk H h a u
  | .tbl ps => h.get? a = some { cls := .none, data := .fields ps }
  | .met f x => h.get? a = some (PySem.W.methodObj (.ref f) (.ref x))
  | .ext φ => φ h ∧ (∃ o, h.get? a = some o) ∧ ∀ h1 h2 : Heap, φ h1 → (∀ o, h1.get? a = some o → h2.get? a = some o) → φ h2
/-- the abstract heap is held -/
def HOk (H : Hp) (h : Heap) : Prop := ∀ a o, H a = some o → ObjOk P w H h a o
end

section
variable {P : Program} {w : World} {H H' : Hp} {h h' : Heap} {a : Addr} {o : HO}
theorem ObjOk.lt (x : ObjOk P w H h a o) : a < h.objs.size := by
  cases o with
  | lst xs => obtain ⟨_, _, _, _, e⟩ := x; exact Heap.lt_size e
  | tup xs => obtain ⟨_, _, _, p⟩ := x; exact p.lt
  | dK kvs => obtain ⟨_, _, _, _, o, _, _, e, _⟩ := x; exact Heap.lt_size e
  | dT kvs => obtain ⟨_, _, _, _, o, _, _, e, _⟩ := x; exact Heap.lt_size e
  | set S n => obtain ⟨o, _, _, _, e, _⟩ := x; exact Heap.lt_size e
  | ins C dx fs => obtain ⟨_, _, _, e, _⟩ := x; exact Heap.lt_size e
  | own y => obtain ⟨_, e⟩ := x; exact Heap.lt_size e
  | xd fs => obtain ⟨_, ⟨_, _, _, e, _⟩, _⟩ := x; exact Heap.lt_size e
  | rng lo hi => obtain ⟨_, _, _, e⟩ := x; exact Heap.lt_size e
  | frz ob u => obtain ⟨e, _⟩ := x; exact Heap.lt_size e
  | tbl ps => exact Heap.lt_size (show h.get? a = some _ from x)
  | met f y => exact Heap.lt_size (show h.get? a = some _ from x)
  | ext φ => obtain ⟨_, ⟨_, e⟩, _⟩ := x; exact Heap.lt_size e
theorem Paired.mapP {α β : Type} {F G : α → β → Prop} : ∀ {l₁ : List α} {l₂ : List β}, Paired F l₁ l₂ → (∀ a b, F a b → G a b) → Paired G l₁ l₂
  | _, _, .nil, _ => .nil
  | _, _, .cons r t, f => .cons (f _ _ r) (Paired.mapP t f)
/-- what an object's description leans on: its own object, its own dict, the tuples -/
theorem ObjOk.stay (x : ObjOk P w H h a o) (k : ∀ b u, (b = a ∨ H b = some (.own a)) → h.get? b = some u → h'.get? b = some u)
    (ho : ∀ b, H b = some (.own a) → H' b = some (.own a)) (ht : ∀ b xs, H b = some (.tup xs) → H' b = some (.tup xs)) : ObjOk P w H' h' a o := by
  induction o with
  | lst xs => obtain ⟨z, its, n, r, e⟩ := x; exact ⟨z, its, n, r, k _ _ (.inl rfl) e⟩
  | tup xs => obtain ⟨z, its, r, ob, e, c⟩ := x; exact ⟨z, its, r, ob, k _ _ (.inl rfl) e, c⟩
  | dK kvs => obtain ⟨z, y, vs, r, ob, es, ep, e, c⟩ := x; exact ⟨z, y, vs, r, ob, es, ep, k _ _ (.inl rfl) e, c⟩
  | dT kvs =>
    obtain ⟨z, y, xs, r, ob, es, ep, e, c⟩ := x
    exact ⟨z, y, xs, Paired.mapP r fun p q z => ⟨z.1, ht _ _ z.2.1, z.2.2⟩, ob, es, ep, k _ _ (.inl rfl) e, c⟩
  | set S n => obtain ⟨ob, es, ep, t, e, c⟩ := x; exact ⟨ob, es, ep, t, k _ _ (.inl rfl) e, c⟩
  | ins C dx fs =>
    obtain ⟨d, z, ne, e, mA, ⟨od, es, ep, e2, c⟩, r⟩ := x
    exact ⟨ho _ d, z, ne, k _ _ (.inl rfl) e, mA, ⟨od, es, ep, k _ _ (.inr d) e2, c⟩, r⟩
  | own y => obtain ⟨ob, e⟩ := x; exact ⟨ob, k _ _ (.inl rfl) e⟩
  | xd fs => obtain ⟨mA, ⟨od, es, ep, e, c⟩, r⟩ := x; exact ⟨mA, ⟨od, es, ep, k _ _ (.inl rfl) e, c⟩, r⟩
  | rng lo hi => obtain ⟨t, u, v, e⟩ := x; exact ⟨t, u, v, k _ _ (.inl rfl) e⟩
  | frz ob u ih => obtain ⟨e, q⟩ := x; exact ⟨k _ _ (.inl rfl) e, ih q⟩
  | tbl ps =>
    have e : h.get? a = some { cls := .none, data := .fields ps } := x
    show h'.get? a = some { cls := .none, data := .fields ps }
    exact k a _ (.inl rfl) e
  | met f y =>
    have e : h.get? a = some (PySem.W.methodObj (.ref f) (.ref y)) := x
    show h'.get? a = some (PySem.W.methodObj (.ref f) (.ref y))
    exact k a _ (.inl rfl) e
  | ext φ => obtain ⟨p, ⟨o, e⟩, st⟩ := x; exact ⟨st _ _ p fun o q => k _ _ (.inl rfl) q, ⟨o, k _ _ (.inl rfl) e⟩, st⟩
theorem HOk.lt (x : HOk P w H h) (e : H a = some o) : a < h.objs.size := (x a o e).lt
theorem HOk.fresh (x : HOk P w H h) (e : h.objs.size ≤ a) : H a = none := by
  cases q : H a with
  | none => rfl
  | some u => exact absurd (Nat.lt_of_lt_of_le (x.lt q) e) (Nat.lt_irrefl _)
/-- every object of the heap is kept -/
theorem HOk.kept (x : HOk P w H h) (k : ∀ b u, h.get? b = some u → h'.get? b = some u) : HOk P w H h' := fun a o e =>
  (x a o e).stay (fun b u _ q => k b u q) (fun _ q => q) fun _ _ q => q
/-- a new object is laid and tracked -/
theorem HOk.laid (x : HOk P w H h) (k : ∀ b u, h.get? b = some u → h'.get? b = some u) (hp : h.objs.size ≤ a) (new : ObjOk P w (upd H a o) h' a o) : HOk P w (upd H a o) h' := fun b u e => by
  have hn := x.fresh hp
  by_cases hb : b = a
  · subst hb; rw [upd_same] at e; cases e; exact new
  · rw [upd_ne hb] at e
    exact (x b u e).stay (fun c v _ q => k c v q) (fun c q => by rw [upd_ne (ne_of_none q hn)]; exact q) fun c xs q => by rw [upd_ne (ne_of_none q hn)]; exact q
end

/-- what may be read as u: it is u, or a known u -/
def Rd (H : Hp) (a : Addr) (u : HO) : Prop := H a = some u ∨ ∃ o, H a = some (.frz o u)
theorem Rd.ok {P : Program} {w : World} {H : Hp} {h : Heap} {a : Addr} {u : HO} (r : Rd H a u) (x : HOk P w H h) : ObjOk P w H h a u := by
  rcases r with r | ⟨o, r⟩
  · exact x a u r
  · obtain ⟨_, q⟩ := x a _ r
    exact q
/-- what may be written -/
def Mut : Option HO → Prop
  | some (.lst _) => True
  | some (.dK _) => True
  | some (.dT _) => True
  | some (.set _ _) => True
  | some (.ins _ _ _) => True
  | some (.ext _) => True
  | _ => False
section
variable {P : Program} {w : World} {H : Hp} {h h' : Heap} {x e : Addr} {o' : HO}
/-- the object at e is changed: x itself, or the dict of the instance x -/
theorem HOk.write (ok : HOk P w H h) (mu : Mut (H x)) (he : e = x ∨ H e = some (.own x)) (k : ∀ b u, b ≠ e → h.get? b = some u → h'.get? b = some u) (heo : ∃ u, h'.get? e = some u)
    (new : ObjOk P w (upd H x o') h' x o') : HOk P w (upd H x o') h' := fun b u q => by
  have nown : ∀ c y, H c = some (.own y) → c ≠ x := fun c y r z => by subst z; rw [r] at mu; exact mu
  have ntup : ∀ c xs, H c = some (.tup xs) → c ≠ x := fun c xs r z => by subst z; rw [r] at mu; exact mu
  by_cases hb : b = x
  · subst hb; rw [upd_same] at q; cases q; exact new
  · rw [upd_ne hb] at q
    by_cases hbe : b = e
    · have q' : H b = some (.own x) := by
        rcases he with z | z
        · exact absurd (hbe.trans z) hb
        · rw [hbe]; exact z
      rw [q] at q'; cases q'
      obtain ⟨v, hv⟩ := heo
      exact ⟨v, by rw [hbe]; exact hv⟩
    · refine (ok b u q).stay (fun c v hc r => k c v ?_ r) (fun c r => by rw [upd_ne (nown c b r)]; exact r) fun c xs r => by rw [upd_ne (ntup c xs r)]; exact r
      rcases hc with rfl | hc
      · exact hbe
      · rintro rfl
        rcases he with z | z
        · exact nown c b hc z
        · rw [hc] at z; cases z; exact hb rfl
end

/-! ### kept unless tracked; of the frames at fs (the callers') the slots may change (an exception that passes writes there); of the records at ex (iterators) nothing is said -/
structure Un (fs ex : List Addr) (H H' : Hp) (h h' : Heap) : Prop where
  keep : ∀ b o, h.get? b = some o → H b = none → b ∉ fs → b ∉ ex → h'.get? b = some o
  slot : ∀ b o, h.get? b = some o → H b = none → b ∈ fs → b ∉ ex → ∃ sl, h'.get? b = some { o with slots := sl }
  free : ∀ b o, h.get? b = some o → H b = none → b ∉ ex → H' b = none
  there : ∀ b o, h.get? b = some o → b ∉ ex → ∃ o', h'.get? b = some o'
  tups : ∀ b xs, H b = some (.tup xs) → H' b = some (.tup xs)
  frzs : ∀ b o u, H b = some (.frz o u) → H' b = some (.frz o u)
  tbls : ∀ b ps, H b = some (.tbl ps) → ∃ more, H' b = some (.tbl (ps ++ more))
section
variable {fs fs' ex ex' : List Addr} {H H1 H2 : Hp} {h h1 h2 h' : Heap} {a x e : Addr} {o : HO}
theorem Un.any (u : Un fs ex H H1 h h1) {b : Addr} {ob : Obj} (q : h.get? b = some ob) (n : H b = none) (hx : b ∉ ex) : ∃ sl, h1.get? b = some { ob with slots := sl } := by
  by_cases hb : b ∈ fs
  · exact u.slot b ob q n hb hx
  · exact ⟨ob.slots, u.keep b ob q n hb hx⟩
theorem Un.kept (k : ∀ b u, h.get? b = some u → h'.get? b = some u) : Un fs ex H H h h' :=
  ⟨fun b ob q _ _ _ => k b ob q, fun b ob q _ _ _ => ⟨ob.slots, k b ob q⟩, fun _ _ _ n _ => n, fun b ob q _ => ⟨ob, k b ob q⟩, fun _ _ q => q, fun _ _ _ q => q, fun _ ps q => ⟨#[], by rw [q]; simp⟩⟩
theorem Un.refl : Un fs ex H H h h := Un.kept fun _ _ q => q
theorem Un.laid (k : ∀ b u, h.get? b = some u → h'.get? b = some u) (hp : h.objs.size ≤ a) (hn : H a = none) : Un fs ex H (upd H a o) h h' where
  keep := fun b u q _ _ _ => k b u q
  slot := fun b u q _ _ _ => ⟨u.slots, k b u q⟩
  free := fun b u q n _ => by rw [upd_ne (Nat.ne_of_lt (Nat.lt_of_lt_of_le (Heap.lt_size q) hp))]; exact n
  there := fun b u q _ => ⟨u, k b u q⟩
  tups := fun b xs q => by rw [upd_ne (ne_of_none q hn)]; exact q
  frzs := fun b u xs q => by rw [upd_ne (ne_of_none q hn)]; exact q
  tbls := fun b ps q => ⟨#[], by rw [upd_ne (ne_of_none q hn), q]; simp⟩
theorem Un.write (mu : Mut (H x)) (he : e = x ∨ H e = some (.own x)) (k : ∀ b u, b ≠ e → h.get? b = some u → h'.get? b = some u) (heo : ∃ u, h'.get? e = some u) : Un fs ex H (upd H x o) h h' := by
  have hx : ∀ b, H b = none → b ≠ x := fun b n z => by subst z; rw [n] at mu; exact mu
  have hb : ∀ b, H b = none → b ≠ e := fun b n z => by
    subst z
    rcases he with r | r
    · exact hx b n r
    · rw [n] at r; cases r
  have hm : ∀ b u, H b = some u → ¬ Mut (some u) → b ≠ x := fun b u q nm z => by subst z; rw [q] at mu; exact nm mu
  refine ⟨fun b u q n _ _ => k b u (hb b n) q, fun b u q n _ _ => ⟨u.slots, k b u (hb b n) q⟩, fun b u q n _ => by rw [upd_ne (hx b n)]; exact n, fun b u q _ => ?_,
    fun b xs q => by rw [upd_ne (hm b _ q fun z => z)]; exact q, fun b u xs q => by rw [upd_ne (hm b _ q fun z => z)]; exact q, fun b ps q => ⟨#[], by rw [upd_ne (hm b _ q fun z => z), q]; simp⟩⟩
  by_cases hbe : b = e
  · subst hbe; exact heo
  · exact ⟨u, k b u hbe q⟩
end

/-! ### the heap without what is tracked -/
def trk (h : Heap) (H : Hp) : List Addr := (List.range h.objs.size).filter fun a => (H a).isSome
def hidT (h : Heap) (H : Hp) : Heap := PySem.W.hideAll h (trk h H)
theorem hidT_size (h : Heap) (H : Hp) : (hidT h H).objs.size = h.objs.size := PySem.W.hideAll_size _ _
theorem hidT_get {h : Heap} {H : Hp} {b : Addr} {o : Obj} (e : h.get? b = some o) (n : H b = none) : (hidT h H).get? b = some o :=
  PySem.W.hideAll_get _ e fun hm => by
    have q : (H b).isSome = true := (List.mem_filter.mp hm).2
    rw [n] at q; simp at q
theorem of_hidT {h : Heap} {H : Hp} {b : Addr} {o : Obj} (e : (hidT h H).get? b = some o) : h.get? b = some o ∧ H b = none := by
  have e' : h.get? b = some o := PySem.W.of_hideAll (trk h H) e
  refine ⟨e', ?_⟩
  cases q : H b with
  | none => rfl
  | some x =>
    have hm : b ∈ trk h H := List.mem_filter.mpr ⟨List.mem_range.mpr (Heap.lt_size e'), by simp [q]⟩
    have z : (hidT h H).get? b = none := PySem.W.hideAll_none (trk h H) hm
    rw [z] at e; cases e

/-! ### OpenK's ledger, filled with every new object but one -/
end L2

namespace L2
open PySem PySem.Spec PyProof.Rows

/-- the module's facts, over the base: the heap at the law's entry without what is tracked there -/
structure Mod (K : PySem.W.Frag) (mg : Str → Option Value) (base : Heap) : Prop where
  kin : K.In base
  glob : base.Ns mainGlobals mg
  blt : ∃ mb, base.Ns builtinsNs mb ∧ ∀ x : Str, x ≠ "__name__" → mb x = bootBuiltins x
  nolimit : base.NoLimit

/-- the context: a def's body (or a comprehension's block) running. base: fixed through the whole law; s₀, H₀: the entry; outer: the frames whose slots others may change (a def's callers); stack: all frames that run;
   ex: iterators that were made ahead of the entry and are walked here (a comprehension's); fn: the names whose cells were made at the entry (a def: all; a comprehension's block: its own); calm: not within an except suite; pn: pins that every state bears; xe: what is wanted of an exception that leaves the code -/
structure Cx where
  prog : Program
  w : World
  K : PySem.W.Frag
  mg : Str → Option Value
  base : Heap
  A : Around
  N : List Str
  s₀ : Shared
  H₀ : Hp
  env : Env
  outer : List Env
  stack : List Env
  ex : List Addr
  fn : Str → Bool
  calm : Bool
  pn : List (Addr × Obj)
  xe : Value → Shared → Prop
/-- the callers' frames -/
def frs (l : List Env) : List Addr := l.filterMap (·.frame)
abbrev Cx.fs (X : Cx) : List Addr := frs X.outer

def Vis (sc : Scope) (x : Str) : Prop := sc.names.lookup x = some .local ∨ sc.names.lookup x = some .cell ∨ sc.names.lookup x = some .free
def Loc (sc : Scope) (x : Str) : Prop := sc.names.lookup x = some .local ∨ sc.names.lookup x = some .cell
def Look (env : Env) (h : Heap) (m : Str → Option Value) (x : Str) (u : Value) : Prop :=
  (env.kindOf x = some .local ∧ m x = some u) ∨ ((env.kindOf x = some .cell ∨ env.kindOf x = some .free) ∧ ∃ c, env.cells.lookup x = some c ∧ h.IsCell c (some u))

structure Cx.Ok (X : Cx) : Prop where
  mod : Mod X.K X.mg X.base
  kind : X.env.scope.kind = .function
  glob : X.env.globals = mainGlobals
  blt : X.env.builtins = builtinsNs
  above : X.s₀.heap.objs.size ≤ X.env.locals
  inj : ∀ x y c, X.env.cells.lookup x = some c → X.env.cells.lookup y = some c → x = y
  has : ∀ x, (X.env.kindOf x = some .cell ∨ X.env.kindOf x = some .free) → ∃ c, X.env.cells.lookup x = some c
  cab : ∀ x c, X.fn x = true → X.env.cells.lookup x = some c → X.s₀.heap.objs.size ≤ c
  hd : X.calm = true → X.A.handled = none
  frames : X.A.frames = some X.stack
  stk : X.stack = X.outer ∨ (X.stack = X.env :: X.outer ∧ X.env.frame = some X.env.locals)
  exf : ∀ b ∈ X.ex, b ≠ X.env.locals ∧ ∀ x c, X.env.cells.lookup x = some c → c ≠ b
  bs : ∀ b o, X.base.get? b = some o → X.s₀.heap.get? b = some o ∧ X.H₀ b = none
  bsz : X.base.objs.size ≤ X.s₀.heap.objs.size
  noex : ∀ b o, X.base.get? b = some o → b ∉ X.ex
  exfs : ∀ b ∈ X.ex, b ∉ X.fs
  funs : X.s₀.heap.FunFrames X.base X.outer
  frf : ∀ b ∈ X.fs, X.H₀ b = none

structure Inv (X : Cx) (pins : List (Addr × Obj)) (σ : List (Option V)) (H : Hp) (s : Shared) : Prop where
  ok : X.Ok
  os : s.os = X.s₀.os
  bare : AllBare s.gens
  base : Un X.fs X.ex X.H₀ H X.s₀.heap s.heap
  loc : ∃ m, s.heap.Ns X.env.locals m ∧ ∀ (i : Nat) (x : Str) (v : V), X.N[i]? = some x → σ[i]? = some (some v) → Vis X.env.scope x → ∃ u, RelV v u ∧ Look X.env s.heap m x u
  cell : ∀ x c, X.env.cells.lookup x = some c → ∃ v, s.heap.IsCell c v
  free : H X.env.locals = none
  freeC : ∀ x c, X.env.cells.lookup x = some c → H c = none
  pin : ∀ p ∈ X.pn ++ pins, s.heap.get? p.1 = some p.2 ∧ H p.1 = none ∧ p.1 ≠ X.env.locals ∧ p.1 ∉ X.fs ∧ ∀ v, p.2.data ≠ .cell v
  hok : HOk X.prog X.w H s.heap
  len : σ.length = X.N.length

section
variable {X : Cx} {pins : List (Addr × Obj)} {σ : List (Option V)} {H H' : Hp} {s : Shared} {h' : Heap}

theorem Cx.Ok.nofr (ok : X.Ok) {b : Addr} {o : Obj} (e : X.base.get? b = some o) : b ∉ X.fs := fun hb => by
  have := (ok.funs.mem hb).1
  rw [e] at this; cases this
theorem Inv.bs (I : Inv X pins σ H s) : ∀ b o, X.base.get? b = some o → s.heap.get? b = some o ∧ H b = none := fun b o e =>
  ⟨I.base.keep b o (I.ok.bs b o e).1 (I.ok.bs b o e).2 (I.ok.nofr e) (I.ok.noex b o e), I.base.free b o (I.ok.bs b o e).1 (I.ok.bs b o e).2 (I.ok.noex b o e)⟩
theorem Inv.bk (I : Inv X pins σ H s) : ∀ b o, X.base.get? b = some o → s.heap.get? b = some o := fun b o e => (I.bs b o e).1
theorem Inv.mod (I : Inv X pins σ H s) : Mod X.K X.mg X.base := I.ok.mod
theorem Inv.kIn (I : Inv X pins σ H s) : X.K.In s.heap := I.ok.mod.kin.keeps I.bk
theorem Inv.lt (I : Inv X pins σ H s) : X.env.locals < s.heap.objs.size := let ⟨_, hn, _⟩ := I.loc; hn.lt
theorem Inv.sz (I : Inv X pins σ H s) : X.s₀.heap.objs.size ≤ s.heap.objs.size := Nat.le_trans I.ok.above (Nat.le_of_lt I.lt)
theorem Inv.nofs (I : Inv X pins σ H s) {a : Addr} (h : s.heap.objs.size ≤ a) : a ∉ X.fs := fun hb => by
  obtain ⟨_, o, ho, _⟩ := I.ok.funs.mem hb
  exact absurd (Nat.lt_of_lt_of_le (Heap.lt_size ho) (Nat.le_trans I.sz h)) (Nat.lt_irrefl _)
theorem Inv.cne (I : Inv X pins σ H s) : ∀ x c, X.env.cells.lookup x = some c → c ≠ X.env.locals := fun x c e z => by
  obtain ⟨v, o, ho, hd⟩ := I.cell x c e
  obtain ⟨m, ⟨o', es, ep, ho', hd', _⟩, _⟩ := I.loc
  rw [z, ho'] at ho; cases ho; rw [hd'] at hd; cases hd
theorem Inv.funs (I : Inv X pins σ H s) : s.heap.FunFrames X.base X.outer := by
  have all : ∀ (l : List Env), (∀ b ∈ frs l, b ∈ X.fs) → X.s₀.heap.FunFrames X.base l → s.heap.FunFrames X.base l := by
    intro l
    induction l with
    | nil => intro _ _; trivial
    | cons env r ih =>
      intro hs hl
      obtain ⟨hk, ⟨L, o, hf, hn, ho, hd⟩, hr⟩ := hl
      have hL : L ∈ X.fs := hs L (by unfold frs; rw [List.filterMap_cons, hf]; exact List.mem_cons_self)
      obtain ⟨sl, e⟩ := I.base.slot L o ho (I.ok.frf L hL) hL fun z => I.ok.exfs L z hL
      exact ⟨hk, ⟨L, _, hf, hn, e, hd⟩, ih (fun b hb => hs b (by unfold frs; rw [List.filterMap_cons, hf]; exact List.mem_cons_of_mem _ hb)) hr⟩
  exact all X.outer (fun _ hb => hb) I.ok.funs

/-- the frames that run, for a call -/
theorem Inv.stack (I : Inv X pins σ H s) : s.heap.FunFrames X.base X.stack := by
  rcases I.ok.stk with e | ⟨e, hf⟩
  · rw [e]; exact I.funs
  · rw [e]
    obtain ⟨m, hn, _⟩ := I.loc
    refine .cons (by rw [I.ok.kind]; decide) hf hn ?_ I.funs
    exact Heap.get?_none_of_le (Nat.le_trans I.ok.bsz I.ok.above)
theorem Inv.stkSub (I : Inv X pins σ H s) : ∀ b ∈ frs X.stack, b ∈ X.env.locals :: X.fs := fun b hb => by
  rcases I.ok.stk with e | ⟨e, hf⟩
  · rw [e] at hb; exact List.mem_cons_of_mem _ hb
  · rw [e] at hb
    unfold frs at hb
    rw [List.filterMap_cons, hf] at hb
    exact hb
theorem Inv.stkFree (I : Inv X pins σ H s) : ∀ b ∈ frs X.stack, H b = none := fun b hb => by
  rcases List.mem_cons.mp (I.stkSub b hb) with e | hb
  · rw [e]; exact I.free
  · obtain ⟨_, o, ho, _⟩ := I.ok.funs.mem hb
    exact I.base.free b o ho (I.ok.frf b hb) fun z => I.ok.exfs b z hb

/-- THE STEP: the untracked objects but the frame and the records at ch are kept (the callers' frames up to slots), the frame's map is kept, the new abstract heap is held -/
theorem Inv.step {g' : Array GenState} {t' : Nat} {d' : Drawn} {ch : List Addr} (I : Inv X pins σ H s)
    (hch : ∀ b ∈ ch, (b ∈ X.ex ∨ X.s₀.heap.objs.size ≤ b) ∧ b ≠ X.env.locals ∧ (∀ x c, X.env.cells.lookup x = some c → c ≠ b) ∧ ∀ p ∈ X.pn ++ pins, p.1 ≠ b)
    (keep : ∀ b o, b ≠ X.env.locals → b ∉ X.fs → b ∉ ch → s.heap.get? b = some o → H b = none → h'.get? b = some o)
    (slot : ∀ b o, b ≠ X.env.locals → b ∈ X.fs → b ∉ ch → s.heap.get? b = some o → H b = none → ∃ sl, h'.get? b = some { o with slots := sl }) (free : ∀ b o, b ∉ ch → s.heap.get? b = some o → H b = none → H' b = none)
    (there : ∀ b o, b ∉ ch → s.heap.get? b = some o → ∃ o', h'.get? b = some o')
    (tups : ∀ b xs, H b = some (.tup xs) → H' b = some (.tup xs)) (frzs : ∀ b o u, H b = some (.frz o u) → H' b = some (.frz o u)) (tbls : ∀ b ps, H b = some (.tbl ps) → ∃ more, H' b = some (.tbl (ps ++ more)))
    (ns : ∀ m, s.heap.Ns X.env.locals m → h'.Ns X.env.locals m) (hok : HOk X.prog X.w H' h') (hg : AllBare g') :
    Inv X pins σ H' { s with heap := h', gens := g', drawn := d', toks := t' } := by
  have neL : ∀ b o, X.s₀.heap.get? b = some o → b ≠ X.env.locals := fun b o e => Nat.ne_of_lt (Nat.lt_of_lt_of_le (Heap.lt_size e) I.ok.above)
  have neC : ∀ b o, X.s₀.heap.get? b = some o → b ∉ X.ex → b ∉ ch := fun b o e hx hb => by
    rcases (hch b hb).1 with z | z
    · exact hx z
    · exact absurd (Nat.lt_of_lt_of_le (Heap.lt_size e) z) (Nat.lt_irrefl _)
  have cellK : ∀ x c, X.env.cells.lookup x = some c → ∀ v, s.heap.IsCell c v → h'.IsCell c v := fun x c e v ⟨o, ho, hd⟩ => by
    have nch : c ∉ ch := fun z => (hch c z).2.2.1 x c e rfl
    by_cases hc : c ∈ X.fs
    · obtain ⟨sl, q⟩ := slot c o (I.cne x c e) hc nch ho (I.freeC x c e)
      exact ⟨_, q, hd⟩
    · exact ⟨o, keep c o (I.cne x c e) hc nch ho (I.freeC x c e), hd⟩
  refine ⟨I.ok, I.os, hg, ⟨fun b o e n hb hx => ?_, fun b o e n hb hx => ?_, fun b o e n hx => ?_, fun b o e hx => ?_, fun b xs e => tups b xs (I.base.tups b xs e), fun b o xs e => frzs b o xs (I.base.frzs b o xs e), fun b ps e => ?_⟩, ?_, fun x c e => ?_, ?_, fun x c e => ?_, fun p hp => ?_, hok, I.len⟩
  · exact keep b o (neL b o e) hb (neC b o e hx) (I.base.keep b o e n hb hx) (I.base.free b o e n hx)
  · obtain ⟨sl, e1⟩ := I.base.slot b o e n hb hx
    obtain ⟨sl', e2⟩ := slot b _ (neL b o e) hb (neC b o e hx) e1 (I.base.free b o e n hx)
    exact ⟨sl', e2⟩
  · obtain ⟨o', e1⟩ := I.base.there b o e hx
    exact free b o' (neC b o e hx) e1 (I.base.free b o e n hx)
  · obtain ⟨o', e1⟩ := I.base.there b o e hx
    exact there b o' (neC b o e hx) e1
  · obtain ⟨m1, e1⟩ := I.base.tbls b ps e
    obtain ⟨m2, e2⟩ := tbls b _ e1
    exact ⟨m1 ++ m2, by rw [e2, Array.append_assoc]⟩
  · obtain ⟨m, hn, hl⟩ := I.loc
    refine ⟨m, ns m hn, fun i x v e1 e2 e3 => ?_⟩
    obtain ⟨u, r, l⟩ := hl i x v e1 e2 e3
    refine ⟨u, r, ?_⟩
    rcases l with l | ⟨k, c, e, z⟩
    · exact .inl l
    · exact .inr ⟨k, c, e, cellK x c e _ z⟩
  · obtain ⟨v, z⟩ := I.cell x c e
    exact ⟨v, cellK x c e v z⟩
  · obtain ⟨m, ⟨o, _, _, ho, _⟩, _⟩ := I.loc
    exact free _ o (fun z => (hch _ z).2.1 rfl) ho I.free
  · obtain ⟨v, o, ho, hd⟩ := I.cell x c e
    exact free c o (fun z => (hch c z).2.2.1 x c e rfl) ho (I.freeC x c e)
  · obtain ⟨e, n, ne, nf, d⟩ := I.pin p hp
    have nch : p.1 ∉ ch := fun z => (hch p.1 z).2.2.2 p hp rfl
    exact ⟨keep p.1 p.2 ne nf nch e n, free p.1 p.2 nch e n, ne, nf, d⟩
/-- .. where the frame's own object is kept too -/
theorem Inv.un {t' : Nat} (I : Inv X pins σ H s) (u : Un X.fs [] H H' s.heap h') (hok : HOk X.prog X.w H' h') : Inv X pins σ H' { s with heap := h', toks := t' } := by
  obtain ⟨m, ⟨o, es, ep, ho, r⟩, _⟩ := id I.loc
  obtain ⟨sl, hL⟩ := u.any ho I.free (by simp)
  exact I.step (g' := s.gens) (d' := s.drawn) (ch := []) (fun _ z => nomatch z) (fun b o _ hb _ e n => u.keep b o e n hb (by simp)) (fun b o _ hb _ e n => u.slot b o e n hb (by simp)) (fun b o _ e n => u.free b o e n (by simp)) (fun b o _ e => u.there b o e (by simp)) u.tups u.frzs u.tbls (fun m' hm => by
    obtain ⟨o', es', ep', ho', r'⟩ := hm
    rw [ho] at ho'; cases ho'
    exact ⟨_, es', ep', hL, r'⟩) hok I.bare
/-- behind a call (or a comprehension's block): the slots of this frame may have changed too, the records at ch may have turned -/
theorem Inv.call {g' : Array GenState} {t' : Nat} {d' : Drawn} {ch : List Addr} (I : Inv X pins σ H s) (u : Un (frs X.stack) ch H H' s.heap h') (hok : HOk X.prog X.w H' h') (hg : AllBare g')
    (hch : ∀ b ∈ ch, (b ∈ X.ex ∨ X.s₀.heap.objs.size ≤ b) ∧ b ≠ X.env.locals ∧ (∀ x c, X.env.cells.lookup x = some c → c ≠ b) ∧ ∀ p ∈ X.pn ++ pins, p.1 ≠ b) :
    Inv X pins σ H' { s with heap := h', gens := g', drawn := d', toks := t' } := by
  obtain ⟨m, ⟨o, es, ep, ho, r⟩, _⟩ := id I.loc
  obtain ⟨sl, hL⟩ := u.any ho I.free fun z => (hch _ z).2.1 rfl
  exact I.step (ch := ch) hch (fun b o hL hb hc e n => u.keep b o e n (fun z => (List.mem_cons.mp (I.stkSub b z)).elim hL hb) hc) (fun b o _ _ hc e n => u.any e n hc) (fun b o hc e n => u.free b o e n hc) (fun b o hc e => u.there b o e hc) u.tups u.frzs u.tbls (fun m' hm => by
    obtain ⟨o', es', ep', ho', r'⟩ := hm
    rw [ho] at ho'; cases ho'
    exact ⟨_, es', ep', hL, r'⟩) hok hg
/-- an untracked record of ours (an iterator) has turned -/
theorem Inv.turned {t' : Nat} {it : Addr} (I : Inv X pins σ H s) (k : ∀ b o, b ≠ it → s.heap.get? b = some o → h'.get? b = some o) (hn : H it = none) (hL : it ≠ X.env.locals)
    (h1 : it ∈ X.ex ∨ X.s₀.heap.objs.size ≤ it) (h2 : ∀ x c, X.env.cells.lookup x = some c → c ≠ it) (h3 : ∀ p ∈ X.pn ++ pins, p.1 ≠ it) : Inv X pins σ H { s with heap := h', toks := t' } := by
  have nit : ∀ b u, H b = some u → b ≠ it := fun b u e z => by rw [z, hn] at e; cases e
  refine I.step (g' := s.gens) (d' := s.drawn) (ch := [it]) (fun b hb => ?_) (fun b o _ _ hc e _ => k b o (fun z => hc (by simp [z])) e) (fun b o _ _ hc e _ => ⟨o.slots, k b o (fun z => hc (by simp [z])) e⟩) (fun _ _ _ _ n => n)
    (fun b o hc e => ⟨o, k b o (fun z => hc (by simp [z])) e⟩) (fun _ _ e => e) (fun _ _ _ e => e) (fun b ps e => ⟨#[], by rw [e]; simp⟩) (fun m hm => ?_) (fun b u e => ?_) I.bare
  · have e : b = it := by simpa using hb
    subst e
    exact ⟨h1, hL, h2, h3⟩
  · obtain ⟨o, es, ep, ho, r⟩ := hm
    exact ⟨o, es, ep, k _ o (Ne.symm hL) ho, r⟩
  · refine (I.hok b u e).stay (fun c v hc q => k c v ?_ q) (fun _ q => q) fun _ _ q => q
    rcases hc with z | z
    · rw [z]; exact nit b u e
    · exact nit c _ z
theorem Inv.tok (I : Inv X pins σ H s) (t : Nat) : Inv X pins σ H { s with toks := t } := I.un (h' := s.heap) (t' := t) Un.refl I.hok
/-- all objects kept -/
theorem Inv.kept {t' : Nat} (I : Inv X pins σ H s) (k : ∀ b u, s.heap.get? b = some u → h'.get? b = some u) : Inv X pins σ H { s with heap := h', toks := t' } := I.un (Un.kept k) (I.hok.kept k)
/-- a new object laid and tracked -/
theorem Inv.laid {a : Addr} {o : HO} {t' : Nat} (I : Inv X pins σ H s) (k : ∀ b u, s.heap.get? b = some u → h'.get? b = some u) (hp : s.heap.objs.size ≤ a) (new : ObjOk X.prog X.w (upd H a o) h' a o) :
    Inv X pins σ (upd H a o) { s with heap := h', toks := t' } := I.un (Un.laid k hp (I.hok.fresh hp)) (I.hok.laid k hp new)
/-- an object written -/
theorem Inv.write {x e : Addr} {o : HO} {t' : Nat} (I : Inv X pins σ H s) (mu : Mut (H x)) (he : e = x ∨ H e = some (.own x)) (k : ∀ b u, b ≠ e → s.heap.get? b = some u → h'.get? b = some u) (heo : ∃ u, h'.get? e = some u)
    (new : ObjOk X.prog X.w (upd H x o) h' x o) : Inv X pins σ (upd H x o) { s with heap := h', toks := t' } := I.un (Un.write mu he k heo) (I.hok.write mu he k heo new)
/-- forgetting slots, pins -/
theorem Inv.weak {σ' : List (Option V)} (I : Inv X pins σ H s) (hl : σ'.length = σ.length) (w : ∀ (i : Nat) v, σ'[i]? = some (some v) → σ[i]? = some (some v)) : Inv X pins σ' H s :=
  ⟨I.ok, I.os, I.bare, I.base, let ⟨m, hn, hl'⟩ := I.loc; ⟨m, hn, fun i x v e1 e2 e3 => hl' i x v e1 (w i v e2) e3⟩, I.cell, I.free, I.freeC, I.pin, I.hok, hl.trans I.len⟩
theorem Inv.pins_of {pins' : List (Addr × Obj)} (I : Inv X pins σ H s) (h : ∀ p ∈ pins', s.heap.get? p.1 = some p.2 ∧ H p.1 = none ∧ p.1 ≠ X.env.locals ∧ p.1 ∉ X.fs ∧ ∀ v, p.2.data ≠ .cell v) : Inv X pins' σ H s :=
  ⟨I.ok, I.os, I.bare, I.base, I.loc, I.cell, I.free, I.freeC, fun p hp => (List.mem_append.mp hp).elim (fun z => I.pin p (List.mem_append_left _ z)) (h p), I.hok, I.len⟩

theorem nodup_ix {N : List Str} (hN : N.Nodup) {i j : Nat} {x : Str} (a : N[i]? = some x) (b : N[j]? = some x) : i = j := by
  obtain ⟨h1, e1⟩ := List.getElem?_eq_some_iff.mp a
  obtain ⟨h2, e2⟩ := List.getElem?_eq_some_iff.mp b
  exact (List.getElem_inj hN).mp (e1.trans e2.symm)

/-- a name is stored; what changed -/
theorem store_ok2 {M : Model} {A : Around} {E : Value → Shared → Prop} {i : Nat} {x : Str} {v : V} {u : Value} {Q : Unit → Shared → Prop} (I : Inv X pins σ H s) (hN : X.N.Nodup) (hi : X.N[i]? = some x) (hx : Loc X.env.scope x) (r : RelV v u)
    (h : ∀ s', Inv X pins (σ.set i (some v)) H s' → (∃ a, Heap.SameBut a s.heap s'.heap ∧ (a = X.env.locals ∨ X.env.cells.lookup x = some a)) → Q () s') (hf : X.fn x = true ∨ X.env.scope.names.lookup x = some .local := by first | exact .inl rfl | exact .inr rfl | assumption) : wpAny M A (storeName X.env x u) Q E s := by
  obtain ⟨m, hn, hl⟩ := id I.loc
  have hcls : (X.env.scope.kind == .class || (X.env.scope.kind == .module && X.env.locals != X.env.globals)) = false := by rw [I.ok.kind]; rfl
  have hiσ : i < σ.length := by rw [I.len]; exact (List.getElem?_eq_some_iff.mp hi).1
  have cne := I.cne
  have tracked : ∀ {a : Addr} {h' : Heap}, (∃ o, s.heap.get? a = some o ∧ H a = none) → Heap.SameBut a s.heap h' → HOk X.prog X.w H h' := fun {a h'} ha hs b ob e => by
    obtain ⟨_, _, hfree⟩ := ha
    refine (I.hok b ob e).stay (fun c w' hc q => (hs.2 c ?_).trans q) (fun _ q => q) fun _ _ q => q
    rintro rfl
    rcases hc with rfl | hc
    · rw [hfree] at e; cases e
    · rw [hfree] at hc; cases hc
  rcases hx with hk | hk
  · refine wpAny_storeName_local hk hn (fun h' hn' hs => ?_) hcls
    obtain ⟨oL, _, _, hoL, _⟩ := id hn
    refine h _ ⟨I.ok, I.os, I.bare, ⟨fun b o e n hb hx => ?_, fun b o e n hb hx => ?_, I.base.free, fun b o e hx => ?_, I.base.tups, I.base.frzs, I.base.tbls⟩, ⟨_, hn', fun j y v' e1 e2 e3 => ?_⟩, fun y c e => ?_, I.free, I.freeC, fun p hp => ?_, tracked ⟨oL, hoL, I.free⟩ hs, by simpa using I.len⟩ ⟨_, hs, .inl rfl⟩
    · exact (hs.2 b (Nat.ne_of_lt (Nat.lt_of_lt_of_le (Heap.lt_size e) I.ok.above))).trans (I.base.keep b o e n hb hx)
    · obtain ⟨sl, e1⟩ := I.base.slot b o e n hb hx
      exact ⟨sl, (hs.2 b (Nat.ne_of_lt (Nat.lt_of_lt_of_le (Heap.lt_size e) I.ok.above))).trans e1⟩
    · obtain ⟨o', e1⟩ := I.base.there b o e hx
      exact ⟨o', (hs.2 b (Nat.ne_of_lt (Nat.lt_of_lt_of_le (Heap.lt_size e) I.ok.above))).trans e1⟩
    · by_cases hj : j = i
      · subst hj
        rw [hi] at e1; cases e1
        rw [List.getElem?_set_self hiσ] at e2
        cases e2
        exact ⟨u, r, .inl ⟨hk, by simp⟩⟩
      · rw [List.getElem?_set_ne (Ne.symm hj)] at e2
        obtain ⟨u', r', q⟩ := hl j y v' e1 e2 e3
        refine ⟨u', r', ?_⟩
        rcases q with ⟨k, e⟩ | ⟨k, c, e, z⟩
        · refine .inl ⟨k, ?_⟩
          have : y ≠ x := fun e => hj (nodup_ix hN e1 (e ▸ hi))
          simp [this, e]
        · exact .inr ⟨k, c, e, z.sameBut hs (cne y c e)⟩
    · obtain ⟨w', z⟩ := I.cell y c e
      exact ⟨w', z.sameBut hs (cne y c e)⟩
    · obtain ⟨e, n, ne, nf, d⟩ := I.pin p hp
      exact ⟨(hs.2 p.1 ne).trans e, n, ne, nf, d⟩
  · have hfn : X.fn x = true := by
      rcases hf with z | z
      · exact z
      · rw [z] at hk; cases hk
    obtain ⟨c, hc⟩ := I.ok.has x (.inl hk)
    obtain ⟨w', z⟩ := I.cell x c hc
    refine wpAny_storeName_cell I.ok.kind hk hc z (fun h' hc' hs => ?_)
    obtain ⟨oc, hoc, hocd⟩ := id z
    refine h { s with heap := h' } ⟨I.ok, I.os, I.bare, ⟨fun b o e n hb hx => ?_, fun b o e n hb hx => ?_, I.base.free, fun b o e hx => ?_, I.base.tups, I.base.frzs, I.base.tbls⟩, ⟨m, hn.sameBut hs (Ne.symm (cne x c hc)), fun j y v' e1 e2 e3 => ?_⟩, fun y c' e => ?_, I.free, I.freeC, fun p hp => ?_, tracked ⟨oc, hoc, I.freeC x c hc⟩ hs, by simpa using I.len⟩ ⟨c, hs, .inr hc⟩
    · exact (hs.2 b (Nat.ne_of_lt (Nat.lt_of_lt_of_le (Heap.lt_size e) (I.ok.cab x c hfn hc)))).trans (I.base.keep b o e n hb hx)
    · obtain ⟨sl, e1⟩ := I.base.slot b o e n hb hx
      exact ⟨sl, (hs.2 b (Nat.ne_of_lt (Nat.lt_of_lt_of_le (Heap.lt_size e) (I.ok.cab x c hfn hc)))).trans e1⟩
    · obtain ⟨o', e1⟩ := I.base.there b o e hx
      exact ⟨o', (hs.2 b (Nat.ne_of_lt (Nat.lt_of_lt_of_le (Heap.lt_size e) (I.ok.cab x c hfn hc)))).trans e1⟩
    · by_cases hj : j = i
      · subst hj
        rw [hi] at e1; cases e1
        rw [List.getElem?_set_self hiσ] at e2
        cases e2
        exact ⟨u, r, .inr ⟨.inl hk, c, hc, hc'⟩⟩
      · rw [List.getElem?_set_ne (Ne.symm hj)] at e2
        obtain ⟨u', r', q⟩ := hl j y v' e1 e2 e3
        refine ⟨u', r', ?_⟩
        rcases q with q | ⟨k, c', e, z'⟩
        · exact .inl q
        · refine .inr ⟨k, c', e, z'.sameBut hs ?_⟩
          rintro rfl
          exact hj (nodup_ix hN e1 (I.ok.inj _ _ _ e hc ▸ hi))
    · by_cases hcc : c' = c
      · subst hcc; exact ⟨_, hc'⟩
      · obtain ⟨w2, z2⟩ := I.cell y c' e
        exact ⟨w2, z2.sameBut hs hcc⟩
    · obtain ⟨e, n, ne, nf, d⟩ := I.pin p hp
      refine ⟨(hs.2 p.1 ?_).trans e, n, ne, nf, d⟩
      intro q
      rw [q, hoc] at e
      have q' : oc = p.2 := Option.some.inj e
      exact d w' (by rw [← q']; exact hocd)
theorem store_ok {M : Model} {A : Around} {E : Value → Shared → Prop} {i : Nat} {x : Str} {v : V} {u : Value} {Q : Unit → Shared → Prop} (I : Inv X pins σ H s) (hN : X.N.Nodup) (hi : X.N[i]? = some x) (hx : Loc X.env.scope x) (r : RelV v u)
    (h : ∀ s', Inv X pins (σ.set i (some v)) H s' → Q () s') (hf : X.fn x = true ∨ X.env.scope.names.lookup x = some .local := by first | exact .inl rfl | exact .inr rfl | assumption) : wpAny M A (storeName X.env x u) Q E s :=
  store_ok2 I hN hi hx r (fun s' I' _ => h s' I') hf
/-- behind a call or a block, the state as it is -/
theorem Inv.call' {s' : Shared} {ch : List Addr} (I : Inv X pins σ H s) (ho : s'.os = s.os) (u : Un (frs X.stack) ch H H' s.heap s'.heap) (hok : HOk X.prog X.w H' s'.heap) (hg : AllBare s'.gens)
    (hch : ∀ b ∈ ch, (b ∈ X.ex ∨ X.s₀.heap.objs.size ≤ b) ∧ b ≠ X.env.locals ∧ (∀ x c, X.env.cells.lookup x = some c → c ≠ b) ∧ ∀ p ∈ X.pn ++ pins, p.1 ≠ b) : Inv X pins σ H' s' := by
  obtain ⟨h', g', d', t', o'⟩ := s'
  have e : o' = s.os := ho
  subst e
  exact I.call (g' := g') (t' := t') (d' := d') u hok hg hch
end

/-! ### the judgements -/
/-- an exception: its class, its own dict's address (where it has one), the abstract heap behind it -/
abbrev XK := Value → Option Addr → Hp → Prop
abbrev St := List (Option V)
abbrev VK := V → Hp → Prop
/-- an expression's reading; a test's; an argument list's -/
abbrev TE := St → Hp → VK → Prop
abbrev TT := St → Hp → (Bool → Hp → Prop) → Prop
abbrev TA := St → Hp → (List V → Hp → Prop) → Prop
/-- what is wanted behind a statement -/
structure Ends where
  nx : St → Hp → Prop
  rt : VK
  bk : St → Hp → Prop := fun _ _ => False
  ct : St → Hp → Prop := fun _ _ => False
abbrev TS := Ends → St → Hp → Prop

def EP (X : Cx) (pins : List (Addr × Obj)) (σ : St) (Q : VK) (u : Value) (s' : Shared) : Prop := ∃ v H', Inv X pins σ H' s' ∧ RelV v u ∧ Q v H'
def TP (X : Cx) (pins : List (Addr × Obj)) (σ : St) (Q : Bool → Hp → Prop) (b : Bool) (s' : Shared) : Prop := ∃ H', Inv X pins σ H' s' ∧ Q b H'
def AP (X : Cx) (pins : List (Addr × Obj)) (σ : St) (Q : List V → Hp → Prop) (us : List Value) (s' : Shared) : Prop := ∃ vs H', Inv X pins σ H' s' ∧ Vals vs us ∧ Q vs H'
def SP (X : Cx) (pins : List (Addr × Obj)) (D : Ends) (f : Flow) (s' : Shared) : Prop :=
  match f with
  | .next => ∃ σ' H', Inv X pins σ' H' s' ∧ D.nx σ' H'
  | .brk => ∃ σ' H', Inv X pins σ' H' s' ∧ D.bk σ' H'
  | .cont => ∃ σ' H', Inv X pins σ' H' s' ∧ D.ct σ' H'
  | .ret u => ∃ v σ' H', Inv X pins σ' H' s' ∧ RelV v u ∧ D.rt v H'

def PE (X : Cx) (e : Expr) (t : TE) : Prop :=
  ∀ (pins : List (Addr × Obj)) (s : Shared) (σ : St) (H : Hp) (Q : VK), Inv X pins σ H s → t σ H Q → wpAny (model X.prog X.w) X.A (eval e X.env) (EP X pins σ Q) X.xe s
def PT (X : Cx) (e : Expr) (t : TT) : Prop :=
  ∀ (pins : List (Addr × Obj)) (s : Shared) (σ : St) (H : Hp) (Q : Bool → Hp → Prop), Inv X pins σ H s → t σ H Q → wpAny (model X.prog X.w) X.A (isTrue e X.env (eval e X.env)) (TP X pins σ Q) X.xe s
/-- a test whatever its 'whole' is (and, or) -/
def PW (X : Cx) (e : Expr) (t : TT) : Prop :=
  ∀ (whole : Sem Value) (pins : List (Addr × Obj)) (s : Shared) (σ : St) (H : Hp) (Q : Bool → Hp → Prop), Inv X pins σ H s → t σ H Q → wpAny (model X.prog X.w) X.A (isTrue e X.env whole) (TP X pins σ Q) X.xe s
theorem PW.pt {X : Cx} {e : Expr} {t : TT} (h : PW X e t) : PT X e t := h _
/-- an argument list (no star), from the left -/
def PA (X : Cx) (es : List Expr) (t : TA) : Prop :=
  ∀ (pos : Pos) (pins : List (Addr × Obj)) (s : Shared) (σ : St) (H : Hp) (Q : List V → Hp → Prop), Inv X pins σ H s → t σ H Q → wpAny (model X.prog X.w) X.A (spliced (backTo pos (starEach es X.env))) (AP X pins σ Q) X.xe s
def PS (X : Cx) (st : Stmt) (t : TS) : Prop :=
  ∀ (pins : List (Addr × Obj)) (s : Shared) (σ : St) (H : Hp) (D : Ends), Inv X pins σ H s → t D σ H → wpAny (model X.prog X.w) X.A (exec st X.env) (SP X pins D) X.xe s
def PSs (X : Cx) (st : List Stmt) (t : TS) : Prop :=
  ∀ (pins : List (Addr × Obj)) (s : Shared) (σ : St) (H : Hp) (D : Ends), Inv X pins σ H s → t D σ H → wpAny (model X.prog X.w) X.A (execs st X.env) (SP X pins D) X.xe s
/-- weaken the end -/
theorem thn {α : Type} {t : Sem α} {Q Q' : α → Shared → Prop} {M : Model} {A : Around} {E : Value → Shared → Prop} {s : Shared} (h : wpAny M A t Q E s) (hQ : ∀ a s, Q a s → Q' a s) : wpAny M A t Q' E s := wpAny_mono h hQ fun _ _ x => x
end L2

namespace L2
open PySem PySem.Spec PyProof.Rows
section
variable {X : Cx}


/-! ### names and constants -/
def tVar (i : Nat) : TE := fun σ H Q => ∃ v, σ[i]? = some (some v) ∧ Q v H
def tC (v : V) : TE := fun _ H Q => Q v H
theorem pe_var {i : Nat} {x : Str} {pos : Pos} (hN : X.N[i]? = some x) (hv : Vis X.env.scope x) (hd : (x == ("__debug__" : Str)) = false := by decide) (hcd : (x == ("__classdict__" : Str)) = false := by decide) : PE X (.Name x pos) (tVar i) := by
  intro pins s σ H Q I h
  obtain ⟨v, e, h⟩ := h
  obtain ⟨m, hn, hl⟩ := I.loc
  obtain ⟨u, r, l⟩ := hl i x v hN e hv
  have fin : EP X pins σ Q u s := ⟨v, H, I, r, h⟩
  rcases l with ⟨hk, hm⟩ | ⟨hk, c, hc, hcell⟩
  · exact wpAny_Name (wpAny_loadName_local I.ok.kind hk hn hm fin) hd
  · rcases hk with hk | hk
    · exact wpAny_Name (wpAny_loadName_cell I.ok.kind hk hc hcell fin) hd
    · exact wpAny_Name (wpAny_loadName_free I.ok.kind hk hc hcell fin hcd) hd
theorem pe_int {i j pos} : PE X (.Constant (.int i) j pos) (tC (.int i)) := fun _ _ _ H _ I h => wpAny_Constant_int ⟨.int i, H, I.tok _, ⟨_, rfl⟩, h⟩
theorem pe_bl {b j pos} : PE X (.Constant (.bool b) j pos) (tC (.bl b)) := fun _ _ _ H _ I h => Constant_bool ⟨.bl b, H, I, rfl, h⟩
theorem pe_non {j pos} : PE X (.Constant .none j pos) (tC .non) := fun _ _ _ H _ I h => Constant_none ⟨.non, H, I, rfl, h⟩
theorem pe_str {x j pos} : PE X (.Constant (.str x) j pos) (tC (.str x)) := fun _ _ _ H _ I h => Calls.Constant_str ⟨.str x, H, I.tok _, ⟨_, rfl⟩, h⟩

/-- a global name of the def -/
def Gl (X : Cx) (x : Str) : Prop := X.env.kindOf x = some .globalImplicit
theorem ld_glob {E : Value → Shared → Prop} {pins : List (Addr × Obj)} {s : Shared} {σ : St} {H : Hp} {x : Str} {u : Value} {pos : Pos} {Q : Value → Shared → Prop} (I : Inv X pins σ H s) (hg : Gl X x) (hm : X.mg x = some u) (h : Q u s)
    (hd : (x == ("__debug__" : Str)) = false := by decide) : wpAny (model X.prog X.w) X.A (eval (.Name x pos) X.env) Q E s :=
  Calls.Name_function_global I.ok.kind hg (Calls.loadGlobal_global (by rw [I.ok.glob]; exact I.mod.glob.keeps I.bk) hm h) hd
theorem ld_blt {E : Value → Shared → Prop} {pins : List (Addr × Obj)} {s : Shared} {σ : St} {H : Hp} {x : Str} {u : Value} {pos : Pos} {Q : Value → Shared → Prop} (I : Inv X pins σ H s) (hg : Gl X x) (hm : X.mg x = none) (hv : bootBuiltins x = some u) (h : Q u s)
    (hn : x ≠ "__name__" := by decide) (hd : (x == ("__debug__" : Str)) = false := by decide) : wpAny (model X.prog X.w) X.A (eval (.Name x pos) X.env) Q E s := by
  obtain ⟨mb, h1, h2⟩ := I.mod.blt
  exact Calls.Name_function_global I.ok.kind hg (Calls.loadGlobal_builtin (by rw [I.ok.glob]; exact I.mod.glob.keeps I.bk) hm (by rw [I.ok.blt]; exact h1.keeps I.bk) ((h2 x hn).trans hv) h) hd
theorem pe_bltn {x : Str} {v : V} {u : Value} {pos : Pos} (hg : Gl X x) (hm : X.mg x = none) (hv : bootBuiltins x = some u) (r : RelV v u) (hn : x ≠ "__name__" := by decide) (hd : (x == ("__debug__" : Str)) = false := by decide) : PE X (.Name x pos) (tC v) :=
  fun _ _ _ H _ I h => ld_blt I hg hm hv ⟨v, H, I, r, h⟩ hn hd

/-! ### arithmetic -/
variable {a b : Expr} {ta tb : TE} {pos : Pos}

/-! ### comparisons -/
/-- a comparison as a value, as a test -/
def tB (t : TE) : TT := fun σ H Q => t σ H fun x H1 => ∃ c, x = .bl c ∧ Q c H1
/-- an expression whose value is a bool, as a test -/
theorem pt_val {e : Expr} {t : TE} (h : PE X e t) (he : ∀ whole, isTrue e X.env whole = (do let v ← whole; standAt e.pos; holding [v] (truthy v)) := by intro _; rfl) : PT X e (tB t) := by
  intro pins s σ H Q I hw
  refine isTrue_plain (thn (h pins s σ H _ I hw) fun v s1 ⟨x, H1, I1, r1, q1⟩ => ?_) (he _)
  obtain ⟨d, rfl, q⟩ := q1
  cases r1
  exact wpAny_truthy_bool ⟨H1, I1, q⟩

/-! ### and, or, not -/
variable {tA tB' : TT} {rest : List Expr}
def tAnd (t u : TT) : TT := fun σ H Q => t σ H fun c H1 => if c = true then u σ H1 Q else Q false H1
def tOr (t u : TT) : TT := fun σ H Q => t σ H fun c H1 => if c = true then Q true H1 else u σ H1 Q
def tNot (t : TT) : TT := fun σ H Q => t σ H fun c H1 => Q (!c) H1
theorem pw_and1 (ha : PT X a tA) : PW X (.BoolOp .And [a] pos) tA := by
  intro wh pins s σ H Q I h
  refine isTrue_and (thn (ha pins s σ H Q I h) fun c s1 e => ?_)
  cases c with
  | true => exact isTrue_and_nil e
  | false => exact e
theorem pw_or1 (ha : PT X a tA) : PW X (.BoolOp .Or [a] pos) tA := by
  intro wh pins s σ H Q I h
  refine isTrue_or (thn (ha pins s σ H Q I h) fun c s1 e => ?_)
  cases c with
  | false => exact isTrue_or_nil e
  | true => exact e
theorem pw_and (ha : PT X a tA) (hb : PW X (.BoolOp .And (b :: rest) pos) tB') : PW X (.BoolOp .And (a :: b :: rest) pos) (tAnd tA tB') := by
  intro wh pins s σ H Q I h
  refine isTrue_and (thn (ha pins s σ H _ I h) fun c s1 ⟨H1, I1, q1⟩ => ?_)
  cases c with
  | true => exact hb wh pins s1 σ H1 Q I1 q1
  | false => exact ⟨H1, I1, q1⟩
theorem pw_or (ha : PT X a tA) (hb : PW X (.BoolOp .Or (b :: rest) pos) tB') : PW X (.BoolOp .Or (a :: b :: rest) pos) (tOr tA tB') := by
  intro wh pins s σ H Q I h
  refine isTrue_or (thn (ha pins s σ H _ I h) fun c s1 ⟨H1, I1, q1⟩ => ?_)
  cases c with
  | true => exact ⟨H1, I1, q1⟩
  | false => exact hb wh pins s1 σ H1 Q I1 q1
theorem pt_not (ha : PT X a tA) : PT X (.UnaryOp .Not a pos) (tNot tA) := by
  intro pins s σ H Q I h
  exact isTrue_not (ha pins s σ H (fun c H1 => Q (!c) H1) I h)
/-- .. as values (bools) -/
def tAndV (ta tb : TE) : TE := fun σ H Q => ta σ H fun x H1 => ∃ c, x = .bl c ∧ if c = true then tb σ H1 Q else Q (.bl false) H1
def tOrV (ta tb : TE) : TE := fun σ H Q => ta σ H fun x H1 => ∃ c, x = .bl c ∧ if c = true then Q (.bl true) H1 else tb σ H1 Q
def tNotV (ta : TE) : TE := fun σ H Q => ta σ H fun x H1 => ∃ c, x = .bl c ∧ Q (.bl (!c)) H1
theorem pe_one {op} {t : TE} (h : PE X a t) : PE X (.BoolOp op [a] pos) t := fun pins s σ H Q I hw => BoolOp_one (h pins s σ H Q I hw)
theorem pe_and (ha : PE X a ta) (hb : PE X (.BoolOp .And (b :: rest) pos) tb) : PE X (.BoolOp .And (a :: b :: rest) pos) (tAndV ta tb) := by
  intro pins s σ H Q I h
  refine BoolOp_and (thn (ha pins s σ H _ I h) fun v s1 ⟨x, H1, I1, r1, q1⟩ => ?_)
  obtain ⟨c, rfl, q1⟩ := q1
  cases r1
  refine wpAny_truthy_bool ?_
  cases c with
  | true => exact hb pins s1 σ H1 Q I1 q1
  | false => exact ⟨.bl false, H1, I1, rfl, q1⟩
theorem pe_or (ha : PE X a ta) (hb : PE X (.BoolOp .Or (b :: rest) pos) tb) : PE X (.BoolOp .Or (a :: b :: rest) pos) (tOrV ta tb) := by
  intro pins s σ H Q I h
  refine BoolOp_or (thn (ha pins s σ H _ I h) fun v s1 ⟨x, H1, I1, r1, q1⟩ => ?_)
  obtain ⟨c, rfl, q1⟩ := q1
  cases r1
  refine wpAny_truthy_bool ?_
  cases c with
  | false => exact hb pins s1 σ H1 Q I1 q1
  | true => exact ⟨.bl true, H1, I1, rfl, q1⟩
theorem pe_not (ha : PE X a ta) : PE X (.UnaryOp .Not a pos) (tNotV ta) := by
  intro pins s σ H Q I h
  refine UnaryOp_ (thn (ha pins s σ H _ I h) fun v s1 ⟨x, H1, I1, r1, q1⟩ => ?_)
  obtain ⟨c, rfl, q1⟩ := q1
  cases r1
  exact not_of (wpAny_truthy_bool ⟨.bl (!c), H1, I1, rfl, q1⟩)
end
end L2

namespace L2
open PySem PySem.Spec PyProof.Rows

/-! ### a list, a tuple that is read: tracked, frozen, or an object of the module -/
def SqL (K : PySem.W.Frag) (H : Hp) (a : Addr) (xs : List V) : Prop :=
  Rd H a (.lst xs) ∨
    ∃ (o : Obj) (its : Array Value) (n : Nat), K.lookup a = some o ∧ o.cls = .type "list" ∧ o.dict = none ∧ o.data = .seq its n ∧ its.size ≤ sizeLine ∧ Vals xs its.toList
def SqT (K : PySem.W.Frag) (H : Hp) (a : Addr) (xs : List V) : Prop :=
  Rd H a (.tup xs) ∨
    ∃ (o : Obj) (its : Array Value) (n : Nat), K.lookup a = some o ∧ o.cls = .type "tuple" ∧ o.data = .seq its n ∧ its.size ≤ sizeLine ∧ Vals xs its.toList
def absV : Value → Option V
  | .none => some .non
  | .bool b => some (.bl b)
  | .int i _ => some (.int i)
  | .str x _ => some (.str x)
  | .bytes b _ => some (.byt b)
  | .float b _ => some (.flt b)
  | .ref a => some (.ref a)
  | .type n => some (.ty n)
  | _ => none
theorem RelV.abs {x : V} {u : Value} (r : RelV x u) : absV u = some x := by
  cases x with
  | non => cases r; rfl
  | bl _ => cases r; rfl
  | int _ => obtain ⟨t, rfl⟩ := r; rfl
  | str _ => obtain ⟨t, rfl⟩ := r; rfl
  | byt _ => obtain ⟨t, rfl⟩ := r; rfl
  | flt _ => obtain ⟨t, rfl⟩ := r; rfl
  | ref _ => cases r; rfl
  | ty _ => cases r; rfl
theorem RelV.inj {x y : V} {u : Value} (r : RelV x u) (q : RelV y u) : x = y := Option.some.inj (r.abs.symm.trans q.abs)
theorem Vals.inj : ∀ {xs ys : List V} {us : List Value}, Vals xs us → Vals ys us → xs = ys
  | _, _, _, .nil, .nil => rfl
  | _, _, _, .cons r t, .cons r' t' => by rw [r.inj r', Vals.inj t t']
section
variable {X : Cx} {pins : List (Addr × Obj)} {σ : St} {H : Hp} {s : Shared} {a : Addr} {xs ys : List V}
theorem SqL.of {K : PySem.W.Frag} (h : H a = some (.lst xs)) : SqL K H a xs := .inl (.inl h)
theorem SqT.of {K : PySem.W.Frag} (h : H a = some (.tup xs)) : SqT K H a xs := .inl (.inl h)
theorem Inv.list (I : Inv X pins σ H s) (h : SqL X.K H a xs) : ∃ its : List Value, Vals xs its ∧ PlainL s.heap a its.toArray ∧ xs.length ≤ sizeLine := by
  rcases h with h | ⟨o, its, n, hk, hc, hd, hs, hz, r⟩
  · obtain ⟨z, its, n, r, e⟩ := h.ok I.hok
    exact ⟨its, r, ⟨_, n, e, rfl, rfl, rfl⟩, z⟩
  · refine ⟨its.toList, r, ⟨o, n, I.kIn a o hk, hc, hd, by simpa using hs⟩, ?_⟩
    have e := r.length
    simp only [Array.length_toList] at e
    omega
theorem Inv.tuple (I : Inv X pins σ H s) (h : SqT X.K H a xs) : ∃ its : List Value, Vals xs its ∧ IsTup s.heap a its.toArray ∧ xs.length ≤ sizeLine := by
  rcases h with h | ⟨o, its, n, hk, hc, hs, hz, r⟩
  · obtain ⟨z, its, r, p⟩ := h.ok I.hok
    exact ⟨its, r, p, z⟩
  · refine ⟨its.toList, r, ⟨o, I.kIn a o hk, hc, n, by simpa using hs⟩, ?_⟩
    have e := r.length
    simp only [Array.length_toList] at e
    omega
theorem Inv.list_inj (I : Inv X pins σ H s) (h : SqL X.K H a xs) (h' : SqL X.K H a ys) : xs = ys := by
  obtain ⟨its, r, ⟨o, n, e, _, _, d⟩, _⟩ := I.list h
  obtain ⟨its', r', ⟨o', n', e', _, _, d'⟩, _⟩ := I.list h'
  rw [e] at e'; cases e'
  rw [d] at d'
  injection d' with d1 _
  have : its = its' := by simpa using congrArg Array.toList d1
  subst this
  exact r.inj r'
end

/-! ### another wish about exceptions -/
abbrev Cx.wish (X : Cx) (E : Value → Shared → Prop) : Cx := { X with xe := E }
/-- no exception leaves -/
abbrev Cx.nox (X : Cx) : Cx := X.wish fun _ _ => False
theorem Cx.Ok.wish {X : Cx} (ok : X.Ok) (E : Value → Shared → Prop) : (X.wish E).Ok :=
  ⟨ok.mod, ok.kind, ok.glob, ok.blt, ok.above, ok.inj, ok.has, ok.cab, ok.hd, ok.frames, ok.stk, ok.exf, ok.bs, ok.bsz, ok.noex, ok.exfs, ok.funs, ok.frf⟩
theorem Cx.Ok.unwish {X : Cx} {E : Value → Shared → Prop} (ok : (X.wish E).Ok) : X.Ok :=
  ⟨ok.mod, ok.kind, ok.glob, ok.blt, ok.above, ok.inj, ok.has, ok.cab, ok.hd, ok.frames, ok.stk, ok.exf, ok.bs, ok.bsz, ok.noex, ok.exfs, ok.funs, ok.frf⟩
section
variable {X : Cx} {pins : List (Addr × Obj)} {σ : St} {H : Hp} {s : Shared} {E : Value → Shared → Prop}
theorem Inv.wish (I : Inv X pins σ H s) (E : Value → Shared → Prop) : Inv (X.wish E) pins σ H s := ⟨I.ok.wish E, I.os, I.bare, I.base, I.loc, I.cell, I.free, I.freeC, I.pin, I.hok, I.len⟩
theorem Inv.unwish (I : Inv (X.wish E) pins σ H s) : Inv X pins σ H s := ⟨I.ok.unwish, I.os, I.bare, I.base, I.loc, I.cell, I.free, I.freeC, I.pin, I.hok, I.len⟩
theorem SP.unwish {D : Ends} {f : Flow} {s' : Shared} (h : SP (X.wish E) pins D f s') : SP X pins D f s' := by
  cases f with
  | next => obtain ⟨σ', H', I, q⟩ := h; exact ⟨σ', H', I.unwish, q⟩
  | brk => obtain ⟨σ', H', I, q⟩ := h; exact ⟨σ', H', I.unwish, q⟩
  | cont => obtain ⟨σ', H', I, q⟩ := h; exact ⟨σ', H', I.unwish, q⟩
  | ret u => obtain ⟨v, σ', H', I, r, q⟩ := h; exact ⟨v, σ', H', I.unwish, r, q⟩
theorem PSs.nox {st : List Stmt} {t : TS} (h : PSs X.nox st t) : PSs X st t := fun pins s σ H D I hw =>
  wpAny_mono (h pins s σ H D (I.wish _) hw) (fun _ _ q => q.unwish) fun _ _ z => False.elim z
end

/-! ### blocks and small statements -/
section
variable {X : Cx} {st : Stmt} {rest : List Stmt} {t u : TS} {e : Expr} {te : TE} {pos : Pos}
def tNext : TS := fun D σ H => D.nx σ H
def tSeq (t u : TS) : TS := fun D σ H => t { D with nx := u D } σ H
theorem pss_nil : PSs X [] tNext := fun _ _ σ H _ I h => wpAny_execs_nil ⟨σ, H, I, h⟩
theorem pss_cons (h1 : PS X st t) (h2 : PSs X rest u) : PSs X (st :: rest) (tSeq t u) := by
  intro pins s σ H D I h
  refine wpAny_execs_cons (thn (h1 pins s σ H { D with nx := u D } I h) fun f s1 q => ?_)
  cases f with
  | next =>
    obtain ⟨σ', H', I', q⟩ := q
    exact h2 pins s1 σ' H' D I' q
  | ret v => exact q
  | brk => exact q
  | cont => exact q
theorem pss_one (h1 : PS X st t) : PSs X [st] t := by
  intro pins s σ H D I h
  refine wpAny_execs_cons (thn (h1 pins s σ H D I h) fun f s1 q => ?_)
  cases f with
  | next => exact wpAny_execs_nil q
  | ret v => exact q
  | brk => exact q
  | cont => exact q
/-- in a def's body nothing is shown -/
theorem Inv.quiet {pins : List (Addr × Obj)} {σ : St} {H : Hp} {s : Shared} (I : Inv X pins σ H s) : interactive X.env = false := by simp [interactive, I.ok.kind]
/-- an expression whose value is dropped -/
def tDrop (te : TE) : TS := fun D σ H => te σ H fun _ H1 => D.nx σ H1
theorem ps_expr (he : PE X e te) (hs : swapsWith e none pos.line X.env = pure false := by rfl) : PS X (.Expr e pos) (tDrop te) := by
  intro pins s σ H D I h
  exact wpAny_Expr_any (thn (he pins s σ H _ I h) fun v s1 ⟨x, H1, I1, r1, q1⟩ => ⟨σ, H1, I1, q1⟩) I.quiet hs
def tRet (te : TE) : TS := fun D σ H => te σ H D.rt
theorem ps_ret (he : PE X e te) : PS X (.Return (some e) pos) (tRet te) := by
  intro pins s σ H D I h
  exact wpAny_Return_some (thn (he pins s σ H _ I h) fun v s1 ⟨x, H1, I1, r1, q1⟩ => ⟨x, σ, H1, I1, r1, q1⟩)
def tIfS (c : TT) (t u : TS) : TS := fun D σ H => c σ H fun b H1 => if b = true then t D σ H1 else u D σ H1
theorem ps_if {c : Expr} {a b : List Stmt} {tc : TT} (hc : PT X c tc) (ha : PSs X a t) (hb : PSs X b u) : PS X (.If c a b pos) (tIfS tc t u) := by
  intro pins s σ H D I h
  refine wpAny_If (thn (hc pins s σ H _ I h) fun d s1 ⟨H1, I1, q1⟩ => ?_)
  cases d with
  | true => exact ha pins s1 σ H1 D I1 q1
  | false => exact hb pins s1 σ H1 D I1 q1
end

/-! ### targets -/
abbrev TG := V → St → Hp → (St → Hp → Prop) → Prop
abbrev TGs := List V → St → Hp → (St → Hp → Prop) → Prop
def PG (X : Cx) (target : Expr) (t : TG) : Prop :=
  ∀ (pins : List (Addr × Obj)) (s : Shared) (σ : St) (H : Hp) (v : V) (u : Value) (Q : St → Hp → Prop), Inv X pins σ H s → RelV v u → t v σ H Q →
    wpAny (model X.prog X.w) X.A (assign target X.env u) (fun _ s' => ∃ σ' H', Inv X pins σ' H' s' ∧ Q σ' H') X.xe s
/-- several targets, one after another -/
def PGs (X : Cx) (ts : List Expr) (t : TGs) : Prop :=
  ∀ (pins : List (Addr × Obj)) (s : Shared) (σ : St) (H : Hp) (vs : List V) (us : List Value) (Q : St → Hp → Prop), Inv X pins σ H s → Vals vs us → t vs σ H Q →
    wpAny (model X.prog X.w) X.A (assignInOrder ((assignEach ts X.env).map (·.2)) us) (fun _ s' => ∃ σ' H', Inv X pins σ' H' s' ∧ Q σ' H') X.xe s
/-- o[i] = v, by values -/
abbrev TSet := V → V → V → Hp → (Hp → Prop) → Prop
def PSet (X : Cx) (t : TSet) : Prop :=
  ∀ (pins : List (Addr × Obj)) (s : Shared) (σ : St) (H : Hp) (o i v : V) (ov iv u : Value) (Q : Hp → Prop), Inv X pins σ H s → RelV o ov → RelV i iv → RelV v u → t o i v H Q →
    wpAny (model X.prog X.w) X.A (setItem ov iv u) (fun _ s' => ∃ H', Inv X pins σ H' s' ∧ Q H') X.xe s
section
variable {X : Cx} {pos : Pos}
def gName (i : Nat) : TG := fun v σ H Q => Q (σ.set i (some v)) H
theorem pg_name {i : Nat} {x : Str} (hN : X.N.Nodup) (hi : X.N[i]? = some x) (hx : Loc X.env.scope x) (hf : X.fn x = true ∨ X.env.scope.names.lookup x = some .local := by first | exact .inl rfl | exact .inr rfl | assumption) : PG X (.Name x pos) (gName i) := by
  intro pins s σ H v u Q I r h
  exact wpAny_assign_Name (store_ok I hN hi hx r (fun s' I' => ⟨_, H, I', h⟩) hf)
def gNil : TGs := fun vs σ H Q => vs = [] ∧ Q σ H
def gCons (t : TG) (u : TGs) : TGs := fun vs σ H Q => ∃ v r, vs = v :: r ∧ t v σ H fun σ' H' => u r σ' H' Q
theorem pgs_nil : PGs X [] gNil := by
  intro pins s σ H vs us Q I r h
  obtain ⟨e, h⟩ := h
  subst e
  cases r
  exact assignInOrder_nil ⟨σ, H, I, h⟩
theorem pgs_cons {e : Expr} {es : List Expr} {t : TG} {u : TGs} (h1 : PG X e t) (h2 : PGs X es u)
    (hs : (assignEach (e :: es) X.env).map (·.2) = assign e X.env :: (assignEach es X.env).map (·.2) := by rfl) : PGs X (e :: es) (gCons t u) := by
  intro pins s σ H vs us Q I r h
  obtain ⟨v, vr, e1, h⟩ := h
  subst e1
  cases r with
  | cons r rr =>
    rw [hs]
    refine assignInOrder_cons (thn (h1 pins s σ H _ _ _ I r h) fun _ s1 ⟨σ1, H1, I1, q1⟩ => ?_)
    exact h2 pins s1 σ1 H1 _ _ Q I1 rr q1
/-- (a, b, ..) = a tuple of that length -/
def gTup (K : PySem.W.Frag) (n : Nat) (t : TGs) : TG := fun v σ H Q => ∃ a xs, v = .ref a ∧ SqT K H a xs ∧ xs.length = n ∧ t xs σ H Q
theorem pg_tup {es : List Expr} {k : Nat} {t : TGs} {n : Nat} (hc : X.calm = true) (h : PGs X es t)
    (hn : (assignEach es X.env).length = n := by rfl) (hst : (assignEach es X.env).findIdx? (·.1) = none := by rfl) : PG X (.Tuple es k pos) (gTup X.K n t) := by
  intro pins s σ H v u Q I r hw
  obtain ⟨a, xs, e1, hq, hl, hw⟩ := hw
  subst e1
  cases r
  obtain ⟨its, rv, ht, hz⟩ := I.tuple hq
  refine assign_Tuple_tuple (I.ok.hd hc) ht (by simp [hn, ← hl, rv.length]) hst fun h' hx => ?_
  have I1 : Inv X pins σ H { s with heap := h' } := I.kept (t' := s.toks) fun b o e => hx b o (Nat.ne_of_lt (Heap.lt_size e)) e
  exact h pins _ σ H xs _ Q I1 (by simpa using rv) hw
/-- o[i] = .. -/
def gSub (to ti : TE) (t : TSet) : TG := fun v σ H Q => to σ H fun o H1 => ti σ H1 fun i H2 => t o i v H2 fun H3 => Q σ H3
theorem pg_sub {o i : Expr} {to ti : TE} {t : TSet} (ho : PE X o to) (hi : PE X i ti) (hs : PSet X t)
    (ha : ∀ v, assign (.Subscript o i pos) X.env v = (do
      let ov ← holding [v] (eval o X.env)
      let iv ← holding [v, ov] (eval i X.env)
      standAt pos
      holding [v, ov, iv] (setItem ov iv v)
      release [v, ov, iv] []) := by intro _; rfl) : PG X (.Subscript o i pos) (gSub to ti t) := by
  intro pins s σ H v u Q I r h
  rw [ha]
  refine wpAny_bind (wpAny_holding (thn (ho pins s σ H _ I h) fun ov s1 ⟨x, H1, I1, r1, q1⟩ => ?_))
  refine wpAny_bind (wpAny_holding (thn (hi pins s1 σ H1 _ I1 q1) fun iv s2 ⟨y, H2, I2, r2, q2⟩ => ?_))
  refine wpAny_bind (wpAny_standAt (wpAny_bind (wpAny_holding (thn (hs pins s2 σ H2 x y v ov iv u _ I2 r1 r2 r q2) fun _ s3 ⟨H3, I3, q3⟩ => ?_))))
  exact wpAny_release ⟨σ, H3, I3, q3⟩
/-- target = value -/
def tAsg (te : TE) (g : TG) : TS := fun D σ H => te σ H fun x H1 => g x σ H1 D.nx
theorem ps_asg {tg e : Expr} {te : TE} {g : TG} (he : PE X e te) (hg : PG X tg g) (hs : swapsWithSole [tg] e pos.line X.env = pure false := by rfl) (hw : swappedStores [tg] e X.env = pure none := by rfl)
    (h1 : (assignEach [tg] X.env).map (·.2) = [assign tg X.env] := by rfl) : PS X (.Assign [tg] e pos) (tAsg te g) := by
  intro pins s σ H D I h
  refine wpAny_Assign_stores (thn (he pins s σ H _ I h) fun v s1 ⟨x, H1, I1, r1, q1⟩ => ?_) hs hw
  rw [h1]
  exact thn (hg pins s1 σ H1 x v _ I1 r1 q1) fun _ s2 q => q
/-- name = value -/
theorem ps_set {i : Nat} {x : Str} {e : Expr} {te : TE} {pos' : Pos} (hN : X.N.Nodup) (hi : X.N[i]? = some x) (hx : Loc X.env.scope x) (he : PE X e te) (hs : swapsWith e (some (.Name x pos')) pos.line X.env = pure false := by rfl) (hf : X.fn x = true ∨ X.env.scope.names.lookup x = some .local := by first | exact .inl rfl | exact .inr rfl | assumption) :
    PS X (.Assign [.Name x pos'] e pos) (tAsg te (gName i)) := by
  intro pins s σ H D I h
  refine wpAny_Assign_Name (thn (he pins s σ H _ I h) fun v s1 ⟨y, H1, I1, r1, q1⟩ => ?_) hs
  exact store_ok I1 hN hi hx r1 (fun s2 I2 => ⟨_, H1, I2, q1⟩) hf
end

/-! ### while -/
section
variable {X : Cx} {pos : Pos}
/-- the invariant W with its measure -/
def tWhile (c : TT) (tb : TS) : TS := fun D σ H => ∃ W : Nat → St → Hp → Prop, (∃ m, W m σ H) ∧ ∀ m σ H, W m σ H →
  c σ H fun b H1 => if b = true then ∃ N : St → Hp → Prop, (∀ σ' H', N σ' H' → ∃ m', m' < m ∧ W m' σ' H') ∧ tb { D with nx := N, ct := N, bk := D.nx } σ H1 else D.nx σ H1
theorem ps_while {c : Expr} {body : List Stmt} {tc : TT} {tb : TS} (hp : PassesOwn (model X.prog X.w) X.A X.env X.xe) (hc : PT X c tc) (hb : PSs X body tb) : PS X (.While c body [] pos) (tWhile tc tb) := by
  intro pins s σ H D I h
  obtain ⟨W, ⟨m0, w0⟩, turn⟩ := h
  refine wpAny_While (codeAny_whileLoop (fun n s' => ∃ σ' H', Inv X pins σ' H' s' ∧ W n σ' H') ?_ m0 ⟨σ, H, I, w0⟩)
  rintro n s1 ⟨σ1, H1, I1, w1⟩
  refine wpAny_passesOwn hp (thn (hc pins s1 σ1 H1 _ I1 (turn n σ1 H1 w1)) fun b s2 ⟨H2, I2, q2⟩ => ?_)
  cases b with
  | true =>
    obtain ⟨N, hN, q2⟩ := q2
    rw [if_pos rfl]
    refine wpAny_passesOwn hp (thn (hb pins s2 σ1 H2 _ I2 q2) fun f s3 q3 => ?_)
    cases f with
    | next =>
      obtain ⟨σ3, H3, I3, n3⟩ := q3
      obtain ⟨m', hm, w3⟩ := hN σ3 H3 n3
      exact ⟨m', hm, σ3, H3, I3, w3⟩
    | cont =>
      obtain ⟨σ3, H3, I3, n3⟩ := q3
      obtain ⟨m', hm, w3⟩ := hN σ3 H3 n3
      exact ⟨m', hm, σ3, H3, I3, w3⟩
    | brk => exact q3
    | ret v => exact q3
  | false =>
    rw [if_neg Bool.false_ne_true]
    exact wpAny_execs_nil ⟨σ1, H2, I2, q2⟩
end

/-! ### what a loop or a comprehension walks -/
/-- at turn i: it yields x (the heap may grow), or it stops -/
structure It where
  go : Nat → Hp → Prop
  yld : Nat → Hp → V → Hp → Prop
  stop : Nat → Hp → Prop
/-- the iterator's own objects may turn: they are not the frame's, not pinned, younger than the entry (or a comprehension's own) -/
def FpOk (X : Cx) (pins : List (Addr × Obj)) (H : Hp) (b : Addr) : Prop :=
  H b = none ∧ b ≠ X.env.locals ∧ b ∉ X.fs ∧ (b ∈ X.ex ∨ X.s₀.heap.objs.size ≤ b) ∧ (∀ x c, X.env.cells.lookup x = some c → c ≠ b) ∧ ∀ p ∈ X.pn ++ pins, p.1 ≠ b
theorem Inv.fpOk {X : Cx} {pins : List (Addr × Obj)} {σ : St} {H H' : Hp} {s : Shared} {b : Addr} (I : Inv X pins σ H s) (hb : s.heap.objs.size ≤ b) (hn : H' b = none) : FpOk X pins H' b := by
  refine ⟨hn, Nat.ne_of_gt (Nat.lt_of_lt_of_le I.lt hb), I.nofs hb, .inr (Nat.le_trans I.sz hb), fun x c e z => ?_, fun p hp z => ?_⟩
  · obtain ⟨v, q⟩ := I.cell x c e
    exact absurd (Nat.lt_of_lt_of_le q.lt (by rw [z]; exact hb)) (Nat.lt_irrefl _)
  · exact absurd (Nat.lt_of_lt_of_le (Heap.lt_size (I.pin p hp).1) (by rw [z]; exact hb)) (Nat.lt_irrefl _)
structure Turn (P : Program) (w : World) (K : PySem.W.Frag) (tg : Expr) (J : It) (fp : List Addr) (it : Addr) (tn : Nat → Heap → Prop) : Prop where
  mem : it ∈ fp
  obj : ∀ i h, tn i h → ∀ b ∈ fp, ∃ o, h.get? b = some o ∧ ∀ v, o.data ≠ .cell v
  keep : ∀ i h h', tn i h → (∀ b ∈ fp, ∀ o, h.get? b = some o → h'.get? b = some o) → tn i h'
  item : ∀ (X : Cx), X.prog = P → X.w = w → X.K = K → X.calm = true → ∀ (i : Nat) (pins : List (Addr × Obj)) (s : Shared) (σ : St) (H : Hp) (E : Value → Shared → Prop), Inv X pins σ H s → (∀ b ∈ fp, FpOk X pins H b) → tn i s.heap → J.go i H →
    wpAny (model P w) X.A (pyNext (.ref it)) (fun r s1 => ∃ u, r = some u ∧
      wpAny (model P w) X.A (letOwnedTupleGo tg (.ref it) u) (fun _ s2 => ∃ x H', Inv X pins σ H' s2 ∧ RelV x u ∧ J.yld i H x H' ∧ tn (i + 1) s2.heap ∧ ∀ b ∈ fp, H' b = none) E s1) E s
  done : ∀ (X : Cx), X.prog = P → X.w = w → X.K = K → X.calm = true → ∀ (i : Nat) (pins : List (Addr × Obj)) (s : Shared) (σ : St) (H : Hp) (E : Value → Shared → Prop), Inv X pins σ H s → (∀ b ∈ fp, FpOk X pins H b) → tn i s.heap → J.stop i H →
    wpAny (model P w) X.A (pyNext (.ref it)) (fun r s1 => r = none ∧ Inv X pins σ H s1) E s
  self : ∀ (A : Around) (i : Nat) (s : Shared) (Q : Value → Shared → Prop) (E : Value → Shared → Prop), tn i s.heap → Q (.ref it) s → wpAny (model P w) A (pyIter (.ref it)) Q E s
abbrev TI := St → Hp → (It → Hp → Prop) → Prop
/-- an iterator has come -/
def PIE (X : Cx) (pins : List (Addr × Obj)) (σ : St) (tg : Expr) (R : It → Hp → Prop) (itv : Value) (s2 : Shared) : Prop :=
  ∃ (it : Addr) (fp : List Addr) (tn : Nat → Heap → Prop) (J : It) (H' : Hp), itv = .ref it ∧ Inv X pins σ H' s2 ∧ Turn X.prog X.w X.K tg J fp it tn ∧ tn 0 s2.heap ∧ (∀ b ∈ fp, FpOk X pins H' b) ∧ R J H'
def PI (X : Cx) (tg iter : Expr) (wi : TI) : Prop :=
  ∀ (pins : List (Addr × Obj)) (s : Shared) (σ : St) (H : Hp) (R : It → Hp → Prop), Inv X pins σ H s → wi σ H R →
    wpAny (model X.prog X.w) X.A (eval iter X.env) (fun v s1 => wpAny (model X.prog X.w) X.A (pyIter v) (PIE X pins σ tg R) X.xe s1) X.xe s

/-- the step ahead of the store is nothing for an iterator that keeps no tuple -/
theorem go_of {M : Model} {A : Around} {E : Value → Shared → Prop} {s : Shared} {tg : Expr} {it : Addr} {u : Value} {o : Obj} {n : String} {vs : Array Value} {Q : Unit → Shared → Prop} (ho : s.heap.get? it = some o) (hc : o.cls = .type n) (hd : o.data = .fields vs)
    (hn : ["enumerate", "zip", "dict_itemiterator", "dict_reverseitemiterator", "odict_iterator", "itertools.zip_longest", "itertools.pairwise"].contains n = false) (hQ : Q () s) : wpAny M A (letOwnedTupleGo tg (.ref it) u) Q E s := by
  unfold letOwnedTupleGo
  cases tg <;> first
    | exact wpAny_pure hQ
    | (cases u <;> first
        | exact wpAny_pure hQ
        | (refine wpAny_bind (wpAny_load ho ?_)
           rw [hc, hd]
           show wpAny M A (if (["enumerate", "zip", "dict_itemiterator", "dict_reverseitemiterator", "odict_iterator", "itertools.zip_longest", "itertools.pairwise"].contains n && vs[0]? == some (rawInt _)) = true then _ else _) Q E s
           rw [if_neg (by intro h; rw [hn, Bool.false_and] at h; cases h)]
           exact wpAny_pure hQ))

/-- the list at a, as it stands at each turn (a loop may append to it) -/
def Itl (K : PySem.W.Frag) (a : Addr) : It :=
  ⟨fun i H => ∃ xs x, SqL K H a xs ∧ xs[i]? = some x, fun i H x H' => H' = H ∧ ∀ xs, SqL K H a xs → xs[i]? = some x, fun i H => ∃ xs, SqL K H a xs ∧ xs.length ≤ i⟩
/-- lo, lo + 1, .. (n of them) -/
def Itr (lo : Int) (n : Nat) : It := ⟨fun i _ => i < n, fun i H x H' => H' = H ∧ x = .int (lo + i), fun i _ => n ≤ i⟩
theorem turn_list {P : Program} {w : World} {K : PySem.W.Frag} {tg : Expr} (a it : Addr) : Turn P w K tg (Itl K a) [it] it (fun i h => h.IsListIter it a i) where
  mem := by simp
  obj := fun i h st b hb => by
    have e : b = it := by simpa using hb
    subst e
    obtain ⟨o, e, c, d⟩ := st
    exact ⟨o, e, fun v z => by rw [d] at z; cases z⟩
  keep := fun i h h' st k => st.at fun o e => k it (by simp) o e
  item := by
    intro X hP hw hK hc i pins s σ H E I hf st hg
    subst hP hw hK
    obtain ⟨xs, x, hq, hx⟩ := hg
    obtain ⟨its, rv, p, hz⟩ := I.list hq
    obtain ⟨u, hu, ru⟩ := rv.get hx
    obtain ⟨f0, f1, f2, f3, f4, f5⟩ := hf it (by simp)
    refine wpAny_pyNext_list_item st p.isList (x := u) (by simpa using hu) fun h' st' sb => ?_
    have I1 : Inv X pins σ H { s with heap := h' } := I.turned (t' := s.toks) (fun b o hb e => (sb.2 b hb).trans e) f0 f1 f3 f4 f5
    obtain ⟨o, e, c, d⟩ := id st'
    exact ⟨u, rfl, go_of (s := { s with heap := h' }) e c d (by decide) ⟨x, H, I1, ru, ⟨rfl, fun ys hy => by rw [I.list_inj hy hq]; exact hx⟩, st', fun b hb => (hf b hb).1⟩⟩
  done := by
    intro X hP hw hK hc i pins s σ H E I hf st hg
    subst hP hw hK
    obtain ⟨xs, hq, hx⟩ := hg
    obtain ⟨its, rv, p, hz⟩ := I.list hq
    obtain ⟨f0, f1, f2, f3, f4, f5⟩ := hf it (by simp)
    have hl := rv.length
    exact wpAny_pyNext_list_end (I.ok.hd hc) st p.isList (by simp; omega) fun h' eb => ⟨rfl, I.turned (t' := s.toks) (fun b o hb e => eb b o hb e) f0 f1 f3 f4 f5⟩
  self := fun _ _ _ _ _ st h => wpAny_pyIter_listiter st h
theorem turn_range {P : Program} {w : World} {K : PySem.W.Frag} {tg : Expr} (it : Addr) (lo : Int) (n : Nat) : Turn P w K tg (Itr lo n) [it] it (fun i h => IsRangeIter h it (lo + (i : Nat) * 1) ((n : Int) - (i : Nat)) 1) where
  mem := by simp
  obj := fun i h st b hb => by
    have e : b = it := by simpa using hb
    subst e
    exact ⟨_, st, fun v z => by
      have z' : Data.fields _ = Data.cell v := z
      cases z'⟩
  keep := fun i h h' st k => k it (by simp) _ st
  item := by
    intro X hP hw hK hc i pins s σ H E I hf st hg
    subst hP hw hK
    obtain ⟨f0, f1, f2, f3, f4, f5⟩ := hf it (by simp)
    have W := Walks.range (prog := X.prog) (w := X.w) (I.ok.hd hc) it lo 1 n
    refine W.item i s _ _ hg st fun v h' tk hv st' kk => ?_
    obtain ⟨t, rfl⟩ := hv
    have I1 : Inv X pins σ H { s with heap := h', toks := tk } := I.turned (fun b o hb e => kk b o (by simpa using hb) e) f0 f1 f3 f4 f5
    refine ⟨_, rfl, go_of (s := { s with heap := h', toks := tk }) (n := "range_iterator") st' rfl rfl (by decide) ⟨.int (lo + i), H, I1, ⟨t, ?_⟩, ⟨rfl, rfl⟩, st', fun b hb => (hf b hb).1⟩⟩
    rw [Int.mul_one]
  done := by
    intro X hP hw hK hc i pins s σ H E I hf st hg
    subst hP hw hK
    obtain ⟨f0, f1, f2, f3, f4, f5⟩ := hf it (by simp)
    exact wpAny_pyNext_range_end (I.ok.hd hc) st (by have : n ≤ i := hg; omega) fun h' eb => ⟨rfl, I.turned (t' := s.toks) (fun b o hb e => eb b o hb e) f0 f1 f3 f4 f5⟩
  self := fun _ _ _ _ _ st h => wpAny_pyIter_rangeiter st h
end L2

namespace L2
open PySem PySem.Spec PyProof.Rows
section
variable {X : Cx} {tg : Expr}
def iList (K : PySem.W.Frag) (tl : TE) : TI := fun σ H R => tl σ H fun x H1 => ∃ a, x = .ref a ∧ (∃ xs, SqL K H1 a xs) ∧ R (Itl K a) H1
theorem pi_list {l : Expr} {tl : TE} (hl : PE X l tl) : PI X tg l (iList X.K tl) := by
  intro pins s σ H R I h
  refine thn (hl pins s σ H _ I h) fun v s1 ⟨x, H1, I1, r1, q1⟩ => ?_
  obtain ⟨a, e, ⟨xs, hq⟩, q⟩ := q1
  subst e
  cases r1
  obtain ⟨its, rv, p, hz⟩ := I1.list hq
  refine wpAny_pyIter_list p.isList ?_
  refine ⟨s1.heap.objs.size, [s1.heap.objs.size], _, _, H1, rfl, I1.kept (t' := s1.toks) fun b o e => Heap.get?_push_of_some _ e, turn_list a _, ⟨_, Heap.get?_push_size _ rfl, rfl, rfl⟩, fun b hb => ?_, q⟩
  have e : b = s1.heap.objs.size := by simpa using hb
  subst e
  exact I1.fpOk (Nat.le_refl _) (I1.hok.fresh (Nat.le_refl _))
/-- a range object just made, walked -/
theorem range_it {pins : List (Addr × Obj)} {σ : St} {H : Hp} {s : Shared} {R : It → Hp → Prop} {E : Value → Shared → Prop} {lo hi : Int} {t u v : Tok} {tk : Nat} (I : Inv X pins σ H s) (h1 : -(2 ^ 62) ≤ lo) (h2 : lo < 2 ^ 62) (h3 : -(2 ^ 62) ≤ hi) (h4 : hi < 2 ^ 62)
    (q : R (Itr lo (hi - lo).toNat) H) : wpAny (model X.prog X.w) X.A (pyIter (.ref s.heap.objs.size)) (PIE X pins σ tg R) E { s with heap := s.heap.push { cls := .type "range", data := .fields #[.int lo t, .int hi u, .int 1 v] }, toks := tk } := by
  refine wpAny_pyIter_range (IsRange.new ..) (small_one h1 h2 h3 h4) ?_
  have I1 : Inv X pins σ H { s with heap := s.heap.push { cls := .type "range", data := .fields #[.int lo t, .int hi u, .int 1 v] }, toks := tk } := I.kept fun b o e => Heap.get?_push_of_some _ e
  refine ⟨(s.heap.push { cls := .type "range", data := .fields #[.int lo t, .int hi u, .int 1 v] }).objs.size, [(s.heap.push { cls := .type "range", data := .fields #[.int lo t, .int hi u, .int 1 v] }).objs.size], _, _, H, rfl,
    I1.kept (t' := tk) fun b o e => Heap.get?_push_of_some _ e, turn_range _ lo (hi - lo).toNat, ?_, fun b hb => ?_, q⟩
  · have e1 : lo + ((0 : Nat) : Int) * 1 = lo := by simp
    have e2 : (((hi - lo).toNat : Nat) : Int) - ((0 : Nat) : Int) = Builtin.Range.rangeSize lo hi 1 := by rw [rangeSize_one]; split <;> omega
    show IsRangeIter _ _ (lo + ((0 : Nat) : Int) * 1) ((((hi - lo).toNat : Nat) : Int) - ((0 : Nat) : Int)) 1
    rw [e1, e2]
    exact Heap.get?_push_size _ rfl
  · have e : b = (s.heap.push { cls := .type "range", data := .fields #[.int lo t, .int hi u, .int 1 v] }).objs.size := by simpa using hb
    subst e
    exact I1.fpOk (Nat.le_refl _) (I1.hok.fresh (Nat.le_refl _))
def iRng1 (ta : TA) : TI := fun σ H R => ta σ H fun vs H1 => ∃ j : Int, vs = [.int j] ∧ -(2 ^ 62) ≤ j ∧ j < 2 ^ 62 ∧ R (Itr 0 j.toNat) H1
def iRng2 (ta : TA) : TI := fun σ H R => ta σ H fun vs H1 => ∃ i j : Int, vs = [.int i, .int j] ∧ (-(2 ^ 62) ≤ i ∧ i < 2 ^ 62 ∧ -(2 ^ 62) ≤ j ∧ j < 2 ^ 62) ∧ R (Itr i (j - i).toNat) H1
theorem pi_range1 {a : Expr} {ta : TA} {p pos : Pos} (hg : Gl X "range") (hm : X.mg "range" = none) (ha : PA X [a] ta) (hs : starEach [a] X.env = [(false, eval a X.env)] := by rfl) : PI X tg (.Call (.Name "range" p) [a] [] pos) (iRng1 ta) := by
  intro pins s σ H R I h
  refine Call_ (ld_blt I hg hm boot_range (PyProof.Rows.callWith_type1 (thn (ha pos pins s σ H _ I h) fun us s1 ⟨vs, H1, I1, r1, q1⟩ => ?_) hs rfl))
  obtain ⟨j, e, q1, q2, q⟩ := q1
  subst e
  cases r1 with
  | cons r rr =>
    cases rr
    obtain ⟨t, rfl⟩ := r
    exact call_range_1 (range_it I1 (by omega) (by omega) q1 q2 (by simpa using q))
theorem pi_range2 {a b : Expr} {ta : TA} {p pos : Pos} (hg : Gl X "range") (hm : X.mg "range" = none) (ha : PA X [a, b] ta) (hs : starEach [a, b] X.env = [(false, eval a X.env), (false, eval b X.env)] := by rfl) (hs2 : starEach [b] X.env = [(false, eval b X.env)] := by rfl) :
    PI X tg (.Call (.Name "range" p) [a, b] [] pos) (iRng2 ta) := by
  intro pins s σ H R I h
  refine Call_ (ld_blt I hg hm boot_range (PyProof.Rows.callWith_type1 (thn (ha pos pins s σ H _ I h) fun us s1 ⟨vs, H1, I1, r1, q1⟩ => ?_) (by rw [hs, hs2]) (by rw [hs2]; rfl)))
  obtain ⟨i, j, e, ⟨q1, q2, q3, q4⟩, q⟩ := q1
  subst e
  cases r1 with
  | cons r rr =>
    cases rr with
    | cons r' rr =>
      cases rr
      obtain ⟨t, rfl⟩ := r
      obtain ⟨t', rfl⟩ := r'
      exact call_range_2 (range_it I1 q1 q2 q3 q4 q)

/-! ### for -/
/-- W: the invariant by the turn and a measure; N: what the body is to reach -/
def tFor (wi : TI) (g : TG) (tb : TS) : TS := fun D σ H => wi σ H fun J H1 => ∃ W : Nat → Nat → St → Hp → Prop, (∃ m, W 0 m σ H1) ∧ ∀ i m σ H, W i m σ H →
  (J.stop i H ∧ D.nx σ H) ∨ (J.go i H ∧ ∃ N : St → Hp → Prop, (∀ σ' H', N σ' H' → ∃ m', m' < m ∧ W (i + 1) m' σ' H') ∧ ∀ x H', J.yld i H x H' → g x σ H' fun σ2 H2 => tb { D with nx := N, ct := N, bk := D.nx } σ2 H2)
/-- the records at fp as they stand -/
def pinsAt (fp : List Addr) (h : Heap) : List (Addr × Obj) := fp.filterMap fun b => (h.get? b).map fun o => (b, o)
theorem mem_pinsAt {fp : List Addr} {h : Heap} {b : Addr} {o : Obj} (hb : b ∈ fp) (e : h.get? b = some o) : (b, o) ∈ pinsAt fp h := List.mem_filterMap.mpr ⟨b, hb, by rw [e]; rfl⟩
theorem of_pinsAt {fp : List Addr} {h : Heap} {p : Addr × Obj} (hp : p ∈ pinsAt fp h) : p.1 ∈ fp ∧ h.get? p.1 = some p.2 := by
  obtain ⟨b, hb, e⟩ := List.mem_filterMap.mp hp
  cases q : h.get? b with
  | none => rw [q] at e; cases e
  | some o =>
    rw [q] at e
    have e' : (b, o) = p := Option.some.inj e
    subst e'
    exact ⟨hb, q⟩
theorem Inv.pinned {pins : List (Addr × Obj)} {σ : St} {H : Hp} {s : Shared} {fp : List Addr} (I : Inv X pins σ H s) (hf : ∀ b ∈ fp, FpOk X pins H b) (ho : ∀ b ∈ fp, ∃ o, s.heap.get? b = some o ∧ ∀ v, o.data ≠ .cell v) : Inv X (pins ++ pinsAt fp s.heap) σ H s :=
  I.pins_of fun p hp => (List.mem_append.mp hp).elim (fun z => I.pin p (List.mem_append_right _ z)) fun z => by
    obtain ⟨hb, e⟩ := of_pinsAt z
    obtain ⟨f0, f1, f2, _⟩ := hf p.1 hb
    obtain ⟨o, e', d⟩ := ho p.1 hb
    rw [e] at e'; cases e'
    exact ⟨e, f0, f1, f2, d⟩
theorem Inv.unpinned {pins pl : List (Addr × Obj)} {σ : St} {H : Hp} {s : Shared} (I : Inv X (pins ++ pl) σ H s) : Inv X pins σ H s := I.pins_of fun p hp => I.pin p (List.mem_append_right _ (List.mem_append_left _ hp))
theorem ps_for {iter : Expr} {body : List Stmt} {wi : TI} {g : TG} {tb : TS} {pos : Pos} (hp : PassesOwn (model X.prog X.w) X.A X.env X.xe) (hc : X.calm = true) (hi : PI X tg iter wi) (hg : PG X tg g) (hb : PSs X body tb)
    (hs : ∀ x, foldedSetIterable iter X.env x = pure x := by intro _; rfl) : PS X (.For tg iter body [] pos) (tFor wi g tb) := by
  intro pins s σ H D I h
  refine wpAny_For (thn (hi pins s σ H _ I h) fun v s1 h1 => thn h1 fun itv s2 h2 => ?_) hs
  obtain ⟨it, fp, tn, J, H2, e, I2, T, st2, f2, W, ⟨m0, w0⟩, turn⟩ := h2
  subst e
  -- what stays true of the iterator's objects through the loop
  have stat : ∀ {H' : Hp}, (∀ b ∈ fp, H' b = none) → ∀ b ∈ fp, FpOk X pins H' b := fun hn b hb => ⟨hn b hb, (f2 b hb).2⟩
  refine codeAny_forLoop_any (fun n s' => ∃ i σ' H', Inv X pins σ' H' s' ∧ tn i s'.heap ∧ (∀ b ∈ fp, H' b = none) ∧ W i n σ' H') ?_ m0 ⟨0, σ, H2, I2, st2, fun b hb => (f2 b hb).1, w0⟩
  rintro n s3 ⟨i, σ3, H3, I3, st3, fr3, w3⟩
  rcases turn i n σ3 H3 w3 with ⟨stop, qn⟩ | ⟨go, N, hN, step⟩
  · refine wpAny_passesOwn hp (thn (T.done X rfl rfl rfl hc i pins s3 σ3 H3 X.xe I3 (stat fr3) st3 stop) fun r s4 ⟨hr, I4⟩ => ?_)
    subst hr
    exact wpAny_execs_nil ⟨σ3, H3, I4, qn⟩
  · refine wpAny_passesOwn hp (thn (T.item X rfl rfl rfl hc i pins s3 σ3 H3 X.xe I3 (stat fr3) st3 go) fun r s4 ⟨u, hr, h4⟩ => ?_)
    subst hr
    refine wpAny_passesOwn hp (thn h4 fun _ s5 ⟨x, H5, I5, r5, y5, st5, fr5⟩ => ?_)
    have I5' := I5.pinned (stat fr5) (T.obj _ _ st5)
    refine wpAny_passesOwn hp (thn (hg _ s5 σ3 H5 x u _ I5' r5 (step x H5 y5)) fun _ s6 ⟨σ6, H6, I6, q6⟩ => ?_)
    refine wpAny_passesOwn hp (thn (hb _ s6 σ6 H6 _ I6 q6) fun f s7 q7 => ?_)
    have again : ∀ {σ7 : St} {H7 : Hp}, Inv X (pins ++ pinsAt fp s5.heap) σ7 H7 s7 → N σ7 H7 → ∃ m, m < n ∧ ∃ i σ' H', Inv X pins σ' H' s7 ∧ tn i s7.heap ∧ (∀ b ∈ fp, H' b = none) ∧ W i m σ' H' := fun {σ7 H7} I7 n7 => by
      obtain ⟨m', hm, w7⟩ := hN σ7 H7 n7
      refine ⟨m', hm, i + 1, σ7, H7, I7.unpinned, T.keep _ _ _ st5 fun b hb o e => (I7.pin (b, o) (List.mem_append_right _ (List.mem_append_right _ (mem_pinsAt hb e)))).1, fun b hb => ?_, w7⟩
      obtain ⟨o, e, d⟩ := T.obj _ _ st5 b hb
      exact (I7.pin (b, o) (List.mem_append_right _ (List.mem_append_right _ (mem_pinsAt hb e)))).2.1
    cases f with
    | next => obtain ⟨σ7, H7, I7, n7⟩ := q7; exact again I7 n7
    | cont => obtain ⟨σ7, H7, I7, n7⟩ := q7; exact again I7 n7
    | brk => obtain ⟨σ7, H7, I7, q7⟩ := q7; exact ⟨σ7, H7, I7.unpinned, q7⟩
    | ret v => obtain ⟨x7, σ7, H7, I7, r7, q7⟩ := q7; exact ⟨x7, σ7, H7, I7.unpinned, r7, q7⟩
end

/-! ### the forms one uses -/
/-- over a list that the body leaves as it is -/
theorem for_list {K : PySem.W.Frag} {a : Addr} {xs : List V} {g : TG} {tb : TS} {D : Ends} {σ : St} {H : Hp} (Pv : Nat → St → Hp → Prop) (h0 : Pv 0 σ H) (hl : ∀ i σ H, i ≤ xs.length → Pv i σ H → SqL K H a xs)
    (hs : ∀ i x σ H, xs[i]? = some x → Pv i σ H → g x σ H fun σ2 H2 => tb { D with nx := Pv (i + 1), ct := Pv (i + 1), bk := D.nx } σ2 H2) (hd : ∀ σ H, Pv xs.length σ H → D.nx σ H) :
    ∃ W : Nat → Nat → St → Hp → Prop, (∃ m, W 0 m σ H) ∧ ∀ i m σ H, W i m σ H →
      ((Itl K a).stop i H ∧ D.nx σ H) ∨ ((Itl K a).go i H ∧ ∃ N : St → Hp → Prop, (∀ σ' H', N σ' H' → ∃ m', m' < m ∧ W (i + 1) m' σ' H') ∧ ∀ x H', (Itl K a).yld i H x H' → g x σ H' fun σ2 H2 => tb { D with nx := N, ct := N, bk := D.nx } σ2 H2) := by
  refine ⟨fun i m σ H => m = xs.length - i ∧ i ≤ xs.length ∧ Pv i σ H, ⟨xs.length, by simp, Nat.zero_le _, h0⟩, ?_⟩
  rintro i m σ H ⟨rfl, hi, p⟩
  have q := hl i σ H hi p
  by_cases hlt : i < xs.length
  · refine .inr ⟨⟨xs, xs[i], q, by simp [hlt]⟩, Pv (i + 1), fun σ' H' p' => ⟨xs.length - (i + 1), by omega, rfl, hlt, p'⟩, fun x H' y => ?_⟩
    obtain ⟨e, y⟩ := y
    subst e
    exact hs i x σ _ (y xs q) p
  · have e : i = xs.length := by omega
    subst e
    exact .inl ⟨⟨xs, q, Nat.le_refl _⟩, hd σ H p⟩
theorem for_range {lo : Int} {n : Nat} {g : TG} {tb : TS} {D : Ends} {σ : St} {H : Hp} (Pv : Nat → St → Hp → Prop) (h0 : Pv 0 σ H)
    (hs : ∀ i σ H, i < n → Pv i σ H → g (.int (lo + i)) σ H fun σ2 H2 => tb { D with nx := Pv (i + 1), ct := Pv (i + 1), bk := D.nx } σ2 H2) (hd : ∀ σ H, Pv n σ H → D.nx σ H) :
    ∃ W : Nat → Nat → St → Hp → Prop, (∃ m, W 0 m σ H) ∧ ∀ i m σ H, W i m σ H →
      ((Itr lo n).stop i H ∧ D.nx σ H) ∨ ((Itr lo n).go i H ∧ ∃ N : St → Hp → Prop, (∀ σ' H', N σ' H' → ∃ m', m' < m ∧ W (i + 1) m' σ' H') ∧ ∀ x H', (Itr lo n).yld i H x H' → g x σ H' fun σ2 H2 => tb { D with nx := N, ct := N, bk := D.nx } σ2 H2) := by
  refine ⟨fun i m σ H => m = n - i ∧ i ≤ n ∧ Pv i σ H, ⟨n, by simp, Nat.zero_le _, h0⟩, ?_⟩
  rintro i m σ H ⟨rfl, hi, p⟩
  by_cases hlt : i < n
  · refine .inr ⟨hlt, Pv (i + 1), fun σ' H' p' => ⟨n - (i + 1), by omega, rfl, hlt, p'⟩, fun x H' y => ?_⟩
    obtain ⟨e, y⟩ := y
    subst e y
    exact hs i σ _ hlt p
  · have e : i = n := by omega
    subst e
    exact .inl ⟨Nat.le_refl _, hd σ H p⟩
end L2

namespace L2
open PySem PySem.Spec PyProof.Rows

abbrev R2 := V → V → Hp → VK → Prop
/-- a two-place operation on values: f is binaryOp op, inplaceOp op or compareOp op -/
def OpR (X : Cx) (f : Value → Value → Sem Value) (r : R2) : Prop :=
  ∀ (pins : List (Addr × Obj)) (s : Shared) (σ : St) (H : Hp) (x y : V) (v u : Value) (Q : VK), Inv X pins σ H s → RelV x v → RelV y u → r x y H Q →
    wpAny (model X.prog X.w) X.A (f v u) (EP X pins σ Q) X.xe s
/-- a one-place operation -/
def UnR (X : Cx) (f : Value → Sem Value) (r : V → Hp → VK → Prop) : Prop :=
  ∀ (pins : List (Addr × Obj)) (s : Shared) (σ : St) (H : Hp) (x : V) (v : Value) (Q : VK), Inv X pins σ H s → RelV x v → r x H Q →
    wpAny (model X.prog X.w) X.A (f v) (EP X pins σ Q) X.xe s
/-- a call of a value that is known (a builtin, a type) with values -/
def CallR (X : Cx) (f : Value) (r : List V → Hp → VK → Prop) : Prop :=
  ∀ (pins : List (Addr × Obj)) (s : Shared) (σ : St) (H : Hp) (xs : List V) (us : List Value) (Q : VK), Inv X pins σ H s → Vals xs us → r xs H Q →
    wpAny (model X.prog X.w) X.A (call f us) (EP X pins σ Q) X.xe s

def tOp (r : R2) (ta tb : TE) : TE := fun σ H Q => ta σ H fun x H1 => tb σ H1 fun y H2 => r x y H2 Q
def tUn (r : V → Hp → VK → Prop) (ta : TE) : TE := fun σ H Q => ta σ H fun x H1 => r x H1 Q
/-- ints in, under C, and a value out -/
def rI (C : Int → Int → Prop) (g : Int → Int → V) : R2 := fun x y H Q => ∃ i j, x = .int i ∧ y = .int j ∧ C i j ∧ Q (g i j) H
def rI0 (g : Int → Int → V) : R2 := fun x y H Q => ∃ i j, x = .int i ∧ y = .int j ∧ Q (g i j) H
def rU (g : Int → V) : V → Hp → VK → Prop := fun x H Q => ∃ i, x = .int i ∧ Q (g i) H

section
variable {X : Cx} {a b c : Expr} {ta tb tc : TE} {pos : Pos}

theorem binT (ha : PE X a ta) (hb : PE X b tb) {pins : List (Addr × Obj)} {s : Shared} {σ : St} {H : Hp} {R : V → V → Hp → Prop} (I : Inv X pins σ H s)
    (h : ta σ H fun x H1 => tb σ H1 fun y H2 => R x y H2) {Q : Value → Shared → Prop} {f : Value → Value → Sem Value}
    (hf : ∀ v u s2 x y H2, Inv X pins σ H2 s2 → RelV x v → RelV y u → R x y H2 → wpAny (model X.prog X.w) X.A (f v u) Q X.xe s2) :
    wpAny (model X.prog X.w) X.A (eval a X.env) (fun v s₁ => wpAny (model X.prog X.w) X.A (eval b X.env) (fun u s₂ => wpAny (model X.prog X.w) X.A (f v u) Q X.xe s₂) X.xe s₁) X.xe s := by
  refine thn (ha pins s σ H _ I h) fun v s1 ⟨x, H1, I1, r1, q1⟩ => ?_
  refine thn (hb pins s1 σ H1 _ I1 q1) fun u s2 ⟨y, H2, I2, r2, q2⟩ => ?_
  exact hf v u s2 x y H2 I2 r1 r2 q2

theorem pe_op {op : Operator} {r : R2} (ho : OpR X (binaryOp op) r) (ha : PE X a ta) (hb : PE X b tb) : PE X (.BinOp a op b pos) (tOp r ta tb) := by
  intro pins s σ H Q I h
  exact wpAny_BinOp (binT ha hb I h fun v u s2 x y H2 I2 rx ry q => ho pins s2 σ H2 x y v u Q I2 rx ry q)
theorem pe_un {op : UnaryOp} {r : V → Hp → VK → Prop} (ho : UnR X (unaryOp op) r) (ha : PE X a ta) : PE X (.UnaryOp op a pos) (tUn r ta) := by
  intro pins s σ H Q I h
  exact UnaryOp_ (thn (ha pins s σ H _ I h) fun v s1 ⟨x, H1, I1, r1, q1⟩ => ho pins s1 σ H1 x v Q I1 r1 q1)

/-! ### ints -/
theorem opI {f : Value → Value → Sem Value} {C : Int → Int → Prop} {g : Int → Int → Int}
    (rule : ∀ (i j : Int) (t u : Tok) (s : Shared) (Q : Value → Shared → Prop) (E : Value → Shared → Prop), C i j → Q (.int (g i j) s.toks) { s with toks := s.toks + 1 } → wpAny (model X.prog X.w) X.A (f (.int i t) (.int j u)) Q E s) :
    OpR X f (rI C fun i j => .int (g i j)) := by
  intro pins s σ H x y v u Q I rx ry h
  obtain ⟨i, j, rfl, rfl, hc, q⟩ := h
  obtain ⟨t, rfl⟩ := rx
  obtain ⟨t', rfl⟩ := ry
  exact rule i j t t' s _ _ hc ⟨.int (g i j), H, I.tok _, ⟨_, rfl⟩, q⟩
theorem opI0 {f : Value → Value → Sem Value} {g : Int → Int → Int}
    (rule : ∀ (i j : Int) (t u : Tok) (s : Shared) (Q : Value → Shared → Prop) (E : Value → Shared → Prop), Q (.int (g i j) s.toks) { s with toks := s.toks + 1 } → wpAny (model X.prog X.w) X.A (f (.int i t) (.int j u)) Q E s) :
    OpR X f (rI0 fun i j => .int (g i j)) := by
  intro pins s σ H x y v u Q I rx ry h
  obtain ⟨i, j, rfl, rfl, q⟩ := h
  obtain ⟨t, rfl⟩ := rx
  obtain ⟨t', rfl⟩ := ry
  exact rule i j t t' s _ _ ⟨.int (g i j), H, I.tok _, ⟨_, rfl⟩, q⟩
theorem opB0 {f : Value → Value → Sem Value} {g : Int → Int → Bool}
    (rule : ∀ (i j : Int) (t u : Tok) (s : Shared) (Q : Value → Shared → Prop) (E : Value → Shared → Prop), Q (.bool (g i j)) s → wpAny (model X.prog X.w) X.A (f (.int i t) (.int j u)) Q E s) :
    OpR X f (rI0 fun i j => .bl (g i j)) := by
  intro pins s σ H x y v u Q I rx ry h
  obtain ⟨i, j, rfl, rfl, q⟩ := h
  obtain ⟨t, rfl⟩ := rx
  obtain ⟨t', rfl⟩ := ry
  exact rule i j t t' s _ _ ⟨.bl (g i j), H, I, rfl, q⟩

def CDiv (i j : Int) : Prop := 0 < j ∧ j < 1073741824
def CPow (i j : Int) : Prop := 0 ≤ j ∧ j ≤ 1000000 ∧ i.natAbs < 2 ^ 64
def CMul (i j : Int) : Prop := (-(2 ^ 64) < i ∧ i < 2 ^ 64) ∨ (-(2 ^ 64) < j ∧ j < 2 ^ 64)
theorem CMul.ok {i j : Int} (h : CMul i j) : IntMulOk i j := by
  rcases h with ⟨h1, h2⟩ | ⟨h1, h2⟩
  · exact .of_left (intBits_le_64 h1 h2)
  · exact .of_right (intBits_le_64 h1 h2)

theorem op_add : OpR X (binaryOp .Add) (rI0 fun i j => .int (i + j)) := opI0 fun _ _ _ _ _ _ _ q => add_int q
theorem op_sub : OpR X (binaryOp .Sub) (rI0 fun i j => .int (i - j)) := opI0 fun _ _ _ _ _ _ _ q => sub_int q
theorem op_mul : OpR X (binaryOp .Mult) (rI CMul fun i j => .int (i * j)) := opI fun _ _ _ _ _ _ _ hc q => mul_int q hc.ok
/-- // by a positive divisor -/
theorem op_fdiv : OpR X (binaryOp .FloorDiv) (rI CDiv fun i j => .int (i / j)) := opI fun i j _ _ _ _ _ hc q => by
  have h1 : (0 : Int) < j := hc.1
  have h2 : j < 1073741824 := hc.2
  exact floordiv_int (by omega) (by rw [Int.fdiv_eq_ediv_of_nonneg i (by omega)]; exact q) (.inl (PyProof.noPylong_small (by omega)))
/-- % by a positive divisor of any size -/
theorem op_mod : OpR X (binaryOp .Mod) (rI (fun _ j => 0 < j) fun i j => .int (i % j)) := opI fun i j _ _ _ _ _ hc q => by
  have h1 : (0 : Int) < j := hc
  exact mod_int' (by omega) (by rw [Int.fmod_eq_emod_of_nonneg i (by omega)]; exact q)
theorem op_pow : OpR X (binaryOp .Pow) (rI CPow fun i j => .int (i ^ j.toNat)) := opI fun _ _ _ _ _ _ _ hc q => pow_int_small hc.1 hc.2.1 hc.2.2 q
theorem op_and : OpR X (binaryOp .BitAnd) (rI0 fun i j => .int (Builtin.bitAnd i j)) := opI0 fun _ _ _ _ _ _ _ q => and_int q
theorem op_or : OpR X (binaryOp .BitOr) (rI0 fun i j => .int (Builtin.bitOr i j)) := opI0 fun _ _ _ _ _ _ _ q => or_int q


theorem unI {f : Value → Sem Value} {g : Int → Int}
    (rule : ∀ (i : Int) (t : Tok) (s : Shared) (Q : Value → Shared → Prop) (E : Value → Shared → Prop), Q (.int (g i) s.toks) { s with toks := s.toks + 1 } → wpAny (model X.prog X.w) X.A (f (.int i t)) Q E s) :
    UnR X f (rU fun i => .int (g i)) := by
  intro pins s σ H x v Q I rx h
  obtain ⟨i, rfl, q⟩ := h
  obtain ⟨t, rfl⟩ := rx
  exact rule i t s _ _ ⟨.int (g i), H, I.tok _, ⟨_, rfl⟩, q⟩
theorem un_neg : UnR X (unaryOp .USub) (rU fun i => .int (-i)) := unI fun _ _ _ _ _ q => neg_int q

/-! ### bools among ints: n += (a < b) -/
end

/-! ### comparisons -/
/-- the scalars that == tells apart as data does -/
def scal : V → V → Bool
  | .non, .non => true | .non, .int _ => true | .int _, .non => true | .non, .bl _ => true | .bl _, .non => true | .non, .str _ => true | .str _, .non => true
  | .int _, .int _ => true | .bl _, .bl _ => true | .str _, .str _ => true | .byt _, .byt _ => true
  | .int _, .str _ => true | .str _, .int _ => true | .bl _, .str _ => true | .str _, .bl _ => true
  | _, _ => false
def rEq : R2 := fun x y H Q => scal x y = true ∧ Q (.bl (decide (x = y))) H
def rNe : R2 := fun x y H Q => scal x y = true ∧ Q (.bl (!decide (x = y))) H

theorem dec_int {i j : Int} : decide (V.int i = V.int j) = (i == j) := by
  rw [Bool.eq_iff_iff]
  simp
theorem dec_bl {i j : Bool} : decide (V.bl i = V.bl j) = (i == j) := by
  rw [Bool.eq_iff_iff]
  simp
theorem dec_str {i j : Str} : decide (V.str i = V.str j) = (i == j) := by
  rw [Bool.eq_iff_iff]
  simp
theorem dec_byt {i j : Array UInt8} : decide (V.byt i = V.byt j) = (i.toList == j.toList) := by
  rw [Bool.eq_iff_iff]
  cases i
  cases j
  simp

section
variable {X : Cx} {a b c : Expr} {ta tb tc : TE} {pos : Pos}
theorem fin_bl {pins : List (Addr × Obj)} {σ : St} {H : Hp} {s : Shared} {Q : VK} {k k' : Bool} (I : Inv X pins σ H s) (q : Q (.bl k) H) (e : k = k') : EP X pins σ Q (.bool k') s := by
  subst e
  exact ⟨.bl k, H, I, rfl, q⟩
theorem op_eq : OpR X (compareOp .Eq) rEq := by
  intro pins s σ H x y v u Q I rx ry h
  obtain ⟨hs, q⟩ := h
  cases x with
  | non =>
    cases rx
    cases y with
    | non => cases ry; exact PySem.EqNone.eq_none_none (fin_bl I q (by simp))
    | bl j => cases ry; exact PySem.EqNone.eq_none_bool (fin_bl I q (by simp))
    | int j => obtain ⟨t', rfl⟩ := ry; exact PySem.EqNone.eq_none_int (fin_bl I q (by simp))
    | str j => obtain ⟨t', rfl⟩ := ry; exact PySem.EqNone.eq_none_str (fin_bl I q (by simp))
    | _ => exact absurd (show false = true from hs) Bool.false_ne_true
  | bl i =>
    cases rx
    cases y with
    | non => cases ry; exact PySem.EqNone.eq_bool_none (fin_bl I q (by simp))
    | bl j => cases ry; exact eq_bool (fin_bl I q dec_bl)
    | str j => obtain ⟨t', rfl⟩ := ry; exact PySem.EqMixed.eq_bool_str (fin_bl I q (by simp))
    | _ => exact absurd (show false = true from hs) Bool.false_ne_true
  | int i =>
    obtain ⟨t, rfl⟩ := rx
    cases y with
    | non => cases ry; exact PySem.EqNone.eq_int_none (fin_bl I q (by simp))
    | int j => obtain ⟨t', rfl⟩ := ry; exact eq_int (fin_bl I q dec_int)
    | str j => obtain ⟨t', rfl⟩ := ry; exact PySem.EqMixed.eq_int_str (fin_bl I q (by simp))
    | _ => exact absurd (show false = true from hs) Bool.false_ne_true
  | str i =>
    obtain ⟨t, rfl⟩ := rx
    cases y with
    | non => cases ry; exact PySem.EqNone.eq_str_none (fin_bl I q (by simp))
    | bl j => cases ry; exact PySem.EqMixed.eq_str_bool (fin_bl I q (by simp))
    | int j => obtain ⟨t', rfl⟩ := ry; exact PySem.EqMixed.eq_str_int (fin_bl I q (by simp))
    | str j => obtain ⟨t', rfl⟩ := ry; exact eq_str (fin_bl I q dec_str)
    | _ => exact absurd (show false = true from hs) Bool.false_ne_true
  | byt i =>
    obtain ⟨t, rfl⟩ := rx
    cases y with
    | byt j => obtain ⟨t', rfl⟩ := ry; exact PySem.W.eq_bytes (fin_bl I q dec_byt)
    | _ => exact absurd (show false = true from hs) Bool.false_ne_true
  | _ => cases y <;> exact absurd (show false = true from hs) Bool.false_ne_true
theorem op_ne : OpR X (compareOp .NotEq) rNe := by
  intro pins s σ H x y v u Q I rx ry h
  obtain ⟨hs, q⟩ := h
  cases x with
  | non =>
    cases rx
    cases y with
    | non => cases ry; exact PySem.EqNone.ne_none_none (fin_bl I q (by simp))
    | bl j => cases ry; exact PySem.EqNone.ne_none_bool (fin_bl I q (by simp))
    | int j => obtain ⟨t', rfl⟩ := ry; exact PySem.EqNone.ne_none_int (fin_bl I q (by simp))
    | str j => obtain ⟨t', rfl⟩ := ry; exact PySem.EqNone.ne_none_str (fin_bl I q (by simp))
    | _ => exact absurd (show false = true from hs) Bool.false_ne_true
  | bl i =>
    cases rx
    cases y with
    | non => cases ry; exact PySem.EqNone.ne_bool_none (fin_bl I q (by simp))
    | bl j => cases ry; exact ne_bool (fin_bl I q (congrArg not dec_bl))
    | str j => obtain ⟨t', rfl⟩ := ry; exact PySem.EqMixed.ne_bool_str (fin_bl I q (by simp))
    | _ => exact absurd (show false = true from hs) Bool.false_ne_true
  | int i =>
    obtain ⟨t, rfl⟩ := rx
    cases y with
    | non => cases ry; exact PySem.EqNone.ne_int_none (fin_bl I q (by simp))
    | int j => obtain ⟨t', rfl⟩ := ry; exact ne_int (fin_bl I q (congrArg not dec_int))
    | str j => obtain ⟨t', rfl⟩ := ry; exact PySem.EqMixed.ne_int_str (fin_bl I q (by simp))
    | _ => exact absurd (show false = true from hs) Bool.false_ne_true
  | str i =>
    obtain ⟨t, rfl⟩ := rx
    cases y with
    | non => cases ry; exact PySem.EqNone.ne_str_none (fin_bl I q (by simp))
    | bl j => cases ry; exact PySem.EqMixed.ne_str_bool (fin_bl I q (by simp))
    | int j => obtain ⟨t', rfl⟩ := ry; exact PySem.EqMixed.ne_str_int (fin_bl I q (by simp))
    | str j => obtain ⟨t', rfl⟩ := ry; exact ne_str (fin_bl I q (congrArg not dec_str))
    | _ => exact absurd (show false = true from hs) Bool.false_ne_true
  | byt i =>
    obtain ⟨t, rfl⟩ := rx
    cases y with
    | byt j => obtain ⟨t', rfl⟩ := ry; exact PySem.W.ne_bytes (fin_bl I q (congrArg not dec_byt))
    | _ => exact absurd (show false = true from hs) Bool.false_ne_true
  | _ => cases y <;> exact absurd (show false = true from hs) Bool.false_ne_true

theorem op_lt : OpR X (compareOp .Lt) (rI0 fun i j => .bl (decide (i < j))) := opB0 fun _ _ _ _ _ _ _ q => lt_int q
theorem op_gt : OpR X (compareOp .Gt) (rI0 fun i j => .bl (decide (j < i))) := opB0 fun _ _ _ _ _ _ _ q => gt_int q
theorem op_ge : OpR X (compareOp .GtE) (rI0 fun i j => .bl (decide (j ≤ i))) := opB0 fun _ _ _ _ _ _ _ q => ge_int q

/-- is None, is not None: the right side a value none -/
theorem op_isN : OpR X (compareOp .Is) (fun x y H Q => y = .non ∧ Q (.bl (decide (x = .non))) H) := by
  intro pins s σ H x y v u Q I rx ry h
  obtain ⟨rfl, q⟩ := h
  cases ry
  refine is_none_gen (fin_bl I q ?_)
  cases x <;> first
    | (cases rx; rfl)
    | (obtain ⟨t, rfl⟩ := rx; rfl)
theorem op_notN : OpR X (compareOp .IsNot) (fun x y H Q => y = .non ∧ Q (.bl (!decide (x = .non))) H) := by
  intro pins s σ H x y v u Q I rx ry h
  obtain ⟨rfl, q⟩ := h
  cases ry
  refine isnot_none_gen (fin_bl I q ?_)
  cases x <;> first
    | (cases rx; rfl)
    | (obtain ⟨t, rfl⟩ := rx; rfl)



theorem nomark (b : Expr) {op : CmpOp} (h : op ≠ .In := by decide) (h2 : op ≠ .NotIn := by decide) : behindInMarks op b = false := by
  have e1 : (op == CmpOp.In) = false := by cases op <;> first | rfl | exact absurd rfl h
  have e2 : (op == CmpOp.NotIn) = false := by cases op <;> first | rfl | exact absurd rfl h2
  cases b <;> simp [behindInMarks, e1, e2]
/-- a comparison as a value; hm: nomark b, or (for in, not in) by with_unfolding_all rfl -/
theorem pe_cmpR {op : CmpOp} {r : R2} (ho : OpR X (compareOp op) r) (ha : PE X a ta) (hb : PE X b tb) (hm : behindInMarks op b = false) : PE X (.Compare a [op] [b] pos) (tOp r ta tb) := by
  intro pins s σ H Q I h
  exact wpAny_Compare1 (binT ha hb I h fun v u s2 x y H2 I2 rx ry q => ho pins s2 σ H2 x y v u Q I2 rx ry q) hm
/-- a reading of a value as a test -/
def tTest (t : TE) : TT := fun σ H Q => t σ H fun x H' => ∃ k, x = .bl k ∧ Q k H'
theorem pt_cmpR {op : CmpOp} {r : R2} (ho : OpR X (compareOp op) r) (ha : PE X a ta) (hb : PE X b tb) (hm : behindInMarks op b = false) : PT X (.Compare a [op] [b] pos) (tTest (tOp r ta tb)) := by
  intro pins s σ H Q I h
  refine wpAny_isTrue_Compare1 (thn (ha pins s σ H _ I h) fun v s1 ⟨x, H1, I1, r1, q1⟩ => thn (hb pins s1 σ H1 _ I1 q1) fun u s2 ⟨y, H2, I2, r2, q2⟩ =>
    thn (ho pins s2 σ H2 x y v u _ I2 r1 r2 q2) fun c s3 ⟨z, H3, I3, r3, k, e, q3⟩ => ?_) hm
  subst e
  cases r3
  exact wpAny_truthy_bool ⟨H3, I3, q3⟩

/-! ### truth -/
theorem line63 : (sizeLine : Nat) < 2 ^ 63 := by rw [sizeLine_eq]; decide

/-! ### strs and bytes -/


/-! ### scalar builtins, by CallR -/
theorem vals1 {x : V} {us : List Value} (r : Vals [x] us) : ∃ u, us = [u] ∧ RelV x u := by
  cases r with
  | cons r1 r2 => cases r2; exact ⟨_, rfl, r1⟩
theorem vals2 {x y : V} {us : List Value} (r : Vals [x, y] us) : ∃ u w', us = [u, w'] ∧ RelV x u ∧ RelV y w' := by
  cases r with
  | cons r1 r2 =>
    cases r2 with
    | cons r3 r4 => cases r4; exact ⟨_, _, rfl, r1, r3⟩
theorem call_max2 (hc : X.calm = true) : CallR X (.builtin "max") (fun xs H Q => ∃ i j, xs = [.int i, .int j] ∧ Q (.int (if j > i then j else i)) H) := by
  intro pins s σ H xs us Q I r h
  obtain ⟨i, j, rfl, q⟩ := h
  obtain ⟨u, w', rfl, ⟨t, rfl⟩, ⟨t', rfl⟩⟩ := vals2 r
  refine max_two_ints (I.ok.hd hc) fun h' tk k => ⟨_, H, I.kept k, ?_, q⟩
  by_cases hj : j > i
  · rw [if_pos hj, if_pos hj]; exact ⟨_, rfl⟩
  · rw [if_neg hj, if_neg hj]; exact ⟨_, rfl⟩
end
end L2

namespace L2
open PySem PySem.Spec PyProof.Rows

/-! ### an instance, its attributes a map -/
structure ObjM (h : Heap) (x dx C : Addr) (mA : Str → Option Value) : Prop where
  obj : h.get? x = some (PySem.W.instObj C dx)
  ns : h.Ns1 dx mA
  ne : dx ≠ x

theorem lookIn_ns {h : Heap} {dx : Addr} {mA : Str → Option Value} (n : h.Ns1 dx mA) : ∃ od, h.get? dx = some od ∧ ∀ name, PySem.W.lookIn name od = some (mA name) := by
  obtain ⟨o, es, ep, ho, hd, hk, _, hm⟩ := n
  refine ⟨o, ho, fun name => ?_⟩
  have e := hm name
  unfold nsFind findBy at e
  rw [← Array.find?_toList] at e
  unfold PySem.W.lookIn
  rw [hd]
  dsimp only
  split
  · rename_i y q
    rw [q] at e
    exact congrArg some e
  · rename_i q
    rw [q] at e
    have a : es.toList.any (·.refKey) = false := by
      rw [List.any_eq_false]
      intro y hy
      obtain ⟨z, t, hkey⟩ := hk y (Array.mem_toList_iff.mp hy)
      simp [DictEntry.refKey, hkey]
    have a' : ¬ es.toList.any (·.refKey) = true := by rw [a]; exact Bool.false_ne_true
    rw [if_neg a']
    exact congrArg some e

theorem ObjM.look {h : Heap} {x dx C : Addr} {mA : Str → Option Value} (I : ObjM h x dx C mA) : ∃ od, PySem.W.InstAt h x (PySem.W.instObj C dx) C (some od) ∧ ∀ name, PySem.W.lookIn name od = some (mA name) :=
  let ⟨od, ho, hl⟩ := lookIn_ns I.ns
  ⟨od, ⟨I.obj, rfl, rfl, ho⟩, hl⟩

section
variable {prog : Program} {w : World} {A : Around} {E : Value → Shared → Prop} {s : Shared} {K : PySem.W.Frag} {x dx C f : Addr} {mA : Str → Option Value} {name : Str} {v : Value}





end

/-! ### the attributes as a list of pairs -/

theorem RelO.some_of {v : V} {o : Option Value} (r : RelO (some v) o) : ∃ u, o = some u ∧ RelV v u := by
  cases o with
  | none => exact (show False from r).elim
  | some u => exact ⟨u, rfl, r⟩

section
variable {P : Program} {w : World} {H H' : Hp} {h h' : Heap} {a C dx : Addr} {fs fs' : List (Str × V)}
theorem ins_get (hok : HOk P w H h) (e : H a = some (.ins C dx fs)) : ∃ mA, ObjM h a dx C mA ∧ (∀ f, RelO (fs.lookup f) (mA f)) ∧ PySem.Within mA (fs.map (·.1)) ∧ fs.length ≤ 1000 ∧ H dx = some (.own a) := by
  obtain ⟨d, z, ne, ob, mA, n, r, q⟩ := (show ObjOk P w H h a (.ins C dx fs) from hok a _ e)
  exact ⟨mA, ⟨ob, n, ne⟩, r, q, z, d⟩
end

/-! ### what of the text a class must have -/
structure Cls (K : PySem.W.Frag) (C : Addr) : Prop where
  pg : PySem.W.plainGet K C Str.empty = true
  hd : PySem.W.hasDictIn K C = true
  po : PySem.W.plainOver K C = true
  sa : PySem.W.findIn K (.ref C) "__setattr__" = some (some (.builtin "object.__setattr__"))
theorem Cls.get {K : PySem.W.Frag} {C : Addr} (c : Cls K C) (f : Str) : PySem.W.plainGet K C f = true := c.pg

section
variable {X : Cx} {pins : List (Addr × Obj)} {σ : St} {H : Hp} {s : Shared} {a C dx : Addr} {fs : List (Str × V)} {f : Str} {v : V} {A : Around} {E : Value → Shared → Prop}






end

/-! ### readings and rules -/

section
variable {X : Cx} {o e value : Expr} {f : Str} {pos pos' tpos : Pos} {ta tv : TE}

end

/-! ### isinstance -/
section
variable {X : Cx} {pins : List (Addr × Obj)} {σ : St} {H : Hp} {s : Shared} {A : Around} {E : Value → Shared → Prop} {Q : Value → Shared → Prop} {c : Value} {b : Bool}
/-- the type of a value, as the fragment's deciders take it; for an instance its class -/
inductive TyOf (K : PySem.W.Frag) (H : Hp) : V → Value → Prop where
  | non : TyOf K H .non (.type "NoneType")
  | bl (x : Bool) : TyOf K H (.bl x) (.type "bool")
  | int (i : Int) : TyOf K H (.int i) (.type "int")
  | str (x : Str) : TyOf K H (.str x) (.type "str")
  | flt (x : UInt64) : TyOf K H (.flt x) (.type "float")
  | lst {a : Addr} {xs : List V} (e : H a = some (.lst xs)) : TyOf K H (.ref a) (.type "list")
  | frz {a : Addr} {o : Obj} {xs : List V} (e : H a = some (.frz o (.lst xs))) : TyOf K H (.ref a) (.type "list")
  | tup {a : Addr} {xs : List V} (e : H a = some (.tup xs)) : TyOf K H (.ref a) (.type "tuple")
  | dK {a : Addr} {kvs : List (Key × V)} (e : H a = some (.dK kvs)) : TyOf K H (.ref a) (.type "dict")
  | dT {a : Addr} {kvs : List (List Key × V)} (e : H a = some (.dT kvs)) : TyOf K H (.ref a) (.type "dict")
  | ins {a C dx : Addr} {fs : List (Str × V)} (e : H a = some (.ins C dx fs)) (cl : Cls K C) (ha : PySem.W.findIn K (.ref C) "__class__" = some (some (.builtin "object.__class__")))
      (hn : PySem.W.specialIn K (.builtin "object.__class__") "__get__" = some (some (.builtin "getset_descriptor.__get__"))) (htk : PySem.W.takesIn K (.builtin "object.__class__") = some true)
      (hm : PySem.W.mroIn K C (.type "object") = some true) : TyOf K H (.ref a) (.ref C)
/-- isinstance(x, c) for one class c, a built-in or an own one: kitOne's answer -/
theorem isinst_ok {x : V} {u t : Value} (I : Inv X pins σ H s) (rx : RelV x u) (ty : TyOf X.K H x t) (e : PySem.W.kitOne X.K t c = some b) (h : ∀ tk, Q (.bool b) { s with toks := tk }) :
    wpAny (model X.prog X.w) A (call (.builtin "isinstance") [u, c]) Q E s := by
  cases ty with
  | non => cases (show u = Value.none from rx); exact PySem.W.kia_one PySem.W.kitx_none I.kIn True.intro e (fun z => nomatch z) h
  | bl y => cases (show u = Value.bool y from rx); exact PySem.W.kia_one PySem.W.kitx_bool I.kIn True.intro e (fun z => nomatch z) h
  | int i => obtain ⟨t, q⟩ := (show ∃ t, u = Value.int i t from rx); cases q; exact PySem.W.kia_one PySem.W.kitx_int I.kIn True.intro e (fun z => nomatch z) h
  | str y => obtain ⟨t, q⟩ := (show ∃ t, u = Value.str y t from rx); cases q; exact PySem.W.kia_one PySem.W.kitx_str I.kIn True.intro e (fun z => nomatch z) h
  | flt y => obtain ⟨t, q⟩ := (show ∃ t, u = Value.float y t from rx); cases q; exact PySem.W.kia_one PySem.W.kitx_float I.kIn True.intro e (fun z => nomatch z) h
  | @lst a xs ea =>
    cases (show u = Value.ref a from rx)
    obtain ⟨_, _, n, _, h1⟩ := (show ObjOk X.prog X.w H s.heap a (.lst xs) from I.hok a _ ea)
    exact PySem.W.kia_one PySem.W.kitx_list I.kIn ⟨_, h1, rfl⟩ e (fun z => nomatch z) h
  | @frz a ob xs ea =>
    cases (show u = Value.ref a from rx)
    obtain ⟨_, _, _, n, _, h1⟩ := (show ObjOk X.prog X.w H s.heap a (.frz ob (.lst xs)) from I.hok a _ ea)
    exact PySem.W.kia_one PySem.W.kitx_list I.kIn ⟨_, h1, rfl⟩ e (fun z => nomatch z) h
  | @tup a xs ea =>
    cases (show u = Value.ref a from rx)
    obtain ⟨_, _, _, p⟩ := (show ObjOk X.prog X.w H s.heap a (.tup xs) from I.hok a _ ea)
    obtain ⟨o, h1, h2, _⟩ := p
    exact PySem.W.kia_one PySem.W.kitx_tuple I.kIn ⟨o, h1, h2⟩ e (fun z => nomatch z) h
  | @dK a kvs ea =>
    cases (show u = Value.ref a from rx)
    obtain ⟨_, _, vs, _, p⟩ := (show ObjOk X.prog X.w H s.heap a (.dK kvs) from I.hok a _ ea)
    obtain ⟨o, es, ep, h1, h2, _⟩ := p
    exact PySem.W.kia_one PySem.W.kitx_dict I.kIn ⟨o, h1, h2.1⟩ e (fun z => nomatch z) h
  | @dT a kvs ea =>
    cases (show u = Value.ref a from rx)
    obtain ⟨_, _, xs, _, o, es, ep, h1, h2, _⟩ := (show ObjOk X.prog X.w H s.heap a (.dT kvs) from I.hok a _ ea)
    exact PySem.W.kia_one PySem.W.kitx_dict I.kIn ⟨o, h1, h2.1⟩ e (fun z => nomatch z) h
  | @ins a C dx fs ea cl ha hn htk hm =>
    cases (show u = Value.ref a from rx)
    obtain ⟨mA, O, _⟩ := ins_get I.hok ea
    obtain ⟨od, J, _⟩ := O.look
    exact PySem.W.kia_one (PySem.W.kitx_own (cl.get _) cl.hd ha hn htk hm) I.kIn J e (fun z => nomatch z) h
end
end L2

namespace L2
open PySem PySem.Spec PyProof.Rows

/-! ### room -/
structure Room (k : Nat) (A : Around) : Prop where
  hd : A.handled = none
  dp : A.depth + 3 * k + 5 < recursionLimit
  un : A.units + 16 * k + 200 < cLine
theorem Room.mono {j k : Nat} {A : Around} (r : Room k A) (h : j ≤ k) : Room j A := ⟨r.hd, by have := r.dp; omega, by have := r.un; omega⟩
theorem Room.deeper {k : Nat} {A : Around} (r : Room (k + 1) A) (env : Env) : Room k (A.deeper env) :=
  ⟨r.hd, by have := r.dp; show A.depth + 1 + 3 * k + 5 < _; omega, by have := r.un; show A.units + 3 + 16 * k + 200 < _; omega⟩
theorem Room.depth {k : Nat} {A : Around} (r : Room k A) : A.depth < recursionLimit := by have := r.dp; omega
theorem Room.units {k : Nat} {A : Around} (r : Room k A) : A.units + 64 < cLine := by have := r.un; omega

/-! ### argument lists and displays -/
def tNil : TA := fun _ H Q => Q [] H
def tCons (ta : TE) (tr : TA) : TA := fun σ H Q => ta σ H fun x H1 => tr σ H1 fun xs H2 => Q (x :: xs) H2
section
variable {X : Cx} {e : Expr} {es : List Expr} {te : TE} {t : TA} {pos : Pos}
theorem pa_nil : PA X [] tNil := fun _ _ _ _ H Q I h => Calls.spliced_nil ⟨[], H, I, .nil, h⟩
theorem pa_cons (ha : PE X e te) (hr : PA X es t) (hs : starEach (e :: es) X.env = (false, eval e X.env) :: starEach es X.env := by rfl) : PA X (e :: es) (tCons te t) := by
  intro pos pins s σ H Q I h
  rw [hs]
  show wpAny _ _ (spliced ((false, eval e X.env) :: backTo pos (starEach es X.env))) _ _ s
  refine Calls.spliced_cons (thn (ha pins s σ H _ I h) fun u s1 ⟨x, H1, I1, r1, q1⟩ => ?_)
  exact thn (hr pos pins s1 σ H1 _ I1 q1) fun us s2 ⟨xs, H2, I2, r2, q2⟩ => ⟨x :: xs, H2, I2, .cons r1 r2, q2⟩

/-- a tuple, a list of written items -/
def tTup (t : TA) : TE := fun σ H Q => t σ H fun xs H1 => xs.length ≤ sizeLine ∧ ∀ p, H1 p = none → Q (.ref p) (upd H1 p (.tup xs))
def tLst (t : TA) : TE := fun σ H Q => t σ H fun xs H1 => xs.length ≤ sizeLine ∧ ∀ p, H1 p = none → Q (.ref p) (upd H1 p (.lst xs))
theorem pe_tup {x1} (h : PA X es t) : PE X (.Tuple es x1 pos) (tTup t) := by
  intro pins s σ H Q I hq
  refine wpAny_Tuple_spliced (thn (h pos pins s σ H _ I hq) fun us s1 ⟨xs, H1, I1, r, z, q⟩ => ⟨by rw [← r.length]; exact z, ?_⟩)
  have hf : H1 s1.heap.objs.size = none := I1.hok.fresh (Nat.le_refl _)
  refine ⟨.ref s1.heap.objs.size, upd H1 s1.heap.objs.size (.tup xs), I1.laid (t' := s1.toks) (fun b u e => Heap.get?_push_of_some _ e) (Nat.le_refl _) ?_, rfl, q _ hf⟩
  exact ⟨z, us, r, ⟨_, Heap.get?_push_size _ rfl, rfl, _, rfl⟩⟩
theorem pe_lst (h : PA X es t) : PE X (.List es pos) (tLst t) := by
  intro pins s σ H Q I hq
  refine wpAny_List_spliced (thn (h pos pins s σ H _ I hq) fun us s1 ⟨xs, H1, I1, r, z, q⟩ => ⟨by rw [← r.length]; exact z, ?_⟩)
  have hf : H1 s1.heap.objs.size = none := I1.hok.fresh (Nat.le_refl _)
  refine ⟨.ref s1.heap.objs.size, upd H1 s1.heap.objs.size (.lst xs), I1.laid (t' := s1.toks) (fun b u e => Heap.get?_push_of_some _ e) (Nat.le_refl _) ?_, rfl, q _ hf⟩
  exact ⟨z, us, 0, r, Heap.get?_push_size _ rfl⟩
end

/-! ### what a def promises -/
/-- a def's promise: the bound arguments in the parameters' order, the heap, the wanted end, the wanted exception -/
abbrev Sp := List V → Hp → VK → XK → Prop
/-- how an exception lies behind a call (file 08 gives it): the callers' frames, abstract heap and state ahead of the call, the wish, the exception, the state -/
abbrev CXT := List Env → Hp → Shared → XK → Value → Shared → Prop

/-- the state at a call -/
structure Env0 (P : Program) (w : World) (K : PySem.W.Frag) (mg : Str → Option Value) (base : Heap) (A : Around) (outer : List Env) (s : Shared) (H : Hp) : Prop where
  frames : A.frames = some outer
  mod : Mod K mg base
  bs : ∀ b o, base.get? b = some o → s.heap.get? b = some o ∧ H b = none
  bsz : base.objs.size ≤ s.heap.objs.size
  funs : s.heap.FunFrames base outer
  frf : ∀ b ∈ frs outer, H b = none
  hok : HOk P w H s.heap
  bare : AllBare s.gens
/-- a call's end -/
def CE (outer : List Env) (P : Program) (w : World) (H : Hp) (s : Shared) (Q : VK) (u : Value) (s' : Shared) : Prop :=
  ∃ v H', s'.os = s.os ∧ AllBare s'.gens ∧ Un (frs outer) [] H H' s.heap s'.heap ∧ HOk P w H' s'.heap ∧ RelV v u ∧ Q v H'
def CR (CX : CXT) (outer : List Env) (P : Program) (w : World) (H : Hp) (s : Shared) (Q : VK) (E : XK) (r : Result) (s' : Shared) : Prop :=
  match r with
  | .ok (.ret u) => CE outer P w H s Q u s'
  | .ok _ => False
  | .error e => CX outer H s E e s'
structure FnOk (P : Program) (w : World) (K : PySem.W.Frag) (mg : Str → Option Value) (base : Heap) (CX : CXT) (k : Nat) (f : Addr) (fd : FuncData) (ps : List Str) (sp : Sp) : Prop where
  len : ∀ vs H Q E, sp vs H Q E → vs.length = ps.length
  run : ∀ (A : Around) (outer : List Env) (s : Shared) (H : Hp) (args : Args) (us : List Value) (vs : List V) (Q : VK) (E : XK), Room k A → Env0 P w K mg base A outer s H → BindsTo s fd args (ps.zip us) → Vals vs us → sp vs H Q E →
    codeAny (model P w) A (.call (.ref f) args) (CR CX outer P w H s Q E) s


section
variable {X : Cx} {pins : List (Addr × Obj)} {σ : St} {H : Hp} {s s' : Shared}
/-- from a body: what a callee wants -/
theorem Inv.env0 (I : Inv X pins σ H s) : Env0 X.prog X.w X.K X.mg X.base X.A X.stack s H :=
  ⟨I.ok.frames, I.ok.mod, I.bs, Nat.le_trans I.ok.bsz I.sz, I.stack, I.stkFree, I.hok, I.bare⟩
/-- behind a call -/
theorem Inv.after {Q : VK} {u : Value} (I : Inv X pins σ H s) (h : CE X.stack X.prog X.w H s Q u s') : EP X pins σ Q u s' := by
  obtain ⟨v, H', os, bare, un, hok, r, q⟩ := h
  obtain ⟨hh, g, d, t, os'⟩ := s'
  obtain rfl : os' = s.os := os
  exact ⟨v, H', I.call (h' := hh) (g' := g) (d' := d) (t' := t) (ch := []) un hok bare (fun b z => absurd z (by simp)), r, q⟩
end

/-! ### calls -/
/-- f(..): the written arguments, then the defaults dvs; E: what is wanted of an exception -/
def tCall (sp : Sp) (dvs : List V) (E : XK) (t : TA) : TE := fun σ H Q => t σ H fun vs H1 => sp (vs ++ dvs) H1 Q E

/-- how the parameters are bound: us the positional arguments, kw the keywords' values by name, ds the defaults that fill up -/
def Binds (K : PySem.W.Frag) (fd : FuncData) (ps : List Str) (ds : List Value) : Prop :=
  ∀ (s : Shared) (us : List Value), K.In s.heap → (us ++ ds).length = ps.length → BindsTo s fd ⟨us, []⟩ (ps.zip (us ++ ds))
/-- every parameter is given -/
theorem Binds.all {K : PySem.W.Frag} {fd : FuncData} {ps : List Str} (h : ∀ us : List Value, us.length = ps.length → bindArgs fd ⟨us, []⟩ = pure (ps.zip us)) : Binds K fd ps [] := fun s us _ hl => by
  rw [List.append_nil] at hl ⊢
  exact .of_eq (h us hl)

/-- an exception of a callee reaches what this body wants of exceptions -/
def Passes (CX : CXT) (X : Cx) (E : XK) : Prop := ∀ (pins : List (Addr × Obj)) (σ : St) (H : Hp) (s : Shared) (e : Value) (s' : Shared), Inv X pins σ H s → CX X.stack H s E e s' → X.xe e s'

section
variable {X : Cx} {CX : CXT} {k : Nat} {f C : Addr} {fd : FuncData} {ps : List Str} {sp : Sp} {dvs : List V} {ds : List Value} {E : XK} {x m : Str} {p pos apos : Pos} {e o : Expr} {es : List Expr} {ta : TE} {t : TA}

/-- the callee runs -/
theorem run_fn {pins : List (Addr × Obj)} {σ : St} {H : Hp} {s : Shared} {Q : VK} {us : List Value} {vs : List V} (F : FnOk X.prog X.w X.K X.mg X.base CX k f fd ps sp) (hr : Room k X.A) (hb : Binds X.K fd ps ds) (hd : Vals dvs ds) (hx : Passes CX X E)
    (I : Inv X pins σ H s) (r : Vals vs us) (h : sp (vs ++ dvs) H Q E) : wpAny (model X.prog X.w) X.A (call (.ref f) us) (EP X pins σ Q) X.xe s := by
  have r2 : Vals (vs ++ dvs) (us ++ ds) := r.append hd
  have hl : (us ++ ds).length = ps.length := by rw [← r2.length]; exact F.len _ _ _ _ h
  refine wpAny_call (codeAny_mono (F.run X.A X.stack s H ⟨us, []⟩ (us ++ ds) (vs ++ dvs) Q E hr I.env0 (hb s us I.kIn hl) r2 h) fun r s' hq => ?_)
  cases r with
  | error e => exact hx pins σ H s e s' I hq
  | ok fl =>
    cases fl with
    | ret u => exact I.after hq
    | next => exact False.elim hq
    | brk => exact False.elim hq
    | cont => exact False.elim hq

theorem pe_call (F : FnOk X.prog X.w X.K X.mg X.base CX k f fd ps sp) (hr : Room k X.A) (hg : Gl X x) (hm : X.mg x = some (.ref f)) (hk : PySem.W.keepIn X.K (.ref f) = true) (hb : Binds X.K fd ps ds) (hd : Vals dvs ds) (hx : Passes CX X E)
    (ha : PA X (e :: es) t) (hdb : (x == ("__debug__" : Str)) = false := by decide) (he : starEach (e :: es) X.env = (false, eval e X.env) :: starEach es X.env := by rfl) (hpl : (backTo pos (starEach es X.env)).any (·.1) = false := by rfl) :
    PE X (.Call (.Name x p) (e :: es) [] pos) (tCall sp dvs E t) := by
  intro pins s σ H Q I h
  refine wpAny_Call_Name_kw (ld_glob I hg hm ?_ hdb)
  refine PySem.W.callWith_K (h₀ := X.base) I.ok.mod.kin hk (thn (ha pos pins s σ H _ I h) fun us s1 ⟨vs, H1, I1, r, q⟩ => ⟨I1.kIn, ?_⟩) he hpl
  exact run_fn F hr hb hd hx I1 r q



end

/-! ### keywords -/
section
variable {X : Cx} {CX : CXT} {k : Nat} {f C : Addr} {fd : FuncData} {ps ks : List Str} {sp : Sp} {E : XK} {x m : Str} {p pos apos kpos : Pos} {e o : Expr} {es : List Expr} {kws : List Keyword} {te ta : TE} {t tk : TA} {nm : Option Str}

variable {g : List Value → List Value → List Value} {gV : List V → List V → List V}
end

/-! ### a def's body keeps its promise -/
/-- names: the parameters first -/
structure FnScope (N P : List Str) (sc : Scope) : Prop where
  kind : sc.kind = .function
  co : sc.isCoroutine = false
  gen : sc.isGenerator = false
  nd : N.Nodup
  pre : N.take P.length = P
  par : ∀ x ∈ P, sc.names.lookup x = some .local ∨ sc.names.lookup x = some .cell
  nofree : ∀ y ∈ sc.names, y.2 ≠ .free

theorem bindL_out {kindOf : Str → Option NameKind} {x : Str} : ∀ {binds : List (Str × Value)} {m : Str → Option Value}, (∀ v, (x, v) ∉ binds) → bindL kindOf binds m x = m x
  | [], _, _ => rfl
  | (n, v) :: r, m, h => by
    unfold bindL
    rw [bindL_out fun w hw => h w (List.mem_cons_of_mem _ hw)]
    split
    · have : x ≠ n := by rintro rfl; exact h v List.mem_cons_self
      simp [this]
    · rfl
theorem bindC_out {kindOf : Str → Option NameKind} {x : Str} : ∀ {binds : List (Str × Value)} {m : Str → Option Value}, (∀ v, (x, v) ∉ binds) → bindC kindOf binds m x = m x
  | [], _, _ => rfl
  | (n, v) :: r, m, h => by
    unfold bindC
    rw [bindC_out fun w hw => h w (List.mem_cons_of_mem _ hw)]
    split
    · rfl
    · have : x ≠ n := by rintro rfl; exact h v List.mem_cons_self
      simp [this]
theorem bindL_get {kindOf : Str → Option NameKind} {x : Str} {v : Value} : ∀ {P : List Str} {vs : List Value} {i : Nat} {m : Str → Option Value}, P.Nodup → P[i]? = some x → vs[i]? = some v → kindOf x = some .local →
    bindL kindOf (P.zip vs) m x = some v
  | [], _, _, _, _, h, _, _ => by simp at h
  | _ :: _, [], _, _, _, _, h, _ => by simp at h
  | p :: P, w :: vs, 0, m, nd, h1, h2, hk => by
    simp at h1 h2; subst h1; subst h2
    show bindL kindOf ((p, w) :: P.zip vs) m p = _
    unfold bindL
    rw [bindL_out fun v hv => (List.nodup_cons.mp nd).1 (List.of_mem_zip hv).1, if_pos hk]
    simp
  | p :: P, w :: vs, i + 1, m, nd, h1, h2, hk => by
    show bindL kindOf ((p, w) :: P.zip vs) m x = _
    unfold bindL
    exact bindL_get (i := i) (List.nodup_cons.mp nd).2 (by simpa using h1) (by simpa using h2) hk
theorem bindC_get {kindOf : Str → Option NameKind} {x : Str} {v : Value} : ∀ {P : List Str} {vs : List Value} {i : Nat} {m : Str → Option Value}, P.Nodup → P[i]? = some x → vs[i]? = some v → kindOf x ≠ some .local →
    bindC kindOf (P.zip vs) m x = some v
  | [], _, _, _, _, h, _, _ => by simp at h
  | _ :: _, [], _, _, _, _, h, _ => by simp at h
  | p :: P, w :: vs, 0, m, nd, h1, h2, hk => by
    simp at h1 h2; subst h1; subst h2
    show bindC kindOf ((p, w) :: P.zip vs) m p = _
    unfold bindC
    rw [bindC_out fun v hv => (List.nodup_cons.mp nd).1 (List.of_mem_zip hv).1, if_neg hk]
    simp
  | p :: P, w :: vs, i + 1, m, nd, h1, h2, hk => by
    show bindC kindOf ((p, w) :: P.zip vs) m x = _
    unfold bindC
    exact bindC_get (i := i) (List.nodup_cons.mp nd).2 (by simpa using h1) (by simpa using h2) hk

/-- the names' values at the entry -/
def start (N : List Str) (vs : List V) : St := vs.map some ++ List.replicate (N.length - vs.length) none

/-- the context of a def's body, at its entry; an exception leaves the frame, then lies as CX says -/
def cxOf (CX : CXT) (P : Program) (w : World) (K : PySem.W.Frag) (mg : Str → Option Value) (base : Heap) (N : List Str) (qual : Str) (scope : Scope) (f : Addr) (cd : Value) (A : Around) (outer : List Env) (s : Shared) (H : Hp) (E : XK) : Cx where
  prog := P
  w := w
  K := K
  mg := mg
  base := base
  A := A.deeper (envOfC qual scope s.heap.objs.size f cd)
  N := N
  s₀ := s
  H₀ := H
  env := envOfC qual scope s.heap.objs.size f cd
  outer := outer
  stack := envOfC qual scope s.heap.objs.size f cd :: outer
  ex := []
  calm := true
  fn := fun _ => true
  pn := []
  xe := fun e s' => wpAny (model P w) (A.deeper (envOfC qual scope s.heap.objs.size f cd)) (leaving (envOfC qual scope s.heap.objs.size f cd) e) (fun _ s'' => CX outer H s E e s'') (fun e' s'' => CX outer H s E e' s'') s'

theorem cell_has {sc : Scope} {n : Nat} {x : Str} (h : sc.names.lookup x = some .cell) : ∃ c, (cellsFrom n sc.names []).lookup x = some c := by
  have q := PySem.W.cellsFrom_some sc.names n [] (.inl h)
  exact Option.isSome_iff_exists.mp q

theorem inv_start {CX : CXT} {P : Program} {w : World} {K : PySem.W.Frag} {mg : Str → Option Value} {base : Heap} {N ps : List Str} {qual : Str} {scope : Scope} {f : Addr} {cd : Value} {A : Around} {outer : List Env} {s s1 : Shared} {H : Hp} {E : XK} {us : List Value} {vs : List V}
    (S : FnScope N ps scope) (hd : A.handled = none) (e0 : Env0 P w K mg base A outer s H) (hl : vs.length = ps.length) (r : Vals vs us)
    (x : InCallC s s.heap.objs.size (bindL (envOfC qual scope s.heap.objs.size f cd).kindOf (ps.zip us) fun _ => none) (cellsFrom (s.heap.objs.size + 1) scope.names []) (bindC (envOfC qual scope s.heap.objs.size f cd).kindOf (ps.zip us) fun _ => none) s1) :
    Inv (cxOf CX P w K mg base N qual scope f cd A outer s H E) [] (start N vs) H s1 := by
  have hpl : ps.length ≤ N.length := by have := congrArg List.length S.pre; rw [List.length_take] at this; omega
  obtain ⟨h1, tk, rfl, hk⟩ := x.done
  have noA : ∀ b : Addr, b ∉ (cxOf CX P w K mg base N qual scope f cd A outer s H E).ex := fun b z => absurd (show b ∈ ([] : List Addr) from z) (by simp)
  refine ⟨⟨e0.mod, S.kind, rfl, rfl, Nat.le_refl _, fun y z c h1 h2 => ?_, fun y hy => ?_, fun y c _ h => ?_, fun _ => hd, Around.frames_deeper e0.frames, .inr ⟨rfl, rfl⟩, fun b z => absurd z (noA b), e0.bs, e0.bsz, fun b _ _ => noA b, fun b z => absurd z (noA b), e0.funs, e0.frf⟩,
    rfl, e0.bare, Un.kept hk, ⟨_, x.toInCall.ns, fun i y v h1 h2 h3 => ?_⟩, fun y c h => ⟨_, x.cell y c h⟩, e0.hok.fresh (Nat.le_refl _), fun y c h => ?_, fun p hp => absurd (show p ∈ ([] : List (Addr × Obj)) from hp) (by simp), e0.hok.kept hk, ?_⟩
  · exact name_of_addr x.apart (PySem.mem_of_lookup h1) (PySem.mem_of_lookup h2)
  · have hy : scope.names.lookup y = some .cell ∨ scope.names.lookup y = some .free := hy
    rcases hy with hy | hy
    · exact cell_has hy
    · exact absurd rfl (S.nofree _ (PySem.mem_of_lookup hy))
  · exact Nat.le_of_lt (x.above y c (PySem.mem_of_lookup h))
  · have hi : i < vs.length := by
      unfold start at h2
      by_cases hi : i < vs.length
      · exact hi
      · rw [List.getElem?_append_right (by simpa using hi)] at h2
        rw [List.getElem?_replicate] at h2
        split at h2 <;> cases h2
    have ha : vs[i]? = some v := by
      unfold start at h2
      rw [List.getElem?_append_left (by simpa using hi), List.getElem?_map] at h2
      cases e : vs[i]? with
      | none => rw [e] at h2; cases h2
      | some a => rw [e] at h2; cases h2; rfl
    obtain ⟨u, hu, rv⟩ := r.get ha
    have hp : ps[i]? = some y := by
      rw [← S.pre, List.getElem?_take_of_lt (by omega)]; exact h1
    have ndP : ps.Nodup := by rw [← S.pre]; exact S.nd.sublist (List.take_sublist _ _)
    refine ⟨u, rv, ?_⟩
    rcases S.par y (List.mem_of_getElem? hp) with k | k
    · exact .inl ⟨k, bindL_get ndP hp hu k⟩
    · obtain ⟨c, e⟩ := cell_has (n := s.heap.objs.size + 1) k
      refine .inr ⟨.inl k, c, e, ?_⟩
      have q := x.cell y c e
      rw [bindC_get ndP hp hu (by show scope.names.lookup y ≠ _; rw [k]; decide)] at q
      exact q
  · exact e0.hok.fresh (Nat.le_of_lt (x.above y c (PySem.mem_of_lookup h)))
  · unfold start
    show _ = N.length
    rw [List.length_append, List.length_map, List.length_replicate]
    omega

/-- THE RULE: a def (or a method) of the text, by its body. The body's reading t is chosen for each entry; it is run at the parameters' values -/
theorem fn_of {CX : CXT} {P : Program} {w : World} {K : PySem.W.Frag} {mg : Str → Option Value} {base : Heap} {k : Nat} {f : Addr} {name qual : Str} {params : Arguments} {body : List Stmt} {scope : Scope} {dV kV doc pm cdv ct oc : Value} {an od : Option Addr}
    {osl : Array (Option Value)} {N ps : List Str} {sp : Sp} (lk : K.lookup f = some ⟨oc, od, .func (PySem.W.fnOf name qual params body scope dV kV doc pm an cdv ct), osl⟩) (hcd : PySem.W.codeIn K cdv qual = true) (S : FnScope N ps scope)
    (len : ∀ vs H Q E, sp vs H Q E → vs.length = ps.length)
    (hbody : ∀ (A : Around) (outer : List Env) (s : Shared) (H : Hp) (vs : List V) (Q : VK) (E : XK), Room k (A.deeper (envOfC qual scope s.heap.objs.size f cdv)) → sp vs H Q E →
      ∃ t, PSs (cxOf CX P w K mg base N qual scope f cdv A outer s H E) body t ∧ t { nx := fun _ H' => Q .non H', rt := Q } (start N vs) H) :
    FnOk P w K mg base CX (k + 1) f (PySem.W.fnOf name qual params body scope dV kV doc pm an cdv ct) ps sp := by
  refine ⟨len, fun A outer s H args us vs Q E hr e0 hb r hsp => ?_⟩
  have hl := len _ _ _ _ hsp
  have KX : K.In s.heap := e0.mod.kin.keeps fun b o e => (e0.bs b o e).1
  have lim : s.heap.NoLimit := e0.mod.nolimit.keeps fun b o e => (e0.bs b o e).1
  have hkind : ∀ y ∈ ps.zip us, scope.names.lookup y.1 = some .local ∨ (scope.names.lookup y.1 = some .cell ∧ ((cellsFrom (s.heap.objs.size + 1) scope.names []).lookup y.1).isSome = true) := fun ⟨n, v⟩ hy => by
    rcases S.par n (List.of_mem_zip hy).1 with q | q
    · exact .inl q
    · exact .inr ⟨q, PySem.W.cellsFrom_some _ _ _ (.inl q)⟩
  refine codeAny_call_function hr.depth (KX _ _ lk) rfl S.co S.gen rfl (PySem.W.codeRec_of KX hcd) (hb _ _ _ _ ?_)
  refine wpAny_newFunctionEnv_cells S.kind hkind fun env he s1 x => ?_
  subst he
  refine ⟨lim.keeps x.toInCall.keep, codeAny_func ?_⟩
  obtain ⟨t, ht, hq⟩ := hbody A outer s H vs Q E (hr.deeper _) hsp
  have I : Inv (cxOf CX P w K mg base N qual scope f cdv A outer s H E) [] (start N vs) H s1 := inv_start S hr.hd e0 hl r x
  refine wpAny_mono (ht [] s1 (start N vs) H _ I hq) (fun fl s' hs => ?_) fun e s' hs => hs
  have fin : ∀ {σ' : St} {H' : Hp} {v : V} {u : Value}, Inv (cxOf CX P w K mg base N qual scope f cdv A outer s H E) [] σ' H' s' → RelV v u → Q v H' → CE outer P w H s Q u s' :=
    fun {σ' H' v u} J rv q => ⟨v, H', J.os, J.bare, J.base, J.hok, rv, q⟩
  cases fl with
  | ret u =>
    obtain ⟨v, σ', H', J, rv, q⟩ := hs
    exact fin J rv q
  | next =>
    obtain ⟨σ', H', J, q⟩ := hs
    exact fin (v := V.non) (u := Value.none) J rfl q
  | brk =>
    obtain ⟨_, _, _, q⟩ := hs
    exact False.elim q
  | cont =>
    obtain ⟨_, _, _, q⟩ := hs
    exact False.elim q
end L2

namespace L2
open PySem PySem.Spec PyProof.Rows
section
variable {X : Cx} {x : Str} {p pos : Pos} {e : Expr} {es : List Expr} {t : TA} {id T : String} {r : List V → Hp → VK → Prop}

def tCB (r : List V → Hp → VK → Prop) (t : TA) : TE := fun σ H Q => t σ H fun vs H1 => r vs H1 Q
/-- f(e, ..), f a built-in function -/
theorem pe_callB (hc : CallR X (.builtin id) r) (hg : Gl X x) (hm : X.mg x = none) (hv : bootBuiltins x = some (.builtin id)) (ha : PA X (e :: es) t) (hn : x ≠ "__name__" := by decide) (hdb : (x == ("__debug__" : Str)) = false := by decide)
    (he : starEach (e :: es) X.env = (false, eval e X.env) :: starEach es X.env := by rfl) (hpl : (backTo pos (starEach es X.env)).any (·.1) = false := by rfl) : PE X (.Call (.Name x p) (e :: es) [] pos) (tCB r t) := by
  intro pins s σ H Q I h
  refine wpAny_Call_Name_kw (ld_blt I hg hm hv ?_ hn hdb)
  exact PyProof.Rows.callWith_builtin1 (thn (ha pos pins s σ H _ I h) fun us s1 ⟨vs, H1, I1, r1, q1⟩ => hc pins s1 σ H1 vs us Q I1 r1 q1) he hpl
/-- T(e, ..), T a built-in type -/
theorem pe_callTy (hc : CallR X (.type T) r) (hg : Gl X x) (hm : X.mg x = none) (hv : bootBuiltins x = some (.type T)) (ha : PA X (e :: es) t) (hn : x ≠ "__name__" := by decide) (hdb : (x == ("__debug__" : Str)) = false := by decide)
    (he : starEach (e :: es) X.env = (false, eval e X.env) :: starEach es X.env := by rfl) (hpl : (backTo pos (starEach es X.env)).any (·.1) = false := by rfl) : PE X (.Call (.Name x p) (e :: es) [] pos) (tCB r t) := by
  intro pins s σ H Q I h
  refine wpAny_Call_Name_kw (ld_blt I hg hm hv ?_ hn hdb)
  exact PyProof.Rows.callWith_type1 (thn (ha pos pins s σ H _ I h) fun us s1 ⟨vs, H1, I1, r1, q1⟩ => hc pins s1 σ H1 vs us Q I1 r1 q1) he hpl
end
end L2

namespace HT
open PySem PyProof.Rows

/-- t < u of tuples of ints -/
def lexLt : List Int → List Int → Bool
  | [], [] => false
  | [], _ :: _ => true
  | _ :: _, [] => false
  | x :: xs, y :: ys => if x = y then lexLt xs ys else decide (x < y)
theorem lexLt_cons (x y : Int) (xs ys : List Int) : lexLt (x :: xs) (y :: ys) = if x = y then lexLt xs ys else decide (x < y) := rfl
theorem lexLt_nil_nil : lexLt [] [] = false := rfl
theorem lexLt_nil_cons (y : Int) (ys : List Int) : lexLt [] (y :: ys) = true := rfl
theorem lexLt_cons_nil (x : Int) (xs : List Int) : lexLt (x :: xs) [] = false := rfl

theorem eqAt_int (A : Around) (s : Shared) (a : Int) (t : Tok) (c : Int) (u : Tok) : ∃ e, SeqAt.EqAt A s (.int a t) (.int c u) e ∧ (e = true ↔ a = c) :=
  ⟨(a == c), SeqAt.EqAt.int_int a t c u, by simp⟩
theorem rcLt_int (A : Around) (s : Shared) (a : Int) (t : Tok) (c : Int) (u : Tok) (prog : Program) (w : World) (E : Value → Shared → Prop) (Q : Value → Shared → Prop) (h : Q (.bool (decide (a < c))) s) :
    wpAny (model prog w) A (richCompare .Lt (.int a t) (.int c u)) Q E s :=
  (PyProof.Rows.lt_int h : wpAny (model prog w) A (compareOp .Lt (.int a t) (.int c u)) Q E s)

section
open PySem.SeqAt
open PySem.AutoSeq1 (wpAny_loadPart')
open PySem.MeetsSeq PySem.MeetsSeq2 PySem.MeetsSeq3

theorem tuple_lt_ints (l b : Addr) (items items2 : Array Value) (n n2 : Nat) (dd dd2 : Option Addr) (sl sl2 : Array (Option Value)) (ns ms : List Int) (hi : IntsAre items.toList ns) (hj : IntsAre items2.toList ms) :
    Meets (Builtin.«tuple.__lt__» ⟨[.ref l, .ref b], []⟩)
      (fun _ R s => s.heap.get? l = some { cls := .type "tuple", dict := dd, data := .seq items n, slots := sl } ∧ s.heap.get? b = some { cls := .type "tuple", dict := dd2, data := .seq items2 n2, slots := sl2 } ∧
        R (.ok (.ret (.bool (lexLt ns ms)))) s) :=
  .of_wp fun prog w A R s h => by
    obtain ⟨hp, g, d, tk, os⟩ := s; obtain ⟨hl, hb, h⟩ := h
    have f2 := AutoSeq1.sub_tuple_tuple
    have z1 : items.size = ns.length := by rw [← hi.length]; simp
    have z2 : items2.size = ms.length := by rw [← hj.length]; simp
    wp_walk using wpAny_loadPart' hl, wpAny_loadPart' hb, wpAny_forIn_list _ (fun rest b s' => b.1 = none ∧ s' = ⟨hp, g, d, tk, os⟩ ∧ ∃ (vs ws : List Value) (ns' ms' : List Int), rest = vs.zip ws ∧
      IntsAre vs ns' ∧ IntsAre ws ms' ∧ ns'.length + items2.size = ms'.length + items.size ∧ R (.ok (.ret (.bool (lexLt ns' ms')))) ⟨hp, g, d, tk, os⟩) _
    case turn =>
      rintro ⟨y, x⟩ rest b s' ⟨hb', rfl, vs, ws, ns', ms', hz, hvi, hwi, hlen, hR⟩
      cases hvi with
      | nil => rw [List.zip_nil_left] at hz; cases hz
      | cons a t hvi' =>
        cases hwi with
        | nil => rw [List.zip_nil_right] at hz; cases hz
        | cons c u hwi' =>
          rw [List.zip_cons_cons] at hz
          injection hz with hyx hrest
          injection hyx with hy hx
          subst hy hx
          rw [lexLt_cons] at hR
          simp only [List.length_cons] at hlen
          obtain ⟨e, he, hiff⟩ := eqAt_int A.in1 ⟨hp, g, d, tk, os⟩ a t c u
          refine wpAny_bind (he prog w _ _ ?_)
          cases e with
          | true =>
            rw [if_pos (hiff.mp rfl)] at hR
            wp_walk
            exact ⟨rfl, rfl, _, _, _, _, hrest, hvi', hwi', by omega, hR⟩
          | false =>
            rw [if_neg (fun q => absurd (hiff.mpr q) Bool.false_ne_true)] at hR
            have hri := rcLt_int A.in1 ⟨hp, g, d, tk, os⟩ a t c u prog w
            wp_walk using hri
            exact ⟨_, rfl, by simpa using hR⟩
    case fin =>
      rintro ⟨b1, b2⟩ s' ⟨hb', rfl, vs, ws, ns', ms', hz, hvi, hwi, hlen, hR⟩
      simp only at hb'
      subst hb'
      have hv : lexLt ns' ms' = decide (items.size < items2.size) := by
        cases hvi with
        | nil =>
          cases hwi with
          | nil =>
            simp only [List.length_nil] at hlen
            rw [lexLt_nil_nil]
            exact (decide_eq_false (by omega)).symm
          | cons c u hw =>
            simp only [List.length_nil, List.length_cons] at hlen
            rw [lexLt_nil_cons]
            exact (decide_eq_true (by omega)).symm
        | cons a t hv =>
          cases hwi with
          | nil =>
            simp only [List.length_nil, List.length_cons] at hlen
            rw [lexLt_cons_nil]
            exact (decide_eq_false (by omega)).symm
          | cons c u hw =>
            rw [List.zip_cons_cons] at hz
            cases hz
      rw [hv] at hR
      wp_walk
      exact ⟨_, rfl, by simpa [Builtin.Tuple.tupleCompareSizes] using hR⟩
    case h =>
      exact ⟨rfl, rfl, items.toList, items2.toList, ns, ms, rfl, hi, hj, by omega, h⟩
end

section
variable {prog : Program} {w : World} {A : Around} {E : Value → Shared → Prop} {s : Shared}

theorem lt_tupInts {l b : Addr} {items items2 : Array Value} {ns ms : List Int} {Q : Value → Shared → Prop} (hl : IsTup s.heap l items) (hb : IsTup s.heap b items2) (hi : IntsAre items.toList ns) (hj : IntsAre items2.toList ms)
    (hu : A.units < cLine) (h : Q (.bool (lexLt ns ms)) s) : wpAny (model prog w) A (compareOp .Lt (.ref l) (.ref b)) Q E s := by
  obtain ⟨⟨cls, dd, data, sl⟩, ho, hc, n, hd⟩ := id hl
  obtain ⟨⟨cls2, dd2, data2, sl2⟩, ho2, hc2, n2, hd2⟩ := id hb
  simp only at hc hd hc2 hd2
  subst hc hd hc2 hd2
  exact richCompare_meets_room (op := .Lt) ⟨_, ho, rfl⟩ ⟨_, ho2, rfl⟩ PySem.F.slot_tuple_lt PySem.F.entry_tuple_lt (PySem.F.args_tuple_lt_2 _ _) (tuple_lt_ints l b items items2 n n2 dd dd2 sl sl2 ns ms hi hj)
    ⟨ho, ho2, show Value.bool (lexLt ns ms) ≠ Value.notImplemented ∧ Q (.bool (lexLt ns ms)) s from ⟨(fun x => nomatch x), h⟩⟩ hu


/-! ### t[a:b], not the whole -/
/-- a slice's bound as a place among n (d where it is left out) -/
def sIx (n d : Nat) : Option Int → Nat
  | none => d
  | some v => if v < 0 then (v + (n : Int)).toNat else min v.toNat n
theorem sIx_none (n d : Nat) : sIx n d none = d := rfl
theorem sIx_nat (n d k : Nat) : sIx n d (some (k : Int)) = min k n := by
  show (if (k : Int) < 0 then ((k : Int) + (n : Int)).toNat else min (k : Int).toNat n) = min k n
  rw [if_neg (by omega), Int.toNat_natCast]
theorem sIx_le (n d : Nat) (hd : d ≤ n) (o : Option Int) : sIx n d o ≤ n := by
  cases o with
  | none => exact hd
  | some v =>
    show (if v < 0 then (v + (n : Int)).toNat else min v.toNat n) ≤ n
    by_cases hv : v < 0
    · rw [if_pos hv]; omega
    · rw [if_neg hv]; exact Nat.min_le_right _ _
theorem clip_eq (v : Int) (n d : Nat) : (if v < 0 then max (v + (n : Int)) 0 else min v (n : Int)) = ((sIx n d (some v) : Nat) : Int) := by
  show (if v < 0 then max (v + (n : Int)) 0 else min v (n : Int)) = (((if v < 0 then (v + (n : Int)).toNat else min v.toNat n) : Nat) : Int)
  by_cases hv : v < 0
  · simp only [if_pos hv]; omega
  · simp only [if_neg hv]; omega
theorem adjust_gen (lo hi : Option Int) (n : Nat) : Builtin.Slice.sliceAdjust lo hi 1 (n : Int) = (((sIx n 0 lo : Nat) : Int), ((sIx n n hi : Nat) : Int)) := by
  have h1 : ¬ ((1 : Int) < 0) := by omega
  unfold Builtin.Slice.sliceAdjust
  simp only [h1, if_false]
  refine Prod.ext ?_ ?_
  · cases lo with
    | none => rfl
    | some v => exact clip_eq v n 0
  · cases hi with
    | none => rfl
    | some v => exact clip_eq v n n
theorem places_gen (i j : Nat) : Builtin.Slice.slicePlaces (i : Int) (j : Int) 1 = j - i := by
  unfold Builtin.Slice.slicePlaces
  have h1 : (1 : Int) > 0 := by omega
  simp only [h1, if_true, Int.ediv_one]
  split <;> omega
theorem slicePart_ {v : Value} {o : Option Int} {Q : Option Int → Shared → Prop} (p : IsPart v o) (h : Q o s) : wpAny (model prog w) A (Builtin.Slice.slicePartIndex v) Q E s := by
  cases p with
  | none => exact slicePart_none h
  | int i t => exact slicePart_int h
theorem sliceApplied_gen {sl : Addr} {vl vu : Value} {lo hi : Option Int} {n : Nat} {Q : Int × Int × Nat → Shared → Prop} (hs : s.heap.IsSliceOf sl vl vu .none) (pl : IsPart vl lo) (pu : IsPart vu hi)
    (h : Q (((sIx n 0 lo : Nat) : Int), 1, sIx n n hi - sIx n 0 lo) s) : wpAny (model prog w) A (Builtin.Slice.sliceApplied (.ref sl) (pure (n : Int))) Q E s := by
  obtain ⟨os, hos, hcs, hds⟩ := id hs
  unfold Builtin.Slice.sliceApplied Builtin.Slice.sliceFields
  refine wpAny_bind (wpAny_bind (wpAny_field hos hds (x := vl) rfl (wpAny_bind (wpAny_field hos hds (x := vu) rfl (wpAny_bind (wpAny_field hos hds (x := .none) rfl (wpAny_pure ?_)))))))
  refine wpAny_bind (slicePart_none ?_)
  show wpAny _ _ (if ((1 : Int) == 0) = true then _ else _) _ _ s
  rw [if_neg (by decide)]
  refine wpAny_bind (slicePart_ pl (wpAny_bind (slicePart_ pu (wpAny_bind (wpAny_pure ?_)))))
  show wpAny _ _ (match Builtin.Slice.sliceAdjust lo hi 1 (n : Int) with | (lo, hi) => pure (lo, (1 : Int), Builtin.Slice.slicePlaces lo hi 1)) _ _ s
  rw [adjust_gen lo hi n]
  show wpAny _ _ (pure (((sIx n 0 lo : Nat) : Int), (1 : Int), Builtin.Slice.slicePlaces ((sIx n 0 lo : Nat) : Int) ((sIx n n hi : Nat) : Int) 1)) _ _ s
  rw [places_gen]
  exact wpAny_pure h
theorem pick_gen (xs : Array Value) (i k : Nat) : ((List.range k).filterMap fun (m : Nat) => xs[((i : Int) + (m : Int) * 1).toNat]?).toArray = ((xs.toList.drop i).take k).toArray := by
  have e : (fun (m : Nat) => xs[((i : Int) + (m : Int) * 1).toNat]?) = fun m => xs[i + m]? := by
    funext m
    have : ((i : Int) + (m : Int) * 1).toNat = i + m := by omega
    rw [this]
  rw [e]
  have := pick_run xs i k
  rw [List.filterMap_map] at this
  have e2 : ((fun x => xs[x]?) ∘ fun x => i + x) = fun m => xs[i + m]? := rfl
  rw [e2] at this
  rw [this]

theorem getItem_tuple_cut {t sl : Addr} {items : Array Value} {vl vu : Value} {lo hi : Option Int} {Q : Value → Shared → Prop} (ht : IsTup s.heap t items) (hs : s.heap.IsSliceOf sl vl vu .none) (pl : IsPart vl lo) (pu : IsPart vu hi)
    (hw : ¬ (sIx items.size 0 lo = 0 ∧ sIx items.size items.size hi = items.size))
    (h : Q (.ref s.heap.objs.size) { s with heap := s.heap.push { cls := .type "tuple", data := .seq ((items.toList.drop (sIx items.size 0 lo)).take (sIx items.size items.size hi - sIx items.size 0 lo)).toArray } })
    (hsz : items.size ≤ sizeLine) : wpAny (model prog w) A (getItem (.ref t) (.ref sl)) Q E s := by
  have htake : sizeOk (.seq ((items.toList.drop (sIx items.size 0 lo)).take (sIx items.size items.size hi - sIx items.size 0 lo)).toArray) := by
    show ((items.toList.drop (sIx items.size 0 lo)).take (sIx items.size items.size hi - sIx items.size 0 lo)).toArray.size ≤ sizeLine
    rw [List.size_toArray, List.length_take, List.length_drop, Array.length_toList]
    omega
  have hj : sIx items.size items.size hi ≤ items.size := sIx_le _ _ (Nat.le_refl _) hi
  obtain ⟨os, hos, hcs, hds⟩ := id hs
  have hTs : s.TypeIs (.ref sl) "slice" := ⟨os, hos, hcs⟩
  unfold getItem
  try with_reducible refine wpAny_holding ?_
  first | refine wpAny_bind (wpAny_pure ?_) | skip
  refine wpAny_bind (wpAny_sequenceKey ht.typeIs (by decide) ?_)
  refine wpAny_bind (wpAny_callSpecial?_slot (name := Str.ofString "__getitem__") ht.typeIs PyProof.Rows.slot_tuple_getitem
    (wpAny_call_entry PyProof.Rows.slot_tuple_getitem ht.typeIs entry_tuple_getitem ?_ (args_tuple_getitem _ _)))
  show wpAny _ _ (Builtin.Tuple.tupleItemsOf (.ref t) >>= _) _ _ s
  refine wpAny_bind (tupleItemsOf_ ht ?_)
  refine wpAny_bind (wpAny_typeOf hTs ?_)
  rw [if_pos (by decide)]
  refine wpAny_bind (sliceApplied_gen hs pl pu ?_)
  have hno : ¬ ((((sIx items.size 0 lo : Nat) : Int) == 0 && (1 : Int) == 1 && (sIx items.size items.size hi - sIx items.size 0 lo) == items.size) = true) := by
    intro q
    rw [Bool.and_eq_true, Bool.and_eq_true] at q
    have q1 : ((sIx items.size 0 lo : Nat) : Int) = 0 := eq_of_beq q.1.1
    have q2 : sIx items.size items.size hi - sIx items.size 0 lo = items.size := eq_of_beq q.2
    exact hw ⟨by omega, by omega⟩
  show wpAny _ _ (if (((sIx items.size 0 lo : Nat) : Int) == 0 && (1 : Int) == 1 && (sIx items.size items.size hi - sIx items.size 0 lo) == items.size) = true then _ else _) _ _ s
  rw [if_neg hno, pick_gen]
  first
    | exact wpAny_bind (m := Builtin.Tuple.tupleExact _) (wpAny_newObj_type (wpAny_pure ⟨_, rfl, wpAny_pure h⟩) htake)
    | exact wpAny_bind (m := Builtin.Tuple.tupleExact _) (wpAny_newObj_type (wpAny_bind (wpAny_pure (wpAny_pure ⟨_, rfl, wpAny_pure h⟩))) htake)
    | exact wpAny_bind (wpAny_bind (m := Builtin.Tuple.tupleExact _) (wpAny_newObj_type (wpAny_pure (wpAny_pure ⟨_, rfl, wpAny_pure h⟩)) htake))
    | exact wpAny_bind (wpAny_bind (m := Builtin.Tuple.tupleExact _) (wpAny_newObj_type (wpAny_pure ⟨_, rfl, wpAny_pure h⟩) htake))
end
end HT

namespace L2
open PySem PySem.Spec PyProof.Rows

/-! ### the parts of a slice -/
abbrev TO := St → Hp → (Option Int → Hp → Prop) → Prop
/-- a slice's part (left out, or an int) -/
def PO (X : Cx) (e : Option Expr) (t : TO) : Prop :=
  ∀ (pins : List (Addr × Obj)) (s : Shared) (σ : St) (H : Hp) (Q : Option Int → Hp → Prop), Inv X pins σ H s → t σ H Q →
    wpAny (model X.prog X.w) X.A (evalPart e X.env) (fun u s' => ∃ o H', Inv X pins σ H' s' ∧ IsPart u o ∧ Q o H') X.xe s
def tNoPart : TO := fun _ H Q => Q none H
def tPart (t : TE) : TO := fun σ H Q => t σ H fun x H1 => ∃ i, x = .int i ∧ Q (some i) H1


section
variable {X : Cx} {e : Expr} {te : TE} {lo hi : Option Expr} {tl th : TO} {pos p2 : Pos}

theorem po_none : PO X none tNoPart := by
  intro pins s σ H Q I h
  rw [evalPart_none]
  exact wpAny_pure ⟨none, H, I, .none, h⟩
theorem po_some (h : PE X e te) : PO X (some e) (tPart te) := by
  intro pins s σ H Q I hw
  rw [evalPart_some]
  refine thn (h pins s σ H _ I hw) fun u s1 ⟨x, H1, I1, r1, q1⟩ => ?_
  obtain ⟨i, rfl, q⟩ := q1
  obtain ⟨t, rfl⟩ := r1
  exact ⟨some i, H1, I1, .int i t, q⟩

/-- what a slice of a value is, by values: the slice object stands at sl -/
def SlR (X : Cx) (r : V → Option Int → Option Int → Hp → VK → Prop) : Prop :=
  ∀ (pins : List (Addr × Obj)) (s : Shared) (σ : St) (H : Hp) (x : V) (v vl vu : Value) (lo hi : Option Int) (sl : Addr) (Q : VK), Inv X pins σ H s → RelV x v → s.heap.IsSliceOf sl vl vu .none → IsPart vl lo → IsPart vu hi → r x lo hi H Q →
    ∃ T id, typeLookup (.type T) "__getitem__" = pure (some (.builtin id)) ∧ s.TypeIs v T ∧ wpAny (model X.prog X.w) X.A (getItem v (.ref sl)) (EP X pins σ Q) X.xe s
def tSl (r : V → Option Int → Option Int → Hp → VK → Prop) (te : TE) (tl th : TO) : TE := fun σ H Q => te σ H fun x H1 => tl σ H1 fun l H2 => th σ H2 fun u H3 => r x l u H3 Q
/-- a[lo:hi], any a -/
theorem pe_slice {r : V → Option Int → Option Int → Hp → VK → Prop} (hr : SlR X r) (he : PE X e te) (hl : PO X lo tl) (hu : PO X hi th) : PE X (.Subscript e (.Slice lo hi none p2) pos) (tSl r te tl th) := by
  intro pins s σ H Q I h
  refine Subscript_ (thn (he pins s σ H _ I h) fun v s1 ⟨x, H1, I1, r1, q1⟩ => ?_)
  refine wpAny_Slice (thn (hl pins s1 σ H1 _ I1 q1) fun vl s2 ⟨l, H2, I2, pl, q2⟩ => thn (hu pins s2 σ H2 _ I2 q2) fun vu s3 ⟨u, H3, I3, pu, q3⟩ => ?_)
  rw [evalPart_none]
  refine wpAny_pure ?_
  have I4 : Inv X pins σ H3 { s3 with heap := s3.heap.push { cls := .type "slice", data := .fields #[vl, vu, .none] } } := I3.kept (t' := s3.toks) fun b ob q => Heap.get?_push_of_some _ q
  obtain ⟨T, id, hT, ht, hg⟩ := hr pins { s3 with heap := s3.heap.push { cls := .type "slice", data := .fields #[vl, vu, .none] } } σ H3 x v vl vu l u s3.heap.objs.size Q I4 r1 (Heap.IsSliceOf.new ..) pl pu q3
  show wpAny (model X.prog X.w) X.A (subscriptTail e (.Slice lo hi none p2) v (.ref s3.heap.objs.size)) (EP X pins σ Q) X.xe { s3 with heap := s3.heap.push { cls := .type "slice", data := .fields #[vl, vu, .none] } }
  exact tail_any (ops := [.ref s3.heap.objs.size, v]) ht hT hg (by with_unfolding_all rfl)

/-- the items of xs[lo:hi] -/
def cutV (xs : List V) (lo hi : Option Int) : List V := (xs.drop (HT.sIx xs.length 0 lo)).take (HT.sIx xs.length xs.length hi - HT.sIx xs.length 0 lo)
theorem cutV_length (xs : List V) (lo hi : Option Int) : (cutV xs lo hi).length ≤ xs.length := by
  unfold cutV
  rw [List.length_take, List.length_drop]
  omega
/-- t[lo:hi], not the whole of it (the whole would be t itself) -/
def rSlT (K : PySem.W.Frag) : V → Option Int → Option Int → Hp → VK → Prop := fun x lo hi H Q => ∃ a xs, x = .ref a ∧ SqT K H a xs ∧
  ¬ (HT.sIx xs.length 0 lo = 0 ∧ HT.sIx xs.length xs.length hi = xs.length) ∧ ∀ p, H p = none → Q (.ref p) (upd H p (.tup (cutV xs lo hi)))
theorem sl_tup : SlR X (rSlT X.K) := by
  intro pins s σ H x v vl vu lo hi sl Q I rx hs pl pu h
  obtain ⟨a, xs, rfl, hx, hw, q⟩ := h
  cases rx
  obtain ⟨its, r, ht, hz⟩ := I.tuple hx
  have hlen : its.toArray.size = xs.length := by rw [List.size_toArray]; exact r.length.symm
  refine ⟨"tuple", _, PyProof.Rows.slot_tuple_getitem.lookup, ht.typeIs, ?_⟩
  refine HT.getItem_tuple_cut ht hs pl pu (by rw [hlen]; exact hw) ?_ (by rw [hlen]; exact hz)
  rw [hlen]
  refine ⟨.ref s.heap.objs.size, _, I.laid (t' := s.toks) (o := .tup (cutV xs lo hi)) (fun b ob q => Heap.get?_push_of_some _ q) (Nat.le_refl _) ?_, rfl, q _ (I.hok.fresh (Nat.le_refl _))⟩
  exact ⟨Nat.le_trans (cutV_length xs lo hi) hz, _, (r.drop (HT.sIx xs.length 0 lo)).take (HT.sIx xs.length xs.length hi - HT.sIx xs.length 0 lo), IsTup.new _ _⟩

/-! ### t < u, t + u -/
end
end L2

namespace L2
open PySem PySem.Spec PyProof.Rows

/-! ### places -/
/-- the place that an index of any sign means -/
def ixN (n : Nat) (i : Int) : Option Nat := if 0 ≤ i then (if i < n then some i.toNat else none) else if -(n : Int) ≤ i then some (i + n).toNat else none
def atI {α : Type} (xs : List α) (i : Int) : Option α := (ixN xs.length i).bind fun j => xs[j]?
theorem ixN_seq {n : Nat} {i : Int} {j : Nat} (h : ixN n i = some j) : seqIndex? i n = some j ∧ j < n ∧ -(n : Int) ≤ i ∧ i < n := by
  unfold ixN at h
  by_cases h0 : 0 ≤ i
  · rw [if_pos h0] at h
    by_cases h1 : i < n
    · rw [if_pos h1] at h
      have e : i.toNat = j := Option.some.inj h
      exact ⟨by rw [seqIndex_of h0 h1, e], by omega, by omega, h1⟩
    · rw [if_neg h1] at h; cases h
  · rw [if_neg h0] at h
    by_cases h1 : -(n : Int) ≤ i
    · rw [if_pos h1] at h
      have e : (i + n).toNat = j := Option.some.inj h
      exact ⟨by rw [seqIndex_neg (by omega) h1, e], by omega, h1, by omega⟩
    · rw [if_neg h1] at h; cases h
theorem atI_get {α : Type} {xs : List α} {i : Int} {v : α} (h : atI xs i = some v) : ∃ j, seqIndex? i xs.length = some j ∧ xs[j]? = some v ∧ j < xs.length ∧ -(xs.length : Int) ≤ i ∧ i < xs.length := by
  unfold atI at h
  cases e : ixN xs.length i with
  | none => rw [e] at h; cases h
  | some j =>
    rw [e] at h
    obtain ⟨h1, h2, h3, h4⟩ := ixN_seq e
    exact ⟨j, h1, h, h2, h3, h4⟩
theorem atI_nat {α : Type} {xs : List α} {j : Nat} {v : α} (h : xs[j]? = some v) : atI xs (j : Int) = some v := by
  have hj : j < xs.length := (List.getElem?_eq_some_iff.mp h).1
  have e : ixN xs.length (j : Int) = some j := by
    unfold ixN
    rw [if_pos (by omega), if_pos (by omega)]; simp
  unfold atI; rw [e]; exact h

/-! ### what may be subscripted -/
/-- what stands as an index of a plain subscript -/
def PlainIx (b : Expr) : Prop := ∀ o i, subscripted b false o i = operate [o, i] (getItem o i)
/-- a subscript by values -/
def IxR (X : Cx) (r : R2) : Prop :=
  ∀ (value slice : Expr) (pins : List (Addr × Obj)) (s : Shared) (σ : St) (H : Hp) (x y : V) (v u : Value) (Q : VK), Inv X pins σ H s → RelV x v → RelV y u → r x y H Q →
    subscripted slice false v u = operate [v, u] (getItem v u) → wpAny (model X.prog X.w) X.A (subscriptTail value slice v u) (EP X pins σ Q) X.xe s
/-- a call of a builtin's method by values: the receiver, the arguments -/
def MtR (X : Cx) (id : String) (r : V → List V → Hp → VK → Prop) : Prop :=
  ∀ (pins : List (Addr × Obj)) (s : Shared) (σ : St) (H : Hp) (x : V) (xs : List V) (v : Value) (us : List Value) (Q : VK), Inv X pins σ H s → RelV x v → Vals xs us → r x xs H Q →
    wpAny (model X.prog X.w) X.A (call (.builtin id) (v :: us)) (EP X pins σ Q) X.xe s
section
variable {X : Cx} {a b : Expr} {ta tb : TE} {pos : Pos}
/-- a[b] -/
theorem pe_ix {r : R2} (hr : IxR X r) (ha : PE X a ta) (hb : PE X b tb) (hs : PlainIx b) : PE X (.Subscript a b pos) (tOp r ta tb) := by
  intro pins s σ H Q I h
  exact Subscript_ (binT ha hb I h fun v u s2 x y H2 I2 rx ry q => hr a b pins s2 σ H2 x y v u Q I2 rx ry q (hs _ _))

def rIxL (K : PySem.W.Frag) : R2 := fun x y H Q => ∃ p xs i v, x = .ref p ∧ y = .int i ∧ SqL K H p xs ∧ atI xs i = some v ∧ Q v H
def rIxT (K : PySem.W.Frag) : R2 := fun x y H Q => ∃ p xs i v, x = .ref p ∧ y = .int i ∧ SqT K H p xs ∧ atI xs i = some v ∧ Q v H
theorem ix_list : IxR X (rIxL X.K) := by
  intro value slice pins s σ H x y v u Q I rx ry h hs
  obtain ⟨p, xs, i, z, rfl, rfl, hq, he, q⟩ := h
  cases rx
  obtain ⟨t, rfl⟩ := ry
  obtain ⟨its, r, pl, hz⟩ := I.list hq
  obtain ⟨j, h1, h2, h3, h4, h5⟩ := atI_get he
  obtain ⟨w, ew, rw'⟩ := r.get h2
  have hl := r.length
  have hn := line63
  have fin : EP X pins σ Q w s := ⟨z, H, I, rw', q⟩
  by_cases h0 : 0 ≤ i
  · have hj : i.toNat = j := by
      rw [seqIndex_of h0 h5] at h1
      exact Option.some.inj h1
    exact item_listR pl.isList h0 (by omega) (by rw [hj]; simpa using ew) fin hs
  · have hj : (i + (its.toArray.size : Int)).toNat = j := by
      rw [seqIndex_neg (by omega) h4] at h1
      rw [List.size_toArray, ← hl]
      exact Option.some.inj h1
    exact subscriptTail_builtinR (x := w) pl.isList.typeIs slot_list_getitem.lookup
      (wpAny_getItem_list_neg (Q := fun r s' => r = w ∧ EP X pins σ Q r s') pl.isList (by omega) (by rw [List.size_toArray] <;> omega) (by omega) (by rw [hj]; simpa using ew) ⟨rfl, fin⟩) hs
theorem ix_tup : IxR X (rIxT X.K) := by
  intro value slice pins s σ H x y v u Q I rx ry h hs
  obtain ⟨p, xs, i, z, rfl, rfl, hq, he, q⟩ := h
  cases rx
  obtain ⟨t, rfl⟩ := ry
  obtain ⟨its, r, pl, hz⟩ := I.tuple hq
  obtain ⟨j, h1, h2, h3, h4, h5⟩ := atI_get he
  obtain ⟨w, ew, rw'⟩ := r.get h2
  have hl := r.length
  have hn := line63
  have fin : EP X pins σ Q w s := ⟨z, H, I, rw', q⟩
  exact subscriptTail_builtinR (x := w) pl.typeIs slot_tuple_getitem.lookup
    (getItem_tuple (j := j) (Q := fun r s' => r = w ∧ EP X pins σ Q r s') pl (by omega) (by omega) (by rw [List.size_toArray, ← hl]; exact h1) (by simpa using ew) ⟨rfl, fin⟩) hs

/-! ### xs[i] = v, any sign -/

/-! ### slices -/
theorem slice_bounds (lo hi : Option Int) (n : Nat) : (sliceBounds lo hi none n).1 = ((HT.sIx n 0 lo : Nat) : Int) ∧ (sliceBounds lo hi none n).2.1 = ((HT.sIx n n hi : Nat) : Int) ∧ (sliceBounds lo hi none n).2.2 = 1 := by
  refine ⟨?_, ?_, rfl⟩
  · cases lo with
    | none => simp [sliceBounds, HT.sIx]
    | some i =>
      simp only [sliceBounds, HT.sIx, Option.getD_none, show (1 : Int) > 0 by decide, if_true]
      by_cases h : i < 0
      · simp only [h, if_true] <;> omega
      · simp only [h, if_false] <;> omega
  · cases hi with
    | none => simp [sliceBounds, HT.sIx]
    | some i =>
      simp only [sliceBounds, HT.sIx, Option.getD_none, show (1 : Int) > 0 by decide, if_true]
      by_cases h : i < 0
      · simp only [h, if_true] <;> omega
      · simp only [h, if_false] <;> omega
theorem slicePick_cut (its : List Value) (lo hi : Option Int) : slicePick its.toArray lo hi none = ((its.drop (HT.sIx its.length 0 lo)).take (HT.sIx its.length its.length hi - HT.sIx its.length 0 lo)).toArray := by
  obtain ⟨h1, h2, h3⟩ := slice_bounds lo hi its.toArray.size
  unfold slicePick
  rw [h1, h2, h3]
  simp only [sliceRange_one, pick_run, List.size_toArray] <;> rfl
/-- xs[lo:hi] of a list: a new list -/
def rSlL (K : PySem.W.Frag) : V → Option Int → Option Int → Hp → VK → Prop := fun x lo hi H Q => ∃ a xs, x = .ref a ∧ SqL K H a xs ∧ ∀ p, H p = none → Q (.ref p) (upd H p (.lst (cutV xs lo hi)))
theorem sl_list : SlR X (rSlL X.K) := by
  intro pins s σ H x v vl vu lo hi sl Q I rx hs pl pu h
  obtain ⟨a, xs, rfl, hx, q⟩ := h
  cases rx
  obtain ⟨its, r, ht, hz⟩ := I.list hx
  have hlen := r.length
  refine ⟨"list", _, slot_list_getitem.lookup, ht.isList.typeIs, ?_⟩
  refine wpAny_getItem_list_slice ht.isList hs pl pu .none (by simp) ?_ (by rw [List.size_toArray] <;> omega)
  rw [slicePick_cut, ← hlen]
  refine ⟨.ref s.heap.objs.size, _, I.laid (t' := s.toks) (o := .lst (cutV xs lo hi)) (fun b ob q => Heap.get?_push_of_some _ q) (Nat.le_refl _) ?_, rfl, q _ (I.hok.fresh (Nat.le_refl _))⟩
  exact ⟨Nat.le_trans (cutV_length xs lo hi) hz, _, 0, (r.drop (HT.sIx xs.length 0 lo)).take (HT.sIx xs.length xs.length hi - HT.sIx xs.length 0 lo), Heap.get?_push_size _ rfl⟩

/-! ### in, not in: flat items -/

/-! ### len, list(x), tuple(x) of any list or tuple that is read -/
theorem call_len_seq : CallR X (.builtin "len") (fun xs H Q => ∃ p ys, xs = [.ref p] ∧ (SqL X.K H p ys ∨ SqT X.K H p ys) ∧ Q (.int ys.length) H) := by
  intro pins s σ H xs us Q I r h
  obtain ⟨p, ys, rfl, hq, q⟩ := h
  obtain ⟨u, rfl, rx⟩ := vals1 r
  cases rx
  have hn := line63
  rcases hq with hq | hq
  · obtain ⟨its, r', pl, hz⟩ := I.list hq
    have hlen := r'.length
    exact Calls.call_len_list pl.isList (by simp only [List.size_toArray] <;> omega) ⟨.int ys.length, H, I.tok _, ⟨s.toks + 1, by rw [List.size_toArray, hlen]⟩, q⟩
  · obtain ⟨its, r', pl, hz⟩ := I.tuple hq
    have hlen := r'.length
    exact len_tuple pl (by simp only [List.size_toArray] <;> omega) ⟨.int ys.length, H, I.tok _, ⟨s.toks + 1, by rw [List.size_toArray, hlen]⟩, q⟩
theorem call_list_of : CallR X (.type "list") (fun xs H Q => ∃ p ys, xs = [.ref p] ∧ (SqL X.K H p ys ∨ SqT X.K H p ys) ∧ ∀ l, H l = none → Q (.ref l) (upd H l (.lst ys))) := by
  intro pins s σ H xs us Q I r h
  obtain ⟨p, ys, rfl, hq, q⟩ := h
  obtain ⟨u, rfl, rx⟩ := vals1 r
  cases rx
  have fin : ∀ (its : List Value), Vals ys its → ys.length ≤ sizeLine → ∀ (h' : Heap) (c' : Nat), (∀ b o', s.heap.get? b = some o' → h'.get? b = some o') →
      h'.get? s.heap.objs.size = some { cls := .type "list", dict := none, data := .seq its.toArray c', slots := #[] } → EP X pins σ Q (.ref s.heap.objs.size) { s with heap := h' } := fun its r' hz h' c' kp e =>
    ⟨.ref s.heap.objs.size, _, I.laid (t' := s.toks) kp (Nat.le_refl _) (show ObjOk X.prog X.w _ h' _ (.lst ys) from ⟨hz, its, c', r', e⟩), rfl, q _ (I.hok.fresh (Nat.le_refl _))⟩
  rcases hq with hq | hq
  · obtain ⟨its, r', pl, hz⟩ := I.list hq
    have hlen := r'.length
    obtain ⟨o, ho, hc, n, hd⟩ := pl.isList
    exact call_list_seq p (.inl rfl) ho hc hd (fun h' c' kp e => fin its r' hz h' c' kp e) (by simp only [List.size_toArray] <;> omega)
  · obtain ⟨its, r', pl, hz⟩ := I.tuple hq
    have hlen := r'.length
    obtain ⟨o, ho, hc, n, hd⟩ := pl
    exact call_list_seq p (.inr rfl) ho hc hd (fun h' c' kp e => fin its r' hz h' c' kp e) (by simp only [List.size_toArray] <;> omega)

/-! ### the call of a builtin's method: o.m(..) -/
/-- the value is of that builtin type -/
def tyV (K : PySem.W.Frag) (T : String) (x : V) (H : Hp) : Prop := match x with
  | .str _ => T = "str"
  | .int _ => T = "int"
  | .ref p => (T = "list" ∧ ∃ xs, SqL K H p xs) ∨ (T = "tuple" ∧ ∃ o, K.lookup p = some o ∧ o.cls = .type "tuple" ∧ o.dict = none) ∨
      (T = "dict" ∧ ((∃ kvs, H p = some (.dK kvs)) ∨ ∃ kvs, H p = some (.dT kvs))) ∨ (T = "set" ∧ ∃ S n, H p = some (.set S n))
  | _ => False
theorem tyV_is {pins : List (Addr × Obj)} {σ : St} {H : Hp} {s : Shared} {T : String} {x : V} {v : Value} (I : Inv X pins σ H s) (r : RelV x v) (ty : tyV X.K T x H) :
    s.TypeIs v T ∧ ∀ a, v = .ref a → ∃ ob, s.heap.get? a = some ob ∧ ob.dict = none := by
  cases x with
  | str z =>
    obtain ⟨t, rfl⟩ := r
    cases (show T = "str" from ty)
    exact ⟨typeIs_str s z t, fun _ e => nomatch e⟩
  | int i =>
    obtain ⟨t, rfl⟩ := r
    cases (show T = "int" from ty)
    exact ⟨typeIs_int s i t, fun _ e => nomatch e⟩
  | ref p =>
    cases r
    rcases ty with ⟨rfl, xs, hq⟩ | ⟨rfl, o, hk, hc, hd⟩ | ⟨rfl, hk⟩ | ⟨rfl, S, n, hk⟩
    · obtain ⟨its, _, pl, _⟩ := I.list hq
      refine ⟨pl.isList.typeIs, fun a e => ?_⟩
      cases e
      obtain ⟨o, n, e, c, hd, _⟩ := pl
      exact ⟨o, e, hd⟩
    · refine ⟨⟨o, I.kIn p o hk, hc⟩, fun a e => ?_⟩
      cases e
      exact ⟨o, I.kIn _ o hk, hd⟩
    · have z : ∃ o, s.heap.get? p = some o ∧ o.ExactDict := by
        rcases hk with ⟨kvs, hk⟩ | ⟨kvs, hk⟩
        · obtain ⟨_, _, _, _, o, _, _, e, ex, _⟩ := I.hok p _ hk
          exact ⟨o, e, ex⟩
        · obtain ⟨_, _, _, _, o, _, _, e, ex, _⟩ := I.hok p _ hk
          exact ⟨o, e, ex⟩
      obtain ⟨o, e, ex⟩ := z
      refine ⟨⟨o, e, ex.1⟩, fun a e2 => ?_⟩
      cases e2
      exact ⟨o, e, ex.2.1⟩
    · obtain ⟨o, _, _, _, e, ex, _⟩ := I.hok p _ hk
      refine ⟨⟨o, e, ex.1⟩, fun a e2 => ?_⟩
      cases e2
      exact ⟨o, e, ex.2.1⟩
  | _ => exact False.elim ty
def tBM (K : PySem.W.Frag) (T : String) (r : V → List V → Hp → VK → Prop) (to : TE) (t : TA) : TE := fun σ H Q => to σ H fun x H1 => tyV K T x H1 ∧ t σ H1 fun xs H2 => r x xs H2 Q
variable {o e : Expr} {es : List Expr} {to : TE} {t : TA} {name : Str} {apos cpos : Pos} {T id : String} {r : V → List V → Hp → VK → Prop}
theorem pe_bm (pa : PlainAttrs T) (slot : Slot T name id) (hty : typeOf (.builtin id) = pure (.type "method_descriptor")) (hm : MtR X id r) (ho : PE X o to) (ha : PA X (e :: es) t)
    (hbase : attributeBase o name X.env (eval o X.env) = eval o X.env := by rfl)
    (hfew : ((backTo cpos (starEach (e :: es) X.env)).all (fun x => !x.1) && (backToKw cpos (keywordEach [] X.env)).all (fun x => x.1.isSome)
      && decide ((e :: es).length + ([] : List Keyword).length + (if ([] : List Keyword).isEmpty then 0 else 1) < 30)) = true := by rfl)
    (hline : (apos.endLine == cpos.line) = true := by rfl) (hs : starEach (e :: es) X.env = (false, eval e X.env) :: starEach es X.env := by rfl) (hplain : (backTo cpos (starEach es X.env)).any (·.1) = false := by rfl) :
    PE X (.Call (.Attribute o name apos) (e :: es) [] cpos) (tBM X.K T r to t) := by
  intro pins s σ H Q I h
  refine wpAny_Call_method_late hbase hfew hline rfl (thn (ho pins s σ H _ I h) fun v s1 ⟨x, H1, I1, r1, ty, q1⟩ => ?_)
  obtain ⟨h1, h2⟩ := tyV_is I1 r1 ty
  refine ⟨T, id, pa, slot, hty, h1, h2, ?_⟩
  have hA := ha cpos pins s1 σ H1 _ I1 q1
  rw [hs] at hA ⊢
  refine Calls.callWith_builtin (by show (false || (backTo cpos (starEach es X.env)).any (·.1)) = false; rw [hplain] <;> rfl) (Calls.evalArgs_plain ?_)
  exact thn hA fun us s2 ⟨vs, H2, I2, r2, q2⟩ => hm pins s2 σ H2 x vs v us Q I2 r1 r2 q2
/- xs.append(e), list.index on a module's tuple .. are MtR facts of 06m -/
end
end L2

namespace L2
open PySem PySem.Spec PyProof.Rows

def MtM (X : Cx) (id : String) (r : V → List V → Hp → VK → Prop) : Prop :=
  ∀ (pins : List (Addr × Obj)) (s : Shared) (σ : St) (H : Hp) (x : V) (xs : List V) (v : Value) (us : List Value) (Q : VK), Inv X pins σ H s → RelV x v → Vals xs us → r x xs H Q →
    wpAny (model X.prog X.w) X.A (call (.builtin id) (v :: us)) (EP X pins σ Q) X.xe s

/-! ### lists of values -/
theorem Vals.one : ∀ {x : V} {us : List Value}, Vals [x] us → ∃ u, us = [u] ∧ RelV x u
  | _, _, .cons r .nil => ⟨_, rfl, r⟩
theorem Vals.two : ∀ {x y : V} {us : List Value}, Vals [x, y] us → ∃ u v, us = [u, v] ∧ RelV x u ∧ RelV y v
  | _, _, _, .cons r (.cons q .nil) => ⟨_, _, rfl, r, q⟩
theorem Vals.eraseIdx : ∀ {xs : List V} {us : List Value} (i : Nat), Vals xs us → Vals (xs.eraseIdx i) (us.eraseIdx i)
  | _, _, _, .nil => .nil
  | _, _, 0, .cons _ t => t
  | _, _, i + 1, .cons r t => .cons r (Vals.eraseIdx i t)
theorem len_erase {α : Type} : ∀ (l : List α) (i : Nat), (l.eraseIdx i).length ≤ l.length
  | [], _ => Nat.le_refl _
  | _ :: _, 0 => Nat.le_succ _
  | _ :: r, i + 1 => Nat.succ_le_succ (len_erase r i)

section
variable {X : Cx} {pins : List (Addr × Obj)} {σ : St} {H : Hp} {s : Shared} {l b : Addr} {xs ys zs : List V}

/-! ### the two steps: a tracked list is rewritten, a new list is laid -/
theorem Inv.lset {its its' : List Value} {n : Nat} {f : Array Value → Array Value} {t' : Nat} (I : Inv X pins σ H s) (hH : H l = some (.lst xs))
    (e : s.heap.get? l = some { cls := .type "list", data := .seq its.toArray n }) (hf : f its.toArray = its'.toArray) (hv : Vals ys its') (hz : ys.length ≤ sizeLine) :
    Inv X pins σ (upd H l (.lst ys)) { s with heap := s.heap.update l (Obj.mapSeq f), toks := t' } := by
  have q := PySem.IsL.update e f
  rw [hf] at q
  refine I.write (x := l) (e := l) (by rw [hH]; exact trivial) (.inl rfl) (fun b' u hb hu => (Heap.get?_update_other s.heap (Obj.mapSeq f) (Ne.symm hb)).trans hu) ⟨_, q⟩ ?_
  exact ⟨hz, its', _, hv, q⟩
theorem Inv.lnew {its : List Value} {t' : Nat} (I : Inv X pins σ H s) (hv : Vals ys its) (hz : ys.length ≤ sizeLine) :
    Inv X pins σ (upd H s.heap.objs.size (.lst ys)) { s with heap := s.heap.push { cls := .type "list", data := .seq its.toArray }, toks := t' } :=
  I.laid (fun _ _ q => Heap.get?_push_of_some _ q) (Nat.le_refl _) ⟨hz, its, 0, hv, Heap.get?_push_size _ rfl⟩
theorem Inv.fresh (I : Inv X pins σ H s) : H s.heap.objs.size = none := I.hok.fresh (Nat.le_refl _)
theorem Inv.lstM (I : Inv X pins σ H s) (hH : H l = some (.lst xs)) : xs.length ≤ sizeLine ∧ ∃ (its : List Value) (n : Nat), Vals xs its ∧ xs.length = its.length ∧ s.heap.get? l = some { cls := .type "list", data := .seq its.toArray n } := by
  obtain ⟨z, its, n, r, e⟩ := I.hok l _ hH
  exact ⟨z, its, n, r, r.length, e⟩

theorem notLongL {n : Nat} (h : n ≤ sizeLine) : Builtin.List.listTooLong n = false := by
  unfold Builtin.List.listTooLong
  exact decide_eq_false (by omega)
end

section
variable {X : Cx}

/-! ### methods -/
def rAppend : V → List V → Hp → VK → Prop := fun x vs H Q => ∃ l xs y, x = .ref l ∧ vs = [y] ∧ H l = some (.lst xs) ∧ xs.length < sizeLine ∧ Q .non (upd H l (.lst (xs ++ [y])))
theorem mt_append : MtM X "list.append" rAppend := by
  intro pins s σ H x vs v us Q I rx rv h
  obtain ⟨l, xs, y, rfl, rfl, hH, hz, q⟩ := h
  cases rx
  obtain ⟨u, rfl, ru⟩ := rv.one
  obtain ⟨z, its, n, r, hl, e⟩ := I.lstM hH
  refine call_meets F.slot_list_append ⟨_, e, rfl⟩ F.entry_list_append (F.args_list_append_2 _ _) (PySem.list_append l its.toArray n u (by rw [List.size_toArray]; omega)) ⟨e, ?_⟩
  refine ⟨.non, _, I.lset (its' := its ++ [u]) hH e (by simp) (r.append (.cons ru .nil)) ?_, rfl, q⟩
  rw [List.length_append, List.length_singleton]
  omega

def rExtend : V → List V → Hp → VK → Prop := fun x vs H Q => ∃ l b xs zs, x = .ref l ∧ vs = [.ref b] ∧ H l = some (.lst xs) ∧ H b = some (.lst zs) ∧ xs.length + zs.length ≤ sizeLine ∧ Q .non (upd H l (.lst (xs ++ zs)))
theorem mt_extend : MtM X "list.extend" rExtend := by
  intro pins s σ H x vs v us Q I rx rv h
  obtain ⟨l, b, xs, zs, rfl, rfl, hH, hB, hz, q⟩ := h
  cases rx
  obtain ⟨u, rfl, ru⟩ := rv.one
  cases ru
  obtain ⟨z, its, n, r, hl, e⟩ := I.lstM hH
  obtain ⟨z2, its2, n2, r2, hl2, e2⟩ := I.lstM hB
  have hsz : its.toArray.size + its2.toArray.size ≤ sizeLine := by rw [List.size_toArray, List.size_toArray]; omega
  have hlong : ¬ (!its.toArray.isEmpty && Builtin.List.listTooLong (its.toArray.size + its2.toArray.size)) = true := by
    rw [notLongL hsz, Bool.and_false]
    exact Bool.false_ne_true
  refine call_meets F.slot_list_extend ⟨_, e, rfl⟩ F.entry_list_extend (F.args_list_extend_2 _ _)
    (AutoSeq1.list_extend_list_list_0 l its.toArray n b its2.toArray n2 hlong (by rw [List.size_toArray]; omega) (by omega)) ⟨e, e2, ?_⟩
  refine ⟨.non, _, I.lset (its' := its ++ its2) hH e (by simp) (r.append r2) ?_, rfl, q⟩
  rw [List.length_append]
  omega


def rPopAt : V → List V → Hp → VK → Prop := fun x vs H Q => ∃ l xs i k y, x = .ref l ∧ vs = [.int i] ∧ H l = some (.lst xs) ∧ -(2 ^ 63) ≤ i ∧ i < 2 ^ 63 ∧ seqIndex? i xs.length = some k ∧ xs[k]? = some y ∧ Q y (upd H l (.lst (xs.eraseIdx k)))
theorem mt_popAt : MtM X "list.pop" rPopAt := by
  intro pins s σ H x vs v us Q I rx rv h
  obtain ⟨l, xs, i, k, y, rfl, rfl, hH, h1, h2, hk, hy, q⟩ := h
  cases rx
  obtain ⟨u, rfl, ru⟩ := rv.one
  obtain ⟨t, rfl⟩ := ru
  obtain ⟨z, its, n, r, hl, e⟩ := I.lstM hH
  obtain ⟨w, hw, rw'⟩ := r.get hy
  refine call_meets F.slot_list_pop ⟨_, e, rfl⟩ F.entry_list_pop (F.args_list_pop_2 _ _)
    (MeetsSeq.list_pop_at l its.toArray n i t k w (fitsIndex_both h1 h2) (by rw [List.size_toArray, ← hl]; exact hk) (by rw [← Array.getElem?_toList]; exact hw) (by rw [List.size_toArray]; omega)) ⟨e, ?_⟩
  refine ⟨y, _, I.lset (its' := its.eraseIdx k) hH e ?_ (r.eraseIdx k) ?_, rw', q⟩
  · show its.toArray.eraseIdxIfInBounds k = (its.eraseIdx k).toArray
    rw [List.eraseIdxIfInBounds_toArray]
  · have := len_erase xs k
    omega



/-! ### list + list, list += list, list * int -/
def rCat : R2 := fun x y H Q => ∃ l b xs zs, x = .ref l ∧ y = .ref b ∧ H l = some (.lst xs) ∧ H b = some (.lst zs) ∧ xs.length + zs.length ≤ sizeLine ∧ ∀ p, H p = none → Q (.ref p) (upd H p (.lst (xs ++ zs)))
theorem op_cat : OpR X (binaryOp .Add) rCat := by
  intro pins s σ H x y v u Q I rx ry h
  obtain ⟨l, b, xs, zs, rfl, rfl, hH, hB, hz, q⟩ := h
  cases rx
  cases ry
  obtain ⟨z, its, n, r, hl, e⟩ := I.lstM hH
  obtain ⟨z2, its2, n2, r2, hl2, e2⟩ := I.lstM hB
  refine PySem.P.add_list e e2 ?_ (by rw [List.size_toArray, List.size_toArray]; omega)
  have ea : its.toArray ++ its2.toArray = (its ++ its2).toArray := by simp
  rw [ea]
  exact ⟨.ref _, _, I.lnew (t' := s.toks) (r.append r2) (by rw [List.length_append]; omega), rfl, q _ I.fresh⟩

/-! ### del xs[i] -/
end

/-! ### xs[a:b] = ys -/
section
variable {prog : Program} {w : World} {A : Around} {E : Value → Shared → Prop} {s : Shared}
theorem bounds_run {a c n : Nat} (hac : a ≤ c) (hc : c ≤ n) : sliceBounds (some (a : Int)) (some (c : Int)) none n = ((a : Int), (c : Int), 1) := by
  simp only [sliceBounds, Option.getD_none]
  have h1 : ¬ ((a : Int) < 0) := by omega
  have h2 : ¬ ((c : Int) < 0) := by omega
  simp only [h1, h2, if_false, show (1 : Int) > 0 by decide, if_true]
  congr 1
  · omega
  · congr 1; omega
set_option maxRecDepth 100000 in
/-- list.__setitem__ with a slice of step one and another list -/
theorem setItem_slice {l b sl : Addr} {items new : Array Value} {n n2 : Nat} {vl vu : Value} {a c : Nat} {Q : Unit → Shared → Prop}
    (e : s.heap.get? l = some { cls := .type "list", data := .seq items n }) (e2 : s.heap.get? b = some { cls := .type "list", data := .seq new n2 }) (hne : l ≠ b)
    (hs : s.heap.IsSliceOf sl vl vu .none) (pl : IsPart vl (some (a : Int))) (pu : IsPart vu (some (c : Int))) (hac : a ≤ c) (hc : c ≤ items.size)
    (hsz : items.size + new.size ≤ sizeLine) (h : Q () { s with heap := s.heap.update l (Obj.mapSeq fun xs => xs.extract 0 a ++ new ++ xs.extract c xs.size) }) :
    wpAny (model prog w) A (setItem (.ref l) (.ref sl) (.ref b)) Q E s := by
  have hl : s.heap.IsList l items := PySem.IsL.isList e
  have hb : s.heap.IsList b new := PySem.IsL.isList e2
  obtain ⟨os, hos, hcs, hds⟩ := id hs
  have hTs : s.TypeIs (.ref sl) "slice" := ⟨os, hos, hcs⟩
  have hstep : ¬ ((rawPart none == rawInt 0) = true) := Bool.false_ne_true
  have hsame : Builtin.List.listSameRef (.ref l) (.ref b) = false := by
    unfold Builtin.List.listSameRef
    exact beq_eq_false_iff_ne.mpr hne
  have hmax : (max (a : Int) (c : Int)).toNat = c := by omega
  have hz' : ((fun xs : Array Value => xs.extract 0 a ++ new ++ xs.extract c xs.size) items).size ≤ sizeLine + 1 := by
    simp only [Array.size_append, Array.size_extract]
    omega
  unfold setItem
  try with_reducible refine wpAny_holding ?_
  first | refine wpAny_bind (wpAny_pure ?_) | skip
  refine wpAny_bind (wpAny_sequenceKey hl.typeIs (by decide) ?_)
  refine wpAny_bind (wpAny_callSpecial?_slot (name := Str.ofString "__setitem__") hl.typeIs slot_list_setitem
    (wpAny_call_entry slot_list_setitem hl.typeIs entry_list_setitem ?_ (args_list_setitem _ _ _)))
  show wpAny _ _ (Builtin.List.listSubscript? (.ref sl) >>= _) _ _ s
  refine wpAny_bind ?_
  unfold Builtin.List.listSubscript?
  refine wpAny_bind (wpAny_specialOf hTs slice_no_index ?_)
  simp only [Option.isNone_none, if_true]
  refine wpAny_pure ?_
  show wpAny _ _ (typeOf (.ref sl) >>= _) _ _ s
  refine wpAny_bind (wpAny_typeOf hTs ?_)
  first
    | rw [if_neg (by decide)]
    | refine PySem.W.KFB.if_not (by decide) ?_
  rw [listSliceParts_eq]
  refine wpAny_bind (wpAny_bind (wpAny_field hos hds (x := .none) rfl (wpAny_bind (wpAny_listPart .none ?_))))
  rw [if_neg hstep]
  refine wpAny_bind (wpAny_field hos hds (x := vl) rfl (wpAny_bind (wpAny_listPart pl ?_)))
  refine wpAny_bind (wpAny_field hos hds (x := vu) rfl (wpAny_bind (wpAny_listPart pu (wpAny_pure ?_))))
  first
    | simp only [hsame, Bool.false_eq_true, if_false]
    | refine PySem.W.KFB.if_not hsame ?_
    | (dsimp only
       rw [if_neg (by rw [hsame]; exact Bool.false_ne_true)])
  refine wpAny_bind (m := Builtin.List.listAllItems (.ref b) "must assign iterable to extended slice") ?_
  unfold Builtin.List.listAllItems
  refine wpAny_bind (wpAny_typeOf hb.typeIs ?_)
  first
    | refine PySem.W.KFB.if_so (by decide) ?_
    | rw [if_pos (by decide)]
    | simp only [beq_self_eq_true, Bool.true_or, if_true]
  unfold Builtin.List.listItems
  refine wpAny_bind (wpAny_seqItems e2 rfl (wpAny_pure ?_))
  refine wpAny_bind (wpAny_bind (wpAny_seqItems e rfl (wpAny_pure ?_)))
  refine wpAny_bind (wpAny_of_eq ((sliceIndices_raw (some (a : Int)) (some (c : Int)) none items.size (by simp)).trans (congrArg (pure : Int × Int × Int → Sem (Int × Int × Int)) (bounds_run hac hc))) ?_)
  show wpAny _ _ (if ((1 : Int) == 1) = true then _ else _) _ _ s
  rw [if_pos (by decide)]
  refine wpAny_bind (wpAny_rule ?_)
  first
    | simp only [notLongL hsz, Bool.false_eq_true, if_false]
    | refine PySem.W.KFB.if_not (notLongL hsz) ?_
  first | refine wpAny_bind (wpAny_pure ?_) | skip
  show wpAny _ _ (updateSeq l (fun xs => xs.extract 0 ((a : Int)).toNat ++ new ++ xs.extract (max (a : Int) (c : Int)).toNat xs.size) >>= _) _ _ s
  rw [hmax, Int.toNat_natCast]
  refine wpAny_bind (wpAny_updateSeq (hz := Nat.le_trans (Nat.le_add_right _ _) hsz) (_hz' := hz') e rfl ?_)
  refine wpAny_bind (wpAny_letGo ?_)
  first
    | exact wpAny_bind (wpAny_pure (wpAny_pure ⟨.none, rfl, wpAny_pure h⟩))
    | exact wpAny_pure ⟨.none, rfl, wpAny_pure h⟩
end

section
variable {X : Cx}
end
end L2

namespace Att
open PySem PySem.W PySem.Calls PyProof.Rows

/-! ### the script -/
theorem ints_of_wellAll {P : Params} {h : Heap} : ∀ (ns : List Int) (vs : List Value), WellAll P h vs (ns.map WData.int) → IntsAre vs ns := by
  intro ns
  induction ns with
  | nil =>
    intro vs w
    rw [List.map_nil] at w
    cases w
    exact .nil
  | cons n ns ih =>
    intro vs w
    rw [List.map_cons] at w
    cases w with
    | cons a b =>
      cases a
      exact .cons _ _ (ih _ b)

theorem script_of {l : OpenLaw} {n : Nat} (hn : l.most = some n) {P : Params} {h : Heap} {args : List WData} {vals : List Value}
    (hpre : l.row.toRowW.claim.pre args = true) (hwl : WellAll P h vals args) :
    ∃ a vs ns, vals = [Value.ref a] ∧ args = [WData.list (ns.map WData.int)] ∧ h.get? a = some { cls := .type "list", data := .seq vs.toArray } ∧ IntsAre vs ns ∧ ns.length ≤ n := by
  have hsh : WShape.hasAll [] args [.list .int] = true := (pre_splitW hpre).1
  have hc : l.pre.holds [] { args := args } = true := (pre_splitW hpre).2
  obtain ⟨d, r, rfl, h1, h2⟩ := hasAllW_cons hsh
  obtain rfl := hasAllW_nil h2
  obtain ⟨xs, rfl, h3⟩ := hasW_list h1
  obtain ⟨ns, rfl⟩ := items_int h3
  have hlen : ns.length ≤ n := by
    unfold OpenLaw.pre at hc
    have h4 : (WTm.not (.lt (.lit (.int (n : Int))) (.len (.arg 0)))).holds [] { args := [.list (ns.map .int)] } = true := by
      have h4 := (holds_andW hc).1
      rw [hn] at h4
      exact h4
    have h5 := condW_of h4 (w_not (w_lt w_lit (w_len_list (w_arg rfl))))
    rw [List.length_map] at h5
    refine Nat.le_of_not_lt fun q => ?_
    have q' : (n : Int) < ((ns.length : Nat) : Int) := by omega
    first
      | (rw [decide_eq_true q'] at h5; exact absurd h5 (by decide))
      | (simp at h5; omega)
  cases hwl with
  | cons w1 w2 =>
    cases w2
    cases w1 with
    | list ho hall => exact ⟨_, _, ns, rfl, rfl, ho, ints_of_wellAll ns _ hall, hlen⟩

theorem post_true (l : OpenLaw) (args : List WData) : l.row.toRowW.claim.post args (.bool true) args = true :=
  postW_of (r := l.row.toRowW) (X := (true == true))
    (show WShape.has [] (.bool true) .bool = true by first | rfl | decide | simp [WShape.has, WShape.arms, WShape.armsAll])
    (show (WTm.eq .res (.lit (.bool true))).value [] { args := args, res := some (.bool true), after := args } = some (.bool (true == true)) from w_eq_bool (w_res rfl) w_lit) rfl

/-! ### the attachment: holds_open's last premise (the goal 'hc' behind k_head) from a wpAny of the law's body -/

/-- the same from a codeAny of the CALL (for a layer whose function contracts speak of calls) -/
theorem attach_call {l : OpenLaw} {n : Nat} {q : Program} {loose : List Str} {XP : (Str → Option Value) → Heap → Prop} {YP : World → Heap → Prop} {d : DefRec}
    (hn : l.most = some n) (hdf : d.params.defaults = [])
    (call : ∀ (w : World) (s₀ s₁ : Shared) (mg mb : Str → Option Value) (fa : Addr) (o : Obj) (pm cd doc : Value) (a : Addr) (vs : List Value) (ns : List Int),
      Ground q loose [] XP w s₀ mg mb s₁.heap → YP w s₁.heap →
      s₁.heap.get? fa = some o → o.data = .func (docDef d.name d.params d.body d.scope pm cd doc) → s₁.heap.CodeRec cd d.name → mg d.name = some (.ref fa) →
      s₁.heap.get? a = some { cls := .type "list", data := .seq vs.toArray } → IntsAre vs ns → ns.length ≤ n → s₁.gens = #[] →
      codeAny (model l.prog w) callerA (.call (.ref fa) ⟨[.ref a], []⟩) (fun r s' => r = .ok (.ret (.bool true)) ∧ OldK s₁.heap s'.heap ∧ s'.os = s₁.os ∧ AllBare s'.gens) s₁) :
    WalkO q loose XP YP l.row.toRowW d [] (fun f vs => PySem.call f vs) := by
  intro w s₀ s₁ mg mb G Y fa o pm cd doc dV kV ho hd hcd hD hmg hg args vals as hpre hlay hrd hwl hlo
  obtain rfl : dV = .none := Dflts.none hD hdf
  obtain rfl : kV = .none := Dflts.noKw hD
  obtain ⟨a, vs, ns, rfl, rfl, hobj, hints, hlen⟩ := script_of hn hpre hwl
  refine enter_call (codeAny_mono (call w s₀ s₁ mg mb fa o pm cd doc a vs ns G Y ho (fd_plain hd) hcd hmg hobj hints hlen hg) fun r s' hq => ?_)
  obtain ⟨rfl, h2, h3, h4⟩ := hq
  exact ⟨.inl ⟨.bool true, .bool true, [], rfl, fun _ => rfl, .bool true, post_true l _, fun _ => ⟨List.Pairwise.nil, fun _ hm => (nomatch hm)⟩⟩, h2, h3, h4⟩


/-! ### rules over ANY heap (no ledger) from facts about the written part K: the library's own take a ledger (News) for what they write -/
section
variable {prog : Program} {w : World} {A : Around} {E : Value → Shared → Prop} {s : Shared} {K : Frag}





/-! the whole heap as the ledger: makes every rule that writes through a ledger a rule over any heap -/

end
end Att

namespace L2
open PySem PySem.Spec PyProof.Rows

theorem vals_ints : ∀ {vs : List Value} {ns : List Int}, IntsAre vs ns → Vals (ns.map V.int) vs
  | _, _, .nil => .nil
  | _, _, .cons n t h => .cons ⟨t, rfl⟩ (vals_ints h)

/-- nothing is tracked but the script, known to the object (or it is an object of the module) -/
def Only (H : Hp) : Prop := ∀ b, H b = none ∨ ∃ o xs, H b = some (.frz o (.lst xs))

/-- THE HEAD: the law's promise, at the heap behind the top. F, the promise of the law's def, may use that base is part of the heap (so K.In base, base.Ns mainGlobals mg stand in Mod) -/
theorem law_call {P : Program} {w : World} {K : PySem.W.Frag} {mg mb : Str → Option Value} {CX : CXT} {k : Nat} {fa a : Addr} {fd : FuncData} {x : Str} {sp : Sp} {s₁ : Shared} {vs : List Value} {ns : List Int}
    (KX : K.In s₁.heap) (hns : s₁.heap.Ns mainGlobals mg) (hb : s₁.heap.Ns builtinsNs mb) (hbb : ∀ x : Str, x ≠ "__name__" → mb x = bootBuiltins x) (hlim : s₁.heap.NoLimit) (hg : s₁.gens = #[])
    (ha : s₁.heap.get? a = some { cls := .type "list", data := .seq vs.toArray }) (hi : IntsAre vs ns) (hl : ns.length ≤ sizeLine) (hr : Room k callerA)
    (F : ∀ base : Heap, K.In base → base.Ns mainGlobals mg → FnOk P w K mg base CX k fa fd [x] sp) (hbind : ∀ (s : Shared) (u : Value), BindsTo s fd ⟨[u], []⟩ [(x, u)])
    (hsp : ∀ H : Hp, Only H → SqL K H a (ns.map V.int) → sp [.ref a] H (fun v _ => v = .bl true) fun _ _ _ => False)
    (hCX : ∀ H e s', CX [] H s₁ (fun _ _ _ => False) e s' → False) :
    codeAny (model P w) callerA (.call (.ref fa) ⟨[.ref a], []⟩) (fun r s' => r = .ok (.ret (.bool true)) ∧ OldK s₁.heap s'.heap ∧ s'.os = s₁.os ∧ AllBare s'.gens) s₁ := by
  have rv := vals_ints hi
  have lenV := hi.length
  -- from an abstract heap in which nothing but the script may be tracked
  have core : ∀ H : Hp, Only H → SqL K H a (ns.map V.int) → HOk P w H s₁.heap → (∀ b, H b ≠ none → b = a) → (H a ≠ none → K.lookup a = none) →
      codeAny (model P w) callerA (.call (.ref fa) ⟨[.ref a], []⟩) (fun r s' => r = .ok (.ret (.bool true)) ∧ OldK s₁.heap s'.heap ∧ s'.os = s₁.os ∧ AllBare s'.gens) s₁ := by
    intro H hO hS hok hA hK
    have base_of : ∀ {b : Addr} {o : Obj}, s₁.heap.get? b = some o → H b = none → (hidT s₁.heap H).get? b = some o := fun e n => hidT_get e n
    have noA : ∀ {b : Addr} {o : Obj} {es : Array DictEntry} {ep : Nat}, s₁.heap.get? b = some o → o.data = .dict es ep → H b = none := fun {b o es ep} e d => by
      cases q : H b with
      | none => rfl
      | some u =>
        have e' : b = a := hA b (by rw [q]; simp)
        subst e'
        rw [ha] at e; cases e
        have d' : Data.seq vs.toArray _ = Data.dict es ep := d
        cases d'
    have nsK : ∀ {b : Addr} {m : Str → Option Value}, s₁.heap.Ns b m → (hidT s₁.heap H).Ns b m := fun {b m} ⟨o, es, ep, e, d, r⟩ => ⟨o, es, ep, base_of e (noA e d), d, r⟩
    have hKb : K.In (hidT s₁.heap H) := fun b o e => base_of (KX b o e) (by
      cases q : H b with
      | none => rfl
      | some u =>
        have e' : b = a := hA b (by rw [q]; simp)
        subst e'
        rw [hK (by rw [q]; simp)] at e; cases e)
    have hM : Mod K mg (hidT s₁.heap H) := ⟨hKb, nsK hns, ⟨mb, nsK hb, hbb⟩, let ⟨mc, h1, h2⟩ := hlim; ⟨mc, nsK h1, h2⟩⟩
    have e0 : Env0 P w K mg (hidT s₁.heap H) callerA [] s₁ H := ⟨rfl, hM, fun b o e => of_hidT e, Nat.le_of_eq (hidT_size _ _), trivial, fun b hb => absurd (show b ∈ ([] : List Addr) from hb) (by simp), hok, .of_eq hg⟩
    refine codeAny_mono ((F _ hKb (nsK hns)).run callerA [] s₁ H ⟨[.ref a], []⟩ [.ref a] [.ref a] _ _ hr e0 (hbind s₁ (.ref a)) (.cons rfl .nil) (hsp H hO hS)) fun r s' h => ?_
    cases r with
    | error e => exact (hCX H e s' h).elim
    | ok fl =>
      cases fl with
      | next => exact False.elim h
      | brk => exact False.elim h
      | cont => exact False.elim h
      | ret u =>
        obtain ⟨v, H', os, bare, un, hok', r', q⟩ := h
        have q' : v = .bl true := q
        subst q'
        obtain rfl : u = Value.bool true := r'
        refine ⟨rfl, OldK.of_keep fun b o e => ?_, os, bare⟩
        cases q : H b with
        | none => exact un.keep b o e q (by intro z; exact absurd (show b ∈ ([] : List Addr) from z) (by simp)) (by simp)
        | some u =>
          rcases hO b with z | ⟨ob, xs, z⟩
          · rw [q] at z; cases z
          · have z2 := un.frzs b ob _ z
            obtain ⟨e1, _⟩ := hok b _ z
            obtain ⟨e2, _⟩ := hok' b _ z2
            rw [e] at e1; cases e1
            exact e2
  cases hk : K.lookup a with
  | some o =>
    -- the script is one of the module's own objects
    have e := KX a o hk
    rw [ha] at e
    cases e
    refine core (fun _ => none) (fun _ => .inl rfl) (.inr ⟨_, vs.toArray, _, hk, rfl, rfl, rfl, by rw [List.size_toArray, lenV]; exact hl, by simpa using rv⟩) (fun b u z => by have z' : (none : Option HO) = some u := z; cases z') (fun b z => absurd rfl z) fun z => absurd rfl z
  | none =>
    refine core (fun b => if b = a then some (.frz { cls := .type "list", data := .seq vs.toArray } (.lst (ns.map V.int))) else none) (fun b => ?_) (.inl (.inr ⟨{ cls := .type "list", data := .seq vs.toArray }, if_pos rfl⟩)) (fun b u z => ?_) (fun b z => ?_) fun _ => hk
    · by_cases hb : b = a
      · exact .inr ⟨_, _, if_pos hb⟩
      · exact .inl (if_neg hb)
    · by_cases hb : b = a
      · have z' := (if_pos hb).symm.trans z
        cases z'
        subst hb
        exact ⟨ha, by rw [List.length_map]; exact hl, vs, _, rv, ha⟩
      · have z' := (if_neg hb).symm.trans z
        cases z'
    · by_cases hb : b = a
      · exact hb
      · exact absurd (if_neg hb) z
end L2

namespace L2
open PySem PySem.Spec PyProof.Rows


/-- the goal that k_head leaves (case hc), from the law's promise. F gives the function object fd (K's own) once, then the promise over every base -/
theorem walk_of {l : PySem.W.OpenLaw} {n k : Nat} {q : Program} {loose : List Str} {XP : (Str → Option Value) → Heap → Prop} {YP : World → Heap → Prop} {d : DefRec} {K : Params → PySem.W.Frag} {CX : World → CXT} {sp : World → Sp} {x : Str}
    (hn : l.most = some n) (hn2 : n ≤ sizeLine) (hdf : d.params.defaults = []) (hr : Room k callerA)
    (hY : ∀ (w : World) (h : Heap), YP w h → (K w.params).In h)
    (F : ∀ (w : World) (mg : Str → Option Value) (fa : Addr) (h : Heap), (K w.params).In h → h.Ns mainGlobals mg → mg d.name = some (.ref fa) →
      ∃ fd : FuncData, (∀ (s : Shared) (u : Value), BindsTo s fd ⟨[u], []⟩ [(x, u)]) ∧
        ∀ base : Heap, (K w.params).In base → base.Ns mainGlobals mg → FnOk l.prog w (K w.params) mg base (CX w) k fa fd [x] (sp w))
    (hsp : ∀ (w : World) (H : Hp) (a : Addr) (ns : List Int), ns.length ≤ n → Only H → SqL (K w.params) H a (ns.map V.int) → sp w [.ref a] H (fun v _ => v = .bl true) fun _ _ _ => False)
    (hCX : ∀ (w : World) (H : Hp) (s : Shared) (e : Value) (s' : Shared), CX w [] H s (fun _ _ _ => False) e s' → False) :
    PySem.W.WalkO q loose XP YP l.row.toRowW d [] (fun f vs => PySem.call f vs) := by
  refine Att.attach_call hn hdf fun w s₀ s₁ mg mb fa o pm cd doc a vs ns G Y ho hd hcd hmg hobj hints hlen hg => ?_
  have KX := hY w _ Y
  obtain ⟨fd, hb, hF⟩ := F w mg fa _ KX G.T.g hmg
  exact law_call KX G.T.g G.T.b G.T.builtins G.T.nolimit hg hobj hints (Nat.le_trans hlen hn2) hr hF hb (fun H hO hS => hsp w H a ns hlen hO hS) fun H e s' => hCX w H s₁ e s'
end L2

/- THE LAST THEOREM (shape; LID, My.* are yours):
   My.Adr: a structure of the addresses that your layer names (classes, functions); My.Txt K t: a structure (Prop) of the equations over K;
   My.txt_mk : {K} {implicit addresses ..} (e1 : nsIn K mainGlobals "law" = some (some (.ref f))) (e2 : K.lookup f = some ⟨oc, od, .func (fnOf "law" "law" params body scope dV kV doc pm an cdv ct), sl⟩) (e3 : codeIn K cdv "law" = true) .. : ∃ t, My.Txt K t

set_option maxRecDepth 100000 in
set_option maxHeartbeats 0 in
theorem PySem.Challenge.cw_LID_holds : PySem.Challenge.rw_LID.Holds := by
  w_on; o_law; k_head; (case hw => w_witness2)
  k_fill
  refine L2.walk_of (l := PySem.Challenge.rw_LID) (n := 63) (k := 40) (x := "script") (CX := fun w => ..) (sp := fun _ => My.sp_law) rfl (by decide) rfl ⟨rfl, by decide, by decide⟩ (fun w h Y => PySem.W.kIn_of Y) ?F ?S ?C
  case F =>
    intro w mg fa h KX G hmg
    have T : ∃ t, My.Txt (L2.KOf KX) t := by
      dsimp only [L2.KOf]                          -- K must stand as «<heap const> w.params» for k_is
      refine' My.txt_mk ?e1 ?e2 ?e3 ..
      (case e1 => PySem.W.k_is)                    -- in the order: a name -> its address -> its object -> its parts
      (case e2 => PySem.W.k_is)
      ..
    obtain ⟨t, T⟩ := T
    have e0 := hmg.symm.trans (PySem.W.mg_of KX G T.law)
    cases e0                                       -- fa is the law's own address
    exact ⟨_, fun s u => .of_eq rfl, fun base kb nb => My.law_fn T kb nb⟩     -- if «.of_eq rfl» comes too early: refine' ⟨_, ?b, fun base kb nb => My.law_fn T kb nb⟩; exact fun s u => .of_eq rfl
  case S => exact fun w H a ns hl hO hS => ..
  case C => exact ..
(the tactic k_is has no namespace: write k_is) -/

/-! SHORT WORDS over the layer: a def of the text, its body, what a loop and a test want. -/
namespace L2
open PySem PySem.Spec PyProof.Rows

/-! ### the text by places -/
def defArgs (s : Stmt) : Arguments := match s with
  | .FunctionDef _ a _ _ _ _ _ _ _ _ => a
  | _ => { posonlyargs := [], args := [], vararg := none, kwonlyargs := [], kw_defaults := [], kwarg := none, defaults := [] }
def defBody (s : Stmt) : List Stmt := match s with
  | .FunctionDef _ _ b _ _ _ _ _ _ _ => b
  | _ => []
def defScope (s : Stmt) : Scope := match s with
  | .FunctionDef _ _ _ _ _ _ sc _ _ _ => sc
  | _ => { kind := .function, names := [], isGenerator := false, isCoroutine := false }

/-! ### no exception leaves a def -/
abbrev CX0 : CXT := fun _ _ _ _ _ _ => False
abbrev E0 : XK := fun _ _ _ => False
theorem pass0 {X : Cx} : Passes CX0 X E0 := fun _ _ _ _ _ _ _ h => h.elim

/-! ### a def (or method) of the text as it stands behind the top -/
structure Fun (K : PySem.W.Frag) (x qual : Str) (st : Stmt) (f : Addr) (fd : FuncData) : Prop where
  ex : ∃ (oc : Value) (od : Option Addr) (kV doc pm : Value) (an : Option Addr) (cdv ct : Value) (osl : Array (Option Value)),
    fd = PySem.W.fnOf x qual (defArgs st) (defBody st) (defScope st) .none kV doc pm an cdv ct ∧ K.lookup f = some ⟨oc, od, .func fd, osl⟩ ∧ PySem.W.codeIn K cdv qual = true
  kp : PySem.W.keepIn K (.ref f) = true
section
variable {P : Program} {w : World} {K : PySem.W.Frag} {mg : Str → Option Value} {base : Heap}
/-- THE RULE for a def: its body as a term of rules, and the reading of that term -/
theorem Fun.ok {x qual : Str} {st : Stmt} {f : Addr} {fd : FuncData} {N ps : List Str} {k : Nat} {sp : Sp} (F : Fun K x qual st f fd) (S : FnScope N ps (defScope st)) (len : ∀ vs H Q E, sp vs H Q E → vs.length = ps.length)
    (hbody : ∀ (cdv : Value) (A : Around) (outer : List Env) (s : Shared) (H : Hp) (vs : List V) (Q : VK) (E : XK), Room k (A.deeper (envOfC qual (defScope st) s.heap.objs.size f cdv)) → sp vs H Q E →
      ∃ t, PSs (cxOf CX0 P w K mg base N qual (defScope st) f cdv A outer s H E).nox (defBody st) t ∧ t { nx := fun _ H' => Q .non H', rt := Q } (start N vs) H) : FnOk P w K mg base CX0 (k + 1) f fd ps sp := by
  obtain ⟨oc, od, kV, doc, pm, an, cdv, ct, osl, rfl, lk, hcd⟩ := F.ex
  refine fn_of lk hcd S len fun A outer s H vs Q E hr hsp => ?_
  obtain ⟨t, h, q⟩ := hbody cdv A outer s H vs Q E hr hsp
  exact ⟨t, h.nox, q⟩
/-- how its arguments bind (no defaults): h is «fun _ _ _ _ _ _ us hl => match us, hl with | [_, _], _ => rfl», one _ a parameter -/
theorem Fun.binds {x qual : Str} {st : Stmt} {f : Addr} {fd : FuncData} {ps : List Str} (F : Fun K x qual st f fd)
    (h : ∀ (kV doc pm : Value) (an : Option Addr) (cdv ct : Value) (us : List Value), us.length = ps.length → bindArgs (PySem.W.fnOf x qual (defArgs st) (defBody st) (defScope st) .none kV doc pm an cdv ct) ⟨us, []⟩ = pure (ps.zip us)) : Binds K fd ps [] := by
  obtain ⟨oc, od, kV, doc, pm, an, cdv, ct, osl, rfl, lk, hcd⟩ := F.ex
  exact .all (h kV doc pm an cdv ct)
theorem fun_mk {x qual : Str} {st : Stmt} {f : Addr} {oc : Value} {od an : Option Addr} {osl : Array (Option Value)} {kV doc pm cdv ct : Value} (l : K.lookup f = some ⟨oc, od, .func (PySem.W.fnOf x qual (defArgs st) (defBody st) (defScope st) .none kV doc pm an cdv ct), osl⟩)
    (c : PySem.W.codeIn K cdv qual = true) (k : PySem.W.keepIn K (.ref f) = true) : Fun K x qual st f (PySem.W.fnOf x qual (defArgs st) (defBody st) (defScope st) .none kV doc pm an cdv ct) := ⟨⟨oc, od, kV, doc, pm, an, cdv, ct, osl, rfl, l, c⟩, k⟩
end
theorem small1000 {n : Nat} (h : n ≤ 1000) : n < sizeLine := Nat.lt_of_le_of_lt h (by decide)

/-! ### expressions in short: the name that stands in the i-th slot -/
section
variable {X : Cx}
theorem pv (i : Nat) {x : Str} {pos : Pos} (hN : X.N[i]? = some x := by rfl) (hv : Vis X.env.scope x := by first | exact Or.inl rfl | exact Or.inr (Or.inl rfl) | exact Or.inr (Or.inr rfl)) (hd : (x == ("__debug__" : Str)) = false := by decide)
    (hcd : (x == ("__classdict__" : Str)) = false := by decide) : PE X (.Name x pos) (tVar i) := pe_var hN hv hd hcd
end

/-! ### tests -/
theorem iteF {A B : Prop} (h : B) : if false = true then A else B := by
  rw [if_neg Bool.false_ne_true]
  exact h
theorem iteT {A B : Prop} (h : A) : if true = true then A else B := by
  rw [if_pos rfl]
  exact h
theorem ite2 {c A B : Prop} [Decidable c] (h1 : c → A) (h2 : ¬ c → B) : if c then A else B := by
  by_cases h : c
  · rw [if_pos h]
    exact h1 h
  · rw [if_neg h]
    exact h2 h
theorem iteNS {c A B : Prop} [Decidable c] (hc : c) (h : B) : if (!decide c) = true then A else B := by
  rw [decide_eq_true hc]
  exact iteF h

/-! ### heaps -/
/-- all that was tracked is as it was -/
def Same (H H' : Hp) : Prop := ∀ b o, H b = some o → H' b = some o
theorem Same.refl (H : Hp) : Same H H := fun _ _ h => h
theorem Same.trans {H H1 H2 : Hp} (a : Same H H1) (b : Same H1 H2) : Same H H2 := fun c o h => b c o (a c o h)
theorem Same.free {H H' : Hp} (e : Same H H') {l : Addr} (h : H' l = Option.none) : H l = Option.none := by
  cases q : H l with
  | none => rfl
  | some o =>
    rw [e l o q] at h
    cases h
theorem Same.seq {K : PySem.W.Frag} {H H' : Hp} {a : Addr} {xs : List V} (e : Same H H') (h : SqL K H a xs) : SqL K H' a xs := by
  rcases h with (h | ⟨o, h⟩) | h
  · exact .inl (.inl (e _ _ h))
  · exact .inl (.inr ⟨o, e _ _ h⟩)
  · exact .inr h

end L2


section
namespace L2
open PySem PySem.Spec PyProof.Rows

/-! ### lists of pairs as tables -/
section
variable {κ : Type} [DecidableEq κ]
def valV (kvs : List (κ × V)) (k : κ) : Option V := (kvs.find? fun kv => decide (kv.1 = k)).map (·.2)
/-- in its place, or at the end -/
def putK (kvs : List (κ × V)) (k : κ) (v : V) : List (κ × V) :=
  if (kvs.any fun kv => decide (kv.1 = k)) = true then kvs.map (fun kv => if kv.1 = k then (kv.1, v) else kv) else kvs ++ [(k, v)]

theorem valV_pos {p : κ × V} {r : List (κ × V)} {k : κ} (e : p.1 = k) : valV (p :: r) k = some p.2 := by simp [valV, List.find?_cons, e]
theorem valV_neg {p : κ × V} {r : List (κ × V)} {k : κ} (e : ¬ p.1 = k) : valV (p :: r) k = valV r k := by simp [valV, List.find?_cons, e]
theorem valV_any (k : κ) : ∀ kvs : List (κ × V), (kvs.any fun kv => decide (kv.1 = k)) = (valV kvs k).isSome
  | [] => rfl
  | p :: r => by
    rw [List.any_cons]
    by_cases e : p.1 = k
    · simp only [valV_pos e, decide_eq_true e, Bool.true_or, Option.isSome_some]
    · rw [valV_neg e, decide_eq_false e, Bool.false_or]; exact valV_any k r
theorem valV_map (k j : κ) (y : V) : ∀ kvs : List (κ × V), valV (kvs.map fun kv => if kv.1 = k then (kv.1, y) else kv) j = (valV kvs j).map fun x => if j = k then y else x
  | [] => rfl
  | p :: r => by
    have ih := valV_map k j y r
    rw [List.map_cons]
    by_cases h : p.1 = k
    · rw [if_pos h]
      by_cases e : p.1 = j
      · rw [valV_pos (p := (p.1, y)) e, valV_pos e, Option.map_some, if_pos (e.symm.trans h)]
      · rw [valV_neg (p := (p.1, y)) e, valV_neg e, ih]
    · rw [if_neg h]
      by_cases e : p.1 = j
      · rw [valV_pos (p := p) e, valV_pos e, Option.map_some, if_neg (fun z => h (e.trans z))]
      · rw [valV_neg (p := p) e, valV_neg e, ih]
theorem valV_snoc (k j : κ) (y : V) : ∀ kvs : List (κ × V), valV kvs k = none → valV (kvs ++ [(k, y)]) j = if j = k then some y else valV kvs j
  | [], _ => by
    by_cases e : k = j
    · rw [if_pos e.symm]; exact valV_pos (p := (k, y)) e
    · rw [if_neg (fun z => e z.symm)]; exact valV_neg (p := (k, y)) e
  | p :: r, hn => by
    rw [List.cons_append]
    have hk : ¬ p.1 = k := fun z => by rw [valV_pos z] at hn; cases hn
    rw [valV_neg hk] at hn
    have ih := valV_snoc k j y r hn
    by_cases e : p.1 = j
    · rw [valV_pos e, valV_pos e, if_neg (fun z => hk (e.trans z))]
    · rw [valV_neg e, valV_neg e, ih]
theorem valV_put (kvs : List (κ × V)) (k j : κ) (y : V) : valV (putK kvs k y) j = if j = k then some y else valV kvs j := by
  unfold putK
  by_cases a : (kvs.any fun kv => decide (kv.1 = k)) = true
  · rw [if_pos a, valV_map]
    rw [valV_any] at a
    by_cases e : j = k
    · obtain ⟨x, hx⟩ := Option.isSome_iff_exists.mp a
      rw [if_pos e, e, hx, Option.map_some, if_pos rfl]
    · rw [if_neg e]
      cases valV kvs j with
      | none => rfl
      | some x => rw [Option.map_some, if_neg e]
  · rw [if_neg a]
    refine valV_snoc k j y kvs ?_
    rw [valV_any] at a
    cases q : valV kvs k with
    | none => rfl
    | some x => rw [q] at a; exact (a rfl).elim
theorem length_putK (kvs : List (κ × V)) (k : κ) (v : V) : (putK kvs k v).length ≤ kvs.length + 1 := by
  unfold putK
  split
  · rw [List.length_map]; omega
  · rw [List.length_append, List.length_cons, List.length_nil]; omega

theorem RelO.isSome_eq {o : Option V} {u : Option Value} (r : RelO o u) : o.isSome = u.isSome := by
  cases o with
  | none => cases u with
    | none => rfl
    | some _ => exact (show False from r).elim
  | some _ => cases u with
    | none => exact (show False from r).elim
    | some _ => rfl
theorem RelO.getD {o : Option V} {u : Option Value} {d : V} {d' : Value} (r : RelO o u) (rd : RelV d d') : RelV (o.getD d) (u.getD d') := by
  cases o with
  | none => cases u with
    | none => exact rd
    | some _ => exact (show False from r).elim
  | some _ => cases u with
    | none => exact (show False from r).elim
    | some _ => exact r

/-- raw tables of the same keys -/
theorem KV.val {kvs : List (κ × V)} {vs : List (κ × Value)} (r : KV kvs vs) (k : κ) : RelO (valV kvs k) (valueAt vs k) := by
  unfold KV at r
  induction r with
  | nil => exact True.intro
  | @cons p q ps qs h t ih =>
    obtain ⟨h1, h2⟩ := h
    by_cases e : p.1 = k
    · have e' : q.1 = k := h1.symm.trans e
      have b : valueAt (q :: qs) k = some q.2 := by simp [valueAt, List.find?_cons, e']
      rw [valV_pos e, b]; exact h2
    · have e' : ¬ q.1 = k := fun z => e (h1.trans z)
      have b : valueAt (q :: qs) k = valueAt qs k := by simp [valueAt, List.find?_cons, e']
      rw [valV_neg e, b]; exact ih
theorem KV.any {kvs : List (κ × V)} {vs : List (κ × Value)} (r : KV kvs vs) (k : κ) : (kvs.any fun kv => decide (kv.1 = k)) = vs.any fun kv => decide (kv.1 = k) := by
  unfold KV at r
  induction r with
  | nil => rfl
  | cons h t ih => rw [List.any_cons, List.any_cons, ih, h.1]
theorem KV.repl {kvs : List (κ × V)} {vs : List (κ × Value)} (r : KV kvs vs) (k : κ) {y : V} {u : Value} (ry : RelV y u) :
    KV (kvs.map fun kv => if kv.1 = k then (kv.1, y) else kv) (vs.map fun kv => if kv.1 = k then (kv.1, u) else kv) := by
  unfold KV at r ⊢
  induction r with
  | nil => exact .nil
  | @cons p q ps qs h t ih =>
    rw [List.map_cons, List.map_cons]
    refine .cons ?_ ih
    obtain ⟨h1, h2⟩ := h
    by_cases e : p.1 = k
    · rw [if_pos e, if_pos (h1.symm.trans e)]; exact ⟨h1, ry⟩
    · rw [if_neg e, if_neg (fun z => e (h1.trans z))]; exact ⟨h1, h2⟩
theorem KV.put {kvs : List (κ × V)} {vs : List (κ × Value)} (r : KV kvs vs) (k : κ) {y : V} {u : Value} (ry : RelV y u) : KV (putK kvs k y) (stored vs k u) := by
  unfold putK stored
  rw [r.any k]
  by_cases e : (vs.any fun kv => decide (kv.1 = k)) = true
  · rw [if_pos e, if_pos e]; exact r.repl k ry
  · rw [if_neg e, if_neg e]; exact Paired.snoc r ⟨rfl, ry⟩
theorem KV.length {kvs : List (κ × V)} {vs : List (κ × Value)} (r : KV kvs vs) : kvs.length = vs.length := Paired.length r
end


/-! ### a tracked dict, its keys ints and texts or tuples of these -/
theorem kV_is {P : Program} {w : World} {k : Key} {u : Value} (r : RelV (kV k) u) : (mixKind P w).is k u = true := by
  cases k with
  | inl i => obtain ⟨t, e⟩ := (show ∃ t, u = Value.int i t from r); subst e; exact mixKind_int P w i t
  | inr x => obtain ⟨t, e⟩ := (show ∃ t, u = Value.str x t from r); subst e; exact mixKind_str P w x t
theorem items_are {P : Program} {w : World} : ∀ {ks : List Key} {us : List Value}, Vals (ks.map kV) us → ItemsAre (mixKind P w) ks us
  | [], _, r => by rw [List.map_nil] at r; cases r; exact .nil
  | k :: ks, _, r => by
    rw [List.map_cons] at r
    cases r with
    | cons h t => exact .cons (kV_is h) (items_are t)

/-- raw entries of a dict with tuple keys -/
abbrev KT (H : Hp) : List (List Key × V) → List (List Key × Addr × Value) → Prop := Paired fun p q => p.1 = q.1 ∧ H q.2.1 = some (.tup (p.1.map kV)) ∧ RelV p.2 q.2.2
theorem KT.val {H : Hp} {kvs : List (List Key × V)} {xs : List (List Key × Addr × Value)} (r : KT H kvs xs) (k : List Key) : RelO (valV kvs k) ((atKey xs k).map (·.2)) := by
  induction r with
  | nil => exact True.intro
  | @cons p q ps qs h t ih =>
    obtain ⟨h1, _, h2⟩ := h
    by_cases e : p.1 = k
    · have e' : q.1 = k := h1.symm.trans e
      have b : atKey (q :: qs) k = some q.2 := by simp [atKey, List.find?_cons, e']
      rw [valV_pos e, b]; exact h2
    · have e' : ¬ q.1 = k := fun z => e (h1.trans z)
      have b : atKey (q :: qs) k = atKey qs k := by simp [atKey, List.find?_cons, e']
      rw [valV_neg e, b]; exact ih
theorem KT.repl {H : Hp} {kvs : List (List Key × V)} {xs : List (List Key × Addr × Value)} (r : KT H kvs xs) (k : List Key) {y : V} {u : Value} (ry : RelV y u) :
    KT H (kvs.map fun kv => if kv.1 = k then (kv.1, y) else kv) (xs.map (putAt k u)) := by
  induction r with
  | nil => exact .nil
  | @cons p q ps qs h t ih =>
    rw [List.map_cons, List.map_cons]
    refine .cons ?_ ih
    obtain ⟨h1, h2, h3⟩ := h
    unfold putAt
    by_cases e : p.1 = k
    · rw [if_pos e, if_pos (h1.symm.trans e)]; exact ⟨h1, h2, ry⟩
    · rw [if_neg e, if_neg (fun z => e (h1.trans z))]; exact ⟨h1, h2, h3⟩
theorem KT.put {H : Hp} {kvs : List (List Key × V)} {xs : List (List Key × Addr × Value)} (r : KT H kvs xs) (k : List Key) {b : Addr} {y : V} {u : Value} (hb : H b = some (.tup (k.map kV))) (ry : RelV y u) :
    KT H (putK kvs k y) (storedH xs k b u) := by
  have e : (kvs.any fun kv => decide (kv.1 = k)) = (atKey xs k).isSome := by
    rw [valV_any, (r.val k).isSome_eq, Option.isSome_map]
  unfold putK storedH
  rw [e]
  by_cases q : (atKey xs k).isSome = true
  · rw [if_pos q, if_pos q]; exact r.repl k ry
  · rw [if_neg q, if_neg q]; exact Paired.snoc r ⟨rfl, hb, ry⟩
theorem KT.keeps {H H' : Hp} {kvs : List (List Key × V)} {xs : List (List Key × Addr × Value)} (r : KT H kvs xs) (ht : ∀ b ys, H b = some (.tup ys) → H' b = some (.tup ys)) : KT H' kvs xs :=
  Paired.mapP r fun _ _ z => ⟨z.1, ht _ _ z.2.1, z.2.2⟩

section
variable {P : Program} {w : World} {H : Hp} {h : Heap} {a : Addr}
theorem rd_of {u : HO} (ok : HOk P w H h) (e : Rd H a u) : ObjOk P w H h a u := e.ok ok
theorem dk_rd {kvs : List (Key × V)} (ok : HOk P w H h) (e : Rd H a (.dK kvs)) : kvs.length ≤ sizeLine ∧ (a == sysModules) = false ∧ ∃ vs, KV kvs vs ∧ h.DictOf (mixKind P w) a vs :=
  show ObjOk P w H h a (.dK kvs) from rd_of ok e
theorem dk_of {kvs : List (Key × V)} (ok : HOk P w H h) (e : H a = some (.dK kvs)) : kvs.length ≤ sizeLine ∧ (a == sysModules) = false ∧ ∃ vs, KV kvs vs ∧ h.DictOf (mixKind P w) a vs := dk_rd ok (.inl e)
/-- a tracked tuple of ints and texts is a key -/
theorem key_of {ks : List Key} (ok : HOk P w H h) (e : H a = some (.tup (ks.map kV))) : (tupleKind (mixKind P w)).is h ks a := by
  obtain ⟨_, its, r, o, h1, h2, n, h3⟩ := (show ObjOk P w H h a (.tup (ks.map kV)) from ok a _ e)
  exact ⟨o, its.toArray, n, h1, h2, h3, by simpa using items_are r⟩
theorem dt_rd {kvs : List (List Key × V)} (ok : HOk P w H h) (e : Rd H a (.dT kvs)) : kvs.length ≤ sizeLine ∧ (a == sysModules) = false ∧
    ∃ xs, KT H kvs xs ∧ h.DictOfH (tupleKind (mixKind P w)) a xs := by
  obtain ⟨z, y, xs, r, o, es, ep, h1, h2, h3, h4, h5⟩ := (show ObjOk P w H h a (.dT kvs) from rd_of ok e)
  refine ⟨z, y, xs, r, o, es, ep, h1, h2, h3, h4, fun x hx => ?_, h5⟩
  have all : ∀ {l : List (List Key × V)} {m : List (List Key × Addr × Value)}, KT H l m → ∀ x ∈ m, (tupleKind (mixKind P w)).is h x.1 x.2.1 := by
    intro l m q
    induction q with
    | nil => intro x hx; exact nomatch hx
    | @cons p q ps qs hq t ih =>
      intro x hx
      rcases List.mem_cons.mp hx with e | hx
      · subst e
        exact key_of ok (by rw [← hq.1]; exact hq.2.1)
      · exact ih x hx
  exact all r x hx
theorem dt_of {kvs : List (List Key × V)} (ok : HOk P w H h) (e : H a = some (.dT kvs)) : kvs.length ≤ sizeLine ∧ (a == sysModules) = false ∧
    ∃ xs, KT H kvs xs ∧ h.DictOfH (tupleKind (mixKind P w)) a xs := dt_rd ok (.inl e)
end

/-- what the dict at a holds at the key y -/
def DGet (H : Hp) (a : Addr) (y : V) (r : Option V) : Prop :=
  (∃ kvs k, Rd H a (.dK kvs) ∧ y = kV k ∧ r = valV kvs k) ∨ ∃ kvs k b, Rd H a (.dT kvs) ∧ y = .ref b ∧ H b = some (.tup (k.map kV)) ∧ r = valV kvs k
/-- the heap behind a[y] = v -/
def DPut (H : Hp) (a : Addr) (y v : V) (H' : Hp) : Prop :=
  (∃ kvs k, H a = some (.dK kvs) ∧ y = kV k ∧ kvs.length < sizeLine ∧ H' = upd H a (.dK (putK kvs k v))) ∨
  ∃ kvs k b, H a = some (.dT kvs) ∧ y = .ref b ∧ H b = some (.tup (k.map kV)) ∧ kvs.length < sizeLine ∧ H' = upd H a (.dT (putK kvs k v))
theorem DGet.t {H : Hp} {a b : Addr} {kvs : List (List Key × V)} {k : List Key} (e : H a = some (.dT kvs)) (eb : H b = some (.tup (k.map kV))) : DGet H a (.ref b) (valV kvs k) := .inr ⟨kvs, k, b, .inl e, rfl, eb, rfl⟩
theorem DPut.t {H : Hp} {a b : Addr} {kvs : List (List Key × V)} {k : List Key} {v : V} (e : H a = some (.dT kvs)) (eb : H b = some (.tup (k.map kV))) (hl : kvs.length < sizeLine) :
    DPut H a (.ref b) v (upd H a (.dT (putK kvs k v))) := .inr ⟨kvs, k, b, e, rfl, eb, hl, rfl⟩


section
variable {X : Cx} {pins : List (Addr × Obj)} {σ : St} {H : Hp} {s : Shared} {a : Addr} {y v : V} {u r : Value} {o : Option V} {A : Around} {E : Value → Shared → Prop}

theorem Inv.big (I : Inv X pins σ H s) : sysModules < s.heap.objs.size := by
  have h : mainGlobals < s.heap.objs.size := (I.mod.glob.keeps I.bk).lt
  exact Nat.lt_trans (by decide) h

/-- a dict's object is replaced -/
theorem d_write {h' : Heap} {t' : Nat} {ob : HO} (I : Inv X pins σ H s) (mu : Mut (H a)) (hs : Heap.SameBut a s.heap h') (he : ∃ q, h'.get? a = some q) (new : ObjOk X.prog X.w (upd H a ob) h' a ob) :
    Inv X pins σ (upd H a ob) { s with heap := h', toks := t' } :=
  I.write (x := a) (e := a) mu (.inl rfl) (fun b q hb z => (hs.2 b hb).trans z) he new
theorem dk_new {P : Program} {w : World} {H' : Hp} {h' : Heap} {kvs : List (Key × V)} {vs : List (Key × Value)} (z : kvs.length ≤ sizeLine) (hd : (a == sysModules) = false) (rel : KV kvs vs) (dd : h'.DictOf (mixKind P w) a vs) :
    ObjOk P w H' h' a (.dK kvs) := ⟨z, hd, vs, rel, dd⟩
/-- d[y] = v -/
theorem d_setItem {H' : Hp} {Q : Unit → Shared → Prop} (hu : A.units + 1 < cLine) (I : Inv X pins σ H s) (g : DPut H a y v H') (ry : RelV y u) (rv : RelV v r) (h : ∀ s', Inv X pins σ H' s' → Q () s') :
    wpAny (model X.prog X.w) A (setItem (.ref a) u r) Q E s := by
  rcases g with ⟨kvs, k, e, ey, l, eH⟩ | ⟨kvs, k, b, e, ey, eb, l, eH⟩
  · subst ey eH
    obtain ⟨z, hd, vs, rel, dd⟩ := dk_of I.hok e
    have hz : vs.length ≤ sizeLine := by rw [← rel.length]; exact z
    have hl : (putK kvs k v).length ≤ sizeLine := by have := length_putK kvs k v; omega
    refine wpAny_setItem_pairs (hsz := hz) (kV_is ry) dd fun h' dd' hs => h _ ?_
    have he : ∃ q, h'.get? a = some q := let ⟨q, _, _, hq, _⟩ := dd'; ⟨q, hq⟩
    exact d_write I (by rw [e]; exact True.intro) hs he (dk_new hl hd (rel.put k rv) dd')
  · subst ey eH
    cases (show u = Value.ref b from ry)
    obtain ⟨z, hd, xs, rel, dd⟩ := dt_of I.hok e
    have hz : xs.length ≤ sizeLine := by rw [← Paired.length rel]; exact z
    have hl : (putK kvs k v).length ≤ sizeLine := by have := length_putK kvs k v; omega
    refine wpAny_setItem_heap (hsz := hz) (tupleKind_room_in1 hu) (key_of I.hok eb) dd fun h' dd' hs => h _ ?_
    obtain ⟨q, es, ep, hq, h2, h3, h4, _, h5⟩ := dd'
    refine d_write I (by rw [e]; exact True.intro) hs ⟨q, hq⟩ ⟨hl, hd, _, (rel.put k eb rv).keeps fun c ys ec => ?_, q, es, ep, hq, h2, h3, h4, h5⟩
    rw [upd_ne (ne_of ec e (fun z => nomatch z))]
    exact ec
end

section
variable {X : Cx} {pins : List (Addr × Obj)} {σ : St} {H : Hp} {s : Shared} {a : Addr} {kvs : List (Key × V)} {k : Key} {u : Value} {A : Around} {E : Value → Shared → Prop}
end


/-! ### readings and rules -/



section
variable {X : Cx} {o i e value : Expr} {pos pos' tpos : Pos} {td ty tv : TE}
end


/-! ### displays -/
theorem dt_empty {P : Program} {w : World} {H : Hp} (h : Heap) (hb : sysModules < h.objs.size) : ObjOk P w H (h.push { cls := .type "dict", data := .dict #[] }) h.objs.size (.dT []) :=
  ⟨Nat.zero_le _, beq_eq_false_iff_ne.mpr (Ne.symm (Nat.ne_of_lt hb)), [], .nil, _, #[], 0, Heap.get?_push_size _ rfl, ⟨rfl, rfl, rfl⟩, rfl, rfl, List.nodup_nil⟩
def tDNewT : TE := fun _ H Q => ∀ p, H p = none → Q (.ref p) (upd H p (.dT []))
section
variable {X : Cx} {pos : Pos}
theorem pe_dnewT : PE X (.Dict [] [] pos) tDNewT := fun pins s σ H Q I h =>
  wpAny_Dict_empty ⟨.ref s.heap.objs.size, _, I.laid (a := s.heap.objs.size) (o := .dT []) (t' := s.toks) (fun _ _ q => Heap.get?_push_of_some _ q) (Nat.le_refl _) (dt_empty s.heap I.big), rfl, h _ (I.hok.fresh (Nat.le_refl _))⟩
end




/-! ### methods -/


section
variable {X : Cx} {pins : List (Addr × Obj)} {σ : St} {H : Hp} {s : Shared} {a : Addr} {y d : V} {u r : Value} {o : Option V} {A : Around} {E : Value → Shared → Prop}
/-- d.get(y, x) -/
theorem d_get2 {Q : Value → Shared → Prop} (hu : A.units + 1 < cLine) (I : Inv X pins σ H s) (g : DGet H a y o) (ry : RelV y u) (rd : RelV d r) (h : ∀ w' s', Inv X pins σ H s' → RelV (o.getD d) w' → Q w' s') :
    wpAny (model X.prog X.w) A (call (.builtin "dict.get") [.ref a, u, r]) Q E s := by
  rcases g with ⟨kvs, k, e, ey, l⟩ | ⟨kvs, k, b, e, ey, eb, l⟩
  · subst ey
    obtain ⟨z, hd, vs, rel, dd⟩ := dk_rd I.hok e
    refine call_meetsIn PySem.F.slot_dict_get dd.typeIs PySem.F.entry_dict_get (PySem.F.args_dict_get_3 _ _ _) (meets_dict_get_default (mixKind X.prog X.w) a (kV_is ry) hd r) ⟨_, dd.mapOf, h _ _ (I.tok _) ?_⟩
    rw [l]
    exact (rel.val k).getD rd
  · subst ey
    cases (show u = Value.ref b from ry)
    obtain ⟨z, hd, xs, rel, dd⟩ := dt_rd I.hok e
    refine call_meetsIn PySem.F.slot_dict_get dd.typeIs PySem.F.entry_dict_get (PySem.F.args_dict_get_3 _ _ _) (meetsH_dict_get_default (tupleKind (mixKind X.prog X.w)) a b hd r) ⟨tupleKind_room_in1 hu, k, xs, key_of I.hok eb, dd, h _ _ (I.tok _) ?_⟩
    rw [l]
    exact (rel.val k).getD rd
end

section
variable {X : Cx} {o e f : Expr} {apos cpos : Pos} {td ty tx : TE}
end

/-! ### dict(d): a copy -/
section
variable {X : Cx} {pins : List (Addr × Obj)} {σ : St} {H : Hp} {s : Shared} {a : Addr} {kvs : List (Key × V)} {A : Around} {E : Value → Shared → Prop}
end


section
variable {X : Cx} {pins : List (Addr × Obj)} {σ : St} {H : Hp} {s : Shared} {a : Addr} {y : V} {u : Value} {A : Around} {E : Value → Shared → Prop}
end
end L2
end

section
namespace L2
open PySem PySem.Spec PyProof.Rows

/-! ### the cells that a comprehension takes over -/
def clAdd (cells : List (Str × Addr)) (cs : List (Str × Addr)) (x : Str × NameKind) : List (Str × Addr) :=
  if x.2 == NameKind.free then (x.1, (cells.lookup x.1).getD 0) :: cs else cs
def clOf (names : List (Str × NameKind)) (cells : List (Str × Addr)) : List (Str × Addr) := names.foldl (clAdd cells) []

theorem forIn_yield_fold {α β : Type} {f : α → β → Sem (ForInStep β)} {g : β → α → β} : ∀ (l : List α) (c : β), (∀ x ∈ l, ∀ c, f x c = pure (.yield (g c x))) → forIn l c f = pure (l.foldl g c)
  | [], c, _ => rfl
  | x :: l, c, h => by
    rw [List.forIn_cons, h x List.mem_cons_self, pure_bind]
    exact forIn_yield_fold l (g c x) fun y hy => h y (List.mem_cons_of_mem _ hy)

theorem closureFor_of {scope : Scope} {env : Env} (h : ∀ x ∈ scope.names, x.2 = .free → ∃ c, env.cells.lookup x.1 = some c) : closureFor scope env = pure (clOf scope.names env.cells) := by
  simp only [closureFor]
  rw [forIn_yield_fold (g := clAdd env.cells) scope.names [] (fun x hx c => by
    obtain ⟨n, k⟩ := x
    unfold clAdd
    cases hk : (k == NameKind.free) with
    | false => simp [hk]
    | true =>
      obtain ⟨a, ha⟩ := h _ hx (by simpa using hk)
      have ha' : List.lookup n env.cells = some a := ha
      simp [hk, cellOf, ha'])]
  rfl

theorem clOf_sub_aux {cells : List (Str × Addr)} : ∀ (names : List (Str × NameKind)) (cs : List (Str × Addr)), (∀ x ∈ names, x.2 = .free → ∃ c, cells.lookup x.1 = some c) →
    (∀ x c, cs.lookup x = some c → cells.lookup x = some c) → ∀ x c, (names.foldl (clAdd cells) cs).lookup x = some c → cells.lookup x = some c
  | [], cs, _, h, x, c, e => h x c e
  | (n, k) :: r, cs, hf, h, x, c, e => by
    refine clOf_sub_aux r (clAdd cells cs (n, k)) (fun y hy => hf y (List.mem_cons_of_mem _ hy)) (fun y d q => ?_) x c e
    unfold clAdd at q
    cases hk : (k == NameKind.free) with
    | false => simp only [hk, Bool.false_eq_true, if_false] at q; exact h y d q
    | true =>
      obtain ⟨a, ha⟩ := hf _ List.mem_cons_self (by simpa using hk)
      have ha' : List.lookup n cells = some a := ha
      simp only [hk, if_true, ha', Option.getD_some] at q
      cases hy : (y == n) with
      | false => simp only [List.lookup_cons, hy] at q; exact h y d q
      | true =>
        simp only [List.lookup_cons, hy] at q
        have : y = n := by simpa using hy
        rw [this, ← Option.some.inj q]; exact ha'
theorem clOf_sub {names : List (Str × NameKind)} {cells : List (Str × Addr)} (hf : ∀ x ∈ names, x.2 = .free → ∃ c, cells.lookup x.1 = some c) {x : Str} {c : Addr} (e : (clOf names cells).lookup x = some c) : cells.lookup x = some c :=
  clOf_sub_aux names [] hf (fun _ _ q => by cases q) x c e

theorem clOf_has_aux {cells : List (Str × Addr)} {x : Str} : ∀ (names : List (Str × NameKind)) (cs : List (Str × Addr)), ((∃ c, cs.lookup x = some c) ∨ (x, NameKind.free) ∈ names) → ∃ c, (names.foldl (clAdd cells) cs).lookup x = some c
  | [], cs, h => by
    rcases h with h | h
    · exact h
    · cases h
  | (n, k) :: r, cs, h => by
    refine clOf_has_aux r (clAdd cells cs (n, k)) ?_
    rcases h with ⟨c, h⟩ | h
    · left
      unfold clAdd
      cases hk : (k == NameKind.free) with
      | false => exact ⟨c, by simpa [hk] using h⟩
      | true =>
        cases hy : (x == n) with
        | false => exact ⟨c, by simp only [hk, if_true, List.lookup_cons, hy]; exact h⟩
        | true => exact ⟨(cells.lookup n).getD 0, by simp only [hk, if_true, List.lookup_cons, hy]⟩
    · rcases List.mem_cons.mp h with e | h
      · left
        cases e
        unfold clAdd
        exact ⟨(cells.lookup x).getD 0, by simp only [beq_self_eq_true, if_true, List.lookup_cons]⟩
      · exact .inr h

theorem lookup_mem {κ α : Type} [BEq κ] [LawfulBEq κ] {x : κ} {a : α} {l : List (κ × α)} (h : l.lookup x = some a) : (x, a) ∈ l := by
  induction l with
  | nil => cases h
  | cons p r ih =>
    obtain ⟨y, b⟩ := p
    cases hy : (x == y) with
    | false => simp only [List.lookup_cons, hy] at h; exact List.mem_cons_of_mem _ (ih h)
    | true =>
      simp only [List.lookup_cons, hy] at h
      have : x = y := by simpa using hy
      rw [this, ← Option.some.inj h]; exact List.mem_cons_self

/-- what a name is within the block: as it is in the block's own scope, or taken over -/
theorem relabel_lookup {env : Env} : ∀ {names : List (Str × NameKind)} {x : Str} {k : NameKind},
    (names.map fun (n, k) => if (k == NameKind.free && env.scope.kind == .function && env.kindOf n == some .cell) then (n, NameKind.cell) else (n, k)).lookup x = some k →
    names.lookup x = some k ∨ (names.lookup x = some .free ∧ k = .cell)
  | [], _, _, h => by cases h
  | (n, k') :: r, x, k, h => by
    have ih := @relabel_lookup env r x k
    have h' : List.lookup x ((if (k' == NameKind.free && env.scope.kind == .function && env.kindOf n == some .cell) = true then (n, NameKind.cell) else (n, k')) :: (r.map fun (n, k) => if (k == NameKind.free && env.scope.kind == .function && env.kindOf n == some .cell) then (n, NameKind.cell) else (n, k))) = some k := h
    cases hx : (x == n) with
    | false =>
      by_cases hc : (k' == NameKind.free && env.scope.kind == .function && env.kindOf n == some .cell) = true
      · rw [if_pos hc] at h'; simp only [List.lookup_cons, hx] at h' ⊢; exact ih h'
      · rw [if_neg hc] at h'; simp only [List.lookup_cons, hx] at h' ⊢; exact ih h'
    | true =>
      by_cases hc : (k' == NameKind.free && env.scope.kind == .function && env.kindOf n == some .cell) = true
      · rw [if_pos hc] at h'; simp only [List.lookup_cons, hx] at h' ⊢
        have e : NameKind.cell = k := Option.some.inj h'
        have e2 : k' = .free := by
          simp only [Bool.and_eq_true] at hc
          simpa using hc.1.1
        exact .inr ⟨by rw [e2], e.symm⟩
      · rw [if_neg hc] at h'; simp only [List.lookup_cons, hx] at h' ⊢
        exact .inl h'

/-! ### the block's context -/
def nmC (X : Cx) (own : List Str) (js : List Nat) : List Str := own ++ js.map fun j => X.N.getD j ""
def stC (n : Nat) (js : List Nat) (σ : St) : St := List.replicate n none ++ js.map fun j => σ.getD j none
def cxC (X : Cx) (N' : List Str) (scope : Scope) (C : Addr) (s₀ : Shared) (H₀ : Hp) (fp : List Addr) (pins : List (Addr × Obj)) : Cx where
  prog := X.prog
  w := X.w
  K := X.K
  mg := X.mg
  base := X.base
  A := X.A
  N := N'
  s₀ := s₀
  H₀ := H₀
  env := compEnvC scope (clOf scope.names X.env.cells) C X.env
  outer := X.stack
  stack := X.stack
  ex := fp
  fn := fun _ => false
  calm := X.calm
  pn := X.pn ++ pins
  xe := fun _ _ => False

/-- what the scope of a block is to be -/
structure CompScope (X : Cx) (scope : Scope) (js : List Nat) : Prop where
  kind : scope.kind = .function
  nocell : ∀ y ∈ scope.names, y.2 ≠ .cell
  names : ∀ x ∈ scope.names, x.2 = .local → scope.names.lookup x.1 = some .local
  free : ∀ x ∈ scope.names, x.2 = .free → X.env.kindOf x.1 = some .cell ∨ X.env.kindOf x.1 = some .free
  js : ∀ j ∈ js, scope.names.lookup (X.N.getD j "") = some .free ∧ j < X.N.length


theorem Un.past {fs ex : List Addr} {H H' : Hp} {h h1 h' : Heap} {C : Addr} (u : Un fs ex H H' h h1) (hs : Heap.SameBut C h1 h') (hC : h.objs.size ≤ C) : Un fs ex H H' h h' := by
  have ne : ∀ b o, h.get? b = some o → b ≠ C := fun b o e => Nat.ne_of_lt (Nat.lt_of_lt_of_le (Heap.lt_size e) hC)
  exact ⟨fun b o e n hb hx => (hs.2 b (ne b o e)).trans (u.keep b o e n hb hx), fun b o e n hb hx => let ⟨sl, q⟩ := u.slot b o e n hb hx; ⟨sl, (hs.2 b (ne b o e)).trans q⟩, u.free,
    fun b o e hx => let ⟨o', q⟩ := u.there b o e hx; ⟨o', (hs.2 b (ne b o e)).trans q⟩, u.tups, u.frzs, u.tbls⟩
theorem HOk.past {P : Program} {w : World} {H : Hp} {h h' : Heap} {C : Addr} (ok : HOk P w H h) (hs : Heap.SameBut C h h') (hf : H C = none) : HOk P w H h' := fun b ob e => by
  refine (ok b ob e).stay (fun c w' hc q => (hs.2 c ?_).trans q) (fun _ q => q) fun _ _ q => q
  rintro rfl
  rcases hc with rfl | hc
  · rw [hf] at e; cases e
  · rw [hf] at hc; cases hc

section
variable {X : Cx} {pins : List (Addr × Obj)} {σ : St} {H : Hp} {s : Shared}
theorem CompScope.cells {scope : Scope} {js : List Nat} (S : CompScope X scope js) (ok : X.Ok) : ∀ x ∈ scope.names, x.2 = .free → ∃ c, X.env.cells.lookup x.1 = some c := fun x hx hf => ok.has x.1 (S.free x hx hf)

/-- the block's entry -/
theorem inv_block {scope : Scope} {own : List Str} {js : List Nat} {fp : List Addr} {h₁ : Heap} {tk : Nat} (S : CompScope X scope js) (I : Inv X pins σ H s) (hfp : ∀ b ∈ fp, FpOk X pins H b)
    (hlt : ∀ b ∈ fp, b < s.heap.objs.size) {m : Str → Option Value} (hns : h₁.Ns s.heap.objs.size m) (old : ∀ b o, s.heap.get? b = some o → h₁.get? b = some o) :
    Inv (cxC X (nmC X own js) scope s.heap.objs.size s H fp pins) [] (stC own.length js σ) H { s with heap := h₁, toks := tk } := by
  have hcl := S.cells I.ok
  have sub : ∀ x c, (clOf scope.names X.env.cells).lookup x = some c → X.env.cells.lookup x = some c := fun x c e => clOf_sub hcl e
  have ltC : ∀ x c, X.env.cells.lookup x = some c → c < s.heap.objs.size := fun x c e => let ⟨_, z⟩ := I.cell x c e; z.lt
  refine ⟨⟨I.ok.mod, S.kind, I.ok.glob, I.ok.blt, Nat.le_refl _, fun x y c h1 h2 => I.ok.inj x y c (sub _ _ h1) (sub _ _ h2), fun x hx => ?_, fun x c h _ => (by cases h), I.ok.hd, I.ok.frames, .inl rfl, fun b hb => ⟨Nat.ne_of_lt (hlt b hb), fun x c e => (hfp b hb).2.2.2.2.1 x c (sub _ _ e)⟩,
      I.bs, Nat.le_trans I.ok.bsz I.sz, fun b o e hb => ?_, fun b hb hq => ?_, I.stack, I.stkFree⟩,
    rfl, I.bare, Un.kept old, ⟨m, hns, fun i x v e1 e2 e3 => ?_⟩, fun x c e => ?_, I.fresh, fun x c e => I.freeC x c (sub _ _ e), fun p hp => ?_, I.hok.kept old, ?_⟩
  · have hx' : (relabel scope X.env).names.lookup x = some .cell ∨ (relabel scope X.env).names.lookup x = some .free := hx
    have fr : scope.names.lookup x = some .free := by
      rcases hx' with z | z
      · rcases relabel_lookup z with q | q
        · exact absurd rfl (S.nocell _ (lookup_mem q))
        · exact q.1
      · rcases relabel_lookup z with q | q
        · exact q
        · exact q.1
    exact clOf_has_aux scope.names [] (.inr (lookup_mem fr))
  · rcases (hfp b hb).2.2.2.1 with z | z
    · exact I.ok.noex b o e z
    · exact absurd (Nat.lt_of_lt_of_le (Heap.lt_size e) (Nat.le_trans I.ok.bsz z)) (Nat.lt_irrefl _)
  · rcases List.mem_cons.mp (I.stkSub b hq) with z | z
    · exact (hfp b hb).2.1 z
    · exact (hfp b hb).2.2.1 z
  · have hi : own.length ≤ i := by
      by_cases hi : own.length ≤ i
      · exact hi
      · have e2' : (stC own.length js σ)[i]? = some (some v) := e2
        unfold stC at e2'
        rw [List.getElem?_append_left (by rw [List.length_replicate]; omega), List.getElem?_replicate] at e2'
        split at e2' <;> cases e2'
    have e2' : (js.map fun j => σ.getD j none)[i - own.length]? = some (some v) := by
      have e2' : (stC own.length js σ)[i]? = some (some v) := e2
      unfold stC at e2'
      rw [List.getElem?_append_right (by rw [List.length_replicate]; exact hi), List.length_replicate] at e2'
      exact e2'
    have e1' : (js.map fun j => X.N.getD j "")[i - own.length]? = some x := by
      have e1' : (nmC X own js)[i]? = some x := e1
      unfold nmC at e1'
      rw [List.getElem?_append_right hi] at e1'
      exact e1'
    rw [List.getElem?_map] at e1' e2'
    cases hj : js[i - own.length]? with
    | none => rw [hj] at e1'; cases e1'
    | some j =>
      rw [hj] at e1' e2'
      have e1'' : X.N.getD j "" = x := Option.some.inj e1'
      have e2'' : σ.getD j none = some v := Option.some.inj e2'
      obtain ⟨fr, hjl⟩ := S.js j (List.mem_of_getElem? hj)
      rw [e1''] at fr
      have hN : X.N[j]? = some x := by
        rw [List.getElem?_eq_getElem hjl, ← e1'', List.getD_eq_getElem?_getD, List.getElem?_eq_getElem hjl]; rfl
      have hσ : σ[j]? = some (some v) := by
        rw [List.getD_eq_getElem?_getD] at e2''
        cases q : σ[j]? with
        | none => rw [q] at e2''; cases e2''
        | some o => rw [q] at e2''; rw [show o = some v from e2'']
      obtain ⟨m0, hn0, hl0⟩ := I.loc
      have kd : X.env.kindOf x = some .cell ∨ X.env.kindOf x = some .free := S.free _ (lookup_mem fr) rfl
      obtain ⟨u, r, l⟩ := hl0 j x v hN hσ (by rcases kd with k | k; exact .inr (.inl k); exact .inr (.inr k))
      refine ⟨u, r, ?_⟩
      rcases l with ⟨k, _⟩ | ⟨_, c, hc, hcell⟩
      · rcases kd with z | z <;> (rw [k] at z; cases z)
      · have hcc : (clOf scope.names X.env.cells).lookup x = some c := by
          obtain ⟨c', e⟩ := clOf_has_aux (cells := X.env.cells) scope.names [] (.inr (lookup_mem fr))
          have := sub x c' e
          rw [hc] at this
          rw [Option.some.inj this]; exact e
        have kk : (relabel scope X.env).names.lookup x = some .cell ∨ (relabel scope X.env).names.lookup x = some .free := by
          rcases e3 with z | z | z
          · rcases relabel_lookup z with q | q
            · rw [fr] at q; cases q
            · rw [fr] at q; cases q.2
          · exact .inl z
          · exact .inr z
        exact .inr ⟨kk, c, hcc, let ⟨o, ho, hd⟩ := hcell; ⟨o, old _ _ ho, hd⟩⟩
  · obtain ⟨v, o, ho, hd⟩ := I.cell x c (sub _ _ e)
    exact ⟨v, o, old _ _ ho, hd⟩
  · have hp' : p ∈ X.pn ++ pins := by
      have hp' : p ∈ (X.pn ++ pins) ++ [] := hp
      simpa using hp'
    obtain ⟨e, n, ne, nf, d⟩ := I.pin p hp'
    refine ⟨old _ _ e, n, Nat.ne_of_lt (Heap.lt_size e), fun hq => ?_, d⟩
    rcases List.mem_cons.mp (I.stkSub p.1 hq) with z | z
    · exact ne z
    · exact nf z
  · show (stC own.length js σ).length = (nmC X own js).length
    unfold stC nmC
    rw [List.length_append, List.length_append, List.length_replicate, List.length_map, List.length_map]

/-- behind the block: the caller's own state again -/
theorem Inv.unblock {scope : Scope} {N' : List Str} {fp : List Addr} {C : Addr} {pins' : List (Addr × Obj)} {σ' : St} {H' : Hp} {s' : Shared} {h' : Heap} (I : Inv X pins σ H s) (hfp : ∀ b ∈ fp, FpOk X pins H b)
    (J : Inv (cxC X N' scope C s H fp pins) pins' σ' H' s') (hs : Heap.SameBut C s'.heap h') (hC : s.heap.objs.size ≤ C) : Inv X pins σ H' { s' with heap := h' } :=
  I.call' (s' := { s' with heap := h' }) (ch := fp) J.os (Un.past J.base hs hC) (J.hok.past hs J.free) J.bare fun b hb => ⟨(hfp b hb).2.2.2.1, (hfp b hb).2.1, (hfp b hb).2.2.2.2.1, (hfp b hb).2.2.2.2.2⟩
end

/-! ### the loop of a comprehension, whatever its target -/
section
variable {prog : Program} {w : World} {A : Around} {R : Result → Shared → Prop} {s : Shared}
theorem codeAny_compLoop_any {elt target iter : Expr} {ifs : List Expr} {scope : Scope} {pos : Pos} {it acc : Value} {env : Env} (I : Nat → Shared → Prop)
    (turn : ∀ n s, I n s → wpAny (model prog w) A (pyNext it) (fun r s₁ => match r with
      | none => R (.ok .next) s₁
      | some v => wpAny (model prog w) A (letOwnedTupleGo target it v) (fun _ s₁' => wpAny (model prog w) A (assign target env v) (fun _ s₂ =>
          wpAny (model prog w) A (forIn ifs true fun c r => if r = true then do let ok ← isTrue c env (eval c env); pure (ForInStep.yield ok) else pure (ForInStep.yield r)) (fun ok s₃ =>
            if ok = true then wpAny (model prog w) A (eval elt env) (fun x s₄ =>
              wpAny (model prog w) A (call (.builtin "list.append") [acc, x]) (fun _ s₅ => ∃ m, m < n ∧ I m s₅) (fun _ _ => False) s₄) (fun _ _ => False) s₃
            else ∃ m, m < n ∧ I m s₃) (fun _ _ => False) s₂) (fun _ _ => False) s₁') (fun _ _ => False) s₁) (fun _ _ => False) s)
    (n : Nat) (h : I n s) :
    codeAny (model prog w) A (.compLoop (.ListComp elt [⟨target, iter, ifs, 0⟩] scope pos) 0 it acc env) R s := by
  refine codeAny_loop rfl I (fun n s hI => ?_) n h
  show wpAny _ A ((compTurn (.ListComp elt [⟨target, iter, ifs, 0⟩] scope pos) 0 it acc env).onRaise (fun x => do noteFrame x env; theTreesLotGoes x)) _ _ s
  refine wpAny_noted ?_
  rw [compTurn_list]
  refine wpAny_bind (wpAny_standAt (wpAny_bind (wpAny_mono (turn n s hI) (fun r s₁ h₁ => ?_) fun _ _ h' => h'.elim)))
  cases r with
  | none => exact wpAny_pure h₁
  | some v =>
    refine wpAny_bind (wpAny_mono h₁ (fun _ s₁' h₁' => ?_) fun _ _ h' => h'.elim)
    refine wpAny_bind (wpAny_mono h₁' (fun _ s₂ h₂ => wpAny_bind (wpAny_mono h₂ (fun ok s₃ h₃ => ?_) fun _ _ h' => h'.elim)) fun _ _ h' => h'.elim)
    cases ok with
    | false => exact wpAny_pure ⟨rfl, h₃⟩
    | true =>
      exact wpAny_bind (wpAny_bind (wpAny_mono h₃ (fun x s₄ h₄ => wpAny_bind (wpAny_mono h₄ (fun _ s₅ h₅ => wpAny_pure (wpAny_pure ⟨rfl, h₅⟩)) fun _ _ h' => h'.elim)) fun _ _ h' => h'.elim))
end

/-! ### the tests of a clause -/
def PTs (X : Cx) (ifs : List Expr) (t : TT) : Prop :=
  ∀ (pins : List (Addr × Obj)) (s : Shared) (σ : St) (H : Hp) (Q : Bool → Hp → Prop), Inv X pins σ H s → t σ H Q →
    wpAny (model X.prog X.w) X.A (forIn ifs true fun c r => if r = true then do let ok ← isTrue c X.env (eval c X.env); pure (ForInStep.yield ok) else pure (ForInStep.yield r)) (TP X pins σ Q) X.xe s
def tYes : TT := fun _ H Q => Q true H
theorem pts_nil {X : Cx} : PTs X [] tYes := fun _ _ _ H _ I h => wpAny_tests_nil ⟨H, I, h⟩
theorem pts_one {X : Cx} {c : Expr} {t : TT} (h : PT X c t) : PTs X [c] t := fun pins s σ H Q I hw => wpAny_tests_one (h pins s σ H Q I hw)

/-! ### the reading of a comprehension -/
/-- one turn: the item x is there, ys was laid; N: what the turn is to reach -/
def Turn1 (n : Nat) (js : List Nat) (σ : St) (g : TG) (tt : TT) (te : TE) (D : Addr) (x : V) (ys : List V) (H : Hp) (N : List V → Hp → Prop) : Prop :=
  g x (stC n js σ) H fun σ' H4 => σ'.drop n = (stC n js σ).drop n ∧ tt σ' H4 fun b H5 =>
    if b = true then te σ' H5 fun y H6 => H6 D = some (.lst ys) ∧ N (ys ++ [y]) (upd H6 D (.lst (ys ++ [y]))) else N ys H5
/-- W: the invariant by the turn, a measure, what was laid into the new list at D, the heap -/
def LoopC (n : Nat) (js : List Nat) (σ : St) (g : TG) (tt : TT) (te : TE) (J : It) (H1 : Hp) (Q : VK) : Prop := ∀ D, H1 D = none → ∃ W : Nat → Nat → List V → Hp → Prop, (∃ m, W 0 m [] (upd H1 D (.lst []))) ∧ ∀ i m ys H2, W i m ys H2 →
  H2 D = some (.lst ys) ∧ ((J.stop i H2 ∧ Q (.ref D) H2) ∨ (ys.length < sizeLine ∧ J.go i H2 ∧ ∃ N : List V → Hp → Prop, (∀ ys' H', N ys' H' → ∃ m', m' < m ∧ W (i + 1) m' ys' H') ∧ ∀ x H3, J.yld i H2 x H3 → Turn1 n js σ g tt te D x ys H3 N))
def tComp (n : Nat) (js : List Nat) (wi : TI) (g : TG) (tt : TT) (te : TE) : TE := fun σ H Q => wi σ H fun J H1 => LoopC n js σ g tt te J H1 Q

theorem stC_weak {X : Cx} {pins : List (Addr × Obj)} {n : Nat} {js : List Nat} {σ σ' : St} {H : Hp} {s : Shared} (I : Inv X pins σ' H s) (hl : (stC n js σ).length = X.N.length) (hd : σ'.drop n = (stC n js σ).drop n) : Inv X pins (stC n js σ) H s := by
  refine I.weak (by rw [hl, I.len]) fun i v e => ?_
  have hi : n ≤ i := by
    by_cases hi : n ≤ i
    · exact hi
    · unfold stC at e
      rw [List.getElem?_append_left (by rw [List.length_replicate]; omega), List.getElem?_replicate] at e
      split at e <;> cases e
  have e2 : ((stC n js σ).drop n)[i - n]? = some (some v) := by rw [List.getElem?_drop]; rw [show n + (i - n) = i by omega]; exact e
  rw [← hd, List.getElem?_drop, show n + (i - n) = i by omega] at e2
  exact e2

section
variable {X : Cx}
/-- the block from the made iterator on: newList, the block's frame, the loop; RR: what is wanted behind it -/
theorem comp_block {elt tg iter : Expr} {ifs : List Expr} {scope : Scope} {pos : Pos} {g : TG} {tt : TT} {te : TE} {own : List Str} {js : List Nat} {pins : List (Addr × Obj)} {s : Shared} {σ : St} {H : Hp} {it : Addr} {fp : List Addr} {tn : Nat → Heap → Prop} {J : It} {Q : VK}
    {E : Value → Shared → Prop} {RR : Value → Addr → Result → Shared → Prop}
    (hc : X.calm = true) (S : CompScope X scope js)
    (hb : ∀ C s₀ H₀ fp pins, PG (cxC X (nmC X own js) scope C s₀ H₀ fp pins) tg g ∧ PTs (cxC X (nmC X own js) scope C s₀ H₀ fp pins) ifs tt ∧ PE (cxC X (nmC X own js) scope C s₀ H₀ fp pins) elt te)
    (I : Inv X pins σ H s) (T : Turn X.prog X.w X.K tg J fp it tn) (st : tn 0 s.heap) (f : ∀ b ∈ fp, FpOk X pins H b)
    (h : LoopC own.length js σ g tt te J H Q)
    (hR : ∀ D C H' s' m, Q (.ref D) H' → s'.heap.Ns C m → FpOk X pins H' C → Inv X pins σ H' s' → RR (.ref D) C (.ok .next) s') :
    wpAny (model X.prog X.w) X.A (newList []) (fun acc s₃ => wpAny (model X.prog X.w) X.A (newFunctionEnv scope X.env.globals (clOf scope.names X.env.cells) [] X.env.qual none .none (some X.env)) (fun cenv s₄ =>
      codeAny (model X.prog X.w) X.A (.compStart (.ListComp elt [⟨tg, iter, ifs, 0⟩] scope pos) 0 (.ref it) acc { cenv with scope := relabel scope X.env }) (RR acc cenv.locals) s₄) E s₃) E s := by
  refine wpAny_newObj_type (wpAny_newFunctionEnv S.nocell (by intro y hy; simp at hy) (fun h₁ hns₁ hsb₁ => ?_) S.kind)
  dsimp only at hns₁ hsb₁ ⊢
  obtain ⟨W, ⟨m0, w0⟩, turn⟩ := h _ I.fresh
  have I3 : Inv X pins σ (upd H s.heap.objs.size (.lst [])) { s with heap := s.heap.push { cls := .type "list", dict := none, data := .seq ([] : List Value).toArray }, toks := s.toks } := I.lnew (its := []) (t' := s.toks) .nil (Nat.zero_le _)
  generalize hs3 : ({ s with heap := s.heap.push { cls := .type "list", dict := none, data := .seq ([] : List Value).toArray }, toks := s.toks } : Shared) = s3 at I3
  have hh3 : s.heap.push { cls := .type "list", dict := none, data := .seq ([] : List Value).toArray } = s3.heap := by rw [← hs3]
  rw [hh3] at hns₁ hsb₁
  have f3 : ∀ b ∈ fp, FpOk X pins (upd H s.heap.objs.size (.lst [])) b := fun b hb => by
    obtain ⟨f0, fr⟩ := f b hb
    obtain ⟨o, ho, _⟩ := T.obj 0 s.heap st b hb
    refine ⟨?_, fr⟩
    rw [upd_ne (Nat.ne_of_lt (Heap.lt_size ho))]; exact f0
  have old1 : ∀ b o, s.heap.get? b = some o → s3.heap.get? b = some o := fun b o e => by rw [← hh3]; exact Heap.get?_push_of_some _ e
  have old : ∀ b o, s3.heap.get? b = some o → h₁.get? b = some o := fun b o e => (hsb₁.2 b (Nat.ne_of_lt (Heap.lt_size e))).trans (Heap.get?_push_of_some _ e)
  have hlt : ∀ b ∈ fp, b < s3.heap.objs.size := fun b hb => by
    obtain ⟨o, ho, _⟩ := T.obj 0 s.heap st b hb
    exact Heap.lt_size (old1 b o ho)
  have IB : ∀ tk, Inv (cxC X (nmC X own js) scope s3.heap.objs.size s3 (upd H s.heap.objs.size (.lst [])) fp pins) [] (stC own.length js σ) (upd H s.heap.objs.size (.lst [])) { s3 with heap := h₁, toks := tk } := fun tk => inv_block S I3 f3 hlt hns₁ old
  obtain ⟨hg, ht, he⟩ := hb s3.heap.objs.size s3 (upd H s.heap.objs.size (.lst [])) fp pins
  have hlen : (stC own.length js σ).length = (nmC X own js).length := (IB 0).len
  have loop : ∀ s₃ : Shared, s₃ = { s3 with heap := h₁, toks := s3.toks + ([] : List (Str × Value)).length } →
      codeAny (model X.prog X.w) X.A (.compLoop (.ListComp elt [⟨tg, iter, ifs, 0⟩] scope pos) 0 (.ref it) (.ref s.heap.objs.size) (compEnvC scope (clOf scope.names X.env.cells) s3.heap.objs.size X.env)) (RR (.ref s.heap.objs.size) s3.heap.objs.size) s₃ := by
    rintro s₃ rfl
    refine codeAny_compLoop_any (fun n s' => ∃ i ys H', Inv (cxC X (nmC X own js) scope s3.heap.objs.size s3 (upd H s.heap.objs.size (.lst [])) fp pins) [] (stC own.length js σ) H' s' ∧ tn i s'.heap ∧ (∀ b ∈ fp, H' b = none) ∧ W i n ys H') ?_ m0
      ⟨0, [], _, IB _, T.keep _ _ _ st fun b hb o e => old b o (old1 b o e), fun b hb => (f3 b hb).1, w0⟩
    rintro n s4 ⟨i, ys, H4, I4, st4, fr4, w4⟩
    have stat : ∀ {H' : Hp}, (∀ b ∈ fp, H' b = none) → ∀ b ∈ fp, FpOk (cxC X (nmC X own js) scope s3.heap.objs.size s3 (upd H s.heap.objs.size (.lst [])) fp pins) [] H' b := fun {H'} hn b hb => by
      obtain ⟨_, f1, f2, f3', f4, f5⟩ := f3 b hb
      refine ⟨hn b hb, Nat.ne_of_lt (hlt b hb), fun hq => ?_, .inl hb, fun x c e => f4 x c (clOf_sub (S.cells I3.ok) e), fun p hp => f5 p ?_⟩
      · rcases List.mem_cons.mp (I3.stkSub b hq) with z | z
        · exact f1 z
        · exact f2 z
      · have hp' : p ∈ (X.pn ++ pins) ++ [] := hp
        simpa using hp'
    obtain ⟨hD, rest⟩ := turn i n ys H4 w4
    rcases rest with ⟨stop, q⟩ | ⟨hz, go, N, hN, step⟩
    · refine thn (T.done (cxC X (nmC X own js) scope s3.heap.objs.size s3 (upd H s.heap.objs.size (.lst [])) fp pins) rfl rfl rfl hc i [] s4 _ H4 (fun _ _ => False) I4 (stat fr4) st4 stop) fun r s5 ⟨hr, I5⟩ => ?_
      subst hr
      obtain ⟨m5, hn5, _⟩ := I5.loc
      exact hR _ _ H4 s5 m5 q hn5 (I3.fpOk (Nat.le_refl _) I5.free) (I3.unblock f3 I5 (.refl ..) (Nat.le_refl _))
    · refine thn (T.item (cxC X (nmC X own js) scope s3.heap.objs.size s3 (upd H s.heap.objs.size (.lst [])) fp pins) rfl rfl rfl hc i [] s4 _ H4 (fun _ _ => False) I4 (stat fr4) st4 go) fun r s5 ⟨u, hr, h5⟩ => ?_
      subst hr
      refine thn h5 fun _ s6 ⟨x, H6, I6, r6, y6, st6, fr6⟩ => ?_
      have I6' := I6.pinned (stat fr6) (T.obj _ _ st6)
      refine thn (hg _ s6 _ H6 x u _ I6' r6 (step x H6 y6)) fun _ s7 ⟨σ7, H7, I7, hd7, q7⟩ => ?_
      refine thn (ht _ s7 σ7 H7 _ I7 q7) fun b s8 ⟨H8, I8, q8⟩ => ?_
      have again : ∀ {H9 : Hp} {s9 : Shared} {ys' : List V}, Inv (cxC X (nmC X own js) scope s3.heap.objs.size s3 (upd H s.heap.objs.size (.lst [])) fp pins) ([] ++ pinsAt fp s6.heap) σ7 H9 s9 → N ys' H9 →
          ∃ m, m < n ∧ ∃ i ys H', Inv (cxC X (nmC X own js) scope s3.heap.objs.size s3 (upd H s.heap.objs.size (.lst [])) fp pins) [] (stC own.length js σ) H' s9 ∧ tn i s9.heap ∧ (∀ b ∈ fp, H' b = none) ∧ W i m ys H' := fun {H9 s9 ys'} I9 n9 => by
        obtain ⟨m', hm, w9⟩ := hN ys' H9 n9
        refine ⟨m', hm, i + 1, ys', H9, stC_weak I9.unpinned hlen hd7, T.keep _ _ _ st6 fun b hb o e => (I9.pin (b, o) (List.mem_append_right _ (List.mem_append_right _ (mem_pinsAt hb e)))).1, fun b hb => ?_, w9⟩
        obtain ⟨o, e, d⟩ := T.obj _ _ st6 b hb
        exact (I9.pin (b, o) (List.mem_append_right _ (List.mem_append_right _ (mem_pinsAt hb e)))).2.1
      cases b with
      | false =>
        rw [if_neg Bool.false_ne_true] at q8 ⊢
        exact again I8 q8
      | true =>
        rw [if_pos rfl] at q8 ⊢
        refine thn (he _ s8 σ7 H8 _ I8 q8) fun u9 s9 ⟨y, H9, I9, r9, hD9, q9⟩ => ?_
        refine thn (mt_append (X := cxC X (nmC X own js) scope s3.heap.objs.size s3 (upd H s.heap.objs.size (.lst [])) fp pins) _ s9 σ7 H9 (.ref s.heap.objs.size) [y] (.ref s.heap.objs.size) [u9] (fun _ H' => N (ys ++ [y]) H') I9 rfl (.cons r9 .nil) ⟨_, ys, y, rfl, rfl, hD9, hz, q9⟩) fun _ s10 ⟨_, H10, I10, _, q10⟩ => ?_
        exact again I10 q10
  have hself := T.self X.A 0 { s3 with heap := h₁, toks := s3.toks + ([] : List (Str × Value)).length }
  subst hs3
  exact codeAny_compStart_list (loop _ rfl) (hself _ _ (T.keep _ _ _ st fun b hb o e => old b o (old1 b o e)) (loop _ rfl))

/-- [elt for tg in iter if ..] as a value -/
theorem pe_comp {elt tg iter : Expr} {ifs : List Expr} {scope : Scope} {pos : Pos} {wi : TI} {g : TG} {tt : TT} {te : TE} (own : List Str) (js : List Nat) (hc : X.calm = true) (S : CompScope X scope js) (hi : PI X tg iter wi)
    (hb : ∀ C s₀ H₀ fp pins, PG (cxC X (nmC X own js) scope C s₀ H₀ fp pins) tg g ∧ PTs (cxC X (nmC X own js) scope C s₀ H₀ fp pins) ifs tt ∧ PE (cxC X (nmC X own js) scope C s₀ H₀ fp pins) elt te)
    (hs : ∀ x, foldedSetIterable iter X.env x = pure x := by intro _; rfl) : PE X (.ListComp elt [⟨tg, iter, ifs, 0⟩] scope pos) (tComp own.length js wi g tt te) := by
  intro pins s σ H Q I h
  rw [eval_ListComp]
  refine wpAny_comprehension_free (use := none) (cl := clOf scope.names X.env.cells) rfl hs (closureFor_of (S.cells I.ok)) S.kind S.names ?_
  refine thn (hi pins s σ H _ I h) fun v s1 h1 => thn h1 fun itv s2 h2 => ?_
  obtain ⟨it, fp, tn, J, H2, e, I2, T, st2, f2, h2⟩ := h2
  subst e
  refine comp_block (RR := fun acc C => compPost (model X.prog X.w) X.A X.xe none (EP X pins σ Q) acc C) hc S hb I2 T st2 f2 h2 fun D C H' s' m q hn fC I3 => ?_
  exact ⟨m, hn, fun h' hs' => ⟨.ref D, H', I3.turned (t' := s'.toks) (fun b o hb e => (hs'.2 b hb).trans e) fC.1 fC.2.1 fC.2.2.2.1 fC.2.2.2.2.1 fC.2.2.2.2.2, rfl, q⟩⟩

/-- x = [..]: the name is stored ahead of the block's names going -/
def tSetC (i : Nat) (t : TE) : TS := fun D σ H => t σ H fun x H1 => D.nx (σ.set i (some x)) H1
theorem ps_setC {i : Nat} {x : Str} {elt tg iter : Expr} {ifs : List Expr} {scope : Scope} {pos pos' cpos : Pos} {wi : TI} {g : TG} {tt : TT} {te : TE} (own : List Str) (js : List Nat) (hc : X.calm = true) (hN : X.N.Nodup) (hix : X.N[i]? = some x) (hx : X.env.scope.names.lookup x = some .local)
    (S : CompScope X scope js) (hi : PI X tg iter wi)
    (hb : ∀ C s₀ H₀ fp pins, PG (cxC X (nmC X own js) scope C s₀ H₀ fp pins) tg g ∧ PTs (cxC X (nmC X own js) scope C s₀ H₀ fp pins) ifs tt ∧ PE (cxC X (nmC X own js) scope C s₀ H₀ fp pins) elt te)
    (hsw : swapsWith (.ListComp elt [⟨tg, iter, ifs, 0⟩] scope cpos) (some (.Name x pos')) pos.line X.env = pure true := by rfl)
    (hs : ∀ x, foldedSetIterable iter X.env x = pure x := by intro _; rfl) : PS X (.Assign [.Name x pos'] (.ListComp elt [⟨tg, iter, ifs, 0⟩] scope cpos) pos) (tSetC i (tComp own.length js wi g tt te)) := by
  intro pins s σ H D I h
  rw [exec_Assign_Name_used _ _ _ _ hsw]
  refine wpAny_bind (wpAny_standAt (wpAny_bind ?_))
  show wpAny _ X.A (do let _ ← comprehension (.ListComp elt [⟨tg, iter, ifs, 0⟩] scope cpos) scope X.env _ (newList []) false (eval iter X.env) (some (assign (.Name x pos') X.env))) _ _ s
  refine wpAny_bind (thn (wpAny_comprehension_free (use := some (assign (.Name x pos') X.env)) (cl := clOf scope.names X.env.cells) (Q := fun _ s' => SP X pins D .next s') rfl hs (closureFor_of (S.cells I.ok)) S.kind S.names ?_) fun _ s' hq => wpAny_pure (wpAny_pure hq))
  refine thn (hi pins s σ H _ I h) fun v s1 h1 => thn h1 fun itv s2 h2 => ?_
  obtain ⟨it, fp, tn, J, H2, e, I2, T, st2, f2, h2⟩ := h2
  subst e
  refine comp_block (RR := fun acc C => compPost (model X.prog X.w) X.A X.xe (some (assign (.Name x pos') X.env)) (fun _ s' => SP X pins D .next s') acc C) hc S hb I2 T st2 f2 h2 fun D' C H' s' m q hn fC I3 => ?_
  show wpAny _ X.A (assign (.Name x pos') X.env (.ref D')) _ _ _
  refine wpAny_assign_Name (store_ok2 I3 hN hix (.inl hx) (v := .ref D') rfl (fun s'' I4 hch => ?_) (.inr hx))
  obtain ⟨a, hsa, ha⟩ := hch
  have haC : a ≠ C := by
    rcases ha with z | z
    · rw [z]; exact Ne.symm fC.2.1
    · exact fC.2.2.2.2.1 x a z
  exact ⟨m, hn.sameBut hsa (Ne.symm haC), fun h' hs' => ⟨_, H', I4.turned (t' := s''.toks) (fun b o hb e => (hs'.2 b hb).trans e) fC.1 fC.2.1 fC.2.2.2.1 fC.2.2.2.2.1 fC.2.2.2.2.2, q⟩⟩
end
end L2

end

section
namespace L2
open PySem PySem.Spec PyProof.Rows

/-! ### a def by its name -/
structure Df (P : Program) (w : World) (K : PySem.W.Frag) (mg : Str → Option Value) (base : Heap) (x : Str) (k : Nat) (ps : List Str) (sp : Sp) : Prop where
  ex : ∃ f fd, FnOk P w K mg base CX0 k f fd ps sp ∧ Binds K fd ps [] ∧ PySem.W.keepIn K (.ref f) = true ∧ mg x = some (.ref f)
theorem Df.mk' {P : Program} {w : World} {K : PySem.W.Frag} {mg : Str → Option Value} {base : Heap} {x : Str} {k : Nat} {ps : List Str} {sp : Sp} {f : Addr} {fd : FuncData}
    (F : FnOk P w K mg base CX0 k f fd ps sp) (b : Binds K fd ps []) (kp : PySem.W.keepIn K (.ref f) = true) (m : mg x = some (.ref f)) : Df P w K mg base x k ps sp := ⟨f, fd, F, b, kp, m⟩
theorem pe_callD {X : Cx} {k : Nat} {ps : List Str} {sp : Sp} {x : Str} {p pos : Pos} {e : Expr} {es : List Expr} {t : TA} (D : Df X.prog X.w X.K X.mg X.base x k ps sp) (hr : Room k X.A) (hg : Gl X x)
    (ha : PA X (e :: es) t) (hdb : (x == ("__debug__" : Str)) = false := by decide) (he : starEach (e :: es) X.env = (false, eval e X.env) :: starEach es X.env := by rfl) (hpl : (backTo pos (starEach es X.env)).any (·.1) = false := by rfl) :
    PE X (.Call (.Name x p) (e :: es) [] pos) (tCall sp [] E0 t) := by
  obtain ⟨f, fd, F, b, kp, m⟩ := D.ex
  exact pe_call F hr hg m kp b .nil pass0 ha hdb he hpl

/-! ### the scope of a comprehension's block, by a look at closed data -/
def compOk (sc0 scope : Scope) (N : List Str) (js : List Nat) : Bool :=
  decide (scope.kind = .function) && (scope.names.all fun y => decide (y.2 ≠ .cell)) && (scope.names.all fun y => decide (y.2 ≠ .local) || decide (scope.names.lookup y.1 = some .local)) &&
  (scope.names.all fun y => decide (y.2 ≠ .free) || decide (sc0.names.lookup y.1 = some .cell) || decide (sc0.names.lookup y.1 = some .free)) &&
  (js.all fun j => decide (scope.names.lookup (N.getD j "") = some .free) && decide (j < N.length))
theorem comp_scope {X : Cx} {N P : List Str} {sc0 scope : Scope} {js : List Nat} (S : FnScope N P sc0) (hE : X.env.scope = sc0 := by rfl) (hN : X.N = N := by rfl) (h : compOk sc0 scope N js = true := by decide +kernel) : CompScope X scope js := by
  unfold compOk at h
  simp only [Bool.and_eq_true, List.all_eq_true, Bool.or_eq_true, decide_eq_true_eq] at h
  obtain ⟨⟨⟨⟨h1, h2⟩, h3⟩, h4⟩, h5⟩ := h
  refine ⟨h1, h2, fun x hx e => ?_, fun x hx e => ?_, fun j hj => ?_⟩
  · rcases h3 x hx with z | z
    · exact absurd e z
    · exact z
  · have hk : X.env.kindOf x.1 = sc0.names.lookup x.1 := by show X.env.scope.names.lookup x.1 = _; rw [hE]
    rw [hk]
    rcases h4 x hx with (z | z) | z
    · exact absurd e z
    · exact .inl z
    · exact .inr z
  · rw [hN]; exact h5 j hj

theorem nd_c {X : Cx} {N P : List Str} {sc0 scope : Scope} {own : List Str} {js : List Nat} {C : Addr} {s₀ : Shared} {H₀ : Hp} {fp : List Addr} {pins : List (Addr × Obj)} (S : FnScope N P sc0) (h : (own ++ js.map fun j => N.getD j "").Nodup) (hN : X.N = N := by rfl) :
    (cxC X (nmC X own js) scope C s₀ H₀ fp pins).N.Nodup := by
  show (nmC X own js).Nodup
  unfold nmC
  rw [hN]; exact h

/-! ### heaps in short -/
theorem same_new {H : Hp} {p : Addr} (h : H p = none) (o : HO) : Same H (upd H p o) := fun b u q => by rw [upd_ne (ne_of_none q h)]; exact q
/-- an object that was not there at H0 is written -/
theorem Same.wr {H0 H : Hp} {l : Addr} (S : Same H0 H) (h : H0 l = none) (o : HO) : Same H0 (upd H l o) := fun b u q => by rw [upd_ne (ne_of_none q h)]; exact S b u q
theorem Same.new {H0 H : Hp} {l : Addr} (S : Same H0 H) (h : H l = none) (o : HO) : Same H0 (upd H l o) := S.trans (same_new h o)

/-! ### the forms of a comprehension's reading -/
section
variable {n : Nat} {js : List Nat} {σ : St} {g : TG} {tt : TT} {te : TE} {H1 : Hp} {Q : VK}
/-- over a list that stays -/
theorem comp_list {K : PySem.W.Frag} {a : Addr} {xs : List V} (Pv : Addr → Nat → List V → Hp → Prop) (hz : xs.length < sizeLine) (h0 : ∀ D, H1 D = none → Pv D 0 [] (upd H1 D (.lst [])))
    (hl : ∀ D i ys H, H1 D = none → i ≤ xs.length → Pv D i ys H → SqL K H a xs ∧ H D = some (.lst ys) ∧ ys.length ≤ i)
    (hs : ∀ D i x ys H, H1 D = none → xs[i]? = some x → Pv D i ys H → Turn1 n js σ g tt te D x ys H (Pv D (i + 1))) (hd : ∀ D ys H, H1 D = none → Pv D xs.length ys H → Q (.ref D) H) : LoopC n js σ g tt te (Itl K a) H1 Q := by
  intro D hD
  refine ⟨fun i m ys H => m = xs.length - i ∧ i ≤ xs.length ∧ Pv D i ys H, ⟨xs.length, by simp, Nat.zero_le _, h0 D hD⟩, ?_⟩
  rintro i m ys H ⟨rfl, hi, p⟩
  obtain ⟨q, q2, q3⟩ := hl D i ys H hD hi p
  refine ⟨q2, ?_⟩
  by_cases hlt : i < xs.length
  · refine .inr ⟨by omega, ⟨xs, xs[i], q, by simp [hlt]⟩, Pv D (i + 1), fun ys' H' p' => ⟨xs.length - (i + 1), by omega, rfl, hlt, p'⟩, fun x H' y => ?_⟩
    obtain ⟨e, y⟩ := y
    subst e
    exact hs D i x ys _ hD (y xs q) p
  · have e : i = xs.length := by omega
    subst e
    exact .inl ⟨⟨xs, q, Nat.le_refl _⟩, hd D ys H hD p⟩
end

/-! ### a range with a step -/
section
variable {X : Cx} {tg : Expr}
end

/-! ### a, b = a list -/
section
variable {prog : Program} {w : World} {A : Around} {E : Value → Shared → Prop}
end
section
variable {X : Cx} {pos : Pos}
end

/-! ### isinstance, of values whose type is known -/
section
variable {X : Cx}
/-- what a class is as a value -/
def clsV : V → Option Value
  | .ty n => some (.type n)
  | .ref a => some (.ref a)
  | _ => none
/-- isinstance(x, c): c a built-in type or a class of the text -/
def rIsI (K : PySem.W.Frag) : List V → Hp → VK → Prop := fun xs H Q => ∃ x c cv t b, xs = [x, c] ∧ clsV c = some cv ∧ TyOf K H x t ∧ PySem.W.kitOne K t cv = some b ∧ Q (.bl b) H
theorem call_isinstance : CallR X (.builtin "isinstance") (rIsI X.K) := by
  intro pins s σ H xs us Q I r h
  obtain ⟨x, c, cv, t, b, rfl, rc, ty, e, q⟩ := h
  obtain ⟨u, u', rfl, ru, ru'⟩ := vals2 r
  have ec : u' = cv := by
    cases c with
    | ty n => cases ru'; exact Option.some.inj rc
    | ref a => cases ru'; exact Option.some.inj rc
    | _ => cases rc
  subst ec
  exact isinst_ok I ru ty e fun tk => ⟨.bl b, H, I.tok _, rfl, q⟩
end
end L2

end

section
namespace L2
open PySem PySem.Spec PyProof.Rows

/-! ### a reading put in the place of another -/

/-! ### tests over ints -/
theorem iteI {a b : Int} {A B : Prop} (h1 : a = b → A) (h2 : a ≠ b → B) : if decide (V.int a = V.int b) = true then A else B := by
  by_cases h : a = b
  · rw [if_pos (by rw [h]; exact decide_eq_true rfl)]; exact h1 h
  · rw [if_neg (by intro z; have := of_decide_eq_true z; injection this with e; exact h e)]; exact h2 h
theorem iteIn {a b : Int} {A B : Prop} (h1 : a ≠ b → A) (h2 : a = b → B) : if (!decide (V.int a = V.int b)) = true then A else B := by
  by_cases h : a = b
  · rw [if_neg (by rw [h]; simp)]; exact h2 h
  · rw [if_pos (by simp [h])]; exact h1 h
theorem decI {a b : Int} : decide (V.int a = V.int b) = decide (a = b) := by
  by_cases h : a = b
  · subst h; rw [decide_eq_true rfl, decide_eq_true rfl]
  · rw [decide_eq_false h, decide_eq_false (fun z => h (by injection z))]
theorem iteD {c A B : Prop} [Decidable c] (h1 : c → A) (h2 : ¬ c → B) : if decide c = true then A else B := by
  by_cases h : c
  · rw [if_pos (decide_eq_true h)]; exact h1 h
  · rw [if_neg (by rw [decide_eq_false h]; exact Bool.false_ne_true)]; exact h2 h

/-! ### triples of ints (deeds) -/
abbrev D3 := Int × Int × Int
def tupV (d : D3) : List V := [.int d.1, .int d.2.1, .int d.2.2]
/-- the value v is a tuple of the three -/
def T3 (H : Hp) (v : V) (d : D3) : Prop := ∃ a, v = .ref a ∧ H a = some (.tup (tupV d))
theorem T3.same {H H' : Hp} {v : V} {d : D3} (S : Same H H') (h : T3 H v d) : T3 H' v d := let ⟨a, e, q⟩ := h; ⟨a, e, S _ _ q⟩

theorem bitOr_pp {x y : Int} (hx : 0 ≤ x) (hy : 0 ≤ y) : Builtin.bitOr x y = ((x.toNat ||| y.toNat : Nat) : Int) := by
  rw [bitOr_and, bitAnd_pp hx hy]
  have e := nat_or_add_and x.toNat y.toNat
  omega

/-! ### the program's own clash -/
/-- a box that d changes is looked at or changed by e -/
def distB (d e : D3) : Bool := !decide (V.int (Builtin.bitAnd d.2.2 (Builtin.bitOr e.2.1 e.2.2)) = V.int 0)
def clashB (d e : D3) : Bool := distB d e || distB e d
def spDisturbs : Sp := fun vs H Q _ => ∃ x y d e, vs = [x, y] ∧ T3 H x d ∧ T3 H y e ∧ Q (.bl (distB d e)) H
def spClash : Sp := fun vs H Q _ => ∃ x y d e, vs = [x, y] ∧ T3 H x d ∧ T3 H y e ∧ Q (.bl (clashB d e)) H
end L2

end

section
namespace L2
open PySem PySem.Spec PyProof.Rows

/-! ### several records turn, a new object is laid -/
section
variable {X : Cx} {pins : List (Addr × Obj)} {σ : St} {H : Hp} {s : Shared} {h' : Heap} {ch : List Addr}
theorem Inv.turnedL {t' : Nat} (I : Inv X pins σ H s) (hch : ∀ b ∈ ch, FpOk X pins H b) (k : ∀ b u, b ∉ ch → s.heap.get? b = some u → h'.get? b = some u) : Inv X pins σ H { s with heap := h', toks := t' } := by
  have nit : ∀ b u, H b = some u → b ∉ ch := fun b u e z => by rw [(hch b z).1] at e; cases e
  refine I.step (g' := s.gens) (d' := s.drawn) (ch := ch) (fun b hb => ⟨(hch b hb).2.2.2.1, (hch b hb).2.1, (hch b hb).2.2.2.2.1, (hch b hb).2.2.2.2.2⟩) (fun b o _ _ hc e _ => k b o hc e) (fun b o _ _ hc e _ => ⟨o.slots, k b o hc e⟩) (fun _ _ _ _ n => n)
    (fun b o hc e => ⟨o, k b o hc e⟩) (fun _ _ e => e) (fun _ _ _ e => e) (fun b ps e => ⟨#[], by rw [e]; simp⟩) (fun m hm => ?_) (fun b u e => ?_) I.bare
  · obtain ⟨o, es, ep, ho, r⟩ := hm
    exact ⟨o, es, ep, k _ o (fun z => (hch _ z).2.1 rfl) ho, r⟩
  · refine (I.hok b u e).stay (fun c v hc q => k c v ?_ q) (fun _ q => q) fun _ _ q => q
    rcases hc with z | z
    · rw [z]; exact nit b u e
    · exact nit c _ z
theorem Inv.turnedNew {a : Addr} {o : HO} {t' : Nat} (I : Inv X pins σ H s) (hch : ∀ b ∈ ch, FpOk X pins H b) (k : ∀ b u, b ∉ ch → s.heap.get? b = some u → h'.get? b = some u) (ha : s.heap.objs.size ≤ a)
    (new : ObjOk X.prog X.w (upd H a o) h' a o) : Inv X pins σ (upd H a o) { s with heap := h', toks := t' } := by
  have nit : ∀ b u, H b = some u → b ∉ ch := fun b u e z => by rw [(hch b z).1] at e; cases e
  have hn : H a = none := I.hok.fresh ha
  have ne : ∀ b u, s.heap.get? b = some u → b ≠ a := fun b u e => Nat.ne_of_lt (Nat.lt_of_lt_of_le (Heap.lt_size e) ha)
  have up : ∀ b u, H b = some u → upd H a o b = some u := fun b u e => by rw [upd_ne (ne_of_none e hn)]; exact e
  refine I.step (g' := s.gens) (d' := s.drawn) (ch := ch) (fun b hb => ⟨(hch b hb).2.2.2.1, (hch b hb).2.1, (hch b hb).2.2.2.2.1, (hch b hb).2.2.2.2.2⟩) (fun b o _ _ hc e _ => k b o hc e) (fun b o _ _ hc e _ => ⟨o.slots, k b o hc e⟩)
    (fun b u _ e n => by rw [upd_ne (ne b u e)]; exact n) (fun b o hc e => ⟨o, k b o hc e⟩) (fun b xs e => up b _ e) (fun b _ _ e => up b _ e) (fun b ps e => ⟨#[], by rw [up b _ e]; simp⟩) (fun m hm => ?_) (fun b u e => ?_) I.bare
  · obtain ⟨o, es, ep, ho, r⟩ := hm
    exact ⟨o, es, ep, k _ o (fun z => (hch _ z).2.1 rfl) ho, r⟩
  · by_cases hb : b = a
    · subst hb; rw [upd_same] at e; cases e; exact new
    · rw [upd_ne hb] at e
      refine (I.hok b u e).stay (fun c v hc q => k c v ?_ q) (fun c q => up c _ q) fun c xs q => up c _ q
      rcases hc with z | z
      · rw [z]; exact nit b u e
      · exact nit c _ z
end

/-! ### a sequence's own iterator, as zip draws from it -/
structure SeqKind where
  Seq : Heap → Addr → Array Value → Prop
  It : Heap → Addr → Addr → Nat → Prop
  sq : PySem.W.Frag → Hp → Addr → List V → Prop
  seqAt : ∀ {h h' : Heap} {a : Addr} {xs : Array Value}, Seq h a xs → (∀ o, h.get? a = some o → h'.get? a = some o) → Seq h' a xs
  itAt : ∀ {h h' : Heap} {i a : Addr} {k : Nat}, It h i a k → (∀ o, h.get? i = some o → h'.get? i = some o) → It h' i a k
  seqO : ∀ {h : Heap} {a : Addr} {xs : Array Value}, Seq h a xs → ∃ o, h.get? a = some o
  itO : ∀ {h : Heap} {i a : Addr} {k : Nat}, It h i a k → ∃ o, h.get? i = some o ∧ ∀ v, o.data ≠ .cell v
  next : ∀ {prog : Program} {w : World} {A : Around} {E : Value → Shared → Prop} {s : Shared} {i a : Addr} {k : Nat} {xs : Array Value} {x : Value} {Q : Value → Shared → Prop}, It s.heap i a k → Seq s.heap a xs → xs[k]? = some x →
    (∀ h', It h' i a (k + 1) → Heap.SameBut i s.heap h' → Q x { s with heap := h' }) → wpAny (model prog w) A (Builtin.SmallTypes.nextOf (.ref i)) Q E s
  stop : ∀ {prog : Program} {w : World} {A : Around} {E : Value → Shared → Prop} {s : Shared} {i a : Addr} {k : Nat} {xs : Array Value} {Q : Value → Shared → Prop}, A.handled = none → It s.heap i a k → Seq s.heap a xs → xs[k]? = none →
    (∀ h' e, Heap.ExtBut i s.heap h' → (∃ o, h'.get? e = some o ∧ o.cls = .type "StopIteration") → E (.ref e) { s with heap := h' }) → wpAny (model prog w) A (Builtin.SmallTypes.nextOf (.ref i)) Q E s
  read : ∀ {X : Cx} {pins : List (Addr × Obj)} {σ : St} {H : Hp} {s : Shared} {a : Addr} {xs : List V}, Inv X pins σ H s → sq X.K H a xs → ∃ its : List Value, Vals xs its ∧ Seq s.heap a its.toArray
  inj : ∀ {X : Cx} {pins : List (Addr × Obj)} {σ : St} {H : Hp} {s : Shared} {a : Addr} {xs ys : List V}, Inv X pins σ H s → sq X.K H a xs → sq X.K H a ys → xs = ys

section
variable {prog : Program} {w : World} {A : Around} {E : Value → Shared → Prop} {s : Shared}
end
/-- lists -/
def kL : SeqKind where
  Seq := fun h a xs => h.IsList a xs
  It := fun h i a k => h.IsListIter i a k
  sq := SqL
  seqAt := fun x e => x.at e
  itAt := fun x e => x.at e
  seqO := fun ⟨o, e, _⟩ => ⟨o, e⟩
  itO := fun ⟨o, e, _, d⟩ => ⟨o, e, fun v z => by rw [d] at z; cases z⟩
  next := fun h1 h2 h3 h4 => wpAny_nextOf_list_item h1 h2 h3 h4
  stop := fun h0 h1 h2 h3 h4 => wpAny_nextOf_list_end h0 h1 h2 h3 h4
  read := fun I h => let ⟨its, r, p, _⟩ := I.list h; ⟨its, r, p.isList⟩
  inj := fun I h h' => I.list_inj h h'

/-! ### zip of two sequences of a kind -/
section
variable {prog : Program} {w : World} {A : Around} {E : Value → Shared → Prop} {s : Shared} (k : SeqKind)
end

end L2

end

section
namespace L2
open PySem PySem.Spec PyProof.Rows

theorem bt_len : bootBuiltins "len" = some (.builtin "len") := by decide +kernel
theorem bt_isinstance : bootBuiltins "isinstance" = some (.builtin "isinstance") := by decide +kernel
theorem bt_max : bootBuiltins "max" = some (.builtin "max") := by decide +kernel
theorem bt_min : bootBuiltins "min" = some (.builtin "min") := by decide +kernel
theorem bt_sorted : bootBuiltins "sorted" = some (.builtin "sorted") := by decide +kernel
theorem bt_int : bootBuiltins "int" = some (.type "int") := by decide +kernel
theorem bt_bool : bootBuiltins "bool" = some (.type "bool") := by decide +kernel
theorem bt_list : bootBuiltins "list" = some (.type "list") := by decide +kernel
theorem bt_tuple : bootBuiltins "tuple" = some (.type "tuple") := by decide +kernel

theorem sm {n : Nat} (h : Nat.ble n 1000 = true) : n ≤ sizeLine := Nat.le_of_lt (small1000 (Nat.le_of_ble_eq_true h))
theorem new_at {H : Hp} {p b : Addr} {o u : HO} (h : H p = none) (q : H b = some u) : upd H p o b = some u := same_new h o b u q
/-! ### steps of a reading -/


/-! ### zip(a, b) in a for or a comprehension, the target a tuple -/
section
variable {prog : Program} {w : World} {A : Around} {E : Value → Shared → Prop} {s : Shared}
end
section
variable {X : Cx} {es : List Expr} {x1 : Nat} {tpos : Pos}
end

/-! ### the forms: a for, a comprehension over zip(a, b) of sequences that stay -/
end L2

end

section
namespace L2
open PySem PySem.Spec PyProof.Rows

/-! ### comprehensions of ints over a list of ints, one name -/
theorem drop_set0 {α : Type} (l : List α) (v : α) : (l.set 0 v).drop 1 = l.drop 1 := by cases l <;> rfl

theorem pe_type {X : Cx} {x : Str} {T : String} {pos : Pos} (hg : Gl X x) (hm : X.mg x = none) (hv : bootBuiltins x = some (.type T)) (hn : x ≠ "__name__" := by decide) (hd : (x == ("__debug__" : Str)) = false := by decide) : PE X (.Name x pos) (tC (.ty T)) := pe_bltn hg hm hv rfl hn hd
/-! ### sizes -/
def R60 (x : Int) : Prop := 0 ≤ x ∧ x < 1152921504606846976
theorem p60 : (2 : Int) ^ (60 : Int).toNat = 1152921504606846976 := by decide
theorem m60 (x : Int) : R60 (x % 2 ^ (60 : Int).toNat) := by rw [p60]; unfold R60; omega
theorem and_bd {x y B : Int} (hx : 0 ≤ x) (hb : x < B) (hy : 0 ≤ y) : 0 ≤ Builtin.bitAnd x y ∧ Builtin.bitAnd x y < B ∧ Builtin.bitAnd x y ≤ y := by
  rw [bitAnd_pp hx hy]
  have h1 : (x.toNat &&& y.toNat) ≤ x.toNat := Nat.and_le_left
  have h2 : (x.toNat &&& y.toNat) ≤ y.toNat := Nat.and_le_right
  omega
end L2

end

section
namespace L2
open PySem PySem.Spec PyProof.Rows

/-! ### the rules by the written part's own name (so that a block's reading does not hang on the block's entry) -/
section
variable {X : Cx}
theorem ixL (K : PySem.W.Frag) (h : X.K = K := by rfl) : IxR X (rIxL K) := by subst h; exact ix_list
theorem ixT (K : PySem.W.Frag) (h : X.K = K := by rfl) : IxR X (rIxT K) := by subst h; exact ix_tup
theorem slL (K : PySem.W.Frag) (h : X.K = K := by rfl) : SlR X (rSlL K) := by subst h; exact sl_list
def rLen (K : PySem.W.Frag) : List V → Hp → VK → Prop := fun xs H Q => ∃ p ys, xs = [.ref p] ∧ (SqL K H p ys ∨ SqT K H p ys) ∧ Q (.int ys.length) H
theorem lenQ (K : PySem.W.Frag) (h : X.K = K := by rfl) : CallR X (.builtin "len") (rLen K) := by subst h; exact call_len_seq
theorem isI (K : PySem.W.Frag) (h : X.K = K := by rfl) : CallR X (.builtin "isinstance") (rIsI K) := by subst h; exact call_isinstance
def rListOf (K : PySem.W.Frag) : List V → Hp → VK → Prop := fun xs H Q => ∃ p ys, xs = [.ref p] ∧ (SqL K H p ys ∨ SqT K H p ys) ∧ ∀ l, H l = none → Q (.ref l) (upd H l (.lst ys))
theorem listOf (K : PySem.W.Frag) (h : X.K = K := by rfl) : CallR X (.type "list") (rListOf K) := by subst h; exact call_list_of
theorem piL (K : PySem.W.Frag) {tg l : Expr} {tl : TE} (hl : PE X l tl) (h : X.K = K := by rfl) : PI X tg l (iList K tl) := by subst h; exact pi_list hl
theorem pgT (K : PySem.W.Frag) {es : List Expr} {k : Nat} {t : TGs} {n : Nat} {pos : Pos} (hc : X.calm = true) (h : PGs X es t) (hn : (assignEach es X.env).length = n := by rfl) (hst : (assignEach es X.env).findIdx? (·.1) = none := by rfl) (hK : X.K = K := by rfl) : PG X (.Tuple es k pos) (gTup K n t) := by
  subst hK; exact pg_tup hc h hn hst
theorem pe_bmK (K : PySem.W.Frag) {o e : Expr} {es : List Expr} {to : TE} {t : TA} {name : Str} {apos cpos : Pos} {T id : String} {r : V → List V → Hp → VK → Prop} (pa : PlainAttrs T) (slot : Slot T name id) (hty : typeOf (.builtin id) = pure (.type "method_descriptor")) (hm : MtR X id r) (ho : PE X o to) (ha : PA X (e :: es) t)
    (hbase : attributeBase o name X.env (eval o X.env) = eval o X.env := by rfl)
    (hfew : ((backTo cpos (starEach (e :: es) X.env)).all (fun x => !x.1) && (backToKw cpos (keywordEach [] X.env)).all (fun x => x.1.isSome) && decide ((e :: es).length + ([] : List Keyword).length + (if ([] : List Keyword).isEmpty then 0 else 1) < 30)) = true := by rfl)
    (hline : (apos.endLine == cpos.line) = true := by rfl) (hs : starEach (e :: es) X.env = (false, eval e X.env) :: starEach es X.env := by rfl) (hplain : (backTo cpos (starEach es X.env)).any (·.1) = false := by rfl) (hK : X.K = K := by rfl) :
    PE X (.Call (.Attribute o name apos) (e :: es) [] cpos) (tBM K T r to t) := by subst hK; exact pe_bm pa slot hty hm ho ha hbase hfew hline hs hplain
end
end L2

end

section
namespace L2
open PySem PySem.Spec PyProof.Rows

/-! ### max, min of a list of ints, with and without a default -/
section
variable {prog : Program} {w : World} {A : Around} {E : Value → Shared → Prop} {s : Shared} {R : Result → Shared → Prop}



theorem fn_tree_kw {id : String} {b : Builtin} {args : List Value} {kw : List (Str × Value)} {Q : Value → Shared → Prop} (hk : builtinKind id = none) (hp : plainId id = true) (hb : entryFor table id = some b) (ha : argsOk id ⟨args, kw⟩)
    (hc : wpAny (model prog w) A.in1 (b ⟨args, kw⟩) (fun fin s' => match fin with
      | .done f => (match (Except.ok f : Result) with | .ok (.ret v) => Q v s' | .ok _ => False | .error e => E e s')
      | .again c' => c'.quiet = true ∧ codeAny (model prog w) A c' (fun r s' => match r with | .ok (.ret v) => Q v s' | .ok _ => False | .error e => E e s') s') E s) :
    wpAny (model prog w) A (call (.builtin id) args kw) Q E s := by
  refine wpAny_call (codeAny_call_builtin hp hb ?_)
  simp only [checkBuiltinCall, hk]
  cases q : Manifest.signature? id with
  | none => exact wpAny_pure hc
  | some sg =>
    have h2 : Bind.checkArgs id sg ⟨args, kw⟩ = pure () := by simpa only [argsOk, q] using ha
    simp only [h2]
    exact wpAny_pure hc


end

section
variable {X : Cx}
theorem args_min0 (a : Value) : argsOk "min" ⟨[a], []⟩ := by unfold argsOk; kernel_rfl
end
end L2

end

section
namespace L2
open PySem PySem.Spec PyProof.Rows

/-! ### lists whose items tell data -/
theorem Paired.getL {α β : Type} {F : α → β → Prop} : ∀ {l₁ : List α} {l₂ : List β} {i : Nat} {a : α}, Paired F l₁ l₂ → l₁[i]? = some a → ∃ b, l₂[i]? = some b ∧ F a b
  | _, _, _, _, .nil, e => by simp at e
  | _, _, 0, _, .cons r _, e => by simp at e; subst e; exact ⟨_, rfl, r⟩
  | _, _, i + 1, a, .cons _ t, e => by
    obtain ⟨b, h1, h2⟩ := Paired.getL (i := i) (a := a) t (by simpa using e)
    exact ⟨b, by simpa using h1, h2⟩
theorem Paired.getR {α β : Type} {F : α → β → Prop} : ∀ {l₁ : List α} {l₂ : List β} {i : Nat} {b : β}, Paired F l₁ l₂ → l₂[i]? = some b → ∃ a, l₁[i]? = some a ∧ F a b
  | _, _, _, _, .nil, e => by simp at e
  | _, _, 0, _, .cons r _, e => by simp at e; subst e; exact ⟨_, rfl, r⟩
  | _, _, i + 1, b, .cons _ t, e => by
    obtain ⟨a, h1, h2⟩ := Paired.getR (i := i) (b := b) t (by simpa using e)
    exact ⟨a, by simpa using h1, h2⟩
theorem Paired.app {α β : Type} {F : α → β → Prop} : ∀ {l₁ m₁ : List α} {l₂ m₂ : List β}, Paired F l₁ l₂ → Paired F m₁ m₂ → Paired F (l₁ ++ m₁) (l₂ ++ m₂)
  | _, _, _, _, .nil, s => s
  | _, _, _, _, .cons r t, s => .cons r (Paired.app t s)
theorem Paired.tk {α β : Type} {F : α → β → Prop} : ∀ {l₁ : List α} {l₂ : List β} (n : Nat), Paired F l₁ l₂ → Paired F (l₁.take n) (l₂.take n)
  | _, _, 0, _ => .nil
  | _, _, _ + 1, .nil => .nil
  | _, _, n + 1, .cons r t => .cons r (Paired.tk n t)
theorem Paired.dp {α β : Type} {F : α → β → Prop} : ∀ {l₁ : List α} {l₂ : List β} (n : Nat), Paired F l₁ l₂ → Paired F (l₁.drop n) (l₂.drop n)
  | _, _, 0, r => r
  | _, _, _ + 1, .nil => .nil
  | _, _, n + 1, .cons _ t => Paired.dp n t
/-- what is told of a value stays when the heap grows, and when a list is written -/
structure Stab {β : Type} (P : Hp → V → β → Prop) : Prop where
  same : ∀ {H H' : Hp} {v : V} {b : β}, Same H H' → P H v b → P H' v b
  wr : ∀ {H : Hp} {v : V} {b : β} {l : Addr} {xs ys : List V}, H l = some (.lst xs) → P H v b → P (upd H l (.lst ys)) v b
theorem T3.wr {H : Hp} {l : Addr} {xs : List V} {v : V} {d : D3} {o : HO} (hl : H l = some (.lst xs)) (h : T3 H v d) : T3 (upd H l o) v d := by
  obtain ⟨a, e, q⟩ := h
  exact ⟨a, e, by rw [upd_ne (ne_of q hl (by intro z; cases z))]; exact q⟩
theorem stab_T3 : Stab T3 := ⟨fun S h => h.same S, fun hl h => h.wr hl⟩
theorem Stab.list {β : Type} {P : Hp → V → β → Prop} (st : Stab P) {H H' : Hp} {vs : List V} {bs : List β} (S : Same H H') (h : Paired (P H) vs bs) : Paired (P H') vs bs := Paired.mapP h fun _ _ z => st.same S z
theorem Stab.listW {β : Type} {P : Hp → V → β → Prop} (st : Stab P) {H : Hp} {vs : List V} {bs : List β} {l : Addr} {xs ys : List V} (hl : H l = some (.lst xs)) (h : Paired (P H) vs bs) : Paired (P (upd H l (.lst ys))) vs bs := Paired.mapP h fun _ _ z => st.wr hl z

/-! ### comprehensions whose element makes things: one name, no test -/
theorem comp_grow {β : Type} {P : Hp → V → β → Prop} (st : Stab P) {K : PySem.W.Frag} {js : List Nat} {σ : St} {te : TE} {H : Hp} {a : Addr} {Q : VK} (xs : List V) (bs : List β) (hlen : xs.length = bs.length) (hz : xs.length < sizeLine) (hS : ∀ H', Same H H' → SqL K H' a xs)
    (hte : ∀ (i : Nat) x b, xs[i]? = some x → bs[i]? = some b → ∀ H' Q', Same H H' → (∀ y H'', Same H' H'' → P H'' y b → Q' y H'') → te ((stC 1 js σ).set 0 (some x)) H' Q')
    (q : ∀ D ys H', Same H H' → H D = none → H' D = some (.lst ys) → Paired (P H') ys bs → Q (.ref D) H') : LoopC 1 js σ (gName 0) tYes te (Itl K a) H Q := by
  refine comp_list (xs := xs) (fun D i ys H' => Same H H' ∧ H' D = some (.lst ys) ∧ Paired (P H') ys (bs.take i)) hz (fun D hD => ⟨same_new hD _, upd_same, .nil⟩) (fun D i ys H' hD hi h => ?_) (fun D i x ys H' hD hx h => ?_) fun D ys H' hD h => ?_
  · obtain ⟨S, hl, p⟩ := h
    refine ⟨hS H' S, hl, ?_⟩
    rw [Paired.length p, List.length_take]; omega
  · obtain ⟨S, hl, p⟩ := h
    have hi : i < xs.length := (List.getElem?_eq_some_iff.mp hx).1
    have hb : bs[i]? = some bs[i] := List.getElem?_eq_getElem (by omega)
    refine ⟨drop_set0 _ _, hte i x _ hx hb H' _ S fun y H6 S6 py => ⟨S6 _ _ hl, (S.trans S6).wr hD _, upd_same, ?_⟩⟩
    rw [List.take_add_one, hb]
    exact Paired.app (st.listW (S6 _ _ hl) (st.list S6 p)) (.cons (st.wr (S6 _ _ hl) py) .nil)
  · obtain ⟨S, hl, p⟩ := h
    rw [hlen, List.take_length] at p
    exact q D ys H' S hD hl p

/-! ### deeds: their sizes, when they clash -/
def okD (d : D3) : Prop := (0 ≤ d.2.1 ∧ d.2.1 < 2 ^ 60) ∧ 0 ≤ d.2.2 ∧ d.2.2 < 2 ^ 60
/-- the law's own clash -/
def clashL (d e : D3) : Bool := distB d e || !decide (V.int (Builtin.bitAnd e.2.2 d.2.1) = V.int 0)
theorem clashL_eq {d e : D3} (hd : okD d) (he : okD e) : clashL d e = clashB d e := by
  obtain ⟨⟨d1, d2⟩, d3, d4⟩ := hd
  obtain ⟨⟨e1, e2⟩, e3, e4⟩ := he
  unfold clashL clashB distB
  rw [decI, decI, decI, bitOr_pp e1 e3, bitOr_pp d1 d3, bitAnd_pp d3 (Int.natCast_nonneg _), bitAnd_pp e3 d1, bitAnd_pp e3 (Int.natCast_nonneg _), Int.toNat_natCast, Int.toNat_natCast]
  have h0 : ∀ n : Nat, decide (((n : Nat) : Int) = 0) = decide (n = 0) := fun n => by
    by_cases hn : n = 0
    · rw [decide_eq_true hn, decide_eq_true (by omega)]
    · rw [decide_eq_false hn, decide_eq_false (by omega)]
  rw [h0, h0, h0, Nat.and_or_distrib_left, Nat.and_or_distrib_left]
  have h1 : ∀ a b : Nat, decide ((a ||| b) = 0) = (decide (a = 0) && decide (b = 0)) := fun a b => by
    rw [← Bool.decide_and]
    congr 1
    exact propext Nat.or_eq_zero_iff
  rw [h1, h1, Nat.and_comm e.2.2.toNat d.2.2.toNat]
  generalize decide ((d.2.2.toNat &&& e.2.1.toNat) = 0) = x1
  generalize decide ((d.2.2.toNat &&& e.2.2.toNat) = 0) = x2
  generalize decide ((e.2.2.toNat &&& d.2.1.toNat) = 0) = x3
  cases x1 <;> cases x2 <;> cases x3 <;> rfl
end L2
namespace L2
open PySem PySem.Spec PyProof.Rows
/-! ### what the drawing defs of the laws promise -/
def spCell (K : PySem.W.Frag) : Sp := fun vs H Q _ => ∃ (a : Addr) (ns : List Int) (k : Int), vs = [.ref a, .int k] ∧ SqL K H a (ns.map V.int) ∧ 0 ≤ k ∧ Q (.int (ns.getD k.toNat 0)) H
theorem at_ints {ns : List Int} {k : Int} (h0 : 0 ≤ k) (h : k < (ns.length : Int)) : atI (ns.map V.int) k = some (.int (ns.getD k.toNat 0)) := by
  have hk : k.toNat < ns.length := by omega
  have e : k = ((k.toNat : Nat) : Int) := by omega
  have q : atI (ns.map V.int) ((k.toNat : Nat) : Int) = some (.int (ns.getD k.toNat 0)) := atI_nat (by rw [List.getElem?_map, List.getElem?_eq_getElem hk, List.getD_eq_getElem?_getD, List.getElem?_eq_getElem hk]; rfl)
  rw [← e] at q
  exact q
theorem at_l0 {a : V} {r : List V} : atI (a :: r) 0 = some a := atI_nat (j := 0) rfl
theorem at_l1 {a b : V} {r : List V} : atI (a :: b :: r) 1 = some b := atI_nat (j := 1) rfl
theorem at_l2 {a b c : V} {r : List V} : atI (a :: b :: c :: r) 2 = some c := atI_nat (j := 2) rfl
def spClashL : Sp := fun vs H Q _ => ∃ x y d e, vs = [x, y] ∧ T3 H x d ∧ T3 H y e ∧ Q (.bl (clashL d e)) H
end L2

end

section
namespace L2
/-! ### heights, plainly -/

section
variable {α : Type} (c : α → α → Bool)
end

section
variable {α : Type} (c : α → α → Bool)
/-! ### layers -/
end

/-! ### the law's levels: the first layer where an equal one is left -/
section
variable {α : Type} [DecidableEq α] (c : α → α → Bool)
end
section
variable {α : Type} (c : α → α → Bool)
/-! ### the chain -/
end
/-! ### partners -/
section
variable {α : Type} [DecidableEq α]
theorem occ_ex {a : α} : ∀ {l : List α} {i : Nat}, i < l.count a → ∃ p, l[p]? = some a ∧ (l.take p).count a = i
  | [], i, h => by simp at h
  | b :: l, i, h => by
    by_cases e : b = a
    · subst e
      cases i with
      | zero => exact ⟨0, rfl, rfl⟩
      | succ i =>
        rw [List.count_cons_self] at h
        obtain ⟨p, h1, h2⟩ := occ_ex (a := b) (l := l) (i := i) (by omega)
        exact ⟨p + 1, by simpa using h1, by rw [List.take_succ_cons, List.count_cons_self, h2]⟩
    · rw [List.count_cons_of_ne e] at h
      obtain ⟨p, h1, h2⟩ := occ_ex h
      exact ⟨p + 1, by simpa using h1, by rw [List.take_succ_cons, List.count_cons_of_ne e, h2]⟩
theorem take_count_mono {a : α} {l : List α} {p q : Nat} (h : p ≤ q) : (l.take p).count a ≤ (l.take q).count a := by
  have e : (l.take q).take p = l.take p := by rw [List.take_take, Nat.min_eq_left h]
  rw [← e]
  exact (List.take_sublist p (l.take q)).count_le a
theorem take_count_lt {a : α} {l : List α} {p q : Nat} (h : p < q) (hp : l[p]? = some a) : (l.take p).count a < (l.take q).count a := by
  have h1 : (l.take (p + 1)).count a ≤ (l.take q).count a := take_count_mono h
  have h2 : l.take (p + 1) = l.take p ++ [a] := by rw [List.take_add_one, hp]; rfl
  rw [h2, List.count_append] at h1
  simp at h1
  omega
theorem occ_lt {a : α} {l : List α} {p : Nat} (hp : l[p]? = some a) : (l.take p).count a < l.count a := by
  have := take_count_lt (q := l.length) (by exact (List.getElem?_eq_some_iff.mp hp).1) hp
  rwa [List.take_of_length_le (Nat.le_refl _)] at this
theorem occ_inj {a : α} {l : List α} {p q : Nat} (hp : l[p]? = some a) (hq : l[q]? = some a) (e : (l.take p).count a = (l.take q).count a) : p = q := by
  rcases Nat.lt_trichotomy p q with z | z | z
  · have := take_count_lt z hp; omega
  · exact z
  · have := take_count_lt z hq; omega
/-- f tells the partners -/
def Mate (xs ys : List α) (f : Nat → Nat) : Prop := ∀ p a, xs[p]? = some a → ys[f p]? = some a ∧ (ys.take (f p)).count a = (xs.take p).count a
theorem Mate.inj {xs ys : List α} {f : Nat → Nat} (M : Mate xs ys f) {p q : Nat} {a b : α} (hp : xs[p]? = some a) (hq : xs[q]? = some b) (e : f p = f q) : p = q := by
  obtain ⟨h1, h2⟩ := M p a hp
  obtain ⟨h3, h4⟩ := M q b hq
  rw [e] at h1
  rw [h1] at h3
  cases h3
  exact occ_inj hp hq (by rw [← h2, ← h4, e])
theorem Mate.count {xs ys : List α} {f : Nat → Nat} (M : Mate xs ys f) (a : α) : xs.count a ≤ ys.count a := by
  by_cases h : xs.count a = 0
  · omega
  · obtain ⟨p, h1, h2⟩ := occ_ex (l := xs) (a := a) (i := xs.count a - 1) (by omega)
    obtain ⟨h3, h4⟩ := M p a h1
    have := occ_lt h3
    omega
theorem count_sum_le {xs ys : List α} (h : ∀ a, xs.count a ≤ ys.count a) (hl : xs.length = ys.length) : ∀ a, ys.count a ≤ xs.count a := by
  have key : ∀ (xs ys : List α), (∀ a, xs.count a ≤ ys.count a) → xs.length = ys.length → xs.Perm ys := by
    intro xs
    induction xs with
    | nil => intro ys _ hl; rw [List.length_eq_zero_iff.mp hl.symm]
    | cons x xs ih =>
      intro ys h hl
      have hx : x ∈ ys := by
        have := h x
        rw [List.count_cons_self] at this
        exact List.count_pos_iff.mp (by omega)
      have p := List.perm_cons_erase hx
      refine (List.Perm.cons x (ih (ys.erase x) (fun a => ?_) ?_)).trans p.symm
      · have h1 := h a
        have h2 := p.count a
        rw [h2] at h1
        by_cases e : x = a
        · subst e; rw [List.count_cons_self, List.count_cons_self] at h1; omega
        · rw [List.count_cons_of_ne e, List.count_cons_of_ne e] at h1; exact h1
      · have := p.length_eq
        rw [List.length_cons] at this
        rw [List.length_cons] at hl
        omega
  intro a
  rw [(key xs ys h hl).count a]
  exact Nat.le_refl _
/-- clashing ones stand in the same order -/
def Kept (c : α → α → Bool) (xs : List α) (f : Nat → Nat) : Prop := ∀ p q a b, p < q → xs[p]? = some a → xs[q]? = some b → c a b = true → f p < f q
variable (c : α → α → Bool)
/-! the other way about -/
end
section
variable {α : Type} (c : α → α → Bool)
/-! ### the layers, one behind the other -/
end
section
variable {α : Type} [DecidableEq α] (c : α → α → Bool)
end
section
variable {α : Type} [DecidableEq α] (c : α → α → Bool)
/-! ### brought one by one -/
inductive Lk : List α → List α → Prop
  | nil : Lk [] []
  | cons {l1 l2 ys : List α} {b : α} : (∀ a ∈ l1, a ≠ b) → (∀ a ∈ l1, c a b = false) → Lk (l1 ++ l2) ys → Lk (l1 ++ b :: l2) (b :: ys)
theorem Lk.perm {xs ys : List α} (h : Lk c xs ys) : xs.Perm ys := by
  induction h with
  | nil => exact .refl _
  | @cons l1 l2 ys b _ _ _ ih => exact List.perm_middle.trans (ih.cons b)
/-- the partners once b is brought ahead: g tells those of the rest -/
def mUp (n : Nat) (g : Nat → Nat) (p : Nat) : Nat := if p < n then g p + 1 else if p = n then 0 else g (p - 1) + 1
theorem Lk.mate {xs ys : List α} (h : Lk c xs ys) : ∃ f, Mate xs ys f ∧ Kept c xs f := by
  induction h with
  | nil => exact ⟨id, (fun p a h => by simp at h), fun p q a b _ h => by simp at h⟩
  | @cons l1 l2 ys b hne hfree _ ih =>
    obtain ⟨g, M, O⟩ := ih
    have lo : ∀ {p : Nat}, p < l1.length → (l1 ++ b :: l2)[p]? = (l1 ++ l2)[p]? := fun {p} h => by rw [List.getElem?_append_left h, List.getElem?_append_left h]
    have hi : ∀ {p : Nat}, l1.length < p → (l1 ++ b :: l2)[p]? = (l1 ++ l2)[p - 1]? := fun {p} h => by
      rw [List.getElem?_append_right (by omega), List.getElem?_append_right (by omega)]
      have : p - l1.length = (p - 1 - l1.length) + 1 := by omega
      rw [this, List.getElem?_cons_succ]
    have at' : (l1 ++ b :: l2)[l1.length]? = some b := by rw [List.getElem?_append_right (Nat.le_refl _), Nat.sub_self]; rfl
    have tlo : ∀ {p : Nat}, p ≤ l1.length → (l1 ++ b :: l2).take p = (l1 ++ l2).take p := fun {p} h => by rw [List.take_append_of_le_length h, List.take_append_of_le_length h]
    have thi : ∀ {p : Nat} (a : α), l1.length < p → ((l1 ++ b :: l2).take p).count a = ((l1 ++ l2).take (p - 1)).count a + if b = a then 1 else 0 := fun {p} a h => by
      have e : p = l1.length + ((p - 1 - l1.length) + 1) := by omega
      have e2 : p - 1 = l1.length + (p - 1 - l1.length) := by omega
      rw [e2, e, List.take_length_add_append, List.take_length_add_append]
      have : l1.length + ((p - 1 - l1.length) + 1) - 1 - l1.length = p - 1 - l1.length := by omega
      rw [List.take_succ_cons, List.count_append, List.count_append, List.count_cons, this]
      simp only [beq_iff_eq]
      rw [Nat.add_assoc]
    have m0 : ∀ {p : Nat}, p < l1.length → mUp l1.length g p = g p + 1 := fun {p} h => by unfold mUp; rw [if_pos h]
    have m1 : mUp l1.length g l1.length = 0 := by unfold mUp; rw [if_neg (Nat.lt_irrefl _), if_pos rfl]
    have m2 : ∀ {p : Nat}, l1.length < p → mUp l1.length g p = g (p - 1) + 1 := fun {p} h => by unfold mUp; rw [if_neg (by omega), if_neg (by omega)]
    refine ⟨mUp l1.length g, fun p a hp => ?_, fun p q a a' hpq ha ha' hc => ?_⟩
    · rcases Nat.lt_trichotomy p l1.length with z | z | z
      · rw [m0 z]
        rw [lo z] at hp
        obtain ⟨h1, h2⟩ := M p a hp
        have hab : b ≠ a := by
          rw [List.getElem?_append_left z] at hp
          exact fun e => hne a (List.mem_of_getElem? hp) e.symm
        refine ⟨by rw [List.getElem?_cons_succ]; exact h1, ?_⟩
        rw [List.take_succ_cons, List.count_cons_of_ne hab, h2, tlo (Nat.le_of_lt z)]
      · subst z
        rw [at'] at hp
        cases hp
        rw [m1]
        refine ⟨rfl, ?_⟩
        rw [tlo (Nat.le_refl _), List.take_left']
        · show 0 = _
          exact (List.count_eq_zero_of_not_mem fun hm => hne b hm rfl).symm
        · rfl
      · rw [m2 z]
        rw [hi z] at hp
        obtain ⟨h1, h2⟩ := M (p - 1) a hp
        refine ⟨by rw [List.getElem?_cons_succ]; exact h1, ?_⟩
        rw [List.take_succ_cons, List.count_cons, h2, thi a z]
        simp only [beq_iff_eq]
    · rcases Nat.lt_trichotomy p l1.length with z | z | z
      · rcases Nat.lt_trichotomy q l1.length with y | y | y
        · rw [m0 z, m0 y]
          rw [lo z] at ha
          rw [lo y] at ha'
          exact Nat.succ_lt_succ (O p q a a' hpq ha ha' hc)
        · subst y
          rw [at'] at ha'
          cases ha'
          rw [List.getElem?_append_left z] at ha
          rw [hfree a (List.mem_of_getElem? ha)] at hc
          cases hc
        · rw [m0 z, m2 y]
          rw [lo z] at ha
          rw [hi y] at ha'
          exact Nat.succ_lt_succ (O p (q - 1) a a' (by omega) ha ha' hc)
      · subst z
        rw [m1, m2 hpq]
        exact Nat.succ_pos _
      · rw [m2 z, m2 (Nat.lt_trans z hpq)]
        rw [hi z] at ha
        rw [hi (Nat.lt_trans z hpq)] at ha'
        exact Nat.succ_lt_succ (O (p - 1) (q - 1) a a' (by omega) ha ha' hc)
/-- partners are told in one way -/
theorem Mate.uniq {xs ys : List α} {f g : Nat → Nat} (M : Mate xs ys f) (N : Mate xs ys g) {p : Nat} (h : p < xs.length) : f p = g p := by
  obtain ⟨h1, h2⟩ := M p _ (List.getElem?_eq_getElem h)
  obtain ⟨h3, h4⟩ := N p _ (List.getElem?_eq_getElem h)
  exact occ_inj h1 h3 (by rw [h2, h4])
theorem first_split {b : α} : ∀ {l : List α}, b ∈ l → ∃ l1 l2, l = l1 ++ b :: l2 ∧ ∀ a ∈ l1, a ≠ b
  | [], h => by cases h
  | x :: l, h => by
    by_cases e : x = b
    · subst e; exact ⟨[], l, rfl, (fun a h => by cases h)⟩
    · rcases List.mem_cons.mp h with z | z
      · exact absurd z.symm e
      · obtain ⟨l1, l2, e1, e2⟩ := first_split z
        refine ⟨x :: l1, l2, by rw [e1]; rfl, fun a ha => ?_⟩
        rcases List.mem_cons.mp ha with rfl | ha
        · exact e
        · exact e2 a ha
/-- what the rest's partners are -/
theorem Mate.rest {l1 l2 ys : List α} {b : α} {f : Nat → Nat} (M : Mate (l1 ++ b :: l2) (b :: ys) f) (hne : ∀ a ∈ l1, a ≠ b) : f l1.length = 0 ∧ Mate (l1 ++ l2) ys (fun p => if p < l1.length then f p - 1 else f (p + 1) - 1) ∧ ∀ p, p < (l1 ++ b :: l2).length → p ≠ l1.length → 0 < f p := by
  have at' : (l1 ++ b :: l2)[l1.length]? = some b := by rw [List.getElem?_append_right (Nat.le_refl _), Nat.sub_self]; rfl
  have c0 : ((l1 ++ b :: l2).take l1.length).count b = 0 := by
    rw [List.take_left']
    · exact List.count_eq_zero_of_not_mem fun hm => hne b hm rfl
    · rfl
  have f0 : f l1.length = 0 := by
    obtain ⟨h1, h2⟩ := M _ b at'
    exact occ_inj (l := b :: ys) (a := b) h1 rfl (by rw [h2, c0]; rfl)
  have pos : ∀ p, p < (l1 ++ b :: l2).length → p ≠ l1.length → 0 < f p := fun p hp hn => by
    rcases Nat.eq_zero_or_pos (f p) with z | z
    · exact absurd (M.inj (List.getElem?_eq_getElem hp) at' (by rw [z, f0])) hn
    · exact z
  refine ⟨f0, fun p a hp => ?_, pos⟩
  by_cases z : p < l1.length
  · simp only [if_pos z]
    have hp' : (l1 ++ b :: l2)[p]? = some a := by rw [List.getElem?_append_left z] at hp ⊢; exact hp
    obtain ⟨h1, h2⟩ := M p a hp'
    have hpos := pos p (List.getElem?_eq_some_iff.mp hp').1 (by omega)
    have hab : b ≠ a := by
      rw [List.getElem?_append_left z] at hp
      exact fun e => hne a (List.mem_of_getElem? hp) e.symm
    have e : f p = (f p - 1) + 1 := by omega
    rw [e, List.getElem?_cons_succ] at h1
    rw [e, List.take_succ_cons, List.count_cons_of_ne hab, List.take_append_of_le_length (Nat.le_of_lt z)] at h2
    exact ⟨h1, by rw [h2, List.take_append_of_le_length (Nat.le_of_lt z)]⟩
  · simp only [if_neg z]
    have hp' : (l1 ++ b :: l2)[p + 1]? = some a := by
      rw [List.getElem?_append_right (by omega)] at hp ⊢
      have : p + 1 - l1.length = (p - l1.length) + 1 := by omega
      rw [this, List.getElem?_cons_succ]; exact hp
    obtain ⟨h1, h2⟩ := M (p + 1) a hp'
    have hpos := pos (p + 1) (List.getElem?_eq_some_iff.mp hp').1 (by omega)
    have e : f (p + 1) = (f (p + 1) - 1) + 1 := by omega
    rw [e, List.getElem?_cons_succ] at h1
    refine ⟨h1, ?_⟩
    have e3 : p + 1 = l1.length + ((p - l1.length) + 1) := by omega
    have e4 : p = l1.length + (p - l1.length) := by omega
    have t1 : (l1 ++ b :: l2).take (p + 1) = l1 ++ b :: l2.take (p - l1.length) := by
      rw [e3, List.take_length_add_append, List.take_succ_cons]
    have t2 : (l1 ++ l2).take p = l1 ++ l2.take (p - l1.length) := by
      conv => lhs; rw [e4]
      rw [List.take_length_add_append]
    rw [e, List.take_succ_cons, t1, List.count_cons, List.count_append, List.count_cons] at h2
    rw [t2, List.count_append]
    omega
theorem Kept.lk : ∀ {ys xs : List α} {f : Nat → Nat}, Mate xs ys f → xs.length = ys.length → Kept c xs f → Lk c xs ys
  | [], xs, _, _, hl, _ => by rw [List.length_eq_zero_iff.mp hl]; exact .nil
  | b :: ys, xs, f, M, hl, O => by
    have hb : b ∈ xs := by
      have := count_sum_le M.count hl b
      rw [List.count_cons_self] at this
      exact List.count_pos_iff.mp (by omega)
    obtain ⟨l1, l2, rfl, hne⟩ := first_split hb
    obtain ⟨f0, M', pos⟩ := M.rest hne
    have at' : (l1 ++ b :: l2)[l1.length]? = some b := by rw [List.getElem?_append_right (Nat.le_refl _), Nat.sub_self]; rfl
    refine .cons hne (fun a ha => Bool.eq_false_iff.mpr fun hc => ?_) (Kept.lk M' (by rw [List.length_append, List.length_cons, List.length_cons] at hl; rw [List.length_append]; omega) fun p q a a' hpq ha ha' hc => ?_)
    · obtain ⟨p, hp⟩ := List.getElem?_of_mem ha
      have hpl : p < l1.length := (List.getElem?_eq_some_iff.mp hp).1
      have := O p l1.length a b hpl (by rw [List.getElem?_append_left hpl]; exact hp) at' hc
      omega
    · have hq : ∀ {p : Nat} {a : α}, (l1 ++ l2)[p]? = some a → (l1 ++ b :: l2)[if p < l1.length then p else p + 1]? = some a := fun {p a} h => by
        by_cases z : p < l1.length
        · rw [if_pos z]
          rw [List.getElem?_append_left z] at h ⊢
          exact h
        · rw [if_neg z]
          rw [List.getElem?_append_right (by omega)] at h ⊢
          have : p + 1 - l1.length = (p - l1.length) + 1 := by omega
          rw [this, List.getElem?_cons_succ]; exact h
      have k := O (if p < l1.length then p else p + 1) (if q < l1.length then q else q + 1) a a' (by split <;> split <;> omega) (hq ha) (hq ha') hc
      have g1 := pos _ (List.getElem?_eq_some_iff.mp (hq ha)).1 (by split <;> omega)
      have g2 := pos _ (List.getElem?_eq_some_iff.mp (hq ha')).1 (by split <;> omega)
      by_cases z1 : p < l1.length
      · rw [if_pos z1] at k g1
        simp only [if_pos z1]
        by_cases z2 : q < l1.length
        · rw [if_pos z2] at k g2
          simp only [if_pos z2]
          omega
        · rw [if_neg z2] at k g2
          simp only [if_neg z2]
          omega
      · rw [if_neg z1] at k g1
        simp only [if_neg z1]
        by_cases z2 : q < l1.length
        · omega
        · rw [if_neg z2] at k g2
          simp only [if_neg z2]
          omega
end
end L2

end

section
namespace L2
open PySem PySem.Spec PyProof.Rows

/-! ### what a value tells, as a tree -/
mutual
inductive Dat (H : Hp) : V → PyData → Prop
  | non : Dat H .non .none
  | bl (b : Bool) : Dat H (.bl b) (.bool b)
  | int (i : Int) : Dat H (.int i) (.int i)
  | str (x : Str) (hx : (PyData.str x).canLay0 = true) : Dat H (.str x) (.str x)
  | lst {a : Addr} {vs : List V} {ds : List PyData} : H a = some (.lst vs) → DatAll H vs ds → Dat H (.ref a) (.list ds)
  | tup {a : Addr} {vs : List V} {ds : List PyData} : H a = some (.tup vs) → DatAll H vs ds → Dat H (.ref a) (.tuple ds)
inductive DatAll (H : Hp) : List V → List PyData → Prop
  | nil : DatAll H [] []
  | cons {v : V} {d : PyData} {vs : List V} {ds : List PyData} : Dat H v d → DatAll H vs ds → DatAll H (v :: vs) (d :: ds)
end
theorem DatAll.map {β : Type} {H : Hp} {f : β → PyData} {P : V → β → Prop} (hf : ∀ v b, P v b → Dat H v (f b)) : ∀ {vs : List V} {bs : List β}, Paired P vs bs → DatAll H vs (bs.map f)
  | _, _, .nil => .nil
  | _, _, .cons h t => .cons (hf _ _ h) (DatAll.map hf t)
mutual
theorem Dat.lay {H : Hp} : ∀ (d : PyData) {v : V}, Dat H v d → d.canLay0 = true
  | .none, _, _ => rfl
  | .bool _, _, _ => rfl
  | .int _, _, _ => rfl
  | .str _, _, h => by cases h with | str _ hx => exact hx
  | .list ds, _, h => by cases h with | lst _ h => exact DatAll.lay ds h
  | .tuple ds, _, h => by cases h with | tup _ h => exact DatAll.lay ds h
  | .dict _, _, h => by cases h
theorem DatAll.lay {H : Hp} : ∀ (ds : List PyData) {vs : List V}, DatAll H vs ds → PyData.canLayAll0 ds = true
  | [], _, _ => rfl
  | d :: ds, _, h => by
    cases h with
    | cons h1 h2 =>
      show (d.canLay0 && PyData.canLayAll0 ds) = true
      rw [Dat.lay d h1, DatAll.lay ds h2]; rfl
end
mutual
theorem Dat.same {H H' : Hp} (S : Same H H') : ∀ (d : PyData) {v : V}, Dat H v d → Dat H' v d
  | .none, _, h => by cases h; exact .non
  | .bool _, _, h => by cases h; exact .bl _
  | .int _, _, h => by cases h; exact .int _
  | .str _, _, h => by cases h with | str _ hx => exact .str _ hx
  | .list ds, _, h => by cases h with | lst e h => exact .lst (S _ _ e) (DatAll.same S ds h)
  | .tuple ds, _, h => by cases h with | tup e h => exact .tup (S _ _ e) (DatAll.same S ds h)
  | .dict _, _, h => by cases h
theorem DatAll.same {H H' : Hp} (S : Same H H') : ∀ (ds : List PyData) {vs : List V}, DatAll H vs ds → DatAll H' vs ds
  | [], _, h => by cases h; exact .nil
  | d :: ds, _, h => by cases h with | cons h1 h2 => exact .cons (Dat.same S d h1) (DatAll.same S ds h2)
end
section
variable {X : Cx} {pins : List (Addr × Obj)} {σ : St} {H : Hp} {s : Shared}
mutual
theorem Inv.dat (I : Inv X pins σ H s) : ∀ (d : PyData) {v : V} {u : Value}, Dat H v d → RelV v u → ∃ as, Reads s.heap u d as
  | .none, _, _, h, r => by cases h; cases r; exact ⟨_, .none⟩
  | .bool _, _, _, h, r => by cases h; cases r; exact ⟨_, .bool _⟩
  | .int _, _, _, h, r => by cases h; obtain ⟨t, rfl⟩ := r; exact ⟨_, .int _ _⟩
  | .str _, _, _, h, r => by cases h; obtain ⟨t, rfl⟩ := r; exact ⟨_, .str _ _⟩
  | .list ds, _, _, h, r => by
    cases h with
    | lst e h =>
      cases r
      obtain ⟨_, its, n, rv, g⟩ := I.hok _ _ e
      obtain ⟨as, q⟩ := Inv.datAll I ds h rv
      exact ⟨_, .list g rfl rfl (by simpa using q)⟩
  | .tuple ds, _, _, h, r => by
    cases h with
    | tup e h =>
      cases r
      obtain ⟨_, its, rv, o, g1, g2, n, g3⟩ := I.hok _ _ e
      obtain ⟨as, q⟩ := Inv.datAll I ds h rv
      exact ⟨_, .tuple g1 g2 g3 (by simpa using q)⟩
  | .dict _, _, _, h, _ => by cases h
theorem Inv.datAll (I : Inv X pins σ H s) : ∀ (ds : List PyData) {vs : List V} {us : List Value}, DatAll H vs ds → Vals vs us → ∃ as, ReadsAll s.heap us ds as
  | [], _, _, h, r => by cases h; cases r; exact ⟨_, .nil⟩
  | d :: ds, _, _, h, r => by
    cases h with
    | cons h1 h2 =>
      cases r with
      | cons r1 r2 =>
        obtain ⟨as, q⟩ := Inv.dat I d h1 r1
        obtain ⟨bs, q'⟩ := Inv.datAll I ds h2 r2
        exact ⟨_, .cons q q'⟩
end
end
/-! ### == and != of such values -/
def rEqD : R2 := fun x y H Q => ∃ d e, Dat H x d ∧ Dat H y e ∧ d.depth ≤ 60 ∧ Q (.bl (PyData.eqv d e)) H
def rNeD : R2 := fun x y H Q => ∃ d e, Dat H x d ∧ Dat H y e ∧ d.depth ≤ 60 ∧ Q (.bl (!PyData.eqv d e)) H
theorem op_eqD {X : Cx} (hu : X.A.units + 64 < cLine) : OpR X (compareOp .Eq) rEqD := by
  intro pins s σ H x y v u Q I rx ry h
  obtain ⟨d, e, hd, he, dp, q⟩ := h
  obtain ⟨as, r1⟩ := I.dat d hd rx
  obtain ⟨bs, r2⟩ := I.dat e he ry
  exact SeqAt.compareEq_reads r1 r2 (Dat.lay d hd) (Dat.lay e he) (by omega) ⟨.bl _, H, I, rfl, q⟩
theorem op_neD {X : Cx} (hu : X.A.units + 64 < cLine) : OpR X (compareOp .NotEq) rNeD := by
  intro pins s σ H x y v u Q I rx ry h
  obtain ⟨d, e, hd, he, dp, q⟩ := h
  obtain ⟨as, r1⟩ := I.dat d hd rx
  obtain ⟨bs, r2⟩ := I.dat e he ry
  exact SeqAt.compareNe_reads r1 r2 (Dat.lay d hd) (Dat.lay e he) (by omega) ⟨.bl _, H, I, rfl, q⟩

/-! ### ways to tell things as trees that tell them apart -/
structure Enc {β : Type} (f : β → PyData) (k : Nat) : Prop where
  inj : ∀ x y, PyData.eqv (f x) (f y) = true ↔ x = y
  dep : ∀ x, (f x).depth ≤ k
theorem Enc.dec {β : Type} [DecidableEq β] {f : β → PyData} {k : Nat} (h : Enc f k) (x y : β) : PyData.eqv (f x) (f y) = decide (x = y) := by
  by_cases e : x = y
  · rw [decide_eq_true e]; exact (h.inj x y).mpr e
  · rw [decide_eq_false e]; exact Bool.eq_false_iff.mpr fun z => e ((h.inj x y).mp z)
theorem enc_all {β : Type} {f : β → PyData} {k : Nat} (h : Enc f k) : ∀ (xs ys : List β), PyData.eqvAll (xs.map f) (ys.map f) = true ↔ xs = ys
  | [], [] => by simp [PyData.eqvAll]
  | [], _ :: _ => by simp [PyData.eqvAll]
  | _ :: _, [] => by simp [PyData.eqvAll]
  | x :: xs, y :: ys => by
    show (PyData.eqv (f x) (f y) && PyData.eqvAll (xs.map f) (ys.map f)) = true ↔ _
    rw [Bool.and_eq_true, h.inj, enc_all h xs ys]
    constructor
    · rintro ⟨rfl, rfl⟩; rfl
    · intro e; injection e with e1 e2; exact ⟨e1, e2⟩
theorem dep_all {β : Type} {f : β → PyData} {k : Nat} (h : ∀ x, (f x).depth ≤ k) : ∀ (xs : List β), PyData.depthAll (xs.map f) ≤ k
  | [] => Nat.zero_le _
  | x :: xs => Nat.max_le.mpr ⟨h x, dep_all h xs⟩
theorem enc_list {β : Type} {f : β → PyData} {k : Nat} (h : Enc f k) : Enc (fun xs : List β => PyData.list (xs.map f)) (k + 1) :=
  ⟨fun xs ys => by rw [PyData.eqv]; exact enc_all h xs ys, fun xs => Nat.succ_le_succ (dep_all h.dep xs)⟩
/-- a deed -/
def dD (d : D3) : PyData := .tuple [.int d.1, .int d.2.1, .int d.2.2]
theorem enc_dD : Enc dD 1 := by
  refine ⟨fun x y => ?_, fun x => Nat.le_refl _⟩
  have e : PyData.eqv (dD x) (dD y) = ((x.1 == y.1) && ((x.2.1 == y.2.1) && ((x.2.2 == y.2.2) && true))) := by
    unfold dD
    simp only [PyData.eqv, PyData.eqvAll]
  rw [e]
  obtain ⟨a, b, c⟩ := x
  obtain ⟨a', b', c'⟩ := y
  simp
theorem T3.dat {H : Hp} {v : V} {d : D3} (h : T3 H v d) : Dat H v (dD d) := by
  obtain ⟨a, rfl, e⟩ := h
  exact .tup e (.cons (.int _) (.cons (.int _) (.cons (.int _) .nil)))
/-- a list of deeds -/
def dL (ds : List D3) : PyData := .list (ds.map dD)
theorem enc_dL : Enc dL 2 := enc_list enc_dD
/-- the list at a holds the deeds ds -/
def LD (H : Hp) (a : Addr) (ds : List D3) : Prop := ∃ vs, H a = some (.lst vs) ∧ Paired (T3 H) vs ds
theorem LD.same {H H' : Hp} {a : Addr} {ds : List D3} (S : Same H H') (h : LD H a ds) : LD H' a ds := let ⟨vs, e, p⟩ := h; ⟨vs, S _ _ e, stab_T3.list S p⟩
theorem LD.dat {H : Hp} {a : Addr} {ds : List D3} (h : LD H a ds) : Dat H (.ref a) (dL ds) := let ⟨_, e, p⟩ := h; .lst e (DatAll.map (fun _ _ z => T3.dat z) p)
end L2

end

section
namespace L2
open PySem PySem.Spec PyProof.Rows

/-! ### the law's own sameness: ints, tuples, lists alone -/
mutual
def itl : PyData → Bool
  | .int _ => true
  | .list xs => itlAll xs
  | .tuple xs => itlAll xs
  | _ => false
def itlAll : List PyData → Bool
  | [] => true
  | x :: xs => itl x && itlAll xs
end
section
variable {K : PySem.W.Frag}
theorem kit_same {n : String} : PySem.W.kitOne K (.type n) (.type n) = some true := if_pos (beq_self_eq_true _)
theorem kit_int_bool : PySem.W.kitOne K (.type "int") (.type "bool") = some false := by kernel_rfl
end
/-! ### the drawn diary -/
theorem okD_of {x a b : Int} (h1 : R60 a) (h2 : R60 b) : okD (x, a, b) := by
  unfold R60 at h1 h2
  refine ⟨⟨h1.1, ?_⟩, h2.1, ?_⟩
  · show a < 2 ^ 60
    omega
  · show b < 2 ^ 60
    omega
theorem cut_ints (ns : List Int) (lo hi : Option Int) : ∃ ms : List Int, cutV (ns.map V.int) lo hi = ms.map V.int ∧ ms.length ≤ ns.length := by
  have h := cutV_length (ns.map V.int) lo hi
  unfold cutV at h ⊢
  rw [← List.map_drop, ← List.map_take] at h ⊢
  refine ⟨_, rfl, ?_⟩
  simp only [List.length_map] at h ⊢
  exact h
/-- a deed of a good size stands there -/
def DP (H : Hp) (v : V) (_ : Unit) : Prop := ∃ d, T3 H v d ∧ okD d
theorem stab_DP : Stab DP := ⟨fun S ⟨d, h, o⟩ => ⟨d, h.same S, o⟩, fun hl ⟨d, h, o⟩ => ⟨d, h.wr hl, o⟩⟩
theorem deeds_of {H : Hp} : ∀ {vs : List V} {us : List Unit}, Paired (DP H) vs us → ∃ ds : List D3, Paired (T3 H) vs ds ∧ (∀ d ∈ ds, okD d) ∧ ds.length = us.length
  | _, _, .nil => ⟨[], .nil, (fun _ h => nomatch h), rfl⟩
  | _, _, .cons ⟨d, h, o⟩ t => by
    obtain ⟨ds, p, q, e⟩ := deeds_of t
    refine ⟨d :: ds, .cons h p, fun x hx => ?_, congrArg Nat.succ e⟩
    rcases List.mem_cons.mp hx with rfl | hx
    · exact o
    · exact q x hx
end L2
namespace L2
open PySem PySem.Spec PyProof.Rows
/-! ### heights -/
end L2
namespace L2
open PySem PySem.Spec PyProof.Rows
theorem ints_get {hs : List Int} {i : Nat} {y : V} (h : (hs.map V.int)[i]? = some y) : ∃ n, hs[i]? = some n ∧ y = .int n := by
  rw [List.getElem?_map] at h
  cases e : hs[i]? with
  | none => rw [e] at h; cases h
  | some n => rw [e] at h; exact ⟨n, rfl, (Option.some.inj h).symm⟩
end L2
namespace L2
open PySem PySem.Spec PyProof.Rows
theorem at0 {α : Type} {xs : List α} {j : Nat} {v : α} (h : xs[j]? = some v) : atI xs (0 + (j : Int)) = some v := by rw [Int.zero_add]; exact atI_nat h
theorem cut_to {xs : List V} {m : Int} (h : 0 ≤ m) : cutV xs none (some m) = xs.take m.toNat := by
  obtain ⟨k, rfl⟩ := Int.eq_ofNat_of_zero_le h
  unfold cutV
  rw [HT.sIx_nat, HT.sIx_none, List.drop_zero, Nat.sub_zero, Int.toNat_natCast]
  rcases Nat.le_total k xs.length with z | z
  · rw [Nat.min_eq_left z]
  · rw [Nat.min_eq_right z, List.take_of_length_le (Nat.le_refl _), List.take_of_length_le z]
def spLaw (K : PySem.W.Frag) : Sp := fun vs H Q _ => ∃ (a : Addr) (ns : List Int), vs = [.ref a] ∧ SqL K H a (ns.map V.int) ∧ ns.length ≤ 63 ∧ ∀ H', Q (.bl true) H'
end L2
namespace L2
open PySem PySem.Spec PyProof.Rows
/-! ### a row of written ints -/
def intsOf : List Expr → Option (List Int)
  | [] => some []
  | .Constant (.int i) _ _ :: es => (intsOf es).map (i :: ·)
  | _ => none
theorem pa_ints {X : Cx} : ∀ {es : List Expr} {ns : List Int}, intsOf es = some ns → PA X es (fun _ H Q => Q (ns.map V.int) H)
  | [], ns, h => by
    have e : [] = ns := Option.some.inj h
    subst e
    exact pa_nil
  | e :: es, ns, h => by
    cases e with
    | Constant c j pos =>
      cases c with
      | int i =>
        have h' : (intsOf es).map (i :: ·) = some ns := h
        cases q : intsOf es with
        | none => rw [q] at h'; cases h'
        | some ms =>
          rw [q] at h'
          have e : i :: ms = ns := Option.some.inj h'
          subst e
          exact pa_cons pe_int (pa_ints q)
      | _ => cases h
    | _ => cases h
end L2

end

section
namespace L2
open PySem PySem.W PyProof.Rows
/-! ### the sort of few, as a tree of questions, answered by an order -/
section
variable (n : Nat) (lt : Nat → Nat → Bool)
/-- every question is about two of the n; the end is as wanted -/
def Gd {α : Type} : KasT α → (α → Prop) → Prop
  | .ret a, Q => Q a
  | .ask i j k, Q => i < n ∧ j < n ∧ Gd (k (lt i j)) Q
variable {n lt}
theorem Gd.mono {α : Type} {Q Q' : α → Prop} (h : ∀ a, Q a → Q' a) : ∀ {t : KasT α}, Gd n lt t Q → Gd n lt t Q'
  | .ret a, g => h a g
  | .ask i j k, ⟨a, b, g⟩ => ⟨a, b, Gd.mono h g⟩
theorem Gd.bind {α β : Type} {Q : α → Prop} {R : β → Prop} {f : α → KasT β} : ∀ {t : KasT α}, Gd n lt t Q → (∀ a, Q a → Gd n lt (f a) R) → Gd n lt (t.bind f) R
  | .ret a, g, h => h a g
  | .ask i j k, ⟨a, b, g⟩, h => ⟨a, b, Gd.bind g h⟩
structure LtOk (lt : Nat → Nat → Bool) : Prop where
  asy : ∀ i j, lt i j = true → lt j i = false
  tr : ∀ i j k, lt j i = false → lt k j = false → lt k i = false
variable (O : LtOk lt)
theorem LtOk.refl (O : LtOk lt) (i : Nat) : lt i i = false := by
  cases h : lt i i with
  | false => rfl
  | true => rw [← h]; exact O.asy i i h
/-- the first k of p rise -/
def Srt (lt : Nat → Nat → Bool) (p : Array Nat) (k : Nat) : Prop := ∀ i j, i ≤ j → j < k → lt (p.getD j 0) (p.getD i 0) = false
/-- they fall -/
def Fal (lt : Nat → Nat → Bool) (p : Array Nat) (k : Nat) : Prop := ∀ i j, i ≤ j → j < k → lt (p.getD i 0) (p.getD j 0) = false
/-- the numbers below n, in some order -/
def Prm (n : Nat) (p : Array Nat) : Prop := p.Perm (List.range n).toArray
theorem Prm.size {p : Array Nat} (h : Prm n p) : p.size = n := by have := Array.Perm.size_eq h; simpa using this
theorem Prm.ix {p : Array Nat} (h : Prm n p) {i : Nat} (hi : i < n) : p.getD i 0 < n := by
  have hs := h.size
  have : p[i] ∈ p := Array.getElem_mem (by omega)
  have := (Array.Perm.mem_iff h).mp this
  rw [show p.getD i 0 = p[i] by simp [Array.getD, hs, hi]]
  simpa using this
theorem srt_step {p : Array Nat} {k : Nat} (O : LtOk lt) (h1 : 1 ≤ k) (h : Srt lt p k) (e : lt (p.getD k 0) (p.getD (k - 1) 0) = false) : Srt lt p (k + 1) := by
  intro i j hij hj
  by_cases hjk : j < k
  · exact h i j hij hjk
  · have : j = k := by omega
    subst this
    by_cases hi : i = j
    · subst hi; exact O.refl _
    · exact O.tr _ (p.getD (j - 1) 0) _ (h i (j - 1) (by omega) (by omega)) e
theorem fal_step {p : Array Nat} {k : Nat} (O : LtOk lt) (h1 : 1 ≤ k) (h : Fal lt p k) (e : lt (p.getD (k - 1) 0) (p.getD k 0) = false) : Fal lt p (k + 1) := by
  intro i j hij hj
  by_cases hjk : j < k
  · exact h i j hij hjk
  · have : j = k := by omega
    subst this
    by_cases hi : i = j
    · subst hi; exact O.refl _
    · exact O.tr _ (p.getD (j - 1) 0) _ e (h i (j - 1) (by omega) (by omega))
theorem asc_ok {p : Array Nat} (O : LtOk lt) (P : Prm n p) : ∀ (f k : Nat), 1 ≤ k → k + f ≤ n → Srt lt p k → Gd n lt (kas_asc p f k) (fun m => k ≤ m ∧ m ≤ k + f ∧ Srt lt p m ∧ (m < k + f → lt (p.getD m 0) (p.getD (m - 1) 0) = true))
  | 0, k, _, _, h => ⟨Nat.le_refl _, Nat.le_refl _, h, fun z => absurd z (Nat.lt_irrefl _)⟩
  | f + 1, k, h1, h2, h => by
    refine ⟨P.ix (by omega), P.ix (by omega), ?_⟩
    cases e : lt (p.getD k 0) (p.getD (k - 1) 0) with
    | true => simp only [↓reduceIte, Bool.false_eq_true]; exact ⟨Nat.le_refl _, by omega, h, fun _ => e⟩
    | false =>
      simp only [↓reduceIte, Bool.false_eq_true]
      refine Gd.mono ?_ (asc_ok O P f (k + 1) (by omega) (by omega) (srt_step O h1 h e))
      rintro m ⟨a, b, c, d⟩
      exact ⟨by omega, by omega, c, fun z => d (by omega)⟩
theorem rev_prm {p : Array Nat} (P : Prm n p) (i j : Nat) : Prm n (kas_rev p i j) := (mirror_perm _ _ _ _).trans P
theorem rev_get {p : Array Nat} {i j : Nat} (hij : i ≤ j) (hj : j ≤ p.size) (k : Nat) : (kas_rev p i j).getD k 0 = if i ≤ k ∧ k < j then p.getD (i + j - 1 - k) 0 else p.getD k 0 := by
  have h := getElem?_mirror (xs := p) (i := i) (j := j) hj ((j - i) / 2) (by omega) k
  have gd : ∀ (q : Array Nat) (k : Nat), q.getD k 0 = (q[k]?).getD 0 := fun q k => by
    by_cases hk : k < q.size
    · simp [Array.getD, hk]
    · simp [Array.getD, hk]
  unfold kas_rev
  rw [gd, h]
  by_cases hk : i ≤ k ∧ k < j
  · rw [if_pos hk]
    by_cases hc : (i ≤ k ∧ k < i + (j - i) / 2) ∨ (j - (j - i) / 2 ≤ k ∧ k < j)
    · rw [if_pos hc, ← gd]
    · rw [if_neg hc, ← gd]
      congr 1
      omega
  · rw [if_neg hk]
    have hc : ¬ ((i ≤ k ∧ k < i + (j - i) / 2) ∨ (j - (j - i) / 2 ≤ k ∧ k < j)) := by omega
    rw [if_neg hc, ← gd]
/-- a falling row turned about rises -/
theorem rev_srt {p : Array Nat} {k : Nat} (hk : k ≤ p.size) (h : Fal lt p k) : Srt lt (kas_rev p 0 k) k := by
  intro i j hij hj
  rw [rev_get (Nat.zero_le _) hk, rev_get (Nat.zero_le _) hk, if_pos ⟨Nat.zero_le _, hj⟩, if_pos ⟨Nat.zero_le _, by omega⟩]
  exact h _ _ (by omega) (by omega)
/-- a part of equal ones turned about: the row falls as it did -/
theorem rev_fal {p : Array Nat} {k i : Nat} (O : LtOk lt) (hk : k ≤ p.size) (hi : i ≤ k) (h : Fal lt p k) (he : ∀ a b, i ≤ a → a < k → i ≤ b → b < k → lt (p.getD a 0) (p.getD b 0) = false) : Fal lt (kas_rev p i k) k := by
  intro a b hab hb
  rw [rev_get hi hk, rev_get hi hk]
  by_cases ha : i ≤ a
  · rw [if_pos ⟨ha, by omega⟩, if_pos ⟨by omega, hb⟩]
    exact he _ _ (by omega) (by omega) (by omega) (by omega)
  · rw [if_neg (by omega)]
    by_cases hb' : i ≤ b
    · rw [if_pos ⟨hb', hb⟩]
      exact h _ _ (by omega) (by omega)
    · rw [if_neg (by omega)]
      exact h _ _ hab hb
/-- the last q + 1 are equal -/
def Eql (lt : Nat → Nat → Bool) (p : Array Nat) (k q : Nat) : Prop := q + 1 ≤ k ∧ ∀ a b, k - (q + 1) ≤ a → a < k → k - (q + 1) ≤ b → b < k → lt (p.getD a 0) (p.getD b 0) = false
theorem desc_ok (O : LtOk lt) : ∀ (f : Nat) (p : Array Nat) (k q : Nat), Prm n p → 1 ≤ k → k + f ≤ n → Fal lt p k → Eql lt p k q → Gd n lt (kas_desc f p k q) (fun r => Prm n r.1 ∧ k ≤ r.2.1 ∧ r.2.1 ≤ k + f ∧ Fal lt r.1 r.2.1 ∧ Eql lt r.1 r.2.1 r.2.2)
  | 0, p, k, q, P, h1, h2, h, e => ⟨P, Nat.le_refl _, Nat.le_refl _, h, e⟩
  | f + 1, p, k, q, P, h1, h2, h, e => by
    have hs := P.size
    refine ⟨P.ix (by omega), P.ix (by omega), ?_⟩
    cases c : lt (p.getD k 0) (p.getD (k - 1) 0) with
    | true =>
      simp only [↓reduceIte, Bool.false_eq_true]
      have c' := O.asy _ _ c
      by_cases hq : q > 0
      · rw [if_pos hq]
        have F : Fal lt (kas_rev p (k - (q + 1)) k) k := rev_fal O (by omega) (by omega) h e.2
        have F' : Fal lt (kas_rev p (k - (q + 1)) k) (k + 1) := by
          refine fal_step O h1 F ?_
          rw [rev_get (by omega) (by omega), rev_get (by omega) (by omega), if_pos ⟨by omega, by omega⟩, if_neg (by omega)]
          have := e.1
          exact O.tr _ (p.getD (k - 1) 0) _ c' (e.2 _ _ (by omega) (by omega) (by omega) (by omega))
        refine Gd.mono ?_ (desc_ok O f _ (k + 1) 0 (rev_prm P _ _) (by omega) (by omega) F' ⟨by omega, fun a b ha ha' hb hb' => by
          have e1 : a = k := by omega
          have e2 : b = k := by omega
          subst e1 e2; exact O.refl _⟩)
        rintro r ⟨a, b, c, d, e⟩
        exact ⟨a, by omega, by omega, d, e⟩
      · rw [if_neg hq]
        refine Gd.mono ?_ (desc_ok O f p (k + 1) 0 P (by omega) (by omega) (fal_step O h1 h c') ⟨by omega, fun a b ha ha' hb hb' => by
          have e1 : a = k := by omega
          have e2 : b = k := by omega
          subst e1 e2; exact O.refl _⟩)
        rintro r ⟨a, b, c, d, e⟩
        exact ⟨a, by omega, by omega, d, e⟩
    | false =>
      simp only [↓reduceIte, Bool.false_eq_true]
      refine ⟨P.ix (by omega), P.ix (by omega), ?_⟩
      cases d : lt (p.getD (k - 1) 0) (p.getD k 0) with
      | true => simp only [↓reduceIte, Bool.false_eq_true]; exact ⟨P, Nat.le_refl _, Nat.le_add_right _ _, h, e⟩
      | false =>
        simp only [↓reduceIte, Bool.false_eq_true]
        have := e.1
        refine Gd.mono ?_ (desc_ok O f p (k + 1) (q + 1) P (by omega) (by omega) (fal_step O h1 h d) ⟨by omega, fun a b ha ha' hb hb' => ?_⟩)
        · rintro r ⟨a, b, c, d, e⟩
          exact ⟨a, by omega, by omega, d, e⟩
        · by_cases a1 : a = k
          · subst a1
            by_cases b1 : b = a
            · subst b1; exact O.refl _
            · exact O.tr _ (p.getD (a - 1) 0) _ (e.2 _ _ (by omega) (by omega) (by omega) (by omega)) c
          · by_cases b1 : b = k
            · subst b1
              exact O.tr _ (p.getD (b - 1) 0) _ d (e.2 _ _ (by omega) (by omega) (by omega) (by omega))
            · exact e.2 a b (by omega) (by omega) (by omega) (by omega)
theorem tail3_ok (O : LtOk lt) {p : Array Nat} {k m : Nat} (P : Prm n p) (h1 : 1 ≤ k) (hk : k ≤ m) (hm : m ≤ n) (h : Fal lt p k) : Gd n lt (kas_tail3 k m p) (fun r => Prm n r.2 ∧ 1 ≤ r.1 ∧ r.1 ≤ m ∧ Srt lt r.2 r.1) := by
  have hs := P.size
  refine Gd.bind (asc_ok O (rev_prm P 0 k) (m - k) k h1 (by omega) (rev_srt (by omega) h)) ?_
  rintro x ⟨a, b, c, _⟩
  exact ⟨rev_prm P 0 k, by omega, by omega, c⟩
theorem descPart_ok (O : LtOk lt) {p : Array Nat} {k m : Nat} (P : Prm n p) (h1 : 1 ≤ k) (hk : k + 1 ≤ m) (hm : m ≤ n) (h : Fal lt p (k + 1)) : Gd n lt (kas_descPart k m p) (fun r => Prm n r.2 ∧ 1 ≤ r.1 ∧ r.1 ≤ m ∧ Srt lt r.2 r.1) := by
  refine Gd.bind (desc_ok O (m - (k + 1)) p (k + 1) 0 P (by omega) (by omega) h ⟨by omega, fun a b ha ha' hb hb' => by
    have e1 : a = k := by omega
    have e2 : b = k := by omega
    subst e1 e2; exact O.refl _⟩) ?_
  rintro ⟨p', k', q'⟩ ⟨P', a, b, F, e⟩
  dsimp only at P' a b F e ⊢
  have hs := P'.size
  by_cases hq : q' > 0
  · rw [if_pos hq]
    exact tail3_ok O (rev_prm P' _ _) (by omega) (by omega) hm (rev_fal O (by omega) (by omega) F e.2)
  · rw [if_neg hq]
    exact tail3_ok O P' (by omega) (by omega) hm F
theorem count_ok (O : LtOk lt) {p : Array Nat} {m : Nat} (P : Prm n p) (h1 : 1 ≤ m) (hm : m ≤ n) : Gd n lt (kas_count m p) (fun r => Prm n r.2 ∧ 1 ≤ r.1 ∧ r.1 ≤ m ∧ Srt lt r.2 r.1) := by
  have hs := P.size
  have s1 : Srt lt p 1 := fun i j hij hj => by
    have e1 : i = 0 := by omega
    have e2 : j = 0 := by omega
    subst e1 e2; exact O.refl _
  refine Gd.bind (asc_ok O P (m - 1) 1 (Nat.le_refl _) (by omega) s1) ?_
  rintro k ⟨a, b, c, d⟩
  by_cases hk : (k == m) = true
  · rw [if_pos hk]; exact ⟨P, a, by omega, c⟩
  · rw [if_neg hk]
    have hkm : k < m := by
      have : k ≠ m := fun z => hk (by rw [z]; exact beq_self_eq_true _)
      omega
    have d' := d (by omega)
    by_cases h2 : k > 1
    · rw [if_pos h2]
      refine ⟨P.ix (by omega), P.ix (by omega), ?_⟩
      cases e : lt (p.getD 0 0) (p.getD (k - 1) 0) with
      | true => simp only [↓reduceIte, Bool.false_eq_true]; exact ⟨P, a, by omega, c⟩
      | false =>
        simp only [↓reduceIte, Bool.false_eq_true]
        have eq : ∀ x y, x < k → y < k → lt (p.getD x 0) (p.getD y 0) = false := fun x y hx hy => by
          -- x ≤ last ≤ first ≤ y
          have g1 := c 0 x (Nat.zero_le _) hx
          have g2 := c y (k - 1) (by omega) (by omega)
          exact O.tr _ (p.getD 0 0) _ (O.tr _ (p.getD (k - 1) 0) _ g2 e) (c 0 x (Nat.zero_le _) hx) |> fun _ => O.tr (p.getD y 0) (p.getD (k - 1) 0) (p.getD x 0) g2 (O.tr _ (p.getD 0 0) _ e g1)
        have F : Fal lt (kas_rev p 0 k) (k + 1) := by
          have F0 : Fal lt (kas_rev p 0 k) k := fun x y hxy hy => by
            rw [rev_get (Nat.zero_le _) (by omega), rev_get (Nat.zero_le _) (by omega), if_pos ⟨Nat.zero_le _, by omega⟩, if_pos ⟨Nat.zero_le _, hy⟩]
            exact eq _ _ (by omega) (by omega)
          refine fal_step O a F0 ?_
          rw [rev_get (Nat.zero_le _) (by omega), rev_get (Nat.zero_le _) (by omega), if_pos ⟨Nat.zero_le _, by omega⟩, if_neg (by omega)]
          exact O.tr _ (p.getD (k - 1) 0) _ (O.asy _ _ d') (eq _ _ (by omega) (by omega))
        exact descPart_ok O (rev_prm P 0 k) a hkm hm F
    · rw [if_neg h2]
      have e1 : k = 1 := by omega
      subst e1
      refine descPart_ok O P a hkm hm (fal_step O (Nat.le_refl _) (fun i j hij hj => ?_) (O.asy _ _ d'))
      have e1 : i = 0 := by omega
      have e2 : j = 0 := by omega
      subst e1 e2; exact O.refl _
theorem place_ok {p : Array Nat} (O : LtOk lt) (P : Prm n p) {k : Nat} (hk : k < n) (hs : Srt lt p k) : ∀ (f l r : Nat), l ≤ r → r ≤ k → r - l ≤ f → (∀ i, i < l → lt (p.getD k 0) (p.getD i 0) = false) → (∀ i, r ≤ i → i < k → lt (p.getD k 0) (p.getD i 0) = true) →
    Gd n lt (kas_place p k f l r) (fun x => x ≤ k ∧ (∀ i, i < x → lt (p.getD k 0) (p.getD i 0) = false) ∧ ∀ i, x ≤ i → i < k → lt (p.getD k 0) (p.getD i 0) = true)
  | 0, l, r, h1, h2, h3, h4, h5 => ⟨by omega, h4, fun i hi => h5 i (by omega)⟩
  | f + 1, l, r, h1, h2, h3, h4, h5 => by
    unfold kas_place
    by_cases hlr : l ≥ r
    · rw [if_pos hlr]; exact ⟨by omega, h4, fun i hi => h5 i (by omega)⟩
    · rw [if_neg hlr]
      refine ⟨P.ix hk, P.ix (by omega), ?_⟩
      cases e : lt (p.getD k 0) (p.getD ((l + r) / 2) 0) with
      | true =>
        simp only [↓reduceIte, Bool.false_eq_true]
        refine place_ok O P hk hs f l ((l + r) / 2) (by omega) (by omega) (by omega) h4 fun i hi hik => ?_
        cases e2 : lt (p.getD k 0) (p.getD i 0) with
        | true => rfl
        | false =>
          rw [O.tr _ (p.getD i 0) _ (hs _ _ hi hik) e2] at e
          cases e
      | false =>
        simp only [↓reduceIte, Bool.false_eq_true]
        refine place_ok O P hk hs f ((l + r) / 2 + 1) r (by omega) h2 (by omega) (fun i hi => ?_) h5
        exact O.tr _ (p.getD ((l + r) / 2) 0) _ (hs _ _ (by omega) (by omega)) e
theorem bub_get {p : Array Nat} {k l : Nat} (hk : k < p.size) (hl : l ≤ k) (i : Nat) : (bubble p k (k - l)).getD i 0 = if i = l then p.getD k 0 else if l < i ∧ i ≤ k then p.getD (i - 1) 0 else p.getD i 0 := by
  have h := getElem?_bubble (xs := p) (src := k) hk (k - l) (by omega) i
  have gd : ∀ (q : Array Nat) (k : Nat), q.getD k 0 = (q[k]?).getD 0 := fun q k => by
    by_cases hk : k < q.size
    · simp [Array.getD, hk]
    · simp [Array.getD, hk]
  have e : k - (k - l) = l := by omega
  rw [e] at h
  rw [gd, h]
  by_cases h1 : i = l
  · rw [if_pos h1, if_pos h1, ← gd]
  · rw [if_neg h1, if_neg h1]
    by_cases h2 : l < i ∧ i ≤ k
    · rw [if_pos h2, if_pos h2, ← gd]
    · rw [if_neg h2, if_neg h2, ← gd]
theorem bin_ok (O : LtOk lt) : ∀ (f : Nat) (p : Array Nat) (k : Nat), Prm n p → k + f ≤ n → Srt lt p k → Gd n lt (kas_bin f p k) (fun q => Prm n q ∧ Srt lt q (k + f))
  | 0, p, k, P, _, hs => ⟨P, hs⟩
  | f + 1, p, k, P, h, hs => by
    have hz := P.size
    refine Gd.bind (place_ok O P (k := k) (by omega) hs k 0 k (Nat.zero_le _) (Nat.le_refl _) (by omega) (fun i hi => absurd hi (Nat.not_lt_zero _)) fun i hi hik => by omega) ?_
    rintro l ⟨hl, h1, h2⟩
    refine Gd.mono ?_ (bin_ok O f (bubble p k (k - l)) (k + 1) ((bubble_perm _ _ _).trans P) (by omega) ?_)
    · rintro q ⟨a, b⟩
      exact ⟨a, by rw [show k + (f + 1) = k + 1 + f by omega]; exact b⟩
    · intro i j hij hj
      rw [bub_get (by omega) hl, bub_get (by omega) hl]
      by_cases j1 : j = l
      · rw [if_pos j1]
        by_cases i1 : i = l
        · rw [if_pos i1]; exact O.refl _
        · rw [if_neg i1, if_neg (by omega)]
          exact h1 i (by omega)
      · rw [if_neg j1]
        by_cases j2 : l < j ∧ j ≤ k
        · rw [if_pos j2]
          by_cases i1 : i = l
          · rw [if_pos i1]
            exact O.asy _ _ (h2 _ (by omega) (by omega))
          · rw [if_neg i1]
            by_cases i2 : l < i ∧ i ≤ k
            · rw [if_pos i2]; exact hs _ _ (by omega) (by omega)
            · rw [if_neg i2]; exact hs _ _ (by omega) (by omega)
        · rw [if_neg j2, if_neg (by omega), if_neg (by omega)]
          exact hs _ _ hij (by omega)
theorem sort_ok (O : LtOk lt) (h2 : 1 ≤ n) : Gd n lt (kas_sort n) (fun p => Prm n p ∧ Srt lt p n) := by
  refine Gd.bind (count_ok O (p := (List.range n).toArray) (m := n) (Array.Perm.refl _) h2 (Nat.le_refl _)) ?_
  rintro ⟨k, p⟩ ⟨P, a, b, c⟩
  dsimp only at P a b c ⊢
  by_cases hk : k < n
  · rw [if_pos hk]
    have e : max k 1 = k := by omega
    rw [e]
    refine Gd.mono ?_ (bin_ok O (n - k) p k P (by omega) c)
    rintro q ⟨x, y⟩
    exact ⟨x, by rw [show k + (n - k) = n by omega] at y; exact y⟩
  · rw [if_neg hk]
    exact ⟨P, by rw [show n = k by omega]; exact c⟩
end
end L2

end

section
namespace L2
open PySem PySem.Spec PyProof.Rows PySem.W

/-! ### the order of deeds -/
def ltB (d e : D3) : Bool := decide (d.1 < e.1 ∨ (d.1 = e.1 ∧ (d.2.1 < e.2.1 ∨ (d.2.1 = e.2.1 ∧ d.2.2 < e.2.2))))
theorem ltB_iff {d e : D3} : ltB d e = true ↔ (d.1 < e.1 ∨ (d.1 = e.1 ∧ (d.2.1 < e.2.1 ∨ (d.2.1 = e.2.1 ∧ d.2.2 < e.2.2)))) := decide_eq_true_iff
theorem ltB_no {d e : D3} : ltB d e = false ↔ ¬ (d.1 < e.1 ∨ (d.1 = e.1 ∧ (d.2.1 < e.2.1 ∨ (d.2.1 = e.2.1 ∧ d.2.2 < e.2.2)))) := decide_eq_false_iff_not
theorem ltB_asy {d e : D3} (h : ltB d e = true) : ltB e d = false := by rw [ltB_iff] at h; rw [ltB_no]; omega
theorem ltB_tr {d e f : D3} (h1 : ltB e d = false) (h2 : ltB f e = false) : ltB f d = false := by rw [ltB_no] at h1 h2 ⊢; omega
theorem ltB_anti {d e : D3} (h1 : ltB e d = false) (h2 : ltB d e = false) : d = e := by
  rw [ltB_no] at h1 h2
  obtain ⟨a, b, c⟩ := d
  obtain ⟨a', b', c'⟩ := e
  dsimp only at h1 h2
  have e1 : a = a' := by omega
  have e2 : b = b' := by omega
  have e3 : c = c' := by omega
  rw [e1, e2, e3]
def leD (d e : D3) : Bool := !ltB e d
def srt (ds : List D3) : List D3 := ds.mergeSort leD
theorem srt_perm (ds : List D3) : (srt ds).Perm ds := List.mergeSort_perm ds leD
theorem srt_rises (ds : List D3) : (srt ds).Pairwise fun d e => ltB e d = false := by
  refine List.Pairwise.imp ?_ (List.pairwise_mergeSort (le := leD) ?_ ?_ ds)
  · intro a b h
    simpa [leD] using h
  · intro a b c h1 h2
    have h1' : ltB b a = false := by simpa [leD] using h1
    have h2' : ltB c b = false := by simpa [leD] using h2
    show (!ltB c a) = true
    rw [ltB_tr h1' h2']; rfl
  · intro a b
    unfold leD
    cases h : ltB b a with
    | false => rfl
    | true => rw [ltB_asy h]; rfl
theorem srt_uniq {ds es : List D3} (p : es.Perm ds) (r : es.Pairwise fun d e => ltB e d = false) : es = srt ds :=
  List.Perm.eq_of_pairwise (fun _ _ _ _ h h' => ltB_anti h h') r (srt_rises ds) (p.trans (srt_perm ds).symm)
theorem srt_of_perm {ds es : List D3} (p : ds.Perm es) : srt ds = srt es := srt_uniq ((srt_perm ds).trans p) (srt_rises ds)
theorem srt_length (ds : List D3) : (srt ds).length = ds.length := (srt_perm ds).length_eq

/-! ### the tree of questions, each answered where the state stays -/
theorem Gd.wp {α : Type} {n : Nat} {lt : Nat → Nat → Bool} {cmp : Nat → Nat → (Bool → Shared → Prop) → Shared → Prop} {s : Shared} {Q : α → Prop} {R : α → Shared → Prop} (hc : ∀ i j C, i < n → j < n → C (lt i j) s → cmp i j C s) (h : ∀ a, Q a → R a s) :
    ∀ {t : KasT α}, Gd n lt t Q → t.kasWp cmp R s
  | .ret a, g => h a g
  | .ask i j k, ⟨a, b, g⟩ => hc i j _ a b (Gd.wp hc h g)
section
variable {prog : Program} {w : World} {A : Around} {E : Value → Shared → Prop} {s : Shared}
theorem lt_ints3 {x y : Addr} {a b c a' b' c' : Int} {t1 t2 t3 u1 u2 u3 : Tok} {C : Bool → Shared → Prop} (hx : IsTup s.heap x #[.int a t1, .int b t2, .int c t3]) (hy : IsTup s.heap y #[.int a' u1, .int b' u2, .int c' u3]) (h : C (ltB (a, b, c) (a', b', c')) s) :
    wpAny (model prog w) A (keyLt' (tuples' true) (.ref x) (.ref y)) C (fun _ _ => False) s := by
  obtain ⟨ox, gx, _, nx, dx⟩ := hx
  obtain ⟨oy, gy, _, ny, dy⟩ := hy
  refine kat_lt gx dx gy dy ?_
  show KatLex prog w A true _ C [(.int a t1, .int a' u1), (.int b t2, .int b' u2), (.int c t3, .int c' u3)] 0 s
  refine kat_cons (SeqAt.EqAt.int_int a t1 a' u1 prog w _ _ ?_)
  refine kat_go (fun e1 => kat_yes ?_) (fun e1 => kat_no ?_)
  · have e1' : a = a' := by simpa using e1
    refine kat_cons (SeqAt.EqAt.int_int b t2 b' u2 prog w _ _ ?_)
    refine kat_go (fun e2 => kat_yes ?_) (fun e2 => kat_no ?_)
    · have e2' : b = b' := by simpa using e2
      refine kat_cons (SeqAt.EqAt.int_int c t3 c' u3 prog w _ _ ?_)
      refine kat_go (fun e3 => kat_yes (kat_nil ?_)) (fun e3 => kat_no ?_)
      · have e3' : c = c' := by simpa using e3
        have z : ltB (a, b, c) (a', b', c') = false := by rw [ltB_no]; dsimp only; omega
        rw [z] at h
        exact h
      · refine kat_one _ _ (lt_int ?_)
        have z : ltB (a, b, c) (a', b', c') = decide (c < c') := by
          by_cases q : c < c'
          · rw [decide_eq_true q, ltB_iff]; dsimp only; omega
          · rw [decide_eq_false q, ltB_no]; dsimp only; omega
        rw [z] at h
        exact h
    · have e2' : b ≠ b' := by simpa using e2
      refine kat_one _ _ (lt_int ?_)
      have z : ltB (a, b, c) (a', b', c') = decide (b < b') := by
        by_cases q : b < b'
        · rw [decide_eq_true q, ltB_iff]; dsimp only; omega
        · rw [decide_eq_false q, ltB_no]; dsimp only; omega
      rw [z] at h
      exact h
  · have e1' : a ≠ a' := by simpa using e1
    have z : ltB (a, b, c) (a', b', c') = decide (a < a') := by
      by_cases q : a < a'
      · rw [decide_eq_true q, ltB_iff]; dsimp only; omega
      · rw [decide_eq_false q, ltB_no]; dsimp only; omega
    rw [z] at h
    exact (kat_lt_int h : wpAny (model prog w) A (keyLt' oneType' (.int a t1) (.int a' u1)) C (fun _ _ => False) s)
/-- the values are tuples of three ints -/
def Tri (h : Heap) : List Value → List D3 → Prop := Paired fun v d => ∃ x t1 t2 t3, v = .ref x ∧ IsTup h x #[.int d.1 t1, .int d.2.1 t2, .int d.2.2 t3]
theorem Tri.keep {h h' : Heap} {l : Addr} (hk : ∀ b o, b ≠ l → h.get? b = some o → h'.get? b = some o) (hl : ∃ o, h.get? l = some o ∧ o.cls = .type "list") {vs : List Value} {ds : List D3} (t : Tri h vs ds) : Tri h' vs ds := by
  refine Paired.mapP t ?_
  rintro v d ⟨x, t1, t2, t3, rfl, o, g, cc, n, dd⟩
  refine ⟨x, t1, t2, t3, rfl, o, hk x o ?_ g, cc, n, dd⟩
  rintro rfl
  obtain ⟨o', g', c'⟩ := hl
  rw [g] at g'
  cases g'
  exact absurd (cc.symm.trans c') (by simp)
theorem Tri.firsts {h : Heap} : ∀ {vs : List Value} {ds : List D3}, Tri h vs ds → ∃ fs, KatTups h vs fs ∧ fs.length = vs.length ∧ ∀ v ∈ fs, ∃ i t, v = .int i t
  | _, _, .nil => ⟨[], KatTups.nil, rfl, (fun _ z => nomatch z)⟩
  | _, _, .cons ⟨x, t1, t2, t3, e, o, g, cc, n, dd⟩ t => by
    subst e
    obtain ⟨fs, k, l, z⟩ := Tri.firsts t
    refine ⟨_, KatTups.cons (f := .int _ t1) g cc dd rfl k, congrArg Nat.succ l, fun v hv => ?_⟩
    rcases List.mem_cons.mp hv with rfl | hv
    · exact ⟨_, _, rfl⟩
    · exact z v hv
theorem tri_lt {vs : List Value} {ds : List D3} (t : Tri s.heap vs ds) {i j : Nat} (hi : i < vs.length) (hj : j < vs.length) {C : Bool → Shared → Prop} (h : C (ltB (ds.getD i (0, 0, 0)) (ds.getD j (0, 0, 0))) s) : kas_ask prog w A (tuples' true) vs i j C s := by
  obtain ⟨d, gd, x, t1, t2, t3, ex, hx⟩ := Paired.getL t (List.getElem?_eq_getElem hi)
  obtain ⟨e, ge, y, u1, u2, u3, ey, hy⟩ := Paired.getL t (List.getElem?_eq_getElem hj)
  unfold kas_ask
  rw [List.getD_eq_getElem?_getD, List.getElem?_eq_getElem hi, List.getD_eq_getElem?_getD, List.getElem?_eq_getElem hj]
  show wpAny _ _ (keyLt' _ vs[i] vs[j]) _ _ _
  rw [ex, ey]
  refine lt_ints3 hx hy ?_
  rw [List.getD_eq_getElem?_getD, List.getD_eq_getElem?_getD, gd, ge] at h
  exact h
theorem sort_body {a : Addr} {vs : List Value} {ds : List D3} {n : Nat} {P : Fin → Shared → Prop} (ho : s.heap.get? a = some (seqObj "list" vs.toArray n)) (t : Tri s.heap vs ds) (h64 : vs.length < 64)
    (h : ∀ p : Array Nat, Prm vs.length p → Srt (fun i j => ltB (ds.getD i (0, 0, 0)) (ds.getD j (0, 0, 0))) p vs.length → P (.done (.ret .none)) { s with heap := sortedHeap s.heap a vs (p.toList.map fun i => vs.getD i Value.none).toArray }) :
    wpAny (model prog w) A (Builtin.«list.sort» ⟨[.ref a], []⟩) P E s := by
  rw [list_sort_plain]
  have la : a < s.heap.objs.size := Heap.lt_size ho
  have hz : vs.length ≤ sizeLine := by rw [sizeLine_eq]; omega
  refine wpAny_bind (listItems_at ho rfl (wpAny_bind (listUpdate_at ho rfl ?_ (by rw [List.size_toArray]; exact hz) (Nat.zero_le _))))
  obtain ⟨e1, o1⟩ : ∃ e1, (s.heap.update a (Obj.mapSeq fun _ => #[])).get? a = some (seqObj "list" #[] e1) := ⟨_, get?_update_seq ho (fun _ => #[])⟩
  refine wpAny_bind (seqEpoch_at o1 rfl (wpAny_bind (wpAny_newTuple (wpAny_bind (wpAny_newList (wpAny_holding ?_) (Nat.zero_le _))) (by show vs.length ≤ _; exact hz))))
  have o6 : (((s.heap.update a (Obj.mapSeq fun _ => #[])).push (seqObj "tuple" vs.toArray 0)).push (seqObj "list" #[] 0)).get? a = some (seqObj "list" #[] e1) := Heap.get?_push_of_some _ (Heap.get?_push_of_some _ o1)
  have kp : ∀ b o, b ≠ a → s.heap.get? b = some o → (((s.heap.update a (Obj.mapSeq fun _ => #[])).push (seqObj "tuple" vs.toArray 0)).push (seqObj "list" #[] 0)).get? b = some o := fun b o hb e =>
    Heap.get?_push_of_some _ (Heap.get?_push_of_some _ ((Heap.get?_update_other _ _ (Ne.symm hb)).trans e))
  show wpAny (model prog w) A _ P E { s with heap := ((s.heap.update a (Obj.mapSeq fun _ => #[])).push (seqObj "tuple" vs.toArray 0)).push (seqObj "list" #[] 0) }
  have t6 := t.keep kp ⟨_, ho, rfl⟩
  dsimp only
  by_cases h2 : vs.toArray.size < 2
  · have hv : vs.length < 2 := by simpa using h2
    rw [if_pos h2, if_pos h2]
    refine wpAny_bind (wpAny_pure ?_)
    rw [StateT.run_pure]
    refine wpAny_bind (wpAny_pure (wpAny_bind (seqEpoch_at o6 rfl (wpAny_bind (listUpdate_at o6 rfl ?_ (Nat.zero_le _) ?_)))))
    · have f := h (List.range vs.length).toArray (Array.Perm.refl _) fun i j hij hj => by
        have : i = j := by omega
        subst this
        exact (ltB_no.mpr (by omega))
      have eo : (((List.range vs.length).toArray).toList.map fun i => vs.getD i Value.none).toArray = (Array.zip vs.toArray vs.toArray).map (·.2) := by
        match vs, hv with
        | [], _ => simp
        | [_], _ => simp
      rw [eo] at f
      simp only [bne_self_eq_false, Bool.false_eq_true, if_false]
      exact wpAny_pure f
    · rw [Array.size_map, Array.size_zip, Nat.min_self, List.size_toArray]; omega
  · have hv : 2 ≤ vs.length := by
      rw [List.size_toArray] at h2
      omega
    rw [if_neg h2, if_neg h2]
    obtain ⟨fs, kt, kl, ki⟩ := t6.firsts
    refine wpAny_bind (kat_kind (T := .type "int") kt (by omega) (fun v hv => ?_) rfl ?_)
    · obtain ⟨i, u, rfl⟩ := ki v hv
      exact Looks.of_pure rfl
    have ek : tuples' ((Value.type "int") != Value.type "tuple") = tuples' true := by
      have : ((Value.type "int") != Value.type "tuple") = true := by simp
      rw [this]
    rw [ek]
    have O : LtOk (fun i j => ltB (ds.getD i (0, 0, 0)) (ds.getD j (0, 0, 0))) := ⟨fun i j => ltB_asy, fun i j k => ltB_tr⟩
    refine wpAny_bind (wpAny_mono (kat_run (vs := vs) (ks := vs) (κ := tuples' true) (Q := fun st' s' => s' = { s with heap := ((s.heap.update a (Obj.mapSeq fun _ => #[])).push (seqObj "tuple" vs.toArray 0)).push (seqObj "list" #[] 0) } ∧ failedOf st' = none ∧ ∃ p : Array Nat, Prm vs.length p ∧ Srt (fun i j => ltB (ds.getD i (0, 0, 0)) (ds.getD j (0, 0, 0))) p vs.length ∧ arrOf st' = p.map (kas_item (vs.toArray.zip vs.toArray)))
      (G := fun p s' => s' = { s with heap := ((s.heap.update a (Obj.mapSeq fun _ => #[])).push (seqObj "tuple" vs.toArray 0)).push (seqObj "list" #[] 0) } ∧ Prm vs.length p ∧ Srt (fun i j => ltB (ds.getD i (0, 0, 0)) (ds.getD j (0, 0, 0))) p vs.length)
      rfl hv h64 (fun p st' s' _ a2 a3 ⟨z1, z2, z3⟩ => ⟨z1, a3, p, z2, z3, a2⟩) (Gd.wp (fun i j C hi hj hc => tri_lt t6 hi hj hc) (fun p ⟨z2, z3⟩ => ⟨rfl, z2, z3⟩) (sort_ok O (by omega)))) ?_ fun _ _ e => e)
    rintro ⟨⟨⟩, st'⟩ s' ⟨rfl, hf, p, hP, hS, har⟩
    dsimp only
    have hout := kat_snds (vs := vs) (ks := vs) rfl har
    refine wpAny_bind (seqEpoch_at o6 rfl (wpAny_bind (listUpdate_at o6 rfl ?_ (Nat.zero_le _) ?_)))
    · rw [hf]
      simp only [bne_self_eq_false, Bool.false_eq_true, if_false]
      rw [hout]
      exact wpAny_pure (h p hP hS)
    · rw [hout, List.size_toArray, List.length_map, Array.length_toList, hP.size]; omega
end
/-! ### the rule -/
theorem vals_cons {x : V} {xs : List V} {us : List Value} (h : Vals (x :: xs) us) : ∃ u r, us = u :: r ∧ RelV x u ∧ Vals xs r := by
  cases h with
  | cons a b => exact ⟨_, _, rfl, a, b⟩
theorem pick_perm {n : Nat} {p : Array Nat} (P : Prm n p) {α : Type} (xs : List α) (d : α) (hn : xs.length = n) : (p.toList.map fun i => xs.getD i d).Perm xs := by
  have e : (List.range n).map (fun i => xs.getD i d) = xs := by
    apply List.ext_getElem?
    intro i
    rw [List.getElem?_map]
    by_cases hi : i < n
    · rw [List.getElem?_range hi, List.getElem?_eq_getElem (by omega), Option.map_some, List.getD_eq_getElem?_getD, List.getElem?_eq_getElem (by omega)]; rfl
    · rw [List.getElem?_eq_none (by rw [List.length_range]; omega), List.getElem?_eq_none (by omega)]; rfl
  have q : p.toList.Perm (List.range n) := by
    have := Array.Perm.toList P
    simpa using this
  have := q.map fun i => xs.getD i d
  rwa [e] at this
theorem pick_paired {α β : Type} {F : α → β → Prop} {xs : List α} {ys : List β} (pr : Paired F xs ys) (a : α) (b : β) : ∀ (ix : List Nat), (∀ i ∈ ix, i < xs.length) → Paired F (ix.map fun i => xs.getD i a) (ix.map fun i => ys.getD i b)
  | [], _ => .nil
  | i :: ix, h => by
    have hi := h i List.mem_cons_self
    obtain ⟨y, gy, f⟩ := Paired.getL pr (List.getElem?_eq_getElem hi)
    refine .cons ?_ (pick_paired pr a b ix fun j hj => h j (List.mem_cons_of_mem _ hj))
    show F (xs.getD i a) (ys.getD i b)
    rw [List.getD_eq_getElem?_getD, List.getElem?_eq_getElem hi, List.getD_eq_getElem?_getD, gy]
    exact f
theorem Inv.tri {X : Cx} {pins : List (Addr × Obj)} {σ : St} {H : Hp} {s : Shared} (I : Inv X pins σ H s) : ∀ {vs : List V} {its : List Value} {ds : List D3}, Vals vs its → Paired (T3 H) vs ds → Tri s.heap its ds
  | _, _, _, .nil, .nil => .nil
  | _, _, _, .cons r1 r2, .cons p1 p2 => by
    refine .cons ?_ (Inv.tri I r2 p2)
    obtain ⟨x, e, ex⟩ := p1
    subst e
    have e2 := r1
    unfold RelV at e2
    subst e2
    obtain ⟨_, tv, trv, tup⟩ := I.hok x _ ex
    unfold tupV at trv
    obtain ⟨u1, r1, e1, q1, trv⟩ := vals_cons trv
    obtain ⟨u2, r2, e2, q2, trv⟩ := vals_cons trv
    obtain ⟨u3, r3, e3, q3, trv⟩ := vals_cons trv
    cases trv
    obtain ⟨t1, rfl⟩ := q1
    obtain ⟨t2, rfl⟩ := q2
    obtain ⟨t3, rfl⟩ := q3
    subst e3 e2 e1
    exact ⟨x, t1, t2, t3, rfl, tup⟩
end L2

end

section
namespace L2
open PySem PySem.Spec PyProof.Rows

/-! ### what equals a thing that is told as a tree -/
open Classical in
noncomputable def eR (h : Heap) (dx : PyData) (y : Value) : Bool := decide (∃ d as, Reads h y d as ∧ d.canLay0 = true ∧ PyData.eqv d dx = true)
theorem eR_eq {h : Heap} {dx d : PyData} {y : Value} {as : List Addr} (r : Reads h y d as) (hl : d.canLay0 = true) : eR h dx y = PyData.eqv d dx := by
  unfold eR
  cases e : PyData.eqv d dx with
  | true => exact @decide_eq_true _ (Classical.propDecidable _) ⟨d, as, r, hl, e⟩
  | false =>
    refine @decide_eq_false _ (Classical.propDecidable _) ?_
    rintro ⟨d', as', r', hl', e'⟩
    rw [SeqAt.Reads.unique d d' _ _ _ hl r r', e'] at e
    cases e
theorem any_eR {h : Heap} {dx : PyData} : ∀ {vs : List Value} {ds : List PyData} {as : List Addr}, ReadsAll h vs ds as → PyData.canLayAll0 ds = true → vs.any (eR h dx) = ds.any fun d => PyData.eqv d dx
  | _, _, _, .nil, _ => rfl
  | _, _, _, .cons (d := d) (ds := ds) r rs, hl => by
    have hl' : d.canLay0 = true ∧ PyData.canLayAll0 ds = true := by simpa [PyData.canLayAll0] using hl
    show (eR h dx _ || _) = (PyData.eqv d dx || _)
    rw [eR_eq r hl'.1, any_eR rs hl'.2]
theorem reads_mem {h : Heap} : ∀ {vs : List Value} {ds : List PyData} {as : List Addr}, ReadsAll h vs ds as → PyData.canLayAll0 ds = true → ∀ v ∈ vs, ∃ d as', Reads h v d as' ∧ d.canLay0 = true
  | _, _, _, .nil, _, v, hv => by cases hv
  | _, _, _, .cons (d := d) (ds := ds) r rs, hl, v, hv => by
    have hl' : d.canLay0 = true ∧ PyData.canLayAll0 ds = true := by simpa [PyData.canLayAll0] using hl
    rcases List.mem_cons.mp hv with rfl | hv
    · exact ⟨d, _, r, hl'.1⟩
    · exact reads_mem rs hl'.2 v hv
section
variable {A : Around} {s : Shared}
theorem eqAt_eR {dx d : PyData} {x y : Value} {as bs : List Addr} (ry : Reads s.heap y d as) (hd : d.canLay0 = true) (rx : Reads s.heap x dx bs) (hx : dx.canLay0 = true) (hu : A.units + dx.depth < cLine) : SeqAt.EqAt A s y x (eR s.heap dx y) := by
  rw [eR_eq ry hd]
  exact SeqAt.eqAt_reads d dx A s y x _ _ ry rx hd hx (by omega)
end
theorem in1_units {A : Around} : A.in1.units ≤ A.units + 1 := by
  show A.units + 1 ≤ A.units + 1
  exact Nat.le_refl _
def rInD (neg : Bool) : R2 := fun x y H Q => ∃ d ds, Dat H x d ∧ Dat H y (.list ds) ∧ d.depth ≤ 60 ∧ Q (.bl (if neg then !ds.any (fun e => PyData.eqv e d) else ds.any fun e => PyData.eqv e d)) H
theorem op_notInD {X : Cx} (hu : X.A.units + 64 < cLine) : OpR X (compareOp .NotIn) (rInD true) := by
  intro pins s σ H x y v u Q I rx ry h
  obtain ⟨d, ds, hd, he, dp, q⟩ := h
  obtain ⟨as, r1⟩ := I.dat d hd rx
  cases he with
  | lst e h =>
    have ry' : u = _ := ry
    subst ry'
    obtain ⟨_, its, n, rv, g⟩ := I.hok _ _ e
    obtain ⟨bs, r2⟩ := I.datAll ds h rv
    have hl := DatAll.lay ds h
    refine SeqAt.notIn_listAt (eR s.heap d) ⟨_, g, rfl, _, rfl⟩ (fun w hw => ?_) ⟨.bl _, H, I, rfl, ?_⟩
    · obtain ⟨dw, _, rw', hw'⟩ := reads_mem r2 hl w (by simpa using hw)
      have := in1_units (A := X.A)
      exact eqAt_eR rw' hw' r1 (Dat.lay d hd) (by omega)
    · rw [show its.toArray.any (eR s.heap d) = its.any (eR s.heap d) by simp, any_eR r2 hl]
      exact q
theorem any_deeds (ds : List D3) (d : D3) : (ds.map dD).any (fun e => PyData.eqv e (dD d)) = decide (d ∈ ds) := by
  rw [List.any_map]
  by_cases h : d ∈ ds
  · rw [decide_eq_true h]
    exact List.any_eq_true.mpr ⟨d, h, (enc_dD.inj d d).mpr rfl⟩
  · rw [decide_eq_false h]
    refine List.any_eq_false.mpr fun e he => ?_
    intro z
    have : e = d := (enc_dD.inj e d).mp z
    exact h (this ▸ he)

/-! ### xs.remove(d) -/
section
variable {X : Cx}
end
end L2

end

section
namespace L2
open PySem PySem.Spec PyProof.Rows

/-! ### rows: lists of lists of deeds -/
def Rows (H : Hp) (bs : List Addr) (rs : List (List D3)) : Prop := Paired (LD H) bs rs
theorem Rows.dat {H : Hp} : ∀ {bs : List Addr} {rs : List (List D3)}, Rows H bs rs → DatAll H (bs.map V.ref) (rs.map dL)
  | _, _, .nil => .nil
  | _, _, .cons r t => .cons r.dat (Rows.dat t)
def dR (rs : List (List D3)) : PyData := .list (rs.map dL)
theorem enc_dR : Enc dR 3 := enc_list enc_dL
theorem Rows.dat' {H : Hp} {a : Addr} {bs : List Addr} {rs : List (List D3)} (e : H a = some (.lst (bs.map V.ref))) (h : Rows H bs rs) : Dat H (.ref a) (dR rs) := .lst e h.dat
/-! ### what the program's defs promise -/
def ixs (l : List Nat) : List V := l.map fun (p : Nat) => V.int (p : Int)
/-! ### the least -/
/-! ### sorted(ints) -/
end L2

end

section
namespace L2
open PySem PySem.Spec PyProof.Rows
def rNotInD : R2 := fun x y H Q => ∃ d ds, Dat H x d ∧ Dat H y (.list ds) ∧ d.depth ≤ 60 ∧ Q (.bl (!ds.any fun e => PyData.eqv e d)) H
theorem op_nin {X : Cx} (hu : X.A.units + 64 < cLine) : OpR X (compareOp .NotIn) rNotInD := fun pins s σ H x y v u Q I rx ry h => by
  obtain ⟨d, ds, h1, h2, h3, q⟩ := h
  exact op_notInD hu pins s σ H x y v u Q I rx ry ⟨d, ds, h1, h2, h3, q⟩
/-! ### what the law's own defs promise -/
end L2

end

section
open PySem PySem.Spec PyProof.Rows
namespace L2

/-! ### an exception on its way: behind a call -/

section
variable {P : Program} {w : World} {outer : List Env} {H H' : Hp} {s s' : Shared} {a : Addr} {cls a0 : Value} {B : Heap}
end


section
variable {X : Cx} {pins : List (Addr × Obj)} {σ : St} {H : Hp} {s : Shared}


end
end L2

end

section
open PySem PySem.Spec PyProof.Rows
namespace L2

/-! ### raise of an own class -/

section
variable {P : Program} {w : World} {K : PySem.W.Frag} {mg : Str → Option Value} {base : Heap} {N : List Str} {qual : Str} {scope : Scope} {f : Addr} {cd : Value} {A : Around} {outer : List Env} {s₀ : Shared} {H₀ : Hp} {E : XK}
end

section
variable {X : Cx} {x : Str} {C : Addr} {B newId initId : String} {bm : List Value} {e : Expr} {es : List Expr} {t : TA} {E : XK} {np cpos pos : Pos}
end
end L2

end

section
open PySem PySem.Spec PyProof.Rows
namespace L2

/-! ### code that an exception may leave, caught in the same frame -/


section
variable {X : Cx} {k : Nat} {f C : Addr} {fd : FuncData} {ps : List Str} {sp : Sp} {dvs : List V} {ds : List Value} {x : Str} {p pos : Pos} {e : Expr} {es : List Expr} {t : TA} {tx : TEX} {st : Stmt} {sts : List Stmt} {ts us : TSX} {ta : TS}

end

/-! ### the handler -/
section
variable {X : Cx} {pins : List (Addr × Obj)} {σ : St} {H : Hp} {s : Shared}
end
end L2

end

section
open PySem PySem.Spec PyProof.Rows
namespace L2

/-! ### try .. except C as n / except C -/
section
variable {X : Cx} {body : List Stmt} {b₀ : Stmt} {suite : List Stmt} {tb : TSX} {th : TS} {c n : Str} {C : Addr} {i : Nat} {np hpos pos : Pos}
end
end L2

end

section
namespace L2X
open PySem PySem.Spec PySem.W PyProof.Rows

section
variable {prog : Program} {w : World} {A : Around} {E : Value → Shared → Prop} {h : Heap} {g : Array GenState} {d : Drawn} {t : Nat} {os : OsState} {a D : Addr} {o : Obj} {K : Frag}
end
end L2X
namespace L2
open PySem PySem.Spec PyProof.Rows
end L2

end

section
open PySem PySem.Spec PyProof.Rows
namespace L2

/-! ### a def whose calls an exception may leave -/
section
variable {P : Program} {w : World} {K : PySem.W.Frag} {mg : Str → Option Value} {base : Heap}
end

/-! ### a def that is called within an except suite -/
section
variable {P : Program} {w : World} {K : PySem.W.Frag} {mg : Str → Option Value} {base : Heap}
end
section
variable {X : Cx} {k : Nat} {f : Addr} {fd : FuncData} {ps : List Str} {sp : Sp} {dvs : List V} {ds : List Value} {E : XK} {x : Str} {p pos : Pos} {e : Expr} {es : List Expr} {t : TA}
end
end L2

end

section
open PySem PySem.Spec PyProof.Rows
namespace L2

/-! ### a def that may raise, with one default at its end -/
section
variable {X : Cx} {k : Nat} {ps : List Str} {sp : Sp} {d : V} {x : Str} {p pos kpos : Pos} {e ek : Expr} {es : List Expr} {t tk : TA} {tek : TE}
end

theorem iteB {b : Bool} {A B : Prop} (h1 : b = true → B) (h2 : b = false → A) : if (!b) = true then A else B := by
  cases b with
  | true => exact iteF (h1 rfl)
  | false => exact iteT (h2 rfl)
/-! ### what an argument may be -/
section
variable {K : PySem.W.Frag}
end
/-! ### isinstance of a caught exception, as a rule -/
end L2

end

section
namespace L2X
open PySem PySem.W
end L2X
namespace L2
open PySem PySem.Spec PySem.W PyProof.Rows
end L2

end

section
open PySem PySem.Spec PyProof.Rows
namespace L2
/-! ### o.m(..) that an exception may leave -/
section
variable {X : Cx} {k : Nat} {f C : Addr} {fd : FuncData} {ps : List Str} {sp : Sp} {dvs : List V} {ds : List Value} {m : Str} {pos apos : Pos} {e o : Expr} {es : List Expr} {ta : TE} {t : TA}
end
end L2

end

section
open PySem PySem.Spec PyProof.Rows
namespace L2
/-! ### a def that may raise, without defaults -/
section
variable {X : Cx} {k : Nat} {ps : List Str} {sp : Sp} {x : Str} {p pos : Pos} {e : Expr} {es : List Expr} {t : TA}
end
/-! ### slices from a place on -/
theorem cut_from {xs : List V} {m : Int} (h : 0 ≤ m) (h2 : m ≤ xs.length) : cutV xs (some m) none = xs.drop m.toNat := by
  obtain ⟨k, rfl⟩ := Int.eq_ofNat_of_zero_le h
  unfold cutV
  rw [HT.sIx_nat, HT.sIx_none, Int.toNat_natCast, Nat.min_eq_left (by omega)]
  rw [List.take_of_length_le (by rw [List.length_drop]; exact Nat.le_refl _)]
/-- two neighbours have passed one another -/
def swp {α : Type} (xs : List α) (p : Nat) (y x : α) : List α := xs.take p ++ [y, x] ++ xs.drop (p + 2)
theorem swp_length {α : Type} {xs : List α} {p : Nat} {y x : α} (h : p + 1 < xs.length) : (swp xs p y x).length = xs.length := by
  unfold swp
  rw [List.length_append, List.length_append, List.length_take, List.length_drop]
  show min p xs.length + 2 + _ = _
  omega
theorem swp_mem {α : Type} {xs : List α} {p : Nat} {y x : α} (hy : y ∈ xs) (hx : x ∈ xs) : ∀ d ∈ swp xs p y x, d ∈ xs := by
  unfold swp
  intro d hd
  rcases List.mem_append.mp hd with hd | hd
  · rcases List.mem_append.mp hd with hd | hd
    · exact List.mem_of_mem_take hd
    · rcases List.mem_cons.mp hd with rfl | hd
      · exact hy
      · rw [List.mem_singleton.mp hd]; exact hx
  · exact List.mem_of_mem_drop hd
end L2

end

section
open PySem PySem.Spec PyProof.Rows
namespace L2
section
variable {X : Cx}
/-! ### sum(a list of ints) -/
/-! ### n.bit_length() -/
theorem small1001 : 1001 < sizeLine := by decide
/-! ### xs.insert(i, v) -/
def rInsert : V → List V → Hp → VK → Prop := fun x vs H Q => ∃ (l : Addr) (ws : List V) (i : Int) (y : V), x = .ref l ∧ vs = [.int i, y] ∧ 0 ≤ i ∧ i ≤ ws.length ∧ H l = some (.lst ws) ∧ ws.length ≤ 1000 ∧ Q .non (upd H l (.lst (ws.take i.toNat ++ y :: ws.drop i.toNat)))
theorem ins_meets (l : Addr) (items : Array Value) (n : Nat) (x : Int) (u : Tok) (y : Value) (h0 : 0 ≤ x) (h1 : x ≤ 1000) (hsz : items.size ≤ sizeLine) :
    Meets (Builtin.«list.insert» ⟨[.ref l, .int x u, y], []⟩) (fun _ R s => s.heap.get? l = some { cls := .type "list", dict := none, data := .seq items n, slots := #[] } ∧ R (.ok (.ret Value.none)) { s with heap := s.heap.update l (Obj.mapSeq fun xs => have k := if x < 0 then (x + ((xs.size : Nat) : Int)).toNat else min x.toNat xs.size; (xs.extract 0 k).push y ++ xs.extract k), toks := s.toks }) := by
  refine AutoListH.list_insert_list_int_val_1 l items n x u y ?_ hsz
  unfold Builtin.List.listFitsIndex
  simp
  omega
theorem mt_insertI : MtM X "list.insert" rInsert := by
  intro pins s σ H x vs v us Q I rx rv h
  obtain ⟨l, ws, i, y, rfl, rfl, hi0, hi, hl, hz, q⟩ := h
  have rx' : v = Value.ref l := rx
  subst rx'
  obtain ⟨u, u', rfl, ru, ru'⟩ := vals2 rv
  obtain ⟨t, rfl⟩ := ru
  obtain ⟨z, its, n, r, hlen, e⟩ := I.lstM hl
  have hsz : its.toArray.size ≤ sizeLine := by rw [List.size_toArray, ← hlen]; exact z
  refine call_meets F.slot_list_insert ⟨_, e, rfl⟩ F.entry_list_insert (F.args_list_insert_3 _ _ _) (ins_meets l its.toArray n i t u' hi0 (by omega) hsz) ⟨e, ?_⟩
  refine ⟨.non, _, I.lset (its' := its.take i.toNat ++ u' :: its.drop i.toNat) (ys := ws.take i.toNat ++ y :: ws.drop i.toNat) (t' := s.toks) hl e ?_ ?_ ?_, rfl, q⟩
  · have e1 : ¬ (i < 0) := by omega
    have e2 : min i.toNat its.toArray.size = i.toNat := by rw [List.size_toArray]; omega
    simp only [e1, if_false]
    rw [e2]
    apply Array.toList_inj.mp
    simp
    rw [List.take_of_length_le (by rw [List.length_drop]; exact Nat.le_refl _)]
  · exact Paired.app (Paired.tk _ r) (.cons ru' (Paired.dp _ r))
  · rw [List.length_append, List.length_take, List.length_cons, List.length_drop]
    have : 1001 < sizeLine := small1001
    omega
/-! ### isinstance(e, (A, B, ..)) of a caught exception -/
end
section
variable {X : Cx}
/-- // by a positive divisor of not too many figures -/
def CDivB (i j : Int) : Prop := 0 < j ∧ j.natAbs.log2 < 9000
theorem op_fdivB : OpR X (binaryOp .FloorDiv) (rI CDivB fun i j => .int (i / j)) := opI fun i j _ _ _ _ _ hc q => by
  have h1 : (0 : Int) < j := hc.1
  exact floordiv_int (by omega) (by rw [Int.fdiv_eq_ediv_of_nonneg i (by omega)]; exact q) (.inl (PyProof.noPylong_of_log2 hc.2))
end
end L2

end

section
open PySem PySem.Spec PyProof.Rows
namespace L2
/-! ### done -/
section
variable {α : Type} (nm : α → Int) (lk ch : α → Nat → Bool) (n : Nat)
variable {nm lk ch n}
end
/-! ### boxes -/
theorem pow_le_pow {m k : Nat} (hk : m ≤ k) : (2 : Int) ^ m ≤ 2 ^ k := by
  have := Nat.pow_le_pow_right (by decide : 0 < 2) hk
  have e1 : (((2 ^ m : Nat) : Int)) = (2 : Int) ^ m := by simp
  have e2 : (((2 ^ k : Nat) : Int)) = (2 : Int) ^ k := by simp
  omega

/-! ### a diary is done -/
theorem and60 {x y : Int} (hx : R60 x) (hy : R60 y) : R60 (Builtin.bitAnd x y) := by
  unfold R60 at *
  have := and_bd hx.1 hx.2 hy.1
  exact ⟨this.1, this.2.1⟩
theorem getD_all {P : Int → Prop} {l : List Int} (h : ∀ x ∈ l, P x) (h0 : P 0) (k : Nat) : P (l.getD k 0) := by
  rw [List.getD_eq_getElem?_getD]
  by_cases hk : k < l.length
  · rw [List.getElem?_eq_getElem hk]
    exact h _ (List.getElem_mem hk)
  · rw [List.getElem?_eq_none (by omega)]
    exact h0
theorem mul60 {e l : Int} (h : 0 ≤ e ∧ e ≤ 20) (h0 : 0 ≤ l) (h1 : l ≤ 2 ^ 55) : R60 (e * l) := by
  unfold R60
  have a := Int.mul_nonneg h.1 h0
  have b := Int.mul_le_mul h.2 h1 h0 (by decide)
  exact ⟨a, by omega⟩
end L2

end

section
namespace L2X
open PySem PySem.Spec PyProof.Rows
theorem lri_no_len : typeLookup (.type "list_reverseiterator") "__len__" = pure none := by rw [typeLookup_type, builtinLookup_eq_fast]; kernel_rfl
theorem lri_hint : typeLookup (.type "list_reverseiterator") "__length_hint__" = pure (some (.builtin "list_reverseiterator.__length_hint__")) := by rw [typeLookup_type, builtinLookup_eq_fast]; kernel_rfl
section
variable {prog : Program} {w : World} {A : Around} {E : Value → Shared → Prop} {s : Shared}
theorem hint_rev {it l : Addr} {i : Int} {Q : Bool → Shared → Prop} (hit : s.heap.IsRevIter it l i) (h : Q false s) : wpAny (model prog w) A (Builtin.List.listLengthHint (.ref it)) Q E s := by
  unfold Builtin.List.listLengthHint
  refine wpAny_bind (wpAny_specialOf hit.typeIs lri_no_len ?_)
  refine wpAny_ite_split (fun hab => absurd hab (by decide +kernel)) (fun _ => ?_)
  refine wpAny_ite_split (fun hab => absurd hab (by decide)) (fun _ => ?_)
  refine wpAny_bind (wpAny_specialOf hit.typeIs lri_hint ?_)
  generalize hid : ("list_reverseiterator.__length_hint__" : String) = id0
  wp_delta
  rw [show splitId id0 = some ("list_reverseiterator", "__length_hint__") from by subst hid; decide +kernel]
  subst hid
  refine wpAny_bind (wpAny_isInstance (T := "list_reverseiterator") (b := true) hit.typeIs (by rw [isSubtype_type]; kernel_rfl) ?_)
  refine wpAny_ite_split (fun hab => absurd hab (by decide)) (fun _ => ?_)
  refine wpAny_ite_split (fun _ => ?_) (fun hab => absurd (by decide +kernel) hab)
  refine wpAny_ite_split (fun hab => absurd hab (by decide +kernel)) (fun _ => ?_)
  exact wpAny_pure h
variable {R : Result → Shared → Prop}
theorem extend_rev {I l : Addr} {items : Array Value} (hh : A.handled = none) (hit : s.heap.IsRevIter I l ((items.size : Int) - 1)) (hl : s.heap.IsList l items) (hz : items.size ≤ sizeLine) (S : Addr) (res : Value) (c₀ : Nat) (hSI : S ≠ I) (hSl : S ≠ l) (hIl : l ≠ I) (hS : s.heap.get? S = some { cls := .type "list", data := .seq #[] c₀ })
    (hR : ∀ h' tk acc' c', (∀ b o, b ≠ S → b ≠ I → s.heap.get? b = some o → h'.get? b = some o) → h'.get? S = some { cls := .type "list", dict := none, data := .seq acc' c', slots := #[] } →
      ItemsOf (fun i v => items[items.size - 1 - i]? = some v) acc' items.size → R (.ok (.ret res)) { s with heap := h', toks := tk }) :
    wpAny (model prog w) A.in1 (Builtin.List.listExtendWith (.ref S) (.ref I) res)
      (fun fin s' => match fin with | .done f => R (.ok f) s' | .again c' => c'.quiet = true ∧ codeAny (model prog w) A c' R s') (fun e s' => R (.error e) s') s := by
  have W := (Walks.listRev (prog := prog) (w := w) (A := A.in1) hh I l hIl items).toS
  have hSf : S ∉ [I, l] := fun hm => by
    rcases List.mem_cons.mp hm with e | hm
    · exact hSI e
    · exact hSl (List.mem_singleton.mp hm)
  have key : ∀ (h : Heap) (c₁ tk : Nat), h.IsRevIter I l ((items.size : Int) - 1 - ((0 : Nat) : Int)) → h.IsList l items → (∀ b o, b ≠ S → s.heap.get? b = some o → h.get? b = some o) →
      h.get? S = some { cls := .type "list", data := .seq #[] c₁ } → codeAny (model prog w) A (.builtin "list.extend.loop" ⟨[.ref S, .ref I, res], []⟩) R { s with heap := h, toks := tk } := by
    intro h c₁ tk hi hl1 hk hS₁
    refine codeAny_extend_loopS W hz S hSf res items.size 0 _ #[] c₁ rfl (Nat.zero_le _) ⟨Nat.zero_le _, hi, hl1⟩ hS₁ (ItemsOf.nil _) fun s' acc' c' hm hS' hacc => ?_
    rw [Moved.eq_with hm]
    refine hR s'.heap s'.toks acc' c' (fun b o hb hbI e => hm.heap b o (fun hmem => ?_) (hk b o hb e)) hS' hacc
    rcases List.mem_cons.mp hmem with e' | hmem
    · exact hb e'
    · exact hbI (List.mem_singleton.mp hmem)
  unfold Builtin.List.listExtendWith
  refine wpAny_bind (wpAny_typeOf hit.typeIs ?_)
  have h1 : Builtin.List.listSameRef (.ref S) (.ref I) = false := by simp [Builtin.List.listSameRef, hSI]
  have h2 : (Value.type "list_reverseiterator" == Value.type "list") = false := by decide
  have h3 : (Value.type "list_reverseiterator" == Value.type "tuple") = false := by decide
  simp only [h1, h2, h3, Bool.or_false, Bool.false_eq_true, if_false]
  refine wpAny_bind (wpAny_pyIter_revIter hit ?_)
  refine wpAny_bind (wpAny_holding (hint_rev hit ?_))
  have hi0 : s.heap.IsRevIter I l ((items.size : Int) - 1 - ((0 : Nat) : Int)) := by simpa using hit
  refine wpAny_ite_split (fun _ => ?_) (fun _ => wpAny_pure ⟨plainId_quiet F.plain_extend_loop _, key _ c₀ _ hi0 hl (fun b o _ e => e) hS⟩)
  refine wpAny_bind (wpAny_rule ?_)
  refine wpAny_bind ?_
  show wpAny _ _ (updateSeq S (·.push .none) >>= fun _ => updateSeq S (·.pop)) _ _ _
  refine wpAny_bind (wpAny_updateSeq hS rfl ?_)
  have hS₂ := Heap.get?_update_self (Obj.mapSeq (·.push Value.none)) hS rfl
  refine wpAny_updateSeq (hz := by seq_fits) hS₂ rfl ?_
  have hS₃ := Heap.get?_update_self (Obj.mapSeq (·.pop)) hS₂ rfl
  have oth : ∀ b o, b ≠ S → s.heap.get? b = some o → ((s.heap.update S (Obj.mapSeq (·.push Value.none))).update S (Obj.mapSeq (·.pop))).get? b = some o :=
    fun b o hb e => (Heap.get?_update_other _ _ (Ne.symm hb)).trans ((Heap.get?_update_other _ _ (Ne.symm hb)).trans e)
  exact wpAny_pure ⟨plainId_quiet F.plain_extend_loop _, key _ _ _ (hi0.at fun o e => oth _ _ (Ne.symm hSI) e) (hl.at fun o e => oth _ _ (Ne.symm hSl) e) oth hS₃⟩
theorem list_init_rev {I l : Addr} {items : Array Value} (hh : A.handled = none) (hit : s.heap.IsRevIter I l ((items.size : Int) - 1)) (hl : s.heap.IsList l items) (hz : items.size ≤ sizeLine) (S : Addr) (hSI : S ≠ I) (hSl : S ≠ l) (hIl : l ≠ I) (hS : s.heap.get? S = some { cls := .type "list", data := .seq #[] })
    (hR : ∀ h' tk acc' c', (∀ b o, b ≠ S → b ≠ I → s.heap.get? b = some o → h'.get? b = some o) → h'.get? S = some { cls := .type "list", dict := none, data := .seq acc' c', slots := #[] } →
      ItemsOf (fun i v => items[items.size - 1 - i]? = some v) acc' items.size → R (.ok (.ret .none)) { s with heap := h', toks := tk }) :
    wpAny (model prog w) A.in1 (Builtin.«list.__init__» ⟨[.ref S, .ref I], []⟩)
      (fun fin s' => match fin with | .done f => R (.ok f) s' | .again c' => c'.quiet = true ∧ codeAny (model prog w) A c' R s') (fun e s' => R (.error e) s') s := by
  show wpAny _ A.in1 (do let old ← Builtin.List.listItems (.ref S); Builtin.List.listUpdate (.ref S) (fun _ => #[]); letGo old.toList.reverse; Builtin.List.listExtendWith (.ref S) (.ref I) .none) _ _ s
  refine wpAny_bind ?_
  unfold Builtin.List.listItems
  refine wpAny_bind (wpAny_seqItems hS rfl (wpAny_pure ?_))
  show wpAny _ A.in1 (updateSeq S (fun _ => #[]) >>= fun _ => letGo (#[] : Array Value).toList.reverse >>= fun _ => Builtin.List.listExtendWith (.ref S) (.ref I) .none) _ _ s
  refine wpAny_bind (wpAny_updateSeq hS rfl ?_)
  have hS₂ := Heap.get?_update_self (Obj.mapSeq (fun _ => (#[] : Array Value))) hS rfl
  have oth : ∀ b o, b ≠ S → s.heap.get? b = some o → (s.heap.update S (Obj.mapSeq (fun _ => (#[] : Array Value)))).get? b = some o :=
    fun b o hb e => (Heap.get?_update_other _ _ (Ne.symm hb)).trans e
  refine wpAny_bind (wpAny_letGo ?_)
  exact extend_rev hh (hit.at fun o e => oth _ _ (Ne.symm hSI) e) (hl.at fun o e => oth _ _ (Ne.symm hSl) e) hz S .none _ hSI hSl hIl hS₂ fun h' tk acc' c' kp e i => hR h' tk acc' c' (fun b o hb hbI q => kp b o hb hbI (oth b o hb q)) e i
theorem call_list_rev {Q : Value → Shared → Prop} {I l : Addr} {items : Array Value} (hh : A.handled = none) (hit : s.heap.IsRevIter I l ((items.size : Int) - 1)) (hl : s.heap.IsList l items) (hz : items.size ≤ sizeLine) (hIl : l ≠ I)
    (hQ : ∀ h' tk acc' c', (∀ b o, b ≠ I → s.heap.get? b = some o → h'.get? b = some o) → h'.get? s.heap.objs.size = some { cls := .type "list", dict := none, data := .seq acc' c', slots := #[] } →
      ItemsOf (fun i v => items[items.size - 1 - i]? = some v) acc' items.size → Q (.ref s.heap.objs.size) { s with heap := h', toks := tk }) :
    wpAny (model prog w) A (call (.type "list") [.ref I]) Q E s := by
  refine callType_codes (Q₁ := fun obj s₁ => obj = .ref s.heap.objs.size ∧ s₁ = { s with heap := s.heap.push { cls := .type "list", data := .seq #[] } }) F.called_list (F.typeCall_list_1 _) F.entry_list_init
    (code_list_new _ ⟨rfl, rfl⟩) fun obj s₁ h₁ => ?_
  obtain ⟨rfl, rfl⟩ := h₁
  have hS : (s.heap.push { cls := .type "list", data := .seq #[] }).get? s.heap.objs.size = some { cls := .type "list", data := .seq #[] } := Heap.get?_push_size _ rfl
  have lI : I < s.heap.objs.size := by obtain ⟨o, e, _⟩ := id hit; exact Heap.lt_size e
  have ll : l < s.heap.objs.size := by obtain ⟨o, e, _⟩ := id hl; exact Heap.lt_size e
  refine ⟨⟨_, hS, rfl⟩, F.args_list_init_2 _ _, list_init_rev (A := A.in1) hh (hit.at fun o e => Heap.get?_push_of_some _ e) (hl.push _) hz _ (Nat.ne_of_gt lI) (Nat.ne_of_gt ll) hIl hS fun h' tk acc' c' kp e i => ?_⟩
  exact ⟨rfl, hQ h' tk acc' c' (fun b o hb q => kp b o (Nat.ne_of_lt (Heap.lt_size q)) hb (Heap.get?_push_of_some _ q)) e i⟩
end
end L2X
namespace L2
open PySem PySem.Spec PyProof.Rows
/-! ### list(reversed(e)), e a list -/
def tRev (K : PySem.W.Frag) (te : TE) : TE := fun σ H Q => te σ H fun x H1 => ∃ a xs, x = .ref a ∧ SqL K H1 a xs ∧ ∀ l, H1 l = none → Q (.ref l) (upd H1 l (.lst xs.reverse))
theorem vals_rev {xs : List V} {us : List Value} (h : Vals xs us) : Vals xs.reverse us.reverse := by
  induction h with
  | nil => exact .nil
  | cons a _ ih =>
    rw [List.reverse_cons, List.reverse_cons]
    exact ih.append (.cons a .nil)
theorem bt_reversed : bootBuiltins "reversed" = some (.type "reversed") := boot_reversed
theorem pe_listrev {X : Cx} (K : PySem.W.Frag) {e : Expr} {te : TE} {p p2 pos pos2 : Pos} (hc : X.calm = true) (he : PE X e te) (hg1 : Gl X "list") (hm1 : X.mg "list" = none) (hg2 : Gl X "reversed") (hm2 : X.mg "reversed" = none)
    (hs : starEach [e] X.env = (false, eval e X.env) :: starEach [] X.env := by rfl) (hp : (backTo pos2 (starEach [] X.env)).any (·.1) = false := by rfl)
    (hs' : starEach [.Call (.Name "reversed" p2) [e] [] pos2] X.env = (false, eval (.Call (.Name "reversed" p2) [e] [] pos2) X.env) :: starEach [] X.env := by rfl) (hp' : (backTo pos (starEach [] X.env)).any (·.1) = false := by rfl) (hK : X.K = K := by rfl) :
    PE X (.Call (.Name "list" p) [.Call (.Name "reversed" p2) [e] [] pos2] [] pos) (tRev K te) := by
  subst hK
  intro pins s σ H Q I h
  refine wpAny_Call_Name_kw (ld_blt I hg1 hm1 bt_list ?_ (by decide) (by decide))
  refine PyProof.Rows.callWith_type1 ?_ hs' hp'
  rw [hs']
  show wpAny _ _ (spliced ((false, eval (.Call (.Name "reversed" p2) [e] [] pos2) X.env) :: backTo pos (starEach [] X.env))) _ _ s
  refine Calls.spliced_cons ?_
  refine wpAny_Call_Name_kw (ld_blt I hg2 hm2 bt_reversed ?_ (by decide) (by decide))
  refine PyProof.Rows.callWith_type1 ?_ hs hp
  rw [hs]
  show wpAny _ _ (spliced ((false, eval e X.env) :: backTo pos2 (starEach [] X.env))) _ _ s
  refine Calls.spliced_cons (thn (he pins s σ H _ I h) fun u s1 ⟨x, H1, I1, r1, a, xs, ex, hS, q⟩ => ?_)
  subst ex
  obtain rfl : u = Value.ref a := r1
  refine Calls.spliced_nil ?_
  obtain ⟨its, rv, pl, hz⟩ := I1.list hS
  have li := pl.isList
  have la : a < s1.heap.objs.size := by obtain ⟨o, e, _⟩ := id li; exact Heap.lt_size e
  refine call_reversed_list li ?_
  refine Calls.spliced_nil ?_
  have I2 : Inv X pins σ H1 { s1 with heap := s1.heap.push (revObj a ((its.toArray.size : Int) - 1)) } := I1.kept (t' := s1.toks) fun b o e => Heap.get?_push_of_some _ e
  have hl2 := li.push (revObj a ((its.toArray.size : Int) - 1))
  have len := rv.length
  refine L2X.call_list_rev (s := { s1 with heap := s1.heap.push (revObj a ((its.toArray.size : Int) - 1)) }) (items := its.toArray) (I.ok.hd hc) ⟨_, Heap.get?_push_size _ rfl, rfl, rfl⟩ hl2 (by rw [List.size_toArray]; omega) (Nat.ne_of_lt la) fun h' tk acc' c' kp e i => ?_
  have hsz : ((s1.heap.push (revObj a ((its.toArray.size : Int) - 1))).objs.size) = s1.heap.objs.size + 1 := Heap.size_push _ _
  have ea : acc' = its.reverse.toArray := by
    apply Array.toList_inj.mp
    apply List.ext_getElem?
    intro j
    have i1 : acc'.toList.length = its.length := by have := i.1; simpa using this
    by_cases hj : j < its.length
    · have hj' : j < acc'.size := by have := i.1; have e2 : its.toArray.size = its.length := List.size_toArray; omega
      have g := i.2 j acc'[j] (by simp [hj'])
      rw [List.size_toArray] at g
      have g' : its[its.length - 1 - j]? = some acc'[j] := by simpa using g
      rw [List.getElem?_reverse hj, g']
      simp [hj']
    · rw [List.getElem?_eq_none (by omega), List.getElem?_eq_none (by simp; omega)]
  have kp0 : ∀ b o, s1.heap.get? b = some o → h'.get? b = some o := fun b o q => kp b o (Nat.ne_of_lt (Heap.lt_size q)) (Heap.get?_push_of_some _ q)
  refine ⟨.ref _, _, I1.laid (t' := tk) kp0 (by rw [hsz]; exact Nat.le_succ _) (show ObjOk X.prog X.w _ h' _ (.lst xs.reverse) from ⟨by rw [List.length_reverse]; exact hz, its.reverse, c', vals_rev rv, by rw [← ea]; exact e⟩), rfl, q _ (I1.hok.fresh (by rw [hsz]; exact Nat.le_succ _))⟩
end L2

end

section
namespace L2
open PySem PySem.Spec PyProof.Rows PySem.W
/-! ### sorted of pairs of a deed and a number -/
section
variable {prog : Program} {w : World} {A : Around} {E : Value → Shared → Prop} {s : Shared}
end
/-! ### the rule -/
end L2

end

section
namespace L2
open PySem PySem.Spec PyProof.Rows
/-! ### alike diaries do the same -/
end L2

end

section
open PySem PySem.Spec PyProof.Rows
namespace L2
section
variable {X : Cx}
/-! ### any(a list of truths) -/
theorem any_range (bs : List Bool) : (List.range bs.length).any (fun i => bs.getD i false) = bs.any id := by
  have e : bs = (List.range bs.length).map fun i => bs.getD i false := by
    apply List.ext_getElem?
    intro i
    rw [List.getElem?_map]
    by_cases hi : i < bs.length
    · rw [List.getElem?_range hi, List.getElem?_eq_getElem hi, Option.map_some, List.getD_eq_getElem?_getD, List.getElem?_eq_getElem hi]; rfl
    · rw [List.getElem?_eq_none (by omega), List.getElem?_eq_none (by rw [List.length_range]; omega)]; rfl
  conv => rhs; rw [e, List.any_map]
  rfl
def rAny (K : PySem.W.Frag) : List V → Hp → VK → Prop := fun xs H Q => ∃ (l : Addr) (bs : List Bool), xs = [.ref l] ∧ SqL K H l (bs.map V.bl) ∧ Q (.bl (bs.any id)) H
theorem anyQ (K : PySem.W.Frag) (hc : X.calm = true) (hK : X.K = K := by rfl) : CallR X (.builtin "any") (rAny K) := by
  subst hK
  intro pins s σ H xs us Q I r h
  obtain ⟨l, bs, rfl, hS, q⟩ := h
  obtain ⟨u, rfl, ru⟩ := vals1 r
  cases ru
  obtain ⟨its, rv, p, hz⟩ := I.list hS
  have li := p.isList
  have hlt : l < s.heap.objs.size := by obtain ⟨_, e, _⟩ := id li; exact Heap.lt_size e
  have len : bs.length = its.length := by have := rv.length; rwa [List.length_map] at this
  refine call_any_walk (wpAny_pyIter_list li ?_)
  refine ⟨_, _, _, _, _, _, fun i => bs.getD i false, rfl, Walks.list (A := X.A.in1) (I.ok.hd hc) _ l (Nat.ne_of_lt hlt) its.toArray, ⟨⟨_, Heap.get?_push_size _ rfl, rfl, rfl⟩, li.push _⟩, fun i v s' Q' E' hv hq => ?_, fun h' tk hk => ?_⟩
  · have hv' : its[i]? = some v := by simpa using hv
    have hi : i < its.length := (List.getElem?_eq_some_iff.mp hv').1
    obtain ⟨u0, hu, e0⟩ := rv.get (i := i) (x := .bl (bs.getD i false)) (by rw [List.getElem?_map, List.getD_eq_getElem?_getD, List.getElem?_eq_getElem (by omega : i < bs.length)]; rfl)
    rw [hv'] at hu
    cases hu
    have e1 : v = Value.bool (bs.getD i false) := e0
    subst e1
    exact wpAny_truthy_bool hq
  · have e : (List.range its.toArray.size).any (fun i => bs.getD i false) = bs.any id := by
      rw [show its.toArray.size = bs.length by rw [List.size_toArray]; omega]
      exact any_range bs
    rw [e]
    refine ⟨.bl _, H, I.kept fun b o eb => ?_, rfl, q⟩
    refine hk b o (fun hm => ?_) (Heap.get?_push_of_some _ eb)
    rcases List.mem_cons.mp hm with e1 | hm
    · exact absurd (e1 ▸ Heap.lt_size eb) (Nat.lt_irrefl _)
    · cases hm
theorem bt_any : bootBuiltins "any" = some (.builtin "any") := by decide +kernel
/-! ### xs.index(d), a list of deeds -/
def rIndexD : V → List V → Hp → VK → Prop := fun x vs H Q => ∃ (l : Addr) (ds : List D3) (d : D3) (y : V) (j : Nat), x = .ref l ∧ vs = [y] ∧ LD H l ds ∧ T3 H y d ∧ ds[j]? = some d ∧ (∀ m e, m < j → ds[m]? = some e → e ≠ d) ∧ Q (.int (j : Nat)) H
theorem mt_indexD (hu : X.A.units + 64 < cLine) : MtM X "list.index" rIndexD := by
  intro pins s σ H x vs v us Q I rx rv h
  obtain ⟨l, ds, d, y, j, rfl, rfl, ⟨ws, hl, pr⟩, hy, g1, g2, q⟩ := h
  have rx' : v = Value.ref l := rx
  subst rx'
  obtain ⟨u, rfl, ru⟩ := rv.one
  obtain ⟨z, its, n, r, hlen, e⟩ := I.lstM hl
  have hl0 := Paired.length pr
  have hj : j < ds.length := (List.getElem?_eq_some_iff.mp g1).1
  obtain ⟨as, rd⟩ := I.dat (dD d) hy.dat ru
  have da : DatAll H ws (ds.map dD) := DatAll.map (fun _ _ z => T3.dat z) pr
  obtain ⟨bs, ra⟩ := I.datAll _ da r
  have hlay := DatAll.lay _ da
  have at' : ∀ (m : Nat) (hmm : m < its.toArray.size), eR s.heap (dD d) its.toArray[m] = decide ((ds.getD m (0, 0, 0)) = d) := fun m hmm => by
    have hm1 : m < its.length := by simpa using hmm
    have hm2 : m < ws.length := by omega
    obtain ⟨um, em, rm⟩ := r.get (List.getElem?_eq_getElem hm2)
    obtain ⟨dm, gm, tm⟩ := Paired.getL pr (List.getElem?_eq_getElem hm2)
    have e1 : its.toArray[m] = um := by
      rw [List.getElem?_eq_getElem hm1] at em
      exact Option.some.inj em
    obtain ⟨cs, rr⟩ := I.dat (dD dm) tm.dat rm
    rw [e1, eR_eq rr (Dat.lay _ tm.dat), enc_dD.dec, List.getD_eq_getElem?_getD, gm]
    rfl
  have hjz : j < its.toArray.size := by rw [List.size_toArray]; omega
  have hz63 := line63
  refine call_meets F.slot_list_index ⟨_, e, rfl⟩ F.entry_list_index (F.args_list_index_2 _ _) (SeqAt.list_indexAt l its.toArray n none #[] u (eR s.heap (dD d)) j hjz (by omega) ?_ ?_) ⟨e, fun w hw => ?_, ?_⟩
  · rw [at' j hjz, List.getD_eq_getElem?_getD, g1]; exact decide_eq_true rfl
  · intro m hmm hmj
    rw [at' m hmm]
    refine decide_eq_false ?_
    have hm2 : m < ds.length := by rw [List.size_toArray] at hmm; omega
    rw [List.getD_eq_getElem?_getD, List.getElem?_eq_getElem hm2]
    exact g2 m _ hmj (List.getElem?_eq_getElem hm2)
  · obtain ⟨dw, _, rw', hw'⟩ := reads_mem ra hlay w (by simpa using hw)
    have := in1_units (A := X.A)
    have dp := enc_dD.dep d
    exact eqAt_eR rw' hw' rd (Dat.lay _ hy.dat) (by omega)
  · exact ⟨.int j, H, I.tok _, ⟨_, rfl⟩, q⟩
end
end L2

end

section
namespace L2
open PySem PySem.Spec PySem.W PyProof.Rows
/-! ### sorted of fewer than 128 deeds -/
theorem perm_map_ex {α β : Type} (f : α → β) {l' m : List β} (h : l'.Perm m) : ∀ l : List α, m = l.map f → ∃ k : List α, k.Perm l ∧ l' = k.map f := by
  induction h with
  | nil =>
    intro l e
    match l, e with
    | [], _ => exact ⟨[], .nil, rfl⟩
  | cons x h ih =>
    intro l e
    cases l with
    | nil => cases e
    | cons y t =>
      rw [List.map_cons] at e
      injection e with e1 e2
      obtain ⟨k, p, q⟩ := ih t e2
      exact ⟨y :: k, p.cons _, by rw [List.map_cons, e1, q]⟩
  | swap x y l0 =>
    intro l e
    match l, e with
    | a :: b :: t, e =>
      rw [List.map_cons, List.map_cons] at e
      injection e with e1 e2
      injection e2 with e2 e3
      exact ⟨b :: a :: t, .swap _ _ _, by rw [List.map_cons, List.map_cons, e1, e2, e3]⟩
  | trans _ _ ih1 ih2 =>
    intro l e
    obtain ⟨k, p, q⟩ := ih2 l e
    obtain ⟨k', p', q'⟩ := ih1 k q
    exact ⟨k', p'.trans p, q'⟩
open Classical in
/-- the deed that lies there -/
noncomputable def decD (h : Heap) (v : Value) : D3 := if e : ∃ d : D3, ∃ x t1 t2 t3, v = .ref x ∧ IsTup h x #[.int d.1 t1, .int d.2.1 t2, .int d.2.2 t3] then choose e else (0, 0, 0)
section
variable {prog : Program} {w : World} {A : Around} {E : Value → Shared → Prop} {s : Shared}
end
end L2

end

section
namespace L2
open PySem PySem.Spec PyProof.Rows
/-! ### dicts whose keys are deeds -/
def kd (d : D3) : List Key := [.inl d.1, .inl d.2.1, .inl d.2.2]
theorem kd_tup (d : D3) : (kd d).map kV = tupV d := rfl
theorem kd_inj {d e : D3} (h : kd d = kd e) : d = e := by
  unfold kd at h
  injection h with h1 h
  injection h with h2 h
  injection h with h3 _
  obtain ⟨a, b, c⟩ := d
  obtain ⟨a', b', c'⟩ := e
  have e1 : a = a' := Sum.inl.inj h1
  have e2 : b = b' := Sum.inl.inj h2
  have e3 : c = c' := Sum.inl.inj h3
  rw [e1, e2, e3]
section
variable {X : Cx}
theorem dget_of {H : Hp} {a : Addr} {kvs : List (List Key × V)} {y : V} {d : D3} (e : H a = some (.dT kvs)) (ty : T3 H y d) : DGet H a y (valV kvs (kd d)) := by
  obtain ⟨b, rfl, eb⟩ := ty
  exact DGet.t e (by rw [kd_tup]; exact eb)
/-- d[y], there -/
def rIxD : R2 := fun x y H Q => ∃ (a : Addr) (kvs : List (List Key × V)) (d : D3) (v : V), x = .ref a ∧ H a = some (.dT kvs) ∧ T3 H y d ∧ valV kvs (kd d) = some v ∧ Q v H
theorem ix_dict (hu : X.A.units + 1 < cLine) : IxR X rIxD := by
  intro value slice pins s σ H x y v u Q I rx ry h hs
  obtain ⟨a, kvs, d, z, rfl, ea, ty, hv, q⟩ := h
  cases rx
  obtain ⟨b, rfl, eb⟩ := ty
  cases ry
  have eb' : H b = some (.tup ((kd d).map kV)) := by rw [kd_tup]; exact eb
  obtain ⟨_, hd, xs, rel, dd⟩ := dt_of I.hok ea
  obtain ⟨w', hw, rw'⟩ := RelO.some_of (v := z) (o := (atKey xs (kd d)).map (·.2)) (by rw [← hv]; exact rel.val (kd d))
  obtain ⟨p, hp, hp2⟩ := Option.map_eq_some_iff.mp hw
  exact subscriptTail_builtinR (x := w') dd.typeIs slot_dict_getitem.lookup (wpAny_getItem_heap (Q := fun r s' => r = w' ∧ EP X pins σ Q r s') (tupleKind_room_in1 hu) (key_of I.hok eb') dd hp ⟨hp2, z, H, I.tok _, (by rw [hp2]; exact rw'), q⟩) hs
/-- d[y] = v -/
def rSetD : V → V → V → Hp → (Hp → Prop) → Prop := fun o i v H Q => ∃ (a : Addr) (kvs : List (List Key × V)) (d : D3), o = .ref a ∧ H a = some (.dT kvs) ∧ T3 H i d ∧ kvs.length < sizeLine ∧ Q (upd H a (.dT (putK kvs (kd d) v)))
theorem set_dict (hu : X.A.units + 1 < cLine) : PSet X rSetD := by
  intro pins s σ H o i v ov iv u Q I ro ri rv h
  obtain ⟨a, kvs, d, rfl, ea, ⟨b, rfl, eb⟩, hz, q⟩ := h
  cases ro
  cases ri
  exact d_setItem hu I (DPut.t ea (by rw [kd_tup]; exact eb) hz) rfl rv fun s' I' => ⟨_, I', q⟩
/-- d.get(y, z) -/
def rGetD : V → List V → Hp → VK → Prop := fun x vs H Q => ∃ (a : Addr) (kvs : List (List Key × V)) (d : D3) (y z : V), x = .ref a ∧ vs = [y, z] ∧ H a = some (.dT kvs) ∧ T3 H y d ∧ Q ((valV kvs (kd d)).getD z) H
theorem mt_getD (hu : X.A.units + 1 < cLine) : MtR X "dict.get" rGetD := by
  intro pins s σ H x vs v us Q I rx rv h
  obtain ⟨a, kvs, d, y, z, rfl, rfl, ea, ty, q⟩ := h
  cases rx
  obtain ⟨u1, u2, rfl, r1, r2⟩ := rv.two
  exact d_get2 hu I (dget_of ea ty) r1 r2 fun w' s' I' rw' => ⟨_, H, I', rw', q⟩
end
section
variable {prog : Program} {w : World} {K : Type} [DecidableEq K] {knd : HeapKind prog w K} {A : Around} {E : Value → Shared → Prop} {s : Shared} {d a : Addr} {k : K} {xs : List (K × Addr × Value)}
theorem setDefault_heap {dflt : Value} {Q : Value → Shared → Prop} (hu : knd.room A) (hkey : knd.is s.heap k a) (hm : s.heap.DictOfH knd d xs)
    (h1 : ∀ p, atKey xs k = some p → Q p.2 { s with toks := s.toks + knd.draws k })
    (h2 : atKey xs k = none → ∀ h', h'.DictOfH knd d (storedH xs k a dflt) → Heap.SameBut d s.heap h' → Q dflt { s with heap := h', toks := s.toks + knd.draws k })
    (hsz : xs.length ≤ sizeLine) : wpAny (model prog w) A (dictSetDefault d (.ref a) dflt) Q E s := by
  obtain ⟨o, es, ep, ho, hc, hd, he, his, hn⟩ := hm
  unfold dictSetDefault
  try with_reducible refine wpAny_holding ?_
  refine wpAny_bind (knd.pyHash hu hkey ?_)
  refine wpAny_bind (wpAny_dictFind_heap (s := { s with toks := s.toks + knd.draws k }) hu hkey ho hd he his hn ?_ ?_)
  · intro hno
    have hnot : k ∉ xs.map (·.1) := not_mem_keys_of_get hno
    have hnone := atKey_none_of_get hno
    refine wpAny_bind (wpAny_rule (wpAny_bind (wpAny_updateDictKeys (hz := by have e := size_of_entries he; omega) (s := { s with toks := s.toks + knd.draws k }) ho hd (wpAny_pure (h2 hnone _ ⟨_, _, ep + 1, Heap.get?_update_self _ ho (Obj.isFreed_of_dict (Obj.data_mapDictKeys hd _)),
      hc.mapDictKeys _, Obj.data_mapDictKeys hd _, ?_, ?_, ?_⟩ (Heap.SameBut.update ..))))))
    · rw [storedH_new hnone]
      simp [he, entryOfKey]
    · rw [storedH_new hnone]
      intro x hx
      rcases List.mem_append.mp hx with hx | hx
      · exact knd.keeps (his x hx) ho hd (Heap.SameBut.update ..)
      · simp only [List.mem_singleton] at hx
        subst hx
        exact knd.keeps hkey ho hd (Heap.SameBut.update ..)
    · rw [storedH_new hnone]
      rw [List.map_append, List.nodup_append]
      refine ⟨hn, by simp, ?_⟩
      intro x hx y hy
      simp only [List.map_cons, List.map_nil, List.mem_singleton] at hy
      subst hy
      exact fun e => hnot (e ▸ hx)
  · intro j p hj
    refine wpAny_bind (wpAny_dictEntries (s := { s with toks := s.toks + knd.draws k }) ho hd ?_)
    have e : es[j]? = some (entryOfKey knd (k, p)) := by
      rw [← Array.getElem?_toList, he, List.getElem?_map, hj]; rfl
    rw [e]
    exact wpAny_bind (wpAny_rule (wpAny_pure (h1 p (atKey_of_get hn hj))))
theorem meetsH_setdefault (hd : (d == sysModules) = false) (dflt : Value) :
    MeetsIn prog w (Builtin.«dict.setdefault» ⟨[.ref d, .ref a, dflt], []⟩) (fun A R s => knd.room A.in1 ∧ ∃ k xs, knd.is s.heap k a ∧ s.heap.DictOfH knd d xs ∧ xs.length ≤ sizeLine ∧
      (∀ p, atKey xs k = some p → R (.ok (.ret p.2)) { s with toks := s.toks + knd.draws k }) ∧
      (atKey xs k = none → ∀ h', h'.DictOfH knd d (storedH xs k a dflt) → Heap.SameBut d s.heap h' → R (.ok (.ret dflt)) { s with heap := h', toks := s.toks + knd.draws k })) :=
  .of_wp fun A R s ⟨hu, k, xs, hkey, hm, hz, h1, h2⟩ => by
    unfold Builtin.«dict.setdefault»
    refine wpAny_bind ?_
    unfold Builtin.Dict.keyAndDefault
    refine wpAny_bind (wpAny_notOrdered_dict hm.typeIs ?_)
    show wpAny _ _ (pure (d, Value.ref a, some dflt)) _ _ s
    refine wpAny_pure ?_
    show wpAny _ _ (if (d == sysModules) = true then _ else (dictSetDefault d (.ref a) dflt >>= _)) _ _ s
    rw [if_neg (by rw [hd]; exact Bool.false_ne_true)]
    exact wpAny_bind (setDefault_heap hu hkey hm (fun v hv => wpAny_pure ⟨v.2, rfl, h1 v hv⟩) (fun hn h' hm' hs' => wpAny_pure ⟨dflt, rfl, h2 hn h' hm' hs'⟩) hz)
end
section
variable {X : Cx}
/-- d.setdefault(y, z) -/
def rSetDef : V → List V → Hp → VK → Prop := fun x vs H Q => ∃ (a : Addr) (kvs : List (List Key × V)) (d : D3) (y z : V), x = .ref a ∧ vs = [y, z] ∧ H a = some (.dT kvs) ∧ T3 H y d ∧ kvs.length < sizeLine ∧
  (∀ v, valV kvs (kd d) = some v → Q v H) ∧ (valV kvs (kd d) = none → Q z (upd H a (.dT (putK kvs (kd d) z))))
theorem mt_setdefault (hu : X.A.units + 1 < cLine) : MtR X "dict.setdefault" rSetDef := by
  intro pins s σ H x vs v us Q I rx rv h
  obtain ⟨a, kvs, d, y, z, rfl, rfl, ea, ⟨b, rfl, eb⟩, hl, q1, q2⟩ := h
  cases rx
  obtain ⟨u1, u2, rfl, r1, r2⟩ := rv.two
  cases r1
  have eb' : H b = some (.tup ((kd d).map kV)) := by rw [kd_tup]; exact eb
  obtain ⟨hz, hd, xs, rel, dd⟩ := dt_of I.hok ea
  have hz' : xs.length ≤ sizeLine := by rw [← Paired.length rel]; exact hz
  refine call_meetsIn PySem.F.slot_dict_setdefault dd.typeIs PySem.F.entry_dict_setdefault (PySem.F.args_dict_setdefault_3 _ _ _) (meetsH_setdefault (knd := tupleKind (mixKind X.prog X.w)) hd u2) ⟨tupleKind_room_in1 hu, kd d, xs, key_of I.hok eb', dd, hz', fun p hp => ?_, fun hn h' dd' hs => ?_⟩
  · have z1 := rel.val (kd d)
    rw [hp] at z1
    cases e : valV kvs (kd d) with
    | none => rw [e] at z1; exact z1.elim
    | some v0 =>
      rw [e] at z1
      exact ⟨v0, H, I.tok _, z1, q1 v0 e⟩
  · have e : valV kvs (kd d) = none := by
      have z1 := (rel.val (kd d)).isSome_eq
      rw [hn] at z1
      cases e : valV kvs (kd d) with
      | none => rfl
      | some _ => rw [e] at z1; cases z1
    have hl' : (putK kvs (kd d) z).length ≤ sizeLine := by have := length_putK kvs (kd d) z; omega
    obtain ⟨q, es, ep, hq, h2, h3, h4, _, h5⟩ := dd'
    refine ⟨z, _, d_write (ob := .dT (putK kvs (kd d) z)) I (by rw [ea]; exact True.intro) hs ⟨q, hq⟩ ⟨hl', hd, _, (rel.put (kd d) eb' r2).keeps fun c ys ec => ?_, q, es, ep, hq, h2, h3, h4, h5⟩, r2, q2 e⟩
    rw [upd_ne (ne_of ec ea (fun z => nomatch z))]
    exact ec
theorem tyD {K : PySem.W.Frag} {H : Hp} {a : Addr} {kvs : List (List Key × V)} (e : H a = some (.dT kvs)) : tyV K "dict" (.ref a) H := .inr (.inr (.inl ⟨rfl, .inr ⟨kvs, e⟩⟩))
end
end L2

end

section
namespace L2
open PySem PySem.Spec PyProof.Rows
/-! ### for k, x in enumerate(a list) -/
def Ite (K : PySem.W.Frag) (a : Addr) : It :=
  ⟨fun i H => ∃ xs x, kL.sq K H a xs ∧ xs[i]? = some x,
   fun i H v H' => ∃ p x, v = .ref p ∧ H p = none ∧ H' = upd H p (.tup [.int (i : Int), x]) ∧ ∀ xs, kL.sq K H a xs → xs[i]? = some x,
   fun i H => ∃ xs, kL.sq K H a xs ∧ xs.length ≤ i⟩
theorem turn_enum {P : Program} {w : World} {K : PySem.W.Frag} {es : List Expr} {x1 : Nat} {tpos : Pos} {e it a : Addr} (D : e ≠ it) :
    Turn P w K (.Tuple es x1 tpos) (Ite K a) [e, it] e (fun i h => (∃ old, IsEnum h e it (i : Int) old) ∧ kL.It h it a i) where
  mem := by simp
  obj := fun i h st c hc => by
    obtain ⟨⟨old, h1⟩, h4⟩ := st
    simp only [List.mem_cons, List.not_mem_nil, or_false] at hc
    rcases hc with rfl | rfl
    · exact ⟨_, h1, fun v z => by cases z⟩
    · exact kL.itO h4
  keep := fun i h h' st kp => by
    obtain ⟨⟨old, h1⟩, h4⟩ := st
    exact ⟨⟨old, kp e (by simp) _ h1⟩, kL.itAt h4 fun o e => kp it (by simp) o e⟩
  item := by
    intro X hP hw hK hc i pins s σ H E I hf st hg
    subst hP hw hK
    obtain ⟨⟨old, h1⟩, h4⟩ := st
    obtain ⟨xs, x, q1, e1⟩ := hg
    obtain ⟨its1, r1, p1⟩ := kL.read I q1
    obtain ⟨u1, hu1, ru1⟩ := r1.get e1
    refine wpAny_pyNext_enum_item h1 h4 p1 (x := u1) (by simpa using hu1) D fun h' a1 a2 a3 a4 hk => ⟨_, rfl, ?_⟩
    refine wpAny_letOwnedTupleGo_enum (s := { s with heap := h', toks := s.toks + 1 }) a1 fun h'' b1 b2 => ?_
    have lz : e < s.heap.objs.size := Heap.lt_size h1
    have up : ∀ c o, c ∉ [e, it] → s.heap.get? c = some o → h''.get? c = some o := fun c o hc q => by
      simp only [List.mem_cons, List.not_mem_nil, or_false, not_or] at hc
      exact b2.extBut _ _ hc.1 (hk c o hc.1 hc.2 q)
    have T2 := b2.extBut _ _ (Nat.ne_of_gt lz) a3
    have I2 : Inv X pins σ (upd H s.heap.objs.size (.tup [.int (i : Int), x])) { s with heap := h'', toks := s.toks + 1 } := I.turnedNew hf up (Nat.le_refl _) ⟨by simp only [List.length_cons, List.length_nil]; rw [sizeLine_eq]; decide, [.int (i : Int) s.toks, u1], .cons ⟨_, rfl⟩ (.cons ru1 .nil), ⟨_, T2, rfl, _, rfl⟩⟩
    refine ⟨.ref s.heap.objs.size, _, I2, rfl, ⟨_, x, rfl, I.fresh, rfl, fun xs' q => by rw [kL.inj I q q1]; exact e1⟩, ⟨⟨_, b1⟩, kL.itAt a2 fun o q => b2.extBut _ _ (Ne.symm D) q⟩, fun c hc => ?_⟩
    have hlt : c < s.heap.objs.size := by
      simp only [List.mem_cons, List.not_mem_nil, or_false] at hc
      rcases hc with rfl | rfl
      · exact Heap.lt_size h1
      · obtain ⟨o, e, _⟩ := kL.itO h4; exact Heap.lt_size e
    rw [upd_ne (Nat.ne_of_lt hlt)]; exact (hf c hc).1
  done := by
    intro X hP hw hK hc i pins s σ H E I hf st hg
    subst hP hw hK
    obtain ⟨⟨old, h1⟩, h4⟩ := st
    obtain ⟨xs, q1, e1⟩ := hg
    obtain ⟨its1, r1, p1⟩ := kL.read I q1
    have l1 := r1.length
    refine wpAny_pyNext_enum_end (I.ok.hd hc) h1 h4 p1 (by simp; omega) fun h' hk => ⟨rfl, I.turnedL (t' := s.toks) hf fun c o hc e => ?_⟩
    simp only [List.mem_cons, List.not_mem_nil, or_false, not_or] at hc
    exact hk c o hc.2 e
  self := fun _ _ _ _ _ st h => by
    obtain ⟨⟨old, h1⟩, _⟩ := st
    exact wpAny_pyIter_enum h1 h
section
variable {X : Cx} {es : List Expr} {x1 : Nat} {tpos : Pos}
theorem bt_enumerate : bootBuiltins "enumerate" = some (.type "enumerate") := by decide +kernel
def iEnum (K : PySem.W.Frag) (ta : TA) : TI := fun σ H R => ta σ H fun vs H1 => ∃ a xs, vs = [.ref a] ∧ kL.sq K H1 a xs ∧ R (Ite K a) H1
theorem pi_enum {a : Expr} {ta : TA} {p pos : Pos} (hg : Gl X "enumerate") (hm : X.mg "enumerate" = none) (ha : PA X [a] ta) (hs : starEach [a] X.env = (false, eval a X.env) :: starEach [] X.env := by rfl) (hs2 : (backTo pos (starEach [] X.env)).any (·.1) = false := by rfl) :
    PI X (.Tuple es x1 tpos) (.Call (.Name "enumerate" p) [a] [] pos) (iEnum X.K ta) := by
  intro pins s σ H R I h
  refine Call_ (ld_blt I hg hm bt_enumerate (PyProof.Rows.callWith_type1 (thn (ha pos pins s σ H _ I h) fun us s1 ⟨vs, H1, I1, r1, q1⟩ => ?_) hs hs2))
  obtain ⟨c, xs, rfl, e1, q⟩ := q1
  obtain ⟨u, rfl, ru⟩ := vals1 r1
  cases ru
  obtain ⟨its1, _, p1⟩ := kL.read I1 e1
  refine call_enumerate_list p1 fun h' he hit _ kp => ?_
  refine wpAny_pyIter_enum he ⟨s1.heap.objs.size + 1, [s1.heap.objs.size + 1, s1.heap.objs.size], _, _, H1, rfl, I1.kept (t' := s1.toks) kp, turn_enum (Nat.ne_of_gt (Nat.lt_succ_self _)), ⟨⟨_, he⟩, hit⟩, fun c hc => ?_, q⟩
  have hle : s1.heap.objs.size ≤ c := by
    simp only [List.mem_cons, List.not_mem_nil, or_false] at hc
    rcases hc with rfl | rfl
    · exact Nat.le_succ _
    · exact Nat.le_refl _
  exact I1.fpOk hle (I1.hok.fresh hle)
theorem piE (K : PySem.W.Frag) {a : Expr} {ta : TA} {p pos : Pos} (hg : Gl X "enumerate") (hm : X.mg "enumerate" = none) (ha : PA X [a] ta) (hK : X.K = K := by rfl) (hs : starEach [a] X.env = (false, eval a X.env) :: starEach [] X.env := by rfl) (hs2 : (backTo pos (starEach [] X.env)).any (·.1) = false := by rfl) :
    PI X (.Tuple es x1 tpos) (.Call (.Name "enumerate" p) [a] [] pos) (iEnum K ta) := by
  subst hK; exact pi_enum hg hm ha hs hs2
end
theorem for_enum {K : PySem.W.Frag} {a : Addr} {xs : List V} {g : TG} {tb : TS} {D : Ends} {σ : St} {H : Hp} (Pv : Nat → St → Hp → Prop) (h0 : Pv 0 σ H) (hl : ∀ i σ H, i ≤ xs.length → Pv i σ H → kL.sq K H a xs)
    (hs : ∀ i x p σ H, xs[i]? = some x → H p = none → Pv i σ H → g (.ref p) σ (upd H p (.tup [.int (i : Int), x])) fun σ2 H2 => tb { D with nx := Pv (i + 1), ct := Pv (i + 1), bk := D.nx } σ2 H2) (hd : ∀ σ H, Pv xs.length σ H → D.nx σ H) :
    ∃ W : Nat → Nat → St → Hp → Prop, (∃ m, W 0 m σ H) ∧ ∀ i m σ H, W i m σ H →
      ((Ite K a).stop i H ∧ D.nx σ H) ∨ ((Ite K a).go i H ∧ ∃ N : St → Hp → Prop, (∀ σ' H', N σ' H' → ∃ m', m' < m ∧ W (i + 1) m' σ' H') ∧ ∀ x H', (Ite K a).yld i H x H' → g x σ H' fun σ2 H2 => tb { D with nx := N, ct := N, bk := D.nx } σ2 H2) := by
  refine ⟨fun i m σ H => m = xs.length - i ∧ i ≤ xs.length ∧ Pv i σ H, ⟨xs.length, by simp, Nat.zero_le _, h0⟩, ?_⟩
  rintro i m σ H ⟨rfl, hi, p⟩
  have q1 := hl i σ H hi p
  by_cases hlt : i < xs.length
  · refine .inr ⟨⟨xs, xs[i], q1, by simp [hlt]⟩, Pv (i + 1), fun σ' H' p' => ⟨xs.length - (i + 1), by omega, rfl, hlt, p'⟩, fun v H' y => ?_⟩
    obtain ⟨c, x, rfl, hc, rfl, e1⟩ := y
    exact hs i x c σ H (e1 xs q1) hc p
  · have e : i = xs.length := by omega
    subst e
    exact .inl ⟨⟨xs, q1, by omega⟩, hd σ H p⟩
end L2

end

section
namespace L2
open PySem PySem.Spec PyProof.Rows
/-! ### list(range(j, k, -1)) -/
def dnL (j : Int) (n : Nat) : List Int := (List.range n).map fun (i : Nat) => j - (i : Int)
def tDown (ta : TA) : TE := fun σ H Q => ta σ H fun vs H1 => ∃ (j : Int) (n : Nat), vs = [.int j, .int (j - n), .int (-1)] ∧ n ≤ 1000 ∧ -1000 ≤ j ∧ j ≤ 1000 ∧ ∀ p, H1 p = none → Q (.ref p) (upd H1 p (.lst ((dnL j n).map V.int)))
theorem down_size (j : Int) (n : Nat) : Builtin.Range.rangeSize j (j - n) (-1) = n := by
  unfold Builtin.Range.rangeSize
  rw [if_neg (by decide)]
  by_cases h : n = 0
  · subst h
    rw [if_neg (by omega)]; rfl
  · rw [if_pos (by omega)]
    simp only [Int.neg_neg, Int.ediv_one]
    omega
theorem vals_down (j : Int) : ∀ {acc : Array Value} {n : Nat}, PySem.ItemsOf (fun i v => ∃ t, v = .int (j + (i : Int) * (-1)) t) acc n → Vals ((dnL j n).map V.int) acc.toList := by
  intro acc n h
  have hs : acc.toList.length = n := by simpa using h.1
  have key : ∀ (m : Nat), m ≤ n → Vals (((List.range m).map fun (i : Nat) => j - (i : Int)).map V.int) (acc.toList.take m) := by
    intro m
    induction m with
    | zero => intro _; exact .nil
    | succ m ih =>
      intro hm
      have hi : m < acc.toList.length := by omega
      rw [List.range_succ, List.map_append, List.map_append, List.take_succ_eq_append_getElem hi]
      refine (ih (by omega)).append (.cons ?_ .nil)
      obtain ⟨t, e⟩ := h.2 m (acc.toList[m]) (by rw [← Array.getElem?_toList, List.getElem?_eq_getElem hi])
      rw [e]
      refine ⟨t, ?_⟩
      show Value.int (j + (m : Int) * (-1)) t = Value.int (j - (m : Int)) t
      congr 1
      omega
  have z := key n (Nat.le_refl _)
  rwa [List.take_of_length_le (by omega)] at z
theorem pe_down {X : Cx} {a b c : Expr} {ta : TA} {p p2 pos pos2 : Pos} (hc : X.calm = true) (ha : PA X [a, b, c] ta) (hg1 : Gl X "list") (hm1 : X.mg "list" = none) (hg2 : Gl X "range") (hm2 : X.mg "range" = none)
    (hs : starEach [a, b, c] X.env = (false, eval a X.env) :: starEach [b, c] X.env := by rfl) (hp : (backTo pos2 (starEach [b, c] X.env)).any (·.1) = false := by rfl)
    (hs' : starEach [.Call (.Name "range" p2) [a, b, c] [] pos2] X.env = (false, eval (.Call (.Name "range" p2) [a, b, c] [] pos2) X.env) :: starEach [] X.env := by rfl) (hp' : (backTo pos (starEach [] X.env)).any (·.1) = false := by rfl) :
    PE X (.Call (.Name "list" p) [.Call (.Name "range" p2) [a, b, c] [] pos2] [] pos) (tDown ta) := by
  intro pins s σ H Q I h
  refine wpAny_Call_Name_kw (ld_blt I hg1 hm1 bt_list ?_ (by decide) (by decide))
  refine PyProof.Rows.callWith_type1 ?_ hs' hp'
  rw [hs']
  show wpAny _ _ (spliced ((false, eval (.Call (.Name "range" p2) [a, b, c] [] pos2) X.env) :: backTo pos (starEach [] X.env))) _ _ s
  refine Calls.spliced_cons ?_
  refine wpAny_Call_Name_kw (ld_blt I hg2 hm2 boot_range ?_ (by decide) (by decide))
  refine PyProof.Rows.callWith_type1 (thn (ha pos2 pins s σ H _ I h) fun us s1 ⟨vs, H1, I1, r1, q1⟩ => ?_) hs hp
  obtain ⟨j, n, rfl, hn, hj1, hj2, q⟩ := q1
  cases r1 with
  | cons r rr =>
    cases rr with
    | cons r' rr =>
      cases rr with
      | cons r'' rr =>
        cases rr
        obtain ⟨t, rfl⟩ := r
        obtain ⟨t', rfl⟩ := r'
        obtain ⟨t'', rfl⟩ := r''
        refine call_range_3 (by decide) ?_ (.inl (PyProof.noPylong_small (by omega)))
        refine Calls.spliced_nil ?_
        have I2 : Inv X pins σ H1 { s1 with heap := s1.heap.push { cls := .type "range", data := .fields #[.int j t, .int (j - n) t', .int (-1) t''] }, toks := s1.toks } := I1.kept (t' := s1.toks) fun b o e => Heap.get?_push_of_some _ e
        have hsz : (s1.heap.push { cls := .type "range", data := .fields #[.int j t, .int (j - n) t', .int (-1) t''] }).objs.size = s1.heap.objs.size + 1 := Heap.size_push _ _
        have hsm : Builtin.Range.small j (j - n) (-1) = true := by
          unfold Builtin.Range.small
          rw [down_size]
          simp only [Builtin.Range.rangeFitsLong, Bool.and_eq_true, Bool.or_eq_true, decide_eq_true_eq, beq_iff_eq, show ¬ ((-1 : Int) > 0) by decide, if_false]
          omega
        refine call_list_range (s := { s1 with heap := s1.heap.push { cls := .type "range", data := .fields #[.int j t, .int (j - n) t', .int (-1) t''] }, toks := s1.toks }) (I.ok.hd hc) (IsRange.new ..) hsm (down_size j n) (by omega) fun h' tk acc' c' kp e i => ?_
        have kp0 : ∀ b o, s1.heap.get? b = some o → h'.get? b = some o := fun b o q => kp b o (Heap.get?_push_of_some _ q)
        have rv := vals_down j i
        have hl : ((dnL j n).map V.int).length ≤ sizeLine := by unfold dnL; rw [List.length_map, List.length_map, List.length_range, sizeLine_eq]; omega
        refine ⟨.ref _, _, I1.laid (t' := tk) kp0 (by rw [hsz]; exact Nat.le_succ _) (show ObjOk X.prog X.w _ h' _ (.lst ((dnL j n).map V.int)) from ⟨hl, acc'.toList, c', rv, by rw [Array.toArray_toList]; exact e⟩), rfl, q _ (I1.hok.fresh (by rw [hsz]; exact Nat.le_succ _))⟩
end L2

end

section
namespace L2
open PySem PySem.Spec PyProof.Rows
theorem Paired.er {α β : Type} {F : α → β → Prop} : ∀ {xs : List α} {ys : List β}, Paired F xs ys → ∀ n, Paired F (xs.eraseIdx n) (ys.eraseIdx n)
  | _, _, .nil, _ => .nil
  | _, _, .cons _ t, 0 => t
  | _, _, .cons h t, n + 1 => .cons h (Paired.er t n)
theorem small9 {n : Nat} (h : n ≤ 100000) : n < sizeLine := by rw [sizeLine_eq]; omega
section
variable {X : Cx}
/-! ### rules by deeds -/
def rNin3 : R2 := fun x y H Q => ∃ (l : Addr) (ds : List D3) (d : D3), y = .ref l ∧ LD H l ds ∧ T3 H x d ∧ Q (.bl (!decide (d ∈ ds))) H
theorem op_nin3 (hu : X.A.units + 64 < cLine) : OpR X (compareOp .NotIn) rNin3 := fun pins s σ H x y v u Q I rx ry h => by
  obtain ⟨l, ds, d, rfl, hl, hx, q⟩ := h
  refine op_nin hu pins s σ H x (.ref l) v u Q I rx ry ⟨dD d, ds.map dD, hx.dat, hl.dat, Nat.le_trans (enc_dD.dep d) (by decide), ?_⟩
  rw [any_deeds]
  exact q
theorem ixD (hu : X.A.units + 64 < cLine) : IxR X rIxD := ix_dict (by omega)
theorem setD (hu : X.A.units + 64 < cLine) : PSet X rSetD := set_dict (by omega)
theorem getD2 (hu : X.A.units + 64 < cLine) : MtR X "dict.get" rGetD := mt_getD (by omega)
theorem setDef (hu : X.A.units + 64 < cLine) : MtR X "dict.setdefault" rSetDef := mt_setdefault (by omega)
end
/-! ### the way, purely -/
/-- the place of the first equal one -/
def fst? (d : D3) : List D3 → Nat
  | [] => 0
  | e :: es => if e = d then 0 else fst? d es + 1
theorem fst_ok {d : D3} : ∀ {ds : List D3}, d ∈ ds → ds[fst? d ds]? = some d ∧ (∀ m e, m < fst? d ds → ds[m]? = some e → e ≠ d)
  | [], h => nomatch h
  | e :: es, h => by
    unfold fst?
    by_cases c : e = d
    · rw [if_pos c]
      exact ⟨by rw [c]; rfl, fun m x hm => absurd hm (Nat.not_lt_zero _)⟩
    · rw [if_neg c]
      have h' : d ∈ es := (List.mem_cons.mp h).resolve_left fun z => c z.symm
      obtain ⟨a, b⟩ := fst_ok h'
      refine ⟨a, fun m x hm hx => ?_⟩
      cases m with
      | zero => simp at hx; rw [← hx]; exact c
      | succ m => exact b m x (by omega) (by simpa using hx)
/-- the passings from rest to ds, the first of which comes to the place p -/
def wayF : Nat → List D3 → List D3 → Option (List Int)
  | _, rest, [] => if rest = [] then some [] else none
  | p, rest, d :: ds => if d ∈ rest then (if (rest.take (fst? d rest)).any (fun e => clashB e d) = true then none else (wayF (p + 1) (rest.eraseIdx (fst? d rest)) ds).map (dnL ((p : Int) + (fst? d rest : Nat) - 1) (fst? d rest) ++ ·)) else none
theorem dnL_length (j : Int) (n : Nat) : (dnL j n).length = n := by unfold dnL; rw [List.length_map, List.length_range]
theorem wayF_no {p : Nat} {rest ds : List D3} {d : D3} (h : d ∉ rest) : wayF p rest (d :: ds) = none := by
  show (if d ∈ rest then _ else none) = none
  rw [if_neg h]
theorem wayF_cl {p : Nat} {rest ds : List D3} {d : D3} (h : (rest.take (fst? d rest)).any (fun e => clashB e d) = true) : wayF p rest (d :: ds) = none := by
  show (if d ∈ rest then (if (rest.take (fst? d rest)).any (fun e => clashB e d) = true then none else _) else none) = none
  by_cases c : d ∈ rest
  · rw [if_pos c, if_pos h]
  · rw [if_neg c]
theorem wayF_go {p : Nat} {rest ds : List D3} {d : D3} (h1 : d ∈ rest) (h2 : ¬ (rest.take (fst? d rest)).any (fun e => clashB e d) = true) :
    wayF p rest (d :: ds) = (wayF (p + 1) (rest.eraseIdx (fst? d rest)) ds).map (dnL ((p : Int) + (fst? d rest : Nat) - 1) (fst? d rest) ++ ·) := by
  show (if d ∈ rest then (if (rest.take (fst? d rest)).any (fun e => clashB e d) = true then none else _) else none) = _
  rw [if_pos h1, if_neg h2]
theorem wayF_lk : ∀ {ds rest : List D3} (p : Nat), Lk clashB rest ds → (wayF p rest ds).isSome = true := by
  intro ds rest p h
  induction h generalizing p with
  | nil => rfl
  | @cons l1 l2 ys b h1 h2 hL ih =>
    have e : fst? b (l1 ++ b :: l2) = l1.length := by
      clear ih h2 hL
      induction l1 with
      | nil => show (if b = b then 0 else _) = 0; rw [if_pos rfl]
      | cons a l1 ih =>
        show (if a = b then 0 else fst? b (l1 ++ b :: l2) + 1) = _
        rw [if_neg (h1 a List.mem_cons_self), ih fun a ha => h1 a (List.mem_cons_of_mem _ ha)]; rfl
    have hm : b ∈ l1 ++ b :: l2 := by simp
    rw [wayF_go hm (by
      rw [e, List.take_left, List.any_eq_true]
      rintro ⟨x, hx, hc⟩
      rw [h2 x hx] at hc
      cases hc), e, Option.isSome_map]
    have e2 : (l1 ++ b :: l2).eraseIdx l1.length = l1 ++ l2 := by
      rw [List.eraseIdx_append_of_length_le (Nat.le_refl _), Nat.sub_self]; rfl
    rw [e2]
    exact ih (p + 1)
def spSome : Sp := fun vs H Q _ => ∃ (a : Addr) (x : V) (ds : List D3) (d : D3), vs = [.ref a, x] ∧ LD H a ds ∧ ds.length ≤ 1000 ∧ T3 H x d ∧ ∀ H', Same H H' → Q (.bl (ds.any fun e => clashB e d)) H'
def spWay : Sp := fun vs H Q _ => ∃ (a b : Addr) (xs ys : List D3), vs = [.ref a, .ref b] ∧ LD H a xs ∧ LD H b ys ∧ xs.length ≤ 100 ∧ ys.length ≤ 100 ∧ (wayF 0 xs ys = none → ∀ H', Same H H' → Q .non H') ∧
  ∀ ps, wayF 0 xs ys = some ps → ∀ r H', Same H H' → H r = none → H' r = some (.lst (ps.map V.int)) → Q (.ref r) H'
end L2

end

section
namespace L2
open PySem PySem.Spec PyProof.Rows
/-! ### slices: how long, and of what -/
theorem cl_to {xs : List V} {m : Int} (h : 0 ≤ m) : (cutV xs none (some m)).length = min m.toNat xs.length := by
  rw [cut_to h, List.length_take]
theorem cl_from {xs : List V} {m : Int} (h : 0 ≤ m) : (cutV xs (some m) none).length = xs.length - m.toNat := by
  obtain ⟨k, rfl⟩ := Int.eq_ofNat_of_zero_le h
  unfold cutV
  rw [HT.sIx_nat, HT.sIx_none, List.length_take, List.length_drop, Int.toNat_natCast]
  omega
theorem cl_mid {xs : List V} {m n : Int} (h : 0 ≤ m) (h' : 0 ≤ n) : (cutV xs (some m) (some n)).length = min n.toNat xs.length - min m.toNat xs.length := by
  obtain ⟨k, rfl⟩ := Int.eq_ofNat_of_zero_le h
  obtain ⟨j, rfl⟩ := Int.eq_ofNat_of_zero_le h'
  unfold cutV
  rw [HT.sIx_nat, HT.sIx_nat, List.length_take, List.length_drop, Int.toNat_natCast, Int.toNat_natCast]
  omega
theorem cut_mem {xs : List V} {lo hi : Option Int} {z : V} (h : z ∈ cutV xs lo hi) : z ∈ xs := List.drop_subset _ _ (List.take_subset _ _ h)
/-- values that each are one of the deeds', or the one beside -/
theorem sub_paired {H : Hp} {us : List V} {ds : List D3} (pr : Paired (T3 H) us ds) (e : D3) : ∀ {zs : List V}, (∀ z ∈ zs, z ∈ us ∨ T3 H z e) → ∃ es, Paired (T3 H) zs es ∧ ∀ x ∈ es, x ∈ ds ∨ x = e
  | [], _ => ⟨[], .nil, (fun _ h => nomatch h)⟩
  | z :: zs, h => by
    obtain ⟨es, p, q⟩ := sub_paired pr e (zs := zs) fun x hx => h x (List.mem_cons_of_mem _ hx)
    rcases h z List.mem_cons_self with hz | hz
    · obtain ⟨k, hk⟩ := List.getElem?_of_mem hz
      obtain ⟨d, gd, td⟩ := Paired.getL pr hk
      refine ⟨d :: es, .cons td p, fun x hx => ?_⟩
      rcases List.mem_cons.mp hx with rfl | hx
      · exact .inl (List.mem_of_getElem? gd)
      · exact q x hx
    · refine ⟨e :: es, .cons hz p, fun x hx => ?_⟩
      rcases List.mem_cons.mp hx with rfl | hx
      · exact .inr rfl
      · exact q x hx
def spPassed : Sp := fun vs H Q _ => ∃ (a c : Addr) (ds : List D3) (ms : List Int), vs = [.ref a, .ref c] ∧ LD H a ds ∧ ds.length ≤ 60 ∧ H c = some (.lst (ms.map V.int)) ∧
  ∀ r es H', Same H H' → H r = none → LD H' r es → (∀ e ∈ es, e ∈ ds) → es.length = ds.length → Q (.ref r) H'
def spExch : Sp := fun vs H Q _ => ∃ (x y : V) (k : Int) (d e : D3), vs = [x, .int k, y] ∧ T3 H x d ∧ T3 H y e ∧ okD d ∧ okD e ∧ ∀ z g H', Same H H' → T3 H' z g → okD g → Q z H'
def spChanged : Sp := fun vs H Q _ => ∃ (a : Addr) (kd cell l : Int) (ds : List D3), vs = [.ref a, .int kd, .int cell, .int l] ∧ LD H a ds ∧ (∀ d ∈ ds, okD d) ∧ ds.length ≤ 60 ∧ 0 ≤ l ∧ l ≤ 2 ^ 55 ∧
  ∀ r es e H', Same H H' → LD H' r es → (∀ x ∈ es, x ∈ ds ∨ x = e) → okD e → es.length ≤ 89 → Q (.ref r) H'
end L2

end

section
namespace L2
open PySem PySem.Spec PyProof.Rows
/-! ### how often, by one way of comparing -/
section
variable {α : Type} [DecidableEq α]
def cnt (d : α) (l : List α) : Nat := l.count d
theorem cnt_app (d : α) (l m : List α) : cnt d (l ++ m) = cnt d l + cnt d m := List.count_append
theorem cnt_self (d : α) : cnt d [d] = 1 := List.count_singleton_self
theorem cnt_ne {d x : α} (h : ¬ x = d) : cnt d [x] = 0 := by unfold cnt; rw [List.count_singleton]; simp [h]
theorem cnt_zero {d : α} {l : List α} (h : d ∉ l) : cnt d l = 0 := List.count_eq_zero.mpr h
theorem cnt_pos {d : α} {l : List α} (h : 0 < cnt d l) : d ∈ l := List.count_pos_iff.mp h
theorem cnt_le (d : α) (l : List α) : cnt d l ≤ l.length := List.count_le_length
theorem cnt_sub {l m : List α} (h : l.Sublist m) (d : α) : cnt d l ≤ cnt d m := h.count_le _
theorem cnt_perm {l m : List α} (h : l.Perm m) (d : α) : cnt d l = cnt d m := h.count_eq d
end
/-! ### the places of a deed in a row -/
def posOf (d : D3) (l : List D3) : List Nat := (List.range l.length).filter fun i => decide (l[i]? = some d)
theorem posOf_snoc (d x : D3) (l : List D3) : posOf d (l ++ [x]) = posOf d l ++ (if x = d then [l.length] else []) := by
  unfold posOf
  rw [List.length_append, List.length_singleton, List.range_succ, List.filter_append]
  have e1 : (List.range l.length).filter (fun i => decide ((l ++ [x])[i]? = some d)) = (List.range l.length).filter fun i => decide (l[i]? = some d) := by
    refine List.filter_congr fun i hi => ?_
    rw [List.getElem?_append_left (List.mem_range.mp hi)]
  rw [e1]
  congr 1
  by_cases c : x = d
  · rw [if_pos c, List.filter_cons, if_pos (by rw [List.getElem?_concat_length, c]; exact decide_eq_true rfl)]; rfl
  · rw [if_neg c, List.filter_cons, if_neg (by rw [List.getElem?_concat_length]; simpa using c)]; rfl
theorem snoc_ind {P : List D3 → Prop} (h0 : P []) (h1 : ∀ l x, P l → P (l ++ [x])) : ∀ l, P l := by
  have key : ∀ n l, l.length = n → P l := by
    intro n
    induction n with
    | zero => intro l e; rw [List.length_eq_zero_iff.mp e]; exact h0
    | succ n ih =>
      intro l e
      have hne : l ≠ [] := fun z => by rw [z] at e; cases e
      rw [← List.dropLast_concat_getLast hne]
      exact h1 _ _ (ih _ (by rw [List.length_dropLast]; omega))
  exact fun l => key _ l rfl
theorem posOf_len (d : D3) (l : List D3) : (posOf d l).length = (cnt d l) := by
  refine snoc_ind (P := fun l => (posOf d l).length = (cnt d l)) rfl (fun l x ih => ?_) l
  rw [posOf_snoc, List.length_append, ih, cnt_app]
  by_cases c : x = d
  · subst c
    rw [if_pos rfl, cnt_self]; rfl
  · rw [if_neg c, cnt_ne c]; rfl
theorem posOf_at (d : D3) (l : List D3) : ∀ j p, (posOf d l)[j]? = some p → l[p]? = some d ∧ (cnt d (l.take p)) = j := by
  refine snoc_ind (P := fun l => ∀ j p, (posOf d l)[j]? = some p → l[p]? = some d ∧ (cnt d (l.take p)) = j) (fun j p h => by simp [posOf] at h) (fun l x ih j p h => ?_) l
  rw [posOf_snoc] at h
  by_cases hj : j < (posOf d l).length
  · rw [List.getElem?_append_left hj] at h
    obtain ⟨a, b⟩ := ih j p h
    have hp : p < l.length := (List.getElem?_eq_some_iff.mp a).1
    exact ⟨by rw [List.getElem?_append_left hp]; exact a, by rw [List.take_append_of_le_length (by omega)]; exact b⟩
  · rw [List.getElem?_append_right (by omega)] at h
    by_cases c : x = d
    · rw [if_pos c] at h
      have e : j - (posOf d l).length = 0 := by
        have := (List.getElem?_eq_some_iff.mp h).1
        simpa using this
      rw [e] at h
      have hp : l.length = p := by simpa using h
      subst hp
      refine ⟨by rw [List.getElem?_concat_length, c], ?_⟩
      rw [List.take_append_of_le_length (Nat.le_refl _), List.take_length, ← posOf_len]
      omega
    · rw [if_neg c] at h; cases h
/-! ### alike, as the law counts -/
def AlkP (xs ys : List D3) : Prop := ∃ f, Mate xs ys f ∧ xs.length = ys.length ∧ Kept clashB xs f
theorem alk_all {xs ys : List D3} {g : Nat → Nat} (M : Mate xs ys g) (hl : xs.length = ys.length) (h : ∀ p q a b, p < q → xs[p]? = some a → xs[q]? = some b → ¬ (g p > g q ∧ clashB a b = true)) : AlkP xs ys :=
  ⟨g, M, hl, fun p q a b hpq ha hb c => by
    have n1 := h p q a b hpq ha hb
    have n2 : g p ≠ g q := fun e => by have := M.inj ha hb e; omega
    have n3 : ¬ g p > g q := fun z => n1 ⟨z, c⟩
    omega⟩
/-! ### the law's dicts -/
/-- at each deed of l the list of its places -/
def Spots (H0 H : Hp) (sp : Addr) (l : List D3) : Prop := ∃ kvs, H sp = some (.dT kvs) ∧ kvs.length ≤ l.length ∧ (∀ d, d ∉ l → valV kvs (kd d) = none) ∧
  (∀ d, d ∈ l → ∃ b, valV kvs (kd d) = some (.ref b) ∧ H b = some (.lst (ixs (posOf d l))) ∧ H0 b = none) ∧ ∀ d e b, valV kvs (kd d) = some (.ref b) → valV kvs (kd e) = some (.ref b) → d = e
/-- at each deed how often it comes -/
def Ahead (H : Hp) (ad : Addr) (l : List D3) : Prop := ∃ kvs, H ad = some (.dT kvs) ∧ kvs.length ≤ l.length ∧ ∀ d, (valV kvs (kd d)).getD (.int 0) = .int ((cnt d l) : Nat) ∧ (d ∈ l → valV kvs (kd d) = some (.int ((cnt d l) : Nat)))
theorem valV_kd (kvs : List (List Key × V)) (d e : D3) (v : V) : valV (putK kvs (kd d) v) (kd e) = if e = d then some v else valV kvs (kd e) := by
  rw [valV_put]
  by_cases c : e = d
  · rw [if_pos c, if_pos (by rw [c])]
  · rw [if_neg c, if_neg (fun z => c (kd_inj z))]
theorem Spots.nil {H0 H : Hp} {sp : Addr} (h : H sp = some (.dT [])) : Spots H0 H sp [] := ⟨[], h, Nat.le_refl _, fun _ _ => rfl, (fun _ z => nomatch z), (fun d e b z => nomatch z)⟩
theorem Spots.same {H0 H H' : Hp} {sp : Addr} {l : List D3} (S : Same H H') (h : Spots H0 H sp l) : Spots H0 H' sp l := by
  obtain ⟨kvs, a, b, c, d, e⟩ := h
  exact ⟨kvs, S _ _ a, b, c, fun x hx => let ⟨b, q1, q2, q3⟩ := d x hx; ⟨b, q1, S _ _ q2, q3⟩, e⟩
theorem Spots.wr {H0 H : Hp} {sp t : Addr} {l : List D3} {o : HO} (h : Spots H0 H sp l) (h1 : t ≠ sp) (h2 : ∀ vs, H t ≠ some (.lst vs)) : Spots H0 (upd H t o) sp l := by
  obtain ⟨kvs, a, b, c, d, e⟩ := h
  refine ⟨kvs, by rw [upd_ne (Ne.symm h1)]; exact a, b, c, fun x hx => ?_, e⟩
  obtain ⟨b, q1, q2, q3⟩ := d x hx
  exact ⟨b, q1, by rw [upd_ne (fun z => h2 _ (z ▸ q2))]; exact q2, q3⟩
theorem Spots.wrL {H0 H : Hp} {sp t : Addr} {l : List D3} {o : HO} (h : Spots H0 H sp l) (h1 : t ≠ sp) (h2 : ∀ d b', (∃ kvs, H sp = some (.dT kvs) ∧ valV kvs (kd d) = some (.ref b')) → b' ≠ t) : Spots H0 (upd H t o) sp l := by
  obtain ⟨kvs, a, b, c, d, e⟩ := h
  refine ⟨kvs, by rw [upd_ne (Ne.symm h1)]; exact a, b, c, fun x hx => ?_, e⟩
  obtain ⟨b, q1, q2, q3⟩ := d x hx
  exact ⟨b, q1, by rw [upd_ne (h2 x b ⟨kvs, a, q1⟩)]; exact q2, q3⟩
theorem mate_snoc {l ys : List D3} {fs : List Nat} {d : D3} {p : Nat} (M : Mate l ys (fun p => fs.getD p 0)) (hl : fs.length = l.length) (h1 : ys[p]? = some d) (h2 : (cnt d (ys.take p)) = (cnt d l)) : Mate (l ++ [d]) ys (fun q => (fs ++ [p]).getD q 0) := by
  intro q a hq
  by_cases c : q < l.length
  · rw [List.getElem?_append_left c] at hq
    obtain ⟨m1, m2⟩ := M q a hq
    dsimp only at m1 m2 ⊢
    have e : (fs ++ [p]).getD q 0 = fs.getD q 0 := by
      rw [List.getD_eq_getElem?_getD, List.getElem?_append_left (by omega), ← List.getD_eq_getElem?_getD]
    rw [e, List.take_append_of_le_length (by omega)]
    exact ⟨m1, m2⟩
  · have hlt := (List.getElem?_eq_some_iff.mp hq).1
    rw [List.length_append, List.length_singleton] at hlt
    have e : q = l.length := by omega
    subst e
    rw [List.getElem?_concat_length] at hq
    cases hq
    have e : (fs ++ [p]).getD l.length 0 = p := by
      rw [List.getD_eq_getElem?_getD, ← hl, List.getElem?_concat_length]; rfl
    dsimp only
    rw [e, List.take_append_of_le_length (Nat.le_refl _), List.take_length]
    exact ⟨h1, h2⟩
theorem ixs_snoc (l : List Nat) (k : Nat) : ixs (l ++ [k]) = ixs l ++ [V.int (k : Int)] := by unfold ixs; rw [List.map_append]; rfl
/-- one more place at a deed that is there -/
theorem Spots.more {H0 H : Hp} {sp b : Addr} {l : List D3} {d : D3} {kvs : List (List Key × V)} (h : Spots H0 H sp l) (hk : H sp = some (.dT kvs)) (hd : d ∈ l) (hb : valV kvs (kd d) = some (.ref b)) (hl : H b = some (.lst (ixs (posOf d l)))) : Spots H0 (upd H b (.lst (ixs (posOf d l) ++ [V.int (l.length : Int)]))) sp (l ++ [d]) := by
  obtain ⟨kvs', a, lb, c, dd, e⟩ := h
  rw [a] at hk
  cases hk
  have nb : sp ≠ b := fun z => by rw [z, hl] at a; cases a
  refine ⟨kvs, by rw [upd_ne nb]; exact a, by rw [List.length_append]; omega, fun x hx => c x fun z => hx (List.mem_append_left _ z), fun x hx => ?_, e⟩
  have hx' : x ∈ l := by
    rcases List.mem_append.mp hx with z | z
    · exact z
    · rw [List.mem_singleton.mp z]; exact hd
  obtain ⟨b', q1, q2, q3⟩ := dd x hx'
  refine ⟨b', q1, ?_, q3⟩
  rw [posOf_snoc]
  by_cases cx : d = x
  · subst cx
    rw [hb] at q1
    cases q1
    rw [if_pos rfl, ixs_snoc]
    exact upd_same
  · rw [if_neg cx, List.append_nil, upd_ne (fun z => cx (e d x b hb (by rw [← z]; exact q1)))]
    exact q2
/-- a deed that was not there -/
theorem Spots.first {H0 H : Hp} {sp b : Addr} {l : List D3} {d : D3} {kvs : List (List Key × V)} (h : Spots H0 H sp l) (hk : H sp = some (.dT kvs)) (hd : d ∉ l) (h0 : H0 b = none) (hl : H b = some (.lst [])) (hn : ∀ x c, valV kvs (kd x) = some (.ref c) → c ≠ b) :
    Spots H0 (upd (upd H sp (.dT (putK kvs (kd d) (.ref b)))) b (.lst [V.int (l.length : Int)])) sp (l ++ [d]) := by
  obtain ⟨kvs', a, lb, c, dd, e⟩ := h
  rw [a] at hk
  cases hk
  have nb : sp ≠ b := fun z => by rw [z, hl] at a; cases a
  refine ⟨putK kvs (kd d) (.ref b), by rw [upd_ne nb, upd_same], ?_, fun x hx => ?_, fun x hx => ?_, fun x y b' h1 h2 => ?_⟩
  · rw [List.length_append, List.length_singleton]
    have := length_putK kvs (kd d) (.ref b)
    omega
  · rw [valV_kd, if_neg (fun z => hx (by rw [z]; simp))]
    exact c x fun z => hx (List.mem_append_left _ z)
  · rw [valV_kd, posOf_snoc]
    by_cases cx : x = d
    · subst cx
      rw [if_pos rfl, if_pos rfl]
      refine ⟨b, rfl, ?_, h0⟩
      have e0 : posOf x l = [] := List.length_eq_zero_iff.mp (by rw [posOf_len]; exact cnt_zero hd)
      rw [e0]
      exact upd_same
    · rw [if_neg cx, if_neg (fun z => cx z.symm), List.append_nil]
      have hx' : x ∈ l := by
        rcases List.mem_append.mp hx with z | z
        · exact z
        · exact absurd (List.mem_singleton.mp z) cx
      obtain ⟨b', q1, q2, q3⟩ := dd x hx'
      refine ⟨b', q1, ?_, q3⟩
      rw [upd_ne (hn x b' q1), upd_ne (fun z => by rw [z, a] at q2; cases q2)]
      exact q2
  · rw [valV_kd] at h1 h2
    by_cases cx : x = d
    · rw [if_pos cx] at h1
      by_cases cy : y = d
      · rw [cx, cy]
      · rw [if_neg cy] at h2
        cases h1
        exact absurd rfl (hn y b h2)
    · rw [if_neg cx] at h1
      by_cases cy : y = d
      · rw [if_pos cy] at h2
        cases h2
        exact absurd rfl (hn x b h1)
      · rw [if_neg cy] at h2
        exact e x y b' h1 h2
theorem Ahead.nil {H : Hp} {ad : Addr} (h : H ad = some (.dT [])) : Ahead H ad [] := ⟨[], h, Nat.le_refl _, fun _ => ⟨rfl, (fun z => nomatch z)⟩⟩
theorem Ahead.same {H H' : Hp} {ad : Addr} {l : List D3} (S : Same H H') (h : Ahead H ad l) : Ahead H' ad l := let ⟨kvs, a, b⟩ := h; ⟨kvs, S _ _ a, b⟩
theorem Ahead.wr {H : Hp} {ad t : Addr} {l : List D3} {o : HO} (h : Ahead H ad l) (h1 : t ≠ ad) : Ahead (upd H t o) ad l := let ⟨kvs, a, b⟩ := h; ⟨kvs, by rw [upd_ne (Ne.symm h1)]; exact a, b⟩
theorem Ahead.more {H : Hp} {ad : Addr} {l : List D3} {d : D3} {kvs : List (List Key × V)} (hk : H ad = some (.dT kvs)) (hz : kvs.length ≤ l.length) (h : ∀ d, (valV kvs (kd d)).getD (.int 0) = .int ((cnt d l) : Nat) ∧ (d ∈ l → valV kvs (kd d) = some (.int ((cnt d l) : Nat)))) :
    Ahead (upd H ad (.dT (putK kvs (kd d) (.int (((cnt d l) : Nat) + 1))))) ad (l ++ [d]) := by
  refine ⟨_, upd_same, ?_, fun x => ?_⟩
  · rw [List.length_append, List.length_singleton]
    have := length_putK kvs (kd d) (.int (((cnt d l) : Nat) + 1))
    omega
  · rw [valV_kd, cnt_app]
    by_cases cx : x = d
    · subst cx
      rw [if_pos rfl, cnt_self]
      exact ⟨rfl, fun _ => rfl⟩
    · have e1 : cnt x [d] = 0 := cnt_ne fun z => cx z.symm
      rw [if_neg cx, e1, Nat.add_zero]
      refine ⟨(h x).1, fun hx => (h x).2 ?_⟩
      rcases List.mem_append.mp hx with z | z
      · exact z
      · exact absurd (List.mem_singleton.mp z) cx
end L2

end

section
namespace L2
open PySem PySem.Spec PyProof.Rows
/-! ### layers tell whether two diaries are alike -/
end L2

end

section
namespace L2
open PySem
/-! ### the table of a set, purely -/
abbrev Prb := SetTable.Probe
def Rising (xs : Array Nat) : Prop := ∀ i k x y : Nat, i < k → xs[i]? = some x → xs[k]? = some y → x < y
theorem blw_go {xs : Array Nat} {j : Nat} (hs : Rising xs) : ∀ (fuel lo hi : Nat), hi - lo ≤ fuel → lo ≤ hi → hi ≤ xs.size →
    (∀ i x, i < lo → xs[i]? = some x → x < j) → (∀ i x, hi ≤ i → xs[i]? = some x → j ≤ x) →
    ∃ r, SetTable.below.go xs j fuel lo hi = r ∧ r ≤ xs.size ∧ (∀ i x, i < r → xs[i]? = some x → x < j) ∧ (∀ i x, r ≤ i → xs[i]? = some x → j ≤ x) := by
  intro fuel
  induction fuel with
  | zero =>
    intro lo hi h1 h2 h3 h4 h5
    have : lo = hi := by omega
    subst this
    exact ⟨lo, rfl, h3, h4, h5⟩
  | succ fuel ih =>
    intro lo hi h1 h2 h3 h4 h5
    unfold SetTable.below.go
    by_cases hl : lo < hi
    · rw [if_pos hl]
      dsimp only
      have hm : (lo + hi) / 2 < xs.size := by omega
      obtain ⟨v, hv⟩ : ∃ v, xs[(lo + hi) / 2]? = some v := ⟨xs[(lo + hi) / 2], Array.getElem?_eq_getElem hm⟩
      have hg : xs.getD ((lo + hi) / 2) j = v := by rw [Array.getD_eq_getD_getElem?, hv]; rfl
      rw [hg]
      by_cases hc : v < j
      · rw [if_pos hc]
        refine ih _ _ (by omega) (by omega) h3 (fun i x hi' hx => ?_) h5
        rcases Nat.lt_or_ge i ((lo + hi) / 2) with h | h
        · exact Nat.lt_trans (hs _ _ _ _ h hx hv) hc
        · have : i = (lo + hi) / 2 := by omega
          rw [this, hv] at hx; cases hx; exact hc
      · rw [if_neg hc]
        refine ih _ _ (by omega) (by omega) (by omega) h4 (fun i x hi' hx => ?_)
        rcases Nat.lt_or_ge ((lo + hi) / 2) i with h | h
        · exact Nat.le_of_lt (Nat.lt_of_le_of_lt (Nat.not_lt.mp hc) (hs _ _ _ _ h hv hx))
        · have : i = (lo + hi) / 2 := by omega
          rw [this, hv] at hx; cases hx; exact Nat.not_lt.mp hc
    · rw [if_neg hl]
      have : lo = hi := by omega
      subst this
      exact ⟨lo, rfl, h3, h4, h5⟩
theorem blw {xs : Array Nat} (hs : Rising xs) (j : Nat) : SetTable.below xs j ≤ xs.size ∧ (∀ i x, i < SetTable.below xs j → xs[i]? = some x → x < j)
    ∧ (∀ i x, SetTable.below xs j ≤ i → xs[i]? = some x → j ≤ x) := by
  obtain ⟨r, e, h⟩ := blw_go (j := j) hs xs.size 0 xs.size (by omega) (by omega) (by omega) (fun i x h => absurd h (by omega)) (fun i x h hx => by
    have := (Array.getElem?_eq_some_iff.mp hx).1; omega)
  unfold SetTable.below
  rw [e]; exact h
theorem blw_at {xs : Array Nat} (hs : Rising xs) {i j : Nat} (h : xs[i]? = some j) : SetTable.below xs j = i := by
  obtain ⟨h1, h2, h3⟩ := blw hs j
  rcases Nat.lt_trichotomy (SetTable.below xs j) i with c | c | c
  · obtain ⟨v, hv⟩ : ∃ v, xs[SetTable.below xs j]? = some v := ⟨_, Array.getElem?_eq_getElem (Nat.lt_trans c (Array.getElem?_eq_some_iff.mp h).1)⟩
    have := h3 _ _ (Nat.le_refl _) hv
    have := hs _ _ _ _ c hv h
    omega
  · exact c
  · have := h2 _ _ c h; omega
def Occ (t : SetTable) (j : Nat) : Prop := ∃ i : Nat, t.place[i]? = some j
theorem slot_live {t : SetTable} (hs : Rising t.place) {i j : Nat} (h : t.place[i]? = some j) : t.slot j = .live i := by
  unfold SetTable.slot
  dsimp only
  rw [blw_at hs h, h, if_pos (by exact beq_self_eq_true _)]
theorem slot_free {t : SetTable} (hd : t.dummies = #[]) {j : Nat} (h : ¬ Occ t j) : t.slot j = .empty := by
  unfold SetTable.slot
  dsimp only
  rw [if_neg (fun e => h ⟨_, eq_of_beq e⟩), hd]
  rfl
theorem insAt_get {α : Type} (xs : Array α) (p : Nat) (x : α) (hp : p ≤ xs.size) (i : Nat) :
    (SetTable.insertAt xs p x)[i]? = if i < p then xs[i]? else if i = p then some x else xs[i - 1]? := by
  have e : (SetTable.insertAt xs p x).toList = xs.toList.take p ++ x :: xs.toList.drop p := by
    unfold SetTable.insertAt; simp [List.take_of_length_le]
  rw [← Array.getElem?_toList, e]
  have hl : (xs.toList.take p).length = p := by simp; omega
  split
  · rename_i h
    rw [List.getElem?_append_left (by omega), List.getElem?_take_of_lt h, Array.getElem?_toList]
  · split
    · rename_i h h'
      rw [List.getElem?_append_right (by omega), hl, h', Nat.sub_self]; rfl
    · rename_i h h'
      rw [List.getElem?_append_right (by omega), hl]
      obtain ⟨d, hd⟩ : ∃ d, i - p = d + 1 := ⟨i - p - 1, by omega⟩
      rw [hd, List.getElem?_cons_succ, List.getElem?_drop, Array.getElem?_toList]
      congr 1; omega
theorem insAt_size {α : Type} (xs : Array α) (p : Nat) (x : α) (hp : p ≤ xs.size) : (SetTable.insertAt xs p x).size = xs.size + 1 := by
  unfold SetTable.insertAt; simp; omega
theorem rising_ins {xs : Array Nat} (hs : Rising xs) {j : Nat} (hn : ∀ i : Nat, xs[i]? ≠ some j) : Rising (SetTable.insertAt xs (SetTable.below xs j) j) := by
  obtain ⟨h1, h2, h3⟩ := blw hs j
  intro i k x y hik hx hy
  rw [insAt_get _ _ _ h1] at hx hy
  have key : ∀ b z, SetTable.below xs j ≤ b → xs[b]? = some z → j < z := fun b z hb hz => by
    have a := h3 b z hb hz
    rcases Nat.lt_or_ge j z with c | c
    · exact c
    · have : z = j := by omega
      rw [this] at hz; exact absurd hz (hn b)
  split at hx
  · split at hy
    · exact hs _ _ _ _ hik hx hy
    · split at hy
      · cases hy; exact h2 _ _ (by assumption) hx
      · exact Nat.lt_trans (h2 _ _ (by assumption) hx) (key _ _ (by omega) hy)
  · split at hx
    · cases hx
      split at hy
      · omega
      · split at hy
        · omega
        · exact key _ _ (by omega) hy
    · split at hy
      · omega
      · split at hy
        · omega
        · exact hs _ _ _ _ (by omega) hx hy
/-! ### the way of a search -/
def adv (m : Nat) (p : Prb) : Prb := (SetTable.mk m #[] #[] 0 true 0 true).advance p
theorem adv_eq (t : SetTable) (p : Prb) : t.advance p = adv t.mask p := rfl
def ath (m : Nat) : Nat → Prb → Prb
  | 0, p => p
  | k + 1, p => ath m k (adv m p)
theorem ath_add (m : Nat) : ∀ (a b : Nat) (p : Prb), ath m (a + b) p = ath m b (ath m a p)
  | 0, b, p => by rw [Nat.zero_add]; rfl
  | a + 1, b, p => by rw [Nat.succ_add]; exact ath_add m a b (adv m p)
def fresh (m i pt : Nat) : Prb := ⟨i, SetTable.runEnd m i - i, i, pt, none⟩
def begin0 (m : Nat) (h : Int) : Prb := fresh m (SetTable.bits h % (m + 1)) (SetTable.bits h)
theorem begin_eq (t : SetTable) (h : Int) : t.probeStart h = begin0 t.mask h := rfl
theorem ath_run (m i pt : Nat) : ∀ d, d ≤ SetTable.runEnd m i - i → ath m d (fresh m i pt) = ⟨i + d, SetTable.runEnd m i - i - d, i, pt, none⟩ := by
  intro d
  induction d with
  | zero => intro _; rfl
  | succ d ih =>
    intro h
    rw [ath_add m d 1, ih (by omega)]
    show adv m _ = _
    unfold adv SetTable.advance
    dsimp only
    rw [if_pos (by omega)]
    congr 1
theorem run_le (m i : Nat) : SetTable.runEnd m i - i ≤ 9 := by unfold SetTable.runEnd; split <;> omega
theorem ath_leap (m i pt : Nat) : ath m (SetTable.runEnd m i - i + 1) (fresh m i pt) = fresh m (SetTable.leap m i pt).1 (SetTable.leap m i pt).2 := by
  rw [ath_add, ath_run m i pt _ (Nat.le_refl _)]
  show adv m _ = _
  unfold adv SetTable.advance
  dsimp only
  rw [if_neg (by omega)]
  rfl
def lps (m : Nat) : Nat → Nat × Nat → Nat × Nat
  | 0, q => q
  | k + 1, q => lps m k (SetTable.leap m q.1 q.2)
theorem lps_add (m : Nat) : ∀ (a b : Nat) (q : Nat × Nat), lps m (a + b) q = lps m b (lps m a q)
  | 0, b, q => by rw [Nat.zero_add]; rfl
  | a + 1, b, q => by rw [Nat.succ_add]; exact lps_add m a b _
theorem ath_lps (m : Nat) : ∀ (n : Nat) (i pt : Nat), ∃ K, K ≤ 10 * n ∧ ath m K (fresh m i pt) = fresh m (lps m n (i, pt)).1 (lps m n (i, pt)).2 := by
  intro n
  induction n with
  | zero => intro i pt; exact ⟨0, by omega, rfl⟩
  | succ n ih =>
    intro i pt
    obtain ⟨K, hK, e⟩ := ih (SetTable.leap m i pt).1 (SetTable.leap m i pt).2
    refine ⟨SetTable.runEnd m i - i + 1 + K, ?_, ?_⟩
    · have := run_le m i; omega
    · rw [ath_add, ath_leap, e]; rfl
theorem lps_pt (m : Nat) : ∀ (n i pt : Nat), (lps m n (i, pt)).2 = pt / 32 ^ n := by
  intro n
  induction n with
  | zero => intro i pt; simp [lps]
  | succ n ih =>
    intro i pt
    show (lps m n (SetTable.leap m i pt)).2 = _
    rw [show SetTable.leap m i pt = ((SetTable.leap m i pt).1, (SetTable.leap m i pt).2) from rfl, ih]
    show pt / 32 / 32 ^ n = _
    rw [Nat.div_div_eq_div_mul, Nat.pow_succ, Nat.mul_comm]
theorem lps_le (m : Nat) : ∀ (n i pt : Nat), i ≤ m → (lps m n (i, pt)).1 ≤ m := by
  intro n
  induction n with
  | zero => intro i pt h; exact h
  | succ n ih =>
    intro i pt h
    show (lps m n (SetTable.leap m i pt)).1 ≤ m
    rw [show SetTable.leap m i pt = ((SetTable.leap m i pt).1, (SetTable.leap m i pt).2) from rfl]
    refine ih _ _ ?_
    show (i * 5 + 1 + pt / 32) % (m + 1) ≤ m
    have := Nat.mod_lt (i * 5 + 1 + pt / 32) (show 0 < m + 1 by omega)
    omega
/-! #### the ring of five times and one -/
def rg (m : Nat) : Nat → Nat → Nat
  | 0, i => i
  | k + 1, i => rg m k ((i * 5 + 1) % (m + 1))
theorem rg_add (m : Nat) : ∀ (a b i : Nat), rg m (a + b) i = rg m b (rg m a i)
  | 0, b, i => by rw [Nat.zero_add]; rfl
  | a + 1, b, i => by rw [Nat.succ_add]; exact rg_add m a b _
theorem lps_rg (m : Nat) : ∀ (n i : Nat), (lps m n (i, 0)).1 = rg m n i := by
  intro n
  induction n with
  | zero => intro i; rfl
  | succ n ih =>
    intro i
    show (lps m n (SetTable.leap m i 0)).1 = rg m n _
    rw [← ih]
    rfl
def orb (m : Nat) : Nat → Nat → List Nat
  | 0, _ => []
  | k + 1, i => i :: orb m k ((i * 5 + 1) % (m + 1))
theorem orb_mem (m : Nat) : ∀ (n i j : Nat), j ∈ orb m n i → ∃ k, k < n ∧ rg m k i = j := by
  intro n
  induction n with
  | zero => intro i j h; cases h
  | succ n ih =>
    intro i j h
    rcases List.mem_cons.mp h with e | h
    · exact ⟨0, by omega, e.symm⟩
    · obtain ⟨k, hk, e⟩ := ih _ _ h
      exact ⟨k + 1, by omega, e⟩
def Msk (m : Nat) : Prop := m = 7 ∨ m = 31 ∨ m = 127
def ringOk (m : Nat) : Bool := (List.range (m + 1)).all (fun j => (orb m (m + 1) 0).contains j) && rg m (m + 1) 0 == 0
theorem ring_ok {m : Nat} (h : Msk m) : ringOk m = true := by
  rcases h with rfl | rfl | rfl <;> decide +kernel
theorem ring_all {m : Nat} (h : Msk m) {i j : Nat} (hi : i ≤ m) (hj : j ≤ m) : ∃ k, k ≤ m ∧ rg m k i = j := by
  have := ring_ok h
  unfold ringOk at this
  rw [Bool.and_eq_true, List.all_eq_true, beq_iff_eq] at this
  obtain ⟨a, ha, ea⟩ := orb_mem m _ _ _ (List.contains_iff_mem.mp (this.1 i (List.mem_range.mpr (by omega))))
  obtain ⟨b, hb, eb⟩ := orb_mem m _ _ _ (List.contains_iff_mem.mp (this.1 j (List.mem_range.mpr (by omega))))
  rcases Nat.lt_or_ge b a with c | c
  · refine ⟨b + (m + 1) - a, by omega, ?_⟩
    rw [← ea, ← rg_add, show a + (b + (m + 1) - a) = (m + 1) + b from by omega, rg_add, this.2, eb]
  · refine ⟨b - a, by omega, ?_⟩
    rw [← ea, ← rg_add, show a + (b - a) = b from by omega, eb]
theorem cover_lps {m : Nat} (h : Msk m) {i pt j : Nat} (hi : i ≤ m) (hpt : pt < 2 ^ 64) (hj : j ≤ m) : ∃ n, n ≤ m + 13 ∧ (lps m n (i, pt)).1 = j := by
  have e : lps m 13 (i, pt) = ((lps m 13 (i, pt)).1, 0) := by
    refine Prod.ext rfl ?_
    show (lps m 13 (i, pt)).2 = 0
    rw [lps_pt]
    exact Nat.div_eq_of_lt (Nat.lt_of_lt_of_le hpt (by decide))
  obtain ⟨k, hk, ek⟩ := ring_all h (lps_le m 13 i pt hi) hj
  refine ⟨13 + k, by omega, ?_⟩
  rw [lps_add, e, lps_rg, ek]
theorem bits_lt (h : Int) : SetTable.bits h < 2 ^ 64 := by
  unfold SetTable.bits
  have := Int.emod_lt_of_pos h (show (0 : Int) < 2 ^ 64 by decide)
  have := Int.emod_nonneg h (show (2 ^ 64 : Int) ≠ 0 by decide)
  omega
theorem cover {m : Nat} (hm : Msk m) (h : Int) {j : Nat} (hj : j ≤ m) : ∃ K, K < 10 * SetTable.turns m ∧ (ath m K (begin0 m h)).j = j := by
  have hi : SetTable.bits h % (m + 1) ≤ m := by have := Nat.mod_lt (SetTable.bits h) (show 0 < m + 1 by omega); omega
  obtain ⟨n, hn, en⟩ := cover_lps hm hi (bits_lt h) hj
  obtain ⟨K, hK, eK⟩ := ath_lps m n (SetTable.bits h % (m + 1)) (SetTable.bits h)
  refine ⟨K, by unfold SetTable.turns; omega, ?_⟩
  unfold begin0
  rw [eK]; exact en
theorem ath_le {m : Nat} (h : Int) : ∀ k, (ath m k (begin0 m h)).j ≤ m := by
  have key : ∀ k p, (p : Prb).j ≤ m → p.j + p.more ≤ m → (ath m k p).j ≤ m := by
    intro k
    induction k with
    | zero => intro p h1 _; exact h1
    | succ k ih =>
      intro p h1 h2
      show (ath m k (adv m p)).j ≤ m
      unfold adv SetTable.advance
      split
      · exact ih _ (by dsimp only; omega) (by dsimp only; omega)
      · have := Nat.mod_lt (p.i * 5 + 1 + p.perturb / 32) (show 0 < m + 1 by omega)
        refine ih _ ?_ ?_
        · show (p.i * 5 + 1 + p.perturb / 32) % (m + 1) ≤ m
          omega
        · show (p.i * 5 + 1 + p.perturb / 32) % (m + 1) + (SetTable.runEnd m ((p.i * 5 + 1 + p.perturb / 32) % (m + 1)) - (p.i * 5 + 1 + p.perturb / 32) % (m + 1)) ≤ m
          unfold SetTable.runEnd; split <;> omega
  intro k
  have := Nat.mod_lt (SetTable.bits h) (show 0 < m + 1 by omega)
  refine key k _ ?_ ?_
  · show SetTable.bits h % (m + 1) ≤ m
    omega
  · show SetTable.bits h % (m + 1) + (SetTable.runEnd m (SetTable.bits h % (m + 1)) - SetTable.bits h % (m + 1)) ≤ m
    unfold SetTable.runEnd; split <;> omega
/-! ### one search -/
theorem probe_go (t : SetTable) (hd : t.dummies = #[]) (hr : Rising t.place) (g : Nat → Int) (h : Int) : ∀ (K F : Nat) (p : Prb), K < F →
    (∀ k, k < K → Occ t (ath t.mask k p).j) → ¬ Occ t (ath t.mask K p).j → p.dummy = none →
    (SetTable.probe.go t g h F p = some (.empty (ath t.mask K p).j none) ∧ ∀ k i, k < K → t.place[i]? = some (ath t.mask k p).j → g i ≠ h) ∨
    (∃ k i, k < K ∧ t.place[i]? = some (ath t.mask k p).j ∧ g i = h ∧ SetTable.probe.go t g h F p = some (.candidate (ath t.mask k p).j i (ath t.mask (k + 1) p))
      ∧ ∀ k' i', k' < k → t.place[i']? = some (ath t.mask k' p).j → g i' ≠ h) := by
  intro K
  induction K with
  | zero =>
    intro F p hF _ hn hp
    left
    obtain ⟨F, rfl⟩ : ∃ F', F = F' + 1 := ⟨F - 1, by omega⟩
    refine ⟨?_, fun k i hk => absurd hk (by omega)⟩
    unfold SetTable.probe.go
    rw [show p.j = (ath t.mask 0 p).j from rfl, slot_free hd hn]
    dsimp only
    rw [hp]
  | succ K ih =>
    intro F p hF ho hn hp
    obtain ⟨F, rfl⟩ : ∃ F', F = F' + 1 := ⟨F - 1, by omega⟩
    obtain ⟨i, hi⟩ := ho 0 (by omega)
    have hl := slot_live hr hi
    unfold SetTable.probe.go
    rw [show p.j = (ath t.mask 0 p).j from rfl, hl]
    dsimp only
    by_cases hg : g i = h
    · right
      refine ⟨0, i, by omega, hi, hg, ?_, fun k' i' hk => absurd hk (by omega)⟩
      rw [if_pos (by rw [hg]; exact beq_self_eq_true _)]
      rfl
    · rw [if_neg (by rw [beq_iff_eq]; exact hg), adv_eq]
      have hone : ∀ i' : Nat, t.place[i']? = some (ath t.mask 0 p).j → g i' ≠ h := fun i' hi' => by
        have := slot_live hr hi'
        rw [hl] at this; cases this; exact hg
      have hdm : (adv t.mask p).dummy = none := by
        unfold adv SetTable.advance; split <;> exact hp
      rcases ih F (adv t.mask p) (by omega) (fun k hk => ho (k + 1) (by omega)) hn hdm with ⟨e, hh⟩ | ⟨k, i', hk, hi', hgi, e, hh⟩
      · left
        refine ⟨e, fun k i' hk hi' => ?_⟩
        cases k with
        | zero => exact hone i' hi'
        | succ k => exact hh k i' (by omega) hi'
      · right
        refine ⟨k + 1, i', by omega, hi', hgi, e, fun k' i'' hk' hi'' => ?_⟩
        cases k' with
        | zero => exact hone i'' hi''
        | succ k' => exact hh k' i'' (by omega) hi''
/-! ### what a table keeps -/
structure TabOk {α : Type} (t : SetTable) (es : Array (Int × α)) : Prop where
  msk : Msk t.mask
  nod : t.dummies = #[]
  siz : t.place.size = es.size
  ris : Rising t.place
  top : ∀ i j : Nat, t.place[i]? = some j → j ≤ t.mask
  rch : ∀ (i j : Nat) (e : Int × α), t.place[i]? = some j → es[i]? = some e → ∃ k, (ath t.mask k (begin0 t.mask e.1)).j = j ∧ ∀ k', k' < k → Occ t (ath t.mask k' (begin0 t.mask e.1)).j
theorem pigeon : ∀ (n : Nat) (f : Nat → Nat), (∀ i j, i < n → j < n → f i = f j → i = j) → (m : Nat) → (∀ i, i < n → f i < m) → n ≤ m := by
  intro n
  induction n with
  | zero => intro f _ m _; omega
  | succ n ih =>
    intro f hf m hm
    cases m with
    | zero => exact absurd (hm 0 (by omega)) (by omega)
    | succ m =>
      refine Nat.succ_le_succ (ih (fun i => if f i = m then f n else f i) (fun i j hi hj e => ?_) m (fun i hi => ?_))
      · have hn1 : f i ≠ f n := fun e => absurd (hf i n (by omega) (by omega) e) (by omega)
        have hn2 : f j ≠ f n := fun e => absurd (hf j n (by omega) (by omega) e) (by omega)
        split at e <;> split at e
        · exact hf i j (by omega) (by omega) (by omega)
        · exact absurd e.symm hn2
        · exact absurd e hn1
        · exact hf i j (by omega) (by omega) e
      · have h1 := hm i (by omega)
        have h2 := hm n (by omega)
        have hn1 : f i ≠ f n := fun e => absurd (hf i n (by omega) (by omega) e) (by omega)
        show (if f i = m then f n else f i) < m
        split <;> omega
theorem TabOk.gap {α : Type} {t : SetTable} {es : Array (Int × α)} (H : TabOk t es) (hs : es.size ≤ t.mask) : ∃ j, j ≤ t.mask ∧ ¬ Occ t j := by
  refine Classical.byContradiction fun hc => ?_
  have hall : ∀ j, j ≤ t.mask → Occ t j := fun j hj => Classical.byContradiction fun c => hc ⟨j, hj, c⟩
  have : ∀ j, ∃ i, j ≤ t.mask → t.place[i]? = some j := fun j => by
    by_cases hj : j ≤ t.mask
    · obtain ⟨i, hi⟩ := hall j hj; exact ⟨i, fun _ => hi⟩
    · exact ⟨0, fun c => absurd c hj⟩
  let f : Nat → Nat := fun j => Classical.choose (this j)
  have hf : ∀ j, j ≤ t.mask → t.place[f j]? = some j := fun j hj => Classical.choose_spec (this j) hj
  have := pigeon (t.mask + 1) f (fun i j hi hj e => by
    have a := hf i (by omega)
    have b := hf j (by omega)
    rw [e, b] at a; cases a; rfl) es.size (fun j hj => by
    have := (Array.getElem?_eq_some_iff.mp (hf j (by omega))).1
    rw [H.siz] at this; exact this)
  omega
theorem leastN {P : Nat → Prop} : ∀ n, P n → ∃ m, m ≤ n ∧ P m ∧ ∀ k, k < m → ¬ P k := by
  intro n
  induction n using Nat.strongRecOn with
  | ind n ih =>
    intro hp
    by_cases h : ∃ k, k < n ∧ P k
    · obtain ⟨k, hk, hpk⟩ := h
      obtain ⟨m, hm, h1, h2⟩ := ih k hk hpk
      exact ⟨m, by omega, h1, h2⟩
    · exact ⟨n, Nat.le_refl _, hp, fun k hk hpk => h ⟨k, hk, hpk⟩⟩
/-- where the search for a hash ends: the first free slot on its way -/
theorem TabOk.ends {α : Type} {t : SetTable} {es : Array (Int × α)} (H : TabOk t es) (hs : es.size ≤ t.mask) (h : Int) :
    ∃ K, K < 10 * SetTable.turns t.mask ∧ ¬ Occ t (ath t.mask K (begin0 t.mask h)).j ∧ (ath t.mask K (begin0 t.mask h)).j ≤ t.mask ∧ ∀ k, k < K → Occ t (ath t.mask k (begin0 t.mask h)).j := by
  obtain ⟨j, hj, hn⟩ := H.gap hs
  obtain ⟨K, hK, eK⟩ := cover H.msk h hj
  obtain ⟨m, hm, h1, h2⟩ := leastN (P := fun k => ¬ Occ t (ath t.mask k (begin0 t.mask h)).j ∧ (ath t.mask k (begin0 t.mask h)).j ≤ t.mask) K ⟨by rw [eK]; exact hn, by rw [eK]; exact hj⟩
  have hle : ∀ k, (ath t.mask k (begin0 t.mask h)).j ≤ t.mask := ath_le h
  exact ⟨m, by omega, h1.1, h1.2, fun k hk => Classical.byContradiction fun c => h2 k hk ⟨c, hle k⟩⟩
/-- who lies in the table is met before the search's end -/
theorem TabOk.met {α : Type} {t : SetTable} {es : Array (Int × α)} (H : TabOk t es) {K i : Nat} {e : Int × α} (he : es[i]? = some e)
    (hn : ¬ Occ t (ath t.mask K (begin0 t.mask e.1)).j) : ∃ k, k < K ∧ t.place[i]? = some (ath t.mask k (begin0 t.mask e.1)).j := by
  have hi : i < t.place.size := by rw [H.siz]; exact (Array.getElem?_eq_some_iff.mp he).1
  obtain ⟨k, hk, ho⟩ := H.rch i _ e (Array.getElem?_eq_getElem hi) he
  have hp : t.place[i]? = some (ath t.mask k (begin0 t.mask e.1)).j := by rw [hk]; exact Array.getElem?_eq_getElem hi
  refine ⟨k, ?_, hp⟩
  rcases Nat.lt_trichotomy k K with c | c | c
  · exact c
  · subst c; exact absurd ⟨i, hp⟩ hn
  · exact absurd (ho K c) hn
/-! ### one more -/
theorem put_eq {t : SetTable} (hd : t.dummies = #[]) (j : Nat) :
    t.put j = ({ t with place := SetTable.insertAt t.place (SetTable.below t.place j) j, dummies := #[] }, SetTable.below t.place j) := by
  unfold SetTable.put
  rw [hd]
  rfl
theorem occ_put {t : SetTable} (hr : Rising t.place) {t' : SetTable} {j j' : Nat} (e : t'.place = SetTable.insertAt t.place (SetTable.below t.place j) j) :
    Occ t' j' ↔ (j' = j ∨ Occ t j') := by
  have hb := (blw hr j).1
  constructor
  · rintro ⟨i, hi⟩
    rw [e, insAt_get _ _ _ hb] at hi
    split at hi
    · exact .inr ⟨i, hi⟩
    · split at hi
      · cases hi; exact .inl rfl
      · exact .inr ⟨_, hi⟩
  · rintro (c | ⟨i, hi⟩)
    · refine ⟨SetTable.below t.place j, ?_⟩
      rw [e, insAt_get _ _ _ hb, if_neg (by omega), if_pos rfl, c]
    · by_cases c : i < SetTable.below t.place j
      · exact ⟨i, by rw [e, insAt_get _ _ _ hb, if_pos c]; exact hi⟩
      · exact ⟨i + 1, by rw [e, insAt_get _ _ _ hb, if_neg (by omega), if_neg (by omega)]; exact hi⟩
theorem TabOk.put {α : Type} {t : SetTable} {es : Array (Int × α)} (H : TabOk t es) {h : Int} {x : α} {K : Nat}
    (hn : ¬ Occ t (ath t.mask K (begin0 t.mask h)).j) (ho : ∀ k, k < K → Occ t (ath t.mask k (begin0 t.mask h)).j) (b : Bool) :
    TabOk { (t.put (ath t.mask K (begin0 t.mask h)).j).1 with plain := b } (SetTable.insertAt es (t.put (ath t.mask K (begin0 t.mask h)).j).2 (h, x)) := by
  rw [put_eq H.nod]
  dsimp only
  generalize hj : (ath t.mask K (begin0 t.mask h)).j = j at hn
  have hb := (blw H.ris j).1
  have hb' : SetTable.below t.place j ≤ es.size := by rw [← H.siz]; exact hb
  have oc : ∀ j', Occ { t with place := SetTable.insertAt t.place (SetTable.below t.place j) j, dummies := #[], plain := b } j' ↔ (j' = j ∨ Occ t j') := fun j' => occ_put H.ris rfl
  refine ⟨H.msk, rfl, ?_, rising_ins H.ris fun i c => hn ⟨i, c⟩, fun i j' hi => ?_, fun i j' e hi he => ?_⟩
  · show (SetTable.insertAt _ _ _).size = _
    rw [insAt_size _ _ _ hb, insAt_size _ _ _ hb', H.siz]
  · dsimp only at hi ⊢
    rw [insAt_get _ _ _ hb] at hi
    split at hi
    · exact H.top _ _ hi
    · split at hi
      · cases hi; rw [← hj]; exact ath_le h K
      · exact H.top _ _ hi
  · dsimp only at hi ⊢
    rw [insAt_get _ _ _ hb] at hi
    rw [insAt_get _ _ _ hb'] at he
    have old : ∀ i' : Nat, t.place[i']? = some j' → es[i']? = some e → ∃ k, (ath t.mask k (begin0 t.mask e.1)).j = j' ∧ ∀ k', k' < k → Occ { t with place := SetTable.insertAt t.place (SetTable.below t.place j) j, dummies := #[], plain := b } (ath t.mask k' (begin0 t.mask e.1)).j := by
      intro i' h1 h2
      obtain ⟨k, hk, hk'⟩ := H.rch i' j' e h1 h2
      exact ⟨k, hk, fun k' hl => (oc _).mpr (.inr (hk' k' hl))⟩
    split at hi
    · rw [if_pos (by assumption)] at he
      exact old _ hi he
    · split at hi
      · rw [if_neg (by assumption), if_pos (by assumption)] at he
        cases he; cases hi
        exact ⟨K, hj, fun k' hl => (oc _).mpr (.inr (ho k' hl))⟩
      · rw [if_neg (by assumption), if_neg (by assumption)] at he
        exact old _ hi he
/-! ### all anew -/
def OccA (o : Array (Option Nat)) (j : Nat) : Prop := ∃ k, o[j]? = some (some k)
theorem free_go {m : Nat} {o : Array (Option Nat)} (hz : o.size = m + 1) : ∀ (F i pt j : Nat), SetTable.layClean.free m o F i pt = some j → i ≤ m →
    ∃ k, (ath m k (fresh m i pt)).j = j ∧ o[j]? = some none ∧ ∀ k', k' < k → OccA o (ath m k' (fresh m i pt)).j := by
  intro F
  induction F with
  | zero => intro i pt j h _; cases h
  | succ F ih =>
    intro i pt j h hi
    unfold SetTable.layClean.free at h
    have hre : i + (SetTable.runEnd m i - i) ≤ m := by unfold SetTable.runEnd; split <;> omega
    have hge : i ≤ SetTable.runEnd m i := by unfold SetTable.runEnd; split <;> omega
    have hst : ∀ d, d ≤ SetTable.runEnd m i - i → (ath m d (fresh m i pt)).j = i + d := fun d hd => by rw [ath_run m i pt d hd]
    have hlook : ∀ d, d ≤ SetTable.runEnd m i - i → ∃ v, o[i + d]? = some v := fun d hd => ⟨_, Array.getElem?_eq_getElem (by omega)⟩
    have hocc : ∀ d, d ≤ SetTable.runEnd m i - i → ((o.getD (i + d) (some 0)).isNone) = false → OccA o (i + d) := fun d hd hf => by
      obtain ⟨v, hv⟩ := hlook d hd
      rw [Array.getD_eq_getD_getElem?, hv] at hf
      cases v with
      | none => cases hf
      | some k => exact ⟨k, hv⟩
    split at h
    · rename_i d hfind
      cases h
      have hmem := List.mem_of_find?_eq_some hfind
      have hd : d ≤ SetTable.runEnd m i - i := by have := List.mem_range.mp hmem; omega
      obtain ⟨v, hv⟩ := hlook d hd
      refine ⟨d, hst d hd, ?_, fun k' hk' => ?_⟩
      · have := List.find?_some hfind
        rw [Array.getD_eq_getD_getElem?, hv] at this
        cases v with
        | none => exact hv
        | some k => cases this
      · rw [hst k' (by omega)]
        refine hocc k' (by omega) ?_
        obtain ⟨_, as, bs, e, hh⟩ := List.find?_eq_some_iff_append.mp hfind
        have hlen : as.length = d := by
          have h1 : (List.range (SetTable.runEnd m i + 1 - i))[as.length]? = some d := by rw [e]; simp
          rw [List.getElem?_range (by have := congrArg List.length e; simp at this; omega)] at h1
          cases h1; rfl
        have h2 : as[k']? = some k' := by
          have h1 : (List.range (SetTable.runEnd m i + 1 - i))[k']? = some k' := List.getElem?_range (by omega)
          rw [e, List.getElem?_append_left (by omega)] at h1; exact h1
        have := hh k' (List.mem_of_getElem? h2)
        simpa using this
    · rename_i hfind
      have hlp : (SetTable.leap m i pt).1 ≤ m := by
        have := Nat.mod_lt (i * 5 + 1 + pt / 32) (show 0 < m + 1 by omega)
        show (i * 5 + 1 + pt / 32) % (m + 1) ≤ m
        omega
      obtain ⟨k, h1, h2, h3⟩ := ih _ _ _ h hlp
      refine ⟨SetTable.runEnd m i - i + 1 + k, by rw [ath_add, ath_leap]; exact h1, h2, fun k' hk' => ?_⟩
      rcases Nat.lt_or_ge k' (SetTable.runEnd m i - i + 1) with c | c
      · rw [hst k' (by omega)]
        refine hocc k' (by omega) ?_
        have := List.find?_eq_none.mp hfind k' (List.mem_range.mpr (by omega))
        exact Bool.not_eq_true _ ▸ this
      · have := h3 (k' - (SetTable.runEnd m i - i + 1)) (by omega)
        rw [show fresh m ((i * 5 + 1 + pt / 32) % (m + 1)) (pt / 32) = ath m (SetTable.runEnd m i - i + 1) (fresh m i pt) from (ath_leap m i pt).symm, ← ath_add, show SetTable.runEnd m i - i + 1 + (k' - (SetTable.runEnd m i - i + 1)) = k' from by omega] at this
        exact this
theorem free_some {m : Nat} {o : Array (Option Nat)} (hz : o.size = m + 1) {j : Nat} (hj : o[j]? = some none) : ∀ (n F i pt : Nat), (lps m n (i, pt)).1 = j → n < F →
    ∃ j', SetTable.layClean.free m o F i pt = some j' := by
  intro n
  induction n with
  | zero =>
    intro F i pt e hF
    obtain ⟨F, rfl⟩ : ∃ F', F = F' + 1 := ⟨F - 1, by omega⟩
    have e' : i = j := e
    unfold SetTable.layClean.free
    have hge : i ≤ SetTable.runEnd m i := by unfold SetTable.runEnd; split <;> omega
    cases hf : (List.range (SetTable.runEnd m i + 1 - i)).find? fun k => (o.getD (i + k) (some 0)).isNone with
    | some d => exact ⟨i + d, rfl⟩
    | none =>
      have := List.find?_eq_none.mp hf 0 (List.mem_range.mpr (by omega))
      rw [Nat.add_zero, e', Array.getD_eq_getD_getElem?, hj] at this
      exact absurd rfl this
  | succ n ih =>
    intro F i pt e hF
    obtain ⟨F, rfl⟩ : ∃ F', F = F' + 1 := ⟨F - 1, by omega⟩
    unfold SetTable.layClean.free
    cases hf : (List.range (SetTable.runEnd m i + 1 - i)).find? fun k => (o.getD (i + k) (some 0)).isNone with
    | some d => exact ⟨i + d, rfl⟩
    | none => exact ih F _ _ e (by omega)
/-- what lies where, when the first n have been laid -/
structure LaidOk (m : Nat) (hs : List Int) (n : Nat) (o : Array (Option Nat)) : Prop where
  siz : o.size = m + 1
  one : ∀ j j' k : Nat, o[j]? = some (some k) → o[j']? = some (some k) → j = j'
  low : ∀ j k : Nat, o[j]? = some (some k) → k < n
  all : ∀ k : Nat, k < n → ∃ j : Nat, o[j]? = some (some k)
  rch : ∀ (j k : Nat) (h : Int), o[j]? = some (some k) → hs[k]? = some h → ∃ s, (ath m s (begin0 m h)).j = j ∧ ∀ s', s' < s → OccA o (ath m s' (begin0 m h)).j
theorem LaidOk.gap {m n : Nat} {hs : List Int} {o : Array (Option Nat)} (H : LaidOk m hs n o) (hn : n ≤ m) : ∃ j, j ≤ m ∧ o[j]? = some none := by
  refine Classical.byContradiction fun hc => ?_
  have hall : ∀ j, ∃ k, j ≤ m → o[j]? = some (some k) := fun j => by
    by_cases hj : j ≤ m
    · have hl : j < o.size := by rw [H.siz]; omega
      cases hv : o[j] with
      | none => exact absurd ⟨j, hj, by rw [Array.getElem?_eq_getElem hl, hv]⟩ hc
      | some k => exact ⟨k, fun _ => by rw [Array.getElem?_eq_getElem hl, hv]⟩
    · exact ⟨0, fun c => absurd c hj⟩
  have hf : ∀ j, j ≤ m → o[j]? = some (some (Classical.choose (hall j))) := fun j hj => Classical.choose_spec (hall j) hj
  have := pigeon (m + 1) (fun j => Classical.choose (hall j)) (fun i j hi hj e => by
    have a := hf i (by omega)
    have b := hf j (by omega)
    rw [← (show Classical.choose (hall i) = Classical.choose (hall j) from e)] at b
    exact H.one _ _ _ a b) n (fun j hj => H.low _ _ (hf j (by omega)))
  omega
theorem LaidOk.step {m n : Nat} (hm : Msk m) {hs : List Int} {o : Array (Option Nat)} (H : LaidOk m hs n o) (hn : n ≤ m) {h : Int} (hh : hs[n]? = some h) :
    ∃ j, SetTable.layClean.free m o (SetTable.turns m) (SetTable.bits h % (m + 1)) (SetTable.bits h) = some j ∧ LaidOk m hs (n + 1) (o.setIfInBounds j (some n)) := by
  obtain ⟨j0, hj0, e0⟩ := H.gap hn
  have hi : SetTable.bits h % (m + 1) ≤ m := by have := Nat.mod_lt (SetTable.bits h) (show 0 < m + 1 by omega); omega
  obtain ⟨q, hq, eq⟩ := cover_lps hm hi (bits_lt h) hj0
  obtain ⟨j, ej⟩ := free_some H.siz e0 q (SetTable.turns m) (SetTable.bits h % (m + 1)) (SetTable.bits h) eq (by unfold SetTable.turns; omega)
  refine ⟨j, ej, ?_⟩
  obtain ⟨s, hs1, hs2, hs3⟩ := free_go H.siz _ _ _ _ ej hi
  have hjl : j < o.size := (Array.getElem?_eq_some_iff.mp hs2).1
  have hget : ∀ j' : Nat, (o.setIfInBounds j (some n))[j']? = if j = j' then some (some n) else o[j']? := fun j' => by
    rw [Array.getElem?_setIfInBounds]; split <;> simp_all
  have hocc : ∀ j', OccA o j' → OccA (o.setIfInBounds j (some n)) j' := fun j' ⟨k, hk⟩ => by
    by_cases c : j = j'
    · exact ⟨n, by rw [hget, if_pos c]⟩
    · exact ⟨k, by rw [hget, if_neg c]; exact hk⟩
  refine ⟨by rw [Array.size_setIfInBounds]; exact H.siz, fun a b k ha hb => ?_, fun a k ha => ?_, fun k hk => ?_, fun a k h' ha hk => ?_⟩
  · rw [hget] at ha hb
    split at ha <;> split at hb
    · omega
    · cases ha; exact absurd (H.low _ _ hb) (by omega)
    · cases hb; exact absurd (H.low _ _ ha) (by omega)
    · exact H.one _ _ _ ha hb
  · rw [hget] at ha
    split at ha
    · cases ha; omega
    · have := H.low _ _ ha; omega
  · rcases Nat.lt_or_ge k n with c | c
    · obtain ⟨a, ha⟩ := H.all k c
      refine ⟨a, ?_⟩
      rw [hget, if_neg ?_]
      · exact ha
      · intro e; rw [← e, hs2] at ha; cases ha
    · refine ⟨j, ?_⟩
      rw [hget, if_pos rfl, show k = n from by omega]
  · rw [hget] at ha
    split at ha
    · cases ha
      rw [hh] at hk; cases hk
      rename_i c
      exact ⟨s, by rw [← c]; exact hs1, fun s' hl => hocc _ (hs3 s' hl)⟩
    · obtain ⟨s', h1, h2⟩ := H.rch a k h' ha hk
      exact ⟨s', h1, fun s'' hl => hocc _ (h2 s'' hl)⟩
theorem lay_fold {m : Nat} (hm : Msk m) (hs : List Int) (hl : hs.length ≤ m + 1) (f : Option (Array (Option Nat) × Nat) → Int → Option (Array (Option Nat) × Nat))
    (hf : ∀ o k h j, SetTable.layClean.free m o (SetTable.turns m) (SetTable.bits h % (m + 1)) (SetTable.bits h) = some j → f (some (o, k)) h = some (o.setIfInBounds j (some k), k + 1)) :
    ∀ (rest pre : List Int) (o : Array (Option Nat)), hs = pre ++ rest → LaidOk m hs pre.length o →
      ∃ o', rest.foldl f (some (o, pre.length)) = some (o', hs.length) ∧ LaidOk m hs hs.length o' := by
  intro rest
  induction rest with
  | nil =>
    intro pre o e H
    have : hs.length = pre.length := by rw [e]; simp
    rw [this]
    exact ⟨o, rfl, H⟩
  | cons h rest ih =>
    intro pre o e H
    have hlen : hs.length = pre.length + (rest.length + 1) := by rw [e]; simp
    obtain ⟨j, ej, H'⟩ := H.step hm (h := h) (by omega) (by rw [e]; simp)
    rw [List.foldl_cons, hf _ _ _ _ ej]
    have := ih (pre ++ [h]) (o.setIfInBounds j (some pre.length)) (by rw [e]; simp) (by rw [List.length_append, List.length_singleton]; exact H')
    rw [List.length_append, List.length_singleton] at this
    exact this
theorem lay_clean {m : Nat} (hm : Msk m) (hs : Array Int) (hl : hs.size ≤ m + 1) : ∃ o, SetTable.layClean m hs = some o ∧ LaidOk m hs.toList hs.size o := by
  unfold SetTable.layClean
  rw [← Array.foldl_toList]
  have h0 : LaidOk m hs.toList ([] : List Int).length (Array.replicate (m + 1) none) := by
    have hno : ∀ j k : Nat, (Array.replicate (m + 1) (none : Option Nat))[j]? = some (some k) → False := fun j k h => by
      rw [Array.getElem?_replicate] at h; split at h <;> cases h
    exact ⟨Array.size_replicate, fun j j' k h => (hno j k h).elim, fun j k h => (hno j k h).elim, fun k hk => absurd hk (by simp), fun j k h e => (hno j k e).elim⟩
  have key : ∀ f : Option (Array (Option Nat) × Nat) → Int → Option (Array (Option Nat) × Nat),
      (∀ o k h j, SetTable.layClean.free m o (SetTable.turns m) (SetTable.bits h % (m + 1)) (SetTable.bits h) = some j → f (some (o, k)) h = some (o.setIfInBounds j (some k), k + 1)) →
      ∃ o, Option.map (·.1) (hs.toList.foldl f (some (Array.replicate (m + 1) none, 0))) = some o ∧ LaidOk m hs.toList hs.size o := fun f hf => by
    obtain ⟨o, e, H⟩ := lay_fold hm hs.toList (by simpa using hl) f hf hs.toList [] (Array.replicate (m + 1) none) rfl h0
    refine ⟨o, ?_, by simpa using H⟩
    rw [List.length_nil] at e
    rw [e]; rfl
  exact key _ fun o k h j e => by simp only [Option.bind_eq_bind, Option.bind_some, e]; rfl
/-! #### the new table -/
theorem pw_filterMap {α β : Type} {f : α → Option β} {R : α → α → Prop} {S : β → β → Prop} (h : ∀ a a' b b', R a a' → f a = some b → f a' = some b' → S b b') :
    ∀ {l : List α}, l.Pairwise R → (l.filterMap f).Pairwise S
  | [], _ => by simp
  | a :: l, hp => by
    obtain ⟨h1, h2⟩ := List.pairwise_cons.mp hp
    cases hf : f a with
    | none => rw [List.filterMap_cons_none hf]; exact pw_filterMap h h2
    | some b =>
      rw [List.filterMap_cons_some hf]
      refine List.pairwise_cons.mpr ⟨fun b' hb' => ?_, pw_filterMap h h2⟩
      obtain ⟨a', ha', e'⟩ := List.mem_filterMap.mp hb'
      exact h a a' b b' (h1 a' ha') hf e'
theorem perm_of_nodup {l m : List Nat} (hl : l.Nodup) (hm : m.Nodup) (h : ∀ x, x ∈ l ↔ x ∈ m) : l.Perm m := by
  rw [List.perm_iff_count]
  intro a
  rw [hl.count, hm.count]
  simp only [h]
theorem laid_ok {α : Type} {m fi mv : Nat} {le pl : Bool} (hm : Msk m) (es : Array (Int × α)) (hl : es.size ≤ m) :
    ∃ t order, SetTable.laid m fi mv le pl (es.map (·.1)) = some (t, order) ∧ t.led = le ∧ t.plain = pl ∧ t.mask = m ∧
      (order.filterMap (es[·]?)).toList.Perm es.toList ∧ TabOk t (order.filterMap (es[·]?)) := by
  obtain ⟨o, eo, H⟩ := lay_clean hm (es.map (·.1)) (by rw [Array.size_map]; omega)
  rw [Array.size_map] at H
  unfold SetTable.laid
  simp only [eo, Option.bind_eq_bind, Option.bind_some]
  generalize hlv : (List.range (m + 1)).filterMap (fun j => (o.getD j none).map (j, ·)) = live
  have hmem : ∀ j k : Nat, (j, k) ∈ live ↔ o[j]? = some (some k) := fun j k => by
    rw [← hlv, List.mem_filterMap]
    constructor
    · rintro ⟨a, ha, e⟩
      rw [Array.getD_eq_getD_getElem?] at e
      cases hv : o[a]? with
      | none => rw [hv] at e; cases e
      | some v =>
        rw [hv] at e
        cases v with
        | none => cases e
        | some k' => cases e; exact hv
    · intro e
      have : j < o.size := (Array.getElem?_eq_some_iff.mp e).1
      refine ⟨j, List.mem_range.mpr (by rw [H.siz] at this; exact this), ?_⟩
      rw [Array.getD_eq_getD_getElem?, e]; rfl
  have hpw : live.Pairwise fun a b => a.1 < b.1 := by
    rw [← hlv]
    refine pw_filterMap (R := fun a b => a < b) (fun a a' b b' hab e e' => ?_) List.pairwise_lt_range
    have e1 : b.1 = a := by cases hv : o.getD a none with
      | none => rw [hv] at e; cases e
      | some k => rw [hv] at e; cases e; rfl
    have e2 : b'.1 = a' := by cases hv : o.getD a' none with
      | none => rw [hv] at e'; cases e'
      | some k => rw [hv] at e'; cases e'; rfl
    rw [e1, e2]; exact hab
  have hnd : (live.map (·.2)).Nodup := by
    refine List.pairwise_map.mpr (hpw.imp_of_mem fun {a b} ha hb hab e => ?_)
    have h1 := (hmem a.1 a.2).mp ha
    have h2 := (hmem b.1 b.2).mp hb
    rw [e] at h1
    have := H.one _ _ _ h1 h2
    omega
  have hperm : (live.map (·.2)).Perm (List.range es.size) := by
    refine perm_of_nodup hnd List.nodup_range fun k => ?_
    rw [List.mem_map, List.mem_range]
    constructor
    · rintro ⟨⟨a, b⟩, hab, e⟩
      subst e
      exact H.low _ _ ((hmem a b).mp hab)
    · intro hk
      obtain ⟨j, hj⟩ := H.all k hk
      exact ⟨(j, k), (hmem j k).mpr hj, rfl⟩
  refine ⟨_, _, rfl, rfl, rfl, rfl, ?_, ?_⟩
  · rw [Array.toList_filterMap]
    refine (hperm.filterMap _).trans ?_
    refine List.Perm.of_eq ?_
    refine List.ext_getElem? fun i => ?_
    have : ∀ n, n ≤ es.size → (List.range n).filterMap (fun i => es[i]?) = es.toList.take n := by
      intro n
      induction n with
      | zero => intro _; simp
      | succ n ih =>
        intro hn
        rw [List.range_succ, List.filterMap_append, ih (by omega), List.filterMap_cons_some (Array.getElem?_eq_getElem (show n < es.size by omega)), List.filterMap_nil, List.take_add_one,
          Array.getElem?_toList, Array.getElem?_eq_getElem (show n < es.size by omega)]
        rfl
    rw [this _ (Nat.le_refl _), List.take_of_length_le (by simp)]
  · have hlist : (live.map (·.2)).filterMap (fun i => es[i]?) = live.pmap (fun q (hq : q.2 < es.size) => es[q.2]) (fun q hq => H.low _ _ ((hmem q.1 q.2).mp hq)) := by
      have : ∀ (l : List (Nat × Nat)) (hl : ∀ q ∈ l, q.2 < es.size), (l.map (·.2)).filterMap (fun i => es[i]?) = l.pmap (fun q (hq : q.2 < es.size) => es[q.2]) hl := by
        intro l
        induction l with
        | nil => intro _; rfl
        | cons q l ih =>
          intro hl
          rw [List.map_cons, List.filterMap_cons_some (Array.getElem?_eq_getElem (hl q (by simp))), ih fun q hq => hl q (by simp [hq])]
          rfl
      exact this _ _
    have hget : ∀ (i : Nat) (e : Int × α), ((live.map (·.2)).toArray.filterMap (es[·]?))[i]? = some e → ∃ q, live[i]? = some q ∧ es[q.2]? = some e := fun i e he => by
      rw [← Array.getElem?_toList, Array.toList_filterMap, hlist, List.getElem?_pmap] at he
      cases hq : live[i]? with
      | none => simp [hq] at he
      | some q =>
        refine ⟨q, rfl, ?_⟩
        have hq2 : q.2 < es.size := H.low _ _ ((hmem q.1 q.2).mp (List.mem_of_getElem? hq))
        simp [hq] at he
        rw [← he]; exact Array.getElem?_eq_getElem hq2
    have hpl : ∀ i j : Nat, ((live.map (·.1)).toArray)[i]? = some j ↔ ∃ k, live[i]? = some (j, k) := fun i j => by
      rw [List.getElem?_toArray, List.getElem?_map]
      cases live[i]? with
      | none => simp
      | some q => obtain ⟨a, b⟩ := q; simp
    have hocc : ∀ j, OccA o j → ∃ i : Nat, ((live.map (·.1)).toArray)[i]? = some j := fun j ⟨k, hk⟩ => by
      obtain ⟨i, hi⟩ := List.getElem?_of_mem ((hmem j k).mpr hk)
      exact ⟨i, (hpl i j).mpr ⟨k, hi⟩⟩
    refine ⟨hm, rfl, ?_, fun i k x y hik hx hy => ?_, fun i j hi => ?_, fun i j e hi he => ?_⟩
    · show ((live.map (·.1)).toArray).size = _
      rw [← Array.length_toList (xs := Array.filterMap _ _), Array.toList_filterMap, hlist]
      simp
    · obtain ⟨a, ha⟩ := (hpl _ _).mp hx
      obtain ⟨b, hb⟩ := (hpl _ _).mp hy
      obtain ⟨hi, ea⟩ := List.getElem?_eq_some_iff.mp ha
      obtain ⟨hk, eb⟩ := List.getElem?_eq_some_iff.mp hb
      have := List.pairwise_iff_getElem.mp hpw i k hi hk hik
      rw [ea, eb] at this; exact this
    · obtain ⟨k, hk⟩ := (hpl _ _).mp hi
      have := (Array.getElem?_eq_some_iff.mp ((hmem j k).mp (List.mem_of_getElem? hk))).1
      rw [H.siz] at this
      show j ≤ m
      omega
    · obtain ⟨k, hk⟩ := (hpl _ _).mp hi
      obtain ⟨q, hq, hqe⟩ := hget i e he
      rw [hk] at hq; cases hq
      obtain ⟨s, h1, h2⟩ := H.rch j k e.1 ((hmem j k).mp (List.mem_of_getElem? hk)) (by
        rw [Array.toList_map, List.getElem?_map, Array.getElem?_toList, hqe]; rfl)
      exact ⟨s, h1, fun s' hl => hocc _ (h2 s' hl)⟩
end L2

end

section
namespace L2
open PySem PySem.Spec PyProof.Rows
/-! ### a set of deeds: one is sought, one is added -/
local macro_rules | `(tactic| walk_at "stored") => do
    let n := Lean.mkIdent (Lean.mkPrivateNameCore `PySem.SetOps `PySem.storedHashAt)
    `(tactic| delta $n)
local macro_rules | `(tactic| walk_at "reord") => do
    let n := Lean.mkIdent (Lean.mkPrivateNameCore `PySem.SetOps `PySem.reordered)
    `(tactic| delta $n)
/-- a deed lies at x -/
def TD (h : Heap) (x : Addr) (d : D3) : Prop := ∃ t1 t2 t3, IsTup h x #[.int d.1 t1, .int d.2.1 t2, .int d.2.2 t3]
theorem TD.keep {h h' : Heap} {x : Addr} {d : D3} (t : TD h x d) (hk : ∀ o, h.get? x = some o → h'.get? x = some o) : TD h' x d :=
  let ⟨a, b, c, o, g, r⟩ := t; ⟨a, b, c, o, hk o g, r⟩
def ent (hf : D3 → Int) (q : D3 × Addr) : Int × Value := (hf q.1, .ref q.2)
section
variable {prog : Program} {w : World} {A : Around} {E : Value → Shared → Prop} {s : Shared} {hf : D3 → Int}
theorem TD.key {h : Heap} {x : Addr} {d : D3} (t : TD h x d) : (tupleKind (mixKind prog w)).is h (kd d) x := by
  obtain ⟨a, b, c, o, g, cc, n, dd⟩ := t
  exact ⟨o, _, n, g, cc, dd, .cons (keyIs_int _ a) (.cons (keyIs_int _ b) (.cons (keyIs_int _ c) .nil))⟩
theorem TD.typ {x : Addr} {d : D3} (t : TD s.heap x d) : s.TypeIs (.ref x) "tuple" := let ⟨_, _, _, o, g, c, _⟩ := t; ⟨o, g, c⟩
theorem td_byValue {M : Model} {x : Addr} {d : D3} {Q : Bool → Shared → Prop} (t : TD s.heap x d) (h : Q true s) : wpAny M A (hashByValue 8 (.ref x)) Q E s := by
  have hT := t.typ
  obtain ⟨a, b, c, o, g, cc, n, dd⟩ := t
  unfold hashByValue
  refine wpAny_bind (wpAny_specialOf hT F.slot_tuple_hash.lookup ?_)
  refine wpAny_bind (wpAny_seqItems g dd ?_)
  refine wpAny_bind ?_
  dsimp only [Option.getD]
  rw [← Array.forIn_toList]
  refine wpAny_forIn_list _ (fun rest r s' => r.1 = none ∧ s' = s ∧ ∀ v ∈ rest, ∃ i u, v = Value.int i u) _ ?_ ?_ _ _ ⟨rfl, rfl, fun v hv => ?_⟩
  · rintro v rest r s' ⟨hr, rfl, hall⟩
    obtain ⟨i, u, rfl⟩ := hall v List.mem_cons_self
    refine wpAny_bind (wpAny_pure ?_)
    exact wpAny_pure ⟨rfl, rfl, fun u hu' => hall u (List.mem_cons_of_mem _ hu')⟩
  · rintro ⟨r1, r2⟩ s' ⟨hr, rfl, _⟩
    simp only at hr
    subst hr
    exact wpAny_pure h
  · have hv' : v ∈ [Value.int d.1 a, Value.int d.2.1 b, Value.int d.2.2 c] := hv
    rcases List.mem_cons.mp hv' with rfl | hv'
    · exact ⟨_, _, rfl⟩
    rcases List.mem_cons.mp hv' with rfl | hv'
    · exact ⟨_, _, rfl⟩
    exact ⟨_, _, List.mem_singleton.mp hv'⟩
theorem td_noClass {M : Model} {x : Addr} {d : D3} {Q : Bool → Shared → Prop} (t : TD s.heap x d) (h : Q false s) : wpAny M A (ofAClassStatement 8 (.ref x)) Q E s := by
  have hT := t.typ
  obtain ⟨a, b, c, o, g, cc, n, dd⟩ := t
  unfold ofAClassStatement
  refine wpAny_bind (wpAny_typeOf hT ?_)
  dsimp only
  rw [if_pos (by decide)]
  refine wpAny_bind (wpAny_pure ?_)
  rw [if_neg (by decide)]
  refine wpAny_bind (wpAny_seqItems g dd ?_)
  dsimp only
  refine wpAny_bind ?_
  rw [← Array.forIn_toList]
  refine wpAny_forIn_list _ (fun rest r s' => r.1 = none ∧ s' = s ∧ ∀ v ∈ rest, ∃ i u, v = Value.int i u) _ ?_ ?_ _ _ ⟨rfl, rfl, fun v hv => ?_⟩
  · rintro v rest r s' ⟨hr, rfl, hall⟩
    obtain ⟨i, u, rfl⟩ := hall v List.mem_cons_self
    refine wpAny_bind (wpAny_pure ?_)
    exact wpAny_pure ⟨rfl, rfl, fun u hu' => hall u (List.mem_cons_of_mem _ hu')⟩
  · rintro ⟨r1, r2⟩ s' ⟨hr, rfl, _⟩
    simp only at hr
    subst hr
    exact wpAny_pure h
  · have hv' : v ∈ [Value.int d.1 a, Value.int d.2.1 b, Value.int d.2.2 c] := hv
    rcases List.mem_cons.mp hv' with rfl | hv'
    · exact ⟨_, _, rfl⟩
    rcases List.mem_cons.mp hv' with rfl | hv'
    · exact ⟨_, _, rfl⟩
    exact ⟨_, _, List.mem_singleton.mp hv'⟩
theorem td_unseen {x : Addr} {d : D3} {Q : Bool → Shared → Prop} (t : TD s.heap x d) {vs : List Value} (hv : ∀ v ∈ vs, ∃ y e, v = Value.ref y ∧ TD s.heap y e) (h : Q false s) :
    wpAny (model prog w) A (searchCouldBeSeen (.ref x) vs) Q E s := by
  unfold searchCouldBeSeen
  refine wpAny_bind ?_
  refine wpAny_forIn_list _ (fun rest r s' => r.1 = none ∧ s' = s ∧ ∀ v ∈ rest, ∃ y e, v = Value.ref y ∧ TD s.heap y e) _ ?_ ?_ _ _ ⟨rfl, rfl, hv⟩
  · rintro v rest r s' ⟨hr, rfl, hall⟩
    obtain ⟨y, e, rfl, ty⟩ := hall _ List.mem_cons_self
    have hall' : ∀ v ∈ rest, ∃ y e, v = Value.ref y ∧ TD s'.heap y e := fun v hv => hall v (List.mem_cons_of_mem _ hv)
    dsimp only
    split
    · exact wpAny_pure ⟨rfl, rfl, hall'⟩
    · refine wpAny_bind ((tupleKind (mixKind prog w)).quiet (k := kd d) t.key ?_)
      rw [if_neg (by decide)]
      refine wpAny_bind ((tupleKind (mixKind prog w)).quiet (k := kd e) ty.key ?_)
      rw [if_neg (by decide)]
      refine wpAny_bind (td_noClass t ?_)
      rw [if_neg (by decide)]
      refine wpAny_bind (td_noClass ty ?_)
      rw [if_neg (by decide)]
      exact wpAny_pure ⟨rfl, rfl, hall'⟩
  · rintro ⟨r1, r2⟩ s' ⟨hr, rfl, _⟩
    simp only at hr
    subst hr
    exact wpAny_pure h
theorem ath_dummy (m : Nat) : ∀ (k : Nat) (p : Prb), p.dummy = none → (ath m k p).dummy = none
  | 0, _, h => h
  | k + 1, p, h => ath_dummy m k (adv m p) (by unfold adv SetTable.advance; split <;> exact h)
theorem TabOk.fits {t : SetTable} {es : Array (Int × Value)} (H : TabOk t es) (hz : es.size ≤ t.mask) : t.fits es.size = true := by
  unfold SetTable.fits SetTable.fill
  rw [H.nod, H.siz]
  simp [hz]
theorem TabOk.way {t : SetTable} {es : Array (Int × Value)} (H : TabOk t es) : t.gaveWay = false := by
  unfold SetTable.gaveWay
  rcases H.msk with e | e | e <;> rw [e] <;> rfl
/-- one step of a search -/
theorem set_search_step {a x : Addr} {d : D3} {o : Obj} {es : Array (Int × Value)} {ep : Nat} {t : SetTable} {xs : List (D3 × Addr)} {Q : SetFound → Shared → Prop} (hu : A.units < cLine)
    (ho : s.heap.get? a = some o) (hd : o.data = .set es ep t) (H : TabOk t es) (hz : es.size ≤ t.mask) (hes : es.toList = xs.map (ent hf)) (hxs : ∀ q ∈ xs, TD s.heap q.2 q.1) (hx : TD s.heap x d) (K : Nat)
    (ih : ∀ (K' fuel : Nat) (st : Option Prb), K' < K → K' < fuel → K' < 10 * SetTable.turns t.mask → (st.getD (begin0 t.mask (hf d))).dummy = none →
      (∀ k, k < K' → Occ t (ath t.mask k (st.getD (begin0 t.mask (hf d)))).j) → ¬ Occ t (ath t.mask K' (st.getD (begin0 t.mask (hf d)))).j →
      ((∃ q ∈ xs, q.1 = d) → Q (.there none) s) →
      ((∀ (k i : Nat) q, k < K' → t.place[i]? = some (ath t.mask k (st.getD (begin0 t.mask (hf d)))).j → xs[i]? = some q → q.1 ≠ d) → Q (.free (ath t.mask K' (st.getD (begin0 t.mask (hf d)))).j false) s) →
      wpAny (model prog w) A (setSearchFrom a (.ref x) (hf d) true fuel st) Q E s)
    (fuel : Nat) (st : Option Prb) (h2 : K < fuel) (h3 : K < 10 * SetTable.turns t.mask) (h4 : (st.getD (begin0 t.mask (hf d))).dummy = none)
    (h5 : ∀ k, k < K → Occ t (ath t.mask k (st.getD (begin0 t.mask (hf d)))).j) (h6 : ¬ Occ t (ath t.mask K (st.getD (begin0 t.mask (hf d)))).j)
    (hq1 : (∃ q ∈ xs, q.1 = d) → Q (.there none) s)
    (hq2 : (∀ (k i : Nat) q, k < K → t.place[i]? = some (ath t.mask k (st.getD (begin0 t.mask (hf d)))).j → xs[i]? = some q → q.1 ≠ d) → Q (.free (ath t.mask K (st.getD (begin0 t.mask (hf d)))).j false) s) :
    wpAny (model prog w) A (setSearchFrom a (.ref x) (hf d) true fuel st) Q E s := by
  obtain ⟨fuel, rfl⟩ : ∃ f, fuel = f + 1 := ⟨fuel - 1, by omega⟩
  generalize hh : hf d = h at *
  have hat : ∀ i q, xs[i]? = some q → es[i]? = some (ent hf q) := fun i q hq => by
    rw [← Array.getElem?_toList, hes, List.getElem?_map, hq]; rfl
  have hta : ∀ (i : Nat) j, t.place[i]? = some j → ∃ q, xs[i]? = some q := fun i j hj => by
    have h1 : i < es.size := by rw [← H.siz]; exact (Array.getElem?_eq_some_iff.mp hj).1
    have h2 : es.size = xs.length := by rw [← Array.length_toList, hes, List.length_map]
    exact ⟨xs[i]'(by omega), List.getElem?_eq_getElem (by omega)⟩
  unfold setSearchFrom
  refine wpAny_bind (wpAny_setState_of ho hd (H.fits hz) ?_)
  dsimp only
  rw [if_neg (by rw [H.way]; decide)]
  walk_at "stored"
  rw [begin_eq]
  generalize hp : st.getD (begin0 t.mask h) = p at *
  unfold SetTable.probe
  rcases probe_go t H.nod H.ris (fun i => (Option.map (fun x => x.fst) es[i]?).getD 0) h K (10 * SetTable.turns t.mask) p h3 h5 h6 h4 with ⟨e, hno⟩ | ⟨k, i, hk, hi, hgi, e, hno⟩
  · rw [e]
    refine wpAny_pure (hq2 fun k i q hk hi hq => ?_)
    have z := hno k i hk hi
    rw [hat i q hq] at z
    intro c
    rw [← hh, ← c] at z
    exact z rfl
  · rw [e]
    dsimp only
    obtain ⟨q, hq⟩ := hta i _ hi
    have hm : q ∈ xs := List.mem_of_getElem? hq
    have hei := hat i q hq
    rw [hei]
    dsimp only [ent]
    have hsm : t.sameMemory t.moves t.mask = some true := by unfold SetTable.sameMemory; rw [if_pos (beq_self_eq_true _)]
    have go : ¬ kd q.1 = kd d → wpAny (model prog w) A (setSearchFrom a (.ref x) h true fuel (some (ath t.mask (k + 1) p))) Q E s := fun c => by
      have ea : ∀ m, ath t.mask m (ath t.mask (k + 1) p) = ath t.mask (k + 1 + m) p := fun m => (ath_add t.mask (k + 1) m p).symm
      refine ih (K - (k + 1)) fuel (some (ath t.mask (k + 1) p)) (by omega) (by omega) (by omega) (ath_dummy t.mask (k + 1) p h4) (fun m hm' => ?_) ?_ hq1 fun hh' => ?_
      · show Occ t (ath t.mask m (ath t.mask (k + 1) p)).j
        rw [ea]; exact h5 _ (by omega)
      · show ¬ Occ t (ath t.mask (K - (k + 1)) (ath t.mask (k + 1) p)).j
        rw [ea, show k + 1 + (K - (k + 1)) = K from by omega]; exact h6
      · show Q (.free (ath t.mask (K - (k + 1)) (ath t.mask (k + 1) p)).j false) s
        rw [ea, show k + 1 + (K - (k + 1)) = K from by omega]
        refine hq2 fun k' i' q' hk' hi' hq' => ?_
        rcases Nat.lt_trichotomy k' k with z | z | z
        · have y := hno k' i' z hi'
          rw [hat i' q' hq'] at y
          intro c'
          rw [← hh, ← c'] at y
          exact y rfl
        · subst z
          have e1 := slot_live H.ris hi
          rw [slot_live H.ris hi'] at e1
          cases e1
          rw [hq] at hq'
          cases hq'
          exact fun c' => c (by rw [c'])
        · refine hh' (k' - (k + 1)) i' q' (by omega) ?_ hq'
          show t.place[i']? = some (ath t.mask (k' - (k + 1)) (ath t.mask (k + 1) p)).j
          rw [ea, show k + 1 + (k' - (k + 1)) = k' from by omega]; exact hi'
    refine wpAny_ite ?_
    split
    · refine wpAny_bind (td_unseen (d := d) hx (fun v hv => ?_) ?_)
      · obtain ⟨⟨h', v'⟩, hv', ev⟩ := List.mem_map.mp hv
        have : (h', v') ∈ es.toList := by
          have := Array.mem_toList_iff.mp hv'
          exact Array.mem_toList_iff.mpr (Array.mem_filter.mp this).1
        rw [hes] at this
        obtain ⟨q', hq', e'⟩ := List.mem_map.mp this
        refine ⟨q'.2, q'.1, ?_, hxs q' hq'⟩
        have e2 := congrArg Prod.snd e'
        exact ev.symm.trans e2.symm
      rw [if_neg (by decide)]
      refine wpAny_bind (wpAny_holding ((tupleKind (mixKind prog w)).eqBool (x := kd q.1) (y := kd d) hu (hxs q hm).key hx.key ?_))
      refine wpAny_bind (wpAny_setState_of ho hd (H.fits hz) ?_)
      dsimp only
      by_cases c : kd q.1 = kd d
      · rw [decide_eq_true c, if_pos (by decide)]
        exact wpAny_pure (hq1 ⟨q, hm, kd_inj c⟩)
      · rw [decide_eq_false c, if_neg (by decide), hsm]
        dsimp only
        rw [if_pos rfl, slot_live H.ris hi]
        dsimp only
        rw [hei]
        refine wpAny_bind (wpAny_isSame_ref_self (wpAny_bind (wpAny_pure ?_)))
        rw [if_pos rfl]
        dsimp only
        rw [if_neg (by decide)]
        exact go c
    · refine wpAny_bind (wpAny_holding ((tupleKind (mixKind prog w)).eqBool (x := kd q.1) (y := kd d) hu (hxs q hm).key hx.key ?_))
      refine wpAny_bind (wpAny_setState_of ho hd (H.fits hz) ?_)
      dsimp only
      by_cases c : kd q.1 = kd d
      · rw [decide_eq_true c, if_pos (by decide)]
        exact wpAny_pure (hq1 ⟨q, hm, kd_inj c⟩)
      · rw [decide_eq_false c, if_neg (by decide), hsm]
        dsimp only
        rw [if_pos rfl, slot_live H.ris hi]
        dsimp only
        rw [hei]
        refine wpAny_bind (wpAny_isSame_ref_self (wpAny_bind (wpAny_pure ?_)))
        rw [if_pos rfl]
        dsimp only
        rw [if_neg (by decide)]
        exact go c
/-- a search among deeds -/
theorem set_search {a x : Addr} {d : D3} {o : Obj} {es : Array (Int × Value)} {ep : Nat} {t : SetTable} {xs : List (D3 × Addr)} {Q : SetFound → Shared → Prop} (hu : A.units < cLine)
    (ho : s.heap.get? a = some o) (hd : o.data = .set es ep t) (H : TabOk t es) (hz : es.size ≤ t.mask) (hes : es.toList = xs.map (ent hf)) (hxs : ∀ q ∈ xs, TD s.heap q.2 q.1) (hx : TD s.heap x d) :
    ∀ (n K fuel : Nat) (st : Option Prb), K ≤ n → K < fuel → K < 10 * SetTable.turns t.mask → (st.getD (begin0 t.mask (hf d))).dummy = none →
      (∀ k, k < K → Occ t (ath t.mask k (st.getD (begin0 t.mask (hf d)))).j) → ¬ Occ t (ath t.mask K (st.getD (begin0 t.mask (hf d)))).j →
      ((∃ q ∈ xs, q.1 = d) → Q (.there none) s) →
      ((∀ (k i : Nat) q, k < K → t.place[i]? = some (ath t.mask k (st.getD (begin0 t.mask (hf d)))).j → xs[i]? = some q → q.1 ≠ d) → Q (.free (ath t.mask K (st.getD (begin0 t.mask (hf d)))).j false) s) →
      wpAny (model prog w) A (setSearchFrom a (.ref x) (hf d) true fuel st) Q E s := by
  intro n
  induction n with
  | zero =>
    intro K fuel st h1 h2 h3 h4 h5 h6 hq1 hq2
    exact set_search_step hu ho hd H hz hes hxs hx K (fun K' _ _ z => absurd z (by omega)) fuel st h2 h3 h4 h5 h6 hq1 hq2
  | succ n ih =>
    intro K fuel st h1 h2 h3 h4 h5 h6 hq1 hq2
    exact set_search_step hu ho hd H hz hes hxs hx K (fun K' fuel' st' z => ih K' fuel' st' (by omega)) fuel st h2 h3 h4 h5 h6 hq1 hq2
/-- the set at a holds the deeds xs, each once, at these addresses -/
def SetTup (hf : D3 → Int) (w : World) (h : Heap) (a : Addr) (xs : List (D3 × Addr)) : Prop :=
  ∃ o es ep t, h.get? a = some o ∧ o.ExactSet ∧ o.data = .set es ep t ∧ TabOk t es ∧ es.size * 5 < t.mask * 3 ∧ t.plain = true ∧ (t.led = !(w.params.followText "set-order")) ∧
    es.toList = xs.map (ent hf) ∧ (xs.map (·.1)).Nodup ∧ ∀ q ∈ xs, TD h q.2 q.1
theorem td_other {h h' : Heap} {a x : Addr} {d : D3} {o : Obj} {es : Array (Int × Value)} {ep : Nat} {t : SetTable} (ho : h.get? a = some o) (hd : o.data = .set es ep t) (hs : Heap.SameBut a h h') (T : TD h x d) : TD h' x d := by
  obtain ⟨t1, t2, t3, o', g, c, n, dd⟩ := T
  have hne : x ≠ a := by
    rintro rfl
    rw [ho] at g
    cases g
    rw [hd] at dd
    cases dd
  exact ⟨t1, t2, t3, o', (hs.2 x hne).trans g, c, n, dd⟩
theorem SetTup.moved {h h' : Heap} {a : Addr} {xs : List (D3 × Addr)} (S : SetTup hf w h a xs) (hk : ∀ b o, h.get? b = some o → (b = a ∨ ∃ q ∈ xs, b = q.2) → h'.get? b = some o) : SetTup hf w h' a xs := by
  obtain ⟨o, es, ep, t, ho, r1, r2, r3, r4, r5, r6, r7, r8, r9⟩ := S
  exact ⟨o, es, ep, t, hk a o ho (.inl rfl), r1, r2, r3, r4, r5, r6, r7, r8, fun q hq => (r9 q hq).keep fun o' e => hk _ _ e (.inr ⟨q, hq, rfl⟩)⟩
theorem masks {t : SetTable} (hm : Msk t.mask) {n : Nat} (h1 : n * 5 < t.mask * 3) (h2 : (n + 1) * 5 ≥ t.mask * 3) (h3 : n < 70) :
    ∃ m, Msk m ∧ SetTable.sizeAbove (SetTable.grown (n + 1)) - 1 = m ∧ (n + 1) * 5 < m * 3 ∧ SetTable.sizeAbove (SetTable.grown (n + 1)) ≤ 128 := by
  rcases hm with e | e | e
  · have : n = 4 := by omega
    subst this
    exact ⟨31, .inr (.inl rfl), by decide, by decide, by decide⟩
  · have : n = 18 := by omega
    subst this
    exact ⟨127, .inr (.inr rfl), by decide, by decide, by decide⟩
  · omega
theorem mask_le {t : SetTable} (hm : Msk t.mask) {n : Nat} (h : n * 5 < t.mask * 3) : n ≤ t.mask := by omega
/-- a deed is added -/
theorem set_add {a x : Addr} {d : D3} {xs : List (D3 × Addr)} {Q : Bool → Shared → Prop} (hu : A.units < cLine) (S : SetTup hf w s.heap a xs) (hx : TD s.heap x d) (hl : xs.length < 70)
    (h : ∀ h' ys b, Heap.SameBut a s.heap h' → SetTup hf w h' a ys → ((d ∈ xs.map (·.1) ∧ ys = xs) ∨ (d ∉ xs.map (·.1) ∧ ys.Perm ((d, x) :: xs))) → Q b { s with heap := h' }) :
    wpAny (model prog w) A (setAddHashed a (.ref x) (hf d)) Q E s := by
  obtain ⟨o, es, ep, t, ho, hex, hd, H, hz, hpl, hle, hes, hnd, hxs⟩ := id S
  have hzm := mask_le H.msk hz
  have hn : es.size = xs.length := by rw [← Array.length_toList, hes, List.length_map]
  obtain ⟨K, k1, k2, k3, k4⟩ := H.ends hzm (hf d)
  have hturn : 10 * SetTable.turns t.mask ≤ 1420 := by
    unfold SetTable.turns
    rcases H.msk with e | e | e <;> rw [e] <;> decide
  unfold setAddHashed setAddHashedIn
  refine wpAny_holding (wpAny_bind (wpAny_setState_of ho hd (H.fits hzm) ?_))
  dsimp only
  rw [if_neg (by unfold byScan Value.scannable; simp)]
  unfold setSearch
  refine wpAny_bind (set_search (xs := xs) (d := d) hu ho hd H hzm hes hxs hx K K 100000 none (Nat.le_refl _) (by omega) k1 rfl k4 k2 (fun ⟨q, hq, e⟩ => ?_) fun hno => ?_)
  · exact wpAny_pure (h s.heap xs _ (Heap.SameBut.refl a s.heap) S (.inl ⟨List.mem_map.mpr ⟨q, hq, e⟩, rfl⟩))
  have hnew : d ∉ xs.map (·.1) := fun hm => by
    obtain ⟨q, hq, e⟩ := List.mem_map.mp hm
    obtain ⟨i, hi⟩ := List.getElem?_of_mem hq
    have hei : es[i]? = some (ent hf q) := by rw [← Array.getElem?_toList, hes, List.getElem?_map, hi]; rfl
    have eh : (ent hf q).1 = hf d := by rw [← e]; rfl
    obtain ⟨k, hk, hpk⟩ := H.met (K := K) hei (by rw [eh]; exact k2)
    rw [eh] at hpk
    exact hno k i q hk hpk hi e
  dsimp only
  refine wpAny_bind (wpAny_setState_of ho hd (H.fits hzm) ?_)
  dsimp only
  generalize hj : (ath t.mask K ((none : Option Prb).getD (begin0 t.mask (hf d)))).j = j
  have hj' : (ath t.mask K (begin0 t.mask (hf d))).j = j := hj
  have H1 := H.put (h := hf d) (x := Value.ref x) k2 k4 true
  rw [hj'] at H1
  have e1 : (t.put j).1.plain = true := by rw [put_eq H.nod]; exact hpl
  have e2 : (t.put j).1.led = t.led := by rw [put_eq H.nod]
  have e3 : (t.put j).1.mask = t.mask := by rw [put_eq H.nod]
  have e4 : ({ (t.put j).1 with plain := true } : SetTable) = (t.put j).1 := by
    have := e1
    generalize (t.put j).1 = u at this ⊢
    cases u
    cases this
    rfl
  rw [e4] at H1
  have hb : (t.put j).2 ≤ es.size := by rw [put_eq H.nod, ← H.siz]; exact (blw H.ris j).1
  have hs1 : (SetTable.insertAt es (t.put j).2 (hf d, Value.ref x)).size = es.size + 1 := insAt_size _ _ _ hb
  have hl1 : (SetTable.insertAt es (t.put j).2 (hf d, Value.ref x)).toList = ((xs.take (t.put j).2) ++ (d, x) :: xs.drop (t.put j).2).map (ent hf) := by
    have e : (SetTable.insertAt es (t.put j).2 (hf d, Value.ref x)).toList = es.toList.take (t.put j).2 ++ (hf d, Value.ref x) :: es.toList.drop (t.put j).2 := by
      unfold SetTable.insertAt; simp [List.take_of_length_le]
    rw [e, hes, List.map_append, List.map_cons, List.map_take, List.map_drop]
    rfl
  have hpm : ((xs.take (t.put j).2) ++ (d, x) :: xs.drop (t.put j).2).Perm ((d, x) :: xs) := by
    refine List.perm_middle.trans (List.Perm.cons _ ?_)
    rw [List.take_append_drop]
  generalize (SetTable.insertAt es (t.put j).2 (hf d, Value.ref x)) = es1 at H1 hs1 hl1 ⊢
  generalize ((xs.take (t.put j).2) ++ (d, x) :: xs.drop (t.put j).2) = ys at hl1 hpm
  generalize (t.put j).1 = t1 at H1 e1 e2 e3 ⊢
  rw [if_pos e1]
  refine wpAny_bind (td_byValue hx ?_)
  rw [if_pos rfl]
  have hsl : ∀ n, n ≤ 200 → n ≤ sizeLine := fun n hn => by rw [sizeLine_eq]; omega
  have nd : ∀ {zs : List (D3 × Addr)}, zs.Perm ((d, x) :: xs) → (zs.map (·.1)).Nodup := fun {zs} hp => by
    refine (hp.map (·.1)).nodup_iff.mpr ?_
    rw [List.map_cons]
    exact List.nodup_cons.mpr ⟨hnew, hnd⟩
  have tds : ∀ {zs : List (D3 × Addr)} {h' : Heap}, zs.Perm ((d, x) :: xs) → Heap.SameBut a s.heap h' → ∀ q ∈ zs, TD h' q.2 q.1 := fun {zs h'} hp hs q hq => by
    rcases List.mem_cons.mp (hp.mem_iff.mp hq) with z | z
    · rw [z]; exact td_other ho hd hs hx
    · exact td_other ho hd hs (hxs q z)
  have hg : ∀ (es' : Array (Int × Value)) (t' : SetTable), (s.heap.update a (Obj.putSet es' t')).get? a = some { o with data := .set es' (ep + 1) t' } := fun es' t' => by
    have := Heap.get?_update_self (Obj.putSet es' t') ho (by rw [putSet_of es' t' hd]; rfl)
    rw [putSet_of es' t' hd] at this; exact this
  have sb := fun (es' : Array (Int × Value)) (t' : SetTable) => Heap.SameBut.update s.heap a (Obj.putSet es' t')
  refine wpAny_bind (wpAny_storeSet_of ho hd ?_ (hsl _ (by omega)))
  by_cases hf1 : t1.tooFull = true
  · rw [if_pos (by rw [hf1]; decide)]
    unfold setRelay
    have hfu : (es.size + 1) * 5 ≥ t.mask * 3 := by
      unfold SetTable.tooFull SetTable.fill at hf1
      rw [H1.nod, H1.siz, hs1, e3] at hf1
      exact of_decide_eq_true hf1
    obtain ⟨m, hm1, hm2, hm3, hm4⟩ := masks H.msk hz hfu (by omega)
    have hz1 : es1.size ≤ t1.mask := by rw [hs1, e3]; rcases H.msk with e | e | e <;> omega
    refine wpAny_bind (wpAny_bind (wpAny_setState_of (hg es1 t1) rfl (H1.fits hz1) ?_))
    dsimp only
    rw [if_neg (by rw [sizeLine_eq]; omega)]
    walk_at "reord"
    unfold SetTable.relaid
    rw [hm2]
    obtain ⟨t2, od, eo, f1, f2, f3, f4, f5⟩ := laid_ok (fi := t1.finger) (mv := t1.movedTo m) (le := t1.led) (pl := t1.plain) hm1 es1 (by rw [hs1]; omega)
    rw [eo]
    dsimp only
    have hs2 : (Array.filterMap (fun x => es1[x]?) od).size = es1.size := by rw [← Array.length_toList, f4.length_eq, Array.length_toList]
    rw [hs2, if_neg (by simp)]
    refine wpAny_bind (wpAny_pure ?_)
    dsimp only
    obtain ⟨zs, pz, ez⟩ := perm_map_ex (ent hf) f4 ys hl1
    refine wpAny_storeSet_of (hg es1 t1) rfl (wpAny_pure ?_) (by rw [hs2]; exact hsl _ (by omega))
    have hsb := (sb es1 t1).trans (Heap.SameBut.update (s.heap.update a (Obj.putSet es1 t1)) a (Obj.putSet (Array.filterMap (fun x => es1[x]?) od) t2))
    have hg2 : ((s.heap.update a (Obj.putSet es1 t1)).update a (Obj.putSet (Array.filterMap (fun x => es1[x]?) od) t2)).get? a = some { o with data := .set (Array.filterMap (fun x => es1[x]?) od) (ep + 1 + 1) t2 } := by
      have := Heap.get?_update_self (Obj.putSet (Array.filterMap (fun x => es1[x]?) od) t2) (hg es1 t1) (by rw [putSet_of _ t2 rfl]; rfl)
      rw [putSet_of _ t2 rfl] at this; exact this
    have pz' := pz.trans hpm
    refine h _ zs _ hsb ⟨_, _, _, t2, hg2, hex, rfl, f5, ?_, f2.trans e1, (f1.trans e2).trans hle, ez, nd pz', tds pz' hsb⟩ (.inr ⟨hnew, pz'⟩)
    rw [hs2, hs1, f3]; exact hm3
  · rw [if_neg (by intro z; exact hf1 (by simpa using z))]
    have hlt : es1.size * 5 < t1.mask * 3 := by
      unfold SetTable.tooFull SetTable.fill at hf1
      rw [H1.nod, H1.siz] at hf1
      have : ¬ (es1.size + (#[] : Array Nat).size) * 5 ≥ t1.mask * 3 := fun z => hf1 (decide_eq_true z)
      simp at this
      omega
    refine wpAny_pure (h _ ys _ (sb es1 t1) ⟨_, _, _, t1, hg es1 t1, hex, rfl, H1, hlt, e1, e2.trans hle, hl1, nd hpm, tds hpm (sb es1 t1)⟩ (.inr ⟨hnew, hpm⟩))
end
end L2

end

section
namespace L2
open PySem PySem.Spec PyProof.Rows
/-! ### set(a list of deeds) -/
/-- few different deeds -/
def Few (l : List D3) : Prop := ∀ m : List D3, m.Nodup → (∀ d ∈ m, d ∈ l) → m.length ≤ 61
def hD (prog : Program) (w : World) (d : D3) : Int := (tupleKind (mixKind prog w)).hash (kd d)
section
variable {prog : Program} {w : World} {A : Around} {E : Value → Shared → Prop} {R : Result → Shared → Prop} {s : Shared}
theorem set_loop {I S : Addr} {fp wr : List Addr} {G : Array GenState → Array GenState → Prop} {n N : Nat} {P : Nat → Value → Prop} {St : Nat → Shared → Prop} {h0 : Heap} {ds : List D3} {Ok : D3 × Addr → Prop}
    (W : WalksS prog w A.in1 I fp wr G n P St) (hS : S ∉ fp) (hn : n = ds.length) (hP : ∀ i v, P i v → ∃ x d, v = .ref x ∧ ds[i]? = some d ∧ TD h0 x d ∧ Ok (d, x)) (hwr : ∀ b ∈ S :: wr, N ≤ b) (lo : ∀ q, Ok q → q.2 < N) (few : Few ds) (hu : A.in1.units < cLine) :
    ∀ (k i : Nat) (s : Shared) (xs : List (D3 × Addr)), n - i = k → i ≤ n → St i s → SetTup (hD prog w) w s.heap S xs → (∀ d, d ∈ xs.map (·.1) ↔ d ∈ ds.take i) → (∀ b o, b < N → h0.get? b = some o → s.heap.get? b = some o) → (∀ q ∈ xs, Ok q) →
      (∀ s' xs', Moved (S :: wr) G s s' → SetTup (hD prog w) w s'.heap S xs' → (∀ d, d ∈ xs'.map (·.1) ↔ d ∈ ds) → (∀ q ∈ xs', Ok q) → R (.ok (.ret .none)) s') →
      codeAny (model prog w) A (.builtin "set.update.loop" ⟨[.ref S, .ref I], []⟩) R s := by
  have Sw : S ∉ wr := fun z => hS (W.sub S z)
  have up : ∀ b ∈ wr, b ∈ S :: wr := fun b z => List.mem_cons_of_mem S z
  have keepT : ∀ {s s' : Shared} {xs : List (D3 × Addr)}, SetTup (hD prog w) w s.heap S xs → (∀ q ∈ xs, Ok q) → Moved wr G s s' → SetTup (hD prog w) w s'.heap S xs := fun {s s' xs} T hq hm => by
    refine T.moved fun b o e hb => hm.heap b o (fun z => ?_) e
    rcases hb with c | ⟨q, hq1, c⟩
    · exact Sw (c ▸ z)
    · have h1 := hwr b (up b z)
      have h2 := lo q (hq q hq1)
      rw [c] at h1
      exact absurd h2 (Nat.not_lt.mpr h1)
  intro k
  induction k with
  | zero =>
    intro i s xs hk hi st T hmem hO hlo hR
    have e : i = n := by omega
    subst e
    refine codeAny_builtin F.entry_set_update_loop ?_; rw [Around.under_plainId F.plain_set_update_loop _]
    show wpAny _ A.in1 (pyNext (.ref I) >>= _) _ _ s; refine wpAny_bind (W.done s _ _ st fun s' hm => ?_)
    refine wpAny_pure (hR s' xs (hm.mono up) (keepT T hlo hm) (fun d => ?_) hlo)
    rw [hmem d, hn, List.take_length]
  | succ k ih =>
    intro i s xs hk hi st T hmem hO hlo hR
    have hlt : i < n := by omega
    refine codeAny_builtin F.entry_set_update_loop ?_; rw [Around.under_plainId F.plain_set_update_loop _]
    show wpAny _ A.in1 (pyNext (.ref I) >>= _) _ _ s; refine wpAny_bind (W.item i s _ _ hlt st fun v s' hv st' hm => ?_)
    obtain ⟨x, d, rfl, gd, td, okq⟩ := hP i v hv
    have T' := keepT T hlo hm
    have hO' : ∀ b o, b < N → h0.get? b = some o → s'.heap.get? b = some o := fun b o hb e => hm.heap b o (fun z => by have := hwr b (up b z); omega) (hO b o hb e)
    have hxN : x < N := lo _ okq
    have td' : TD s'.heap x d := td.keep fun o e => hO' x o hxN e
    have hlen : xs.length < 70 := by
      obtain ⟨_, _, _, _, _, _, _, _, _, _, _, _, nd, _⟩ := T
      have := few (xs.map (·.1)) nd fun e he => List.mem_of_mem_take ((hmem e).mp he)
      rw [List.length_map] at this
      omega
    have et : ds.take (i + 1) = ds.take i ++ [d] := by rw [List.take_add_one, gd]; rfl
    show wpAny _ A.in1 (holding [Value.ref x] (setAdd S (.ref x)) >>= _) _ _ s'
    refine wpAny_bind (wpAny_holding ?_)
    unfold setAdd
    refine wpAny_holding (wpAny_bind ((tupleKind (mixKind prog w)).pyHash (k := kd d) hu td'.key ?_))
    refine set_add (hf := hD prog w) (s := { s' with toks := s'.toks + (tupleKind (mixKind prog w)).draws (kd d) }) (d := d) (xs := xs) hu T' td' hlen fun h' ys b hsb T2 hys => ?_
    have hys1 : ∀ e, e ∈ ys.map (·.1) ↔ e ∈ ds.take (i + 1) := fun e => by
      rw [et, List.mem_append, List.mem_singleton, ← hmem e]
      rcases hys with ⟨z1, z2⟩ | ⟨z1, z2⟩
      · rw [z2]
        exact ⟨.inl, fun c => c.elim id fun c => by rw [c]; exact z1⟩
      · rw [(z2.map (·.1)).mem_iff, List.map_cons, List.mem_cons]
        exact ⟨fun c => c.elim .inr .inl, fun c => c.elim .inr .inl⟩
    have hys2 : ∀ q ∈ ys, Ok q := fun q hq => by
      rcases hys with ⟨z1, z2⟩ | ⟨z1, z2⟩
      · rw [z2] at hq; exact hlo q hq
      · rcases List.mem_cons.mp (z2.mem_iff.mp hq) with c | c
        · rw [c]; exact okq
        · exact hlo q c
    have SN : N ≤ S := hwr S List.mem_cons_self
    refine wpAny_pure ⟨plainId_quiet F.plain_set_update_loop _, ih (i + 1) _ ys (by omega) hlt (W.frame _ s' _ _ st' (Nat.le_add_right _ _) fun b hb o e => ?_) T2 hys1 (fun b o hb e => ?_) hys2 fun s'' xs'' hm2 T3 c1 c2 => ?_⟩
    · exact (hsb.2 b (fun z : b = S => hS (z ▸ hb))).trans e
    · exact (hsb.2 b (fun z : b = S => by omega)).trans (hO' b o hb e)
    · refine hR s'' xs'' (Moved.trans W.gtrans ((hm.mono up).then_heap (Nat.le_add_right _ _) fun b o hb e => ?_) hm2) T3 c1 c2
      exact (hsb.2 b (fun z : b = S => hb (z ▸ List.mem_cons_self))).trans e
theorem fresh_tab (led : Bool) : TabOk (SetTable.fresh 0 0 led) (#[] : Array (Int × Value)) :=
  ⟨.inl rfl, rfl, rfl, (fun i k x y _ z => by simp [SetTable.fresh] at z), (fun i j z => by simp [SetTable.fresh] at z), fun i j e z => by simp [SetTable.fresh] at z⟩
/-- the object of a new set -/
def newS (w : World) : Obj := { cls := .type "set", dict := none, data := .set #[] 0 (.fresh 0 0 (!(w.params.followText "set-order"))) }
theorem newS_tup {hf : D3 → Int} {h : Heap} {a : Addr} (e : h.get? a = some (newS w)) : SetTup hf w h a [] :=
  ⟨_, #[], 0, _, e, ⟨rfl, rfl, rfl⟩, rfl, fresh_tab _, (show 0 * 5 < 7 * 3 by decide), rfl, rfl, rfl, .nil, fun q z => nomatch z⟩
theorem code_newS (v : Value) {Q : Value → Shared → Prop} (h : Q (.ref s.heap.objs.size) { s with heap := s.heap.push (newS w) }) :
    codeAny (model prog w) A (.call (.builtin "set.__new__") ⟨[.type "set", v], []⟩) (wants Q E) s := by
  refine codeAny_of_tree ?_
  show wpAny _ A.in1 (do checkBuiltinCall "set.__new__" ⟨[.type "set", v], []⟩; again (.builtin "set.__new__" ⟨[.type "set", v], []⟩)) _ _ s
  refine wpAny_bind (wpAny_of_eq (PySem.F.newCall_set_1 v) (wpAny_pure ⟨plainId_quiet PySem.F.plain_set_new _, codeAny_builtin PySem.F.entry_set_new ?_⟩))
  rw [Around.under_plainId PySem.F.plain_set_new _]; unfold Builtin.«set.__new__» Builtin.Frozenset.newClass
  have ss := sub_set_self
  obtain ⟨hp, g, dr, tk, os⟩ := s
  dsimp only
  wp_walk
  refine wpAny_askSetting (wpAny_pure ?_)
  dsimp only
  simp only [newObj]
  exact wpAny_bind (wpAny_alloc (wpAny_pure (wpAny_pure h)))
theorem call_setD {l : Addr} {vs : List Value} {ds : List D3} {Q : Value → Shared → Prop} (hh : A.handled = none) (hu : A.units + 9 < cLine) (hl : s.heap.IsList l vs.toArray) (T : Paired (fun v d => ∃ x, v = Value.ref x ∧ TD s.heap x d) vs ds) (few : Few ds)
    (h : ∀ (h' : Heap) (tk : Nat) (xs : List (D3 × Addr)), SetTup (hD prog w) w h' s.heap.objs.size xs → (∀ d, d ∈ xs.map (·.1) ↔ d ∈ ds) → (∀ b o, s.heap.get? b = some o → h'.get? b = some o) → (∀ q ∈ xs, Value.ref q.2 ∈ vs) → Q (.ref s.heap.objs.size) { s with heap := h', toks := tk }) :
    wpAny (model prog w) A (call (.type "set") [.ref l]) Q E s := by
  obtain ⟨cc, tl, hmro⟩ := PySem.F.called_set.mro
  have hmade := PySem.F.called_set.made
  have hsub := PySem.F.called_set.sub
  refine wpAny_call (codeAny_of_tree ?_); show wpAny _ _ (callAny (.type "set") _) _ _ _
  refine wpAny_pure ⟨Code.quiet_builtin _ (by decide +kernel), codeAny_builtin PySem.F.entry_type_call ?_⟩
  rw [Around.under_plain (weight_type_call_type "set" [.ref l] []) rfl]; have n1 := PySem.F.called_set.notType
  have n2 := PySem.F.called_set.canCreate; have n3 := PySem.F.typeCall_set_1 (.ref l)
  repeat (any_goals (first | assumption | wp_step))
  refine codeAny_mono (code_newS (.ref l) (E := E) (Q := fun ob s1 => ob = .ref s.heap.objs.size ∧ s1 = { s with heap := s.heap.push (newS w) }) ⟨rfl, rfl⟩) fun r s1 hr => ?_
  match r, hr with
  | .error e, hr => exact hr
  | .ok .next, hr => exact hr.elim
  | .ok .brk, hr => exact hr.elim
  | .ok .cont, hr => exact hr.elim
  | .ok (.ret ob), hr =>
    obtain ⟨rfl, rfl⟩ := hr
    have gS : (s.heap.push (newS w)).get? s.heap.objs.size = some (newS w) := Heap.get?_push_size _ rfl
    have hT : Shared.TypeIs { s with heap := s.heap.push (newS w) } (.ref s.heap.objs.size) "set" := ⟨_, gS, rfl⟩
    have n4 := PySem.F.called_set.init.lookup; have n5 := PySem.F.called_set.init.bind (.ref s.heap.objs.size)
    repeat (any_goals (first | assumption | wp_step))
    refine codeAny_mono (codeAny_call_builtin (R := wants (fun r s2 => r = .none ∧ ∃ h' tk xs, s2 = { s with heap := h', toks := tk } ∧ SetTup (hD prog w) w h' s.heap.objs.size xs ∧ (∀ d, d ∈ xs.map (·.1) ↔ d ∈ ds) ∧ (∀ b o, s.heap.get? b = some o → h'.get? b = some o) ∧ ∀ q ∈ xs, Value.ref q.2 ∈ vs) E)
      PySem.F.called_set.init.plain PySem.F.entry_set_init (check_set_init_1 hT ?_)) fun r2 s2 hr2 => ?_
    · obtain ⟨⟨ocls, odict, odata, oslots⟩, hol, hcl, nl, hdl⟩ := id hl
      simp only at hcl hdl
      subst hcl; subst hdl
      have hol' : (s.heap.push (newS w)).get? l = some { cls := .type "list", dict := odict, data := .seq vs.toArray nl, slots := oslots } := Heap.get?_push_of_some _ hol
      have m1 := PySem.F.sub_list_set; have m2 := PySem.F.sub_list_frozenset
      have m3 : (Value.type "list" == Value.type "dict") = false := by decide
      have l1 : (s.heap.push (newS w)).IsList l vs.toArray := ⟨_, hol', rfl, nl, rfl⟩
      unfold Builtin.«set.__init__» noKeywords Builtin.Frozenset.updateFrom; generalize hPI : pyIter = PI
      have gS' : (s.heap.push (newS w)).get? s.heap.objs.size = some { cls := .type "set", dict := none, data := .set #[] 0 (.fresh 0 0 (!(w.params.followText "set-order"))) } := gS
      wp_walk
      subst hPI
      refine wpAny_pyIter_list l1 (wpAny_bind (wpAny_runValue ?_))
      have ll := Heap.lt_size hol
      have h3 : A.in1.in1.in1.handled = none := by simp [hh]
      have hu3 : A.in1.in1.in1.units < cLine := by
        have u1 := in1_units (A := A)
        have u2 := in1_units (A := A.in1)
        have u3 := in1_units (A := A.in1.in1)
        omega
      have hI : l ≠ (s.heap.push (newS w)).objs.size := by rw [Heap.size_push]; exact Nat.ne_of_lt (Nat.lt_succ_of_lt ll)
      have hSf : s.heap.objs.size ∉ [(s.heap.push (newS w)).objs.size, l] := by
        rw [Heap.size_push]; simp only [List.mem_cons, List.not_mem_nil, or_false, not_or]
        exact ⟨Nat.ne_of_lt (Nat.lt_succ_self _), Nat.ne_of_gt ll⟩
      refine set_loop (Ok := fun q => q.2 < s.heap.objs.size ∧ Value.ref q.2 ∈ vs) (N := s.heap.objs.size) (h0 := s.heap) (ds := ds) ((Walks.list h3 _ l hI vs.toArray).toS) hSf (by rw [List.size_toArray]; exact Paired.length T) (fun i v hv => ?_) (fun b hb => ?_) (fun q hq => hq.1) few hu3
        (vs.toArray.size - 0) 0 _ [] rfl (Nat.zero_le _) ⟨⟨_, Heap.get?_push_size _ rfl, rfl, rfl⟩, l1.push _⟩ (newS_tup (Heap.get?_push_of_some _ gS)) (fun d => by simp) (fun b o _ e => Heap.get?_push_of_some _ (Heap.get?_push_of_some _ e)) (fun q z => nomatch z) fun s' xs' hm T' c1 c2 => ?_
      · obtain ⟨d, gd, x, ex, tx⟩ := Paired.getL T (i := i) (a := v) (by simpa using hv)
        refine ⟨x, d, ex, gd, tx, ?_, ?_⟩
        · obtain ⟨_, _, _, o, g, _⟩ := tx
          exact Heap.lt_size g
        · rw [← ex]; exact List.mem_of_getElem? (show vs[i]? = some v by simpa using hv)
      · rw [Heap.size_push] at hb
        simp only [List.mem_cons, List.not_mem_nil, or_false] at hb
        exact hb.elim (fun e => Nat.le_of_eq e.symm) fun e => e ▸ Nat.le_succ _
      · obtain ⟨h', g', d', tk', os'⟩ := s'
        have eg : g' = s.gens := hm.gens
        have ed : d' = s.drawn := hm.drawn; have eo : os' = s.os := hm.os
        subst eg; subst ed; subst eo
        show wpAny _ _ _ _ _ _; refine wpAny_pure (wpAny_pure ⟨rfl, h', tk', xs', rfl, T', c1, fun b o e => ?_, fun q hq => (c2 q hq).2⟩)
        have hb := Heap.lt_size e
        refine hm.heap b o ?_ (Heap.get?_push_of_some _ (Heap.get?_push_of_some _ e))
        rw [Heap.size_push]; simp only [List.mem_cons, List.not_mem_nil, or_false, not_or]
        exact ⟨Nat.ne_of_lt hb, Nat.ne_of_lt (Nat.lt_succ_of_lt hb)⟩
    · match r2, hr2 with
      | .error e, hr2 => exact hr2
      | .ok .next, hr2 => exact hr2.elim
      | .ok .brk, hr2 => exact hr2.elim
      | .ok .cont, hr2 => exact hr2.elim
      | .ok (.ret r), hr2 =>
        obtain ⟨rfl, h', tk, xs, rfl, T', c1, c2, c3⟩ := hr2
        repeat (any_goals (first | assumption | wp_step))
        exact h h' tk xs T' c1 c2 c3
end
end L2

end

section
namespace L2
open PySem PySem.Spec PyProof.Rows
/-! ### a set is walked -/
theorem slot_sn : Slot "set_iterator" "__next__" "set_iterator.__next__" := .of (owner := "set_iterator") (n := "__next__") (by rw [typeLookup_type, builtinLookup_eq_fast]; kernel_rfl) (by decide +kernel) (by decide +kernel) (by decide +kernel) (by first | exact .inl (by decide +kernel) | exact .inr (by decide +kernel)) (by rw [isSubtype_type]; kernel_rfl)
theorem entry_sn : entryFor table "set_iterator.__next__" = some Builtin.«set_iterator.__next__» := entryFor_of_tree (by kernel_rfl)
theorem args_sn (a : Value) : argsOk "set_iterator.__next__" ⟨[a], []⟩ := by unfold argsOk; kernel_rfl
theorem entry_si : entryFor table "set.__iter__" = some Builtin.«frozenset.__iter__» := entryFor_alias (id' := "frozenset.__iter__") (by kernel_rfl) rfl (by decide +kernel) (by kernel_rfl)
local macro_rules | `(tactic| walk_at "drawn") => do
    let n := Lean.mkIdent (Lean.mkPrivateNameCore `PySem.SetOps `PySem.drawn)
    `(tactic| delta $n)
local macro_rules | `(tactic| walk_at "led") => do
    let n := Lean.mkIdent (Lean.mkPrivateNameCore `PySem.SetOps `PySem.mustBeLedForItsPlaces)
    `(tactic| delta $n)
local macro_rules | `(tactic| walk_at "silent") => do
    let n := Lean.mkIdent (Lean.mkPrivateNameCore `PySem.Builtin.List.Common `PySem.Builtin.List.silentSize)
    let m := Lean.mkIdent (Lean.mkPrivateNameCore `PySem.Builtin.List.Common `PySem.Builtin.List.silentSizes)
    `(tactic| delta $n $m)
local macro_rules | `(tactic| walk_at "resizes") => do
    let n := Lean.mkIdent (Lean.mkPrivateNameCore `PySem.Builtin.List.Common `PySem.Builtin.List.listResizesAlways)
    `(tactic| delta $n)
theorem slot_sii : Slot "set_iterator" "__iter__" "set_iterator.__iter__" := .of (owner := "set_iterator") (n := "__iter__") (by rw [typeLookup_type, builtinLookup_eq_fast]; kernel_rfl) (by decide +kernel) (by decide +kernel) (by decide +kernel) (by first | exact .inl (by decide +kernel) | exact .inr (by decide +kernel)) (by rw [isSubtype_type]; kernel_rfl)
theorem entry_sii : entryFor table "set_iterator.__iter__" = some Builtin.«dict_keyiterator.__iter__» := entryFor_alias (id' := "dict_keyiterator.__iter__") (by kernel_rfl) rfl (by decide +kernel) (by kernel_rfl)
theorem args_sii (a : Value) : argsOk "set_iterator.__iter__" ⟨[a], []⟩ := by unfold argsOk; kernel_rfl
theorem erase_perm {α : Type} : ∀ (l : List α) (i : Nat) (h : i < l.length), (l[i] :: l.eraseIdx i).Perm l
  | a :: l, 0, _ => .refl _
  | a :: l, i + 1, h => (List.Perm.swap _ _ _).trans ((erase_perm l i (Nat.lt_of_succ_lt_succ h)).cons a)
theorem pick_go {α : Type} (f : Nat → Nat) : ∀ (n k : Nat) (l : List α) (out : Array α), l.length ≤ n → (pickOrder.go f n k l out).toList.Perm (out.toList ++ l) := by
  intro n
  induction n with
  | zero =>
    intro k l out h
    have : l = [] := List.length_eq_zero_iff.mp (by omega)
    subst this
    rw [List.append_nil]
    exact .refl _
  | succ n ih =>
    intro k l out h
    unfold pickOrder.go
    split
    · rename_i x hx
      have hi : f k % l.length < l.length := (List.getElem?_eq_some_iff.mp hx).1
      have ex := (List.getElem?_eq_some_iff.mp hx).2
      refine (ih (k + 1) _ _ (by rw [List.length_eraseIdx]; split <;> omega)).trans ?_
      rw [Array.toList_push, List.append_assoc]
      refine List.Perm.append_left _ ?_
      rw [← ex]
      exact erase_perm l _ hi
    · rename_i hx
      have : l = [] := by
        cases l with
        | nil => rfl
        | cons a l =>
          have : f k % (a :: l).length < (a :: l).length := Nat.mod_lt _ (by simp)
          rw [List.getElem?_eq_getElem this] at hx
          cases hx
      subst this
      rw [List.append_nil]
theorem ord_perm {α : Type} (f : Nat → Nat) (xs : Array α) : (pickOrder f xs).toList.Perm xs.toList := by
  unfold pickOrder
  refine (pick_go f xs.size 0 xs.toList #[] (by simp)).trans ?_
  exact .refl _
section
variable {prog : Program} {w : World} {A : Around} {E : Value → Shared → Prop} {s : Shared}
/-- the order in which a set is walked -/
def wkO (w : World) (a : Addr) (ep : Nat) (es : Array (Int × Value)) : Array (Int × Value) := if w.params.followText "set-order" = true then pickOrder (w.params.setOrder a ep) es else es
theorem wkO_perm (w : World) (a : Addr) (ep : Nat) (es : Array (Int × Value)) : (wkO w a ep es).toList.Perm es.toList := by
  unfold wkO; split
  · exact ord_perm _ _
  · exact .refl _
/-- where the walk stands before its i-th thing -/
def slO (w : World) (t : SetTable) (i : Nat) : Nat := if w.params.followText "set-order" = true then 0 else if i = 0 then 0 else t.place.getD (i - 1) 0 + 1
def SetAt (w : World) (h : Heap) (a : Addr) (es : Array (Int × Value)) (ep : Nat) (t : SetTable) : Prop :=
  ∃ o, h.get? a = some o ∧ o.cls = .type "set" ∧ o.data = .set es ep t
structure WkOk (w : World) (es : Array (Int × Value)) (t : SetTable) : Prop where
  tab : TabOk t es
  fit : es.size ≤ t.mask
  pln : t.plain = true
  led : t.led = !(w.params.followText "set-order")
def IterAt (h : Heap) (I a : Addr) (sl i n ep : Nat) : Prop := ∃ o, h.get? I = some o ∧ o.cls = .type "set_iterator" ∧ o.data = .fields #[.int (sl : Int) 0, .int (i : Int) 0, .ref a, .int (n : Int) 0, .int (ep : Int) 0]
theorem set_next {a : Addr} {es : Array (Int × Value)} {ep : Nat} {t : SetTable} {i : Nat} {Q : Option (Value × Nat) → Shared → Prop} (S : SetAt w s.heap a es ep t) (K : WkOk w es t) (hi : i ≤ es.size)
    (h : Q ((wkO w a ep es)[i]?.map fun e => (e.2, slO w t (i + 1))) s) : wpAny (model prog w) A (setNext a (slO w t i) i ep) Q E s := by
  obtain ⟨o, ho, hc, hd⟩ := S
  unfold setNext
  refine wpAny_bind (wpAny_setState_of ho hd (K.tab.fits K.fit) ?_)
  unfold setsByText
  refine wpAny_bind (wpAny_bind (wpAny_askSetting (wpAny_pure ?_)))
  dsimp only
  show wpAny (model prog w) A (if w.params.followText "set-order" = true then _ else _) Q E s
  by_cases c : w.params.followText "set-order" = true
  · rw [if_pos c, if_neg (by simp)]
    unfold setWalk
    refine wpAny_bind (wpAny_bind (wpAny_setState_of ho hd (K.tab.fits K.fit) ?_))
    unfold setsByText
    refine wpAny_bind (wpAny_bind (wpAny_askSetting (wpAny_pure ?_)))
    show wpAny (model prog w) A (if w.params.followText "set-order" = true then _ else _) _ E s
    rw [if_pos c]
    refine wpAny_bind (wpAny_askSetting (wpAny_pure (wpAny_pure ?_)))
    have e1 : slO w t i = 0 := by unfold slO; rw [if_pos c]
    have e2 : slO w t (i + 1) = 0 := by unfold slO; rw [if_pos c]
    have e3 : wkO w a ep es = pickOrder (w.params.setOrder a ep) es := by unfold wkO; rw [if_pos c]
    rw [e2, e3] at h
    rw [e1]
    exact h
  · rw [if_neg c]
    walk_at "drawn"
    walk_at "led"
    rw [if_neg (by rw [K.pln]; simp)]
    have hle : t.led = true := by rw [K.led]; simpa using c
    rw [if_neg (by rw [hle]; simp)]
    refine wpAny_bind (wpAny_pure (wpAny_pure ?_))
    have e3 : wkO w a ep es = es := by unfold wkO; rw [if_neg c]
    have e2 : slO w t (i + 1) = t.place.getD i 0 + 1 := by unfold slO; rw [if_neg c, if_neg (by omega)]; rfl
    have eb : SetTable.below t.place (slO w t i) = i := by
      obtain ⟨b1, b2, b3⟩ := blw K.tab.ris (slO w t i)
      unfold slO at *
      rw [if_neg c] at *
      by_cases i0 : i = 0
      · rw [if_pos i0] at *
        rcases Nat.eq_zero_or_pos (SetTable.below t.place 0) with z | z
        · rw [z, i0]
        · have := b2 0 _ z (Array.getElem?_eq_getElem (by omega))
          omega
      · rw [if_neg i0] at *
        have hp : i - 1 < t.place.size := by rw [K.tab.siz]; omega
        have ep : t.place[i - 1]? = some (t.place.getD (i - 1) 0) := by rw [Array.getD_eq_getD_getElem?, Array.getElem?_eq_getElem hp]; rfl
        generalize t.place.getD (i - 1) 0 = p at *
        rcases Nat.lt_trichotomy (SetTable.below t.place (p + 1)) i with z | z | z
        · have := b3 (i - 1) p (by omega) ep
          omega
        · exact z
        · have hq : i < t.place.size := by omega
          have h1 := b2 i _ z (Array.getElem?_eq_getElem hq)
          have h2 := K.tab.ris (i - 1) i _ _ (by omega) ep (Array.getElem?_eq_getElem hq)
          omega
    rw [e2, e3] at h
    rw [eb]
    by_cases hlt : i < es.size
    · have hp : i < t.place.size := by rw [K.tab.siz]; exact hlt
      rw [Array.getElem?_eq_getElem hlt] at h ⊢
      rw [Array.getD_eq_getD_getElem?, Array.getElem?_eq_getElem hp] at h
      rw [Array.getElem?_eq_getElem hp]
      exact h
    · rw [Array.getElem?_eq_none (by omega)] at h ⊢
      exact h
theorem fields_of {M : Model} {I : Addr} {o : Obj} {fs : Array Value} {Q : Array Value → Shared → Prop} (ho : s.heap.get? I = some o) (hd : o.data = .fields fs) (h : Q fs s) : wpAny M A (fieldsOf (.ref I)) Q E s := by
  unfold fieldsOf
  refine wpAny_bind (wpAny_load ho ?_)
  rw [hd]
  exact wpAny_pure h
theorem IterAt.typ {I a : Addr} {sl i n ep : Nat} (J : IterAt s.heap I a sl i n ep) : s.TypeIs (.ref I) "set_iterator" := let ⟨o, h, c, _⟩ := J; ⟨o, h, c⟩
theorem wk_size (w : World) (a : Addr) (ep : Nat) (es : Array (Int × Value)) : (wkO w a ep es).size = es.size := by
  rw [← Array.length_toList, (wkO_perm w a ep es).length_eq, Array.length_toList]
theorem next_item {I a : Addr} {es : Array (Int × Value)} {ep : Nat} {t : SetTable} {i : Nat} {x : Int × Value} {Q : Option Value → Shared → Prop} (S : SetAt w s.heap a es ep t) (K : WkOk w es t) (J : IterAt s.heap I a (slO w t i) i es.size ep) (hx : (wkO w a ep es)[i]? = some x) (hne : a ≠ I)
    (hQ : ∀ h', IterAt h' I a (slO w t (i + 1)) (i + 1) es.size ep → Heap.SameBut I s.heap h' → Q (some x.2) { s with heap := h' }) : wpAny (model prog w) A (pyNext (.ref I)) Q E s := by
  have hi : i < es.size := by rw [← wk_size w a ep es]; exact (Array.getElem?_eq_some_iff.mp hx).1
  obtain ⟨o, ho, hc, hd⟩ := id J
  unfold pyNext
  refine wpAny_bind (wpAny_attempt (wpAny_callSpecial?_slot (name := Str.ofString "__next__") J.typ slot_sn (wpAny_call_entry slot_sn J.typ entry_sn ?_ (args_sn _))))
  unfold Builtin.«set_iterator.__next__» slotArgs
  simp only [List.isEmpty_nil, Bool.not_true, Bool.false_eq_true, ↓reduceIte, bind_assoc, List.length_nil, bne_self_eq_false]
  refine wpAny_bind (wpAny_pure (wpAny_bind (fields_of ho hd ?_)))
  dsimp only
  obtain ⟨so, sho, shc, shd⟩ := id S
  refine wpAny_bind (wpAny_setEntries_of sho shd (K.tab.fits K.fit) ?_)
  rw [if_neg (by simp)]
  simp only [Int.toNat_natCast]
  refine wpAny_bind (set_next S K (Nat.le_of_lt hi) ?_)
  rw [hx]
  dsimp only [Option.map]
  refine wpAny_bind (wpAny_setField ho hd (by simp) ?_)
  have g1 : (s.heap.update I (Obj.mapFields (·.set! 0 (rawInt ↑(slO w t (i + 1)))))).get? I = some (Obj.mapFields (·.set! 0 (rawInt ↑(slO w t (i + 1)))) o) := Heap.get?_update_self _ ho (Obj.isFreed_of_fields (Obj.data_mapFields hd _))
  refine wpAny_bind (wpAny_setField g1 (Obj.data_mapFields hd _) (by simp) (wpAny_pure ⟨_, rfl, wpAny_pure (hQ _ ?_ ?_)⟩))
  · refine ⟨_, Heap.get?_update_self _ g1 (Obj.isFreed_of_fields (Obj.data_mapFields (Obj.data_mapFields hd _) _)), (Obj.cls_mapFields ..).trans ((Obj.cls_mapFields ..).trans hc), ?_⟩
    rw [Obj.data_mapFields (Obj.data_mapFields hd _)]
    simp [rawInt]
  · exact (Heap.SameBut.update ..).trans (Heap.SameBut.update ..)
theorem next_end {I a : Addr} {es : Array (Int × Value)} {ep : Nat} {t : SetTable} {Q : Option Value → Shared → Prop} (hh : A.handled = none) (S : SetAt w s.heap a es ep t) (K : WkOk w es t) (J : IterAt s.heap I a (slO w t es.size) es.size es.size ep)
    (hQ : ∀ h', Heap.ExtBut I s.heap h' → Q none { s with heap := h' }) : wpAny (model prog w) A (pyNext (.ref I)) Q E s := by
  have hx : (wkO w a ep es)[es.size]? = none := Array.getElem?_eq_none (by rw [wk_size]; exact Nat.le_refl _)
  obtain ⟨o, ho, hc, hd⟩ := id J
  unfold pyNext
  refine wpAny_bind (wpAny_attempt (wpAny_callSpecial?_slot (name := Str.ofString "__next__") J.typ slot_sn (wpAny_call_entry slot_sn J.typ entry_sn ?_ (args_sn _))))
  unfold Builtin.«set_iterator.__next__» slotArgs
  simp only [List.isEmpty_nil, Bool.not_true, Bool.false_eq_true, ↓reduceIte, bind_assoc, List.length_nil, bne_self_eq_false]
  refine wpAny_bind (wpAny_pure (wpAny_bind (fields_of ho hd ?_)))
  dsimp only
  obtain ⟨so, sho, shc, shd⟩ := id S
  refine wpAny_bind (wpAny_setEntries_of sho shd (K.tab.fits K.fit) ?_)
  rw [if_neg (by simp)]
  simp only [Int.toNat_natCast]
  refine wpAny_bind (set_next S K (Nat.le_refl _) ?_)
  rw [hx]
  dsimp only [Option.map]
  refine wpAny_bind (wpAny_setField ho hd (by simp) ?_); refine wpAny_bind ?_
  simp only [newExc, newTuple]; refine wpAny_bind (wpAny_newObj_type ?_ (by size_fits))
  refine wpAny_bind (m := firstArgMember _ _) (wpAny_of_eq (a := Value.none) (by first | rfl | (simp only [firstArgMember]; rfl)) (wpAny_newObj_type ?_ (by size_fits)))
  simp only [raiseNew]; refine wpAny_bind (wpAny_handled ?_)
  rw [show A.in1.handled = none from hh]; refine wpAny_bind (wpAny_pure (wpAny_throw ?_))
  refine wpAny_bind (wpAny_isInstance (T := "StopIteration") (b := true) ⟨_, Heap.get?_push_size _ rfl, rfl⟩ isSubtype_stop (wpAny_pure ?_))
  exact hQ _ (((Heap.SameBut.update ..).extBut.push _).push _)
theorem SetAt.keep {h h' : Heap} {a : Addr} {es : Array (Int × Value)} {ep : Nat} {t : SetTable} (S : SetAt w h a es ep t) (hk : ∀ o, h.get? a = some o → h'.get? a = some o) : SetAt w h' a es ep t := let ⟨o, e, r⟩ := S; ⟨o, hk o e, r⟩
theorem IterAt.keep {h h' : Heap} {I a : Addr} {sl i n ep : Nat} (J : IterAt h I a sl i n ep) (hk : ∀ o, h.get? I = some o → h'.get? I = some o) : IterAt h' I a sl i n ep := let ⟨o, e, r⟩ := J; ⟨o, hk o e, r⟩
/-- a walk over a set; asking the iterator for itself is never done here -/
theorem set_walks (hh : A.handled = none) {I a : Addr} (hne : a ≠ I) {es : Array (Int × Value)} {ep : Nat} {t : SetTable} (K : WkOk w es t)
    (self : ∀ i (s : Shared) (Q : Value → Shared → Prop) (E : Value → Shared → Prop), IterAt s.heap I a (slO w t i) i es.size ep → Q (.ref I) s → wpAny (model prog w) A (pyIter (.ref I)) Q E s) :
    Walks prog w A I [I, a] [I] es.size (fun i v => ((wkO w a ep es)[i]?.map (·.2)) = some v) (fun i h => IterAt h I a (slO w t i) i es.size ep ∧ SetAt w h a es ep t) where
  sub := fun b hb => by simp at hb; simp [hb]
  frame := fun _ _ _ st hk => ⟨st.1.keep fun o e => hk I (by simp) o e, st.2.keep fun o e => hk a (by simp) o e⟩
  item := fun i s Q E hi st hQ => by
    have hx : (wkO w a ep es)[i]? = some ((wkO w a ep es)[i]'(by rw [wk_size]; exact hi)) := Array.getElem?_eq_getElem _
    refine next_item st.2 K st.1 hx hne fun h' J hs => ?_
    exact hQ _ h' s.toks (by rw [hx]; rfl) ⟨J, st.2.keep fun o e => (hs.2 a hne).trans e⟩ fun b o hb e => (hs.2 b (fun z => hb (by simp [z]))).trans e
  done := fun s Q E st hQ => next_end hh st.2 K st.1 fun h' he => hQ h' s.toks fun b o hb e => he b o (fun z => hb (by simp [z])) e
  self := fun i s Q E st hQ => self i s Q E st.1 hQ
theorem iter_set {a : Addr} {es : Array (Int × Value)} {ep : Nat} {t : SetTable} {Q : Value → Shared → Prop} (S : SetAt w s.heap a es ep t) (K : WkOk w es t)
    (h : ∀ o, (s.heap.push o).get? s.heap.objs.size = some o → IterAt (s.heap.push o) s.heap.objs.size a (slO w t 0) 0 es.size ep → Q (.ref s.heap.objs.size) { s with heap := s.heap.push o }) : wpAny (model prog w) A (pyIter (.ref a)) Q E s := by
  obtain ⟨so, sho, shc, shd⟩ := id S
  have hT : s.TypeIs (.ref a) "set" := ⟨so, sho, shc⟩
  refine wpAny_pyIter_slot hT PySem.F.slot_set_iter (wpAny_call_entry PySem.F.slot_set_iter hT entry_si ?_ (PySem.F.args_set_iter_1 _))
  unfold Builtin.«frozenset.__iter__» Builtin.Frozenset.slot0 slotArgs
  simp only [List.isEmpty_nil, Bool.not_true, Bool.false_eq_true, ↓reduceIte, bind_assoc, List.length_nil, bne_self_eq_false]
  unfold Builtin.Frozenset.addrOf Builtin.Frozenset.sizeOf
  refine wpAny_bind (wpAny_pure ?_)
  dsimp only
  refine wpAny_bind (wpAny_pure (wpAny_bind (wpAny_bind (wpAny_setEntries_of sho shd (K.tab.fits K.fit) (wpAny_pure ?_)))))
  unfold setDrawn
  refine wpAny_bind (wpAny_bind (wpAny_setState_of sho shd (K.tab.fits K.fit) ?_))
  dsimp only
  unfold setsByText
  refine wpAny_bind (wpAny_bind (wpAny_askSetting (wpAny_pure (wpAny_pure ?_))))
  walk_at "drawn"
  rw [if_neg (by rw [K.pln]; simp)]
  refine wpAny_bind (wpAny_pure (wpAny_bind (wpAny_setEpoch_of sho shd (K.tab.fits K.fit) ?_)))
  have e0 : slO w t 0 = 0 := by unfold slO; split <;> rfl
  refine wpAny_bind (wpAny_newObj_type (wpAny_pure ⟨_, rfl, "set_iterator", _, ⟨_, Heap.get?_push_size _ rfl, rfl⟩, slot_sn.lookup, h _ (Heap.get?_push_size _ rfl) ?_⟩))
  exact ⟨_, Heap.get?_push_size _ rfl, rfl, by rw [e0]; rfl⟩
theorem self_si {I a : Addr} {sl i n ep : Nat} {Q : Value → Shared → Prop} (J : IterAt s.heap I a sl i n ep) (h : Q (.ref I) s) : wpAny (model prog w) A (pyIter (.ref I)) Q E s := by
  refine wpAny_pyIter_slot J.typ slot_sii (wpAny_call_entry slot_sii J.typ entry_sii ?_ (args_sii _)); show wpAny _ _ (ret (.ref I)) _ _ s
  exact wpAny_pure ⟨_, rfl, "set_iterator", _, J.typ, slot_sn.lookup, h⟩
theorem hint_set {a : Addr} {es : Array (Int × Value)} {ep : Nat} {t : SetTable} {Q : Bool → Shared → Prop} (S : SetAt w s.heap a es ep t) (h : Q false s) : wpAny (model prog w) A (Builtin.List.listLengthHint (.ref a)) Q E s := by
  obtain ⟨so, sho, shc, shd⟩ := id S
  have hT : s.TypeIs (.ref a) "set" := ⟨so, sho, shc⟩
  unfold Builtin.List.listLengthHint
  refine wpAny_bind (wpAny_specialOf hT PySem.F.slot_set_len.lookup ?_)
  dsimp only
  rw [show splitId "set.__len__" = some ("set", "__len__") from by decide +kernel]
  dsimp only
  refine wpAny_bind (wpAny_isInstance hT sub_set_self ?_)
  rw [if_neg (by decide)]
  walk_at "silent"
  rw [if_pos (by decide +kernel)]
  refine wpAny_bind (wpAny_typeOf hT ?_)
  exact wpAny_pure h
theorem collect_set {a : Addr} {es : Array (Int × Value)} {ep : Nat} {t : SetTable} {Q : List Value → Shared → Prop} (hh : A.handled = none) (S : SetAt w s.heap a es ep t) (K : WkOk w es t) (hz : es.size ≤ sizeLine)
    (hQ : ∀ h' tk vs, s.heap.objs.size < h'.objs.size → vs.Perm (es.toList.map (·.2)) → (∀ b o, s.heap.get? b = some o → h'.get? b = some o) → Q vs { s with heap := h', toks := tk }) : wpAny (model prog w) A (collect (.ref a)) Q E s := by
  obtain ⟨so, sho, shc, shd⟩ := id S
  have la := Heap.lt_size sho
  unfold collect
  refine wpAny_bind (wpAny_runValue (codeAny_builtin PySem.F.entry_proto_collect ?_)); rw [Around.under_plainId PySem.F.plain_proto_collect _]
  show wpAny _ A.in1 (newList [] >>= fun l => again (.builtin "list.__iadd__" ⟨[l, .ref a], []⟩)) _ _ s
  refine wpAny_bind (wpAny_newObj_type (wpAny_pure ⟨plainId_quiet PySem.F.plain_list_iadd _, codeAny_builtin PySem.F.entry_list_iadd ?_⟩)); rw [Around.under_plainId PySem.F.plain_list_iadd _]
  have S1 : SetAt w (s.heap.push { cls := .type "list", data := .seq ([] : List Value).toArray }) a es ep t := S.keep fun o e => Heap.get?_push_of_some _ e
  have T1 : Shared.TypeIs { s with heap := s.heap.push { cls := .type "list", data := .seq ([] : List Value).toArray } } (.ref a) "set" := by obtain ⟨o1, g1, c1, _⟩ := S1; exact ⟨o1, g1, c1⟩
  show wpAny _ A.in1 (Builtin.List.listExtendWith (.ref s.heap.objs.size) (.ref a) (.ref s.heap.objs.size)) _ _ _; unfold Builtin.List.listExtendWith
  refine wpAny_bind (wpAny_typeOf T1 ?_)
  have n1 : Builtin.List.listSameRef (.ref s.heap.objs.size) (.ref a) = false := by
    unfold Builtin.List.listSameRef
    exact beq_eq_false_iff_ne.mpr (Nat.ne_of_gt la)
  rw [if_neg (by rw [n1]; decide)]
  refine wpAny_bind (iter_set (s := { s with heap := s.heap.push { cls := .type "list", data := .seq ([] : List Value).toArray } }) S1 K fun o1 go1 J1 => ?_)
  refine wpAny_bind (wpAny_holding (hint_set (S1.keep fun o e => Heap.get?_push_of_some _ e) ?_))
  walk_at "resizes"
  rw [if_pos (by decide)]
  refine wpAny_bind (wpAny_rule (wpAny_bind ?_))
  have eI : (s.heap.push { cls := .type "list", data := .seq ([] : List Value).toArray }).objs.size = s.heap.objs.size + 1 := by rw [Heap.size_push]
  have gS : ((s.heap.push { cls := .type "list", data := .seq ([] : List Value).toArray }).push o1).get? s.heap.objs.size = some { cls := .type "list", data := .seq ([] : List Value).toArray } := Heap.get?_push_of_some _ (Heap.get?_push_size _ rfl)
  have S2 : SetAt w ((s.heap.push { cls := .type "list", data := .seq ([] : List Value).toArray }).push o1) a es ep t := S1.keep fun o e => Heap.get?_push_of_some _ e
  have J2 : IterAt ((s.heap.push { cls := .type "list", data := .seq ([] : List Value).toArray }).push o1) (s.heap.objs.size + 1) a (slO w t 0) 0 es.size ep := by rw [← eI]; exact J1
  have old : ∀ b o, s.heap.get? b = some o → ((s.heap.push { cls := .type "list", data := .seq ([] : List Value).toArray }).push o1).get? b = some o := fun b o e => Heap.get?_push_of_some _ (Heap.get?_push_of_some _ e)
  show wpAny _ A.in1 _ _ _ { s with heap := (s.heap.push { cls := .type "list", data := .seq ([] : List Value).toArray }).push o1 }
  dsimp only
  rw [eI]
  generalize (s.heap.push { cls := .type "list", data := .seq ([] : List Value).toArray }).push o1 = hp at gS S2 J2 old
  show wpAny _ A.in1 (updateSeq s.heap.objs.size (·.push .none) >>= fun _ => updateSeq s.heap.objs.size (·.pop)) _ _ _; refine wpAny_bind (wpAny_updateSeq gS rfl ?_)
  have g2 := Heap.get?_update_self (Obj.mapSeq (·.push Value.none)) gS rfl
  refine wpAny_updateSeq g2 rfl ?_
  have g3 := Heap.get?_update_self (Obj.mapSeq (·.pop)) g2 rfl
  have oth : ∀ b o, b ≠ s.heap.objs.size → hp.get? b = some o → ((hp.update s.heap.objs.size (Obj.mapSeq (·.push Value.none))).update s.heap.objs.size (Obj.mapSeq (·.pop))).get? b = some o :=
    fun b o hb e => (Heap.get?_update_other _ _ (Ne.symm hb)).trans ((Heap.get?_update_other _ _ (Ne.symm hb)).trans e)
  have hSf : s.heap.objs.size ∉ [s.heap.objs.size + 1, a] := by
    simp only [List.mem_cons, List.not_mem_nil, or_false, not_or]
    exact ⟨Nat.ne_of_lt (Nat.lt_succ_self _), Nat.ne_of_gt la⟩
  have hne : a ≠ s.heap.objs.size + 1 := Nat.ne_of_lt (Nat.lt_succ_of_lt la)
  refine wpAny_pure ⟨plainId_quiet PySem.F.plain_extend_loop _, codeAny_extend_loopS ((set_walks (A := A.in1) hh hne K fun i s Q E J h => self_si J h).toS) hz _ hSf _ es.size 0 _ _ _ rfl (Nat.zero_le _)
    ⟨J2.keep fun o e => oth _ o (Nat.ne_of_gt (Nat.lt_succ_self _)) e, S2.keep fun o e => oth _ o (Nat.ne_of_lt la) e⟩ g3 (ItemsOf.nil _) fun s' acc c' hm gS' hacc => ?_⟩
  show wpAny _ A (load s.heap.objs.size >>= _) _ _ s'; refine wpAny_bind (wpAny_load gS' (wpAny_pure ?_))
  obtain ⟨h', g', d', tk', os'⟩ := s'
  have eg : g' = s.gens := hm.gens
  have ed : d' = s.drawn := hm.drawn; have eo : os' = s.os := hm.os
  subst eg; subst ed; subst eo
  refine hQ h' tk' acc.toList (Heap.lt_size gS') ?_ fun b o e => ?_
  · have eq : acc.toList = (wkO w a ep es).toList.map (·.2) := by
      refine List.ext_getElem? fun j => ?_
      rw [List.getElem?_map, Array.getElem?_toList, Array.getElem?_toList]
      by_cases hj : j < es.size
      · have hj' : j < acc.size := by rw [hacc.1]; exact hj
        have := hacc.2 j _ (Array.getElem?_eq_getElem hj')
        rw [Array.getElem?_eq_getElem hj', this]
      · rw [Array.getElem?_eq_none (by rw [hacc.1]; omega), Array.getElem?_eq_none (by rw [wk_size]; omega)]; rfl
    rw [eq]
    exact (wkO_perm w a ep es).map _
  · have lb := Heap.lt_size e
    refine hm.heap b o ?_ (oth b o (Nat.ne_of_lt lb) (old b o e))
    simp only [List.mem_cons, List.not_mem_nil, or_false, not_or]
    exact ⟨Nat.ne_of_lt lb, Nat.ne_of_lt (Nat.lt_succ_of_lt lb)⟩
end
end L2

end

section
namespace L2
open PySem PySem.Spec PyProof.Rows
/-! ### how many pairs stand the other way about -/
def inv : List Nat → Nat
  | [] => 0
  | x :: l => l.countP (fun y => decide (y < x)) + inv l
theorem cp_succ (x : Nat) (l : List Nat) : (l.map (· + 1)).countP (fun y => decide (y < x + 1)) = l.countP (fun y => decide (y < x)) := by
  rw [List.countP_map]
  congr 1
  funext y
  show decide (y + 1 < x + 1) = decide (y < x)
  exact decide_eq_decide.mpr (by omega)
theorem inv_succ : ∀ l : List Nat, inv (l.map (· + 1)) = inv l
  | [] => rfl
  | x :: l => by
    show (l.map (· + 1)).countP _ + inv (l.map (· + 1)) = _
    rw [cp_succ, inv_succ l]; rfl
theorem inv_ins : ∀ A B : List Nat, inv (A.map (· + 1) ++ 0 :: B.map (· + 1)) = A.length + inv (A ++ B)
  | [], B => by
    show (B.map (· + 1)).countP _ + inv (B.map (· + 1)) = 0 + inv B
    rw [inv_succ, List.countP_eq_zero.mpr]
    intro a _
    simp
  | a :: A, B => by
    show (A.map (· + 1) ++ 0 :: B.map (· + 1)).countP (fun y => decide (y < a + 1)) + inv (A.map (· + 1) ++ 0 :: B.map (· + 1)) = (A.length + 1) + ((A ++ B).countP (fun y => decide (y < a)) + inv (A ++ B))
    rw [inv_ins A B, List.countP_append, List.countP_cons, cp_succ, cp_succ, List.countP_append, if_pos (by simp)]
    omega
theorem wayF_split {p : Nat} {rest ds : List D3} {d : D3} {ps : List Int} (h : wayF p rest (d :: ds) = some ps) :
    d ∈ rest ∧ (∀ e ∈ rest.take (fst? d rest), clashB e d = false) ∧ ∃ qs, wayF (p + 1) (rest.eraseIdx (fst? d rest)) ds = some qs ∧ ps = dnL ((p : Int) + (fst? d rest : Nat) - 1) (fst? d rest) ++ qs := by
  by_cases h1 : d ∈ rest
  · by_cases h2 : (rest.take (fst? d rest)).any (fun e => clashB e d) = true
    · rw [wayF_cl h2] at h; cases h
    · refine ⟨h1, fun e he => ?_, ?_⟩
      · cases hc : clashB e d with
        | false => rfl
        | true => exact absurd (List.any_eq_true.mpr ⟨e, he, hc⟩) h2
      · rw [wayF_go h1 h2] at h
        cases hq : wayF (p + 1) (rest.eraseIdx (fst? d rest)) ds with
        | none => rw [hq] at h; cases h
        | some qs => rw [hq] at h; exact ⟨qs, rfl, (Option.some.inj h).symm⟩
  · rw [wayF_no h1] at h; cases h
theorem fst_split {d : D3} {ds : List D3} (h : d ∈ ds) : ∃ l1 l2, ds = l1 ++ d :: l2 ∧ l1.length = fst? d ds ∧ (∀ a ∈ l1, a ≠ d) ∧ ds.take (fst? d ds) = l1 ∧ ds.eraseIdx (fst? d ds) = l1 ++ l2 := by
  obtain ⟨g1, g2⟩ := fst_ok h
  have hk : fst? d ds < ds.length := (List.getElem?_eq_some_iff.mp g1).1
  have e : ds = ds.take (fst? d ds) ++ d :: ds.drop (fst? d ds + 1) := by
    have := List.take_append_drop (fst? d ds) ds
    rw [List.drop_eq_getElem_cons hk, (List.getElem?_eq_some_iff.mp g1).2] at this
    exact this.symm
  refine ⟨ds.take (fst? d ds), ds.drop (fst? d ds + 1), e, by rw [List.length_take]; omega, fun a ha => ?_, rfl, List.eraseIdx_eq_take_drop_succ _ _⟩
  obtain ⟨m, hm, ea⟩ := List.mem_iff_getElem.mp ha
  rw [List.length_take] at hm
  rw [List.getElem_take] at ea
  exact g2 m a (by omega) (by rw [← ea]; exact List.getElem?_eq_getElem (by omega))
theorem wayF_some : ∀ {ys xs : List D3} {p : Nat} {ps : List Int}, wayF p xs ys = some ps → Lk clashB xs ys
  | [], xs, p, ps, h => by
    have h' : (if xs = [] then some [] else none : Option (List Int)) = some ps := h
    by_cases c : xs = []
    · rw [c]; exact .nil
    · rw [if_neg c] at h'; cases h'
  | d :: ys, xs, p, ps, h => by
    obtain ⟨h1, h2, qs, h3, _⟩ := wayF_split h
    obtain ⟨l1, l2, e, _, ne, et, ee⟩ := fst_split h1
    rw [et] at h2
    rw [ee] at h3
    rw [e]
    exact .cons ne h2 (wayF_some h3)
theorem wayF_inv : ∀ {ys xs : List D3} {p : Nat} {ps : List Int} {f : Nat → Nat}, wayF p xs ys = some ps → Mate xs ys f → ps.length = inv ((List.range xs.length).map f)
  | [], xs, p, ps, f, h, _ => by
    have h' : (if xs = [] then some [] else none : Option (List Int)) = some ps := h
    by_cases c : xs = []
    · rw [if_pos c] at h'; cases h'; rw [c]; rfl
    · rw [if_neg c] at h'; cases h'
  | d :: ys, xs, p, ps, f, h, M => by
    obtain ⟨h1, _, qs, h3, hp⟩ := wayF_split h
    obtain ⟨l1, l2, e, el, ne, et, ee⟩ := fst_split h1
    rw [ee] at h3
    rw [e] at M
    obtain ⟨m1, m2, m3⟩ := Mate.rest M ne
    have ih := wayF_inv h3 m2
    rw [hp, List.length_append, dnL_length, ih, ← el]
    have e1 : (List.range xs.length).map f = ((List.range l1.length).map fun i => f i - 1).map (· + 1) ++ 0 :: ((List.range l2.length).map fun i => f (l1.length + i + 1) - 1).map (· + 1) := by
      rw [e, List.length_append, List.length_cons, List.range_add, List.map_append, List.range_succ_eq_map]
      congr 1
      · rw [List.map_map]
        refine List.map_congr_left fun i hi => ?_
        have := m3 i (by rw [List.length_append, List.length_cons]; have := List.mem_range.mp hi; omega) (by have := List.mem_range.mp hi; omega)
        show f i = f i - 1 + 1
        omega
      · rw [List.map_cons, List.map_cons]
        congr 1
        rw [List.map_map, List.map_map, List.map_map]
        refine List.map_congr_left fun i hi => ?_
        have := m3 (l1.length + (i + 1)) (by rw [List.length_append, List.length_cons]; have := List.mem_range.mp hi; omega) (by omega)
        show f (l1.length + (i + 1)) = f (l1.length + i + 1) - 1 + 1
        rw [show l1.length + i + 1 = l1.length + (i + 1) from rfl]
        omega
    have e2 : (List.range (l1 ++ l2).length).map (fun p => if p < l1.length then f p - 1 else f (p + 1) - 1) = ((List.range l1.length).map fun i => f i - 1) ++ ((List.range l2.length).map fun i => f (l1.length + i + 1) - 1) := by
      rw [List.length_append, List.range_add, List.map_append, List.map_map]
      congr 1
      · refine List.map_congr_left fun i hi => ?_
        rw [if_pos (List.mem_range.mp hi)]
      · refine List.map_congr_left fun i hi => ?_
        show (if l1.length + i < l1.length then _ else _) = _
        rw [if_neg (by omega)]
    rw [e1, e2, inv_ins, List.length_map, List.length_range]
/-! ### what the two reasons say of the way -/
theorem way_uneven {xs ys : List D3} {d : D3} (h : cnt d xs ≠ cnt d ys) (p : Nat) : wayF p xs ys = none := by
  cases e : wayF p xs ys with
  | none => rfl
  | some ps => exact absurd (cnt_perm (wayF_some e).perm d) h
theorem way_turned {xs ys : List D3} {g : Nat → Nat} (M : Mate xs ys g) {p q : Nat} {a b : D3} (hpq : p < q) (ha : xs[p]? = some a) (hb : xs[q]? = some b) (h : g p > g q) (c : clashB a b = true) (k : Nat) : wayF k xs ys = none := by
  cases e : wayF k xs ys with
  | none => rfl
  | some ps =>
    obtain ⟨f, N, O⟩ := (wayF_some e).mate
    have e1 := Mate.uniq N M (p := p) (List.getElem?_eq_some_iff.mp ha).1
    have e2 := Mate.uniq N M (p := q) (List.getElem?_eq_some_iff.mp hb).1
    have := O p q a b hpq ha hb c
    omega
theorem way_there {xs ys : List D3} {g : Nat → Nat} (M : Mate xs ys g) (hl : xs.length = ys.length) (h : ∀ p q a b, p < q → xs[p]? = some a → xs[q]? = some b → ¬ (g p > g q ∧ clashB a b = true)) : ∃ ps, wayF 0 xs ys = some ps := by
  obtain ⟨f, N, e, k⟩ := alk_all M hl h
  exact Option.isSome_iff_exists.mp (wayF_lk 0 (Kept.lk clashB N e k))
end L2

end

section
namespace L2
open PySem PySem.Spec PyProof.Rows
/-! ### xs.count(d), a list of deeds -/
section
variable {X : Cx}
def rCountD : V → List V → Hp → VK → Prop := fun x vs H Q => ∃ (l : Addr) (ds : List D3) (d : D3) (y : V), x = .ref l ∧ vs = [y] ∧ LD H l ds ∧ T3 H y d ∧ Q (.int ((cnt d ds : Nat) : Int)) H
theorem mt_countD (hu : X.A.units + 64 < cLine) : MtM X "list.count" rCountD := by
  intro pins s σ H x vs v us Q I rx rv h
  obtain ⟨l, ds, d, y, rfl, rfl, ⟨ws, hl, pr⟩, hy, q⟩ := h
  have rx' : v = Value.ref l := rx
  subst rx'
  obtain ⟨u, rfl, ru⟩ := rv.one
  obtain ⟨z, its, n, r, hlen, e⟩ := I.lstM hl
  obtain ⟨as, rd⟩ := I.dat (dD d) hy.dat ru
  have da : DatAll H ws (ds.map dD) := DatAll.map (fun _ _ z => T3.dat z) pr
  obtain ⟨bs, ra⟩ := I.datAll _ da r
  have hlay := DatAll.lay _ da
  have each : ∀ {vs : List V} {es : List D3} {is : List Value}, Paired (T3 H) vs es → Vals vs is → is.countP (eR s.heap (dD d)) = cnt d es := by
    intro vs es is p1
    induction p1 generalizing is with
    | nil => intro p2; cases p2; rfl
    | @cons v0 e0 vs0 es0 t0 p1 ih =>
      intro p2
      cases p2 with
      | @cons _ u0 _ us0 r0 p2 =>
        obtain ⟨cs, rr⟩ := I.dat (dD e0) t0.dat r0
        have e1 : eR s.heap (dD d) u0 = decide (e0 = d) := by rw [eR_eq rr (Dat.lay _ t0.dat), enc_dD.dec]
        have e2 : cnt d (e0 :: es0) = cnt d [e0] + cnt d es0 := cnt_app d [e0] es0
        rw [List.countP_cons, ih p2, e1, e2]
        by_cases c : e0 = d
        · rw [decide_eq_true c, if_pos rfl, c, cnt_self]; omega
        · rw [decide_eq_false c, if_neg (by decide), cnt_ne c]; omega
  refine call_meets F.slot_list_count ⟨_, e, rfl⟩ F.entry_list_count (F.args_list_count_2 _ _) (SeqAt.list_countAt l its.toArray n none #[] u (eR s.heap (dD d))) ⟨e, fun w hw => ?_, ?_⟩
  · obtain ⟨dw, _, rw', hw'⟩ := reads_mem ra hlay w (by simpa using hw)
    have := in1_units (A := X.A)
    have dp := enc_dD.dep d
    exact eqAt_eR rw' hw' rd (Dat.lay _ hy.dat) (by omega)
  · refine ⟨.int ((cnt d ds : Nat) : Int), H, I.tok _, ⟨s.toks, ?_⟩, q⟩
    rw [each pr r]
end
/-! ### min(a list of deeds) -/
section
variable {prog : Program} {w : World} {A : Around} {E : Value → Shared → Prop} {R : Result → Shared → Prop} {s : Shared}
theorem rcLt3 {x y : Addr} {d e : D3} {t1 t2 t3 u1 u2 u3 : Tok} {Q : Value → Shared → Prop} (hx : IsTup s.heap x #[.int d.1 t1, .int d.2.1 t2, .int d.2.2 t3]) (hy : IsTup s.heap y #[.int e.1 u1, .int e.2.1 u2, .int e.2.2 u3]) (hu : A.units < cLine)
    (h : Q (.bool (ltB d e)) s) : wpAny (model prog w) A (richCompare .Lt (.ref x) (.ref y)) Q E s := by
  have k : wpAny (model prog w) A (compareOp .Lt (.ref x) (.ref y)) Q E s := by
    refine HT.lt_tupInts (ns := [d.1, d.2.1, d.2.2]) (ms := [e.1, e.2.1, e.2.2]) hx hy (.cons _ _ (.cons _ _ (.cons _ _ .nil))) (.cons _ _ (.cons _ _ (.cons _ _ .nil))) hu ?_
    have el : HT.lexLt [d.1, d.2.1, d.2.2] [e.1, e.2.1, e.2.2] = ltB d e := by
      rw [HT.lexLt_cons, HT.lexLt_cons, HT.lexLt_cons, HT.lexLt_nil_nil]
      unfold ltB
      by_cases c1 : d.1 = e.1
      · rw [if_pos c1]
        by_cases c2 : d.2.1 = e.2.1
        · rw [if_pos c2]
          by_cases c3 : d.2.2 = e.2.2
          · rw [if_pos c3]; exact (decide_eq_false (by omega)).symm
          · rw [if_neg c3]; exact decide_eq_decide.mpr (by omega)
        · rw [if_neg c2]; exact decide_eq_decide.mpr (by omega)
      · rw [if_neg c1]; exact decide_eq_decide.mpr (by omega)
    rw [el]
    exact h
  exact k
def bestA (vs : List Value) : Option Nat → Array Value
  | none => #[]
  | some m => #[vs.getD m Value.none, vs.getD m Value.none]
theorem min_loopD {I l S : Addr} {vs : List Value} {ds : List D3} {h0 : Heap} (hh : A.handled = none) (hu : A.in1.units < cLine) (T : Tri h0 vs ds) (h1 : l ≠ I) (h2 : S ≠ I) (h3 : S ≠ l) (hne : vs ≠ []) (lo : ∀ x o, h0.get? x = some o → x ≠ I ∧ x ≠ S) :
    ∀ (k j : Nat) (s : Shared) (cur : Option Nat) (c : Nat), vs.length - j = k → j ≤ vs.length → (cur = none → j = 0) → (∀ m, cur = some m → m < j ∧ ∀ i, i < j → ltB (ds.getD i (0, 0, 0)) (ds.getD m (0, 0, 0)) = false) → s.heap.IsListIter I l j → s.heap.IsList l vs.toArray →
    s.heap.get? S = some { cls := .type "list", dict := none, data := .seq (bestA vs cur) c, slots := #[] } → (∀ b o, h0.get? b = some o → s.heap.get? b = some o) →
    (∀ m h' tk, m < vs.length → (∀ i, i < vs.length → ltB (ds.getD i (0, 0, 0)) (ds.getD m (0, 0, 0)) = false) → (∀ b o, b ≠ I → b ≠ S → s.heap.get? b = some o → h'.get? b = some o) → R (.ok (.ret (vs.getD m Value.none))) { s with heap := h', toks := tk }) →
    codeAny (model prog w) A (.builtin "min.loop" ⟨[.ref I, .none, .ref S], []⟩) R s := by
  have nm : (toString "min" ++ toString ".loop" : String) = "min.loop" := by decide
  intro k
  induction k with
  | zero =>
    intro j s cur c hk hj hc hm it li hS hO hR
    have hjn : j = vs.length := by omega
    refine codeAny_builtin F.entry_min_loop ?_; rw [Around.under_plainId F.plain_min_loop _]
    show wpAny _ A.in1 (seqItems? (.ref S) >>= _) _ _ s; refine wpAny_bind (wpAny_seqItems hS rfl ?_)
    show wpAny _ A.in1 (tryCatch (pyNext (.ref I)) _ >>= _) _ _ s; refine wpAny_bind (wpAny_tryCatch (wpAny_pyNext_list_end (A := A.in1) hh it li (by simp; omega) fun h' he => ?_))
    have S2 := he S _ h2 hS
    cases cur with
    | some m =>
      obtain ⟨hm1, hm2⟩ := hm m rfl
      show wpAny _ A.in1 (updateSeq S (fun _ => #[]) >>= _) _ _ _; refine wpAny_bind ?_
      refine wpAny_updateSeq (hz := (by show 2 ≤ sizeLine; decide)) S2 rfl (wpAny_bind (wpAny_letGo (wpAny_pure ?_)))
      exact hR m _ s.toks (by omega) (fun i hi => hm2 i (by omega)) fun b o b1 b2 e => (Heap.get?_update_other _ _ (Ne.symm b2)).trans (he b o b1 e)
    | none =>
      have := hc rfl
      exact absurd (List.length_eq_zero_iff.mp (by omega)) hne
  | succ k ih =>
    intro j s cur c hk hj hc hm it li hS hO hR
    have hlt : j < vs.length := by omega
    have hv : vs[j]? = some vs[j] := List.getElem?_eq_getElem hlt
    obtain ⟨d, gd, x, t1, t2, t3, ex, hx⟩ := Paired.getL T hv
    have ed : ds.getD j (0, 0, 0) = d := by rw [List.getD_eq_getElem?_getD, gd]; rfl
    have eg : vs.getD j Value.none = .ref x := by rw [List.getD_eq_getElem?_getD, hv, ← ex]; rfl
    have hbj : bestA vs (some j) = #[.ref x, .ref x] := by show #[vs.getD j Value.none, vs.getD j Value.none] = _; rw [eg]
    rw [ex] at hv
    refine codeAny_builtin F.entry_min_loop ?_; rw [Around.under_plainId F.plain_min_loop _]
    show wpAny _ A.in1 (seqItems? (.ref S) >>= _) _ _ s; refine wpAny_bind (wpAny_seqItems hS rfl ?_)
    show wpAny _ A.in1 (tryCatch (pyNext (.ref I)) _ >>= _) _ _ s; refine wpAny_bind (wpAny_tryCatch (wpAny_pyNext_list_item it li (x := .ref x) (by simpa using hv) fun h' it' hs' => ?_))
    have S2 : h'.get? S = _ := (hs'.2 S h2).trans hS
    have li' : h'.IsList l vs.toArray := li.at fun o e => (hs'.2 l h1).trans e
    have hO' : ∀ b o, h0.get? b = some o → h'.get? b = some o := fun b o e => (hs'.2 b (lo b o e).1).trans (hO b o e)
    have hO2 : ∀ (f : Obj → Obj) b o, h0.get? b = some o → (h'.update S f).get? b = some o := fun f b o e => (Heap.get?_update_other _ _ (Ne.symm (lo b o e).2)).trans (hO' b o e)
    cases cur with
    | none =>
      have j0 := hc rfl
      show wpAny _ A.in1 (updateSeq S (fun _ => #[.ref x, .ref x]) >>= _) _ _ _; refine wpAny_bind ?_
      refine wpAny_updateSeq (hz := (by show 0 ≤ sizeLine; decide)) S2 rfl ?_; rw [nm]
      refine wpAny_pure ⟨plainId_quiet F.plain_min_loop _, ih (j + 1) _ (some j) _ (by omega) hlt (fun z => by cases z) (fun m e => ?_) (it'.at fun o e => (Heap.get?_update_other _ _ h2).trans e) (li'.at fun o e => (Heap.get?_update_other _ _ h3).trans e) (by rw [hbj]; exact Heap.get?_update_self _ S2 rfl) (hO2 _) fun m h'' tk q1 q2 kp => ?_⟩
      · cases e
        refine ⟨by omega, fun i hi => ?_⟩
        have : i = j := by omega
        rw [this, ltB_no]; omega
      · exact hR m h'' tk q1 q2 fun b o b1 b2 e => kp b o b1 b2 ((Heap.get?_update_other _ _ (Ne.symm b2)).trans ((hs'.2 b b1).trans e))
    | some m =>
      obtain ⟨hm1, hm2⟩ := hm m rfl
      have hvm : vs[m]? = some vs[m] := List.getElem?_eq_getElem (by omega)
      obtain ⟨dm, gm, y, u1, u2, u3, ey, hy⟩ := Paired.getL T hvm
      have edm : ds.getD m (0, 0, 0) = dm := by rw [List.getD_eq_getElem?_getD, gm]; rfl
      have egm : vs.getD m Value.none = .ref y := by rw [List.getD_eq_getElem?_getD, hvm, ← ey]; rfl
      have hbA : bestA vs (some m) = #[.ref y, .ref y] := by show #[vs.getD m Value.none, vs.getD m Value.none] = _; rw [egm]
      rw [hbA] at S2 ⊢
      show wpAny _ A.in1 (tryCatch (holding [.ref x, .ref x] (richCompare .Lt (.ref x) (.ref y) >>= _)) _ >>= _) _ _ _
      refine wpAny_bind (wpAny_tryCatch (wpAny_holding (wpAny_bind (rcLt3 (hx.keeps hO') (hy.keeps hO') hu ?_))))
      refine wpAny_bind (wpAny_holding (wpAny_truthy_bool (wpAny_bind (wpAny_letGo (wpAny_pure ?_)))))
      cases hb : ltB d dm with
      | true =>
        simp only [if_true]
        refine wpAny_bind ?_; refine wpAny_updateSeq (hz := (by show 2 ≤ sizeLine; decide)) S2 rfl (wpAny_bind (wpAny_letGo ?_)); rw [nm]
        refine wpAny_pure ⟨plainId_quiet F.plain_min_loop _, ih (j + 1) _ (some j) _ (by omega) hlt (fun z => by cases z) (fun m' e => ?_) (it'.at fun o e => (Heap.get?_update_other _ _ h2).trans e) (li'.at fun o e => (Heap.get?_update_other _ _ h3).trans e) (by rw [hbj]; exact Heap.get?_update_self _ S2 rfl) (hO2 _) fun m h'' tk q1 q2 kp => ?_⟩
        · cases e
          refine ⟨by omega, fun i hi => ?_⟩
          by_cases c : i = j
          · rw [c, ltB_no]; omega
          · have a := hm2 i (by omega)
            rw [edm] at a
            rw [ed]
            rw [ltB_no] at a ⊢
            rw [ltB_iff] at hb
            omega
        · exact hR m h'' tk q1 q2 fun b o b1 b2 e => kp b o b1 b2 ((Heap.get?_update_other _ _ (Ne.symm b2)).trans ((hs'.2 b b1).trans e))
      | false =>
        simp only [Bool.false_eq_true, if_false]
        refine wpAny_bind (wpAny_letGo ?_); rw [nm]
        refine wpAny_pure ⟨plainId_quiet F.plain_min_loop _, ih (j + 1) _ (some m) _ (by omega) hlt (fun z => by cases z) (fun m' e => ?_) it' li' (by rw [hbA]; exact S2) hO' fun m h'' tk q1 q2 kp => ?_⟩
        · cases e
          refine ⟨by omega, fun i hi => ?_⟩
          by_cases c : i = j
          · rw [c, ed, edm]; exact hb
          · exact hm2 i (by omega)
        · exact hR m h'' tk q1 q2 fun b o b1 b2 e => kp b o b1 b2 ((hs'.2 b b1).trans e)
theorem call_minD {l : Addr} {vs : List Value} {ds : List D3} {Q : Value → Shared → Prop} (hh : A.handled = none) (hu : A.in1.units < cLine) (T : Tri s.heap vs ds) (li : s.heap.IsList l vs.toArray) (hne : vs ≠ [])
    (h : ∀ m h' tk, m < vs.length → (∀ i, i < vs.length → ltB (ds.getD i (0, 0, 0)) (ds.getD m (0, 0, 0)) = false) → (∀ b o, s.heap.get? b = some o → h'.get? b = some o) → Q (vs.getD m Value.none) { s with heap := h', toks := tk }) : wpAny (model prog w) A (call (.builtin "min") [.ref l]) Q E s := by
  have nm : (toString "min" ++ toString ".loop" : String) = "min.loop" := by decide
  obtain ⟨ol, hol, _⟩ := id li
  have ll := Heap.lt_size hol
  refine fn_tree_kw F.kind_min F.plain_min F.entry_min (args_min0 _) ?_
  show wpAny _ A.in1 (Builtin.Builtins.bindParams "min" ["key", "default"] 0 ⟨[], []⟩ >>= _) _ _ s
  refine wpAny_bind (wpAny_of_eq (a := [none, none]) rfl (wpAny_bind (wpAny_pure (wpAny_bind (wpAny_pyIter_list li (wpAny_bind (wpAny_newObj_type ?_)))))))
  rw [nm]
  refine wpAny_pure ⟨plainId_quiet F.plain_min_loop _, min_loopD (h0 := s.heap) hh hu T (Nat.ne_of_lt ll) (by rw [Heap.size_push]; exact Nat.succ_ne_self _) (by rw [Heap.size_push]; exact Nat.ne_of_gt (Nat.lt_succ_of_lt ll)) hne (fun x o e => ?_) _ 0 _ none 0 rfl (Nat.zero_le _) (fun _ => rfl) (fun m e => by cases e) ⟨_, Heap.get?_push_of_some _ (Heap.get?_push_size _ rfl), rfl, rfl⟩ ((li.push _).push _) (Heap.get?_push_size _ rfl) (fun b o e => Heap.get?_push_of_some _ (Heap.get?_push_of_some _ e)) fun m h' tk q1 q2 kp => ?_⟩
  · have := Heap.lt_size e
    rw [Heap.size_push]
    exact ⟨Nat.ne_of_lt this, Nat.ne_of_lt (Nat.lt_succ_of_lt this)⟩
  · refine h m h' tk q1 q2 fun b o e => kp b o (Nat.ne_of_lt (Heap.lt_size e)) (by rw [Heap.size_push]; exact Nat.ne_of_lt (Nat.lt_succ_of_lt (Heap.lt_size e))) (Heap.get?_push_of_some _ (Heap.get?_push_of_some _ e))
end
section
variable {X : Cx}
def rMinD : List V → Hp → VK → Prop := fun xs H Q => ∃ (l : Addr) (ds : List D3), xs = [.ref l] ∧ LD H l ds ∧ ds ≠ [] ∧ ∀ x d, T3 H x d → d ∈ ds → (∀ e ∈ ds, ltB e d = false) → Q x H
theorem minDQ (hc : X.calm = true) (hu : X.A.units + 64 < cLine) : CallR X (.builtin "min") rMinD := by
  intro pins s σ H xs us Q I r h
  obtain ⟨l, ds, rfl, ⟨vs, ha, pr⟩, hne, q⟩ := h
  obtain ⟨u, rfl, ru⟩ := vals1 r
  cases ru
  obtain ⟨hz, its, n, rv, hlen, g⟩ := I.lstM ha
  have hl0 := Paired.length pr
  have := in1_units (A := X.A)
  refine call_minD (ds := ds) (I.ok.hd hc) (by omega) (I.tri rv pr) ⟨_, g, rfl, _, rfl⟩ (fun z => hne (List.length_eq_zero_iff.mp (by have hn := rv.length; rw [z] at hn; simp only [List.length_nil] at hn; omega))) fun m h' tk q1 q2 kp => ?_
  have hm : m < vs.length := by omega
  obtain ⟨d, gd, td⟩ := Paired.getL pr (List.getElem?_eq_getElem hm)
  obtain ⟨um, em, rm⟩ := rv.get (List.getElem?_eq_getElem hm)
  refine ⟨vs[m], H, I.kept kp, ?_, q _ d td (List.mem_of_getElem? gd) fun e he => ?_⟩
  · rw [List.getD_eq_getElem?_getD, em]; exact rm
  · obtain ⟨i, hi, ei⟩ := List.mem_iff_getElem.mp he
    have z := q2 i (by omega)
    rw [List.getD_eq_getElem?_getD, List.getD_eq_getElem?_getD, gd, List.getElem?_eq_getElem hi, ei] at z
    exact z
end
end L2

end

section
namespace L2
open PySem PySem.Spec PyProof.Rows
theorem bt_str : bootBuiltins "str" = some (.type "str") := by decide +kernel
theorem bt_set : bootBuiltins "set" = some (.type "set") := by decide +kernel
/-! ### a reason -/
inductive Rsn where
  | even
  | cnt (d : D3) (n m : Nat)
  | trn (p q : Nat)
def RsnAt (H : Hp) : Rsn → V → Prop
  | .even, v => v = .non
  | .cnt d n m, v => ∃ a x, v = .ref a ∧ H a = some (.tup [.str "count", x, .int (n : Int), .int (m : Int)]) ∧ T3 H x d
  | .trn p q, v => ∃ a, v = .ref a ∧ H a = some (.tup [.str "turned", .int (p : Int), .int (q : Int)])
theorem RsnAt.same {H H' : Hp} (S : Same H H') : ∀ {r : Rsn} {v : V}, RsnAt H r v → RsnAt H' r v
  | .even, _, h => h
  | .cnt _ _ _, _, ⟨a, x, e, h, t⟩ => ⟨a, x, e, S _ _ h, t.same S⟩
  | .trn _ _, _, ⟨a, e, h⟩ => ⟨a, e, S _ _ h⟩
/-- the least deed with unlike counts -/
def LeastOdd (xs ys : List D3) (d : D3) : Prop := cnt d xs ≠ cnt d ys ∧ ∀ e, cnt e xs ≠ cnt e ys → ltB e d = false
def Even (xs ys : List D3) : Prop := ∀ d, cnt d xs = cnt d ys
def TurnP (xs : List D3) (g : Nat → Nat) (p q : Nat) : Prop := ∃ a b, xs[p]? = some a ∧ xs[q]? = some b ∧ g p > g q ∧ clashB a b = true
def FirstTurn (xs : List D3) (g : Nat → Nat) (p q : Nat) : Prop := p < q ∧ TurnP xs g p q ∧ ∀ p' q', p' < q' → (p' < p ∨ (p' = p ∧ q' < q)) → ¬ TurnP xs g p' q'
def NoTurn (xs : List D3) (g : Nat → Nat) : Prop := ∀ p q, p < q → ¬ TurnP xs g p q
def IsRsn (xs ys : List D3) : Rsn → Prop
  | .even => Even xs ys ∧ ∃ g, Mate xs ys g ∧ NoTurn xs g
  | .cnt d n m => LeastOdd xs ys d ∧ n = cnt d xs ∧ m = cnt d ys
  | .trn p q => Even xs ys ∧ ∃ g, Mate xs ys g ∧ FirstTurn xs g p q
theorem TurnP.of {xs ys : List D3} {f g : Nat → Nat} (M : Mate xs ys f) (N : Mate xs ys g) {p q : Nat} (h : TurnP xs f p q) : TurnP xs g p q := by
  obtain ⟨a, b, ha, hb, hg, hc⟩ := h
  have e1 := Mate.uniq N M (p := p) (List.getElem?_eq_some_iff.mp ha).1
  have e2 := Mate.uniq N M (p := q) (List.getElem?_eq_some_iff.mp hb).1
  exact ⟨a, b, ha, hb, by omega, hc⟩
theorem LeastOdd.uniq {xs ys : List D3} {d e : D3} (h : LeastOdd xs ys d) (k : LeastOdd xs ys e) : d = e := ltB_anti (h.2 e k.1) (k.2 d h.1)
theorem IsRsn.uniq {xs ys : List D3} : ∀ {r s : Rsn}, IsRsn xs ys r → IsRsn xs ys s → r = s
  | .even, .even, _, _ => rfl
  | .even, .cnt d n m, ⟨h, _⟩, ⟨k, _⟩ => absurd (h d) k.1
  | .even, .trn p q, ⟨_, g, M, h⟩, ⟨_, g', M', k⟩ => absurd (k.2.1.of M' M) (h p q k.1)
  | .cnt d n m, .even, ⟨k, _⟩, ⟨h, _⟩ => absurd (h d) k.1
  | .cnt d n m, .cnt e n' m', ⟨h, h1, h2⟩, ⟨k, k1, k2⟩ => by
    have := h.uniq k
    subst this
    rw [h1, h2, k1, k2]
  | .cnt d n m, .trn p q, ⟨k, _⟩, ⟨h, _⟩ => absurd (h d) k.1
  | .trn p q, .even, ⟨_, g', M', k⟩, ⟨_, g, M, h⟩ => absurd (k.2.1.of M' M) (h p q k.1)
  | .trn p q, .cnt d n m, ⟨h, _⟩, ⟨k, _⟩ => absurd (h d) k.1
  | .trn p q, .trn p' q', ⟨_, g, M, h1, h2, h3⟩, ⟨_, g', M', k1, k2, k3⟩ => by
    have a : ¬ (p < p' ∨ (p = p' ∧ q < q')) := fun z => k3 p q h1 z (h2.of M M')
    have b : ¬ (p' < p ∨ (p' = p ∧ q' < q)) := fun z => h3 p' q' k1 z (k2.of M' M)
    have e1 : p = p' := by omega
    have e2 : q = q' := by omega
    rw [e1, e2]
theorem perm_cnt {α : Type} [DecidableEq α] {l m : List α} (h : ∀ d, cnt d l = cnt d m) : l.Perm m := List.perm_iff_count.mpr h
theorem Even.len {xs ys : List D3} (h : Even xs ys) : xs.length = ys.length := (perm_cnt h).length_eq
theorem cnt_mem {d : D3} {l : List D3} (h : cnt d l ≠ 0) : d ∈ l := cnt_pos (by omega)
theorem odd_mem {xs ys : List D3} {d : D3} (h : cnt d xs ≠ cnt d ys) : d ∈ xs ++ ys := by
  by_cases c : d ∈ xs
  · exact List.mem_append_left _ c
  · refine List.mem_append_right _ (cnt_mem fun z => h ?_)
    rw [z, cnt_zero c]
theorem rsn_way {xs ys : List D3} : ∀ {r : Rsn}, IsRsn xs ys r → (r = .even → ∃ ps, wayF 0 xs ys = some ps) ∧ (r ≠ .even → wayF 0 xs ys = none)
  | .even, ⟨h, g, M, n⟩ => ⟨fun _ => way_there M h.len fun p q a b hpq ha hb z => n p q hpq ⟨a, b, ha, hb, z.1, z.2⟩, fun z => absurd rfl z⟩
  | .cnt d n m, ⟨h, _⟩ => ⟨fun z => (nomatch z), fun _ => way_uneven h.1 0⟩
  | .trn p q, ⟨_, g, M, hpq, ⟨a, b, ha, hb, h, c⟩, _⟩ => ⟨fun z => (nomatch z), fun _ => way_turned M hpq ha hb h c 0⟩
/-! ### specs -/
theorem few_of {xs ys : List D3} {e0 : D3} (h : ∀ d ∈ ys, d ∈ xs ∨ d = e0) (hl : xs.length ≤ 60) : Few (xs ++ ys) := by
  intro m hm hs
  have key : ∀ (l m : List D3), m.Nodup → (∀ d ∈ m, d ∈ l) → m.length ≤ l.length := by
    intro l
    induction l with
    | nil =>
      intro m _ hs
      cases m with
      | nil => exact Nat.le_refl _
      | cons a m => exact nomatch hs a List.mem_cons_self
    | cons a l ih =>
      intro m hm hs
      have := ih (m.erase a) (hm.erase a) fun d hd => by
        have h1 := List.mem_of_mem_erase hd
        have h2 : d ≠ a := fun z => by subst z; exact hm.not_mem_erase hd
        exact (List.mem_cons.mp (hs d h1)).resolve_left h2
      rw [List.length_erase] at this
      rw [List.length_cons]
      split at this <;> omega
  have := key (e0 :: xs) m hm fun d hd => by
    rcases List.mem_append.mp (hs d hd) with z | z
    · exact List.mem_cons_of_mem _ z
    · rcases h d z with z | z
      · exact List.mem_cons_of_mem _ z
      · rw [z]; exact List.mem_cons_self
  rw [List.length_cons] at this
  omega
def spCR : Sp := fun vs H Q _ => ∃ (a b : Addr) (xs ys : List D3), vs = [.ref a, .ref b] ∧ LD H a xs ∧ LD H b ys ∧ xs.length ≤ 100 ∧ ys.length ≤ 100 ∧ Few (xs ++ ys) ∧
  ∀ r v H', Same H H' → RsnAt H' r v → ((∃ d n m, r = .cnt d n m ∧ IsRsn xs ys r) ∨ (r = .even ∧ Even xs ys)) → Q v H'
def spPartners : Sp := fun vs H Q _ => ∃ (a b : Addr) (xs ys : List D3), vs = [.ref a, .ref b] ∧ LD H a xs ∧ LD H b ys ∧ xs.length ≤ 100 ∧ ys.length ≤ 100 ∧ Even xs ys ∧
  ∀ r fs H', Same H H' → H r = none → H' r = some (.lst (ixs fs)) → fs.length = xs.length → Mate xs ys (fun p => fs.getD p 0) → Q (.ref r) H'
def spTR : Sp := fun vs H Q _ => ∃ (a b : Addr) (xs ys : List D3), vs = [.ref a, .ref b] ∧ LD H a xs ∧ LD H b ys ∧ xs.length ≤ 100 ∧ ys.length ≤ 100 ∧ Even xs ys ∧
  ∀ r v H', Same H H' → RsnAt H' r v → IsRsn xs ys r → Q v H'
def spReason : Sp := fun vs H Q _ => ∃ (a b : Addr) (xs ys : List D3), vs = [.ref a, .ref b] ∧ LD H a xs ∧ LD H b ys ∧ xs.length ≤ 100 ∧ ys.length ≤ 100 ∧ Few (xs ++ ys) ∧
  ∀ r v H', Same H H' → RsnAt H' r v → IsRsn xs ys r → Q v H'
def spReasonL : Sp := fun vs H Q _ => ∃ (a b : Addr) (xs ys : List D3), vs = [.ref a, .ref b] ∧ LD H a xs ∧ LD H b ys ∧ (∀ d ∈ xs, okD d) ∧ xs.length ≤ 100 ∧ ys.length ≤ 100 ∧
  ∀ r v H', Same H H' → RsnAt H' r v → IsRsn xs ys r → Q v H'
def spCounts : Sp := fun vs H Q _ => ∃ (a : Addr) (xs : List D3), vs = [.ref a] ∧ LD H a xs ∧ xs.length ≤ 100 ∧ ∀ r H', Same H H' → H r = none → Ahead H' r xs → Q (.ref r) H'
def spToldR : Sp := fun vs H Q _ => ∃ (r : Rsn) (x y : V), vs = [x, y] ∧ RsnAt H r x ∧ RsnAt H r y ∧ ∀ H', Same H H' → Q (.bl true) H'
def spPairsR : Sp := fun vs H Q _ => ∃ (a b : Addr) (xs ys : List D3), vs = [.ref a, .ref b] ∧ LD H a xs ∧ LD H b ys ∧ xs.length ≤ 100 ∧ ys.length ≤ 100 ∧ Even xs ys ∧
  ∀ g H', Same H H' → Mate xs ys g → Q (.int ((inv ((List.range xs.length).map g) : Nat) : Int)) H'
def spWalked : Sp := fun vs H Q _ => ∃ (p a b : Addr) (ps : List Int) (xs ys : List D3), vs = [.ref p, .ref a, .ref b] ∧ H p = some (.lst (ps.map V.int)) ∧ LD H a xs ∧ LD H b ys ∧ (∀ d ∈ xs, okD d) ∧ xs.length ≤ 100 ∧ ys.length ≤ 100 ∧
  wayF 0 xs ys = some ps ∧ ∀ H', Same H H' → Q (.bl true) H'
/-- what is left of the places of a deed -/
def Left (H0 H : Hp) (sp : Addr) (l : List D3) (c : List D3) : Prop := ∃ kvs, H sp = some (.dT kvs) ∧ kvs.length ≤ l.length ∧
  (∀ d, d ∈ l → ∃ b, valV kvs (kd d) = some (.ref b) ∧ H b = some (.lst (ixs ((posOf d l).drop (cnt d c)))) ∧ H0 b = none) ∧ ∀ d e b, valV kvs (kd d) = some (.ref b) → valV kvs (kd e) = some (.ref b) → d = e
theorem Spots.left {H0 H : Hp} {sp : Addr} {l : List D3} (h : Spots H0 H sp l) : Left H0 H sp l [] := by
  obtain ⟨kvs, a, b, _, d, e⟩ := h
  exact ⟨kvs, a, b, fun x hx => let ⟨b, q1, q2, q3⟩ := d x hx; ⟨b, q1, by rw [show cnt x ([] : List D3) = 0 from rfl, List.drop_zero]; exact q2, q3⟩, e⟩
theorem Left.same {H0 H H' : Hp} {sp : Addr} {l c : List D3} (S : Same H H') (h : Left H0 H sp l c) : Left H0 H' sp l c := by
  obtain ⟨kvs, a, b, d, e⟩ := h
  exact ⟨kvs, S _ _ a, b, fun x hx => let ⟨b, q1, q2, q3⟩ := d x hx; ⟨b, q1, S _ _ q2, q3⟩, e⟩
/-- one place of a deed is taken -/
theorem Left.take {H0 H : Hp} {sp b : Addr} {l c : List D3} {d : D3} {kvs : List (List Key × V)} (h : Left H0 H sp l c) (hk : H sp = some (.dT kvs)) (hb : valV kvs (kd d) = some (.ref b)) (hl : H b = some (.lst (ixs ((posOf d l).drop (cnt d c))))) :
    Left H0 (upd H b (.lst ((ixs ((posOf d l).drop (cnt d c))).eraseIdx 0))) sp l (c ++ [d]) := by
  obtain ⟨kvs', a, lb, dd, e⟩ := h
  rw [a] at hk
  cases hk
  have nb : sp ≠ b := fun z => by rw [z, hl] at a; cases a
  refine ⟨kvs, by rw [upd_ne nb]; exact a, lb, fun x hx => ?_, e⟩
  obtain ⟨b', q1, q2, q3⟩ := dd x hx
  refine ⟨b', q1, ?_, q3⟩
  by_cases cx : d = x
  · subst cx
    rw [hb] at q1
    cases q1
    rw [upd_same, cnt_app, cnt_self]
    congr 2
    unfold ixs
    rw [List.eraseIdx_zero, ← List.map_tail, List.tail_drop]
  · rw [upd_ne (fun z => cx (e d x b hb (by rw [← z]; exact q1))), cnt_app, cnt_ne cx, Nat.add_zero]
    exact q2
theorem Left.wrL {H0 H : Hp} {sp t : Addr} {l c : List D3} {o : HO} (h : Left H0 H sp l c) (h1 : t ≠ sp) (h2 : ∀ d b', (∃ kvs, H sp = some (.dT kvs) ∧ valV kvs (kd d) = some (.ref b')) → b' ≠ t) : Left H0 (upd H t o) sp l c := by
  obtain ⟨kvs, a, b, d, e⟩ := h
  refine ⟨kvs, by rw [upd_ne (Ne.symm h1)]; exact a, b, fun x hx => ?_, e⟩
  obtain ⟨b, q1, q2, q3⟩ := d x hx
  exact ⟨b, q1, by rw [upd_ne (h2 x b ⟨kvs, a, q1⟩)]; exact q2, q3⟩
end L2

end

section
namespace L2
open PySem PySem.Spec PyProof.Rows
/-! ### the rules: set(a list of deeds), sorted(a set of deeds) -/
def setO (w : World) (a : Addr) (vs : List V) : HO := .ext fun h => ∃ es ep t, SetAt w h a es ep t ∧ WkOk w es t ∧ Vals vs (es.toList.map (·.2))
section
variable {X : Cx}
theorem setO_ok {P : Program} {w : World} {H : Hp} {h : Heap} {a : Addr} {vs : List V} {es : Array (Int × Value)} {ep : Nat} {t : SetTable} (S : SetAt w h a es ep t) (K : WkOk w es t) (r : Vals vs (es.toList.map (·.2))) : ObjOk P w H h a (setO w a vs) :=
  ⟨⟨es, ep, t, S, K, r⟩, let ⟨o, e, _⟩ := S; ⟨o, e⟩, fun h1 h2 ⟨es, ep, t, S, K, r⟩ hk => ⟨es, ep, t, S.keep hk, K, r⟩⟩
theorem paired_map {α β γ : Type} {F : β → γ → Prop} (f : α → β) (g : α → γ) : ∀ {l : List α}, (∀ z ∈ l, F (f z) (g z)) → Paired F (l.map f) (l.map g)
  | [], _ => .nil
  | z :: l, h => .cons (h z List.mem_cons_self) (paired_map f g fun y hy => h y (List.mem_cons_of_mem _ hy))
theorem set_vals : ∀ qs : List (D3 × Addr), Vals (qs.map fun q => V.ref q.2) (qs.map fun q => Value.ref q.2)
  | [] => .nil
  | _ :: qs => .cons rfl (set_vals qs)
theorem t3_td {pins : List (Addr × Obj)} {σ : St} {H : Hp} {s : Shared} (I : Inv X pins σ H s) {v : V} {u : Value} {d : D3} (h : T3 H v d) (r : RelV v u) : ∃ x, v = .ref x ∧ u = Value.ref x ∧ TD s.heap x d := by
  have t := I.tri (vs := [v]) (its := [u]) (ds := [d]) (.cons r .nil) (.cons h .nil)
  cases t with
  | cons z _ =>
    obtain ⟨x, t1, t2, t3, e, tu⟩ := z
    obtain ⟨y, ey, _⟩ := h
    subst ey
    have e2 : u = Value.ref y := r
    rw [e2] at e
    cases e
    exact ⟨_, rfl, e2, t1, t2, t3, tu⟩
def rSetOf (w : World) : List V → Hp → VK → Prop := fun xs H Q => ∃ (l : Addr) (ds : List D3), xs = [.ref l] ∧ LD H l ds ∧ Few ds ∧
  ∀ (r : Addr) (vs : List V) (es : List D3), H r = none → es.Nodup → (∀ d, d ∈ es ↔ d ∈ ds) → Paired (T3 H) vs es → Q (.ref r) (upd H r (setO w r vs))
theorem setNew (w : World) (hc : X.calm = true) (hu : X.A.units + 64 < cLine) (hw : X.w = w := by rfl) : CallR X (.type "set") (rSetOf w) := by
  subst hw
  intro pins s σ H xs us Q I r h
  obtain ⟨l, ds, rfl, ⟨vs, ha, pr⟩, few, q⟩ := h
  obtain ⟨u, rfl, ru⟩ := vals1 r
  cases ru
  obtain ⟨hz, its, n, rv, hlen, g⟩ := I.lstM ha
  have T : ∀ {vs : List V} {its : List Value} {ds : List D3}, Vals vs its → Paired (T3 H) vs ds → Paired (fun v d => ∃ x, v = Value.ref x ∧ TD s.heap x d) its ds := by
    intro vs its ds r1 r2
    induction r2 generalizing its with
    | nil => cases r1; exact .nil
    | cons h t ih =>
      cases r1 with
      | cons r0 r1 =>
        obtain ⟨x, _, e, td⟩ := t3_td I h r0
        exact .cons ⟨x, e, td⟩ (ih r1)
  have hT3 : ∀ {x : Addr} {d : D3}, Value.ref x ∈ its → TD s.heap x d → T3 H (.ref x) d := by
    intro x d hx td
    obtain ⟨i, hi⟩ := List.getElem?_of_mem hx
    have hi1 : i < its.length := (List.getElem?_eq_some_iff.mp hi).1
    have hi2 : i < vs.length := by omega
    obtain ⟨u, eu, ru⟩ := rv.get (List.getElem?_eq_getElem hi2)
    obtain ⟨e, ge, te⟩ := Paired.getL pr (List.getElem?_eq_getElem hi2)
    rw [hi] at eu
    cases eu
    obtain ⟨y, ey, e2, ty⟩ := t3_td I te ru
    cases e2
    have : e = d := by
      obtain ⟨a1, a2, a3, o1, g1, c1, n1, d1⟩ := ty
      obtain ⟨b1, b2, b3, o2, g2, c2, n2, d2⟩ := td
      rw [g1] at g2
      cases g2
      rw [d1] at d2
      injection d2 with e1 _
      have e2 := congrArg Array.toList e1
      simp only at e2
      injection e2 with q1 e2
      injection e2 with q2 e2
      injection e2 with q3 _
      injection q1 with q1 _
      injection q2 with q2 _
      injection q3 with q3 _
      exact Prod.ext q1 (Prod.ext q2 q3)
    rw [← this, ← ey]
    exact te
  refine call_setD (ds := ds) (I.ok.hd hc) (by omega) ⟨_, g, rfl, _, rfl⟩ (T rv pr) few fun h' tk qs S hmem kp hin => ?_
  obtain ⟨o, es, ep, t, ho, hex, hd, tab, hfu, hpl, hle, hes, hnd, htd⟩ := S
  have e1 : es.toList.map (·.2) = qs.map fun q => Value.ref q.2 := by rw [hes, List.map_map]; rfl
  have vl : Vals (qs.map fun q => V.ref q.2) (es.toList.map (·.2)) := by
    rw [e1]
    exact set_vals qs
  have J : Inv X pins σ (upd H s.heap.objs.size (setO X.w s.heap.objs.size (qs.map fun q => V.ref q.2))) { s with heap := h', toks := tk } :=
    I.laid (h' := h') (fun b o e => kp b o e) (Nat.le_refl _) (setO_ok ⟨o, ho, hex.1, hd⟩ ⟨tab, mask_le tab.msk hfu, hpl, hle⟩ vl)
  refine ⟨.ref s.heap.objs.size, _, J, rfl, q _ (qs.map fun q => V.ref q.2) (qs.map (·.1)) (I.hok.fresh (Nat.le_refl _)) hnd hmem ?_⟩
  have old : ∀ {x : Addr} {d : D3}, Value.ref x ∈ its → TD h' x d → TD s.heap x d := by
    intro x d hx td
    obtain ⟨i, hi⟩ := List.getElem?_of_mem hx
    obtain ⟨e, _, y, ey, ty⟩ := Paired.getL (T rv pr) hi
    cases ey
    obtain ⟨b1, b2, b3, o2, g2, r2⟩ := td
    obtain ⟨a1, a2, a3, o1, g1, r1⟩ := ty
    have := kp x o1 g1
    rw [g2] at this
    cases this
    exact ⟨b1, b2, b3, o2, g1, r2⟩
  clear hnd hmem vl J e1 hes
  induction qs with
  | nil => exact .nil
  | cons q qs ih =>
    exact .cons (hT3 (hin q List.mem_cons_self) (old (hin q List.mem_cons_self) (htd q List.mem_cons_self))) (ih (fun q' h' => hin q' (List.mem_cons_of_mem _ h')) fun q' h' => htd q' (List.mem_cons_of_mem _ h'))
/-- sorted(a set of deeds) -/
def rSortedS (w : World) : List V → Hp → VK → Prop := fun xs H Q => ∃ (a : Addr) (vs : List V) (ds : List D3), xs = [.ref a] ∧ H a = some (setO w a vs) ∧ Paired (T3 H) vs ds ∧ ds.length < 64 ∧
  ∀ r us, H r = none → Paired (T3 H) us (srt ds) → Q (.ref r) (upd H r (.lst us))
theorem sortedS (w : World) (hc : X.calm = true) (hw : X.w = w := by rfl) : CallR X (.builtin "sorted") (rSortedS w) := by
  subst hw
  intro pins s σ H xs us Q I r h
  obtain ⟨a, vs, ds, rfl, ha, pr, h64, q⟩ := h
  obtain ⟨u, rfl, ru⟩ := vals1 r
  have ru' : u = Value.ref a := ru
  subst ru'
  obtain ⟨⟨es, ep, t, S, K, rv⟩, _⟩ := (show ObjOk X.prog X.w H s.heap a (setO X.w a vs) from I.hok a _ ha)
  have hl0 := Paired.length pr
  have hl1 := rv.length
  have hl2 : es.size = ds.length := by rw [← hl0, hl1, List.length_map, Array.length_toList]
  have hsz : es.size ≤ sizeLine := by rw [sizeLine_eq]; omega
  refine Calls.call_function_entry kind_sorted plain_sorted entry_sorted (args_sorted1 _) ?_
  unfold Builtin.«sorted»
  refine wpAny_bind (m := checkCount "sorted" 1 1 _) (wpAny_pure (wpAny_bind (collect_set (by simp [I.ok.hd hc]) S K hsz fun h1 tk1 vs1 hge hp kp => ?_)))
  obtain ⟨Z, eZ1, eZ2, eZ3⟩ : ∃ Z : List (V × Value × D3), vs = Z.map (·.1) ∧ es.toList.map (·.2) = Z.map (·.2.1) ∧ ds = Z.map (·.2.2) := by
    refine ⟨vs.zip ((es.toList.map (·.2)).zip ds), ?_, ?_, ?_⟩
    · rw [List.map_fst_zip (by rw [List.length_zip]; omega)]
    · have : (vs.zip ((es.toList.map (·.2)).zip ds)).map (·.2.1) = ((vs.zip ((es.toList.map (·.2)).zip ds)).map (·.2)).map (·.1) := by rw [List.map_map]; rfl
      rw [this, List.map_snd_zip (by rw [List.length_zip]; omega), List.map_fst_zip (by omega)]
    · have : (vs.zip ((es.toList.map (·.2)).zip ds)).map (·.2.2) = ((vs.zip ((es.toList.map (·.2)).zip ds)).map (·.2)).map (·.2) := by rw [List.map_map]; rfl
      rw [this, List.map_snd_zip (by rw [List.length_zip]; omega), List.map_snd_zip (by omega)]
  obtain ⟨Z1, pZ, eZ4⟩ := perm_map_ex (fun z : V × Value × D3 => z.2.1) hp Z eZ2
  have each : ∀ z ∈ Z, RelV z.1 z.2.1 ∧ T3 H z.1 z.2.2 := by
    rw [eZ1, eZ2] at rv
    rw [eZ1, eZ3] at pr
    clear hp eZ4 pZ eZ1 eZ2 eZ3
    induction Z with
    | nil => intro z hz; cases hz
    | cons y Z ih =>
      rw [List.map_cons, List.map_cons] at rv pr
      cases rv with
      | cons r1 rv =>
        cases pr with
        | cons p1 pr =>
          intro z hz
          rcases List.mem_cons.mp hz with e | hz
          · rw [e]; exact ⟨r1, p1⟩
          · exact ih pr rv z hz
  have each1 : ∀ z ∈ Z1, RelV z.1 z.2.1 ∧ T3 H z.1 z.2.2 := fun z hz => each z (pZ.mem_iff.mp hz)
  have rv1 : Vals (Z1.map (·.1)) vs1 := by
    rw [eZ4]
    exact paired_map _ _ fun z hz => (each1 z hz).1
  have pr1 : Paired (T3 H) (Z1.map (·.1)) (Z1.map (·.2.2)) := paired_map _ _ fun z hz => (each1 z hz).2
  have hlz : Z1.length = ds.length := by rw [pZ.length_eq, eZ3, List.length_map]
  have hv1 : vs1.length = ds.length := by rw [eZ4, List.length_map, hlz]
  have tri1 : Tri s.heap vs1 (Z1.map (·.2.2)) := I.tri rv1 pr1
  have hz1 : vs1.length ≤ sizeLine := by rw [sizeLine_eq]; omega
  refine wpAny_bind (wpAny_newList ?_ hz1)
  have kp1 : ∀ b o, s.heap.get? b = some o → (h1.push (seqObj "list" vs1.toArray 0)).get? b = some o := fun b o e => Heap.get?_push_of_some _ (kp b o e)
  have hL : (h1.push (seqObj "list" vs1.toArray 0)).get? h1.objs.size = some (seqObj "list" vs1.toArray 0) := Heap.get?_push_size _ rfl
  have tri2 : Tri (h1.push (seqObj "list" vs1.toArray 0)) vs1 (Z1.map (·.2.2)) := Paired.mapP tri1 fun v d ⟨x, t1, t2, t3, e, tu⟩ => ⟨x, t1, t2, t3, e, tu.keeps kp1⟩
  refine wpAny_bind (wpAny_holding (wpAny_call_entry slot_list_sort ⟨_, hL, rfl⟩ entry_list_sort (sort_body (s := { s with heap := h1.push (seqObj "list" vs1.toArray 0), toks := tk1 }) hL tri2 (by omega) fun p hP hS => ⟨_, rfl, wpAny_pure ⟨_, rfl, ?_⟩⟩) (args_list_sort _)))
  have e2 : ∀ i ∈ p.toList, i < (Z1.map (·.1)).length := fun i hi => by
    have := (Array.Perm.mem_iff hP).mp (Array.mem_toList_iff.mp hi)
    have : i < vs1.length := by simpa using this
    rw [List.length_map]
    omega
  have pv := pick_paired pr1 V.non (0, 0, 0) p.toList e2
  have pu := pick_paired rv1 V.non Value.none p.toList e2
  have es : (p.toList.map fun i => (Z1.map (·.2.2)).getD i (0, 0, 0)) = srt ds := by
    have : (p.toList.map fun i => (Z1.map (·.2.2)).getD i (0, 0, 0)) = srt (Z1.map (·.2.2)) := by
      refine srt_uniq (pick_perm hP (Z1.map (·.2.2)) _ (by rw [List.length_map]; omega)) ?_
      rw [List.pairwise_map, List.pairwise_iff_getElem]
      intro i j hi hj hij
      have hs := hP.size
      have hi' : i < p.size := by simpa using hi
      have hj' : j < p.size := by simpa using hj
      have ei : p.toList[i] = p.getD i 0 := by simp [Array.getD, hi']
      have ej : p.toList[j] = p.getD j 0 := by simp [Array.getD, hj']
      rw [ei, ej]
      exact hS i j (Nat.le_of_lt hij) (by omega)
    rw [this, eZ3]
    exact srt_of_perm (pZ.map _)
  rw [es] at pv
  generalize hvs : (p.toList.map fun i => (Z1.map (·.1)).getD i V.non) = vs' at pv pu
  generalize hits : (p.toList.map fun i => vs1.getD i Value.none) = its' at pu ⊢
  obtain ⟨e, ge⟩ := sortedHeap_at (out := its'.toArray) hL
  have hlen' : vs'.length ≤ sizeLine := by rw [Paired.length pv, srt_length, sizeLine_eq]; omega
  have J : Inv X pins σ (upd H h1.objs.size (.lst vs')) { s with heap := sortedHeap (h1.push (seqObj "list" vs1.toArray 0)) h1.objs.size vs1 its'.toArray, toks := tk1 } :=
    I.laid (fun b o q => (sortedHeap_old (Nat.ne_of_lt (Heap.lt_size (kp b o q))) (by rw [size_push']; exact Nat.lt_succ_of_lt (Heap.lt_size (kp b o q)))).trans (kp1 b o q)) (Nat.le_of_lt hge) ⟨hlen', its', e, pu, ge⟩
  exact ⟨.ref h1.objs.size, _, J, rfl, q _ _ (I.hok.fresh (Nat.le_of_lt hge)) pv⟩
end
end L2

end

section
namespace L2
open PySem PySem.Spec PyProof.Rows
/-! ### a reason as data -/
theorem slT {X : Cx} (K : PySem.W.Frag) (h : X.K = K := by rfl) : SlR X (rSlT K) := by subst h; exact sl_tup
def dC (d : D3) (n m : Nat) : PyData := .tuple [.str "count", dD d, .int (n : Int), .int (m : Int)]
def dT (p q : Nat) : PyData := .tuple [.str "turned", .int (p : Int), .int (q : Int)]
theorem dC_self (d : D3) (n m : Nat) : PyData.eqv (dC d n m) (dC d n m) = true := by
  unfold dC
  rw [PyData.eqv, PyData.eqvAll, PyData.eqvAll, PyData.eqvAll, PyData.eqvAll, PyData.eqvAll, (enc_dD.inj d d).mpr rfl]
  simp [PyData.eqv]
theorem dT_self (p q : Nat) : PyData.eqv (dT p q) (dT p q) = true := by
  unfold dT
  simp [PyData.eqv, PyData.eqvAll]
theorem dC_dep (d : D3) (n m : Nat) : (dC d n m).depth ≤ 60 := by
  have h := enc_dD.dep d
  show Nat.succ (max 0 (max (dD d).depth (max 0 (max 0 0)))) ≤ 60
  omega
theorem dT_dep (p q : Nat) : (dT p q).depth ≤ 60 := by
  show Nat.succ (max 0 (max 0 (max 0 0))) ≤ 60
  decide
theorem dat_dC {H : Hp} {a : Addr} {x : V} {d : D3} {n m : Nat} (h : H a = some (.tup [.str "count", x, .int (n : Int), .int (m : Int)])) (t : T3 H x d) : Dat H (.ref a) (dC d n m) :=
  .tup h (.cons (.str _ (by decide +kernel)) (.cons t.dat (.cons (.int _) (.cons (.int _) .nil))))
theorem dat_dT {H : Hp} {a : Addr} {p q : Nat} (h : H a = some (.tup [.str "turned", .int (p : Int), .int (q : Int)])) : Dat H (.ref a) (dT p q) :=
  .tup h (.cons (.str _ (by decide +kernel)) (.cons (.int _) (.cons (.int _) .nil)))
end L2

end

open PySem L2
local macro_rules | `(tactic| walk_at "hp") => `(tactic| first | assumption | exact upd_same | (apply new_at; (focus assumption); walk_at "hp") | (apply Same.at; (focus assumption); walk_at "hp"))
local macro_rules | `(tactic| walk_at "cond") => `(tactic| first | decide | omega | assumption | (show (0 : Int) < _; first | decide | omega) | exact ⟨by decide, by decide⟩ | exact ⟨by decide, by decide, by decide⟩ | exact ⟨by omega, by omega, by decide⟩ | exact Or.inl ⟨by decide, by decide⟩ | exact Or.inr ⟨by decide, by decide⟩)
local macro_rules | `(tactic| walk_at "rd") => `(tactic| first
  | refine iteT ?_
  | refine iteF ?_
  | refine ⟨_, rfl, ?_⟩
  | refine ⟨_, _, rfl, rfl, ?_⟩
  | refine ⟨rfl, ?_⟩
  | (refine And.intro ?_ ?_; (focus (walk_at "cond")); skip)
  | refine ⟨_, _, _, _, rfl, rfl, SqT.of (by walk_at "hp"), (by first | exact at_l0 | exact at_l1 | exact at_l2 | exact at_l3 | exact at_l4 | exact at_l5 | exact at_l6 | exact at_l7), ?_⟩
  | refine ⟨_, _, _, _, rfl, rfl, SqL.of (by walk_at "hp"), (by first | exact at_l0 | exact at_l1 | exact at_l2 | exact at_l3 | exact at_l4 | exact at_l5 | exact at_l6 | exact at_l7), ?_⟩
  | refine ⟨_, _, rfl, .inl (SqL.of (by walk_at "hp")), ?_⟩)
local macro_rules | `(tactic| walk_at "rds") => `(tactic| repeat (walk_at "rd"))

namespace K08
open PySem L2
def top (i : Nat) : Stmt := PySem.Challenge.pw_passby_k08_whole_way_or_reason.main.body.getD i (.Pass ⟨0, 0, 0, 0⟩)
abbrev s_disturbs : Stmt := top 1
abbrev s_clash : Stmt := top 2
theorem sc_disturbs : FnScope ["one", "other"] ["one", "other"] (defScope s_disturbs) := ⟨rfl, rfl, rfl, by decide +kernel, rfl, by decide +kernel, by decide +kernel⟩
theorem sc_clash : FnScope ["one", "other"] ["one", "other"] (defScope s_clash) := ⟨rfl, rfl, rfl, by decide +kernel, rfl, by decide +kernel, by decide +kernel⟩
section
variable {P : Program} {w : World} {K : PySem.W.Frag} {mg : Str → Option Value} {base : Heap} {f : Addr} {fd : FuncData}
theorem ok_disturbs (F : Fun K "disturbs" "disturbs" s_disturbs f fd) : FnOk P w K mg base CX0 1 f fd ["one", "other"] spDisturbs := by
  have sc := sc_disturbs
  refine F.ok sc (fun vs H Q E h => ?_) (fun cdv A outer s H vs Q E hr h => ?_)
  · obtain ⟨x, y, d, e, rfl, _⟩ := h
    rfl
  obtain ⟨x, y, d, e, rfl, ⟨a, rfl, ha⟩, ⟨b, rfl, hb⟩, q⟩ := h
  refine ⟨_, (pss_one (ps_ret (pe_cmpR op_ne (pe_op op_and (pe_ix (ixT K) (pv 0) pe_int (fun _ _ => rfl)) (pe_op op_or (pe_ix (ixT K) (pv 1) pe_int (fun _ _ => rfl)) (pe_ix (ixT K) (pv 1) pe_int (fun _ _ => rfl)))) pe_int (nomark _)))), ?_⟩
  walk_at "rds"
  exact q
theorem ok_clash (F : Fun K "clash" "clash" s_clash f fd) (D_disturbs : Df P w K mg base "disturbs" 1 ["one", "other"] spDisturbs) : FnOk P w K mg base CX0 2 f fd ["one", "other"] spClash := by
  have sc := sc_clash
  refine F.ok sc (fun vs H Q E h => ?_) (fun cdv A outer s H vs Q E hr h => ?_)
  · obtain ⟨x, y, d, e, rfl, _⟩ := h
    rfl
  obtain ⟨x, y, d, e, rfl, ha, hb, q⟩ := h
  refine ⟨_, (pss_one (ps_ret (pe_or (pe_callD D_disturbs (hr.mono (by decide)) rfl (pa_cons (pv 0) (pa_cons (pv 1) pa_nil))) (pe_one (pe_callD D_disturbs (hr.mono (by decide)) rfl (pa_cons (pv 1) (pa_cons (pv 0) pa_nil))))))), ?_⟩
  walk_at "rds"
  refine ⟨_, _, d, e, rfl, ha, hb, _, rfl, ?_⟩
  have q' : Q (.bl (distB d e || distB e d)) H := q
  refine ite2 (fun c => ?_) (fun c => ?_)
  · rw [c] at q'
    exact q'
  · walk_at "rds"
    refine ⟨_, _, e, d, rfl, hb, ha, ?_⟩
    rw [Bool.eq_false_iff.mpr c] at q'
    exact q'
end
end K08

namespace K08
open PySem L2
abbrev s_some : Stmt := top 4
abbrev s_way : Stmt := top 5
theorem sc_some : FnScope ["between", "deed"] ["between", "deed"] (defScope s_some) := ⟨rfl, rfl, rfl, by decide +kernel, rfl, by decide +kernel, by decide +kernel⟩
theorem sc_way : FnScope ["one", "other", "rest", "places", "place", "deed", "steps"] ["one", "other"] (defScope s_way) := ⟨rfl, rfl, rfl, by decide +kernel, rfl, by decide +kernel, by decide +kernel⟩
section
variable {P : Program} {w : World} {K : PySem.W.Frag} {mg : Str → Option Value} {base : Heap} {f : Addr} {fd : FuncData}
seal PySem.eval PySem.spliced in
theorem ok_some (F : Fun K "some_clash" "some_clash" s_some f fd) (D_clash : Df P w K mg base "clash" 2 ["one", "other"] spClash) (m_any : mg "any" = none) : FnOk P w K mg base CX0 3 f fd ["between", "deed"] spSome := by
  have sc := sc_some
  refine F.ok sc (fun vs H Q E h => ?_) (fun cdv A outer s H vs Q E hr h => ?_)
  · obtain ⟨a, x, ds, d, rfl, _⟩ := h
    rfl
  obtain ⟨a, x, ds, d, rfl, ⟨vs, ha, pr⟩, hz, hx, q⟩ := h
  refine ⟨_, (pss_one (ps_ret (pe_callB (anyQ K rfl) rfl m_any bt_any (pa_cons (pe_comp ["passing"] [1] rfl (comp_scope sc) (piL K (pv 0)) (fun _ _ _ _ _ => ⟨(pg_name (i := 0) (nd_c sc (by decide +kernel)) rfl (Or.inl rfl)), pts_nil, (pe_callD D_clash (hr.mono (by decide)) rfl (pa_cons (pv 0) (pa_cons (pv 1) pa_nil)))⟩)) pa_nil)))), ?_⟩
  have hl0 := Paired.length pr
  refine ⟨_, rfl, a, rfl, ⟨_, SqL.of ha⟩, comp_list (xs := vs) (fun D i zs H' => Same H H' ∧ H' D = some (.lst zs) ∧ zs = ((ds.take i).map fun e => clashB e d).map V.bl) (small1000 (by omega)) (fun D hD => ⟨same_new hD _, upd_same, rfl⟩) ?_ ?_ ?_⟩
  · rintro D i zs H' hD hi ⟨S, hl, rfl⟩
    exact ⟨SqL.of (S _ _ ha), hl, by rw [List.length_map, List.length_map, List.length_take]; omega⟩
  · rintro D i x' zs H' hD hx' ⟨S, hl, rfl⟩
    obtain ⟨d1, g1, t1⟩ := Paired.getL pr hx'
    refine ⟨rfl, _, rfl, _, rfl, _, _, d1, d, rfl, t1.same S, hx.same S, hl, S.wr hD _, upd_same, ?_⟩
    rw [List.take_add_one, g1, List.map_append, List.map_append]
    rfl
  · rintro D zs H' hD ⟨S, hl, rfl⟩
    rw [hl0, List.take_length] at hl
    refine ⟨D, _, rfl, SqL.of hl, ?_⟩
    rw [List.any_map]
    exact q H' S
seal PySem.eval PySem.spliced in
theorem ok_way (F : Fun K "way" "way" s_way f fd) (D_some_clash : Df P w K mg base "some_clash" 3 ["between", "deed"] spSome) (m_list : mg "list" = none) (m_enumerate : mg "enumerate" = none) (m_range : mg "range" = none) (m_len : mg "len" = none) : FnOk P w K mg base CX0 4 f fd ["one", "other"] spWay := by
  have sc := sc_way
  refine F.ok sc (fun vs H Q E h => ?_) (fun cdv A outer s H vs Q E hr h => ?_)
  · obtain ⟨a, b, xs, ys, rfl, _⟩ := h
    rfl
  obtain ⟨a, b, xs, ys, rfl, ⟨us, ha, pu⟩, ⟨vs, hb, pr⟩, hx1, hy1, qn, qs⟩ := h
  refine ⟨_, (pss_cons (ps_set (i := 2) sc.nd rfl (Or.inl rfl) (pe_callTy (listOf K) rfl m_list bt_list (pa_cons (pv 0) pa_nil)))
    (pss_cons (ps_set (i := 3) sc.nd rfl (Or.inl rfl) (pe_lst pa_nil))
    (pss_cons (ps_for PassesOwn.never rfl (piE K rfl m_enumerate (pa_cons (pv 1) pa_nil)) (pgT K (n := 2) rfl (pgs_cons (pg_name (i := 4) sc.nd rfl (Or.inl rfl)) (pgs_cons (pg_name (i := 5) sc.nd rfl (Or.inl rfl)) pgs_nil))) (pss_cons (ps_if (pt_cmpR (op_nin3 hr.units) (pv 5) (pv 2) (by with_unfolding_all rfl)) (pss_one (ps_ret pe_non)) pss_nil)
    (pss_cons (ps_set (i := 6) sc.nd rfl (Or.inl rfl) (pe_bmK K PySem.F.plainAttrs_list PySem.F.slot_list_index PySem.F.type_list_index (mt_indexD hr.units) (pv 2) (pa_cons (pv 5) pa_nil)))
    (pss_cons (ps_if (pt_val (pe_callD D_some_clash (hr.mono (by decide)) rfl (pa_cons (pe_slice (slL K) (pv 2) po_none (po_some (pv 6))) (pa_cons (pv 5) pa_nil)))) (pss_one (ps_ret pe_non)) pss_nil)
    (pss_cons (ps_expr (pe_bmK K PySem.F.plainAttrs_list PySem.F.slot_list_extend PySem.F.type_list_extend mt_extend (pv 3) (pa_cons (pe_down rfl (pa_cons (pe_op op_sub (pe_op op_add (pv 4) (pv 6)) pe_int) (pa_cons (pe_op op_sub (pv 4) pe_int) (pa_cons (pe_un un_neg pe_int) pa_nil))) rfl m_list rfl m_range) pa_nil)))
    (pss_one (ps_expr (pe_bmK K PySem.F.plainAttrs_list PySem.F.slot_list_pop PySem.F.type_list_pop mt_popAt (pv 2) (pa_cons (pv 6) pa_nil)))))))))
    (pss_cons (ps_if (pt_cmpR op_gt (pe_callB (lenQ K) rfl m_len bt_len (pa_cons (pv 2) pa_nil)) pe_int (nomark _)) (pss_one (ps_ret pe_non)) pss_nil)
    (pss_one (ps_ret (pv 3))))))), ?_⟩
  have hl0 := Paired.length pr
  have hl1 := Paired.length pu
  refine ⟨_, rfl, a, us, rfl, .inl (SqL.of ha), fun r hr0 => ?_⟩
  have S1 := same_new hr0 (.lst us)
  refine ⟨(by decide : 0 ≤ sizeLine), fun pl hpl => ?_⟩
  have S2 := S1.new hpl (.lst [])
  have hpl0 : H pl = none := S1.free hpl
  have npr : pl ≠ r := fun z => by rw [z, upd_same] at hpl; cases hpl
  refine ⟨_, rfl, b, vs, rfl, SqL.of (S2 _ _ hb), for_enum (xs := vs) (fun i σ H' => ∃ z4 z5 z6 ws R Pl, σ = [some (.ref a), some (.ref b), some (.ref r), some (.ref pl), z4, z5, z6] ∧ Same H H' ∧ H' r = some (.lst ws) ∧ Paired (T3 H') ws R ∧ H' pl = some (.lst (Pl.map V.int)) ∧ R.length ≤ 100 ∧ Pl.length ≤ i * 100 ∧ wayF 0 xs ys = (wayF i R (ys.drop i)).map (Pl ++ ·))
    ⟨none, none, none, us, xs, [], rfl, S2, new_at hpl upd_same, stab_T3.list S2 pu, upd_same, hx1, Nat.zero_le _, by simp⟩ ?_ ?_ ?_⟩
  · rintro i σ H' _ ⟨z4, z5, z6, ws, R, Pl, rfl, S, _⟩
    exact SqL.of (S _ _ hb)
  · rintro i x p σ H' hx hp ⟨z4, z5, z6, ws, R, Pl, rfl, S, er, pR, ep, hR, hP, eq⟩
    obtain ⟨d, gd, td⟩ := Paired.getL pr hx
    have hi : i < ys.length := (List.getElem?_eq_some_iff.mp gd).1
    have hi' : i < 100 := by omega
    have S' := S.new hp (.tup [.int (i : Int), x])
    have td' := td.same S'
    have pR' := stab_T3.list (same_new hp (.tup [.int (i : Int), x])) pR
    have er' := new_at (o := .tup [.int (i : Int), x]) hp er
    have ep' := new_at (o := .tup [.int (i : Int), x]) hp ep
    have hlR := Paired.length pR
    have edr : ys.drop i = d :: ys.drop (i + 1) := by
      rw [List.drop_eq_getElem_cons hi]
      congr 1
      rw [List.getElem?_eq_getElem hi] at gd
      exact Option.some.inj gd
    rw [edr] at eq
    refine ⟨p, _, rfl, SqT.of upd_same, rfl, _, _, rfl, _, _, rfl, rfl, ?_⟩
    refine ⟨_, rfl, _, rfl, r, R, d, rfl, ⟨ws, er', pR'⟩, td', _, rfl, ?_⟩
    refine iteB (fun c => ?_) (fun c => ?_)
    · have hm : d ∈ R := of_decide_eq_true c
      obtain ⟨g1, g2⟩ := fst_ok hm
      have hk : fst? d R < R.length := (List.getElem?_eq_some_iff.mp g1).1
      refine ⟨_, rfl, .inl ⟨rfl, _, SqL.of er'⟩, _, rfl, r, R, d, x, fst? d R, rfl, rfl, ⟨ws, er', pR'⟩, td', g1, g2, ?_⟩
      refine ⟨_, rfl, _, rfl, ((fst? d R : Nat) : Int), rfl, r, ws, rfl, SqL.of er', fun c1 hc1 => ?_⟩
      have S2' := S'.new hc1 (.lst (cutV ws none (some ((fst? d R : Nat) : Int))))
      have Sn := same_new hc1 (.lst (cutV ws none (some ((fst? d R : Nat) : Int))))
      have ec : cutV ws none (some ((fst? d R : Nat) : Int)) = ws.take (fst? d R) := by rw [cut_to (by omega), Int.toNat_natCast]
      have pc : Paired (T3 (upd H' p (.tup [.int (i : Int), x]))) (cutV ws none (some ((fst? d R : Nat) : Int))) (R.take (fst? d R)) := by rw [ec]; exact Paired.tk _ pR'
      refine ⟨_, rfl, c1, x, R.take (fst? d R), d, rfl, ⟨_, upd_same, stab_T3.list Sn pc⟩, by rw [List.length_take]; omega, td.same S2', fun H3 S3 => ?_⟩
      have SS := S2'.trans S3
      have er3 := S3 _ _ (new_at hc1 er')
      have ep3 := S3 _ _ (new_at hc1 ep')
      have pR3 := stab_T3.list (Sn.trans S3) pR'
      refine ⟨_, rfl, ite2 (fun c2 => ?_) (fun c2 => ?_)⟩
      · rw [wayF_cl c2] at eq
        exact qn eq _ SS
      rw [wayF_go hm c2] at eq
      refine ⟨_, rfl, .inl ⟨rfl, _, SqL.of ep3⟩, ?_⟩
      refine ⟨_, rfl, _, rfl, _, _, rfl, rfl, _, _, rfl, rfl, _, rfl, _, _, rfl, rfl, _, rfl, (i : Int) + ((fst? d R : Nat) : Int) - 1, fst? d R, ?_, by omega, by omega, by omega, fun c3 hc3 => ?_⟩
      · rw [show (i : Int) + ((fst? d R : Nat) : Int) - 1 - ((fst? d R : Nat) : Int) = (i : Int) - 1 by omega]
      have S4 := same_new hc3 (.lst ((dnL ((i : Int) + ((fst? d R : Nat) : Int) - 1) (fst? d R)).map V.int))
      have er4 := S4 _ _ er3
      have ep4 := S4 _ _ ep3
      have pR4 := stab_T3.list S4 pR3
      refine ⟨pl, c3, _, _, rfl, rfl, ep4, upd_same, ?_, ?_⟩
      · rw [List.length_map, List.length_map, dnL_length]
        exact Nat.le_of_lt (small9 (by omega))
      have er5 := (upd_ne (o := .lst (Pl.map V.int ++ (dnL ((i : Int) + ((fst? d R : Nat) : Int) - 1) (fst? d R)).map V.int)) (Ne.symm npr)).trans er4
      have gw : ws[fst? d R]? = some (ws[fst? d R]'(by omega)) := List.getElem?_eq_getElem (by omega)
      refine ⟨_, rfl, .inl ⟨rfl, _, SqL.of er5⟩, _, rfl, r, ws, ((fst? d R : Nat) : Int), fst? d R, _, rfl, rfl, er5, by omega, by omega, ?_, gw, ?_⟩
      · rw [seqIndex_of (by omega) (by omega), Int.toNat_natCast]
      have S6 : Same H (upd (upd (upd H3 c3 (.lst ((dnL ((i : Int) + ((fst? d R : Nat) : Int) - 1) (fst? d R)).map V.int))) pl (.lst (Pl.map V.int ++ (dnL ((i : Int) + ((fst? d R : Nat) : Int) - 1) (fst? d R)).map V.int))) r (.lst (ws.eraseIdx (fst? d R)))) := ((SS.trans S4).wr hpl0 _).wr hr0 _
      refine ⟨_, _, _, ws.eraseIdx (fst? d R), R.eraseIdx (fst? d R), Pl ++ dnL ((i : Int) + ((fst? d R : Nat) : Int) - 1) (fst? d R), rfl, S6, upd_same, ?_, ?_, ?_, ?_, ?_⟩
      · exact Paired.mapP (Paired.er pR4 _) fun _ _ z => (z.wr ep4).wr er5
      · rw [upd_ne npr, upd_same, List.map_append]
      · rw [List.length_eraseIdx]
        split <;> omega
      · rw [List.length_append, dnL_length]; omega
      · rw [eq, Option.map_map]
        congr 1
        funext l
        simp
    · have hn : d ∉ R := of_decide_eq_false c
      rw [wayF_no hn] at eq
      exact qn eq _ S'
  · rintro σ H' ⟨z4, z5, z6, ws, R, Pl, rfl, S, er, pR, ep, hR, hP, eq⟩
    rw [hl0, List.drop_length] at eq
    have hlR := Paired.length pR
    refine ⟨_, rfl, r, ws, rfl, .inl (SqL.of er), _, _, rfl, rfl, _, rfl, iteD (fun c => ?_) (fun c => ?_)⟩
    · have : R ≠ [] := fun z => by rw [z] at hlR; rw [hlR] at c; exact absurd c (by decide)
      refine qn ?_ _ S
      rw [eq]
      show (if R = [] then some [] else none : Option (List Int)).map _ = none
      rw [if_neg this]; rfl
    · have e0 : R = [] := by
        apply List.eq_nil_of_length_eq_zero
        omega
      subst e0
      refine ⟨_, rfl, qs Pl ?_ pl _ S hpl0 ep⟩
      rw [eq]
      show (some [] : Option (List Int)).map _ = _
      simp
end
end K08


namespace K08
open PySem L2
abbrev s_cell : Stmt := top 11
abbrev s_whole : Stmt := top 12
abbrev s_power : Stmt := top 13
abbrev s_wide : Stmt := top 14
abbrev s_deed : Stmt := top 15
theorem sc_cell : FnScope ["_law_script", "_law_k"] ["_law_script", "_law_k"] (defScope s_cell) := ⟨rfl, rfl, rfl, by decide +kernel, rfl, by decide +kernel, by decide +kernel⟩
theorem sc_whole : FnScope ["_law_found"] ["_law_found"] (defScope s_whole) := ⟨rfl, rfl, rfl, by decide +kernel, rfl, by decide +kernel, by decide +kernel⟩
theorem sc_power : FnScope ["_law_k", "_law_found", "_law_step"] ["_law_k"] (defScope s_power) := ⟨rfl, rfl, rfl, by decide +kernel, rfl, by decide +kernel, by decide +kernel⟩
theorem sc_wide : FnScope ["_law_cell", "_law_factor"] ["_law_cell", "_law_factor"] (defScope s_wide) := ⟨rfl, rfl, rfl, by decide +kernel, rfl, by decide +kernel, by decide +kernel⟩
theorem sc_deed : FnScope ["_law_cell", "_law_lift", "_law_rest", "_law_looks", "_law_changes"] ["_law_cell", "_law_lift"] (defScope s_deed) := ⟨rfl, rfl, rfl, by decide +kernel, rfl, by decide +kernel, by decide +kernel⟩
def spWholeI : Sp := fun vs H Q _ => ∃ n : Int, vs = [.int n] ∧ Q (.bl true) H
def spPower : Sp := fun vs H Q _ => ∃ k : Int, vs = [.int k] ∧ 0 ≤ k ∧ k ≤ 1000 ∧ Q (.int (2 ^ k.toNat)) H
def spWide : Sp := fun vs H Q _ => ∃ c g : Int, vs = [.int c, .int g] ∧ (0 ≤ g ∧ g < 1000000) ∧ ∀ n, R60 n → Q (.int n) H
def spDeedW : Sp := fun vs H Q _ => ∃ c l : Int, vs = [.int c, .int l] ∧ 0 ≤ l ∧ l ≤ 2 ^ 55 ∧ ∀ x d H', Same H H' → T3 H' x d → okD d → Q x H'
section
variable {P : Program} {w : World} {K : PySem.W.Frag} {mg : Str → Option Value} {base : Heap} {f : Addr} {fd : FuncData}
theorem ok_cell (F : Fun K "_law_cell_at" "_law_cell_at" s_cell f fd) (m_len : mg "len" = none) : FnOk P w K mg base CX0 1 f fd ["_law_script", "_law_k"] (spCell K) := by
  have sc := sc_cell
  refine F.ok sc (fun vs H Q E h => ?_) (fun cdv A outer s H vs Q E hr h => ?_)
  · obtain ⟨a, ns, k, rfl, _⟩ := h
    rfl
  obtain ⟨a, ns, k, rfl, hS, h0, q⟩ := h
  refine ⟨_, (pss_cons (ps_if (pt_cmpR op_lt (pv 1) (pe_callB (lenQ K) rfl m_len bt_len (pa_cons (pv 0) pa_nil)) (nomark _)) (pss_one (ps_ret (pe_ix (ixL K) (pv 0) (pv 1) (fun _ _ => rfl)))) pss_nil)
    (pss_one (ps_ret pe_int))), ?_⟩
  have hl : (ns.map V.int).length = ns.length := List.length_map _
  refine ⟨_, rfl, _, rfl, a, _, rfl, .inl hS, _, _, rfl, rfl, _, rfl, ?_⟩
  refine iteD (fun c => ?_) (fun c => ?_)
  · rw [hl] at c
    exact ⟨_, rfl, _, rfl, _, _, _, _, rfl, rfl, hS, at_ints h0 c, q⟩
  · rw [hl] at c
    have e : ns.getD k.toNat 0 = 0 := by rw [List.getD_eq_getElem?_getD, List.getElem?_eq_none (by omega)]; rfl
    rw [e] at q
    exact q
theorem ok_whole (F : Fun K "_law_whole" "_law_whole" s_whole f fd) (m_isinstance : mg "isinstance" = none) (m_int : mg "int" = none) (m_bool : mg "bool" = none) : FnOk P w K mg base CX0 1 f fd ["_law_found"] spWholeI := by
  have sc := sc_whole
  refine F.ok sc (fun vs H Q E h => ?_) (fun cdv A outer s H vs Q E hr h => ?_)
  · obtain ⟨n, rfl, _⟩ := h
    rfl
  obtain ⟨n, rfl, q⟩ := h
  refine ⟨_, (pss_one (ps_ret (pe_and (pe_callB (isI K) rfl m_isinstance bt_isinstance (pa_cons (pv 0) (pa_cons (pe_type rfl m_int bt_int) pa_nil))) (pe_one (pe_not (pe_callB (isI K) rfl m_isinstance bt_isinstance (pa_cons (pv 0) (pa_cons (pe_type rfl m_bool bt_bool) pa_nil)))))))), ?_⟩
  exact ⟨_, rfl, _, _, _, _, true, rfl, rfl, .int _, kit_same, true, rfl, iteT ⟨_, rfl, _, _, _, _, false, rfl, rfl, .int _, kit_int_bool, false, rfl, q⟩⟩
theorem ok_power (F : Fun K "_law_power" "_law_power" s_power f fd) (m_range : mg "range" = none) : FnOk P w K mg base CX0 1 f fd ["_law_k"] spPower := by
  have sc := sc_power
  refine F.ok sc (fun vs H Q E h => ?_) (fun cdv A outer s H vs Q E hr h => ?_)
  · obtain ⟨k, rfl, _⟩ := h
    rfl
  obtain ⟨k', rfl, hk0, hk, q⟩ := h
  obtain ⟨k, rfl⟩ := Int.eq_ofNat_of_zero_le hk0
  rw [Int.toNat_natCast] at q
  refine ⟨_, (pss_cons (ps_set (i := 1) sc.nd rfl (Or.inl rfl) pe_int)
    (pss_cons (ps_for PassesOwn.never rfl (pi_range1 rfl m_range (pa_cons (pv 0) pa_nil)) (pg_name (i := 2) sc.nd rfl (Or.inl rfl)) (pss_one (ps_set (i := 1) sc.nd rfl (Or.inl rfl) (pe_op op_mul (pv 1) pe_int))))
    (pss_one (ps_ret (pv 1))))), ?_⟩
  refine ⟨_, rfl, _, rfl, by omega, by omega, ?_⟩
  rw [Int.toNat_natCast]
  refine for_range (n := k) (fun i σ H' => ∃ z, σ = [some (.int k), some (.int (2 ^ i)), z] ∧ H' = H) ⟨none, rfl, rfl⟩ ?_ ?_
  · rintro i σ H' hi ⟨z, rfl, rfl⟩
    refine ⟨_, rfl, _, _, rfl, rfl, .inr ⟨by decide, by decide⟩, ?_⟩
    exact ⟨_, by rw [Int.pow_succ]; rfl, rfl⟩
  · rintro σ H' ⟨z, rfl, rfl⟩
    exact ⟨_, rfl, q⟩
theorem ok_wide (F : Fun K "_law_wide" "_law_wide" s_wide f fd) : FnOk P w K mg base CX0 1 f fd ["_law_cell", "_law_factor"] spWide := by
  have sc := sc_wide
  refine F.ok sc (fun vs H Q E h => ?_) (fun cdv A outer s H vs Q E hr h => ?_)
  · obtain ⟨c, g, rfl, _⟩ := h
    rfl
  obtain ⟨c, g, rfl, hg, q⟩ := h
  refine ⟨_, (pss_one (ps_ret (pe_op op_mod (pe_op op_mod (pe_op op_mul (pe_op op_mod (pv 0) (pe_op op_sub (pe_op op_pow pe_int pe_int) pe_int)) (pv 1)) (pe_op op_sub (pe_op op_pow pe_int pe_int) pe_int)) (pe_op op_pow pe_int pe_int)))), ?_⟩
  refine ⟨_, rfl, _, _, rfl, rfl, ⟨by decide, by decide, by decide⟩, _, _, rfl, rfl, _, _, rfl, rfl, (show (0 : Int) < _ by decide), ?_⟩
  refine ⟨_, rfl, _, _, rfl, rfl, .inr ⟨by omega, by omega⟩, ?_⟩
  refine ⟨_, _, rfl, rfl, ⟨by decide, by decide, by decide⟩, _, _, rfl, rfl, _, _, rfl, rfl, (show (0 : Int) < _ by decide), ?_⟩
  exact ⟨_, _, rfl, rfl, ⟨by decide, by decide, by decide⟩, _, _, rfl, rfl, (show (0 : Int) < _ by decide), q _ (m60 _)⟩
seal PySem.eval PySem.spliced in
theorem ok_deed (F : Fun K "_law_deed" "_law_deed" s_deed f fd) (D__law_wide : Df P w K mg base "_law_wide" 1 ["_law_cell", "_law_factor"] spWide) : FnOk P w K mg base CX0 2 f fd ["_law_cell", "_law_lift"] spDeedW := by
  have sc := sc_deed
  refine F.ok sc (fun vs H Q E h => ?_) (fun cdv A outer s H vs Q E hr h => ?_)
  · obtain ⟨c, l, rfl, _⟩ := h
    rfl
  obtain ⟨c, l, rfl, l0, l1, q⟩ := h
  refine ⟨_, (pss_cons (ps_set (i := 2) sc.nd rfl (Or.inl rfl) (pe_op op_fdiv (pv 0) pe_int))
    (pss_cons (ps_if (pt_cmpR op_eq (pe_op op_mod (pv 0) pe_int) pe_int (nomark _)) (pss_one (ps_ret (pe_tup (pa_cons (pe_op op_mod (pe_op op_fdivB (pe_op op_fdivB (pv 2) (pe_op op_pow pe_int pe_int)) (pe_op op_pow pe_int pe_int)) (pe_op op_pow pe_int pe_int)) (pa_cons (pe_op op_mod (pv 2) (pe_op op_pow pe_int pe_int)) (pa_cons (pe_op op_mod (pe_op op_fdivB (pv 2) (pe_op op_pow pe_int pe_int)) (pe_op op_pow pe_int pe_int)) pa_nil)))))) pss_nil)
    (pss_cons (ps_if (pt_cmpR op_eq (pe_op op_mod (pv 0) pe_int) pe_int (nomark _)) (pss_cons (ps_set (i := 3) sc.nd rfl (Or.inl rfl) (pe_op op_and (pe_op op_and (pe_callD D__law_wide (hr.mono (by decide)) rfl (pa_cons (pv 0) (pa_cons pe_int pa_nil))) (pe_callD D__law_wide (hr.mono (by decide)) rfl (pa_cons (pv 0) (pa_cons pe_int pa_nil)))) (pe_callD D__law_wide (hr.mono (by decide)) rfl (pa_cons (pv 0) (pa_cons pe_int pa_nil)))))
    (pss_cons (ps_set (i := 4) sc.nd rfl (Or.inl rfl) (pe_op op_and (pe_op op_and (pe_callD D__law_wide (hr.mono (by decide)) rfl (pa_cons (pv 0) (pa_cons pe_int pa_nil))) (pe_callD D__law_wide (hr.mono (by decide)) rfl (pa_cons (pv 0) (pa_cons pe_int pa_nil)))) (pe_callD D__law_wide (hr.mono (by decide)) rfl (pa_cons (pv 0) (pa_cons pe_int pa_nil)))))
    (pss_one (ps_ret (pe_tup (pa_cons (pe_op op_mod (pe_op op_mul (pv 0) pe_int) (pe_op op_pow pe_int pe_int)) (pa_cons (pv 3) (pa_cons (pe_op op_and (pv 4) (pe_callD D__law_wide (hr.mono (by decide)) rfl (pa_cons (pv 0) (pa_cons pe_int pa_nil)))) pa_nil)))))))) pss_nil)
    (pss_cons (ps_set (i := 3) sc.nd rfl (Or.inl rfl) (pe_op op_mul (pe_ix (ixL K) (pe_lst (pa_ints (ns := [0, 1, 2, 4, 8, 16, 3, 20]) rfl)) (pe_op op_mod (pe_op op_fdiv (pv 2) pe_int) pe_int) (fun _ _ => rfl)) (pv 1)))
    (pss_one (ps_ret (pe_tup (pa_cons (pe_op op_mod (pv 2) pe_int) (pa_cons (pv 3) (pa_cons (pe_op op_mul (pe_ix (ixL K) (pe_lst (pa_ints (ns := [0, 0, 1, 2, 4, 8, 16, 9]) rfl)) (pe_op op_mod (pe_op op_fdiv (pv 2) pe_int) pe_int) (fun _ _ => rfl)) (pv 1)) pa_nil)))))))))), ?_⟩
  refine ⟨_, rfl, _, _, rfl, rfl, ⟨by decide, by decide⟩, ?_⟩
  refine ⟨_, rfl, _, _, rfl, rfl, (show (0 : Int) < 4 by decide), rfl, _, rfl, iteI (fun _ => ?_) (fun _ => ?_)⟩
  · refine ⟨_, rfl, _, _, rfl, rfl, ⟨by decide, by decide, by decide⟩, _, _, rfl, rfl, ⟨by decide, by decide +kernel⟩, _, _, rfl, rfl, ⟨by decide, by decide, by decide⟩, _, _, rfl, rfl, ⟨by decide, by decide +kernel⟩, _, _, rfl, rfl, ⟨by decide, by decide, by decide⟩, _, _, rfl, rfl, (show (0 : Int) < _ by decide), ?_⟩
    refine ⟨_, rfl, _, _, rfl, rfl, ⟨by decide, by decide, by decide⟩, _, _, rfl, rfl, (show (0 : Int) < _ by decide), ?_⟩
    refine ⟨_, rfl, _, _, rfl, rfl, ⟨by decide, by decide, by decide⟩, _, _, rfl, rfl, ⟨by decide, by decide +kernel⟩, _, _, rfl, rfl, ⟨by decide, by decide, by decide⟩, _, _, rfl, rfl, (show (0 : Int) < _ by decide), ?_⟩
    exact ⟨sm rfl, fun t ht => q _ (_, _, _) _ (same_new ht _) ⟨t, rfl, upd_same⟩ (okD_of (m60 _) (m60 _))⟩
  refine ⟨_, rfl, _, _, rfl, rfl, (show (0 : Int) < 4 by decide), rfl, _, rfl, iteI (fun _ => ?_) (fun _ => ?_)⟩
  · refine ⟨_, rfl, c, _, rfl, ⟨by decide, by decide⟩, fun n1 r1 => ⟨_, rfl, c, _, rfl, ⟨by decide, by decide⟩, fun n2 r2 => ⟨_, _, rfl, rfl, _, rfl, c, _, rfl, ⟨by decide, by decide⟩, fun n3 r3 => ⟨_, _, rfl, rfl, ?_⟩⟩⟩⟩
    refine ⟨_, rfl, c, _, rfl, ⟨by decide, by decide⟩, fun m1 s1 => ⟨_, rfl, c, _, rfl, ⟨by decide, by decide⟩, fun m2 s2 => ⟨_, _, rfl, rfl, _, rfl, c, _, rfl, ⟨by decide, by decide⟩, fun m3 s3 => ⟨_, _, rfl, rfl, ?_⟩⟩⟩⟩
    refine ⟨_, rfl, _, _, rfl, rfl, .inr ⟨by decide, by decide⟩, _, _, rfl, rfl, ⟨by decide, by decide, by decide⟩, _, _, rfl, rfl, (show (0 : Int) < _ by decide), _, rfl, _, rfl, _, rfl, c, _, rfl, ⟨by decide, by decide⟩, fun m4 s4 => ⟨_, _, rfl, rfl, ?_⟩⟩
    exact ⟨sm rfl, fun t ht => q _ (_, _, _) _ (same_new ht _) ⟨t, rfl, upd_same⟩ (okD_of (and60 (and60 r1 r2) r3) (and60 (and60 (and60 s1 s2) s3) s4))⟩
  have b1 := getD_all (P := fun x => 0 ≤ x ∧ x ≤ 20) (l := [0, 1, 2, 4, 8, 16, 3, 20]) (by decide) (by decide) (c / 4 / 3 % 8).toNat
  have b2 := getD_all (P := fun x => 0 ≤ x ∧ x ≤ 20) (l := [0, 0, 1, 2, 4, 8, 16, 9]) (by decide) (by decide) (c / 4 / 24 % 8).toNat
  have g1 := at_ints (ns := [0, 1, 2, 4, 8, 16, 3, 20]) (k := c / 4 / 3 % 8) (by omega) (by show c / 4 / 3 % 8 < 8; omega)
  have g2 := at_ints (ns := [0, 0, 1, 2, 4, 8, 16, 9]) (k := c / 4 / 24 % 8) (by omega) (by show c / 4 / 24 % 8 < 8; omega)
  refine ⟨sm rfl, fun p hp => ?_⟩
  refine ⟨_, rfl, _, _, rfl, rfl, ⟨by decide, by decide⟩, _, _, rfl, rfl, (show (0 : Int) < 8 by decide), _, _, _, _, rfl, rfl, SqL.of upd_same, g1, _, rfl, _, _, rfl, rfl, .inl ⟨by omega, by omega⟩, ?_⟩
  refine ⟨_, rfl, _, _, rfl, rfl, (show (0 : Int) < 3 by decide), _, rfl, sm rfl, fun p2 hp2 => ?_⟩
  refine ⟨_, rfl, _, _, rfl, rfl, ⟨by decide, by decide⟩, _, _, rfl, rfl, (show (0 : Int) < 8 by decide), _, _, _, _, rfl, rfl, SqL.of upd_same, g2, _, rfl, _, _, rfl, rfl, .inl ⟨by omega, by omega⟩, ?_⟩
  exact ⟨sm rfl, fun t ht => q _ (_, _, _) _ (((same_new hp _).new hp2 _).new ht _) ⟨t, rfl, upd_same⟩ (okD_of (mul60 b1 l0 l1) (mul60 b2 l0 l1))⟩
end
end K08


namespace K08
open PySem L2
abbrev s_lclash : Stmt := top 16
abbrev s_passed : Stmt := top 17
abbrev s_exch : Stmt := top 18
abbrev s_changed : Stmt := top 19
theorem sc_lclash : FnScope ["_law_one", "_law_other"] ["_law_one", "_law_other"] (defScope s_lclash) := ⟨rfl, rfl, rfl, by decide +kernel, rfl, by decide +kernel, by decide +kernel⟩
theorem sc_passed : FnScope ["_law_rows", "_law_cells", "_law_now", "_law_cell", "_law_at", "_law_step"] ["_law_rows", "_law_cells"] (defScope s_passed) := ⟨rfl, rfl, rfl, by decide +kernel, rfl, by decide +kernel, by decide +kernel⟩
theorem sc_exch : FnScope ["_law_row", "_law_which", "_law_new"] ["_law_row", "_law_which", "_law_new"] (defScope s_exch) := ⟨rfl, rfl, rfl, by decide +kernel, rfl, by decide +kernel, by decide +kernel⟩
theorem sc_changed : FnScope ["_law_rows", "_law_kind", "_law_cell", "_law_lift", "_law_at", "_law_new"] ["_law_rows", "_law_kind", "_law_cell", "_law_lift"] (defScope s_changed) := ⟨rfl, rfl, rfl, by decide +kernel, rfl, by decide +kernel, by decide +kernel⟩
section
variable {P : Program} {w : World} {K : PySem.W.Frag} {mg : Str → Option Value} {base : Heap} {f : Addr} {fd : FuncData}
theorem ok_lclash (F : Fun K "_law_clash" "_law_clash" s_lclash f fd) : FnOk P w K mg base CX0 1 f fd ["_law_one", "_law_other"] spClashL := by
  have sc := sc_lclash
  refine F.ok sc (fun vs H Q E h => ?_) (fun cdv A outer s H vs Q E hr h => ?_)
  · obtain ⟨x, y, d, e, rfl, _⟩ := h
    rfl
  obtain ⟨x, y, d, e, rfl, ⟨a, rfl, ha⟩, ⟨b, rfl, hb⟩, q⟩ := h
  refine ⟨_, (pss_one (ps_ret (pe_or (pe_cmpR op_ne (pe_op op_and (pe_ix (ixT K) (pv 0) pe_int (fun _ _ => rfl)) (pe_op op_or (pe_ix (ixT K) (pv 1) pe_int (fun _ _ => rfl)) (pe_ix (ixT K) (pv 1) pe_int (fun _ _ => rfl)))) pe_int (nomark _)) (pe_one (pe_cmpR op_ne (pe_op op_and (pe_ix (ixT K) (pv 0) pe_int (fun _ _ => rfl)) (pe_ix (ixT K) (pv 1) pe_int (fun _ _ => rfl))) pe_int (nomark _)))))), ?_⟩
  have q' : Q (.bl (distB d e || !decide (V.int (Builtin.bitAnd d.2.1 e.2.2) = V.int 0))) H := by rw [PyProof.Rows.bitAnd_comm]; exact q
  refine ⟨_, rfl, _, _, _, _, rfl, rfl, SqT.of ha, at_l2, _, rfl, _, _, _, _, rfl, rfl, SqT.of hb, at_l1, _, rfl, _, _, _, _, rfl, rfl, SqT.of hb, at_l2, _, _, rfl, rfl, _, _, rfl, rfl, rfl, _, rfl, ite2 (fun c => ?_) (fun c => ?_)⟩
  · rw [show distB d e = true from c] at q'
    exact q'
  · rw [show distB d e = false from Bool.eq_false_iff.mpr c] at q'
    exact ⟨_, rfl, _, _, _, _, rfl, rfl, SqT.of ha, at_l1, _, rfl, _, _, _, _, rfl, rfl, SqT.of hb, at_l2, _, _, rfl, rfl, rfl, q'⟩
seal PySem.eval PySem.spliced in
theorem ok_passed (F : Fun K "_law_passed_on" "_law_passed_on" s_passed f fd) (D__law_clash : Df P w K mg base "_law_clash" 1 ["_law_one", "_law_other"] spClashL) (m_list : mg "list" = none) (m_range : mg "range" = none) (m_len : mg "len" = none) (m_max : mg "max" = none) :
    FnOk P w K mg base CX0 2 f fd ["_law_rows", "_law_cells"] spPassed := by
  have sc := sc_passed
  refine F.ok sc (fun vs H Q E h => ?_) (fun cdv A outer s H vs Q E hr h => ?_)
  · obtain ⟨a, c, ds, ms, rfl, _⟩ := h
    rfl
  obtain ⟨a, c, ds, ms, rfl, ⟨vs, ha, pr⟩, hz, hc, q⟩ := h
  refine ⟨_, (pss_cons (ps_set (i := 2) sc.nd rfl (Or.inl rfl) (pe_callTy (listOf K) rfl m_list bt_list (pa_cons (pv 0) pa_nil)))
    (pss_cons (ps_for PassesOwn.never rfl (piL K (pv 1)) (pg_name (i := 3) sc.nd rfl (Or.inl rfl)) (pss_cons (ps_set (i := 4) sc.nd rfl (Or.inl rfl) (pe_op op_mod (pe_op op_mod (pe_op op_mul (pe_op op_mod (pv 3) pe_int) pe_int) pe_int) (pe_callB (call_max2 rfl) rfl m_max bt_max (pa_cons pe_int (pa_cons (pe_callB (lenQ K) rfl m_len bt_len (pa_cons (pv 2) pa_nil)) pa_nil)))))
    (pss_one (ps_for PassesOwn.never rfl (pi_range1 rfl m_range (pa_cons (pe_op op_mod (pe_op op_mod (pv 3) pe_int) pe_int) pa_nil)) (pg_name (i := 5) sc.nd rfl (Or.inl rfl)) (pss_one (ps_if (PW.pt (pw_and (pt_cmpR op_lt (pe_op op_add (pv 4) pe_int) (pe_callB (lenQ K) rfl m_len bt_len (pa_cons (pv 2) pa_nil)) (nomark _)) (pw_and1 (pt_not (pt_val (pe_callD D__law_clash (hr.mono (by decide)) rfl (pa_cons (pe_ix (ixL K) (pv 2) (pv 4) (fun _ _ => rfl)) (pa_cons (pe_ix (ixL K) (pv 2) (pe_op op_add (pv 4) pe_int) (fun _ _ => rfl)) pa_nil)))))))) (pss_cons (ps_set (i := 2) sc.nd rfl (Or.inl rfl) (pe_op op_cat (pe_op op_cat (pe_slice (slL K) (pv 2) po_none (po_some (pv 4))) (pe_lst (pa_cons (pe_ix (ixL K) (pv 2) (pe_op op_add (pv 4) pe_int) (fun _ _ => rfl)) (pa_cons (pe_ix (ixL K) (pv 2) (pv 4) (fun _ _ => rfl)) pa_nil)))) (pe_slice (slL K) (pv 2) (po_some (pe_op op_add (pv 4) pe_int)) po_none)))
    (pss_one (ps_set (i := 4) sc.nd rfl (Or.inl rfl) (pe_op op_add (pv 4) pe_int)))) pss_nil))))))
    (pss_one (ps_ret (pv 2))))), ?_⟩
  have hl0 := Paired.length pr
  refine ⟨_, rfl, a, vs, rfl, .inl (SqL.of ha), fun nw0 hn0 => ?_⟩
  have S0 := same_new hn0 (.lst vs)
  refine ⟨_, rfl, c, rfl, ⟨_, SqL.of (S0 _ _ hc)⟩, for_list (xs := ms.map V.int) (fun i σ H' => ∃ nw us es z3 z4 z5, σ = [some (.ref a), some (.ref c), some (.ref nw), z3, z4, z5] ∧ Same H H' ∧ H nw = none ∧ H' nw = some (.lst us) ∧ Paired (T3 H') us es ∧ (∀ e ∈ es, e ∈ ds) ∧ es.length = ds.length)
    ⟨nw0, vs, ds, none, none, none, rfl, S0, hn0, upd_same, stab_T3.list S0 pr, fun _ z => z, rfl⟩ ?_ ?_ ?_⟩
  · rintro i σ H' _ ⟨nw, us, es, z3, z4, z5, rfl, S, _⟩
    exact SqL.of (S _ _ hc)
  · rintro i x σ H' hx ⟨nw, us, es, z3, z4, z5, rfl, S, n0, en, pn, sb, el⟩
    obtain ⟨cc, _, rfl⟩ := ints_get hx
    have hmx : (0 : Int) < (if (us.length : Int) > 1 then (us.length : Int) else 1) := by split <;> omega
    refine ⟨_, rfl, _, _, rfl, rfl, (show (0 : Int) < _ by decide), _, _, rfl, rfl, .inr ⟨by decide, by decide⟩, _, _, rfl, rfl, (show (0 : Int) < _ by decide), _, rfl, nw, us, rfl, .inl (SqL.of en), _, _, rfl, _, _, rfl, rfl, hmx, ?_⟩
    obtain ⟨k0, hk⟩ := Int.eq_ofNat_of_zero_le (Int.emod_nonneg (cc % 2147483647 * 48271 % 2147483629) (Int.ne_of_gt hmx))
    have hb4 : (0 : Int) ≤ cc % 2147483629 % 4 ∧ cc % 2147483629 % 4 < 4 := ⟨Int.emod_nonneg _ (by decide), Int.emod_lt_of_pos _ (by decide)⟩
    refine ⟨_, rfl, _, _, rfl, rfl, (show (0 : Int) < _ by decide), _, _, rfl, rfl, (show (0 : Int) < 4 by decide), cc % 2147483629 % 4, rfl, by omega, by omega, ?_⟩
    refine for_range (n := (cc % 2147483629 % 4).toNat) (fun j σ H'' => ∃ (nw : Addr) (us : List V) (es : List D3) (k : Nat) (z5 : Option V), σ = [some (.ref a), some (.ref c), some (.ref nw), some (.int cc), some (.int (k : Int)), z5] ∧ Same H H'' ∧ H nw = none ∧ H'' nw = some (.lst us) ∧ Paired (T3 H'') us es ∧ (∀ e ∈ es, e ∈ ds) ∧ es.length = ds.length)
      ⟨nw, us, es, k0, z5, by rw [← hk]; rfl, S, n0, en, pn, sb, el⟩ ?_ ?_
    · clear S n0 en pn sb el
      rintro j σ H2 hj ⟨nw, us, es, k, z5, rfl, S, n0, en, pn, sb, el⟩
      have hlu := Paired.length pn
      have ex : ∃ (nw' : Addr) (us' : List V) (es' : List D3) (k' : Nat) (z5' : Option V), [some (.ref a), some (.ref c), some (.ref nw), some (.int cc), some (.int (k : Int)), some (.int (0 + (j : Int)))] = [some (.ref a), some (.ref c), some (.ref nw'), some (.int cc), some (.int (k' : Int)), z5'] ∧ Same H H2 ∧ H nw' = none ∧ H2 nw' = some (.lst us') ∧ Paired (T3 H2) us' es' ∧ (∀ e ∈ es', e ∈ ds) ∧ es'.length = ds.length := ⟨nw, us, es, k, _, rfl, S, n0, en, pn, sb, el⟩
      refine ⟨_, rfl, _, _, rfl, rfl, _, rfl, nw, us, rfl, .inl (SqL.of en), _, _, rfl, rfl, _, rfl, iteD (fun c2 => ?_) (fun c2 => iteF ex)⟩
      have hlt : k + 1 < es.length := by omega
      have gb : es[k]? = some es[k] := List.getElem?_eq_getElem (by omega)
      have ga : es[k + 1]? = some es[k + 1] := List.getElem?_eq_getElem hlt
      obtain ⟨vb, gvb, tb⟩ := Paired.getR pn gb
      obtain ⟨va, gva, ta⟩ := Paired.getR pn ga
      have a1 : atI us ((k : Int) + 1) = some va := by rw [show ((k : Int) + 1) = ((k + 1 : Nat) : Int) by omega]; exact atI_nat gva
      refine ⟨_, rfl, _, rfl, _, _, _, _, rfl, rfl, SqL.of en, atI_nat gvb, _, rfl, _, rfl, _, _, rfl, rfl, _, _, _, _, rfl, rfl, SqL.of en, a1, _, _, es[k], es[k + 1], rfl, tb, ta, _, rfl, iteB (fun _ => ex) (fun c3 => ?_)⟩
      refine ⟨_, rfl, _, rfl, (k : Int), rfl, nw, us, rfl, SqL.of en, fun p1 hp1 => ?_⟩
      refine ⟨_, rfl, _, rfl, _, _, rfl, rfl, _, _, _, _, rfl, rfl, SqL.of (new_at hp1 en), a1, _, rfl, _, rfl, _, _, _, _, rfl, rfl, SqL.of (new_at hp1 en), atI_nat gvb, sm rfl, fun p2 hp2 => ?_⟩
      have ec : cutV us none (some (k : Int)) ++ [va, vb] ++ cutV us (some ((k : Int) + 2)) none = swp us k va vb := by
        rw [cut_to (by omega), cut_from (by omega) (by omega), Int.toNat_natCast, show ((k : Int) + 2).toNat = k + 2 by omega]; rfl
      refine ⟨p1, p2, _, _, rfl, rfl, new_at hp2 upd_same, upd_same, ?_, fun p3 hp3 => ?_⟩
      · have := cutV_length us none (some (k : Int))
        exact Nat.le_of_lt (small1000 (by show _ + 2 ≤ 1000; omega))
      refine ⟨_, rfl, _, rfl, _, _, rfl, rfl, ((k : Int) + 2), rfl, nw, us, rfl, SqL.of (new_at hp3 (new_at hp2 (new_at hp1 en))), fun p4 hp4 => ?_⟩
      refine ⟨p3, p4, _, _, rfl, rfl, new_at hp4 upd_same, upd_same, ?_, fun p5 hp5 => ?_⟩
      · rw [← List.length_append, ec, swp_length (by omega)]
        exact Nat.le_of_lt (small1000 (by omega))
      rw [ec]
      have S4 := ((((same_new hp1 (.lst (cutV us none (some (k : Int))))).new hp2 (.lst [va, vb])).new hp3 (.lst (cutV us none (some (k : Int)) ++ [va, vb]))).new hp4 (.lst (cutV us (some ((k : Int) + 2)) none)))
      have S5 := S4.new hp5 (.lst (swp us k va vb))
      refine ⟨_, rfl, _, _, rfl, rfl, p5, swp us k va vb, swp es k es[k + 1] es[k], k + 1, _, rfl, S.trans S5, (S.trans S4).free hp5, upd_same, ?_, ?_, ?_⟩
      · exact stab_T3.list S5 (Paired.app (Paired.app (Paired.tk k pn) (.cons ta (.cons tb .nil))) (Paired.dp (k + 2) pn))
      · exact fun e he => sb e (swp_mem (List.getElem_mem _) (List.getElem_mem _) e he)
      · rw [swp_length hlt]; exact el
    · rintro σ H2 ⟨nw, us, es, k, z5, rfl, S, n0, en, pn, sb, el⟩
      exact ⟨nw, us, es, _, _, _, rfl, S, n0, en, pn, sb, el⟩
  · rintro σ H' ⟨nw, us, es, z3, z4, z5, rfl, S, n0, en, pn, sb, el⟩
    exact ⟨_, rfl, q nw es H' S n0 ⟨us, en, pn⟩ sb el⟩
theorem ok_exch (F : Fun K "_law_exchanged" "_law_exchanged" s_exch f fd) : FnOk P w K mg base CX0 1 f fd ["_law_row", "_law_which", "_law_new"] spExch := by
  have sc := sc_exch
  refine F.ok sc (fun vs H Q E h => ?_) (fun cdv A outer s H vs Q E hr h => ?_)
  · obtain ⟨x, y, k, d, e, rfl, _⟩ := h
    rfl
  obtain ⟨x, y, k, d, e, rfl, ⟨a, rfl, ha⟩, ⟨b, rfl, hb⟩, od, oe, q⟩ := h
  refine ⟨_, (pss_cons (ps_if (pt_cmpR op_eq (pv 1) pe_int (nomark _)) (pss_one (ps_ret (pe_tup (pa_cons (pe_ix (ixT K) (pv 2) pe_int (fun _ _ => rfl)) (pa_cons (pe_ix (ixT K) (pv 0) pe_int (fun _ _ => rfl)) (pa_cons (pe_ix (ixT K) (pv 0) pe_int (fun _ _ => rfl)) pa_nil)))))) pss_nil)
    (pss_cons (ps_if (pt_cmpR op_eq (pv 1) pe_int (nomark _)) (pss_one (ps_ret (pe_tup (pa_cons (pe_ix (ixT K) (pv 0) pe_int (fun _ _ => rfl)) (pa_cons (pe_ix (ixT K) (pv 2) pe_int (fun _ _ => rfl)) (pa_cons (pe_ix (ixT K) (pv 0) pe_int (fun _ _ => rfl)) pa_nil)))))) pss_nil)
    (pss_one (ps_ret (pe_tup (pa_cons (pe_ix (ixT K) (pv 0) pe_int (fun _ _ => rfl)) (pa_cons (pe_ix (ixT K) (pv 0) pe_int (fun _ _ => rfl)) (pa_cons (pe_ix (ixT K) (pv 2) pe_int (fun _ _ => rfl)) pa_nil)))))))), ?_⟩
  refine ⟨_, rfl, rfl, _, rfl, iteI (fun _ => ?_) (fun _ => ?_)⟩
  · exact ⟨_, rfl, _, _, _, _, rfl, rfl, SqT.of hb, at_l0, _, rfl, _, _, _, _, rfl, rfl, SqT.of ha, at_l1, _, rfl, _, _, _, _, rfl, rfl, SqT.of ha, at_l2, sm rfl, fun t ht => q _ (e.1, d.2.1, d.2.2) _ (same_new ht _) ⟨t, rfl, upd_same⟩ ⟨od.1, od.2⟩⟩
  refine ⟨_, rfl, rfl, _, rfl, iteI (fun _ => ?_) (fun _ => ?_)⟩
  · exact ⟨_, rfl, _, _, _, _, rfl, rfl, SqT.of ha, at_l0, _, rfl, _, _, _, _, rfl, rfl, SqT.of hb, at_l1, _, rfl, _, _, _, _, rfl, rfl, SqT.of ha, at_l2, sm rfl, fun t ht => q _ (d.1, e.2.1, d.2.2) _ (same_new ht _) ⟨t, rfl, upd_same⟩ ⟨oe.1, od.2⟩⟩
  · exact ⟨_, rfl, _, _, _, _, rfl, rfl, SqT.of ha, at_l0, _, rfl, _, _, _, _, rfl, rfl, SqT.of ha, at_l1, _, rfl, _, _, _, _, rfl, rfl, SqT.of hb, at_l2, sm rfl, fun t ht => q _ (d.1, d.2.1, e.2.2) _ (same_new ht _) ⟨t, rfl, upd_same⟩ ⟨od.1, oe.2⟩⟩
seal PySem.eval PySem.spliced in
theorem ok_changed (F : Fun K "_law_changed" "_law_changed" s_changed f fd) (D__law_deed : Df P w K mg base "_law_deed" 2 ["_law_cell", "_law_lift"] spDeedW) (D__law_exchanged : Df P w K mg base "_law_exchanged" 1 ["_law_row", "_law_which", "_law_new"] spExch) (m_list : mg "list" = none) (m_reversed : mg "reversed" = none) (m_len : mg "len" = none) :
    FnOk P w K mg base CX0 3 f fd ["_law_rows", "_law_kind", "_law_cell", "_law_lift"] spChanged := by
  have sc := sc_changed
  refine F.ok sc (fun vs H Q E h => ?_) (fun cdv A outer s H vs Q E hr h => ?_)
  · obtain ⟨a, kk, cell, l, ds, rfl, _⟩ := h
    rfl
  obtain ⟨a, kk, cell, l, ds, rfl, ⟨vs, ha, pr⟩, okd, hz, hl1, hl2, q⟩ := h
  refine ⟨_, (pss_cons (ps_set (i := 4) sc.nd rfl (Or.inl rfl) (pe_op op_mod (pe_op op_mod (pv 2) pe_int) (pe_op op_add (pe_callB (lenQ K) rfl m_len bt_len (pa_cons (pv 0) pa_nil)) pe_int)))
    (pss_cons (ps_set (i := 5) sc.nd rfl (Or.inr rfl) (pe_callD D__law_deed (hr.mono (by decide)) rfl (pa_cons (pe_op op_fdiv (pv 2) pe_int) (pa_cons (pv 3) pa_nil))))
    (pss_cons (ps_if (pt_cmpR op_eq (pv 1) pe_int (nomark _)) (pss_one (ps_ret (pe_op op_cat (pe_op op_cat (pe_slice (slL K) (pv 0) po_none (po_some (pv 4))) (pe_listrev K rfl (pe_slice (slL K) (pv 0) (po_some (pv 4)) (po_some (pe_op op_add (pv 4) pe_int))) rfl m_list rfl m_reversed)) (pe_slice (slL K) (pv 0) (po_some (pe_op op_add (pv 4) pe_int)) po_none)))) pss_nil)
    (pss_cons (ps_if (pt_cmpR op_eq (pv 1) pe_int (nomark _)) (pss_one (ps_ret (pe_op op_cat (pe_op op_cat (pe_slice (slL K) (pv 0) po_none (po_some (pv 4))) (pe_comp ["_law_row"] [5, 2] rfl (comp_scope sc) (piL K (pe_slice (slL K) (pv 0) (po_some (pv 4)) (po_some (pe_op op_add (pv 4) pe_int)))) (fun _ _ _ _ _ => ⟨(pg_name (i := 0) (nd_c sc (by decide +kernel)) rfl (Or.inl rfl)), pts_nil, (pe_callD D__law_exchanged (hr.mono (by decide)) rfl (pa_cons (pv 0) (pa_cons (pe_op op_mod (pe_op op_fdiv (pv 2) pe_int) pe_int) (pa_cons (pv 1) pa_nil))))⟩))) (pe_slice (slL K) (pv 0) (po_some (pe_op op_add (pv 4) pe_int)) po_none)))) pss_nil)
    (pss_cons (ps_if (pt_cmpR op_eq (pv 1) pe_int (nomark _)) (pss_one (ps_ret (pe_op op_cat (pe_slice (slL K) (pv 0) po_none (po_some (pv 4))) (pe_slice (slL K) (pv 0) (po_some (pe_op op_add (pv 4) pe_int)) po_none)))) pss_nil)
    (pss_cons (ps_if (pt_cmpR op_eq (pv 1) pe_int (nomark _)) (pss_one (ps_ret (pe_op op_cat (pe_op op_cat (pe_slice (slL K) (pv 0) po_none (po_some (pv 4))) (pe_lst (pa_cons (pv 5) pa_nil))) (pe_slice (slL K) (pv 0) (po_some (pv 4)) po_none)))) pss_nil)
    (pss_cons (ps_if (pt_cmpR op_eq (pv 1) pe_int (nomark _)) (pss_one (ps_ret (pe_listrev K rfl (pv 0) rfl m_list rfl m_reversed))) pss_nil)
    (pss_cons (ps_if (pt_cmpR op_eq (pv 1) pe_int (nomark _)) (pss_one (ps_ret (pe_op op_cat (pe_slice (slL K) (pv 0) (po_some (pv 4)) po_none) (pe_slice (slL K) (pv 0) po_none (po_some (pv 4)))))) pss_nil)
    (pss_cons (ps_if (pt_cmpR op_eq (pv 1) pe_int (nomark _)) (pss_one (ps_ret (pe_slice (slL K) (pv 0) po_none (po_some (pv 4))))) pss_nil)
    (pss_cons (ps_if (pt_cmpR op_eq (pv 1) pe_int (nomark _)) (pss_one (ps_ret (pe_op op_cat (pv 0) (pe_slice (slL K) (pv 0) po_none (po_some (pe_op op_mod (pv 4) pe_int)))))) pss_nil)
    (pss_one (ps_ret (pv 0))))))))))))), ?_⟩
  have hl0 := Paired.length pr
  have hmp : (0 : Int) < (vs.length : Int) + 1 := by omega
  obtain ⟨m, hm⟩ : ∃ m : Int, m = cell % 61 % ((vs.length : Int) + 1) := ⟨_, rfl⟩
  have m0 : 0 ≤ m := by rw [hm]; exact Int.emod_nonneg _ (by omega)
  have m1 : m ≤ vs.length := by
    have := Int.emod_lt_of_pos (cell % 61) hmp
    omega
  refine ⟨_, rfl, _, _, rfl, rfl, (show (0 : Int) < 61 by decide), _, rfl, a, vs, rfl, .inl (SqL.of ha), _, _, rfl, rfl, _, _, rfl, rfl, hmp, ?_⟩
  refine ⟨_, rfl, _, _, rfl, rfl, ⟨by decide, by decide⟩, _, rfl, _, l, rfl, hl1, hl2, fun x e H1 S1 te oke => ?_⟩
  have h1 := S1 _ _ ha
  have pr1 := stab_T3.list S1 pr
  have fin : ∀ r zs e' H', Same H1 H' → okD e' → H' r = some (.lst zs) → (∀ z ∈ zs, z ∈ vs ∨ T3 H' z e') → zs.length ≤ 89 → Q (.ref r) H' := by
    intro r zs e' H' S oe hr hs hlen
    obtain ⟨es, p, hsub⟩ := sub_paired (stab_T3.list S pr1) e' hs
    exact q r es e' H' (S1.trans S) ⟨zs, hr, p⟩ hsub oe (by rw [← Paired.length p]; exact hlen)
  have fin0 : ∀ r zs H', Same H1 H' → H' r = some (.lst zs) → (∀ z ∈ zs, z ∈ vs) → zs.length ≤ 89 → Q (.ref r) H' := fun r zs H' S hr hs => fin r zs e H' S oke hr fun z hz => .inl (hs z hz)
  have c1 := cl_to (xs := vs) m0
  have c2 := cl_from (xs := vs) m0
  have c3 := cl_from (xs := vs) (m := m + 1) (by omega)
  have c4 := cl_from (xs := vs) (m := m + 2) (by omega)
  have c5 := cl_mid (xs := vs) (m := m) (n := m + 1) m0 (by omega)
  have c6 := cl_mid (xs := vs) (m := m) (n := m + 2) m0 (by omega)
  have q0 : (0 : Int) ≤ m % 30 ∧ m % 30 < 30 := ⟨Int.emod_nonneg _ (by decide), Int.emod_lt_of_pos _ (by decide)⟩
  have c7 := cl_to (xs := vs) q0.1
  rw [hm] at c1 c2 c3 c4 c5 c6 c7 q0 m0 m1
  refine ⟨_, rfl, rfl, _, rfl, iteI (fun _ => ?_) (fun _ => ?_)⟩
  · refine ⟨_, rfl, _, rfl, _, rfl, a, vs, rfl, SqL.of h1, fun p1 hp1 => ?_⟩
    refine ⟨_, rfl, _, rfl, _, rfl, _, rfl, _, _, rfl, rfl, _, rfl, a, vs, rfl, SqL.of (new_at hp1 h1), fun p2 hp2 => ?_⟩
    refine ⟨p2, _, rfl, SqL.of upd_same, fun p3 hp3 => ?_⟩
    refine ⟨p1, p3, _, _, rfl, rfl, new_at hp3 (new_at hp2 upd_same), upd_same, (Nat.le_of_lt (small1000 (by (try simp only [List.length_append, List.length_reverse, List.length_cons, List.length_nil]); omega))), fun p4 hp4 => ?_⟩
    refine ⟨_, rfl, _, rfl, _, _, rfl, rfl, _, rfl, a, vs, rfl, SqL.of (new_at hp4 (new_at hp3 (new_at hp2 (new_at hp1 h1)))), fun p5 hp5 => ?_⟩
    refine ⟨p4, p5, _, _, rfl, rfl, new_at hp5 upd_same, upd_same, (Nat.le_of_lt (small1000 (by (try simp only [List.length_append, List.length_reverse, List.length_cons, List.length_nil]); omega))), fun p6 hp6 => ?_⟩
    exact fin0 p6 _ _ ((((((same_new hp1 _).new hp2 _).new hp3 _).new hp4 _).new hp5 _).new hp6 _) upd_same (fun z hz => by simp only [List.mem_append, List.mem_reverse] at hz; rcases hz with (hz | hz) | hz <;> exact cut_mem hz) (by simp only [List.length_append, List.length_reverse]; omega)
  refine ⟨_, rfl, rfl, _, rfl, iteI (fun _ => ?_) (fun _ => ?_)⟩
  · refine ⟨_, rfl, _, rfl, _, rfl, a, vs, rfl, SqL.of h1, fun p1 hp1 => ?_⟩
    refine ⟨_, rfl, _, rfl, _, rfl, _, rfl, _, _, rfl, rfl, _, rfl, a, vs, rfl, SqL.of (new_at hp1 h1), fun p2 hp2 => ?_⟩
    have Sb := (same_new hp1 (.lst (cutV vs none (some (cell % 61 % ((vs.length : Int) + 1)))))).new hp2 (.lst (cutV vs (some (cell % 61 % ((vs.length : Int) + 1))) (some (cell % 61 % ((vs.length : Int) + 1) + 1))))
    refine ⟨p2, rfl, ⟨_, SqL.of upd_same⟩, comp_list (xs := cutV vs (some (cell % 61 % ((vs.length : Int) + 1))) (some (cell % 61 % ((vs.length : Int) + 1) + 1))) (fun D i ys H' => Same H1 H' ∧ H' p1 = some (.lst (cutV vs none (some (cell % 61 % ((vs.length : Int) + 1))))) ∧ H' p2 = some (.lst (cutV vs (some (cell % 61 % ((vs.length : Int) + 1))) (some (cell % 61 % ((vs.length : Int) + 1) + 1)))) ∧ H' D = some (.lst ys) ∧ ys.length = i ∧ ∀ z ∈ ys, ∃ g, T3 H' z g ∧ okD g) (small1000 (by omega))
      (fun D hD => ⟨Sb.new hD _, new_at hD (new_at hp2 upd_same), new_at hD upd_same, upd_same, rfl, fun _ z => nomatch z⟩) ?_ ?_ ?_⟩
    · rintro D i ys H' hD hi ⟨S, _, e2, hl, hle, _⟩
      exact ⟨SqL.of e2, hl, by omega⟩
    · rintro D i z ys H' hD hx ⟨S, e1, e2, hl, hle, hall⟩
      have hD1 : H1 D = none := Sb.free hD
      obtain ⟨k, hk⟩ := List.getElem?_of_mem (cut_mem (List.mem_of_getElem? hx))
      obtain ⟨d, gd, td⟩ := Paired.getL pr1 hk
      refine ⟨rfl, _, rfl, _, rfl, _, _, rfl, rfl, ⟨by decide, by decide⟩, _, _, rfl, rfl, (show (0 : Int) < 3 by decide), _, rfl, z, x, _, d, e, rfl, td.same S, te.same S, okd d (List.mem_of_getElem? gd), oke, fun z' g H2 S2 tz og => ?_⟩
      have nD1 : p1 ≠ D := fun q1 => by rw [← q1, upd_ne (ne_of_none upd_same hp2), upd_same] at hD; cases hD
      have nD2 : p2 ≠ D := fun q1 => by rw [← q1, upd_same] at hD; cases hD
      refine ⟨S2 _ _ hl, (S.trans S2).wr hD1 _, ?_, ?_, upd_same, ?_, ?_⟩
      · rw [upd_ne nD1]; exact S2 _ _ e1
      · rw [upd_ne nD2]; exact S2 _ _ e2
      · rw [List.length_append, hle]; rfl
      · intro y hy
        rcases List.mem_append.mp hy with hy | hy
        · obtain ⟨g', t', o'⟩ := hall y hy
          exact ⟨g', (t'.same S2).wr (S2 _ _ hl), o'⟩
        · rw [List.mem_singleton.mp hy]
          exact ⟨g, tz.wr (S2 _ _ hl), og⟩
    · rintro D ys H2 hD ⟨S, e1, e2, hl, hle, hall⟩
      have hle' : ys.length ≤ 1 := by omega
      refine ⟨p1, D, _, _, rfl, rfl, e1, hl, (Nat.le_of_lt (small1000 (by (try simp only [List.length_append, List.length_reverse, List.length_cons, List.length_nil]); omega))), fun p4 hp4 => ?_⟩
      refine ⟨_, rfl, _, rfl, _, _, rfl, rfl, _, rfl, a, vs, rfl, SqL.of (new_at hp4 (S _ _ h1)), fun p5 hp5 => ?_⟩
      refine ⟨p4, p5, _, _, rfl, rfl, new_at hp5 upd_same, upd_same, (Nat.le_of_lt (small1000 (by (try simp only [List.length_append, List.length_reverse, List.length_cons, List.length_nil]); omega))), fun p6 hp6 => ?_⟩
      obtain ⟨g, og, hg⟩ : ∃ g, okD g ∧ ∀ z ∈ ys, T3 H2 z g := by
        match ys, hle', hall with
        | [], _, _ => exact ⟨e, oke, fun _ z => nomatch z⟩
        | [z], _, hall =>
          obtain ⟨g, t, o⟩ := hall z List.mem_cons_self
          exact ⟨g, o, fun y hy => by rw [List.mem_singleton.mp hy]; exact t⟩
      have Sf := ((same_new hp4 (.lst (cutV vs none (some (cell % 61 % ((vs.length : Int) + 1))) ++ ys))).new hp5 (.lst (cutV vs (some (cell % 61 % ((vs.length : Int) + 1) + 1)) none))).new hp6 (.lst (cutV vs none (some (cell % 61 % ((vs.length : Int) + 1))) ++ ys ++ cutV vs (some (cell % 61 % ((vs.length : Int) + 1) + 1)) none))
      refine fin p6 _ g _ (S.trans Sf) og upd_same (fun z hz => ?_) (by simp only [List.length_append, List.length_reverse]; omega)
      simp only [List.mem_append] at hz
      rcases hz with (hz | hz) | hz
      · exact .inl (cut_mem hz)
      · exact .inr ((hg z hz).same Sf)
      · exact .inl (cut_mem hz)
  refine ⟨_, rfl, rfl, _, rfl, iteI (fun _ => ?_) (fun _ => ?_)⟩
  · refine ⟨_, rfl, _, rfl, _, rfl, a, vs, rfl, SqL.of h1, fun p1 hp1 => ?_⟩
    refine ⟨_, rfl, _, rfl, _, _, rfl, rfl, _, rfl, a, vs, rfl, SqL.of (new_at hp1 h1), fun p2 hp2 => ?_⟩
    refine ⟨p1, p2, _, _, rfl, rfl, new_at hp2 upd_same, upd_same, (Nat.le_of_lt (small1000 (by (try simp only [List.length_append, List.length_reverse, List.length_cons, List.length_nil]); omega))), fun p3 hp3 => ?_⟩
    exact fin0 p3 _ _ (((same_new hp1 _).new hp2 _).new hp3 _) upd_same (fun z hz => by simp only [List.mem_append] at hz; rcases hz with hz | hz <;> exact cut_mem hz) (by simp only [List.length_append, List.length_reverse]; omega)
  refine ⟨_, rfl, rfl, _, rfl, iteI (fun _ => ?_) (fun _ => ?_)⟩
  · refine ⟨_, rfl, _, rfl, _, rfl, a, vs, rfl, SqL.of h1, fun p1 hp1 => ?_⟩
    refine ⟨_, rfl, sm rfl, fun p2 hp2 => ?_⟩
    refine ⟨p1, p2, _, _, rfl, rfl, new_at hp2 upd_same, upd_same, (Nat.le_of_lt (small1000 (by (try simp only [List.length_append, List.length_reverse, List.length_cons, List.length_nil]); omega))), fun p3 hp3 => ?_⟩
    refine ⟨_, rfl, _, rfl, _, rfl, a, vs, rfl, SqL.of (new_at hp3 (new_at hp2 (new_at hp1 h1))), fun p4 hp4 => ?_⟩
    refine ⟨p3, p4, _, _, rfl, rfl, new_at hp4 upd_same, upd_same, (Nat.le_of_lt (small1000 (by (try simp only [List.length_append, List.length_reverse, List.length_cons, List.length_nil]); omega))), fun p5 hp5 => ?_⟩
    have Sf := ((((same_new hp1 (.lst (cutV vs none (some (cell % 61 % ((vs.length : Int) + 1)))))).new hp2 (.lst [x])).new hp3 (.lst (cutV vs none (some (cell % 61 % ((vs.length : Int) + 1))) ++ [x]))).new hp4 (.lst (cutV vs (some (cell % 61 % ((vs.length : Int) + 1))) none))).new hp5 (.lst (cutV vs none (some (cell % 61 % ((vs.length : Int) + 1))) ++ [x] ++ cutV vs (some (cell % 61 % ((vs.length : Int) + 1))) none))
    refine fin p5 _ e _ Sf oke upd_same (fun z hz => ?_) (by simp only [List.length_append, List.length_cons, List.length_nil]; omega)
    simp only [List.mem_append, List.mem_singleton] at hz
    rcases hz with (hz | hz) | hz
    · exact .inl (cut_mem hz)
    · rw [hz]; exact .inr (te.same Sf)
    · exact .inl (cut_mem hz)
  refine ⟨_, rfl, rfl, _, rfl, iteI (fun _ => ?_) (fun _ => ?_)⟩
  · refine ⟨_, rfl, a, vs, rfl, SqL.of h1, fun p1 hp1 => ?_⟩
    exact fin0 p1 _ _ (same_new hp1 _) upd_same (fun z hz => List.mem_reverse.mp hz) (by rw [List.length_reverse]; omega)
  refine ⟨_, rfl, rfl, _, rfl, iteI (fun _ => ?_) (fun _ => ?_)⟩
  · refine ⟨_, rfl, _, rfl, _, rfl, a, vs, rfl, SqL.of h1, fun p1 hp1 => ?_⟩
    refine ⟨_, rfl, _, rfl, _, rfl, a, vs, rfl, SqL.of (new_at hp1 h1), fun p2 hp2 => ?_⟩
    refine ⟨p1, p2, _, _, rfl, rfl, new_at hp2 upd_same, upd_same, (Nat.le_of_lt (small1000 (by (try simp only [List.length_append, List.length_reverse, List.length_cons, List.length_nil]); omega))), fun p3 hp3 => ?_⟩
    exact fin0 p3 _ _ (((same_new hp1 _).new hp2 _).new hp3 _) upd_same (fun z hz => by simp only [List.mem_append] at hz; rcases hz with hz | hz <;> exact cut_mem hz) (by simp only [List.length_append, List.length_reverse]; omega)
  refine ⟨_, rfl, rfl, _, rfl, iteI (fun _ => ?_) (fun _ => ?_)⟩
  · refine ⟨_, rfl, _, rfl, _, rfl, a, vs, rfl, SqL.of h1, fun p1 hp1 => ?_⟩
    exact fin0 p1 _ _ (same_new hp1 _) upd_same (fun z hz => cut_mem hz) (by omega)
  refine ⟨_, rfl, rfl, _, rfl, iteI (fun _ => ?_) (fun _ => ?_)⟩
  · refine ⟨_, rfl, _, rfl, _, rfl, _, _, rfl, rfl, (show (0 : Int) < 30 by decide), _, rfl, a, vs, rfl, SqL.of h1, fun p1 hp1 => ?_⟩
    refine ⟨a, p1, _, _, rfl, rfl, new_at hp1 h1, upd_same, (Nat.le_of_lt (small1000 (by (try simp only [List.length_append, List.length_reverse, List.length_cons, List.length_nil]); omega))), fun p2 hp2 => ?_⟩
    exact fin0 p2 _ _ ((same_new hp1 _).new hp2 _) upd_same (fun z hz => by rcases List.mem_append.mp hz with hz | hz; exact hz; exact cut_mem hz) (by simp only [List.length_append, List.length_reverse]; omega)
  exact ⟨_, rfl, fin0 a vs _ (Same.refl _) h1 (fun z hz => hz) (by omega)⟩
end
end K08


namespace K08
open PySem L2
abbrev s_counts : Stmt := top 20
abbrev s_mates : Stmt := top 21
theorem sc_counts : FnScope ["_law_rows", "_law_found", "_law_row"] ["_law_rows"] (defScope s_counts) := ⟨rfl, rfl, rfl, by decide +kernel, rfl, by decide +kernel, by decide +kernel⟩
theorem sc_mates : FnScope ["_law_one", "_law_other", "_law_spots", "_law_k", "_law_ahead", "_law_found", "_law_row"] ["_law_one", "_law_other"] (defScope s_mates) := ⟨rfl, rfl, rfl, by decide +kernel, rfl, by decide +kernel, by decide +kernel⟩
section
variable {P : Program} {w : World} {K : PySem.W.Frag} {mg : Str → Option Value} {base : Heap} {f : Addr} {fd : FuncData}
seal PySem.eval PySem.spliced in
theorem ok_counts (F : Fun K "_law_counts" "_law_counts" s_counts f fd) : FnOk P w K mg base CX0 1 f fd ["_law_rows"] spCounts := by
  have sc := sc_counts
  refine F.ok sc (fun vs H Q E h => ?_) (fun cdv A outer s H vs Q E hr h => ?_)
  · obtain ⟨a, xs, rfl, _⟩ := h
    rfl
  obtain ⟨a, xs, rfl, ⟨us, ha, pu⟩, hx1, q⟩ := h
  refine ⟨_, (pss_cons (ps_set (i := 1) sc.nd rfl (Or.inl rfl) pe_dnewT)
    (pss_cons (ps_for PassesOwn.never rfl (piL K (pv 0)) (pg_name (i := 2) sc.nd rfl (Or.inl rfl)) (pss_one (ps_asg (pe_op op_add (pe_bmK K PySem.F.plainAttrs_dict PySem.F.slot_dict_get PySem.F.type_dict_get (getD2 hr.units) (pv 1) (pa_cons (pv 2) (pa_cons pe_int pa_nil))) pe_int) (pg_sub (pv 1) (pv 2) (setD hr.units)))))
    (pss_one (ps_ret (pv 1))))), ?_⟩
  have hl1 := Paired.length pu
  intro r hr0
  have S1 := same_new hr0 (.dT [])
  refine ⟨_, rfl, a, rfl, ⟨_, SqL.of (S1 _ _ ha)⟩, for_list (xs := us) (fun i σ H' => ∃ z, σ = [some (.ref a), some (.ref r), z] ∧ Same H H' ∧ Ahead H' r (xs.take i)) ⟨none, rfl, S1, Ahead.nil upd_same⟩ ?_ ?_ ?_⟩
  · rintro i σ H' _ ⟨z, rfl, S, _⟩
    exact SqL.of (S _ _ ha)
  · rintro i x σ H' hx ⟨z, rfl, S, AH⟩
    obtain ⟨d, gd, td⟩ := Paired.getL pu hx
    have hi : i < xs.length := (List.getElem?_eq_some_iff.mp gd).1
    have et : xs.take (i + 1) = xs.take i ++ [d] := by rw [List.take_add_one, gd]; rfl
    obtain ⟨kA, hkA, hzA, hvA⟩ := id AH
    have hzA' : kA.length ≤ 100 := by rw [List.length_take] at hzA; omega
    have td' := td.same S
    refine ⟨_, rfl, tyD hkA, _, rfl, r, kA, d, x, .int 0, rfl, rfl, hkA, td', ?_⟩
    rw [(hvA d).1]
    refine ⟨_, _, rfl, rfl, _, rfl, _, rfl, r, kA, d, rfl, hkA, td', small1000 (by omega), ?_⟩
    exact ⟨_, rfl, S.wr hr0 _, by rw [et]; exact Ahead.more hkA hzA hvA⟩
  · rintro σ H' ⟨z, rfl, S, AH⟩
    rw [hl1, List.take_length] at AH
    exact ⟨_, rfl, q r H' S hr0 AH⟩
seal PySem.eval PySem.spliced in
theorem ok_mates (F : Fun K "_law_mates" "_law_mates" s_mates f fd) (m_range : mg "range" = none) (m_len : mg "len" = none) : FnOk P w K mg base CX0 1 f fd ["_law_one", "_law_other"] spPartners := by
  have sc := sc_mates
  refine F.ok sc (fun vs H Q E h => ?_) (fun cdv A outer s H vs Q E hr h => ?_)
  · obtain ⟨a, b, xs, ys, rfl, _⟩ := h
    rfl
  obtain ⟨a, b, xs, ys, rfl, ⟨us, ha, pu⟩, ⟨vs, hb, pr⟩, hx1, hy1, hev, qs⟩ := h
  refine ⟨_, (pss_cons (ps_set (i := 2) sc.nd rfl (Or.inl rfl) pe_dnewT)
    (pss_cons (ps_for PassesOwn.never rfl (pi_range1 rfl m_range (pa_cons (pe_callB (lenQ K) rfl m_len bt_len (pa_cons (pv 1) pa_nil)) pa_nil)) (pg_name (i := 3) sc.nd rfl (Or.inl rfl)) (pss_one (ps_expr (pe_bmK K PySem.F.plainAttrs_list PySem.F.slot_list_append PySem.F.type_list_append mt_append (pe_bmK K PySem.F.plainAttrs_dict PySem.F.slot_dict_setdefault PySem.F.type_dict_setdefault (setDef hr.units) (pv 2) (pa_cons (pe_ix (ixL K) (pv 1) (pv 3) (fun _ _ => rfl)) (pa_cons (pe_lst pa_nil) pa_nil))) (pa_cons (pv 3) pa_nil)))))
    (pss_cons (ps_set (i := 4) sc.nd rfl (Or.inl rfl) pe_dnewT)
    (pss_cons (ps_set (i := 5) sc.nd rfl (Or.inl rfl) (pe_lst pa_nil))
    (pss_cons (ps_for PassesOwn.never rfl (piL K (pv 0)) (pg_name (i := 6) sc.nd rfl (Or.inl rfl)) (pss_cons (ps_asg (pe_op op_add (pe_bmK K PySem.F.plainAttrs_dict PySem.F.slot_dict_get PySem.F.type_dict_get (getD2 hr.units) (pv 4) (pa_cons (pv 6) (pa_cons pe_int pa_nil))) pe_int) (pg_sub (pv 4) (pv 6) (setD hr.units)))
    (pss_one (ps_expr (pe_bmK K PySem.F.plainAttrs_list PySem.F.slot_list_append PySem.F.type_list_append mt_append (pv 5) (pa_cons (pe_ix (ixL K) (pe_ix (ixD hr.units) (pv 2) (pv 6) (fun _ _ => rfl)) (pe_op op_sub (pe_ix (ixD hr.units) (pv 4) (pv 6) (fun _ _ => rfl)) pe_int) (fun _ _ => rfl)) pa_nil))))))
    (pss_one (ps_ret (pv 5)))))))), ?_⟩
  have hl0 := Paired.length pr
  have hl1 := Paired.length pu
  intro sp hsp
  have S1 := same_new hsp (.dT [])
  refine ⟨_, rfl, b, vs, rfl, .inl (SqL.of (S1 _ _ hb)), _, rfl, by omega, by omega, ?_⟩
  rw [Int.toNat_natCast]
  refine for_range (n := vs.length) (fun i σ H' => ∃ z, σ = [some (.ref a), some (.ref b), some (.ref sp), z, none, none, none] ∧ Same H H' ∧ Spots H H' sp (ys.take i)) ⟨none, rfl, S1, Spots.nil upd_same⟩ ?_ ?_
  · rintro i σ H' hi ⟨z, rfl, S, SP⟩
    have gx : vs[i]? = some (vs[i]'hi) := List.getElem?_eq_getElem hi
    obtain ⟨d, gd, td⟩ := Paired.getL pr gx
    have hi' : i < ys.length := by omega
    have et : ys.take (i + 1) = ys.take i ++ [d] := by rw [List.take_add_one, gd]; rfl
    have hlt : (ys.take i).length = i := by rw [List.length_take]; omega
    obtain ⟨kvs, hk, hkz, hno, hin, hij⟩ := id SP
    refine ⟨_, rfl, tyD hk, _, rfl, _, rfl, _, _, _, _, rfl, rfl, SqL.of (S _ _ hb), at0 gx, (by decide : 0 ≤ sizeLine), fun nl hnl => ?_⟩
    have Sn := same_new hnl (.lst [])
    refine ⟨sp, kvs, d, vs[i]'hi, .ref nl, rfl, rfl, Sn _ _ hk, (td.same S).same Sn, small1000 (by omega), fun v hv => ?_, fun hv => ?_⟩
    · have dm : d ∈ ys.take i := by
        apply Classical.byContradiction
        intro z
        rw [hno d z] at hv; cases hv
      obtain ⟨c, q1, q2, q3⟩ := hin d dm
      rw [q1] at hv
      cases hv
      refine ⟨.inl ⟨rfl, _, SqL.of (Sn _ _ q2)⟩, _, rfl, c, _, _, rfl, rfl, Sn _ _ q2, ?_, ?_⟩
      · unfold ixs
        have := posOf_len d (ys.take i)
        have := cnt_le d (ys.take i)
        rw [List.length_map]
        exact small1000 (by omega)
      refine ⟨_, rfl, (S.trans Sn).wr q3 _, ?_⟩
      rw [et, show (0 : Int) + (i : Int) = ((ys.take i).length : Int) by omega]
      exact (SP.same Sn).more (Sn _ _ hk) dm q1 (Sn _ _ q2)
    · have dn : d ∉ ys.take i := fun z => by
        obtain ⟨c, q1, _⟩ := hin d z
        rw [q1] at hv; cases hv
      have nsp : nl ≠ sp := fun z => by rw [z, hk] at hnl; cases hnl
      have enl : upd (upd H' nl (.lst [])) sp (.dT (putK kvs (kd d) (.ref nl))) nl = some (.lst []) := by rw [upd_ne nsp]; exact upd_same
      refine ⟨.inl ⟨rfl, _, SqL.of enl⟩, _, rfl, nl, _, _, rfl, rfl, enl, small1000 (by simp), ?_⟩
      refine ⟨_, rfl, ((S.trans Sn).wr hsp _).wr (S.free hnl) _, ?_⟩
      rw [et, show (0 : Int) + (i : Int) = ((ys.take i).length : Int) by omega]
      refine (SP.same Sn).first (Sn _ _ hk) dn (S.free hnl) upd_same fun x c hc z => ?_
      have xm : x ∈ ys.take i := by
        apply Classical.byContradiction
        intro w
        rw [hno x w] at hc; cases hc
      obtain ⟨c', r1, r2, _⟩ := hin x xm
      rw [r1] at hc
      cases hc
      rw [z, hnl] at r2
      cases r2
  · rintro σ H1 ⟨z3, rfl, S, SP⟩
    rw [hl0, List.take_length] at SP
    intro ad had
    have Sa := same_new had (.dT [])
    refine ⟨(by decide : 0 ≤ sizeLine), fun fo hfo => ?_⟩
    have Sb := same_new hfo (.lst [])
    have had0 : H ad = none := S.free had
    have hfo0 : H fo = none := (S.trans Sa).free hfo
    have nfa : fo ≠ ad := fun z => by rw [z, upd_same] at hfo; cases hfo
    have nas : ad ≠ sp := fun z => by obtain ⟨kvs, hk, _⟩ := SP; rw [z, hk] at had; cases had
    have nfs : fo ≠ sp := fun z => by obtain ⟨kvs, hk, _⟩ := SP; rw [z, Sa _ _ hk] at hfo; cases hfo
    refine ⟨_, rfl, a, rfl, ⟨_, SqL.of (Sb _ _ (Sa _ _ (S _ _ ha)))⟩, for_list (xs := us) (fun i σ H' => ∃ z6 fs, σ = [some (.ref a), some (.ref b), some (.ref sp), z3, some (.ref ad), some (.ref fo), z6] ∧ Same H H' ∧ Spots H H' sp ys ∧ Ahead H' ad (xs.take i) ∧ H' fo = some (.lst (ixs fs)) ∧ (∀ d b', (∃ kvs, H' sp = some (.dT kvs) ∧ valV kvs (kd d) = some (.ref b')) → b' ≠ fo) ∧ fs.length = i ∧ Mate (xs.take i) ys (fun p => fs.getD p 0))
      ⟨none, [], rfl, (S.trans Sa).trans Sb, (SP.same Sa).same Sb, Ahead.same Sb (Ahead.nil upd_same), upd_same, ?_, rfl, fun p a' h => by simp at h⟩ ?_ ?_ ?_⟩
    · rintro d b' ⟨kvs, hk, hv⟩ z
      obtain ⟨kvs', hk', _, hno, hin, _⟩ := SP
      rw [Sb _ _ (Sa _ _ hk')] at hk
      cases hk
      have dm : d ∈ ys := by
        apply Classical.byContradiction
        intro w
        rw [hno d w] at hv; cases hv
      obtain ⟨c, q1, q2, _⟩ := hin d dm
      rw [q1] at hv
      cases hv
      rw [z] at q2
      rw [Sa _ _ q2] at hfo
      cases hfo
    · rintro i σ H' _ ⟨z6, fs, rfl, S', _⟩
      exact SqL.of (S' _ _ ha)
    · rintro i x σ H' hx ⟨z6, fs, rfl, S', SP', AH, efo, hnf, hfl, M⟩
      obtain ⟨d, gd, td⟩ := Paired.getL pu hx
      have hi : i < xs.length := (List.getElem?_eq_some_iff.mp gd).1
      have et : xs.take (i + 1) = xs.take i ++ [d] := by rw [List.take_add_one, gd]; rfl
      obtain ⟨kA, hkA, hzA, hvA⟩ := id AH
      have hzA' : kA.length ≤ 100 := by rw [List.length_take] at hzA; omega
      have td' := td.same S'
      refine ⟨_, rfl, tyD hkA, _, rfl, ad, kA, d, x, .int 0, rfl, rfl, hkA, td', ?_⟩
      rw [(hvA d).1]
      refine ⟨_, _, rfl, rfl, _, rfl, _, rfl, ad, kA, d, rfl, hkA, td', small1000 (by omega), ?_⟩
      have AH2 : Ahead (upd H' ad (.dT (putK kA (kd d) (.int ((cnt d (xs.take i) : Nat) + 1))))) ad (xs.take i ++ [d]) := Ahead.more hkA hzA hvA
      have SA := S'.wr had0 (.dT (putK kA (kd d) (.int ((cnt d (xs.take i) : Nat) + 1))))
      have SP2 := SP'.wr (o := .dT (putK kA (kd d) (.int ((cnt d (xs.take i) : Nat) + 1)))) nas (fun vs z => by rw [hkA] at z; cases z)
      have efo2 : upd H' ad (.dT (putK kA (kd d) (.int ((cnt d (xs.take i) : Nat) + 1)))) fo = some (.lst (ixs fs)) := by rw [upd_ne nfa]; exact efo
      have hnf2 : ∀ d' b', (∃ kvs, upd H' ad (.dT (putK kA (kd d) (.int ((cnt d (xs.take i) : Nat) + 1)))) sp = some (.dT kvs) ∧ valV kvs (kd d') = some (.ref b')) → b' ≠ fo := fun d' b' ⟨kvs, h1, h2⟩ => hnf d' b' ⟨kvs, by rw [upd_ne (Ne.symm nas)] at h1; exact h1, h2⟩
      generalize upd H' ad (.dT (putK kA (kd d) (.int ((cnt d (xs.take i) : Nat) + 1)))) = Hq at AH2 SA SP2 efo2 hnf2 ⊢
      obtain ⟨kA2, hkA2, hzA2, hvA2⟩ := id AH2
      obtain ⟨kS, hkS, hzS, hnoS, hinS, hijS⟩ := id SP2
      have hv2 := (hvA2 d).2 (by simp)
      have ec : cnt d (xs.take i ++ [d]) = cnt d (xs.take i) + 1 := by rw [cnt_app, cnt_self]
      have td2 := td.same SA
      have hle : cnt d (xs.take (i + 1)) ≤ cnt d xs := cnt_sub (List.take_sublist _ _) _
      have hcd := hev d
      rw [et] at hle
      have dm : d ∈ ys := cnt_pos (by omega)
      obtain ⟨cb, q1, q2, q3⟩ := hinS d dm
      have hj : cnt d (xs.take i) < (posOf d ys).length := by rw [posOf_len]; omega
      have gp : (posOf d ys)[cnt d (xs.take i)]? = some ((posOf d ys)[cnt d (xs.take i)]'hj) := List.getElem?_eq_getElem hj
      generalize ((posOf d ys)[cnt d (xs.take i)]'hj) = p0 at gp
      obtain ⟨m1, m2⟩ := posOf_at d ys _ _ gp
      have gat : atI (ixs (posOf d ys)) (((cnt d (xs.take i ++ [d]) : Nat) : Int) - 1) = some (.int (p0 : Int)) := by
        rw [show ((cnt d (xs.take i ++ [d]) : Nat) : Int) - 1 = ((cnt d (xs.take i) : Nat) : Int) by omega]
        refine atI_nat ?_
        unfold ixs
        rw [List.getElem?_map, gp]; rfl
      refine ⟨_, rfl, .inl ⟨rfl, _, SqL.of efo2⟩, ?_⟩
      refine ⟨_, rfl, _, rfl, sp, kS, d, _, rfl, hkS, td2, q1, ?_⟩
      refine ⟨_, rfl, _, rfl, ad, kA2, d, _, rfl, hkA2, td2, hv2, _, _, rfl, rfl, _, _, _, _, rfl, rfl, SqL.of q2, gat, ?_⟩
      refine ⟨fo, _, _, rfl, rfl, efo2, ?_, ?_⟩
      · unfold ixs
        rw [List.length_map]
        exact small1000 (by omega)
      refine ⟨_, fs ++ [p0], rfl, SA.wr hfo0 _, SP2.wrL nfs hnf2, ?_, ?_, fun d' b' ⟨kvs, h1, h2⟩ => ?_, ?_, ?_⟩
      · rw [et]
        exact AH2.wr nfa
      · rw [ixs_snoc]; exact upd_same
      · refine hnf2 d' b' ⟨kvs, ?_, h2⟩
        rw [upd_ne (Ne.symm nfs)] at h1
        exact h1
      · rw [List.length_append, hfl]; rfl
      · rw [et]
        exact mate_snoc M (by rw [List.length_take]; omega) m1 m2
    · rintro σ H' ⟨z6, fs, rfl, S', SP', AH, efo, hnf, hfl, M⟩
      rw [hl1, List.take_length] at M
      exact ⟨_, rfl, qs fo fs H' S' hfo0 efo (by omega) M⟩
end
end K08

namespace K08
open PySem L2
abbrev s_cr : Stmt := top 6
abbrev s_partners : Stmt := top 7
theorem sc_cr : FnScope ["one", "other", "deed", "here", "there"] ["one", "other"] (defScope s_cr) := ⟨rfl, rfl, rfl, by decide +kernel, rfl, by decide +kernel, by decide +kernel⟩
theorem sc_partners : FnScope ["one", "other", "waiting", "place", "deed", "told"] ["one", "other"] (defScope s_partners) := ⟨rfl, rfl, rfl, by decide +kernel, rfl, by decide +kernel, by decide +kernel⟩
section
variable {P : Program} {w : World} {K : PySem.W.Frag} {mg : Str → Option Value} {base : Heap} {f : Addr} {fd : FuncData}
seal PySem.eval PySem.spliced in
theorem ok_cr (F : Fun K "count_reason" "count_reason" s_cr f fd) (m_sorted : mg "sorted" = none) (m_set : mg "set" = none) : FnOk P w K mg base CX0 1 f fd ["one", "other"] spCR := by
  have sc := sc_cr
  refine F.ok sc (fun vs H Q E h => ?_) (fun cdv A outer s H vs Q E hr h => ?_)
  · obtain ⟨a, b, xs, ys, rfl, _⟩ := h
    rfl
  obtain ⟨a, b, xs, ys, rfl, La, Lb, hx1, hy1, few, q⟩ := h
  obtain ⟨us, ha, pu⟩ := id La
  obtain ⟨vs, hb, pr⟩ := id Lb
  refine ⟨_, (pss_cons (ps_for PassesOwn.never rfl (piL K (pe_callB (sortedS w rfl) rfl m_sorted bt_sorted (pa_cons (pe_callTy (setNew w rfl hr.units) rfl m_set bt_set (pa_cons (pe_op op_cat (pv 0) (pv 1)) pa_nil)) pa_nil))) (pg_name (i := 2) sc.nd rfl (Or.inl rfl)) (pss_cons (ps_set (i := 3) sc.nd rfl (Or.inl rfl) (pe_bmK K PySem.F.plainAttrs_list PySem.F.slot_list_count PySem.F.type_list_count (mt_countD hr.units) (pv 0) (pa_cons (pv 2) pa_nil)))
    (pss_cons (ps_set (i := 4) sc.nd rfl (Or.inl rfl) (pe_bmK K PySem.F.plainAttrs_list PySem.F.slot_list_count PySem.F.type_list_count (mt_countD hr.units) (pv 1) (pa_cons (pv 2) pa_nil)))
    (pss_one (ps_if (pt_cmpR op_ne (pv 3) (pv 4) (nomark _)) (pss_one (ps_ret (pe_tup (pa_cons pe_str (pa_cons (pv 2) (pa_cons (pv 3) (pa_cons (pv 4) pa_nil))))))) pss_nil)))))
    (pss_one (ps_ret pe_non))), ?_⟩
  have hl0 := Paired.length pr
  have hl1 := Paired.length pu
  refine ⟨_, rfl, _, rfl, a, b, us, vs, rfl, rfl, ha, hb, Nat.le_of_lt (small1000 (by omega)), fun p hp => ?_⟩
  have S1 := same_new hp (.lst (us ++ vs))
  have pc := _root_.L2.Paired.app pu pr
  refine ⟨p, xs ++ ys, rfl, ⟨us ++ vs, upd_same, stab_T3.list S1 pc⟩, few, fun r ws es hr0 nd mem pw => ?_⟩
  have S2 := S1.new hr0 (setO w r ws)
  have hle : es.length ≤ 61 := few es nd fun d hd => (mem d).mp hd
  refine ⟨r, ws, es, rfl, upd_same, stab_T3.list (same_new hr0 _) pw, by omega, fun t ts ht pt => ?_⟩
  have S3 := S2.new ht (.lst ts)
  have pt' := stab_T3.list (same_new ht (.lst ts)) pt
  have hlt := Paired.length pt
  have hls := srt_length es
  have sp := srt_perm es
  have sr := srt_rises es
  generalize srt es = ss at pt pt' hlt hls sp sr
  refine ⟨t, rfl, ⟨_, SqL.of upd_same⟩, for_list (xs := ts) (fun i σ H' => ∃ z2 z3 z4, σ = [some (.ref a), some (.ref b), z2, z3, z4] ∧ Same (upd (upd (upd H p (.lst (us ++ vs))) r (setO w r ws)) t (.lst ts)) H' ∧ ∀ e ∈ ss.take i, cnt e xs = cnt e ys)
    ⟨none, none, none, rfl, Same.refl _, fun e he => by simp at he⟩ ?_ ?_ ?_⟩
  · rintro i σ H' _ ⟨z2, z3, z4, rfl, S, _⟩
    exact SqL.of (S _ _ upd_same)
  · rintro i x σ H' hx ⟨z2, z3, z4, rfl, S, hok⟩
    obtain ⟨d, gd, td⟩ := Paired.getL pt' hx
    have td' := td.same S
    have SS := S3.trans S
    have La' := La.same SS
    have Lb' := Lb.same SS
    refine ⟨_, rfl, .inl ⟨rfl, _, SqL.of (SS _ _ ha)⟩, _, rfl, a, xs, d, x, rfl, rfl, La', td', ?_⟩
    refine ⟨_, rfl, .inl ⟨rfl, _, SqL.of (SS _ _ hb)⟩, _, rfl, b, ys, d, x, rfl, rfl, Lb', td', ?_⟩
    have et : ss.take (i + 1) = ss.take i ++ [d] := by rw [List.take_add_one, gd]; rfl
    refine ⟨_, rfl, _, rfl, rfl, _, rfl, iteIn (fun c => ?_) (fun c => ?_)⟩
    · refine ⟨_, rfl, _, rfl, _, rfl, sm rfl, fun g hg => ?_⟩
      have S4 := same_new hg (.tup [.str "count", x, .int ((cnt d xs : Nat) : Int), .int ((cnt d ys : Nat) : Int)])
      refine q (.cnt d (cnt d xs) (cnt d ys)) _ _ (SS.trans S4) ⟨g, x, rfl, upd_same, td'.same S4⟩ (.inl ⟨d, _, _, rfl, ⟨fun z => c (by rw [z]), fun e he => ?_⟩, rfl, rfl⟩)
      have em : e ∈ ss := sp.mem_iff.mpr ((mem e).mpr (odd_mem he))
      obtain ⟨j, hj⟩ := List.getElem?_of_mem em
      have hji : ¬ j < i := fun z => he (hok e (List.mem_of_getElem? (show (ss.take i)[j]? = some e by rw [List.getElem?_take_of_lt z]; exact hj)))
      by_cases eij : j = i
      · subst eij
        rw [gd] at hj
        cases hj
        rw [ltB_no]; omega
      · have h1 := (List.getElem?_eq_some_iff.mp gd)
        have h2 := (List.getElem?_eq_some_iff.mp hj)
        have := List.pairwise_iff_getElem.mp sr i j h1.1 h2.1 (by omega)
        rw [h1.2, h2.2] at this
        exact this
    · refine ⟨_, _, _, rfl, S, fun e he => ?_⟩
      rw [et] at he
      rcases List.mem_append.mp he with z | z
      · exact hok e z
      · rw [List.mem_singleton.mp z]
        omega
  · rintro σ H' ⟨z2, z3, z4, rfl, S, hok⟩
    rw [hlt, List.take_length] at hok
    refine q .even _ _ (S3.trans S) rfl (.inr ⟨rfl, fun d => ?_⟩)
    by_cases c : d ∈ xs ++ ys
    · exact hok d (sp.mem_iff.mpr ((mem d).mpr c))
    · rw [cnt_zero fun z => c (List.mem_append_left _ z), cnt_zero fun z => c (List.mem_append_right _ z)]
seal PySem.eval PySem.spliced in
theorem ok_partners (F : Fun K "partners" "partners" s_partners f fd) (m_enumerate : mg "enumerate" = none) : FnOk P w K mg base CX0 1 f fd ["one", "other"] spPartners := by
  have sc := sc_partners
  refine F.ok sc (fun vs H Q E h => ?_) (fun cdv A outer s H vs Q E hr h => ?_)
  · obtain ⟨a, b, xs, ys, rfl, _⟩ := h
    rfl
  obtain ⟨a, b, xs, ys, rfl, ⟨us, ha, pu⟩, ⟨vs, hb, pr⟩, hx1, hy1, hev, qs⟩ := h
  refine ⟨_, (pss_cons (ps_set (i := 2) sc.nd rfl (Or.inl rfl) pe_dnewT)
    (pss_cons (ps_for PassesOwn.never rfl (piE K rfl m_enumerate (pa_cons (pv 1) pa_nil)) (pgT K (n := 2) rfl (pgs_cons (pg_name (i := 3) sc.nd rfl (Or.inl rfl)) (pgs_cons (pg_name (i := 4) sc.nd rfl (Or.inl rfl)) pgs_nil))) (pss_one (ps_expr (pe_bmK K PySem.F.plainAttrs_list PySem.F.slot_list_append PySem.F.type_list_append mt_append (pe_bmK K PySem.F.plainAttrs_dict PySem.F.slot_dict_setdefault PySem.F.type_dict_setdefault (setDef hr.units) (pv 2) (pa_cons (pv 4) (pa_cons (pe_lst pa_nil) pa_nil))) (pa_cons (pv 3) pa_nil)))))
    (pss_cons (ps_set (i := 5) sc.nd rfl (Or.inl rfl) (pe_lst pa_nil))
    (pss_cons (ps_for PassesOwn.never rfl (piL K (pv 0)) (pg_name (i := 4) sc.nd rfl (Or.inl rfl)) (pss_one (ps_expr (pe_bmK K PySem.F.plainAttrs_list PySem.F.slot_list_append PySem.F.type_list_append mt_append (pv 5) (pa_cons (pe_bmK K PySem.F.plainAttrs_list PySem.F.slot_list_pop PySem.F.type_list_pop mt_popAt (pe_ix (ixD hr.units) (pv 2) (pv 4) (fun _ _ => rfl)) (pa_cons pe_int pa_nil)) pa_nil)))))
    (pss_one (ps_ret (pv 5))))))), ?_⟩
  have hl0 := Paired.length pr
  have hl1 := Paired.length pu
  intro sp hsp
  have S1 := same_new hsp (.dT [])
  refine ⟨_, rfl, b, vs, rfl, SqL.of (S1 _ _ hb), for_enum (xs := vs) (fun i σ H' => ∃ z3 z4, σ = [some (.ref a), some (.ref b), some (.ref sp), z3, z4, none] ∧ Same H H' ∧ Spots H H' sp (ys.take i)) ⟨none, none, rfl, S1, Spots.nil upd_same⟩ ?_ ?_ ?_⟩
  · rintro i σ H' _ ⟨z3, z4, rfl, S, _⟩
    exact SqL.of (S _ _ hb)
  · rintro i x p σ H0 hx hp ⟨z3, z4, rfl, S0, SP0⟩
    obtain ⟨d, gd, td⟩ := Paired.getL pr hx
    have hi' : i < ys.length := (List.getElem?_eq_some_iff.mp gd).1
    have Sp := same_new hp (.tup [.int (i : Int), x])
    have S := S0.trans Sp
    have SP := SP0.same Sp
    refine ⟨p, _, rfl, SqT.of upd_same, rfl, _, _, rfl, _, _, rfl, rfl, ?_⟩
    have et : ys.take (i + 1) = ys.take i ++ [d] := by rw [List.take_add_one, gd]; rfl
    have hlt : (ys.take i).length = i := by rw [List.length_take]; omega
    generalize upd H0 p (.tup [.int (i : Int), x]) = H' at Sp S SP ⊢
    obtain ⟨kvs, hk, hkz, hno, hin, hij⟩ := id SP
    refine ⟨_, rfl, tyD hk, _, rfl, (by decide : 0 ≤ sizeLine), fun nl hnl => ?_⟩
    have Sn := same_new hnl (.lst [])
    refine ⟨sp, kvs, d, x, .ref nl, rfl, rfl, Sn _ _ hk, (td.same S).same Sn, small1000 (by omega), fun v hv => ?_, fun hv => ?_⟩
    · have dm : d ∈ ys.take i := by
        apply Classical.byContradiction
        intro z
        rw [hno d z] at hv; cases hv
      obtain ⟨c, q1, q2, q3⟩ := hin d dm
      rw [q1] at hv
      cases hv
      refine ⟨.inl ⟨rfl, _, SqL.of (Sn _ _ q2)⟩, _, rfl, c, _, _, rfl, rfl, Sn _ _ q2, ?_, ?_⟩
      · unfold ixs
        have := posOf_len d (ys.take i)
        have := cnt_le d (ys.take i)
        rw [List.length_map]
        exact small1000 (by omega)
      refine ⟨_, _, rfl, (S.trans Sn).wr q3 _, ?_⟩
      rw [et, show (i : Int) = ((ys.take i).length : Int) by omega]
      exact (SP.same Sn).more (Sn _ _ hk) dm q1 (Sn _ _ q2)
    · have dn : d ∉ ys.take i := fun z => by
        obtain ⟨c, q1, _⟩ := hin d z
        rw [q1] at hv; cases hv
      have nsp : nl ≠ sp := fun z => by rw [z, hk] at hnl; cases hnl
      have enl : upd (upd H' nl (.lst [])) sp (.dT (putK kvs (kd d) (.ref nl))) nl = some (.lst []) := by rw [upd_ne nsp]; exact upd_same
      refine ⟨.inl ⟨rfl, _, SqL.of enl⟩, _, rfl, nl, _, _, rfl, rfl, enl, small1000 (by simp), ?_⟩
      refine ⟨_, _, rfl, ((S.trans Sn).wr hsp _).wr (S.free hnl) _, ?_⟩
      rw [et, show (i : Int) = ((ys.take i).length : Int) by omega]
      refine (SP.same Sn).first (Sn _ _ hk) dn (S.free hnl) upd_same fun x c hc z => ?_
      have xm : x ∈ ys.take i := by
        apply Classical.byContradiction
        intro w
        rw [hno x w] at hc; cases hc
      obtain ⟨c', r1, r2, _⟩ := hin x xm
      rw [r1] at hc
      cases hc
      rw [z, hnl] at r2
      cases r2
  · rintro σ H1 ⟨z3, z4, rfl, S, SP⟩
    rw [hl0, List.take_length] at SP
    have LF := SP.left
    refine ⟨(by decide : 0 ≤ sizeLine), fun fo hfo => ?_⟩
    have Sb := same_new hfo (.lst [])
    have hfo0 : H fo = none := S.free hfo
    have nfs : fo ≠ sp := fun z => by obtain ⟨kvs, hk, _⟩ := SP; rw [z, hk] at hfo; cases hfo
    refine ⟨_, rfl, a, rfl, ⟨_, SqL.of (Sb _ _ (S _ _ ha))⟩, for_list (xs := us) (fun i σ H' => ∃ z4 fs, σ = [some (.ref a), some (.ref b), some (.ref sp), z3, z4, some (.ref fo)] ∧ Same H H' ∧ Left H H' sp ys (xs.take i) ∧ H' fo = some (.lst (ixs fs)) ∧ (∀ d b', (∃ kvs, H' sp = some (.dT kvs) ∧ valV kvs (kd d) = some (.ref b')) → b' ≠ fo) ∧ fs.length = i ∧ Mate (xs.take i) ys (fun p => fs.getD p 0))
      ⟨z4, [], rfl, S.trans Sb, LF.same Sb, upd_same, ?_, rfl, fun p a' h => by simp at h⟩ ?_ ?_ ?_⟩
    · rintro d b' ⟨kvs, hk, hv⟩ z
      obtain ⟨kvs', hk', _, hno, hin, _⟩ := SP
      rw [Sb _ _ hk'] at hk
      cases hk
      have dm : d ∈ ys := by
        apply Classical.byContradiction
        intro w
        rw [hno d w] at hv; cases hv
      obtain ⟨c, q1, q2, _⟩ := hin d dm
      rw [q1] at hv
      cases hv
      rw [z] at q2
      rw [q2] at hfo
      cases hfo
    · rintro i σ H' _ ⟨z4, fs, rfl, S', _⟩
      exact SqL.of (S' _ _ ha)
    · rintro i x σ H' hx ⟨z4, fs, rfl, S', LF', efo, hnf, hfl, M⟩
      obtain ⟨d, gd, td⟩ := Paired.getL pu hx
      have hi : i < xs.length := (List.getElem?_eq_some_iff.mp gd).1
      have et : xs.take (i + 1) = xs.take i ++ [d] := by rw [List.take_add_one, gd]; rfl
      have td' := td.same S'
      obtain ⟨kS, hkS, hzS, hinS, hijS⟩ := id LF'
      have ec : cnt d (xs.take i ++ [d]) = cnt d (xs.take i) + 1 := by rw [cnt_app, cnt_self]
      have hle : cnt d (xs.take (i + 1)) ≤ cnt d xs := cnt_sub (List.take_sublist _ _) _
      have hcd := hev d
      rw [et] at hle
      have dm : d ∈ ys := cnt_pos (by omega)
      obtain ⟨cb, q1, q2, q3⟩ := hinS d dm
      have hj : cnt d (xs.take i) < (posOf d ys).length := by rw [posOf_len]; omega
      have gp : (posOf d ys)[cnt d (xs.take i)]? = some ((posOf d ys)[cnt d (xs.take i)]'hj) := List.getElem?_eq_getElem hj
      have eI : (ixs ((posOf d ys).drop (cnt d (xs.take i))))[0]? = some (.int (((posOf d ys)[cnt d (xs.take i)]'hj : Nat) : Int)) := by
        unfold ixs
        rw [List.getElem?_map, List.getElem?_drop, Nat.add_zero, gp]; rfl
      have hlI : (ixs ((posOf d ys).drop (cnt d (xs.take i)))).length = (posOf d ys).length - cnt d (xs.take i) := by
        unfold ixs; rw [List.length_map, List.length_drop]
      generalize ((posOf d ys)[cnt d (xs.take i)]'hj) = p0 at gp eI
      obtain ⟨m1, m2⟩ := posOf_at d ys _ _ gp
      have nbf : cb ≠ fo := hnf d cb ⟨kS, hkS, q1⟩
      have hpl := posOf_len d ys
      have hcl := cnt_le d ys
      refine ⟨_, rfl, .inl ⟨rfl, _, SqL.of efo⟩, ?_⟩
      refine ⟨_, rfl, _, rfl, sp, kS, d, _, rfl, hkS, td', q1, ?_⟩
      refine ⟨.inl ⟨rfl, _, SqL.of q2⟩, cb, _, 0, 0, _, rfl, rfl, q2, by decide, by decide, ?_, eI, ?_⟩
      · rw [seqIndex_of (by decide) (by rw [hlI]; omega)]; rfl
      have efo2 := (upd_ne (o := .lst ((ixs ((posOf d ys).drop (cnt d (xs.take i)))).eraseIdx 0)) (Ne.symm nbf)).trans efo
      have LF2 := LF'.take hkS q1 q2
      have SA := S'.wr q3 (.lst ((ixs ((posOf d ys).drop (cnt d (xs.take i)))).eraseIdx 0))
      have nsb : sp ≠ cb := fun z => by rw [z, q2] at hkS; cases hkS
      have hnf2 : ∀ d' b', (∃ kvs, upd H' cb (.lst ((ixs ((posOf d ys).drop (cnt d (xs.take i)))).eraseIdx 0)) sp = some (.dT kvs) ∧ valV kvs (kd d') = some (.ref b')) → b' ≠ fo := fun d' b' ⟨kvs, h1, h2⟩ => hnf d' b' ⟨kvs, by rw [upd_ne nsb] at h1; exact h1, h2⟩
      refine ⟨fo, _, _, rfl, rfl, efo2, ?_, ?_⟩
      · unfold ixs
        rw [List.length_map]
        exact small1000 (by omega)
      refine ⟨_, fs ++ [p0], rfl, SA.wr hfo0 _, ?_, ?_, fun d' b' ⟨kvs, h1, h2⟩ => ?_, ?_, ?_⟩
      · rw [et]
        exact LF2.wrL nfs hnf2
      · rw [ixs_snoc]; exact upd_same
      · refine hnf2 d' b' ⟨kvs, ?_, h2⟩
        rw [upd_ne (Ne.symm nfs)] at h1
        exact h1
      · rw [List.length_append, hfl]; rfl
      · rw [et]
        exact mate_snoc M (by rw [List.length_take]; omega) m1 m2
    · rintro σ H' ⟨z4, fs, rfl, S', LF', efo, hnf, hfl, M⟩
      rw [hl1, List.take_length] at M
      exact ⟨_, rfl, qs fo fs H' S' hfo0 efo (by omega) M⟩
end
end K08

namespace K08
open PySem L2
abbrev s_tr : Stmt := top 8
abbrev s_reason : Stmt := top 9
abbrev s_lreason : Stmt := top 22
theorem sc_tr : FnScope ["one", "other", "there", "p", "q"] ["one", "other"] (defScope s_tr) := ⟨rfl, rfl, rfl, by decide +kernel, rfl, by decide +kernel, by decide +kernel⟩
theorem sc_reason : FnScope ["one", "other", "uneven"] ["one", "other"] (defScope s_reason) := ⟨rfl, rfl, rfl, by decide +kernel, rfl, by decide +kernel, by decide +kernel⟩
theorem sc_lreason : FnScope ["_law_one", "_law_other", "_law_here", "_law_there", "_law_odd", "_law_least", "_law_mates_here", "_law_p", "_law_q"] ["_law_one", "_law_other"] (defScope s_lreason) := ⟨rfl, rfl, rfl, by decide +kernel, rfl, by decide +kernel, by decide +kernel⟩
section
variable {P : Program} {w : World} {K : PySem.W.Frag} {mg : Str → Option Value} {base : Heap} {f : Addr} {fd : FuncData}
seal PySem.eval PySem.spliced in
theorem ok_tr (F : Fun K "turned_reason" "turned_reason" s_tr f fd) (D_partners : Df P w K mg base "partners" 1 ["one", "other"] spPartners) (D_clash : Df P w K mg base "clash" 2 ["one", "other"] spClash) (m_range : mg "range" = none) (m_len : mg "len" = none) :
    FnOk P w K mg base CX0 3 f fd ["one", "other"] spTR := by
  have sc := sc_tr
  refine F.ok sc (fun vs H Q E h => ?_) (fun cdv A outer s H vs Q E hr h => ?_)
  · obtain ⟨a, b, xs, ys, rfl, _⟩ := h
    rfl
  obtain ⟨a, b, xs, ys, rfl, La, Lb, hx1, hy1, hev, q⟩ := h
  obtain ⟨us, ha, pu⟩ := id La
  have hl1 := Paired.length pu
  refine ⟨_, (pss_cons (ps_set (i := 2) sc.nd rfl (Or.inl rfl) (pe_callD D_partners (hr.mono (by decide)) rfl (pa_cons (pv 0) (pa_cons (pv 1) pa_nil))))
    (pss_cons (ps_for PassesOwn.never rfl (pi_range1 rfl m_range (pa_cons (pe_callB (lenQ K) rfl m_len bt_len (pa_cons (pv 0) pa_nil)) pa_nil)) (pg_name (i := 3) sc.nd rfl (Or.inl rfl)) (pss_one (ps_for PassesOwn.never rfl (pi_range2 rfl m_range (pa_cons (pe_op op_add (pv 3) pe_int) (pa_cons (pe_callB (lenQ K) rfl m_len bt_len (pa_cons (pv 0) pa_nil)) pa_nil))) (pg_name (i := 4) sc.nd rfl (Or.inl rfl)) (pss_one (ps_if (PW.pt (pw_and (pt_cmpR op_gt (pe_ix (ixL K) (pv 2) (pv 3) (fun _ _ => rfl)) (pe_ix (ixL K) (pv 2) (pv 4) (fun _ _ => rfl)) (nomark _)) (pw_and1 (pt_val (pe_callD D_clash (hr.mono (by decide)) rfl (pa_cons (pe_ix (ixL K) (pv 0) (pv 3) (fun _ _ => rfl)) (pa_cons (pe_ix (ixL K) (pv 0) (pv 4) (fun _ _ => rfl)) pa_nil))))))) (pss_one (ps_ret (pe_tup (pa_cons pe_str (pa_cons (pv 3) (pa_cons (pv 4) pa_nil)))))) pss_nil)))))
    (pss_one (ps_ret pe_non)))), ?_⟩
  refine ⟨_, rfl, _, rfl, a, b, xs, ys, rfl, La, Lb, hx1, hy1, hev, fun r fs H1 S1 hr er hfl M => ?_⟩
  refine ⟨_, rfl, a, us, rfl, .inl (SqL.of (S1 _ _ ha)), _, rfl, by omega, by omega, ?_⟩
  rw [Int.toNat_natCast]
  have fat : ∀ p, p < xs.length → atI (ixs fs) (p : Int) = some (.int ((fs.getD p 0 : Nat) : Int)) := fun p hp => by
    refine atI_nat ?_
    unfold ixs
    rw [List.getElem?_map, List.getD_eq_getElem?_getD, List.getElem?_eq_getElem (by omega : p < fs.length)]; rfl
  have pu1 := stab_T3.list S1 pu
  refine for_range (n := us.length) (fun i σ H' => (∃ z3 z4, σ = [some (.ref a), some (.ref b), some (.ref r), z3, z4]) ∧ Same H1 H' ∧ ∀ p q, p < i → p < q → ¬ TurnP xs (fun p => fs.getD p 0) p q) ⟨⟨none, none, rfl⟩, Same.refl _, fun p q h => absurd h (Nat.not_lt_zero _)⟩ ?_ ?_
  · rintro i σ H' hi ⟨⟨z3, z4, rfl⟩, S', hok⟩
    have ei : (0 : Int) + (i : Int) = (i : Int) := Int.zero_add _
    rw [ei]
    refine ⟨_, rfl, _, _, rfl, rfl, _, rfl, a, us, rfl, .inl (SqL.of (S' _ _ (S1 _ _ ha))), (i : Int) + 1, _, rfl, ⟨by omega, by omega, by omega, by omega⟩, ?_⟩
    refine for_range (n := ((us.length : Int) - ((i : Int) + 1)).toNat) (fun j σ H2 => (∃ z4, σ = [some (.ref a), some (.ref b), some (.ref r), some (.int (i : Int)), z4]) ∧ Same H1 H2 ∧ ∀ q, i < q → q < i + 1 + j → ¬ TurnP xs (fun p => fs.getD p 0) i q) ⟨⟨z4, rfl⟩, S', fun q h1 h2 => by omega⟩ ?_ ?_
    · rintro j σ H' hj ⟨⟨z4, rfl⟩, S2, hok2⟩
      have ej : (i : Int) + 1 + (j : Int) = ((i + 1 + j : Nat) : Int) := by omega
      rw [ej]
      have hq : i + 1 + j < xs.length := by omega
      have ga : xs[i]? = some xs[i] := List.getElem?_eq_getElem (by omega)
      have gb : xs[i + 1 + j]? = some xs[i + 1 + j] := List.getElem?_eq_getElem hq
      obtain ⟨va, gva, ta⟩ := Paired.getR pu1 ga
      obtain ⟨vb, gvb, tb⟩ := Paired.getR pu1 gb
      have go : (fs.getD i 0 > fs.getD (i + 1 + j) 0 ∧ clashB xs[i] xs[i + 1 + j] = true → False) → ∀ q, i < q → q < i + 1 + (j + 1) → ¬ TurnP xs (fun p => fs.getD p 0) i q := by
        rintro hn q h1 h2 ⟨c, e, h3, h4, h5, h6⟩
        by_cases eq : q = i + 1 + j
        · subst eq
          rw [ga] at h3; cases h3
          rw [gb] at h4; cases h4
          exact hn ⟨h5, h6⟩
        · exact hok2 q h1 (by omega) ⟨c, e, h3, h4, h5, h6⟩
      refine ⟨_, rfl, _, rfl, _, _, _, _, rfl, rfl, SqL.of (S2 _ _ er), fat i (by omega), _, rfl, _, rfl, _, _, _, _, rfl, rfl, SqL.of (S2 _ _ er), fat _ hq, _, _, rfl, rfl, _, rfl, iteD (fun c1 => ?_) (fun c1 => iteF ⟨⟨_, rfl⟩, S2, go fun z => by omega⟩)⟩
      refine ⟨_, rfl, _, rfl, _, _, _, _, rfl, rfl, SqL.of (S2 _ _ (S1 _ _ ha)), atI_nat gva, _, rfl, _, rfl, _, _, _, _, rfl, rfl, SqL.of (S2 _ _ (S1 _ _ ha)), atI_nat gvb, ?_⟩
      refine ⟨_, _, xs[i], xs[i + 1 + j], rfl, ta.same S2, tb.same S2, ?_⟩
      refine ⟨_, rfl, ite2 (fun c2 => ?_) (fun c2 => ⟨⟨_, rfl⟩, S2, go fun z => c2 z.2⟩)⟩
      refine ⟨_, rfl, _, rfl, sm rfl, fun g hg => ?_⟩
      have S4 := same_new hg (.tup [.str "turned", .int (i : Int), .int ((i + 1 + j : Nat) : Int)])
      refine q (.trn i (i + 1 + j)) _ _ ((S1.trans S2).trans S4) ⟨g, rfl, upd_same⟩ ⟨hev, _, M, by omega, ⟨_, _, ga, gb, by show fs.getD i 0 > fs.getD (i + 1 + j) 0; omega, c2⟩, fun p' q' h1 h2 => ?_⟩
      rcases h2 with h2 | ⟨h2, h3⟩
      · exact hok p' q' h2 h1
      · subst h2
        exact hok2 q' h1 h3
    · rintro σ H' ⟨⟨z4, rfl⟩, S2, hok2⟩
      refine ⟨⟨_, _, rfl⟩, S2, fun p q h1 h2 h3 => ?_⟩
      by_cases e : p = i
      · subst e
        obtain ⟨c, e, h4, h5, h6⟩ := id h3
        have := (List.getElem?_eq_some_iff.mp h5).1
        exact hok2 q h2 (by omega) h3
      · exact hok p q (by omega) h2 h3
  · rintro σ H' ⟨⟨z3, z4, rfl⟩, S', hok⟩
    refine q .even _ _ (S1.trans S') rfl ⟨hev, _, M, fun p q hpq h3 => ?_⟩
    obtain ⟨c, e, h4, _⟩ := id h3
    have := (List.getElem?_eq_some_iff.mp h4).1
    exact hok p q (by omega) hpq h3
seal PySem.eval PySem.spliced in
theorem ok_reason (F : Fun K "reason" "reason" s_reason f fd) (D_count_reason : Df P w K mg base "count_reason" 1 ["one", "other"] spCR) (D_turned_reason : Df P w K mg base "turned_reason" 3 ["one", "other"] spTR) : FnOk P w K mg base CX0 4 f fd ["one", "other"] spReason := by
  have sc := sc_reason
  refine F.ok sc (fun vs H Q E h => ?_) (fun cdv A outer s H vs Q E hr h => ?_)
  · obtain ⟨a, b, xs, ys, rfl, _⟩ := h
    rfl
  obtain ⟨a, b, xs, ys, rfl, La, Lb, hx1, hy1, few, q⟩ := h
  refine ⟨_, (pss_cons (ps_set (i := 2) sc.nd rfl (Or.inl rfl) (pe_callD D_count_reason (hr.mono (by decide)) rfl (pa_cons (pv 0) (pa_cons (pv 1) pa_nil))))
    (pss_cons (ps_if (pt_cmpR op_notN (pv 2) pe_non (nomark _)) (pss_one (ps_ret (pv 2))) pss_nil)
    (pss_one (ps_ret (pe_callD D_turned_reason (hr.mono (by decide)) rfl (pa_cons (pv 0) (pa_cons (pv 1) pa_nil))))))), ?_⟩
  refine ⟨_, rfl, _, rfl, a, b, xs, ys, rfl, La, Lb, hx1, hy1, few, fun r v H1 S1 hv hc => ?_⟩
  rcases hc with ⟨d, n, m, rfl, hi⟩ | ⟨rfl, hev⟩
  · obtain ⟨g, x, rfl, hg, tx⟩ := id hv
    refine ⟨_, rfl, rfl, _, rfl, ite2 (fun _ => ?_) (fun c => absurd rfl c)⟩
    exact ⟨_, rfl, q _ _ _ S1 hv hi⟩
  · have e : v = .non := hv
    subst e
    refine ⟨_, rfl, rfl, _, rfl, ite2 (fun c => absurd c (by decide)) (fun _ => ?_)⟩
    exact ⟨_, rfl, _, rfl, a, b, xs, ys, rfl, La.same S1, Lb.same S1, hx1, hy1, hev, fun r v H2 S2 hv2 hi => q r v H2 (S1.trans S2) hv2 hi⟩
seal PySem.eval PySem.spliced in
theorem ok_lreason (F : Fun K "_law_reason" "_law_reason" s_lreason f fd) (D__law_counts : Df P w K mg base "_law_counts" 1 ["_law_rows"] spCounts) (D__law_mates : Df P w K mg base "_law_mates" 1 ["_law_one", "_law_other"] spPartners) (D__law_clash : Df P w K mg base "_law_clash" 1 ["_law_one", "_law_other"] spClashL) (m_range : mg "range" = none) (m_len : mg "len" = none) (m_min : mg "min" = none) :
    FnOk P w K mg base CX0 2 f fd ["_law_one", "_law_other"] spReasonL := by
  have sc := sc_lreason
  refine F.ok sc (fun vs H Q E h => ?_) (fun cdv A outer s H vs Q E hr h => ?_)
  · obtain ⟨a, b, xs, ys, rfl, _⟩ := h
    rfl
  obtain ⟨a, b, xs, ys, rfl, La, Lb, okx, hx1, hy1, q⟩ := h
  obtain ⟨us, ha, pu⟩ := id La
  obtain ⟨vs, hb, pr⟩ := id Lb
  have hl0 := Paired.length pr
  have hl1 := Paired.length pu
  refine ⟨_, (pss_cons (ps_set (i := 2) sc.nd rfl (Or.inr rfl) (pe_callD D__law_counts (hr.mono (by decide)) rfl (pa_cons (pv 0) pa_nil)))
    (pss_cons (ps_set (i := 3) sc.nd rfl (Or.inr rfl) (pe_callD D__law_counts (hr.mono (by decide)) rfl (pa_cons (pv 1) pa_nil)))
    (pss_cons (ps_setC (i := 4) ["_law_row"] [2, 3] rfl sc.nd rfl rfl (comp_scope sc) (piL K (pe_op op_cat (pv 0) (pv 1))) (fun _ _ _ _ _ => ⟨(pg_name (i := 0) (nd_c sc (by decide +kernel)) rfl (Or.inl rfl)), (pts_one (pt_cmpR op_ne (pe_bmK K PySem.F.plainAttrs_dict PySem.F.slot_dict_get PySem.F.type_dict_get (getD2 hr.units) (pv 1) (pa_cons (pv 0) (pa_cons pe_int pa_nil))) (pe_bmK K PySem.F.plainAttrs_dict PySem.F.slot_dict_get PySem.F.type_dict_get (getD2 hr.units) (pv 2) (pa_cons (pv 0) (pa_cons pe_int pa_nil))) (nomark _))), (pv 0)⟩))
    (pss_cons (ps_if (pt_cmpR (op_neD hr.units) (pv 4) (pe_lst pa_nil) (nomark _)) (pss_cons (ps_set (i := 5) sc.nd rfl (Or.inl rfl) (pe_callB (minDQ rfl hr.units) rfl m_min bt_min (pa_cons (pv 4) pa_nil)))
    (pss_one (ps_ret (pe_tup (pa_cons pe_str (pa_cons (pv 5) (pa_cons (pe_bmK K PySem.F.plainAttrs_dict PySem.F.slot_dict_get PySem.F.type_dict_get (getD2 hr.units) (pv 2) (pa_cons (pv 5) (pa_cons pe_int pa_nil))) (pa_cons (pe_bmK K PySem.F.plainAttrs_dict PySem.F.slot_dict_get PySem.F.type_dict_get (getD2 hr.units) (pv 3) (pa_cons (pv 5) (pa_cons pe_int pa_nil))) pa_nil)))))))) pss_nil)
    (pss_cons (ps_set (i := 6) sc.nd rfl (Or.inl rfl) (pe_callD D__law_mates (hr.mono (by decide)) rfl (pa_cons (pv 0) (pa_cons (pv 1) pa_nil))))
    (pss_cons (ps_for PassesOwn.never rfl (pi_range1 rfl m_range (pa_cons (pe_callB (lenQ K) rfl m_len bt_len (pa_cons (pv 0) pa_nil)) pa_nil)) (pg_name (i := 7) sc.nd rfl (Or.inl rfl)) (pss_one (ps_for PassesOwn.never rfl (pi_range2 rfl m_range (pa_cons (pe_op op_add (pv 7) pe_int) (pa_cons (pe_callB (lenQ K) rfl m_len bt_len (pa_cons (pv 0) pa_nil)) pa_nil))) (pg_name (i := 8) sc.nd rfl (Or.inl rfl)) (pss_one (ps_if (PW.pt (pw_and (pt_cmpR op_gt (pe_ix (ixL K) (pv 6) (pv 7) (fun _ _ => rfl)) (pe_ix (ixL K) (pv 6) (pv 8) (fun _ _ => rfl)) (nomark _)) (pw_and1 (pt_val (pe_callD D__law_clash (hr.mono (by decide)) rfl (pa_cons (pe_ix (ixL K) (pv 0) (pv 7) (fun _ _ => rfl)) (pa_cons (pe_ix (ixL K) (pv 0) (pv 8) (fun _ _ => rfl)) pa_nil))))))) (pss_one (ps_ret (pe_tup (pa_cons pe_str (pa_cons (pv 7) (pa_cons (pv 8) pa_nil)))))) pss_nil)))))
    (pss_one (ps_ret pe_non)))))))), ?_⟩
  refine ⟨_, rfl, a, xs, rfl, La, hx1, fun hc1 H1 S1 h1n AH1 => ?_⟩
  refine ⟨_, rfl, b, ys, rfl, Lb.same S1, hy1, fun hc2 H2 S2 h2n AH2 => ?_⟩
  have S12 := S1.trans S2
  have AH1' := AH1.same S2
  obtain ⟨k1, hk1, hz1, hv1⟩ := id AH1'
  obtain ⟨k2, hk2, hz2, hv2⟩ := id AH2
  refine ⟨_, rfl, _, rfl, a, b, us, vs, rfl, rfl, S12 _ _ ha, S12 _ _ hb, Nat.le_of_lt (small1000 (by omega)), fun p hp => ?_⟩
  have S3 := same_new hp (.lst (us ++ vs))
  have pc := stab_T3.list (S12.trans S3) (_root_.L2.Paired.app pu pr)
  have hlc := Paired.length pc
  have hcc : (us ++ vs).length ≤ 200 := by rw [List.length_append]; omega
  refine ⟨p, rfl, ⟨_, SqL.of upd_same⟩, comp_list (xs := us ++ vs) (fun D j zs H' => Same (upd H2 p (.lst (us ++ vs))) H' ∧ H' D = some (.lst zs) ∧ Paired (T3 (upd H2 p (.lst (us ++ vs)))) zs (((xs ++ ys).take j).filter fun d => decide (cnt d xs ≠ cnt d ys))) (small1000 (by omega)) (fun D hD => ⟨same_new hD _, upd_same, .nil⟩) ?_ ?_ ?_⟩
  · rintro D j zs H' hD hj ⟨S, hl, pz⟩
    refine ⟨SqL.of (S _ _ upd_same), hl, ?_⟩
    rw [Paired.length pz]
    refine Nat.le_trans (List.length_filter_le _ _) ?_
    rw [List.length_take]
    omega
  · rintro D j x zs H' hD hx ⟨S, hl, pz⟩
    obtain ⟨d, gd, td⟩ := Paired.getL pc hx
    have td' := td.same S
    have et : (xs ++ ys).take (j + 1) = (xs ++ ys).take j ++ [d] := by rw [List.take_add_one, gd]; rfl
    refine ⟨rfl, ?_⟩
    refine ⟨_, rfl, tyD (S _ _ (S3 _ _ hk1)), _, rfl, hc1, k1, d, x, .int 0, rfl, rfl, S _ _ (S3 _ _ hk1), td', ?_⟩
    rw [(hv1 d).1]
    refine ⟨_, rfl, tyD (S _ _ (S3 _ _ hk2)), _, rfl, hc2, k2, d, x, .int 0, rfl, rfl, S _ _ (S3 _ _ hk2), td', ?_⟩
    rw [(hv2 d).1]
    refine ⟨rfl, _, rfl, iteIn (fun c => ⟨_, rfl, hl, S.wr hD _, upd_same, ?_⟩) (fun c => ⟨S, hl, ?_⟩)⟩
    · rw [et, List.filter_append, List.filter_cons, if_pos (decide_eq_true (show cnt d xs ≠ cnt d ys from fun z => c (by rw [z])))]
      exact _root_.L2.Paired.app pz (.cons td .nil)
    · rw [et, List.filter_append, List.filter_cons, if_neg (by simp; omega), List.filter_nil, List.append_nil]
      exact pz
  · rintro D zs H4 hD ⟨S4, hl, pz⟩
    rw [hlc, List.take_length] at pz
    have S24 := S3.trans S4
    have S04 := S12.trans S24
    have Lo : LD H4 D ((xs ++ ys).filter fun d => decide (cnt d xs ≠ cnt d ys)) := ⟨zs, hl, stab_T3.list S4 pz⟩
    have hod : ∀ d, d ∈ (xs ++ ys).filter (fun d => decide (cnt d xs ≠ cnt d ys)) ↔ cnt d xs ≠ cnt d ys := fun d => by
      rw [List.mem_filter]
      exact ⟨fun z => of_decide_eq_true z.2, fun z => ⟨odd_mem z, decide_eq_true z⟩⟩
    generalize ((xs ++ ys).filter fun d => decide (cnt d xs ≠ cnt d ys)) = od at Lo hod
    refine ⟨_, rfl, (by decide : 0 ≤ sizeLine), fun e he => ?_⟩
    have S5 := same_new he (.lst [])
    have Lo5 := Lo.same S5
    refine ⟨dL od, dL [], Lo5.dat, .lst upd_same .nil, Nat.le_trans (enc_dL.dep _) (by decide), ?_⟩
    rw [enc_dL.dec]
    have S05 := S04.trans S5
    have S25 := S24.trans S5
    refine ⟨_, rfl, iteB (fun c => ?_) (fun c => ?_)⟩
    rotate_left
    · refine ⟨_, rfl, D, od, rfl, Lo5, of_decide_eq_false c, fun x d tx dm dl => ?_⟩
      refine ⟨_, rfl, _, rfl, tyD (S25 _ _ hk1), _, rfl, hc1, k1, d, x, .int 0, rfl, rfl, S25 _ _ hk1, tx, ?_⟩
      rw [(hv1 d).1]
      refine ⟨_, rfl, tyD (S25 _ _ hk2), _, rfl, hc2, k2, d, x, .int 0, rfl, rfl, S25 _ _ hk2, tx, ?_⟩
      rw [(hv2 d).1]
      refine ⟨sm rfl, fun g hg => ?_⟩
      have S6 := same_new hg (.tup [.str "count", x, .int ((cnt d xs : Nat) : Int), .int ((cnt d ys : Nat) : Int)])
      exact q (.cnt d (cnt d xs) (cnt d ys)) _ _ (S05.trans S6) ⟨g, x, rfl, upd_same, tx.same S6⟩ ⟨⟨(hod d).mp dm, fun e he => dl e ((hod e).mpr he)⟩, rfl, rfl⟩
    · have hev : Even xs ys := fun d => by
        apply Classical.byContradiction
        intro z
        have dm := (hod d).mpr z
        rw [of_decide_eq_true c] at dm
        cases dm
      have La5 := La.same S05
      refine ⟨_, rfl, _, rfl, a, b, xs, ys, rfl, La5, Lb.same S05, hx1, hy1, hev, fun r fs H6 S6 hr er hfl M => ?_⟩
      generalize upd H4 e (.lst []) = H5 at S5 Lo5 S05 S25 La5 S6 hr
      have S1 := S05.trans S6
      refine ⟨_, rfl, a, us, rfl, .inl (SqL.of (S1 _ _ ha)), _, rfl, by omega, by omega, ?_⟩
      rw [Int.toNat_natCast]
      have fat : ∀ p, p < xs.length → atI (ixs fs) (p : Int) = some (.int ((fs.getD p 0 : Nat) : Int)) := fun p hp => by
        refine atI_nat ?_
        unfold ixs
        rw [List.getElem?_map, List.getD_eq_getElem?_getD, List.getElem?_eq_getElem (by omega : p < fs.length)]; rfl
      have pu1 := stab_T3.list S1 pu
      refine for_range (n := us.length) (fun i σ H' => (∃ z3 z4, σ = [some (.ref a), some (.ref b), some (.ref hc1), some (.ref hc2), some (.ref D), none, some (.ref r), z3, z4]) ∧ Same H6 H' ∧ ∀ p q, p < i → p < q → ¬ TurnP xs (fun p => fs.getD p 0) p q) ⟨⟨none, none, rfl⟩, Same.refl _, fun p q h => absurd h (Nat.not_lt_zero _)⟩ ?_ ?_
      · rintro i σ H' hi ⟨⟨z3, z4, rfl⟩, S', hok⟩
        have ei : (0 : Int) + (i : Int) = (i : Int) := Int.zero_add _
        rw [ei]
        refine ⟨_, rfl, _, _, rfl, rfl, _, rfl, a, us, rfl, .inl (SqL.of (S' _ _ (S1 _ _ ha))), (i : Int) + 1, _, rfl, ⟨by omega, by omega, by omega, by omega⟩, ?_⟩
        refine for_range (n := ((us.length : Int) - ((i : Int) + 1)).toNat) (fun j σ H2 => (∃ z4, σ = [some (.ref a), some (.ref b), some (.ref hc1), some (.ref hc2), some (.ref D), none, some (.ref r), some (.int (i : Int)), z4]) ∧ Same H6 H2 ∧ ∀ q, i < q → q < i + 1 + j → ¬ TurnP xs (fun p => fs.getD p 0) i q) ⟨⟨z4, rfl⟩, S', fun q h1 h2 => by omega⟩ ?_ ?_
        · rintro j σ H' hj ⟨⟨z4, rfl⟩, S2, hok2⟩
          have ej : (i : Int) + 1 + (j : Int) = ((i + 1 + j : Nat) : Int) := by omega
          rw [ej]
          have hq : i + 1 + j < xs.length := by omega
          have ga : xs[i]? = some xs[i] := List.getElem?_eq_getElem (by omega)
          have gb : xs[i + 1 + j]? = some xs[i + 1 + j] := List.getElem?_eq_getElem hq
          obtain ⟨va, gva, ta⟩ := Paired.getR pu1 ga
          obtain ⟨vb, gvb, tb⟩ := Paired.getR pu1 gb
          have go : (fs.getD i 0 > fs.getD (i + 1 + j) 0 ∧ clashB xs[i] xs[i + 1 + j] = true → False) → ∀ q, i < q → q < i + 1 + (j + 1) → ¬ TurnP xs (fun p => fs.getD p 0) i q := by
            rintro hn q h1 h2 ⟨c, e, h3, h4, h5, h6⟩
            by_cases eq : q = i + 1 + j
            · subst eq
              rw [ga] at h3; cases h3
              rw [gb] at h4; cases h4
              exact hn ⟨h5, h6⟩
            · exact hok2 q h1 (by omega) ⟨c, e, h3, h4, h5, h6⟩
          refine ⟨_, rfl, _, rfl, _, _, _, _, rfl, rfl, SqL.of (S2 _ _ er), fat i (by omega), _, rfl, _, rfl, _, _, _, _, rfl, rfl, SqL.of (S2 _ _ er), fat _ hq, _, _, rfl, rfl, _, rfl, iteD (fun c1 => ?_) (fun c1 => iteF ⟨⟨_, rfl⟩, S2, go fun z => by omega⟩)⟩
          refine ⟨_, rfl, _, rfl, _, _, _, _, rfl, rfl, SqL.of (S2 _ _ (S1 _ _ ha)), atI_nat gva, _, rfl, _, rfl, _, _, _, _, rfl, rfl, SqL.of (S2 _ _ (S1 _ _ ha)), atI_nat gvb, ?_⟩
          refine ⟨_, _, xs[i], xs[i + 1 + j], rfl, ta.same S2, tb.same S2, ?_⟩
          rw [clashL_eq (okx _ (List.getElem_mem _)) (okx _ (List.getElem_mem _))]
          refine ⟨_, rfl, ite2 (fun c2 => ?_) (fun c2 => ⟨⟨_, rfl⟩, S2, go fun z => c2 z.2⟩)⟩
          refine ⟨_, rfl, _, rfl, sm rfl, fun g hg => ?_⟩
          have S4 := same_new hg (.tup [.str "turned", .int (i : Int), .int ((i + 1 + j : Nat) : Int)])
          refine q (.trn i (i + 1 + j)) _ _ ((S1.trans S2).trans S4) ⟨g, rfl, upd_same⟩ ⟨hev, _, M, by omega, ⟨_, _, ga, gb, by show fs.getD i 0 > fs.getD (i + 1 + j) 0; omega, c2⟩, fun p' q' h1 h2 => ?_⟩
          rcases h2 with h2 | ⟨h2, h3⟩
          · exact hok p' q' h2 h1
          · subst h2
            exact hok2 q' h1 h3
        · rintro σ H' ⟨⟨z4, rfl⟩, S2, hok2⟩
          refine ⟨⟨_, _, rfl⟩, S2, fun p q h1 h2 h3 => ?_⟩
          by_cases e : p = i
          · subst e
            obtain ⟨c, e, h4, h5, h6⟩ := id h3
            have := (List.getElem?_eq_some_iff.mp h5).1
            exact hok2 q h2 (by omega) h3
          · exact hok p q (by omega) h2 h3
      · rintro σ H' ⟨⟨z3, z4, rfl⟩, S', hok⟩
        refine q .even _ _ (S1.trans S') rfl ⟨hev, _, M, fun p q hpq h3 => ?_⟩
        obtain ⟨c, e, h4, _⟩ := id h3
        have := (List.getElem?_eq_some_iff.mp h4).1
        exact hok p q (by omega) hpq h3
end
end K08

namespace K08
open PySem L2
abbrev s_told : Stmt := top 23
theorem sc_told : FnScope ["_law_found", "_law_due", "_law_numbers"] ["_law_found", "_law_due"] (defScope s_told) := ⟨rfl, rfl, rfl, by decide +kernel, rfl, by decide +kernel, by decide +kernel⟩
section
variable {P : Program} {w : World} {K : PySem.W.Frag} {mg : Str → Option Value} {base : Heap} {f : Addr} {fd : FuncData}
seal PySem.eval PySem.spliced in
theorem ok_told (F : Fun K "_law_told" "_law_told" s_told f fd) (D__law_whole : Df P w K mg base "_law_whole" 1 ["_law_found"] spWholeI) (m_isinstance : mg "isinstance" = none) (m_tuple : mg "tuple" = none) (m_str : mg "str" = none) (m_list : mg "list" = none) (m_len : mg "len" = none) :
    FnOk P w K mg base CX0 2 f fd ["_law_found", "_law_due"] spToldR := by
  have sc := sc_told
  refine F.ok sc (fun vs H Q E h => ?_) (fun cdv A outer s H vs Q E hr h => ?_)
  · obtain ⟨r, x, y, rfl, _⟩ := h
    rfl
  obtain ⟨r, x, y, rfl, hx, hy, q⟩ := h
  refine ⟨_, (pss_cons (ps_if (pt_cmpR op_isN (pv 1) pe_non (nomark _)) (pss_one (ps_ret (pe_cmpR op_isN (pv 0) pe_non (nomark _)))) pss_nil)
    (pss_cons (ps_if (PW.pt (pw_or (pt_not (pt_val (pe_callB (isI K) rfl m_isinstance bt_isinstance (pa_cons (pv 0) (pa_cons (pe_type rfl m_tuple bt_tuple) pa_nil))))) (pw_or (pt_cmpR op_ne (pe_callB (lenQ K) rfl m_len bt_len (pa_cons (pv 0) pa_nil)) (pe_callB (lenQ K) rfl m_len bt_len (pa_cons (pv 1) pa_nil)) (nomark _)) (pw_or1 (pt_not (pt_val (pe_callB (isI K) rfl m_isinstance bt_isinstance (pa_cons (pe_ix (ixT K) (pv 0) pe_int (fun _ _ => rfl)) (pa_cons (pe_type rfl m_str bt_str) pa_nil))))))))) (pss_one (ps_ret pe_bl)) pss_nil)
    (pss_cons (ps_set (i := 2) sc.nd rfl (Or.inl rfl) (pe_callTy (listOf K) rfl m_list bt_list (pa_cons (pe_slice (slT K) (pv 0) (po_some pe_int) po_none) pa_nil)))
    (pss_cons (ps_if (pt_cmpR op_eq (pe_ix (ixT K) (pv 1) pe_int (fun _ _ => rfl)) pe_str (nomark _)) (pss_cons (ps_if (pt_not (pt_val (pe_callB (isI K) rfl m_isinstance bt_isinstance (pa_cons (pe_ix (ixT K) (pv 0) pe_int (fun _ _ => rfl)) (pa_cons (pe_type rfl m_tuple bt_tuple) pa_nil))))) (pss_one (ps_ret pe_bl)) pss_nil)
    (pss_one (ps_set (i := 2) sc.nd rfl (Or.inl rfl) (pe_op op_cat (pe_callTy (listOf K) rfl m_list bt_list (pa_cons (pe_ix (ixT K) (pv 0) pe_int (fun _ _ => rfl)) pa_nil)) (pe_callTy (listOf K) rfl m_list bt_list (pa_cons (pe_slice (slT K) (pv 0) (po_some pe_int) po_none) pa_nil)))))) pss_nil)
    (pss_one (ps_ret (pe_and (pe_cmpR (op_eqD hr.units) (pe_comp ["_law_number"] [] rfl (comp_scope sc) (piL K (pv 2)) (fun _ _ _ _ _ => ⟨(pg_name (i := 0) (nd_c sc (by decide +kernel)) rfl (Or.inl rfl)), (pts_one (pt_not (pt_val (pe_callD D__law_whole (hr.mono (by decide)) rfl (pa_cons (pv 0) pa_nil))))), (pv 0)⟩)) (pe_lst pa_nil) (nomark _)) (pe_one (pe_cmpR (op_eqD hr.units) (pv 0) (pv 1) (nomark _)))))))))), ?_⟩
  cases r with
  | even =>
    have e1 : x = .non := hx
    have e2 : y = .non := hy
    subst e1 e2
    refine ⟨_, rfl, rfl, _, rfl, ite2 (fun _ => ?_) (fun c => absurd rfl c)⟩
    exact ⟨_, rfl, rfl, q H (Same.refl _)⟩
  | trn n m =>
    obtain ⟨a, rfl, ha⟩ := id hx
    obtain ⟨b, rfl, hb⟩ := id hy
    refine ⟨_, rfl, rfl, _, rfl, iteD (fun c => nomatch c) (fun _ => ?_)⟩
    refine ⟨_, rfl, _, _, _, _, true, rfl, rfl, .tup ha, kit_same, true, rfl, iteF ?_⟩
    refine ⟨_, rfl, a, _, rfl, .inr (SqT.of ha), _, rfl, b, _, rfl, .inr (SqT.of hb), rfl, _, rfl, iteIn (fun c => absurd rfl c) (fun _ => ?_)⟩
    refine ⟨_, rfl, _, _, _, _, rfl, rfl, SqT.of ha, rfl, _, _, _, _, true, rfl, rfl, .str _, kit_same, true, rfl, iteF ?_⟩
    refine ⟨_, rfl, 1, rfl, a, _, rfl, SqT.of ha, fun z => absurd (show (1 : Nat) = 0 from z.1) (by decide), fun c1 hc1 => ?_⟩
    rw [show cutV [V.str "turned", V.int (n : Int), V.int (m : Int)] (some 1) none = [.int (n : Int), .int (m : Int)] from rfl]
    have S1 := same_new hc1 (.tup [.int (n : Int), .int (m : Int)])
    refine ⟨c1, _, rfl, .inr (SqT.of upd_same), fun l hl => ?_⟩
    have Sl := S1.new hl (.lst [.int (n : Int), .int (m : Int)])
    have el : upd (upd H c1 (.tup [.int (n : Int), .int (m : Int)])) l (.lst [.int (n : Int), .int (m : Int)]) l = some (.lst ([(n : Int), (m : Int)].map V.int)) := upd_same
    refine ⟨_, rfl, _, _, _, _, rfl, rfl, SqT.of (Sl _ _ hb), rfl, rfl, _, rfl, iteD (fun c => absurd c (by decide)) (fun _ => ?_)⟩
    generalize upd (upd H c1 (.tup [.int (n : Int), .int (m : Int)])) l (.lst [.int (n : Int), .int (m : Int)]) = Hl at Sl el
    refine ⟨_, rfl, l, rfl, ⟨_, SqL.of el⟩, comp_list (xs := [(n : Int), (m : Int)].map V.int) (fun D j zs H2 => Same Hl H2 ∧ H2 D = some (.lst zs) ∧ zs = []) (small1000 (by show 2 ≤ 1000; decide)) (fun D hD => ⟨same_new hD _, upd_same, rfl⟩) ?_ ?_ ?_⟩
    · rintro D j zs H2 hD hj ⟨S2, h2, rfl⟩
      exact ⟨SqL.of (S2 _ _ el), h2, Nat.zero_le _⟩
    · rintro D j y zs H2 hD hy2 ⟨S2, h2, rfl⟩
      obtain ⟨k, _, rfl⟩ := ints_get hy2
      exact ⟨rfl, _, rfl, k, rfl, _, rfl, iteF ⟨S2, h2, rfl⟩⟩
    · rintro D zs H2 hD ⟨S2, h2, rfl⟩
      refine ⟨(by decide : 0 ≤ sizeLine), fun e2 he2 => ?_⟩
      have S3 := S2.new he2 (.lst [])
      refine ⟨dL [], dL [], .lst (new_at he2 h2) .nil, .lst upd_same .nil, Nat.le_trans (enc_dL.dep _) (by decide), ?_⟩
      rw [enc_dL.dec]
      have SE := Sl.trans S3
      refine ⟨true, rfl, iteT ⟨_, rfl, _, rfl, dT n m, dT n m, dat_dT (SE _ _ ha), dat_dT (SE _ _ hb), dT_dep n m, ?_⟩⟩
      rw [dT_self]
      exact q _ SE
  | cnt d n m =>
    obtain ⟨a, x1, rfl, ha, tx⟩ := id hx
    obtain ⟨b, y1, rfl, hb, ty⟩ := id hy
    obtain ⟨xa, rfl, hxa⟩ := id tx
    refine ⟨_, rfl, rfl, _, rfl, iteD (fun c => nomatch c) (fun _ => ?_)⟩
    refine ⟨_, rfl, _, _, _, _, true, rfl, rfl, .tup ha, kit_same, true, rfl, iteF ?_⟩
    refine ⟨_, rfl, a, _, rfl, .inr (SqT.of ha), _, rfl, b, _, rfl, .inr (SqT.of hb), rfl, _, rfl, iteIn (fun c => absurd rfl c) (fun _ => ?_)⟩
    refine ⟨_, rfl, _, _, _, _, rfl, rfl, SqT.of ha, rfl, _, _, _, _, true, rfl, rfl, .str _, kit_same, true, rfl, iteF ?_⟩
    refine ⟨_, rfl, 1, rfl, a, _, rfl, SqT.of ha, fun z => absurd (show (1 : Nat) = 0 from z.1) (by decide), fun c1 hc1 => ?_⟩
    rw [show cutV [V.str "count", V.ref xa, V.int (n : Int), V.int (m : Int)] (some 1) none = [.ref xa, .int (n : Int), .int (m : Int)] from rfl]
    have S1 := same_new hc1 (.tup [.ref xa, .int (n : Int), .int (m : Int)])
    refine ⟨c1, _, rfl, .inr (SqT.of upd_same), fun l0 hl0 => ?_⟩
    have S2 := S1.new hl0 (.lst [.ref xa, .int (n : Int), .int (m : Int)])
    refine ⟨_, rfl, _, _, _, _, rfl, rfl, SqT.of (S2 _ _ hb), rfl, rfl, _, rfl, iteD (fun _ => ?_) (fun c => absurd rfl c)⟩
    refine ⟨_, rfl, _, _, _, _, rfl, rfl, SqT.of (S2 _ _ ha), rfl, _, _, _, _, true, rfl, rfl, .tup (S2 _ _ hxa), kit_same, true, rfl, iteF ?_⟩
    refine ⟨_, rfl, _, _, _, _, rfl, rfl, SqT.of (S2 _ _ ha), rfl, xa, _, rfl, .inr (SqT.of (S2 _ _ hxa)), fun l1 hl1 => ?_⟩
    have S3 := S2.new hl1 (.lst (tupV d))
    refine ⟨_, rfl, 2, rfl, a, _, rfl, SqT.of (S3 _ _ ha), fun z => absurd (show (2 : Nat) = 0 from z.1) (by decide), fun c2 hc2 => ?_⟩
    rw [show cutV [V.str "count", V.ref xa, V.int (n : Int), V.int (m : Int)] (some 2) none = [.int (n : Int), .int (m : Int)] from rfl]
    have S4 := S3.new hc2 (.tup [.int (n : Int), .int (m : Int)])
    refine ⟨c2, _, rfl, .inr (SqT.of upd_same), fun l2 hl2 => ?_⟩
    have S5 := S4.new hl2 (.lst [.int (n : Int), .int (m : Int)])
    refine ⟨l1, l2, _, _, rfl, rfl, new_at hl2 (new_at hc2 upd_same), upd_same, Nat.le_of_lt (small1000 (by show 5 ≤ 1000; decide)), fun l hl => ?_⟩
    have Sl := S5.new hl (.lst (tupV d ++ [.int (n : Int), .int (m : Int)]))
    have el : upd (upd (upd (upd (upd (upd H c1 (.tup [.ref xa, .int (n : Int), .int (m : Int)])) l0 (.lst [.ref xa, .int (n : Int), .int (m : Int)])) l1 (.lst (tupV d))) c2 (.tup [.int (n : Int), .int (m : Int)])) l2 (.lst [.int (n : Int), .int (m : Int)])) l (.lst (tupV d ++ [.int (n : Int), .int (m : Int)])) l = some (.lst ([d.1, d.2.1, d.2.2, (n : Int), (m : Int)].map V.int)) := upd_same
    generalize upd (upd (upd (upd (upd (upd H c1 (.tup [.ref xa, .int (n : Int), .int (m : Int)])) l0 (.lst [.ref xa, .int (n : Int), .int (m : Int)])) l1 (.lst (tupV d))) c2 (.tup [.int (n : Int), .int (m : Int)])) l2 (.lst [.int (n : Int), .int (m : Int)])) l (.lst (tupV d ++ [.int (n : Int), .int (m : Int)])) = Hl at Sl el
    refine ⟨_, rfl, l, rfl, ⟨_, SqL.of el⟩, comp_list (xs := [d.1, d.2.1, d.2.2, (n : Int), (m : Int)].map V.int) (fun D j zs H2 => Same Hl H2 ∧ H2 D = some (.lst zs) ∧ zs = []) (small1000 (by show 5 ≤ 1000; decide)) (fun D hD => ⟨same_new hD _, upd_same, rfl⟩) ?_ ?_ ?_⟩
    · rintro D j zs H2 hD hj ⟨S2, h2, rfl⟩
      exact ⟨SqL.of (S2 _ _ el), h2, Nat.zero_le _⟩
    · rintro D j y zs H2 hD hy2 ⟨S2, h2, rfl⟩
      obtain ⟨k, _, rfl⟩ := ints_get hy2
      exact ⟨rfl, _, rfl, k, rfl, _, rfl, iteF ⟨S2, h2, rfl⟩⟩
    · rintro D zs H2 hD ⟨S2, h2, rfl⟩
      refine ⟨(by decide : 0 ≤ sizeLine), fun e2 he2 => ?_⟩
      have S3 := S2.new he2 (.lst [])
      refine ⟨dL [], dL [], .lst (new_at he2 h2) .nil, .lst upd_same .nil, Nat.le_trans (enc_dL.dep _) (by decide), ?_⟩
      rw [enc_dL.dec]
      have SE := Sl.trans S3
      refine ⟨true, rfl, iteT ⟨_, rfl, _, rfl, dC d n m, dC d n m, dat_dC (SE _ _ ha) (tx.same SE), dat_dC (SE _ _ hb) (ty.same SE), dC_dep d n m, ?_⟩⟩
      rw [dC_self]
      exact q _ SE
end
end K08

namespace K08
open PySem L2
abbrev s_pairs : Stmt := top 25
abbrev s_walked : Stmt := top 24
theorem sc_pairs : FnScope ["_law_one", "_law_other", "_law_mates_here", "_law_many", "_law_p", "_law_q"] ["_law_one", "_law_other"] (defScope s_pairs) := ⟨rfl, rfl, rfl, by decide +kernel, rfl, by decide +kernel, by decide +kernel⟩
theorem sc_walked : FnScope ["_law_found", "_law_one", "_law_other", "_law_now", "_law_step", "_law_k", "_law_at"] ["_law_found", "_law_one", "_law_other"] (defScope s_walked) := ⟨rfl, rfl, rfl, by decide +kernel, rfl, by decide +kernel, by decide +kernel⟩
theorem swap_ins {α : Type} (A B : List α) (x d : α) (n : Nat) (hn : A.length = n) : ((A ++ x :: d :: B).eraseIdx (n + 1)).take n ++ d :: ((A ++ x :: d :: B).eraseIdx (n + 1)).drop n = A ++ d :: x :: B := by
  have e : (A ++ x :: d :: B).eraseIdx (n + 1) = A ++ x :: B := by
    rw [List.eraseIdx_append_of_length_le (by omega), show n + 1 - A.length = 1 by omega]
    rfl
  rw [e, List.take_append_of_le_length (by omega), List.take_of_length_le (by omega), List.drop_append_of_le_length (by omega), List.drop_of_length_le (by omega), List.nil_append]
section
variable {P : Program} {w : World} {K : PySem.W.Frag} {mg : Str → Option Value} {base : Heap} {f : Addr} {fd : FuncData}
seal PySem.eval PySem.spliced in
theorem ok_pairs (F : Fun K "_law_pairs" "_law_pairs" s_pairs f fd) (D__law_mates : Df P w K mg base "_law_mates" 1 ["_law_one", "_law_other"] spPartners) (m_range : mg "range" = none) (m_len : mg "len" = none) : FnOk P w K mg base CX0 2 f fd ["_law_one", "_law_other"] spPairsR := by
  have sc := sc_pairs
  refine F.ok sc (fun vs H Q E h => ?_) (fun cdv A outer s H vs Q E hr h => ?_)
  · obtain ⟨a, b, xs, ys, rfl, _⟩ := h
    rfl
  obtain ⟨a, b, xs, ys, rfl, La, Lb, hx1, hy1, hev, q⟩ := h
  refine ⟨_, (pss_cons (ps_set (i := 2) sc.nd rfl (Or.inl rfl) (pe_callD D__law_mates (hr.mono (by decide)) rfl (pa_cons (pv 0) (pa_cons (pv 1) pa_nil))))
    (pss_cons (ps_set (i := 3) sc.nd rfl (Or.inl rfl) pe_int)
    (pss_cons (ps_for PassesOwn.never rfl (pi_range1 rfl m_range (pa_cons (pe_callB (lenQ K) rfl m_len bt_len (pa_cons (pv 2) pa_nil)) pa_nil)) (pg_name (i := 4) sc.nd rfl (Or.inl rfl)) (pss_one (ps_for PassesOwn.never rfl (pi_range2 rfl m_range (pa_cons (pe_op op_add (pv 4) pe_int) (pa_cons (pe_callB (lenQ K) rfl m_len bt_len (pa_cons (pv 2) pa_nil)) pa_nil))) (pg_name (i := 5) sc.nd rfl (Or.inl rfl)) (pss_one (ps_if (pt_cmpR op_gt (pe_ix (ixL K) (pv 2) (pv 4) (fun _ _ => rfl)) (pe_ix (ixL K) (pv 2) (pv 5) (fun _ _ => rfl)) (nomark _)) (pss_one (ps_set (i := 3) sc.nd rfl (Or.inl rfl) (pe_op op_add (pv 3) pe_int))) pss_nil)))))
    (pss_one (ps_ret (pv 3)))))), ?_⟩
  refine ⟨_, rfl, _, rfl, a, b, xs, ys, rfl, La, Lb, hx1, hy1, hev, fun r fs H1 S1 hr er hfl M => ?_⟩
  have q' := q _ H1 S1 M
  have efs : (List.range xs.length).map (fun p => fs.getD p 0) = fs := by
    refine List.ext_getElem? fun i => ?_
    rw [List.getElem?_map]
    by_cases hi : i < xs.length
    · rw [List.getElem?_range hi, List.getElem?_eq_getElem (by omega : i < fs.length), Option.map_some, List.getD_eq_getElem?_getD, List.getElem?_eq_getElem (by omega : i < fs.length)]; rfl
    · rw [List.getElem?_eq_none (by rw [List.length_range]; omega), List.getElem?_eq_none (by omega)]; rfl
  rw [efs] at q'
  have hlx : (ixs fs).length = fs.length := by unfold ixs; rw [List.length_map]
  have fat : ∀ p (hp : p < fs.length), atI (ixs fs) (p : Int) = some (.int ((fs[p] : Nat) : Int)) := fun p hp => by
    refine atI_nat ?_
    unfold ixs
    rw [List.getElem?_map, List.getElem?_eq_getElem hp]; rfl
  refine ⟨_, rfl, r, _, rfl, .inl (SqL.of er), _, rfl, by omega, by omega, ?_⟩
  rw [Int.toNat_natCast]
  refine for_range (n := (ixs fs).length) (fun i σ H' => ∃ (c : Nat) (z4 z5 : Option V), σ = [some (.ref a), some (.ref b), some (.ref r), some (.int (c : Int)), z4, z5] ∧ H' = H1 ∧ c + inv (fs.drop i) = inv fs) ⟨0, none, none, rfl, rfl, by rw [List.drop_zero]; omega⟩ ?_ ?_
  · rintro i σ H' hi ⟨c, z4, z5, rfl, rfl, hc⟩
    have hi' : i < fs.length := by omega
    have ei : (0 : Int) + (i : Int) = (i : Int) := Int.zero_add _
    rw [ei]
    refine ⟨_, rfl, _, _, rfl, rfl, _, rfl, r, _, rfl, .inl (SqL.of er), (i : Int) + 1, _, rfl, ⟨by omega, by omega, by omega, by omega⟩, ?_⟩
    refine for_range (n := (((ixs fs).length : Int) - ((i : Int) + 1)).toNat) (fun j σ H2 => ∃ (z5 : Option V), σ = [some (.ref a), some (.ref b), some (.ref r), some (.int ((c + ((fs.drop (i + 1)).take j).countP (fun y => decide (y < fs[i])) : Nat) : Int)), some (.int (i : Int)), z5] ∧ H2 = H') ⟨z5, by simp, rfl⟩ ?_ ?_
    · rintro j σ H2 hj ⟨z5, rfl, rfl⟩
      have ej : (i : Int) + 1 + (j : Int) = ((i + 1 + j : Nat) : Int) := by omega
      rw [ej]
      have hq : i + 1 + j < fs.length := by omega
      have et : (fs.drop (i + 1)).take (j + 1) = (fs.drop (i + 1)).take j ++ [fs[i + 1 + j]] := by
        rw [List.take_add_one, List.getElem?_drop, List.getElem?_eq_getElem hq]; rfl
      refine ⟨_, rfl, _, rfl, _, _, _, _, rfl, rfl, SqL.of er, fat i hi', _, rfl, _, rfl, _, _, _, _, rfl, rfl, SqL.of er, fat _ hq, _, _, rfl, rfl, _, rfl, iteD (fun c1 => ?_) (fun c1 => ?_)⟩
      · refine ⟨_, rfl, _, _, rfl, rfl, some (.int ((i + 1 + j : Nat) : Int)), ?_, rfl⟩
        have hn : ((c + ((fs.drop (i + 1)).take (j + 1)).countP (fun y => decide (y < fs[i])) : Nat) : Int) = ((c + ((fs.drop (i + 1)).take j).countP (fun y => decide (y < fs[i])) : Nat) : Int) + 1 := by
          rw [et, List.countP_append, List.countP_cons, if_pos (decide_eq_true (by omega)), List.countP_nil]
          omega
        rw [hn]
        rfl
      · refine ⟨some (.int ((i + 1 + j : Nat) : Int)), ?_, rfl⟩
        have hn : ((fs.drop (i + 1)).take (j + 1)).countP (fun y => decide (y < fs[i])) = ((fs.drop (i + 1)).take j).countP (fun y => decide (y < fs[i])) := by
          rw [et, List.countP_append, List.countP_cons, if_neg (by rw [decide_eq_true_iff]; omega), List.countP_nil]
          omega
        rw [hn]
        rfl
    · rintro σ H2 ⟨z5, rfl, rfl⟩
      refine ⟨_, _, _, rfl, rfl, ?_⟩
      rw [List.take_of_length_le (by rw [List.length_drop]; omega), ← hc, List.drop_eq_getElem_cons hi']
      show _ = c + (_ + inv (fs.drop (i + 1)))
      omega
  · rintro σ H' ⟨c, z4, z5, rfl, rfl, hc⟩
    rw [hlx, List.drop_length] at hc
    have : c = inv fs := hc
    subst this
    exact ⟨_, rfl, q'⟩
seal PySem.eval PySem.spliced in
theorem ok_walked (F : Fun K "_law_walked" "_law_walked" s_walked f fd) (D__law_whole : Df P w K mg base "_law_whole" 1 ["_law_found"] spWholeI) (D__law_clash : Df P w K mg base "_law_clash" 1 ["_law_one", "_law_other"] spClashL) (m_list : mg "list" = none) (m_range : mg "range" = none) (m_len : mg "len" = none) : FnOk P w K mg base CX0 2 f fd ["_law_found", "_law_one", "_law_other"] spWalked := by
  have sc := sc_walked
  refine F.ok sc (fun vs H Q E h => ?_) (fun cdv A outer s H vs Q E hr h => ?_)
  · obtain ⟨p, a, b, ps, xs, ys, rfl, _⟩ := h
    rfl
  obtain ⟨p, a, b, ps, xs, ys, rfl, hp, La, Lb, okx, hx1, hy1, hw, q⟩ := h
  obtain ⟨us, ha, pu⟩ := id La
  obtain ⟨vs, hb, pr⟩ := id Lb
  have hl0 := Paired.length pr
  have hl1 := Paired.length pu
  refine ⟨_, (pss_cons (ps_set (i := 3) sc.nd rfl (Or.inl rfl) (pe_callTy (listOf K) rfl m_list bt_list (pa_cons (pv 1) pa_nil)))
    (pss_cons (ps_set (i := 4) sc.nd rfl (Or.inl rfl) pe_int)
    (pss_cons (ps_for PassesOwn.never rfl (pi_range1 rfl m_range (pa_cons (pe_callB (lenQ K) rfl m_len bt_len (pa_cons (pv 2) pa_nil)) pa_nil)) (pg_name (i := 5) sc.nd rfl (Or.inl rfl)) (pss_cons (ps_set (i := 6) sc.nd rfl (Or.inl rfl) (pv 5))
    (pss_cons (ps_while PassesOwn.never (pt_cmpR (op_neD hr.units) (pe_ix (ixL K) (pv 3) (pv 6) (fun _ _ => rfl)) (pe_ix (ixL K) (pv 2) (pv 5) (fun _ _ => rfl)) (nomark _)) (pss_one (ps_set (i := 6) sc.nd rfl (Or.inl rfl) (pe_op op_add (pv 6) pe_int))))
    (pss_one (ps_while PassesOwn.never (pt_cmpR op_gt (pv 6) (pv 5) (nomark _)) (pss_cons (ps_set (i := 6) sc.nd rfl (Or.inl rfl) (pe_op op_sub (pv 6) pe_int))
    (pss_cons (ps_if (PW.pt (pw_or (pt_cmpR op_ge (pv 4) (pe_callB (lenQ K) rfl m_len bt_len (pa_cons (pv 0) pa_nil)) (nomark _)) (pw_or (pt_not (pt_val (pe_callD D__law_whole (hr.mono (by decide)) rfl (pa_cons (pe_ix (ixL K) (pv 0) (pv 4) (fun _ _ => rfl)) pa_nil)))) (pw_or1 (pt_cmpR op_ne (pe_ix (ixL K) (pv 0) (pv 4) (fun _ _ => rfl)) (pv 6) (nomark _)))))) (pss_one (ps_ret pe_bl)) pss_nil)
    (pss_cons (ps_if (pt_val (pe_callD D__law_clash (hr.mono (by decide)) rfl (pa_cons (pe_ix (ixL K) (pv 3) (pv 6) (fun _ _ => rfl)) (pa_cons (pe_ix (ixL K) (pv 3) (pe_op op_add (pv 6) pe_int) (fun _ _ => rfl)) pa_nil)))) (pss_one (ps_ret pe_bl)) pss_nil)
    (pss_cons (ps_expr (pe_bmK K PySem.F.plainAttrs_list PySem.F.slot_list_insert PySem.F.type_list_insert mt_insertI (pv 3) (pa_cons (pv 6) (pa_cons (pe_bmK K PySem.F.plainAttrs_list PySem.F.slot_list_pop PySem.F.type_list_pop mt_popAt (pv 3) (pa_cons (pe_op op_add (pv 6) pe_int) pa_nil)) pa_nil))))
    (pss_one (ps_set (i := 4) sc.nd rfl (Or.inl rfl) (pe_op op_add (pv 4) pe_int))))))))))))
    (pss_one (ps_ret (pe_and (pe_cmpR op_eq (pv 4) (pe_callB (lenQ K) rfl m_len bt_len (pa_cons (pv 0) pa_nil)) (nomark _)) (pe_one (pe_cmpR (op_eqD hr.units) (pv 3) (pv 2) (nomark _))))))))), ?_⟩
  refine ⟨_, rfl, a, us, rfl, .inl (SqL.of ha), fun nw hnw => ?_⟩
  have S1 := same_new hnw (.lst us)
  refine ⟨_, rfl, b, vs, rfl, .inl (SqL.of (S1 _ _ hb)), _, rfl, by omega, by omega, ?_⟩
  rw [Int.toNat_natCast]
  refine for_range (n := vs.length) (fun k σ H' => ∃ (z5 z6 : Option V) (R : List D3) (st : Nat) (ws : List V), σ = [some (.ref p), some (.ref a), some (.ref b), some (.ref nw), some (.int (st : Int)), z5, z6] ∧ Same H H' ∧ H' nw = some (.lst ws) ∧ Paired (T3 H') ws (ys.take k ++ R) ∧ (∀ d ∈ R, okD d) ∧ R.length + k ≤ 200 ∧ st ≤ ps.length ∧ wayF k R (ys.drop k) = some (ps.drop st))
    ⟨none, none, xs, 0, us, rfl, S1, upd_same, by rw [List.take_zero, List.nil_append]; exact stab_T3.list S1 pu, okx, by omega, Nat.zero_le _, by rw [List.drop_zero, List.drop_zero]; exact hw⟩ ?_ ?_
  · rintro k σ H' hk ⟨z5, z6, R, st, ws, rfl, S, ew, pw, okR, hR, hst, hway⟩
    have hk' : k < ys.length := by omega
    rw [Int.zero_add]
    have gd : ys[k]? = some ys[k] := List.getElem?_eq_getElem hk'
    obtain ⟨vd, gvd, td⟩ := Paired.getR pr gd
    generalize ys[k] = d at gd td
    have edr : ys.drop k = d :: ys.drop (k + 1) := by
      rw [List.drop_eq_getElem_cons hk']
      congr 1
      rw [List.getElem?_eq_getElem hk'] at gd
      exact Option.some.inj gd
    rw [edr] at hway
    obtain ⟨dm, hfree, qs, hway', eps⟩ := wayF_split hway
    obtain ⟨l1, l2, eR, el, hne, et, ee⟩ := fst_split dm
    rw [et] at hfree
    rw [ee] at hway'
    rw [← el] at eps
    have hA : (ys.take k).length = k := by rw [List.length_take]; omega
    have hlR : R.length = l1.length + (l2.length + 1) := by rw [eR]; simp
    have okd : okD d := okR d dm
    have hps : st + l1.length ≤ ps.length := by
      have := congrArg List.length eps
      rw [List.length_drop, List.length_append, dnL_length] at this
      omega
    have hRat : ∀ t, t ≤ l1.length → ∃ e, (ys.take k ++ R)[k + t]? = some e ∧ (t < l1.length → e ≠ d) ∧ (t = l1.length → e = d) := fun t ht => by
      rw [List.getElem?_append_right (by omega), hA, Nat.add_sub_cancel_left, eR]
      by_cases c : t < l1.length
      · exact ⟨l1[t], by rw [List.getElem?_append_left c]; exact List.getElem?_eq_getElem c, fun _ => hne _ (List.getElem_mem _), fun z => by omega⟩
      · have : t = l1.length := by omega
        subst this
        exact ⟨d, by rw [List.getElem?_append_right (Nat.le_refl _), Nat.sub_self]; rfl, fun z => absurd z c, fun _ => rfl⟩
    refine ⟨_, rfl, ?_⟩
    refine ⟨fun m σ H2 => ∃ t, t ≤ l1.length ∧ m = l1.length - t ∧ H2 = H' ∧ σ = [some (.ref p), some (.ref a), some (.ref b), some (.ref nw), some (.int (st : Int)), some (.int (k : Int)), some (.int ((k + t : Nat) : Int))], ⟨_, 0, Nat.zero_le _, rfl, rfl, rfl⟩, ?_⟩
    rintro m σ H2 ⟨t, ht, rfl, rfl, rfl⟩
    obtain ⟨e, ge, e1, e2⟩ := hRat t ht
    obtain ⟨ve, gve, te⟩ := Paired.getR pw ge
    refine ⟨_, rfl, _, rfl, _, _, _, _, rfl, rfl, SqL.of ew, atI_nat gve, _, rfl, _, rfl, _, _, _, _, rfl, rfl, SqL.of (S _ _ hb), atI_nat gvd, dD e, dD d, te.dat, (td.same S).dat, Nat.le_trans (enc_dD.dep e) (by decide), ?_⟩
    rw [enc_dD.dec]
    refine ⟨_, rfl, iteB (fun c => ?_) (fun c => ?_)⟩
    rotate_left
    · have hlt : t < l1.length := by
        apply Classical.byContradiction
        intro z
        exact of_decide_eq_false c (e2 (by omega))
      refine ⟨fun σ' H3 => ∃ t', t' ≤ l1.length ∧ l1.length - (t + 1) = l1.length - t' ∧ H3 = H2 ∧ σ' = [some (.ref p), some (.ref a), some (.ref b), some (.ref nw), some (.int (st : Int)), some (.int (k : Int)), some (.int ((k + t' : Nat) : Int))], fun σ' H3 hN => ⟨l1.length - (t + 1), by omega, hN⟩, ?_⟩
      refine ⟨_, rfl, _, _, rfl, rfl, t + 1, by omega, rfl, rfl, ?_⟩
      rw [show ((k + (t + 1) : Nat) : Int) = ((k + t : Nat) : Int) + 1 by omega]
      rfl
    have htl : t = l1.length := by
      apply Classical.byContradiction
      intro z
      exact e1 (by omega) (of_decide_eq_true c)
    subst htl
    refine ⟨fun m σ H3 => ∃ u ws', u ≤ l1.length ∧ u = m ∧ Same H H3 ∧ H3 nw = some (.lst ws') ∧ Paired (T3 H3) ws' (ys.take k ++ (l1.take u ++ d :: (l1.drop u ++ l2))) ∧ σ = [some (.ref p), some (.ref a), some (.ref b), some (.ref nw), some (.int ((st + (l1.length - u) : Nat) : Int)), some (.int (k : Int)), some (.int ((k + u : Nat) : Int))],
      ⟨_, l1.length, ws, Nat.le_refl _, rfl, S, ew, by rw [List.take_length, List.drop_length, List.nil_append, ← eR]; exact pw, by rw [Nat.sub_self]; rfl⟩, ?_⟩
    rintro m σ H3 ⟨u, ws', hu, rfl, S3, ew3, pw3, rfl⟩
    refine ⟨_, rfl, _, rfl, _, _, rfl, rfl, _, rfl, iteD (fun c => ?_) (fun c => ?_)⟩
    rotate_left
    · have u0 : u = 0 := by omega
      subst u0
      rw [List.take_zero, List.nil_append, List.drop_zero] at pw3
      have et2 : ys.take (k + 1) = ys.take k ++ [d] := by rw [List.take_add_one, gd]; rfl
      refine ⟨_, _, l1 ++ l2, st + l1.length, ws', rfl, S3, ew3, ?_, fun e he => okR e ?_, ?_, hps, ?_⟩
      · rw [et2, List.append_assoc]; exact pw3
      · rw [eR]
        rcases List.mem_append.mp he with z | z
        · exact List.mem_append_left _ z
        · exact List.mem_append_right _ (List.mem_cons_of_mem _ z)
      · rw [List.length_append]; omega
      · rw [hway', ← List.drop_drop, eps, List.drop_append_of_le_length (by rw [dnL_length]; exact Nat.le_refl _), List.drop_of_length_le (by rw [dnL_length]; exact Nat.le_refl _), List.nil_append]
    obtain ⟨u, rfl⟩ : ∃ v, u = v + 1 := ⟨u - 1, by omega⟩
    have hul : u < l1.length := by omega
    have etk : l1.take (u + 1) = l1.take u ++ [l1[u]] := by rw [List.take_add_one, List.getElem?_eq_getElem hul]; rfl
    have edk : l1.drop u = l1[u] :: l1.drop (u + 1) := List.drop_eq_getElem_cons hul
    have eL : ys.take k ++ (l1.take (u + 1) ++ d :: (l1.drop (u + 1) ++ l2)) = (ys.take k ++ l1.take u) ++ l1[u] :: d :: (l1.drop (u + 1) ++ l2) := by rw [etk]; simp only [List.append_assoc, List.cons_append, List.nil_append]
    have eL2 : ys.take k ++ (l1.take u ++ d :: (l1.drop u ++ l2)) = (ys.take k ++ l1.take u) ++ d :: l1[u] :: (l1.drop (u + 1) ++ l2) := by rw [edk]; simp only [List.append_assoc, List.cons_append, List.nil_append]
    have hpl : (ys.take k ++ l1.take u).length = k + u := by rw [List.length_append, hA, List.length_take]; omega
    have hlw := Paired.length pw3
    have hlL : (ys.take k ++ (l1.take (u + 1) ++ d :: (l1.drop (u + 1) ++ l2))).length = k + R.length := by
      rw [eL, List.length_append, hpl, List.length_cons, List.length_cons, List.length_append, List.length_drop, hlR]
      omega
    rw [eL] at pw3
    have g1 : ((ys.take k ++ l1.take u) ++ l1[u] :: d :: (l1.drop (u + 1) ++ l2))[k + u]? = some l1[u] := by
      rw [List.getElem?_append_right (by omega), hpl, Nat.sub_self]; rfl
    have g2 : ((ys.take k ++ l1.take u) ++ l1[u] :: d :: (l1.drop (u + 1) ++ l2))[k + u + 1]? = some d := by
      rw [List.getElem?_append_right (by omega), hpl, Nat.add_sub_cancel_left]; rfl
    obtain ⟨v1, gv1, t1⟩ := Paired.getR pw3 g1
    obtain ⟨v2, gv2, t2⟩ := Paired.getR pw3 g2
    have gp : ps[st + (l1.length - (u + 1))]? = some ((k + u : Nat) : Int) := by
      have : (ps.drop st)[l1.length - (u + 1)]? = some ((k + u : Nat) : Int) := by
        rw [eps, List.getElem?_append_left (by rw [dnL_length]; omega)]
        unfold dnL
        rw [List.getElem?_map, List.getElem?_range (by omega)]
        refine congrArg some ?_
        show (k : Int) + (l1.length : Int) - 1 - ((l1.length - (u + 1) : Nat) : Int) = _
        omega
      rw [List.getElem?_drop] at this
      exact this
    have gpv : (ps.map V.int)[st + (l1.length - (u + 1))]? = some (.int ((k + u : Nat) : Int)) := by rw [List.getElem?_map, gp]; rfl
    have hpH := S3 _ _ hp
    have eat : ((k + (u + 1) : Nat) : Int) - 1 = ((k + u : Nat) : Int) := by omega
    refine ⟨fun σ' H4 => ∃ u' ws', u' ≤ l1.length ∧ u' = u ∧ Same H H4 ∧ H4 nw = some (.lst ws') ∧ Paired (T3 H4) ws' (ys.take k ++ (l1.take u' ++ d :: (l1.drop u' ++ l2))) ∧ σ' = [some (.ref p), some (.ref a), some (.ref b), some (.ref nw), some (.int ((st + (l1.length - u') : Nat) : Int)), some (.int (k : Int)), some (.int ((k + u' : Nat) : Int))],
      fun σ' H4 hN => ⟨u, by omega, hN⟩, ?_⟩
    refine ⟨_, rfl, _, _, rfl, rfl, ?_⟩
    rw [show (fun i j : Int => V.int (i - j)) ((k + (u + 1) : Nat) : Int) 1 = V.int ((k + u : Nat) : Int) from congrArg V.int eat]
    refine ⟨_, rfl, _, rfl, p, _, rfl, .inl (SqL.of hpH), _, _, rfl, rfl, _, rfl, iteD (fun c2 => ?_) (fun _ => ?_)⟩
    · rw [List.length_map] at c2
      omega
    refine ⟨_, rfl, _, rfl, _, _, _, _, rfl, rfl, SqL.of hpH, atI_nat gpv, _, rfl, _, rfl, iteF ?_⟩
    refine ⟨_, rfl, _, rfl, _, _, _, _, rfl, rfl, SqL.of hpH, atI_nat gpv, _, rfl, rfl, _, rfl, iteIn (fun c3 => absurd rfl c3) (fun _ => ?_)⟩
    have gat2 : atI ws' (((k + u : Nat) : Int) + 1) = some v2 := by
      rw [show ((k + u : Nat) : Int) + 1 = ((k + u + 1 : Nat) : Int) by omega]
      exact atI_nat gv2
    refine ⟨_, rfl, _, rfl, _, _, _, _, rfl, rfl, SqL.of ew3, atI_nat gv1, _, rfl, _, rfl, _, _, rfl, rfl, _, _, _, _, rfl, rfl, SqL.of ew3, gat2, _, _, l1[u], d, rfl, t1, t2, ?_⟩
    rw [clashL_eq (okR _ (by rw [eR]; exact List.mem_append_left _ (List.getElem_mem _))) okd, hfree _ (List.getElem_mem _)]
    refine ⟨_, rfl, iteF ?_⟩
    have hlw2 : ws'.length = k + R.length := by rw [hlw, hlL]
    have hlen : ws'.length ≤ 200 := by omega
    refine ⟨_, rfl, .inl ⟨rfl, _, SqL.of ew3⟩, _, rfl, _, rfl, .inl ⟨rfl, _, SqL.of ew3⟩, _, rfl, _, _, rfl, rfl, nw, ws', ((k + u : Nat) : Int) + 1, k + u + 1, v2, rfl, rfl, ew3, by omega, by omega, ?_, gv2, ?_⟩
    · rw [seqIndex_of (by omega) (by omega)]
      congr 1
    have hle : (ws'.eraseIdx (k + u + 1)).length = ws'.length - 1 := by rw [List.length_eraseIdx, if_pos (by omega)]
    refine ⟨nw, _, ((k + u : Nat) : Int), v2, rfl, rfl, by omega, by omega, upd_same, by omega, ?_⟩
    rw [Int.toNat_natCast, upd_upd]
    refine ⟨_, rfl, _, _, rfl, rfl, u, _, by omega, rfl, S3.wr hnw _, upd_same, ?_, ?_⟩
    · rw [eL2, ← swap_ins _ _ _ _ (k + u) hpl]
      have pe := Paired.er pw3 (k + u + 1)
      refine Paired.mapP (_root_.L2.Paired.app (Paired.tk (k + u) pe) (.cons t2 (Paired.dp (k + u) pe))) fun _ _ z => z.wr ew3
    · rw [show ((st + (l1.length - u) : Nat) : Int) = ((st + (l1.length - (u + 1)) : Nat) : Int) + 1 by omega]
      rfl
  · rintro σ H' ⟨z5, z6, R, st, ws, rfl, S, ew, pw, okR, hR, hst, hway⟩
    rw [hl0, List.drop_length] at hway
    rw [hl0, List.take_length] at pw
    have h' : (if R = [] then some [] else none : Option (List Int)) = some (ps.drop st) := hway
    by_cases c : R = []
    · rw [if_pos c] at h'
      have e0 : ps.drop st = [] := (Option.some.inj h').symm
      have e1 : st = ps.length := by
        have := congrArg List.length e0
        rw [List.length_drop, List.length_nil] at this
        omega
      subst c
      rw [List.append_nil] at pw
      subst e1
      refine ⟨_, rfl, _, rfl, p, _, rfl, .inl (SqL.of (S _ _ hp)), rfl, true, ?_, iteT ?_⟩
      · rw [List.length_map]; simp
      · refine ⟨_, rfl, _, rfl, dL ys, dL ys, LD.dat ⟨ws, ew, pw⟩, (Lb.same S).dat, Nat.le_trans (enc_dL.dep _) (by decide), ?_⟩
        rw [enc_dL.dec, decide_eq_true rfl]
        exact q _ S
    · rw [if_neg c] at h'; cases h'
end
end K08

namespace K08
open PySem L2
abbrev s_law : Stmt := top 26
theorem sc_law : FnScope ["_law_script", "_law_lift", "_law_one", "_law_other", "_law_handed", "_law_told_here", "_law_found", "_law_due"] ["_law_script"] (defScope s_law) := ⟨rfl, rfl, rfl, by decide +kernel, rfl, by decide +kernel, by decide +kernel⟩
section
variable {P : Program} {w : World} {K : PySem.W.Frag} {mg : Str → Option Value} {base : Heap} {f : Addr} {fd : FuncData}
seal PySem.eval PySem.spliced in
theorem ok_law (F : Fun K "law" "law" s_law f fd) (D__law_cell_at : Df P w K mg base "_law_cell_at" 1 ["_law_script", "_law_k"] (spCell K)) (D__law_power : Df P w K mg base "_law_power" 1 ["_law_k"] spPower) (D__law_deed : Df P w K mg base "_law_deed" 2 ["_law_cell", "_law_lift"] spDeedW)
    (D__law_passed_on : Df P w K mg base "_law_passed_on" 2 ["_law_rows", "_law_cells"] spPassed) (D__law_changed : Df P w K mg base "_law_changed" 3 ["_law_rows", "_law_kind", "_law_cell", "_law_lift"] spChanged) (D_reason : Df P w K mg base "reason" 4 ["one", "other"] spReason) (D_way : Df P w K mg base "way" 4 ["one", "other"] spWay) (D__law_reason : Df P w K mg base "_law_reason" 2 ["_law_one", "_law_other"] spReasonL)
    (D__law_told : Df P w K mg base "_law_told" 2 ["_law_found", "_law_due"] spToldR) (D__law_pairs : Df P w K mg base "_law_pairs" 2 ["_law_one", "_law_other"] spPairsR) (D__law_walked : Df P w K mg base "_law_walked" 2 ["_law_found", "_law_one", "_law_other"] spWalked) (m_list : mg "list" = none) (m_len : mg "len" = none) (m_isinstance : mg "isinstance" = none) : FnOk P w K mg base CX0 5 f fd ["_law_script"] (spLaw K) := by
  have sc := sc_law
  refine F.ok sc (fun vs H Q E h => ?_) (fun cdv A outer s H vs Q E hr h => ?_)
  · obtain ⟨a, ns, rfl, _⟩ := h
    rfl
  obtain ⟨a, ns, rfl, hS, h63, q⟩ := h
  refine ⟨_, (pss_cons (ps_set (i := 1) sc.nd rfl (Or.inr rfl) (pe_callD D__law_power (hr.mono (by decide)) rfl (pa_cons (pe_op op_mod (pe_op op_fdiv (pe_callD D__law_cell_at (hr.mono (by decide)) rfl (pa_cons (pv 0) (pa_cons pe_int pa_nil))) pe_int) pe_int) pa_nil)))
    (pss_cons (ps_setC (i := 2) ["_law_cell"] [1] rfl sc.nd rfl rfl (comp_scope sc) (piL K (pe_slice (slL K) (pv 0) (po_some pe_int) (po_some pe_int))) (fun _ _ _ _ _ => ⟨(pg_name (i := 0) (nd_c sc (by decide +kernel)) rfl (Or.inl rfl)), pts_nil, (pe_callD D__law_deed (hr.mono (by decide)) rfl (pa_cons (pv 0) (pa_cons (pv 1) pa_nil)))⟩))
    (pss_cons (ps_set (i := 3) sc.nd rfl (Or.inl rfl) (pe_callD D__law_passed_on (hr.mono (by decide)) rfl (pa_cons (pv 2) (pa_cons (pe_slice (slL K) (pv 0) (po_some pe_int) (po_some pe_int)) pa_nil))))
    (pss_cons (ps_set (i := 3) sc.nd rfl (Or.inl rfl) (pe_callD D__law_changed (hr.mono (by decide)) rfl (pa_cons (pv 3) (pa_cons (pe_op op_mod (pe_callD D__law_cell_at (hr.mono (by decide)) rfl (pa_cons (pv 0) (pa_cons pe_int pa_nil))) pe_int) (pa_cons (pe_callD D__law_cell_at (hr.mono (by decide)) rfl (pa_cons (pv 0) (pa_cons pe_int pa_nil))) (pa_cons (pv 1) pa_nil))))))
    (pss_cons (ps_set (i := 4) sc.nd rfl (Or.inl rfl) (pe_lst (pa_cons (pe_callTy (listOf K) rfl m_list bt_list (pa_cons (pv 2) pa_nil)) (pa_cons (pe_callTy (listOf K) rfl m_list bt_list (pa_cons (pv 3) pa_nil)) pa_nil))))
    (pss_cons (ps_set (i := 5) sc.nd rfl (Or.inl rfl) (pe_callD D_reason (hr.mono (by decide)) rfl (pa_cons (pe_ix (ixL K) (pv 4) pe_int (fun _ _ => rfl)) (pa_cons (pe_ix (ixL K) (pv 4) pe_int (fun _ _ => rfl)) pa_nil))))
    (pss_cons (ps_set (i := 6) sc.nd rfl (Or.inl rfl) (pe_callD D_way (hr.mono (by decide)) rfl (pa_cons (pe_ix (ixL K) (pv 4) pe_int (fun _ _ => rfl)) (pa_cons (pe_ix (ixL K) (pv 4) pe_int (fun _ _ => rfl)) pa_nil))))
    (pss_cons (ps_if (pt_cmpR (op_neD hr.units) (pv 4) (pe_lst (pa_cons (pv 2) (pa_cons (pv 3) pa_nil))) (nomark _)) (pss_one (ps_ret pe_bl)) pss_nil)
    (pss_cons (ps_set (i := 7) sc.nd rfl (Or.inl rfl) (pe_callD D__law_reason (hr.mono (by decide)) rfl (pa_cons (pv 2) (pa_cons (pv 3) pa_nil))))
    (pss_cons (ps_if (pt_not (pt_val (pe_callD D__law_told (hr.mono (by decide)) rfl (pa_cons (pv 5) (pa_cons (pv 7) pa_nil))))) (pss_one (ps_ret pe_bl)) pss_nil)
    (pss_cons (ps_if (pt_cmpR op_notN (pv 7) pe_non (nomark _)) (pss_one (ps_ret (pe_cmpR op_isN (pv 6) pe_non (nomark _)))) pss_nil)
    (pss_cons (ps_if (PW.pt (pw_or (pt_not (pt_val (pe_callB (isI K) rfl m_isinstance bt_isinstance (pa_cons (pv 6) (pa_cons (pe_type rfl m_list bt_list) pa_nil))))) (pw_or1 (pt_cmpR op_ne (pe_callB (lenQ K) rfl m_len bt_len (pa_cons (pv 6) pa_nil)) (pe_callD D__law_pairs (hr.mono (by decide)) rfl (pa_cons (pv 2) (pa_cons (pv 3) pa_nil))) (nomark _))))) (pss_one (ps_ret pe_bl)) pss_nil)
    (pss_one (ps_ret (pe_callD D__law_walked (hr.mono (by decide)) rfl (pa_cons (pv 6) (pa_cons (pv 2) (pa_cons (pv 3) pa_nil)))))))))))))))))), ?_⟩
  have hm0 := Int.emod_nonneg (ns.getD (0 : Int).toNat 0 / 10) (show (56 : Int) ≠ 0 by decide)
  have hm1 := Int.emod_lt_of_pos (ns.getD (0 : Int).toNat 0 / 10) (show (0 : Int) < 56 by decide)
  refine ⟨_, rfl, a, ns, 0, rfl, hS, by decide, _, _, rfl, rfl, ⟨by decide, by decide⟩, _, _, rfl, rfl, (show (0 : Int) < 56 by decide), _, rfl, hm0, by omega, ?_⟩
  have hlf : (2 : Int) ^ (ns.getD (0 : Int).toNat 0 / 10 % 56).toNat ≤ 2 ^ 55 := pow_le_pow (by omega)
  have hlf0 : (0 : Int) < 2 ^ (ns.getD (0 : Int).toNat 0 / 10 % 56).toNat := Int.pow_pos (by decide)
  obtain ⟨ms, hms, hml⟩ := cut_ints ns (some 2) (some 62)
  have hml2 : ms.length ≤ 60 := by
    have e := congrArg List.length hms
    rw [cl_mid (by decide) (by decide), List.length_map, List.length_map, show (62 : Int).toNat = 62 from rfl, show (2 : Int).toNat = 2 from rfl] at e
    omega
  refine ⟨_, rfl, _, rfl, _, rfl, a, _, rfl, hS, fun p hp => ?_⟩
  rw [hms]
  have S0 := same_new hp (.lst (ms.map V.int))
  refine ⟨p, rfl, ⟨_, SqL.of upd_same⟩, comp_grow stab_DP (ms.map V.int) (List.replicate ms.length ()) (by rw [List.length_map, List.length_replicate]) (small1000 (by rw [List.length_map]; omega)) (fun H' S' => SqL.of (S' _ _ upd_same)) ?_ ?_⟩
  · rintro i v _ hv _ H' Q' S' q'
    obtain ⟨cc, _, rfl⟩ := ints_get hv
    exact ⟨_, rfl, _, rfl, cc, _, rfl, by omega, hlf, fun x d H3 S3 t3 o3 => q' x H3 S3 ⟨d, t3, o3⟩⟩
  intro r us H1 S1 hr1 e1 p1
  obtain ⟨xs, pd, okx, hlx⟩ := deeds_of p1
  rw [List.length_replicate] at hlx
  have Lx : LD H1 r xs := ⟨us, e1, pd⟩
  have S01 := S0.trans S1
  refine ⟨_, rfl, _, rfl, _, rfl, _, rfl, a, _, rfl, S01.seq hS, fun p2 hp2 => ?_⟩
  rw [hms]
  have S2 := same_new hp2 (.lst (ms.map V.int))
  refine ⟨r, p2, xs, ms, rfl, Lx.same S2, by omega, upd_same, fun ot es H3 S3 hot Lo sub el => ?_⟩
  have S13 := S2.trans S3
  have S03 := S01.trans S13
  refine ⟨_, rfl, _, rfl, a, ns, 0, rfl, S03.seq hS, by decide, _, _, rfl, rfl, (show (0 : Int) < 10 by decide), _, rfl, a, ns, 1, rfl, S03.seq hS, by decide, _, rfl, ot, _, _, _, es, rfl, Lo, fun d hd => okx d (sub d hd), by omega, by omega, hlf, fun o2 ys e0 H4 S4 Ly sub4 oke hly => ?_⟩
  have S14 := S13.trans S4
  have oky : ∀ d ∈ ys, okD d := fun d hd => (sub4 d hd).elim (fun z => okx d (sub d z)) fun z => by rw [z]; exact oke
  obtain ⟨vx, ex, px⟩ := id (Lx.same S14)
  obtain ⟨vy, ey, py⟩ := id Ly
  refine ⟨_, rfl, r, vx, rfl, .inl (SqL.of ex), fun l1 hl1 => ⟨_, rfl, o2, vy, rfl, .inl (SqL.of (new_at hl1 ey)), fun l2 hl2 => ⟨sm rfl, fun hd hhd => ?_⟩⟩⟩
  have S5 := ((same_new hl1 (.lst vx)).new hl2 (.lst vy)).new hhd (.lst [.ref l1, .ref l2])
  have X5 : LD (upd (upd (upd H4 l1 (.lst vx)) l2 (.lst vy)) hd (.lst [.ref l1, .ref l2])) l1 xs := ⟨vx, new_at hhd (new_at hl2 upd_same), stab_T3.list S5 px⟩
  have Y5 : LD (upd (upd (upd H4 l1 (.lst vx)) l2 (.lst vy)) hd (.lst [.ref l1, .ref l2])) l2 ys := ⟨vy, new_at hhd upd_same, stab_T3.list S5 py⟩
  have E5 : upd (upd (upd H4 l1 (.lst vx)) l2 (.lst vy)) hd (.lst [.ref l1, .ref l2]) hd = some (.lst ([l1, l2].map V.ref)) := upd_same
  generalize upd (upd (upd H4 l1 (.lst vx)) l2 (.lst vy)) hd (.lst [.ref l1, .ref l2]) = H5 at S5 X5 Y5 E5 ⊢
  have few : Few (xs ++ ys) := few_of (fun d hd => (sub4 d hd).imp (sub d) id) (by omega)
  refine ⟨_, rfl, _, _, _, _, rfl, rfl, SqL.of E5, at_l0, _, rfl, _, _, _, _, rfl, rfl, SqL.of E5, at_l1, l1, l2, xs, ys, rfl, X5, Y5, by omega, by omega, few, fun rs tv H6 S6 htv hi => ?_⟩
  refine ⟨_, rfl, _, _, _, _, rfl, rfl, SqL.of (S6 _ _ E5), at_l0, _, rfl, _, _, _, _, rfl, rfl, SqL.of (S6 _ _ E5), at_l1, l1, l2, xs, ys, rfl, X5.same S6, Y5.same S6, by omega, by omega, fun hn H7 S7 => ?_, fun ps hps wr H7 S7 hwr ewr => ?_⟩
  · have S57 := S6.trans S7
    have S47 := S5.trans S57
    have Lx7 := (Lx.same S14).same S47
    have Ly7 := Ly.same S47
    refine ⟨_, rfl, _, rfl, _, rfl, sm rfl, fun cm hcm => ?_⟩
    have S8 := same_new hcm (.lst [.ref r, .ref o2])
    refine ⟨dR [xs, ys], dR [xs, ys], Rows.dat' (S8 _ _ (S57 _ _ E5)) (.cons ((X5.same S57).same S8) (.cons ((Y5.same S57).same S8) .nil)), Rows.dat' (bs := [r, o2]) upd_same (.cons (Lx7.same S8) (.cons (Ly7.same S8) .nil)), Nat.le_trans (enc_dR.dep _) (by decide), ?_⟩
    rw [enc_dR.dec]
    refine ⟨_, rfl, iteNS rfl ?_⟩
    refine ⟨_, rfl, _, rfl, r, o2, xs, ys, rfl, Lx7.same S8, Ly7.same S8, okx, by omega, by omega, fun rs2 dv H9 S9 hdv hi2 => ?_⟩
    have ers := IsRsn.uniq hi hi2
    subst ers
    have S79 := S8.trans S9
    refine ⟨_, rfl, _, rfl, rs, tv, dv, rfl, (htv.same S7).same S79, hdv, fun H10 S10 => ⟨_, rfl, iteF ?_⟩⟩
    have hne : rs ≠ .even := fun z => by
      obtain ⟨ps, e⟩ := (rsn_way hi).1 z
      rw [hn] at e
      cases e
    cases rs with
    | even => exact absurd rfl hne
    | cnt d n m =>
      obtain ⟨g, x, rfl, _⟩ := hdv
      refine ⟨_, rfl, rfl, _, rfl, ite2 (fun _ => ?_) (fun c => absurd rfl c)⟩
      exact ⟨_, rfl, rfl, q _⟩
    | trn n m =>
      obtain ⟨g, rfl, _⟩ := hdv
      refine ⟨_, rfl, rfl, _, rfl, ite2 (fun _ => ?_) (fun c => absurd rfl c)⟩
      exact ⟨_, rfl, rfl, q _⟩
  · have S57 := S6.trans S7
    have S47 := S5.trans S57
    have Lx7 := (Lx.same S14).same S47
    have Ly7 := Ly.same S47
    refine ⟨_, rfl, _, rfl, _, rfl, sm rfl, fun cm hcm => ?_⟩
    have S8 := same_new hcm (.lst [.ref r, .ref o2])
    refine ⟨dR [xs, ys], dR [xs, ys], Rows.dat' (S8 _ _ (S57 _ _ E5)) (.cons ((X5.same S57).same S8) (.cons ((Y5.same S57).same S8) .nil)), Rows.dat' (bs := [r, o2]) upd_same (.cons (Lx7.same S8) (.cons (Ly7.same S8) .nil)), Nat.le_trans (enc_dR.dep _) (by decide), ?_⟩
    rw [enc_dR.dec]
    refine ⟨_, rfl, iteNS rfl ?_⟩
    refine ⟨_, rfl, _, rfl, r, o2, xs, ys, rfl, Lx7.same S8, Ly7.same S8, okx, by omega, by omega, fun rs2 dv H9 S9 hdv hi2 => ?_⟩
    have ers := IsRsn.uniq hi hi2
    subst ers
    have S79 := S8.trans S9
    refine ⟨_, rfl, _, rfl, rs, tv, dv, rfl, (htv.same S7).same S79, hdv, fun H10 S10 => ⟨_, rfl, iteF ?_⟩⟩
    have hev : rs = .even := by
      apply Classical.byContradiction
      intro z
      rw [(rsn_way hi).2 z] at hps
      cases hps
    subst hev
    have e : dv = .non := hdv
    subst e
    have S7a := S79.trans S10
    refine ⟨_, rfl, rfl, _, rfl, ite2 (fun c => absurd c (by decide)) (fun _ => ?_)⟩
    refine ⟨_, rfl, _, _, _, _, true, rfl, rfl, .lst (S7a _ _ ewr), kit_same, true, rfl, iteF ?_⟩
    refine ⟨_, rfl, wr, _, rfl, .inl (SqL.of (S7a _ _ ewr)), _, rfl, _, rfl, r, o2, xs, ys, rfl, Lx7.same S7a, Ly7.same S7a, by omega, by omega, hi.1, fun g H11 S11 M => ⟨rfl, _, rfl, iteIn (fun c => ?_) (fun _ => ?_)⟩⟩
    · rw [List.length_map, wayF_inv hps M] at c
      exact absurd rfl c
    · have S7b := S7a.trans S11
      exact ⟨_, rfl, _, rfl, _, rfl, wr, r, o2, ps, xs, ys, rfl, S7b _ _ ewr, Lx7.same S7b, Ly7.same S7b, okx, by omega, by omega, hps, fun H12 _ => q _⟩
end
end K08

namespace K08
open PySem L2
theorem all_mk {l : PySem.W.OpenLaw} {w : World} {K : PySem.W.Frag} {h : Heap} {mg : Str → Option Value} {fa f0 f1 f2 f3 f4 f5 f6 f7 f8 f9 f10 f11 f12 f13 f14 f15 f16 f17 f18 f19 f20 f21 f22 f23 : Addr} (X : K.In h) (G : h.Ns mainGlobals mg) (hfa : mg "law" = some (.ref fa))
    {od0 an0 od1 an1 od2 an2 od3 an3 od4 an4 od5 an5 od6 an6 od7 an7 od8 an8 od9 an9 od10 an10 od11 an11 od12 an12 od13 an13 od14 an14 od15 an15 od16 an16 od17 an17 od18 an18 od19 an19 od20 an20 od21 an21 od22 an22 od23 an23 : Option Addr} {sl0 sl1 sl2 sl3 sl4 sl5 sl6 sl7 sl8 sl9 sl10 sl11 sl12 sl13 sl14 sl15 sl16 sl17 sl18 sl19 sl20 sl21 sl22 sl23 : Array (Option Value)} {oc0 kV0 dc0 pm0 cd0 ct0 oc1 kV1 dc1 pm1 cd1 ct1 oc2 kV2 dc2 pm2 cd2 ct2 oc3 kV3 dc3 pm3 cd3 ct3 oc4 kV4 dc4 pm4 cd4 ct4 oc5 kV5 dc5 pm5 cd5 ct5 oc6 kV6 dc6 pm6 cd6 ct6 oc7 kV7 dc7 pm7 cd7 ct7 oc8 kV8 dc8 pm8 cd8 ct8 oc9 kV9 dc9 pm9 cd9 ct9 oc10 kV10 dc10 pm10 cd10 ct10 oc11 kV11 dc11 pm11 cd11 ct11 oc12 kV12 dc12 pm12 cd12 ct12 oc13 kV13 dc13 pm13 cd13 ct13 oc14 kV14 dc14 pm14 cd14 ct14 oc15 kV15 dc15 pm15 cd15 ct15 oc16 kV16 dc16 pm16 cd16 ct16 oc17 kV17 dc17 pm17 cd17 ct17 oc18 kV18 dc18 pm18 cd18 ct18 oc19 kV19 dc19 pm19 cd19 ct19 oc20 kV20 dc20 pm20 cd20 ct20 oc21 kV21 dc21 pm21 cd21 ct21 oc22 kV22 dc22 pm22 cd22 ct22 oc23 kV23 dc23 pm23 cd23 ct23 : Value}
    (a0 : PySem.W.nsIn K mainGlobals "disturbs" = some (some (.ref f0))) (l0 : K.lookup f0 = some ⟨oc0, od0, .func (PySem.W.fnOf "disturbs" "disturbs" (defArgs s_disturbs) (defBody s_disturbs) (defScope s_disturbs) .none kV0 dc0 pm0 an0 cd0 ct0), sl0⟩) (c0 : PySem.W.codeIn K cd0 "disturbs" = true) (k0 : PySem.W.keepIn K (.ref f0) = true)
    (a1 : PySem.W.nsIn K mainGlobals "clash" = some (some (.ref f1))) (l1 : K.lookup f1 = some ⟨oc1, od1, .func (PySem.W.fnOf "clash" "clash" (defArgs s_clash) (defBody s_clash) (defScope s_clash) .none kV1 dc1 pm1 an1 cd1 ct1), sl1⟩) (c1 : PySem.W.codeIn K cd1 "clash" = true) (k1 : PySem.W.keepIn K (.ref f1) = true)
    (a2 : PySem.W.nsIn K mainGlobals "some_clash" = some (some (.ref f2))) (l2 : K.lookup f2 = some ⟨oc2, od2, .func (PySem.W.fnOf "some_clash" "some_clash" (defArgs s_some) (defBody s_some) (defScope s_some) .none kV2 dc2 pm2 an2 cd2 ct2), sl2⟩) (c2 : PySem.W.codeIn K cd2 "some_clash" = true) (k2 : PySem.W.keepIn K (.ref f2) = true)
    (a3 : PySem.W.nsIn K mainGlobals "way" = some (some (.ref f3))) (l3 : K.lookup f3 = some ⟨oc3, od3, .func (PySem.W.fnOf "way" "way" (defArgs s_way) (defBody s_way) (defScope s_way) .none kV3 dc3 pm3 an3 cd3 ct3), sl3⟩) (c3 : PySem.W.codeIn K cd3 "way" = true) (k3 : PySem.W.keepIn K (.ref f3) = true)
    (a4 : PySem.W.nsIn K mainGlobals "count_reason" = some (some (.ref f4))) (l4 : K.lookup f4 = some ⟨oc4, od4, .func (PySem.W.fnOf "count_reason" "count_reason" (defArgs s_cr) (defBody s_cr) (defScope s_cr) .none kV4 dc4 pm4 an4 cd4 ct4), sl4⟩) (c4 : PySem.W.codeIn K cd4 "count_reason" = true) (k4 : PySem.W.keepIn K (.ref f4) = true)
    (a5 : PySem.W.nsIn K mainGlobals "partners" = some (some (.ref f5))) (l5 : K.lookup f5 = some ⟨oc5, od5, .func (PySem.W.fnOf "partners" "partners" (defArgs s_partners) (defBody s_partners) (defScope s_partners) .none kV5 dc5 pm5 an5 cd5 ct5), sl5⟩) (c5 : PySem.W.codeIn K cd5 "partners" = true) (k5 : PySem.W.keepIn K (.ref f5) = true)
    (a6 : PySem.W.nsIn K mainGlobals "turned_reason" = some (some (.ref f6))) (l6 : K.lookup f6 = some ⟨oc6, od6, .func (PySem.W.fnOf "turned_reason" "turned_reason" (defArgs s_tr) (defBody s_tr) (defScope s_tr) .none kV6 dc6 pm6 an6 cd6 ct6), sl6⟩) (c6 : PySem.W.codeIn K cd6 "turned_reason" = true) (k6 : PySem.W.keepIn K (.ref f6) = true)
    (a7 : PySem.W.nsIn K mainGlobals "reason" = some (some (.ref f7))) (l7 : K.lookup f7 = some ⟨oc7, od7, .func (PySem.W.fnOf "reason" "reason" (defArgs s_reason) (defBody s_reason) (defScope s_reason) .none kV7 dc7 pm7 an7 cd7 ct7), sl7⟩) (c7 : PySem.W.codeIn K cd7 "reason" = true) (k7 : PySem.W.keepIn K (.ref f7) = true)
    (a8 : PySem.W.nsIn K mainGlobals "_law_cell_at" = some (some (.ref f8))) (l8 : K.lookup f8 = some ⟨oc8, od8, .func (PySem.W.fnOf "_law_cell_at" "_law_cell_at" (defArgs s_cell) (defBody s_cell) (defScope s_cell) .none kV8 dc8 pm8 an8 cd8 ct8), sl8⟩) (c8 : PySem.W.codeIn K cd8 "_law_cell_at" = true) (k8 : PySem.W.keepIn K (.ref f8) = true)
    (a9 : PySem.W.nsIn K mainGlobals "_law_whole" = some (some (.ref f9))) (l9 : K.lookup f9 = some ⟨oc9, od9, .func (PySem.W.fnOf "_law_whole" "_law_whole" (defArgs s_whole) (defBody s_whole) (defScope s_whole) .none kV9 dc9 pm9 an9 cd9 ct9), sl9⟩) (c9 : PySem.W.codeIn K cd9 "_law_whole" = true) (k9 : PySem.W.keepIn K (.ref f9) = true)
    (a10 : PySem.W.nsIn K mainGlobals "_law_power" = some (some (.ref f10))) (l10 : K.lookup f10 = some ⟨oc10, od10, .func (PySem.W.fnOf "_law_power" "_law_power" (defArgs s_power) (defBody s_power) (defScope s_power) .none kV10 dc10 pm10 an10 cd10 ct10), sl10⟩) (c10 : PySem.W.codeIn K cd10 "_law_power" = true) (k10 : PySem.W.keepIn K (.ref f10) = true)
    (a11 : PySem.W.nsIn K mainGlobals "_law_wide" = some (some (.ref f11))) (l11 : K.lookup f11 = some ⟨oc11, od11, .func (PySem.W.fnOf "_law_wide" "_law_wide" (defArgs s_wide) (defBody s_wide) (defScope s_wide) .none kV11 dc11 pm11 an11 cd11 ct11), sl11⟩) (c11 : PySem.W.codeIn K cd11 "_law_wide" = true) (k11 : PySem.W.keepIn K (.ref f11) = true)
    (a12 : PySem.W.nsIn K mainGlobals "_law_deed" = some (some (.ref f12))) (l12 : K.lookup f12 = some ⟨oc12, od12, .func (PySem.W.fnOf "_law_deed" "_law_deed" (defArgs s_deed) (defBody s_deed) (defScope s_deed) .none kV12 dc12 pm12 an12 cd12 ct12), sl12⟩) (c12 : PySem.W.codeIn K cd12 "_law_deed" = true) (k12 : PySem.W.keepIn K (.ref f12) = true)
    (a13 : PySem.W.nsIn K mainGlobals "_law_clash" = some (some (.ref f13))) (l13 : K.lookup f13 = some ⟨oc13, od13, .func (PySem.W.fnOf "_law_clash" "_law_clash" (defArgs s_lclash) (defBody s_lclash) (defScope s_lclash) .none kV13 dc13 pm13 an13 cd13 ct13), sl13⟩) (c13 : PySem.W.codeIn K cd13 "_law_clash" = true) (k13 : PySem.W.keepIn K (.ref f13) = true)
    (a14 : PySem.W.nsIn K mainGlobals "_law_passed_on" = some (some (.ref f14))) (l14 : K.lookup f14 = some ⟨oc14, od14, .func (PySem.W.fnOf "_law_passed_on" "_law_passed_on" (defArgs s_passed) (defBody s_passed) (defScope s_passed) .none kV14 dc14 pm14 an14 cd14 ct14), sl14⟩) (c14 : PySem.W.codeIn K cd14 "_law_passed_on" = true) (k14 : PySem.W.keepIn K (.ref f14) = true)
    (a15 : PySem.W.nsIn K mainGlobals "_law_exchanged" = some (some (.ref f15))) (l15 : K.lookup f15 = some ⟨oc15, od15, .func (PySem.W.fnOf "_law_exchanged" "_law_exchanged" (defArgs s_exch) (defBody s_exch) (defScope s_exch) .none kV15 dc15 pm15 an15 cd15 ct15), sl15⟩) (c15 : PySem.W.codeIn K cd15 "_law_exchanged" = true) (k15 : PySem.W.keepIn K (.ref f15) = true)
    (a16 : PySem.W.nsIn K mainGlobals "_law_changed" = some (some (.ref f16))) (l16 : K.lookup f16 = some ⟨oc16, od16, .func (PySem.W.fnOf "_law_changed" "_law_changed" (defArgs s_changed) (defBody s_changed) (defScope s_changed) .none kV16 dc16 pm16 an16 cd16 ct16), sl16⟩) (c16 : PySem.W.codeIn K cd16 "_law_changed" = true) (k16 : PySem.W.keepIn K (.ref f16) = true)
    (a17 : PySem.W.nsIn K mainGlobals "_law_counts" = some (some (.ref f17))) (l17 : K.lookup f17 = some ⟨oc17, od17, .func (PySem.W.fnOf "_law_counts" "_law_counts" (defArgs s_counts) (defBody s_counts) (defScope s_counts) .none kV17 dc17 pm17 an17 cd17 ct17), sl17⟩) (c17 : PySem.W.codeIn K cd17 "_law_counts" = true) (k17 : PySem.W.keepIn K (.ref f17) = true)
    (a18 : PySem.W.nsIn K mainGlobals "_law_mates" = some (some (.ref f18))) (l18 : K.lookup f18 = some ⟨oc18, od18, .func (PySem.W.fnOf "_law_mates" "_law_mates" (defArgs s_mates) (defBody s_mates) (defScope s_mates) .none kV18 dc18 pm18 an18 cd18 ct18), sl18⟩) (c18 : PySem.W.codeIn K cd18 "_law_mates" = true) (k18 : PySem.W.keepIn K (.ref f18) = true)
    (a19 : PySem.W.nsIn K mainGlobals "_law_reason" = some (some (.ref f19))) (l19 : K.lookup f19 = some ⟨oc19, od19, .func (PySem.W.fnOf "_law_reason" "_law_reason" (defArgs s_lreason) (defBody s_lreason) (defScope s_lreason) .none kV19 dc19 pm19 an19 cd19 ct19), sl19⟩) (c19 : PySem.W.codeIn K cd19 "_law_reason" = true) (k19 : PySem.W.keepIn K (.ref f19) = true)
    (a20 : PySem.W.nsIn K mainGlobals "_law_told" = some (some (.ref f20))) (l20 : K.lookup f20 = some ⟨oc20, od20, .func (PySem.W.fnOf "_law_told" "_law_told" (defArgs s_told) (defBody s_told) (defScope s_told) .none kV20 dc20 pm20 an20 cd20 ct20), sl20⟩) (c20 : PySem.W.codeIn K cd20 "_law_told" = true) (k20 : PySem.W.keepIn K (.ref f20) = true)
    (a21 : PySem.W.nsIn K mainGlobals "_law_walked" = some (some (.ref f21))) (l21 : K.lookup f21 = some ⟨oc21, od21, .func (PySem.W.fnOf "_law_walked" "_law_walked" (defArgs s_walked) (defBody s_walked) (defScope s_walked) .none kV21 dc21 pm21 an21 cd21 ct21), sl21⟩) (c21 : PySem.W.codeIn K cd21 "_law_walked" = true) (k21 : PySem.W.keepIn K (.ref f21) = true)
    (a22 : PySem.W.nsIn K mainGlobals "_law_pairs" = some (some (.ref f22))) (l22 : K.lookup f22 = some ⟨oc22, od22, .func (PySem.W.fnOf "_law_pairs" "_law_pairs" (defArgs s_pairs) (defBody s_pairs) (defScope s_pairs) .none kV22 dc22 pm22 an22 cd22 ct22), sl22⟩) (c22 : PySem.W.codeIn K cd22 "_law_pairs" = true) (k22 : PySem.W.keepIn K (.ref f22) = true)
    (a23 : PySem.W.nsIn K mainGlobals "law" = some (some (.ref f23))) (l23 : K.lookup f23 = some ⟨oc23, od23, .func (PySem.W.fnOf "law" "law" (defArgs s_law) (defBody s_law) (defScope s_law) .none kV23 dc23 pm23 an23 cd23 ct23), sl23⟩) (c23 : PySem.W.codeIn K cd23 "law" = true) (k23 : PySem.W.keepIn K (.ref f23) = true)
    (z_len : PySem.W.nsIn K mainGlobals "len" = some none) (z_range : PySem.W.nsIn K mainGlobals "range" = some none) (z_isinstance : PySem.W.nsIn K mainGlobals "isinstance" = some none) (z_int : PySem.W.nsIn K mainGlobals "int" = some none) (z_bool : PySem.W.nsIn K mainGlobals "bool" = some none) (z_tuple : PySem.W.nsIn K mainGlobals "tuple" = some none) (z_list : PySem.W.nsIn K mainGlobals "list" = some none) (z_max : PySem.W.nsIn K mainGlobals "max" = some none) (z_min : PySem.W.nsIn K mainGlobals "min" = some none) (z_sorted : PySem.W.nsIn K mainGlobals "sorted" = some none) (z_reversed : PySem.W.nsIn K mainGlobals "reversed" = some none) (z_any : PySem.W.nsIn K mainGlobals "any" = some none) (z_enumerate : PySem.W.nsIn K mainGlobals "enumerate" = some none) (z_set : PySem.W.nsIn K mainGlobals "set" = some none) (z_str : PySem.W.nsIn K mainGlobals "str" = some none) :
    ∃ fd : FuncData, (∀ (s : Shared) (v : Value), BindsTo s fd ⟨[v], []⟩ [("_law_script", v)]) ∧ ∀ base : Heap, K.In base → base.Ns mainGlobals mg → FnOk l.prog w K mg base CX0 5 fa fd ["_law_script"] (spLaw K) := by
  have e := hfa.symm.trans (PySem.W.mg_of X G a23)
  cases e
  have m_len := PySem.W.mg_none_of X G z_len
  have m_range := PySem.W.mg_none_of X G z_range
  have m_isinstance := PySem.W.mg_none_of X G z_isinstance
  have m_int := PySem.W.mg_none_of X G z_int
  have m_bool := PySem.W.mg_none_of X G z_bool
  have m_tuple := PySem.W.mg_none_of X G z_tuple
  have m_list := PySem.W.mg_none_of X G z_list
  have m_max := PySem.W.mg_none_of X G z_max
  have m_min := PySem.W.mg_none_of X G z_min
  have m_sorted := PySem.W.mg_none_of X G z_sorted
  have m_reversed := PySem.W.mg_none_of X G z_reversed
  have m_any := PySem.W.mg_none_of X G z_any
  have m_enumerate := PySem.W.mg_none_of X G z_enumerate
  have m_set := PySem.W.mg_none_of X G z_set
  have m_str := PySem.W.mg_none_of X G z_str
  have F0 := fun_mk (st := s_disturbs) l0 c0 k0
  have b0 := F0.binds (ps := ["one", "other"]) fun _ _ _ _ _ _ us hl => match us, hl with | [_, _], _ => rfl
  have F1 := fun_mk (st := s_clash) l1 c1 k1
  have b1 := F1.binds (ps := ["one", "other"]) fun _ _ _ _ _ _ us hl => match us, hl with | [_, _], _ => rfl
  have F2 := fun_mk (st := s_some) l2 c2 k2
  have b2 := F2.binds (ps := ["between", "deed"]) fun _ _ _ _ _ _ us hl => match us, hl with | [_, _], _ => rfl
  have F3 := fun_mk (st := s_way) l3 c3 k3
  have b3 := F3.binds (ps := ["one", "other"]) fun _ _ _ _ _ _ us hl => match us, hl with | [_, _], _ => rfl
  have F4 := fun_mk (st := s_cr) l4 c4 k4
  have b4 := F4.binds (ps := ["one", "other"]) fun _ _ _ _ _ _ us hl => match us, hl with | [_, _], _ => rfl
  have F5 := fun_mk (st := s_partners) l5 c5 k5
  have b5 := F5.binds (ps := ["one", "other"]) fun _ _ _ _ _ _ us hl => match us, hl with | [_, _], _ => rfl
  have F6 := fun_mk (st := s_tr) l6 c6 k6
  have b6 := F6.binds (ps := ["one", "other"]) fun _ _ _ _ _ _ us hl => match us, hl with | [_, _], _ => rfl
  have F7 := fun_mk (st := s_reason) l7 c7 k7
  have b7 := F7.binds (ps := ["one", "other"]) fun _ _ _ _ _ _ us hl => match us, hl with | [_, _], _ => rfl
  have F8 := fun_mk (st := s_cell) l8 c8 k8
  have b8 := F8.binds (ps := ["_law_script", "_law_k"]) fun _ _ _ _ _ _ us hl => match us, hl with | [_, _], _ => rfl
  have F9 := fun_mk (st := s_whole) l9 c9 k9
  have b9 := F9.binds (ps := ["_law_found"]) fun _ _ _ _ _ _ us hl => match us, hl with | [_], _ => rfl
  have F10 := fun_mk (st := s_power) l10 c10 k10
  have b10 := F10.binds (ps := ["_law_k"]) fun _ _ _ _ _ _ us hl => match us, hl with | [_], _ => rfl
  have F11 := fun_mk (st := s_wide) l11 c11 k11
  have b11 := F11.binds (ps := ["_law_cell", "_law_factor"]) fun _ _ _ _ _ _ us hl => match us, hl with | [_, _], _ => rfl
  have F12 := fun_mk (st := s_deed) l12 c12 k12
  have b12 := F12.binds (ps := ["_law_cell", "_law_lift"]) fun _ _ _ _ _ _ us hl => match us, hl with | [_, _], _ => rfl
  have F13 := fun_mk (st := s_lclash) l13 c13 k13
  have b13 := F13.binds (ps := ["_law_one", "_law_other"]) fun _ _ _ _ _ _ us hl => match us, hl with | [_, _], _ => rfl
  have F14 := fun_mk (st := s_passed) l14 c14 k14
  have b14 := F14.binds (ps := ["_law_rows", "_law_cells"]) fun _ _ _ _ _ _ us hl => match us, hl with | [_, _], _ => rfl
  have F15 := fun_mk (st := s_exch) l15 c15 k15
  have b15 := F15.binds (ps := ["_law_row", "_law_which", "_law_new"]) fun _ _ _ _ _ _ us hl => match us, hl with | [_, _, _], _ => rfl
  have F16 := fun_mk (st := s_changed) l16 c16 k16
  have b16 := F16.binds (ps := ["_law_rows", "_law_kind", "_law_cell", "_law_lift"]) fun _ _ _ _ _ _ us hl => match us, hl with | [_, _, _, _], _ => rfl
  have F17 := fun_mk (st := s_counts) l17 c17 k17
  have b17 := F17.binds (ps := ["_law_rows"]) fun _ _ _ _ _ _ us hl => match us, hl with | [_], _ => rfl
  have F18 := fun_mk (st := s_mates) l18 c18 k18
  have b18 := F18.binds (ps := ["_law_one", "_law_other"]) fun _ _ _ _ _ _ us hl => match us, hl with | [_, _], _ => rfl
  have F19 := fun_mk (st := s_lreason) l19 c19 k19
  have b19 := F19.binds (ps := ["_law_one", "_law_other"]) fun _ _ _ _ _ _ us hl => match us, hl with | [_, _], _ => rfl
  have F20 := fun_mk (st := s_told) l20 c20 k20
  have b20 := F20.binds (ps := ["_law_found", "_law_due"]) fun _ _ _ _ _ _ us hl => match us, hl with | [_, _], _ => rfl
  have F21 := fun_mk (st := s_walked) l21 c21 k21
  have b21 := F21.binds (ps := ["_law_found", "_law_one", "_law_other"]) fun _ _ _ _ _ _ us hl => match us, hl with | [_, _, _], _ => rfl
  have F22 := fun_mk (st := s_pairs) l22 c22 k22
  have b22 := F22.binds (ps := ["_law_one", "_law_other"]) fun _ _ _ _ _ _ us hl => match us, hl with | [_, _], _ => rfl
  have F23 := fun_mk (st := s_law) l23 c23 k23
  refine ⟨PySem.W.fnOf "law" "law" (defArgs s_law) (defBody s_law) (defScope s_law) .none kV23 dc23 pm23 an23 cd23 ct23, fun s v => .of_eq rfl, fun base XB _ => ?_⟩
  have D0 := Df.mk' (P := l.prog) (w := w) (mg := mg) (base := base) (x := "disturbs") (ok_disturbs F0) b0 k0 (PySem.W.mg_of X G a0)
  have D1 := Df.mk' (P := l.prog) (w := w) (mg := mg) (base := base) (x := "clash") (ok_clash F1 D0) b1 k1 (PySem.W.mg_of X G a1)
  have D2 := Df.mk' (P := l.prog) (w := w) (mg := mg) (base := base) (x := "some_clash") (ok_some F2 D1 m_any) b2 k2 (PySem.W.mg_of X G a2)
  have D3 := Df.mk' (P := l.prog) (w := w) (mg := mg) (base := base) (x := "way") (ok_way F3 D2 m_list m_enumerate m_range m_len) b3 k3 (PySem.W.mg_of X G a3)
  have D4 := Df.mk' (P := l.prog) (w := w) (mg := mg) (base := base) (x := "count_reason") (ok_cr F4 m_sorted m_set) b4 k4 (PySem.W.mg_of X G a4)
  have D5 := Df.mk' (P := l.prog) (w := w) (mg := mg) (base := base) (x := "partners") (ok_partners F5 m_enumerate) b5 k5 (PySem.W.mg_of X G a5)
  have D6 := Df.mk' (P := l.prog) (w := w) (mg := mg) (base := base) (x := "turned_reason") (ok_tr F6 D5 D1 m_range m_len) b6 k6 (PySem.W.mg_of X G a6)
  have D7 := Df.mk' (P := l.prog) (w := w) (mg := mg) (base := base) (x := "reason") (ok_reason F7 D4 D6) b7 k7 (PySem.W.mg_of X G a7)
  have D8 := Df.mk' (P := l.prog) (w := w) (mg := mg) (base := base) (x := "_law_cell_at") (ok_cell F8 m_len) b8 k8 (PySem.W.mg_of X G a8)
  have D9 := Df.mk' (P := l.prog) (w := w) (mg := mg) (base := base) (x := "_law_whole") (ok_whole F9 m_isinstance m_int m_bool) b9 k9 (PySem.W.mg_of X G a9)
  have D10 := Df.mk' (P := l.prog) (w := w) (mg := mg) (base := base) (x := "_law_power") (ok_power F10 m_range) b10 k10 (PySem.W.mg_of X G a10)
  have D11 := Df.mk' (P := l.prog) (w := w) (mg := mg) (base := base) (x := "_law_wide") (ok_wide F11) b11 k11 (PySem.W.mg_of X G a11)
  have D12 := Df.mk' (P := l.prog) (w := w) (mg := mg) (base := base) (x := "_law_deed") (ok_deed F12 D11) b12 k12 (PySem.W.mg_of X G a12)
  have D13 := Df.mk' (P := l.prog) (w := w) (mg := mg) (base := base) (x := "_law_clash") (ok_lclash F13) b13 k13 (PySem.W.mg_of X G a13)
  have D14 := Df.mk' (P := l.prog) (w := w) (mg := mg) (base := base) (x := "_law_passed_on") (ok_passed F14 D13 m_list m_range m_len m_max) b14 k14 (PySem.W.mg_of X G a14)
  have D15 := Df.mk' (P := l.prog) (w := w) (mg := mg) (base := base) (x := "_law_exchanged") (ok_exch F15) b15 k15 (PySem.W.mg_of X G a15)
  have D16 := Df.mk' (P := l.prog) (w := w) (mg := mg) (base := base) (x := "_law_changed") (ok_changed F16 D12 D15 m_list m_reversed m_len) b16 k16 (PySem.W.mg_of X G a16)
  have D17 := Df.mk' (P := l.prog) (w := w) (mg := mg) (base := base) (x := "_law_counts") (ok_counts F17) b17 k17 (PySem.W.mg_of X G a17)
  have D18 := Df.mk' (P := l.prog) (w := w) (mg := mg) (base := base) (x := "_law_mates") (ok_mates F18 m_range m_len) b18 k18 (PySem.W.mg_of X G a18)
  have D19 := Df.mk' (P := l.prog) (w := w) (mg := mg) (base := base) (x := "_law_reason") (ok_lreason F19 D17 D18 D13 m_range m_len m_min) b19 k19 (PySem.W.mg_of X G a19)
  have D20 := Df.mk' (P := l.prog) (w := w) (mg := mg) (base := base) (x := "_law_told") (ok_told F20 D9 m_isinstance m_tuple m_str m_list m_len) b20 k20 (PySem.W.mg_of X G a20)
  have D21 := Df.mk' (P := l.prog) (w := w) (mg := mg) (base := base) (x := "_law_walked") (ok_walked F21 D9 D13 m_list m_range m_len) b21 k21 (PySem.W.mg_of X G a21)
  have D22 := Df.mk' (P := l.prog) (w := w) (mg := mg) (base := base) (x := "_law_pairs") (ok_pairs F22 D18 m_range m_len) b22 k22 (PySem.W.mg_of X G a22)
  exact ok_law F23 D8 D10 D12 D14 D16 D7 D3 D19 D20 D22 D21 m_list m_len m_isinstance
theorem walk {l : PySem.W.OpenLaw} {q : Program} {loose : List Str} {XP : (Str → Option Value) → Heap → Prop} {YP : World → Heap → Prop} {d : DefRec} {K : Params → PySem.W.Frag} (hn : l.most = some 63) (hdf : d.params.defaults = [])
    (hY : ∀ (w : World) (h : Heap), YP w h → (K w.params).In h)
    (F : ∀ (w : World) (mg : Str → Option Value) (fa : Addr) (h : Heap), (K w.params).In h → h.Ns mainGlobals mg → mg d.name = some (.ref fa) →
      ∃ fd : FuncData, (∀ (s : Shared) (u : Value), BindsTo s fd ⟨[u], []⟩ [("_law_script", u)]) ∧ ∀ base : Heap, (K w.params).In base → base.Ns mainGlobals mg → FnOk l.prog w (K w.params) mg base CX0 5 fa fd ["_law_script"] (spLaw (K w.params))) :
    PySem.W.WalkO q loose XP YP l.row.toRowW d [] (fun f vs => PySem.call f vs) :=
  L2.walk_of (n := 63) (k := 5) (x := "_law_script") (CX := fun _ => CX0) (sp := fun w => spLaw (K w.params)) hn (by decide) hdf ⟨rfl, by decide, by decide⟩ hY F (fun _ _ a ns hl _ hS => ⟨a, ns, rfl, hS, hl, fun _ => rfl⟩) fun _ _ _ _ _ z => z
end K08
open PySem PySem.W PyProof.Rows
set_option maxRecDepth 100000 in
set_option maxHeartbeats 0 in
theorem PySem.Challenge.cw_passby_k08_whole_way_or_reason_holds : PySem.Challenge.rw_passby_k08_whole_way_or_reason.Holds := by
  w_on; o_law; k_head; (case hw => w_witness2)
  k_fill
  refine K08.walk (l := PySem.Challenge.rw_passby_k08_whole_way_or_reason) rfl rfl (fun w h Y => PySem.W.kIn_of Y) ?F
  case F =>
    intro w mg fa h KX G hmg
    refine' K08.all_mk KX G hmg ?a0 ?l0 ?c0 ?k0 ?a1 ?l1 ?c1 ?k1 ?a2 ?l2 ?c2 ?k2 ?a3 ?l3 ?c3 ?k3 ?a4 ?l4 ?c4 ?k4 ?a5 ?l5 ?c5 ?k5 ?a6 ?l6 ?c6 ?k6 ?a7 ?l7 ?c7 ?k7 ?a8 ?l8 ?c8 ?k8 ?a9 ?l9 ?c9 ?k9 ?a10 ?l10 ?c10 ?k10 ?a11 ?l11 ?c11 ?k11 ?a12 ?l12 ?c12 ?k12 ?a13 ?l13 ?c13 ?k13 ?a14 ?l14 ?c14 ?k14 ?a15 ?l15 ?c15 ?k15 ?a16 ?l16 ?c16 ?k16 ?a17 ?l17 ?c17 ?k17 ?a18 ?l18 ?c18 ?k18 ?a19 ?l19 ?c19 ?k19 ?a20 ?l20 ?c20 ?k20 ?a21 ?l21 ?c21 ?k21 ?a22 ?l22 ?c22 ?k22 ?a23 ?l23 ?c23 ?k23     ?z_len ?z_range ?z_isinstance ?z_int ?z_bool ?z_tuple ?z_list ?z_max ?z_min ?z_sorted ?z_reversed ?z_any ?z_enumerate ?z_set ?z_str
    (case a0 => k_is); (case l0 => k_is); (case c0 => k_is); (case k0 => k_is)
    (case a1 => k_is); (case l1 => k_is); (case c1 => k_is); (case k1 => k_is)
    (case a2 => k_is); (case l2 => k_is); (case c2 => k_is); (case k2 => k_is)
    (case a3 => k_is); (case l3 => k_is); (case c3 => k_is); (case k3 => k_is)
    (case a4 => k_is); (case l4 => k_is); (case c4 => k_is); (case k4 => k_is)
    (case a5 => k_is); (case l5 => k_is); (case c5 => k_is); (case k5 => k_is)
    (case a6 => k_is); (case l6 => k_is); (case c6 => k_is); (case k6 => k_is)
    (case a7 => k_is); (case l7 => k_is); (case c7 => k_is); (case k7 => k_is)
    (case a8 => k_is); (case l8 => k_is); (case c8 => k_is); (case k8 => k_is)
    (case a9 => k_is); (case l9 => k_is); (case c9 => k_is); (case k9 => k_is)
    (case a10 => k_is); (case l10 => k_is); (case c10 => k_is); (case k10 => k_is)
    (case a11 => k_is); (case l11 => k_is); (case c11 => k_is); (case k11 => k_is)
    (case a12 => k_is); (case l12 => k_is); (case c12 => k_is); (case k12 => k_is)
    (case a13 => k_is); (case l13 => k_is); (case c13 => k_is); (case k13 => k_is)
    (case a14 => k_is); (case l14 => k_is); (case c14 => k_is); (case k14 => k_is)
    (case a15 => k_is); (case l15 => k_is); (case c15 => k_is); (case k15 => k_is)
    (case a16 => k_is); (case l16 => k_is); (case c16 => k_is); (case k16 => k_is)
    (case a17 => k_is); (case l17 => k_is); (case c17 => k_is); (case k17 => k_is)
    (case a18 => k_is); (case l18 => k_is); (case c18 => k_is); (case k18 => k_is)
    (case a19 => k_is); (case l19 => k_is); (case c19 => k_is); (case k19 => k_is)
    (case a20 => k_is); (case l20 => k_is); (case c20 => k_is); (case k20 => k_is)
    (case a21 => k_is); (case l21 => k_is); (case c21 => k_is); (case k21 => k_is)
    (case a22 => k_is); (case l22 => k_is); (case c22 => k_is); (case k22 => k_is)
    (case a23 => k_is); (case l23 => k_is); (case c23 => k_is); (case k23 => k_is)
    (case z_len => k_is)
    (case z_range => k_is)
    (case z_isinstance => k_is)
    (case z_int => k_is)
    (case z_bool => k_is)
    (case z_tuple => k_is)
    (case z_list => k_is)
    (case z_max => k_is)
    (case z_min => k_is)
    (case z_sorted => k_is)
    (case z_reversed => k_is)
    (case z_any => k_is)
    (case z_enumerate => k_is)
    (case z_set => k_is)
    (case z_str => k_is)
#print axioms PySem.Challenge.cw_passby_k08_whole_way_or_reason_holds

