import PyProof.Rows.All
import Wide.All
import OpenK.AllK
import Wide.FinOn
import Lean
import PyProof.EqAt
import PyProof.EqKinds
import PyProof.TupleCall
import PySem.Challenge.RW_passby_k10_whole_alike_do_the_same
set_option maxHeartbeats 4000000
set_option Elab.async false
set_option linter.all false
set_option maxRecDepth 100000
set_option Elab.async false
set_option linter.all false
set_option maxRecDepth 100000
/-! THE HAND LAYER, for ints, bools, texts, own classes, LISTS and tuples (index, slices, in, append, pop ..), calls, loops. Paste it whole ahead of your own text; what your proof does not reach may be deleted. -/
namespace L2
open PySem PySem.Spec PyProof.Rows

/-- a key: an int or a str -/
abbrev Key := Sum Int Str
def keyIs : Key → Value → Bool
  | .inl k, v => Value.isInt k v
  | .inr x, v => Value.isStrOf x v
def keyH (w : World) : Key → Int
  | .inl k => hashInt k
  | .inr x => hashStr w x
theorem keyIs_shape : ∀ {k : Key} {v : Value}, keyIs k v = true → (∃ i t, k = Sum.inl i ∧ v = Value.int i t) ∨ (∃ x t, k = Sum.inr x ∧ v = Value.str x t)
  | .inl i, v, h => by
    obtain ⟨t, e⟩ := Value.isInt_shape (k := i) (v := v) h
    exact .inl ⟨i, t, rfl, e⟩
  | .inr x, v, h => by
    obtain ⟨t, e⟩ := Value.isStrOf_shape (x := x) (v := v) h
    exact .inr ⟨x, t, rfl, e⟩
theorem keyIs_int (i : Int) (t : Tok) : keyIs (.inl i) (.int i t) = true := by simp [keyIs, Value.isInt]
theorem keyIs_str (x : Str) (t : Tok) : keyIs (.inr x) (.str x t) = true := by simp [keyIs, Value.isStrOf]
theorem key_ll (a b : Int) : decide ((Sum.inl a : Key) = Sum.inl b) = (a == b) := by
  by_cases e : a = b
  · subst e; simp
  · have h : ¬ (Sum.inl a : Key) = Sum.inl b := fun q => e (Sum.inl.inj q)
    rw [decide_eq_false h]
    exact (beq_eq_false_iff_ne.mpr e).symm
theorem key_rr (a b : Str) : decide ((Sum.inr a : Key) = Sum.inr b) = decide (a = b) := by
  by_cases e : a = b
  · subst e; simp
  · have h : ¬ (Sum.inr a : Key) = Sum.inr b := fun q => e (Sum.inr.inj q)
    rw [decide_eq_false h, decide_eq_false e]
theorem key_lr (a : Int) (b : Str) : decide ((Sum.inl a : Key) = Sum.inr b) = false := decide_eq_false (fun q => nomatch q)
theorem key_rl (a : Str) (b : Int) : decide ((Sum.inr a : Key) = Sum.inl b) = false := decide_eq_false (fun q => nomatch q)

def mixKind (prog : Program) (w : World) : PySem.KeyKind prog w Key where
  is := keyIs
  hash := keyH w
  inj := fun v a b ha hb => by
    rcases keyIs_shape ha with ⟨i, t, rfl, rfl⟩ | ⟨x, t, rfl, rfl⟩
    · rcases keyIs_shape hb with ⟨j, u, rfl, e⟩ | ⟨y, u, rfl, e⟩
      · injection e with e1 _; rw [e1]
      · exact nomatch e
    · rcases keyIs_shape hb with ⟨j, u, rfl, e⟩ | ⟨y, u, rfl, e⟩
      · exact nomatch e
      · injection e with e1 _; rw [e1]
  byValue := fun k v h => by
    rcases keyIs_shape h with ⟨i, t, rfl, rfl⟩ | ⟨x, t, rfl, rfl⟩ <;> rfl
  pyHash := fun hv h => by
    rcases keyIs_shape hv with ⟨i, t, rfl, rfl⟩ | ⟨x, t, rfl, rfl⟩
    · exact wpAny_pyHash_int h
    · exact wpAny_pyHash_str h
  eqBool := fun hu hv h => by
    rcases keyIs_shape hu with ⟨i, t, rfl, rfl⟩ | ⟨x, t, rfl, rfl⟩
    · rcases keyIs_shape hv with ⟨j, u, rfl, rfl⟩ | ⟨y, u, rfl, rfl⟩
      · rw [key_ll] at h; exact wpAny_eqBool_int h
      · rw [key_lr] at h; exact SeqAt.EqAt.int_str i t y u _ _ _ _ h
    · rcases keyIs_shape hv with ⟨j, u, rfl, rfl⟩ | ⟨y, u, rfl, rfl⟩
      · rw [key_rl] at h; exact SeqAt.EqAt.str_int x t j u _ _ _ _ h
      · rw [key_rr] at h; exact wpAny_eqBool_str h
  «strs» := fun k x t v h => by
    rcases keyIs_shape h with ⟨i, u, rfl, e⟩ | ⟨y, u, rfl, e⟩
    · exact nomatch e
    · injection e with e1 _
      subst e1
      cases v <;> rfl

theorem mixKind_is (prog : Program) (w : World) (k : Key) (v : Value) : (mixKind prog w).is k v = keyIs k v := rfl
theorem mixKind_int (prog : Program) (w : World) (i : Int) (t : Tok) : (mixKind prog w).is (.inl i) (.int i t) = true := keyIs_int i t
theorem mixKind_str (prog : Program) (w : World) (x : Str) (t : Tok) : (mixKind prog w).is (.inr x) (.str x t) = true := keyIs_str x t
end L2

namespace L2
open PySem PySem.Spec PyProof.Rows

/-- a value, without the heap -/
inductive V where
  | non | bl (b : Bool) | int (i : Int) | str (x : Str) | byt (b : Array UInt8) | flt (b : UInt64) | ref (a : Addr) | ty (n : String)
  deriving DecidableEq

def RelV : V → Value → Prop
  | .non, u => u = Value.none
  | .bl b, u => u = Value.bool b
  | .int i, u => ∃ t, u = Value.int i t
  | .str x, u => ∃ t, u = Value.str x t
  | .byt b, u => ∃ t, u = Value.bytes b t
  | .flt b, u => ∃ t, u = Value.float b t
  | .ref a, u => u = Value.ref a
  | .ty n, u => u = Value.type n

abbrev Vals : List V → List Value → Prop := Paired RelV
theorem Vals.length {xs : List V} {us : List Value} (r : Vals xs us) : xs.length = us.length := Paired.length r
theorem Vals.get : ∀ {xs : List V} {us : List Value} {i : Nat} {x : V}, Vals xs us → xs[i]? = some x → ∃ u, us[i]? = some u ∧ RelV x u
  | _, _, _, _, .nil, e => by simp at e
  | _, _, 0, _, .cons r _, e => by simp at e; subst e; exact ⟨_, rfl, r⟩
  | _, _, i + 1, x, .cons _ t, e => by
    obtain ⟨u, h1, h2⟩ := Vals.get (i := i) (x := x) t (by simpa using e)
    exact ⟨u, by simpa using h1, h2⟩
theorem Vals.set {x : V} {u : Value} (r : RelV x u) : ∀ {xs : List V} {us : List Value} (i : Nat), Vals xs us → Vals (xs.set i x) (us.set i u)
  | _, _, _, .nil => .nil
  | _, _, 0, .cons _ t => .cons r t
  | _, _, i + 1, .cons q t => .cons q (Vals.set r i t)
theorem Vals.append : ∀ {xs ys : List V} {us ws : List Value}, Vals xs us → Vals ys ws → Vals (xs ++ ys) (us ++ ws)
  | _, _, _, _, .nil, s => s
  | _, _, _, _, .cons r t, s => .cons r (Vals.append t s)
theorem Vals.take : ∀ {xs : List V} {us : List Value} (n : Nat), Vals xs us → Vals (xs.take n) (us.take n)
  | _, _, 0, _ => .nil
  | _, _, _ + 1, .nil => .nil
  | _, _, n + 1, .cons r t => .cons r (Vals.take n t)
theorem Vals.drop : ∀ {xs : List V} {us : List Value} (n : Nat), Vals xs us → Vals (xs.drop n) (us.drop n)
  | _, _, 0, r => r
  | _, _, _ + 1, .nil => .nil
  | _, _, n + 1, .cons _ t => Vals.drop n t
theorem Vals.none_of : ∀ {xs : List V} {us : List Value} {i : Nat}, Vals xs us → xs[i]? = none → us[i]? = none := fun {xs us i} r e => by
  have h1 := r.length
  have h2 : xs.length ≤ i := List.getElem?_eq_none_iff.mp e
  exact List.getElem?_eq_none_iff.mpr (by omega)

def RelO : Option V → Option Value → Prop
  | some v, some u => RelV v u
  | none, none => True
  | _, _ => False
def KV {κ : Type} : List (κ × V) → List (κ × Value) → Prop := Paired fun (p : κ × V) (q : κ × Value) => p.1 = q.1 ∧ RelV p.2 q.2

/-- a key of a dict (00_mix): an int or a text -/
def kV : Key → V
  | .inl i => .int i
  | .inr x => .str x

/-- what stands at a tracked address -/
inductive HO where
  /-- a list -/
  | lst (xs : List V)
  /-- a tuple (never changes) -/
  | tup (xs : List V)
  /-- a dict whose keys are ints and texts; one whose keys are tuples of ints and texts (the empty one is both) -/
  | dK (kvs : List (Key × V)) | dT (kvs : List (List Key × V))
  /-- a set of ints: its members, its size -/
  | set (S : Int → Bool) (n : Nat)
  /-- an instance of the class at C, its dict at dx, its attributes -/
  | ins (C dx : Addr) (fs : List (Str × V))
  /-- the dict of the instance at x -/
  | own (x : Addr)
  /-- the dict of an exception -/
  | xd (fs : List (Str × V))
  /-- a bound method, f of x -/
  | met (f x : Addr)
  /-- a range object lo, lo + 1, .. below hi -/
  | rng (lo hi : Int)
  /-- a thing that is known to the object (the script; a dict while a loop walks it): read, never written while it is so -/
  | frz (o : Obj) (u : HO)
  /-- a code object's table -/
  | tbl (ps : Array Value)
  /-- any other thing, by what is true of its one object (a def of one's own: SetO a S n := HO.ext fun h => ..) -/
  | ext (φ : Heap → Prop)

abbrev Hp := Addr → Option HO
def upd (H : Hp) (a : Addr) (o : HO) : Hp := fun b => if b = a then some o else H b
theorem upd_same {H : Hp} {a : Addr} {o : HO} : upd H a o a = some o := by unfold upd; rw [if_pos rfl]
theorem upd_ne {H : Hp} {a b : Addr} {o : HO} (h : b ≠ a) : upd H a o b = H b := by unfold upd; rw [if_neg h]
theorem upd_upd {H : Hp} {a : Addr} {o u : HO} : upd (upd H a o) a u = upd H a u := by
  funext b; unfold upd; split <;> rfl
/-- two objects of different content stand apart -/
theorem ne_of {H : Hp} {a b : Addr} {o u : HO} (h : H a = some o) (h' : H b = some u) (d : o ≠ u) : a ≠ b := by
  intro e; subst e; rw [h] at h'; exact d (Option.some.inj h')
theorem ne_of_none {H : Hp} {a b : Addr} {o : HO} (h : H a = some o) (h' : H b = none) : a ≠ b := by
  intro e; subst e; rw [h] at h'; cases h'

section
variable (P : Program) (w : World)
def ObjOk (H : Hp) (h : Heap) (a : Addr) : HO → Prop
  | .lst xs => xs.length ≤ sizeLine ∧ ∃ (its : List Value) (n : Nat), Vals xs its ∧ h.get? a = some { cls := .type "list", data := .seq its.toArray n }
  | .tup xs => xs.length ≤ sizeLine ∧ ∃ its : List Value, Vals xs its ∧ IsTup h a its.toArray
  | .dK kvs => kvs.length ≤ sizeLine ∧ (a == sysModules) = false ∧ ∃ vs, KV kvs vs ∧ h.DictOf (mixKind P w) a vs
  | .dT kvs => kvs.length ≤ sizeLine ∧ (a == sysModules) = false ∧ ∃ xs : List (List Key × Addr × Value),
      Paired (fun (p : List Key × V) (q : List Key × Addr × Value) => p.1 = q.1 ∧ H q.2.1 = some (.tup (p.1.map kV)) ∧ RelV p.2 q.2.2) kvs xs ∧
      ∃ o es ep, h.get? a = some o ∧ o.ExactDict ∧ o.data = .dict es ep ∧ es.toList = xs.map (entryOfKey (tupleKind (mixKind P w))) ∧ (xs.map (·.1)).Nodup
  | .set S n => h.SetOf (intKind P w) a S n
  | .ins C dx fs => H dx = some (.own a) ∧ fs.length ≤ 1000 ∧ dx ≠ a ∧ h.get? a = some (PySem.W.instObj C dx) ∧
      ∃ mA, h.Ns1 dx mA ∧ (∀ f, RelO (fs.lookup f) (mA f)) ∧ PySem.Within mA (fs.map (·.1))
  | .own _ => ∃ o, h.get? a = some o
  | .xd fs => ∃ mA, h.Ns1 a mA ∧ ∀ f, RelO (fs.lookup f) (mA f)
  | .rng lo hi => ∃ t u v, h.get? a = some { cls := .type "range", data := .fields #[.int lo t, .int hi u, .int 1 v] }
  | .frz o u => h.get? a = some o ∧ ObjOk H h a u
  | .tbl ps => h.get? a = some { cls := .none, data := .fields ps }
  | .met f x => h.get? a = some (PySem.W.methodObj (.ref f) (.ref x))
  | .ext φ => φ h ∧ (∃ o, h.get? a = some o) ∧ ∀ h1 h2 : Heap, φ h1 → (∀ o, h1.get? a = some o → h2.get? a = some o) → φ h2
/-- the abstract heap is held -/
def HOk (H : Hp) (h : Heap) : Prop := ∀ a o, H a = some o → ObjOk P w H h a o
end

section
variable {P : Program} {w : World} {H H' : Hp} {h h' : Heap} {a : Addr} {o : HO}
theorem ObjOk.lt (x : ObjOk P w H h a o) : a < h.objs.size := by
  cases o with
  | lst xs => obtain ⟨_, _, _, _, e⟩ := x; exact Heap.lt_size e
  | tup xs => obtain ⟨_, _, _, p⟩ := x; exact p.lt
  | dK kvs => obtain ⟨_, _, _, _, o, _, _, e, _⟩ := x; exact Heap.lt_size e
  | dT kvs => obtain ⟨_, _, _, _, o, _, _, e, _⟩ := x; exact Heap.lt_size e
  | set S n => obtain ⟨o, _, _, _, e, _⟩ := x; exact Heap.lt_size e
  | ins C dx fs => obtain ⟨_, _, _, e, _⟩ := x; exact Heap.lt_size e
  | own y => obtain ⟨_, e⟩ := x; exact Heap.lt_size e
  | xd fs => obtain ⟨_, ⟨_, _, _, e, _⟩, _⟩ := x; exact Heap.lt_size e
  | rng lo hi => obtain ⟨_, _, _, e⟩ := x; exact Heap.lt_size e
  | frz ob u => obtain ⟨e, _⟩ := x; exact Heap.lt_size e
  | tbl ps => exact Heap.lt_size (show h.get? a = some _ from x)
  | met f y => exact Heap.lt_size (show h.get? a = some _ from x)
  | ext φ => obtain ⟨_, ⟨_, e⟩, _⟩ := x; exact Heap.lt_size e
theorem Paired.mapP {α β : Type} {F G : α → β → Prop} : ∀ {l₁ : List α} {l₂ : List β}, Paired F l₁ l₂ → (∀ a b, F a b → G a b) → Paired G l₁ l₂
  | _, _, .nil, _ => .nil
  | _, _, .cons r t, f => .cons (f _ _ r) (Paired.mapP t f)
theorem Paired.imp' {α β : Type} {F G : α → β → Prop} (f : ∀ a b, F a b → G a b) {l₁ : List α} {l₂ : List β} (r : Paired F l₁ l₂) : Paired G l₁ l₂ := Paired.mapP r f
/-- what an object's description leans on: its own object, its own dict, the tuples -/
theorem ObjOk.stay (x : ObjOk P w H h a o) (k : ∀ b u, (b = a ∨ H b = some (.own a)) → h.get? b = some u → h'.get? b = some u)
    (ho : ∀ b, H b = some (.own a) → H' b = some (.own a)) (ht : ∀ b xs, H b = some (.tup xs) → H' b = some (.tup xs)) : ObjOk P w H' h' a o := by
  induction o with
  | lst xs => obtain ⟨z, its, n, r, e⟩ := x; exact ⟨z, its, n, r, k _ _ (.inl rfl) e⟩
  | tup xs => obtain ⟨z, its, r, ob, e, c⟩ := x; exact ⟨z, its, r, ob, k _ _ (.inl rfl) e, c⟩
  | dK kvs => obtain ⟨z, y, vs, r, ob, es, ep, e, c⟩ := x; exact ⟨z, y, vs, r, ob, es, ep, k _ _ (.inl rfl) e, c⟩
  | dT kvs =>
    obtain ⟨z, y, xs, r, ob, es, ep, e, c⟩ := x
    exact ⟨z, y, xs, Paired.mapP r fun p q z => ⟨z.1, ht _ _ z.2.1, z.2.2⟩, ob, es, ep, k _ _ (.inl rfl) e, c⟩
  | set S n => obtain ⟨ob, es, ep, t, e, c⟩ := x; exact ⟨ob, es, ep, t, k _ _ (.inl rfl) e, c⟩
  | ins C dx fs =>
    obtain ⟨d, z, ne, e, mA, ⟨od, es, ep, e2, c⟩, r⟩ := x
    exact ⟨ho _ d, z, ne, k _ _ (.inl rfl) e, mA, ⟨od, es, ep, k _ _ (.inr d) e2, c⟩, r⟩
  | own y => obtain ⟨ob, e⟩ := x; exact ⟨ob, k _ _ (.inl rfl) e⟩
  | xd fs => obtain ⟨mA, ⟨od, es, ep, e, c⟩, r⟩ := x; exact ⟨mA, ⟨od, es, ep, k _ _ (.inl rfl) e, c⟩, r⟩
  | rng lo hi => obtain ⟨t, u, v, e⟩ := x; exact ⟨t, u, v, k _ _ (.inl rfl) e⟩
  | frz ob u ih => obtain ⟨e, q⟩ := x; exact ⟨k _ _ (.inl rfl) e, ih q⟩
  | tbl ps =>
    have e : h.get? a = some { cls := .none, data := .fields ps } := x
    show h'.get? a = some { cls := .none, data := .fields ps }
    exact k a _ (.inl rfl) e
  | met f y =>
    have e : h.get? a = some (PySem.W.methodObj (.ref f) (.ref y)) := x
    show h'.get? a = some (PySem.W.methodObj (.ref f) (.ref y))
    exact k a _ (.inl rfl) e
  | ext φ => obtain ⟨p, ⟨o, e⟩, st⟩ := x; exact ⟨st _ _ p fun o q => k _ _ (.inl rfl) q, ⟨o, k _ _ (.inl rfl) e⟩, st⟩
theorem HOk.lt (x : HOk P w H h) (e : H a = some o) : a < h.objs.size := (x a o e).lt
theorem HOk.fresh (x : HOk P w H h) (e : h.objs.size ≤ a) : H a = none := by
  cases q : H a with
  | none => rfl
  | some u => exact absurd (Nat.lt_of_lt_of_le (x.lt q) e) (Nat.lt_irrefl _)
/-- every object of the heap is kept -/
theorem HOk.kept (x : HOk P w H h) (k : ∀ b u, h.get? b = some u → h'.get? b = some u) : HOk P w H h' := fun a o e =>
  (x a o e).stay (fun b u _ q => k b u q) (fun _ q => q) fun _ _ q => q
/-- a new object is laid and tracked -/
theorem HOk.laid (x : HOk P w H h) (k : ∀ b u, h.get? b = some u → h'.get? b = some u) (hp : h.objs.size ≤ a) (new : ObjOk P w (upd H a o) h' a o) : HOk P w (upd H a o) h' := fun b u e => by
  have hn := x.fresh hp
  by_cases hb : b = a
  · subst hb; rw [upd_same] at e; cases e; exact new
  · rw [upd_ne hb] at e
    exact (x b u e).stay (fun c v _ q => k c v q) (fun c q => by rw [upd_ne (ne_of_none q hn)]; exact q) fun c xs q => by rw [upd_ne (ne_of_none q hn)]; exact q
end

/-- what may be read as u: it is u, or a known u -/
def Rd (H : Hp) (a : Addr) (u : HO) : Prop := H a = some u ∨ ∃ o, H a = some (.frz o u)
theorem Rd.of {H : Hp} {a : Addr} {u : HO} (h : H a = some u) : Rd H a u := .inl h
theorem Rd.ok {P : Program} {w : World} {H : Hp} {h : Heap} {a : Addr} {u : HO} (r : Rd H a u) (x : HOk P w H h) : ObjOk P w H h a u := by
  rcases r with r | ⟨o, r⟩
  · exact x a u r
  · obtain ⟨_, q⟩ := x a _ r
    exact q
/-- what may be written -/
def Mut : Option HO → Prop
  | some (.lst _) => True
  | some (.dK _) => True
  | some (.dT _) => True
  | some (.set _ _) => True
  | some (.ins _ _ _) => True
  | some (.ext _) => True
  | _ => False
section
variable {P : Program} {w : World} {H : Hp} {h h' : Heap} {x e : Addr} {o' : HO}
/-- the object at e is changed: x itself, or the dict of the instance x -/
theorem HOk.write (ok : HOk P w H h) (mu : Mut (H x)) (he : e = x ∨ H e = some (.own x)) (k : ∀ b u, b ≠ e → h.get? b = some u → h'.get? b = some u) (heo : ∃ u, h'.get? e = some u)
    (new : ObjOk P w (upd H x o') h' x o') : HOk P w (upd H x o') h' := fun b u q => by
  have nown : ∀ c y, H c = some (.own y) → c ≠ x := fun c y r z => by subst z; rw [r] at mu; exact mu
  have ntup : ∀ c xs, H c = some (.tup xs) → c ≠ x := fun c xs r z => by subst z; rw [r] at mu; exact mu
  by_cases hb : b = x
  · subst hb; rw [upd_same] at q; cases q; exact new
  · rw [upd_ne hb] at q
    by_cases hbe : b = e
    · have q' : H b = some (.own x) := by
        rcases he with z | z
        · exact absurd (hbe.trans z) hb
        · rw [hbe]; exact z
      rw [q] at q'; cases q'
      obtain ⟨v, hv⟩ := heo
      exact ⟨v, by rw [hbe]; exact hv⟩
    · refine (ok b u q).stay (fun c v hc r => k c v ?_ r) (fun c r => by rw [upd_ne (nown c b r)]; exact r) fun c xs r => by rw [upd_ne (ntup c xs r)]; exact r
      rcases hc with rfl | hc
      · exact hbe
      · rintro rfl
        rcases he with z | z
        · exact nown c b hc z
        · rw [hc] at z; cases z; exact hb rfl
end

/-! ### kept unless tracked; of the frames at fs (the callers') the slots may change (an exception that passes writes there); of the records at ex (iterators) nothing is said -/
structure Un (fs ex : List Addr) (H H' : Hp) (h h' : Heap) : Prop where
  keep : ∀ b o, h.get? b = some o → H b = none → b ∉ fs → b ∉ ex → h'.get? b = some o
  slot : ∀ b o, h.get? b = some o → H b = none → b ∈ fs → b ∉ ex → ∃ sl, h'.get? b = some { o with slots := sl }
  free : ∀ b o, h.get? b = some o → H b = none → b ∉ ex → H' b = none
  there : ∀ b o, h.get? b = some o → b ∉ ex → ∃ o', h'.get? b = some o'
  tups : ∀ b xs, H b = some (.tup xs) → H' b = some (.tup xs)
  frzs : ∀ b o u, H b = some (.frz o u) → H' b = some (.frz o u)
  tbls : ∀ b ps, H b = some (.tbl ps) → ∃ more, H' b = some (.tbl (ps ++ more))
section
variable {fs fs' ex ex' : List Addr} {H H1 H2 : Hp} {h h1 h2 h' : Heap} {a x e : Addr} {o : HO}
theorem Un.any (u : Un fs ex H H1 h h1) {b : Addr} {ob : Obj} (q : h.get? b = some ob) (n : H b = none) (hx : b ∉ ex) : ∃ sl, h1.get? b = some { ob with slots := sl } := by
  by_cases hb : b ∈ fs
  · exact u.slot b ob q n hb hx
  · exact ⟨ob.slots, u.keep b ob q n hb hx⟩
theorem Un.trans (a : Un fs ex H H1 h h1) (b : Un fs ex H1 H2 h1 h2) : Un fs ex H H2 h h2 where
  keep := fun c ob q n hc hx => b.keep c ob (a.keep c ob q n hc hx) (a.free c ob q n hx) hc hx
  slot := fun c ob q n hc hx => by
    obtain ⟨sl, e1⟩ := a.slot c ob q n hc hx
    obtain ⟨sl', e2⟩ := b.slot c _ e1 (a.free c ob q n hx) hc hx
    exact ⟨sl', e2⟩
  free := fun c ob q n hx => by
    obtain ⟨o', e1⟩ := a.there c ob q hx
    exact b.free c o' e1 (a.free c ob q n hx) hx
  there := fun c ob q hx => by
    obtain ⟨o', e1⟩ := a.there c ob q hx
    exact b.there c o' e1 hx
  tups := fun c xs q => b.tups c xs (a.tups c xs q)
  frzs := fun c ob xs q => b.frzs c ob xs (a.frzs c ob xs q)
  tbls := fun c ps q => by
    obtain ⟨m1, e1⟩ := a.tbls c ps q
    obtain ⟨m2, e2⟩ := b.tbls c _ e1
    exact ⟨m1 ++ m2, by rw [e2, Array.append_assoc]⟩
theorem Un.kept (k : ∀ b u, h.get? b = some u → h'.get? b = some u) : Un fs ex H H h h' :=
  ⟨fun b ob q _ _ _ => k b ob q, fun b ob q _ _ _ => ⟨ob.slots, k b ob q⟩, fun _ _ _ n _ => n, fun b ob q _ => ⟨ob, k b ob q⟩, fun _ _ q => q, fun _ _ _ q => q, fun _ ps q => ⟨#[], by rw [q]; simp⟩⟩
theorem Un.refl : Un fs ex H H h h := Un.kept fun _ _ q => q
theorem Un.laid (k : ∀ b u, h.get? b = some u → h'.get? b = some u) (hp : h.objs.size ≤ a) (hn : H a = none) : Un fs ex H (upd H a o) h h' where
  keep := fun b u q _ _ _ => k b u q
  slot := fun b u q _ _ _ => ⟨u.slots, k b u q⟩
  free := fun b u q n _ => by rw [upd_ne (Nat.ne_of_lt (Nat.lt_of_lt_of_le (Heap.lt_size q) hp))]; exact n
  there := fun b u q _ => ⟨u, k b u q⟩
  tups := fun b xs q => by rw [upd_ne (ne_of_none q hn)]; exact q
  frzs := fun b u xs q => by rw [upd_ne (ne_of_none q hn)]; exact q
  tbls := fun b ps q => ⟨#[], by rw [upd_ne (ne_of_none q hn), q]; simp⟩
theorem Un.write (mu : Mut (H x)) (he : e = x ∨ H e = some (.own x)) (k : ∀ b u, b ≠ e → h.get? b = some u → h'.get? b = some u) (heo : ∃ u, h'.get? e = some u) : Un fs ex H (upd H x o) h h' := by
  have hx : ∀ b, H b = none → b ≠ x := fun b n z => by subst z; rw [n] at mu; exact mu
  have hb : ∀ b, H b = none → b ≠ e := fun b n z => by
    subst z
    rcases he with r | r
    · exact hx b n r
    · rw [n] at r; cases r
  have hm : ∀ b u, H b = some u → ¬ Mut (some u) → b ≠ x := fun b u q nm z => by subst z; rw [q] at mu; exact nm mu
  refine ⟨fun b u q n _ _ => k b u (hb b n) q, fun b u q n _ _ => ⟨u.slots, k b u (hb b n) q⟩, fun b u q n _ => by rw [upd_ne (hx b n)]; exact n, fun b u q _ => ?_,
    fun b xs q => by rw [upd_ne (hm b _ q fun z => z)]; exact q, fun b u xs q => by rw [upd_ne (hm b _ q fun z => z)]; exact q, fun b ps q => ⟨#[], by rw [upd_ne (hm b _ q fun z => z), q]; simp⟩⟩
  by_cases hbe : b = e
  · subst hbe; exact heo
  · exact ⟨u, k b u hbe q⟩
theorem Un.mono (u : Un fs ex H H1 h h1) (hs : ∀ b ∈ fs, b ∈ fs') (hx : ∀ b ∈ ex, b ∈ ex') : Un fs' ex' H H1 h h1 :=
  ⟨fun b ob q n hb he => u.keep b ob q n (fun z => hb (hs b z)) fun z => he (hx b z), fun _ _ q n _ he => u.any q n fun z => he (hx _ z), fun b ob q n he => u.free b ob q n fun z => he (hx b z), fun b ob q he => u.there b ob q fun z => he (hx b z), u.tups, u.frzs, u.tbls⟩
end

/-! ### the heap without what is tracked -/
def trk (h : Heap) (H : Hp) : List Addr := (List.range h.objs.size).filter fun a => (H a).isSome
def hidT (h : Heap) (H : Hp) : Heap := PySem.W.hideAll h (trk h H)
theorem hidT_size (h : Heap) (H : Hp) : (hidT h H).objs.size = h.objs.size := PySem.W.hideAll_size _ _
theorem hidT_get {h : Heap} {H : Hp} {b : Addr} {o : Obj} (e : h.get? b = some o) (n : H b = none) : (hidT h H).get? b = some o :=
  PySem.W.hideAll_get _ e fun hm => by
    have q : (H b).isSome = true := (List.mem_filter.mp hm).2
    rw [n] at q; simp at q
theorem of_hidT {h : Heap} {H : Hp} {b : Addr} {o : Obj} (e : (hidT h H).get? b = some o) : h.get? b = some o ∧ H b = none := by
  have e' : h.get? b = some o := PySem.W.of_hideAll (trk h H) e
  refine ⟨e', ?_⟩
  cases q : H b with
  | none => rfl
  | some x =>
    have hm : b ∈ trk h H := List.mem_filter.mpr ⟨List.mem_range.mpr (Heap.lt_size e'), by simp [q]⟩
    have z : (hidT h H).get? b = none := PySem.W.hideAll_none (trk h H) hm
    rw [z] at e; cases e

/-! ### OpenK's ledger, filled with every new object but one -/
def allNews (g h : Heap) (L : Addr) : List (Addr × Obj) := (List.range h.objs.size).filterMap fun a => if a = L ∨ (g.get? a).isSome = true then none else (h.get? a).map fun o => (a, o)
theorem mem_allNews {g h : Heap} {L a : Addr} {o : Obj} (h1 : a ≠ L) (h2 : g.get? a = none) (h3 : h.get? a = some o) : (a, o) ∈ allNews g h L :=
  List.mem_filterMap.mpr ⟨a, List.mem_range.mpr (Heap.lt_size h3), by simp [h1, h2, h3]⟩
theorem of_mem_allNews {g h : Heap} {L : Addr} {p : Addr × Obj} (hp : p ∈ allNews g h L) : p.1 ≠ L ∧ g.get? p.1 = none ∧ h.get? p.1 = some p.2 := by
  obtain ⟨b, _, e⟩ := List.mem_filterMap.mp hp
  split at e
  · cases e
  · rename_i hn
    cases q : h.get? b with
    | none => rw [q] at e; simp at e
    | some u =>
      rw [q] at e
      simp only [Option.map_some, Option.some.injEq] at e
      subst e
      refine ⟨fun z => hn (.inl z), ?_, q⟩
      show g.get? b = none
      cases r : g.get? b with
      | none => rfl
      | some v => exact (hn (.inr (by simp [r]))).elim
def rest (g h : Heap) (L d : Addr) : List (Addr × Obj) := (allNews g h L).filter fun p => decide (p.1 ≠ d)
theorem rest_ne {g h : Heap} {L d : Addr} : ∀ p ∈ rest g h L d, p.1 ≠ d := fun p hp => of_decide_eq_true (List.mem_filter.mp hp).2
theorem mem_rest {g h : Heap} {L d a : Addr} {o : Obj} (h1 : a ≠ L) (h2 : g.get? a = none) (h3 : h.get? a = some o) (h4 : a ≠ d) : (a, o) ∈ rest g h L d :=
  List.mem_filter.mpr ⟨mem_allNews h1 h2 h3, decide_eq_true h4⟩
theorem news_all {g h : Heap} {L : Addr} : News g L h (allNews g h L) := fun p hp => let ⟨a, b, c⟩ := of_mem_allNews hp; ⟨c, a, b⟩
theorem news_at {g h : Heap} {L d : Addr} {o : Obj} (h1 : d ≠ L) (h2 : g.get? d = none) (h3 : h.get? d = some o) : News g L h ((d, o) :: rest g h L d) := fun p hp => by
  rcases List.mem_cons.mp hp with rfl | hp
  · exact ⟨h3, h1, h2⟩
  · exact news_all p (List.mem_filter.mp hp).1
/-- behind a rule that changed d alone: all else but the frame is kept -/
theorem kept_of_news {g h h' : Heap} {L d : Addr} {m : Str → Option Value} (k : ∀ b o, g.get? b = some o → h.get? b = some o) (F : Fr g L h' m) (N : News g L h' (rest g h L d)) :
    ∀ b o, b ≠ L → b ≠ d → h.get? b = some o → h'.get? b = some o := fun b o h1 h2 e => by
  cases q : g.get? b with
  | some u =>
    have := k b u q
    rw [e] at this; cases this
    exact F.keep b _ q
  | none => exact (N (b, o) (mem_rest h1 q e h2)).1
end L2

namespace L2
open PySem PySem.Spec PyProof.Rows

/-- the module's facts, over the base: the heap at the law's entry without what is tracked there -/
structure Mod (K : PySem.W.Frag) (mg : Str → Option Value) (base : Heap) : Prop where
  kin : K.In base
  glob : base.Ns mainGlobals mg
  blt : ∃ mb, base.Ns builtinsNs mb ∧ ∀ x : Str, x ≠ "__name__" → mb x = bootBuiltins x
  nolimit : base.NoLimit

/-- the context: a def's body (or a comprehension's block) running. base: fixed through the whole law; s₀, H₀: the entry; outer: the frames whose slots others may change (a def's callers); stack: all frames that run;
   ex: iterators that were made ahead of the entry and are walked here (a comprehension's); fn: the names whose cells were made at the entry (a def: all; a comprehension's block: its own); calm: not within an except suite; pn: pins that every state bears; xe: what is wanted of an exception that leaves the code -/
structure Cx where
  prog : Program
  w : World
  K : PySem.W.Frag
  mg : Str → Option Value
  base : Heap
  A : Around
  N : List Str
  s₀ : Shared
  H₀ : Hp
  env : Env
  outer : List Env
  stack : List Env
  ex : List Addr
  fn : Str → Bool
  calm : Bool
  pn : List (Addr × Obj)
  xe : Value → Shared → Prop
/-- the callers' frames -/
def frs (l : List Env) : List Addr := l.filterMap (·.frame)
abbrev Cx.fs (X : Cx) : List Addr := frs X.outer

def Vis (sc : Scope) (x : Str) : Prop := sc.names.lookup x = some .local ∨ sc.names.lookup x = some .cell ∨ sc.names.lookup x = some .free
def Loc (sc : Scope) (x : Str) : Prop := sc.names.lookup x = some .local ∨ sc.names.lookup x = some .cell
def Look (env : Env) (h : Heap) (m : Str → Option Value) (x : Str) (u : Value) : Prop :=
  (env.kindOf x = some .local ∧ m x = some u) ∨ ((env.kindOf x = some .cell ∨ env.kindOf x = some .free) ∧ ∃ c, env.cells.lookup x = some c ∧ h.IsCell c (some u))

structure Cx.Ok (X : Cx) : Prop where
  mod : Mod X.K X.mg X.base
  kind : X.env.scope.kind = .function
  glob : X.env.globals = mainGlobals
  blt : X.env.builtins = builtinsNs
  above : X.s₀.heap.objs.size ≤ X.env.locals
  inj : ∀ x y c, X.env.cells.lookup x = some c → X.env.cells.lookup y = some c → x = y
  has : ∀ x, (X.env.kindOf x = some .cell ∨ X.env.kindOf x = some .free) → ∃ c, X.env.cells.lookup x = some c
  cab : ∀ x c, X.fn x = true → X.env.cells.lookup x = some c → X.s₀.heap.objs.size ≤ c
  hd : X.calm = true → X.A.handled = none
  frames : X.A.frames = some X.stack
  stk : X.stack = X.outer ∨ (X.stack = X.env :: X.outer ∧ X.env.frame = some X.env.locals)
  exf : ∀ b ∈ X.ex, b ≠ X.env.locals ∧ ∀ x c, X.env.cells.lookup x = some c → c ≠ b
  bs : ∀ b o, X.base.get? b = some o → X.s₀.heap.get? b = some o ∧ X.H₀ b = none
  bsz : X.base.objs.size ≤ X.s₀.heap.objs.size
  noex : ∀ b o, X.base.get? b = some o → b ∉ X.ex
  exfs : ∀ b ∈ X.ex, b ∉ X.fs
  funs : X.s₀.heap.FunFrames X.base X.outer
  frf : ∀ b ∈ X.fs, X.H₀ b = none

structure Inv (X : Cx) (pins : List (Addr × Obj)) (σ : List (Option V)) (H : Hp) (s : Shared) : Prop where
  ok : X.Ok
  os : s.os = X.s₀.os
  bare : AllBare s.gens
  base : Un X.fs X.ex X.H₀ H X.s₀.heap s.heap
  loc : ∃ m, s.heap.Ns X.env.locals m ∧ ∀ (i : Nat) (x : Str) (v : V), X.N[i]? = some x → σ[i]? = some (some v) → Vis X.env.scope x → ∃ u, RelV v u ∧ Look X.env s.heap m x u
  cell : ∀ x c, X.env.cells.lookup x = some c → ∃ v, s.heap.IsCell c v
  free : H X.env.locals = none
  freeC : ∀ x c, X.env.cells.lookup x = some c → H c = none
  pin : ∀ p ∈ X.pn ++ pins, s.heap.get? p.1 = some p.2 ∧ H p.1 = none ∧ p.1 ≠ X.env.locals ∧ p.1 ∉ X.fs ∧ ∀ v, p.2.data ≠ .cell v
  hok : HOk X.prog X.w H s.heap
  len : σ.length = X.N.length

section
variable {X : Cx} {pins : List (Addr × Obj)} {σ : List (Option V)} {H H' : Hp} {s : Shared} {h' : Heap}

theorem Cx.Ok.nofr (ok : X.Ok) {b : Addr} {o : Obj} (e : X.base.get? b = some o) : b ∉ X.fs := fun hb => by
  have := (ok.funs.mem hb).1
  rw [e] at this; cases this
theorem Inv.bs (I : Inv X pins σ H s) : ∀ b o, X.base.get? b = some o → s.heap.get? b = some o ∧ H b = none := fun b o e =>
  ⟨I.base.keep b o (I.ok.bs b o e).1 (I.ok.bs b o e).2 (I.ok.nofr e) (I.ok.noex b o e), I.base.free b o (I.ok.bs b o e).1 (I.ok.bs b o e).2 (I.ok.noex b o e)⟩
theorem Inv.bk (I : Inv X pins σ H s) : ∀ b o, X.base.get? b = some o → s.heap.get? b = some o := fun b o e => (I.bs b o e).1
theorem Inv.mod (I : Inv X pins σ H s) : Mod X.K X.mg X.base := I.ok.mod
theorem Inv.kIn (I : Inv X pins σ H s) : X.K.In s.heap := I.ok.mod.kin.keeps I.bk
theorem Inv.nolimit (I : Inv X pins σ H s) : s.heap.NoLimit := I.ok.mod.nolimit.keeps I.bk
/-- the frame over the base: for OpenK's rules (K.In X.base is I.mod.kin) -/
theorem Inv.fr (I : Inv X pins σ H s) : ∃ m, Fr X.base X.env.locals s.heap m :=
  let ⟨m, hn, _⟩ := I.loc
  ⟨m, hn, I.bk, Nat.le_trans I.ok.bsz I.ok.above⟩
theorem Inv.lt (I : Inv X pins σ H s) : X.env.locals < s.heap.objs.size := let ⟨_, hn, _⟩ := I.loc; hn.lt
theorem Inv.sz (I : Inv X pins σ H s) : X.s₀.heap.objs.size ≤ s.heap.objs.size := Nat.le_trans I.ok.above (Nat.le_of_lt I.lt)
theorem Inv.nofs (I : Inv X pins σ H s) {a : Addr} (h : s.heap.objs.size ≤ a) : a ∉ X.fs := fun hb => by
  obtain ⟨_, o, ho, _⟩ := I.ok.funs.mem hb
  exact absurd (Nat.lt_of_lt_of_le (Heap.lt_size ho) (Nat.le_trans I.sz h)) (Nat.lt_irrefl _)
theorem Inv.cne (I : Inv X pins σ H s) : ∀ x c, X.env.cells.lookup x = some c → c ≠ X.env.locals := fun x c e z => by
  obtain ⟨v, o, ho, hd⟩ := I.cell x c e
  obtain ⟨m, ⟨o', es, ep, ho', hd', _⟩, _⟩ := I.loc
  rw [z, ho'] at ho; cases ho; rw [hd'] at hd; cases hd
theorem Inv.funs (I : Inv X pins σ H s) : s.heap.FunFrames X.base X.outer := by
  have all : ∀ (l : List Env), (∀ b ∈ frs l, b ∈ X.fs) → X.s₀.heap.FunFrames X.base l → s.heap.FunFrames X.base l := by
    intro l
    induction l with
    | nil => intro _ _; trivial
    | cons env r ih =>
      intro hs hl
      obtain ⟨hk, ⟨L, o, hf, hn, ho, hd⟩, hr⟩ := hl
      have hL : L ∈ X.fs := hs L (by unfold frs; rw [List.filterMap_cons, hf]; exact List.mem_cons_self)
      obtain ⟨sl, e⟩ := I.base.slot L o ho (I.ok.frf L hL) hL fun z => I.ok.exfs L z hL
      exact ⟨hk, ⟨L, _, hf, hn, e, hd⟩, ih (fun b hb => hs b (by unfold frs; rw [List.filterMap_cons, hf]; exact List.mem_cons_of_mem _ hb)) hr⟩
  exact all X.outer (fun _ hb => hb) I.ok.funs

/-- the frames that run, for a call -/
theorem Inv.stack (I : Inv X pins σ H s) : s.heap.FunFrames X.base X.stack := by
  rcases I.ok.stk with e | ⟨e, hf⟩
  · rw [e]; exact I.funs
  · rw [e]
    obtain ⟨m, hn, _⟩ := I.loc
    refine .cons (by rw [I.ok.kind]; decide) hf hn ?_ I.funs
    exact Heap.get?_none_of_le (Nat.le_trans I.ok.bsz I.ok.above)
theorem Inv.stkSub (I : Inv X pins σ H s) : ∀ b ∈ frs X.stack, b ∈ X.env.locals :: X.fs := fun b hb => by
  rcases I.ok.stk with e | ⟨e, hf⟩
  · rw [e] at hb; exact List.mem_cons_of_mem _ hb
  · rw [e] at hb
    unfold frs at hb
    rw [List.filterMap_cons, hf] at hb
    exact hb
theorem Inv.stkFree (I : Inv X pins σ H s) : ∀ b ∈ frs X.stack, H b = none := fun b hb => by
  rcases List.mem_cons.mp (I.stkSub b hb) with e | hb
  · rw [e]; exact I.free
  · obtain ⟨_, o, ho, _⟩ := I.ok.funs.mem hb
    exact I.base.free b o ho (I.ok.frf b hb) fun z => I.ok.exfs b z hb

/-- THE STEP: the untracked objects but the frame and the records at ch are kept (the callers' frames up to slots), the frame's map is kept, the new abstract heap is held -/
theorem Inv.step {g' : Array GenState} {t' : Nat} {d' : Drawn} {ch : List Addr} (I : Inv X pins σ H s)
    (hch : ∀ b ∈ ch, (b ∈ X.ex ∨ X.s₀.heap.objs.size ≤ b) ∧ b ≠ X.env.locals ∧ (∀ x c, X.env.cells.lookup x = some c → c ≠ b) ∧ ∀ p ∈ X.pn ++ pins, p.1 ≠ b)
    (keep : ∀ b o, b ≠ X.env.locals → b ∉ X.fs → b ∉ ch → s.heap.get? b = some o → H b = none → h'.get? b = some o)
    (slot : ∀ b o, b ≠ X.env.locals → b ∈ X.fs → b ∉ ch → s.heap.get? b = some o → H b = none → ∃ sl, h'.get? b = some { o with slots := sl }) (free : ∀ b o, b ∉ ch → s.heap.get? b = some o → H b = none → H' b = none)
    (there : ∀ b o, b ∉ ch → s.heap.get? b = some o → ∃ o', h'.get? b = some o')
    (tups : ∀ b xs, H b = some (.tup xs) → H' b = some (.tup xs)) (frzs : ∀ b o u, H b = some (.frz o u) → H' b = some (.frz o u)) (tbls : ∀ b ps, H b = some (.tbl ps) → ∃ more, H' b = some (.tbl (ps ++ more)))
    (ns : ∀ m, s.heap.Ns X.env.locals m → h'.Ns X.env.locals m) (hok : HOk X.prog X.w H' h') (hg : AllBare g') :
    Inv X pins σ H' { s with heap := h', gens := g', drawn := d', toks := t' } := by
  have neL : ∀ b o, X.s₀.heap.get? b = some o → b ≠ X.env.locals := fun b o e => Nat.ne_of_lt (Nat.lt_of_lt_of_le (Heap.lt_size e) I.ok.above)
  have neC : ∀ b o, X.s₀.heap.get? b = some o → b ∉ X.ex → b ∉ ch := fun b o e hx hb => by
    rcases (hch b hb).1 with z | z
    · exact hx z
    · exact absurd (Nat.lt_of_lt_of_le (Heap.lt_size e) z) (Nat.lt_irrefl _)
  have cellK : ∀ x c, X.env.cells.lookup x = some c → ∀ v, s.heap.IsCell c v → h'.IsCell c v := fun x c e v ⟨o, ho, hd⟩ => by
    have nch : c ∉ ch := fun z => (hch c z).2.2.1 x c e rfl
    by_cases hc : c ∈ X.fs
    · obtain ⟨sl, q⟩ := slot c o (I.cne x c e) hc nch ho (I.freeC x c e)
      exact ⟨_, q, hd⟩
    · exact ⟨o, keep c o (I.cne x c e) hc nch ho (I.freeC x c e), hd⟩
  refine ⟨I.ok, I.os, hg, ⟨fun b o e n hb hx => ?_, fun b o e n hb hx => ?_, fun b o e n hx => ?_, fun b o e hx => ?_, fun b xs e => tups b xs (I.base.tups b xs e), fun b o xs e => frzs b o xs (I.base.frzs b o xs e), fun b ps e => ?_⟩, ?_, fun x c e => ?_, ?_, fun x c e => ?_, fun p hp => ?_, hok, I.len⟩
  · exact keep b o (neL b o e) hb (neC b o e hx) (I.base.keep b o e n hb hx) (I.base.free b o e n hx)
  · obtain ⟨sl, e1⟩ := I.base.slot b o e n hb hx
    obtain ⟨sl', e2⟩ := slot b _ (neL b o e) hb (neC b o e hx) e1 (I.base.free b o e n hx)
    exact ⟨sl', e2⟩
  · obtain ⟨o', e1⟩ := I.base.there b o e hx
    exact free b o' (neC b o e hx) e1 (I.base.free b o e n hx)
  · obtain ⟨o', e1⟩ := I.base.there b o e hx
    exact there b o' (neC b o e hx) e1
  · obtain ⟨m1, e1⟩ := I.base.tbls b ps e
    obtain ⟨m2, e2⟩ := tbls b _ e1
    exact ⟨m1 ++ m2, by rw [e2, Array.append_assoc]⟩
  · obtain ⟨m, hn, hl⟩ := I.loc
    refine ⟨m, ns m hn, fun i x v e1 e2 e3 => ?_⟩
    obtain ⟨u, r, l⟩ := hl i x v e1 e2 e3
    refine ⟨u, r, ?_⟩
    rcases l with l | ⟨k, c, e, z⟩
    · exact .inl l
    · exact .inr ⟨k, c, e, cellK x c e _ z⟩
  · obtain ⟨v, z⟩ := I.cell x c e
    exact ⟨v, cellK x c e v z⟩
  · obtain ⟨m, ⟨o, _, _, ho, _⟩, _⟩ := I.loc
    exact free _ o (fun z => (hch _ z).2.1 rfl) ho I.free
  · obtain ⟨v, o, ho, hd⟩ := I.cell x c e
    exact free c o (fun z => (hch c z).2.2.1 x c e rfl) ho (I.freeC x c e)
  · obtain ⟨e, n, ne, nf, d⟩ := I.pin p hp
    have nch : p.1 ∉ ch := fun z => (hch p.1 z).2.2.2 p hp rfl
    exact ⟨keep p.1 p.2 ne nf nch e n, free p.1 p.2 nch e n, ne, nf, d⟩
/-- .. where the frame's own object is kept too -/
theorem Inv.un {t' : Nat} (I : Inv X pins σ H s) (u : Un X.fs [] H H' s.heap h') (hok : HOk X.prog X.w H' h') : Inv X pins σ H' { s with heap := h', toks := t' } := by
  obtain ⟨m, ⟨o, es, ep, ho, r⟩, _⟩ := id I.loc
  obtain ⟨sl, hL⟩ := u.any ho I.free (by simp)
  exact I.step (g' := s.gens) (d' := s.drawn) (ch := []) (fun _ z => nomatch z) (fun b o _ hb _ e n => u.keep b o e n hb (by simp)) (fun b o _ hb _ e n => u.slot b o e n hb (by simp)) (fun b o _ e n => u.free b o e n (by simp)) (fun b o _ e => u.there b o e (by simp)) u.tups u.frzs u.tbls (fun m' hm => by
    obtain ⟨o', es', ep', ho', r'⟩ := hm
    rw [ho] at ho'; cases ho'
    exact ⟨_, es', ep', hL, r'⟩) hok I.bare
/-- behind a call (or a comprehension's block): the slots of this frame may have changed too, the records at ch may have turned -/
theorem Inv.call {g' : Array GenState} {t' : Nat} {d' : Drawn} {ch : List Addr} (I : Inv X pins σ H s) (u : Un (frs X.stack) ch H H' s.heap h') (hok : HOk X.prog X.w H' h') (hg : AllBare g')
    (hch : ∀ b ∈ ch, (b ∈ X.ex ∨ X.s₀.heap.objs.size ≤ b) ∧ b ≠ X.env.locals ∧ (∀ x c, X.env.cells.lookup x = some c → c ≠ b) ∧ ∀ p ∈ X.pn ++ pins, p.1 ≠ b) :
    Inv X pins σ H' { s with heap := h', gens := g', drawn := d', toks := t' } := by
  obtain ⟨m, ⟨o, es, ep, ho, r⟩, _⟩ := id I.loc
  obtain ⟨sl, hL⟩ := u.any ho I.free fun z => (hch _ z).2.1 rfl
  exact I.step (ch := ch) hch (fun b o hL hb hc e n => u.keep b o e n (fun z => (List.mem_cons.mp (I.stkSub b z)).elim hL hb) hc) (fun b o _ _ hc e n => u.any e n hc) (fun b o hc e n => u.free b o e n hc) (fun b o hc e => u.there b o e hc) u.tups u.frzs u.tbls (fun m' hm => by
    obtain ⟨o', es', ep', ho', r'⟩ := hm
    rw [ho] at ho'; cases ho'
    exact ⟨_, es', ep', hL, r'⟩) hok hg
/-- an untracked record of ours (an iterator) has turned -/
theorem Inv.turned {t' : Nat} {it : Addr} (I : Inv X pins σ H s) (k : ∀ b o, b ≠ it → s.heap.get? b = some o → h'.get? b = some o) (hn : H it = none) (hL : it ≠ X.env.locals)
    (h1 : it ∈ X.ex ∨ X.s₀.heap.objs.size ≤ it) (h2 : ∀ x c, X.env.cells.lookup x = some c → c ≠ it) (h3 : ∀ p ∈ X.pn ++ pins, p.1 ≠ it) : Inv X pins σ H { s with heap := h', toks := t' } := by
  have nit : ∀ b u, H b = some u → b ≠ it := fun b u e z => by rw [z, hn] at e; cases e
  refine I.step (g' := s.gens) (d' := s.drawn) (ch := [it]) (fun b hb => ?_) (fun b o _ _ hc e _ => k b o (fun z => hc (by simp [z])) e) (fun b o _ _ hc e _ => ⟨o.slots, k b o (fun z => hc (by simp [z])) e⟩) (fun _ _ _ _ n => n)
    (fun b o hc e => ⟨o, k b o (fun z => hc (by simp [z])) e⟩) (fun _ _ e => e) (fun _ _ _ e => e) (fun b ps e => ⟨#[], by rw [e]; simp⟩) (fun m hm => ?_) (fun b u e => ?_) I.bare
  · have e : b = it := by simpa using hb
    subst e
    exact ⟨h1, hL, h2, h3⟩
  · obtain ⟨o, es, ep, ho, r⟩ := hm
    exact ⟨o, es, ep, k _ o (Ne.symm hL) ho, r⟩
  · refine (I.hok b u e).stay (fun c v hc q => k c v ?_ q) (fun _ q => q) fun _ _ q => q
    rcases hc with z | z
    · rw [z]; exact nit b u e
    · exact nit c _ z
theorem Inv.tok (I : Inv X pins σ H s) (t : Nat) : Inv X pins σ H { s with toks := t } := I.un (h' := s.heap) (t' := t) Un.refl I.hok
/-- all objects kept -/
theorem Inv.kept {t' : Nat} (I : Inv X pins σ H s) (k : ∀ b u, s.heap.get? b = some u → h'.get? b = some u) : Inv X pins σ H { s with heap := h', toks := t' } := I.un (Un.kept k) (I.hok.kept k)
/-- a new object laid and tracked -/
theorem Inv.laid {a : Addr} {o : HO} {t' : Nat} (I : Inv X pins σ H s) (k : ∀ b u, s.heap.get? b = some u → h'.get? b = some u) (hp : s.heap.objs.size ≤ a) (new : ObjOk X.prog X.w (upd H a o) h' a o) :
    Inv X pins σ (upd H a o) { s with heap := h', toks := t' } := I.un (Un.laid k hp (I.hok.fresh hp)) (I.hok.laid k hp new)
/-- an object written -/
theorem Inv.write {x e : Addr} {o : HO} {t' : Nat} (I : Inv X pins σ H s) (mu : Mut (H x)) (he : e = x ∨ H e = some (.own x)) (k : ∀ b u, b ≠ e → s.heap.get? b = some u → h'.get? b = some u) (heo : ∃ u, h'.get? e = some u)
    (new : ObjOk X.prog X.w (upd H x o) h' x o) : Inv X pins σ (upd H x o) { s with heap := h', toks := t' } := I.un (Un.write mu he k heo) (I.hok.write mu he k heo new)
/-- forgetting slots, pins -/
theorem Inv.weak {σ' : List (Option V)} (I : Inv X pins σ H s) (hl : σ'.length = σ.length) (w : ∀ (i : Nat) v, σ'[i]? = some (some v) → σ[i]? = some (some v)) : Inv X pins σ' H s :=
  ⟨I.ok, I.os, I.bare, I.base, let ⟨m, hn, hl'⟩ := I.loc; ⟨m, hn, fun i x v e1 e2 e3 => hl' i x v e1 (w i v e2) e3⟩, I.cell, I.free, I.freeC, I.pin, I.hok, hl.trans I.len⟩
theorem Inv.pins_of {pins' : List (Addr × Obj)} (I : Inv X pins σ H s) (h : ∀ p ∈ pins', s.heap.get? p.1 = some p.2 ∧ H p.1 = none ∧ p.1 ≠ X.env.locals ∧ p.1 ∉ X.fs ∧ ∀ v, p.2.data ≠ .cell v) : Inv X pins' σ H s :=
  ⟨I.ok, I.os, I.bare, I.base, I.loc, I.cell, I.free, I.freeC, fun p hp => (List.mem_append.mp hp).elim (fun z => I.pin p (List.mem_append_left _ z)) (h p), I.hok, I.len⟩

theorem nodup_ix {N : List Str} (hN : N.Nodup) {i j : Nat} {x : Str} (a : N[i]? = some x) (b : N[j]? = some x) : i = j := by
  obtain ⟨h1, e1⟩ := List.getElem?_eq_some_iff.mp a
  obtain ⟨h2, e2⟩ := List.getElem?_eq_some_iff.mp b
  exact (List.getElem_inj hN).mp (e1.trans e2.symm)

/-- a name is stored; what changed -/
theorem store_ok2 {M : Model} {A : Around} {E : Value → Shared → Prop} {i : Nat} {x : Str} {v : V} {u : Value} {Q : Unit → Shared → Prop} (I : Inv X pins σ H s) (hN : X.N.Nodup) (hi : X.N[i]? = some x) (hx : Loc X.env.scope x) (r : RelV v u)
    (h : ∀ s', Inv X pins (σ.set i (some v)) H s' → (∃ a, Heap.SameBut a s.heap s'.heap ∧ (a = X.env.locals ∨ X.env.cells.lookup x = some a)) → Q () s') (hf : X.fn x = true ∨ X.env.scope.names.lookup x = some .local := by first | exact .inl rfl | exact .inr rfl | assumption) : wpAny M A (storeName X.env x u) Q E s := by
  obtain ⟨m, hn, hl⟩ := id I.loc
  have hcls : (X.env.scope.kind == .class || (X.env.scope.kind == .module && X.env.locals != X.env.globals)) = false := by rw [I.ok.kind]; rfl
  have hiσ : i < σ.length := by rw [I.len]; exact (List.getElem?_eq_some_iff.mp hi).1
  have cne := I.cne
  have tracked : ∀ {a : Addr} {h' : Heap}, (∃ o, s.heap.get? a = some o ∧ H a = none) → Heap.SameBut a s.heap h' → HOk X.prog X.w H h' := fun {a h'} ha hs b ob e => by
    obtain ⟨_, _, hfree⟩ := ha
    refine (I.hok b ob e).stay (fun c w' hc q => (hs.2 c ?_).trans q) (fun _ q => q) fun _ _ q => q
    rintro rfl
    rcases hc with rfl | hc
    · rw [hfree] at e; cases e
    · rw [hfree] at hc; cases hc
  rcases hx with hk | hk
  · refine wpAny_storeName_local hk hn (fun h' hn' hs => ?_) hcls
    obtain ⟨oL, _, _, hoL, _⟩ := id hn
    refine h _ ⟨I.ok, I.os, I.bare, ⟨fun b o e n hb hx => ?_, fun b o e n hb hx => ?_, I.base.free, fun b o e hx => ?_, I.base.tups, I.base.frzs, I.base.tbls⟩, ⟨_, hn', fun j y v' e1 e2 e3 => ?_⟩, fun y c e => ?_, I.free, I.freeC, fun p hp => ?_, tracked ⟨oL, hoL, I.free⟩ hs, by simpa using I.len⟩ ⟨_, hs, .inl rfl⟩
    · exact (hs.2 b (Nat.ne_of_lt (Nat.lt_of_lt_of_le (Heap.lt_size e) I.ok.above))).trans (I.base.keep b o e n hb hx)
    · obtain ⟨sl, e1⟩ := I.base.slot b o e n hb hx
      exact ⟨sl, (hs.2 b (Nat.ne_of_lt (Nat.lt_of_lt_of_le (Heap.lt_size e) I.ok.above))).trans e1⟩
    · obtain ⟨o', e1⟩ := I.base.there b o e hx
      exact ⟨o', (hs.2 b (Nat.ne_of_lt (Nat.lt_of_lt_of_le (Heap.lt_size e) I.ok.above))).trans e1⟩
    · by_cases hj : j = i
      · subst hj
        rw [hi] at e1; cases e1
        rw [List.getElem?_set_self hiσ] at e2
        cases e2
        exact ⟨u, r, .inl ⟨hk, by simp⟩⟩
      · rw [List.getElem?_set_ne (Ne.symm hj)] at e2
        obtain ⟨u', r', q⟩ := hl j y v' e1 e2 e3
        refine ⟨u', r', ?_⟩
        rcases q with ⟨k, e⟩ | ⟨k, c, e, z⟩
        · refine .inl ⟨k, ?_⟩
          have : y ≠ x := fun e => hj (nodup_ix hN e1 (e ▸ hi))
          simp [this, e]
        · exact .inr ⟨k, c, e, z.sameBut hs (cne y c e)⟩
    · obtain ⟨w', z⟩ := I.cell y c e
      exact ⟨w', z.sameBut hs (cne y c e)⟩
    · obtain ⟨e, n, ne, nf, d⟩ := I.pin p hp
      exact ⟨(hs.2 p.1 ne).trans e, n, ne, nf, d⟩
  · have hfn : X.fn x = true := by
      rcases hf with z | z
      · exact z
      · rw [z] at hk; cases hk
    obtain ⟨c, hc⟩ := I.ok.has x (.inl hk)
    obtain ⟨w', z⟩ := I.cell x c hc
    refine wpAny_storeName_cell I.ok.kind hk hc z (fun h' hc' hs => ?_)
    obtain ⟨oc, hoc, hocd⟩ := id z
    refine h { s with heap := h' } ⟨I.ok, I.os, I.bare, ⟨fun b o e n hb hx => ?_, fun b o e n hb hx => ?_, I.base.free, fun b o e hx => ?_, I.base.tups, I.base.frzs, I.base.tbls⟩, ⟨m, hn.sameBut hs (Ne.symm (cne x c hc)), fun j y v' e1 e2 e3 => ?_⟩, fun y c' e => ?_, I.free, I.freeC, fun p hp => ?_, tracked ⟨oc, hoc, I.freeC x c hc⟩ hs, by simpa using I.len⟩ ⟨c, hs, .inr hc⟩
    · exact (hs.2 b (Nat.ne_of_lt (Nat.lt_of_lt_of_le (Heap.lt_size e) (I.ok.cab x c hfn hc)))).trans (I.base.keep b o e n hb hx)
    · obtain ⟨sl, e1⟩ := I.base.slot b o e n hb hx
      exact ⟨sl, (hs.2 b (Nat.ne_of_lt (Nat.lt_of_lt_of_le (Heap.lt_size e) (I.ok.cab x c hfn hc)))).trans e1⟩
    · obtain ⟨o', e1⟩ := I.base.there b o e hx
      exact ⟨o', (hs.2 b (Nat.ne_of_lt (Nat.lt_of_lt_of_le (Heap.lt_size e) (I.ok.cab x c hfn hc)))).trans e1⟩
    · by_cases hj : j = i
      · subst hj
        rw [hi] at e1; cases e1
        rw [List.getElem?_set_self hiσ] at e2
        cases e2
        exact ⟨u, r, .inr ⟨.inl hk, c, hc, hc'⟩⟩
      · rw [List.getElem?_set_ne (Ne.symm hj)] at e2
        obtain ⟨u', r', q⟩ := hl j y v' e1 e2 e3
        refine ⟨u', r', ?_⟩
        rcases q with q | ⟨k, c', e, z'⟩
        · exact .inl q
        · refine .inr ⟨k, c', e, z'.sameBut hs ?_⟩
          rintro rfl
          exact hj (nodup_ix hN e1 (I.ok.inj _ _ _ e hc ▸ hi))
    · by_cases hcc : c' = c
      · subst hcc; exact ⟨_, hc'⟩
      · obtain ⟨w2, z2⟩ := I.cell y c' e
        exact ⟨w2, z2.sameBut hs hcc⟩
    · obtain ⟨e, n, ne, nf, d⟩ := I.pin p hp
      refine ⟨(hs.2 p.1 ?_).trans e, n, ne, nf, d⟩
      intro q
      rw [q, hoc] at e
      have q' : oc = p.2 := Option.some.inj e
      exact d w' (by rw [← q']; exact hocd)
theorem store_ok {M : Model} {A : Around} {E : Value → Shared → Prop} {i : Nat} {x : Str} {v : V} {u : Value} {Q : Unit → Shared → Prop} (I : Inv X pins σ H s) (hN : X.N.Nodup) (hi : X.N[i]? = some x) (hx : Loc X.env.scope x) (r : RelV v u)
    (h : ∀ s', Inv X pins (σ.set i (some v)) H s' → Q () s') (hf : X.fn x = true ∨ X.env.scope.names.lookup x = some .local := by first | exact .inl rfl | exact .inr rfl | assumption) : wpAny M A (storeName X.env x u) Q E s :=
  store_ok2 I hN hi hx r (fun s' I' _ => h s' I') hf
/-- behind a call or a block, the state as it is -/
theorem Inv.call' {s' : Shared} {ch : List Addr} (I : Inv X pins σ H s) (ho : s'.os = s.os) (u : Un (frs X.stack) ch H H' s.heap s'.heap) (hok : HOk X.prog X.w H' s'.heap) (hg : AllBare s'.gens)
    (hch : ∀ b ∈ ch, (b ∈ X.ex ∨ X.s₀.heap.objs.size ≤ b) ∧ b ≠ X.env.locals ∧ (∀ x c, X.env.cells.lookup x = some c → c ≠ b) ∧ ∀ p ∈ X.pn ++ pins, p.1 ≠ b) : Inv X pins σ H' s' := by
  obtain ⟨h', g', d', t', o'⟩ := s'
  have e : o' = s.os := ho
  subst e
  exact I.call (g' := g') (t' := t') (d' := d') u hok hg hch
end

/-! ### the judgements -/
/-- an exception: its class, its own dict's address (where it has one), the abstract heap behind it -/
abbrev XK := Value → Option Addr → Hp → Prop
abbrev St := List (Option V)
abbrev VK := V → Hp → Prop
/-- an expression's reading; a test's; an argument list's -/
abbrev TE := St → Hp → VK → Prop
abbrev TT := St → Hp → (Bool → Hp → Prop) → Prop
abbrev TA := St → Hp → (List V → Hp → Prop) → Prop
/-- what is wanted behind a statement -/
structure Ends where
  nx : St → Hp → Prop
  rt : VK
  bk : St → Hp → Prop := fun _ _ => False
  ct : St → Hp → Prop := fun _ _ => False
abbrev TS := Ends → St → Hp → Prop

def EP (X : Cx) (pins : List (Addr × Obj)) (σ : St) (Q : VK) (u : Value) (s' : Shared) : Prop := ∃ v H', Inv X pins σ H' s' ∧ RelV v u ∧ Q v H'
def TP (X : Cx) (pins : List (Addr × Obj)) (σ : St) (Q : Bool → Hp → Prop) (b : Bool) (s' : Shared) : Prop := ∃ H', Inv X pins σ H' s' ∧ Q b H'
def AP (X : Cx) (pins : List (Addr × Obj)) (σ : St) (Q : List V → Hp → Prop) (us : List Value) (s' : Shared) : Prop := ∃ vs H', Inv X pins σ H' s' ∧ Vals vs us ∧ Q vs H'
def SP (X : Cx) (pins : List (Addr × Obj)) (D : Ends) (f : Flow) (s' : Shared) : Prop :=
  match f with
  | .next => ∃ σ' H', Inv X pins σ' H' s' ∧ D.nx σ' H'
  | .brk => ∃ σ' H', Inv X pins σ' H' s' ∧ D.bk σ' H'
  | .cont => ∃ σ' H', Inv X pins σ' H' s' ∧ D.ct σ' H'
  | .ret u => ∃ v σ' H', Inv X pins σ' H' s' ∧ RelV v u ∧ D.rt v H'

def PE (X : Cx) (e : Expr) (t : TE) : Prop :=
  ∀ (pins : List (Addr × Obj)) (s : Shared) (σ : St) (H : Hp) (Q : VK), Inv X pins σ H s → t σ H Q → wpAny (model X.prog X.w) X.A (eval e X.env) (EP X pins σ Q) X.xe s
def PT (X : Cx) (e : Expr) (t : TT) : Prop :=
  ∀ (pins : List (Addr × Obj)) (s : Shared) (σ : St) (H : Hp) (Q : Bool → Hp → Prop), Inv X pins σ H s → t σ H Q → wpAny (model X.prog X.w) X.A (isTrue e X.env (eval e X.env)) (TP X pins σ Q) X.xe s
/-- a test whatever its 'whole' is (and, or) -/
def PW (X : Cx) (e : Expr) (t : TT) : Prop :=
  ∀ (whole : Sem Value) (pins : List (Addr × Obj)) (s : Shared) (σ : St) (H : Hp) (Q : Bool → Hp → Prop), Inv X pins σ H s → t σ H Q → wpAny (model X.prog X.w) X.A (isTrue e X.env whole) (TP X pins σ Q) X.xe s
theorem PW.pt {X : Cx} {e : Expr} {t : TT} (h : PW X e t) : PT X e t := h _
/-- an argument list (no star), from the left -/
def PA (X : Cx) (es : List Expr) (t : TA) : Prop :=
  ∀ (pos : Pos) (pins : List (Addr × Obj)) (s : Shared) (σ : St) (H : Hp) (Q : List V → Hp → Prop), Inv X pins σ H s → t σ H Q → wpAny (model X.prog X.w) X.A (spliced (backTo pos (starEach es X.env))) (AP X pins σ Q) X.xe s
def PS (X : Cx) (st : Stmt) (t : TS) : Prop :=
  ∀ (pins : List (Addr × Obj)) (s : Shared) (σ : St) (H : Hp) (D : Ends), Inv X pins σ H s → t D σ H → wpAny (model X.prog X.w) X.A (exec st X.env) (SP X pins D) X.xe s
def PSs (X : Cx) (st : List Stmt) (t : TS) : Prop :=
  ∀ (pins : List (Addr × Obj)) (s : Shared) (σ : St) (H : Hp) (D : Ends), Inv X pins σ H s → t D σ H → wpAny (model X.prog X.w) X.A (execs st X.env) (SP X pins D) X.xe s
/-- weaken the end -/
theorem thn {α : Type} {t : Sem α} {Q Q' : α → Shared → Prop} {M : Model} {A : Around} {E : Value → Shared → Prop} {s : Shared} (h : wpAny M A t Q E s) (hQ : ∀ a s, Q a s → Q' a s) : wpAny M A t Q' E s := wpAny_mono h hQ fun _ _ x => x
end L2

namespace L2
open PySem PySem.Spec PyProof.Rows
section
variable {X : Cx}

/-- two expressions in a row -/
theorem bin {a b : Expr} {ta tb : TE} (ha : PE X a ta) (hb : PE X b tb) {pins : List (Addr × Obj)} {s : Shared} {σ : St} {H : Hp} {R : V → V → Hp → Prop} (I : Inv X pins σ H s) (h : ta σ H fun x H1 => tb σ H1 fun y H2 => R x y H2)
    {α : Type} {Q : α → Shared → Prop} {f : Value → Value → Sem α}
    (hf : ∀ v u s2 x y H2, Inv X pins σ H2 s2 → RelV x v → RelV y u → R x y H2 → wpAny (model X.prog X.w) X.A (f v u) Q X.xe s2) :
    wpAny (model X.prog X.w) X.A (eval a X.env) (fun v s₁ => wpAny (model X.prog X.w) X.A (eval b X.env) (fun u s₂ => wpAny (model X.prog X.w) X.A (f v u) Q X.xe s₂) X.xe s₁) X.xe s := by
  refine thn (ha pins s σ H _ I h) fun v s1 ⟨x, H1, I1, r1, q1⟩ => ?_
  refine thn (hb pins s1 σ H1 _ I1 q1) fun u s2 ⟨y, H2, I2, r2, q2⟩ => ?_
  exact hf v u s2 x y H2 I2 r1 r2 q2

/-! ### names and constants -/
def tVar (i : Nat) : TE := fun σ H Q => ∃ v, σ[i]? = some (some v) ∧ Q v H
def tC (v : V) : TE := fun _ H Q => Q v H
theorem pe_var {i : Nat} {x : Str} {pos : Pos} (hN : X.N[i]? = some x) (hv : Vis X.env.scope x) (hd : (x == ("__debug__" : Str)) = false := by decide) (hcd : (x == ("__classdict__" : Str)) = false := by decide) : PE X (.Name x pos) (tVar i) := by
  intro pins s σ H Q I h
  obtain ⟨v, e, h⟩ := h
  obtain ⟨m, hn, hl⟩ := I.loc
  obtain ⟨u, r, l⟩ := hl i x v hN e hv
  have fin : EP X pins σ Q u s := ⟨v, H, I, r, h⟩
  rcases l with ⟨hk, hm⟩ | ⟨hk, c, hc, hcell⟩
  · exact wpAny_Name (wpAny_loadName_local I.ok.kind hk hn hm fin) hd
  · rcases hk with hk | hk
    · exact wpAny_Name (wpAny_loadName_cell I.ok.kind hk hc hcell fin) hd
    · exact wpAny_Name (wpAny_loadName_free I.ok.kind hk hc hcell fin hcd) hd
theorem pe_int {i j pos} : PE X (.Constant (.int i) j pos) (tC (.int i)) := fun _ _ _ H _ I h => wpAny_Constant_int ⟨.int i, H, I.tok _, ⟨_, rfl⟩, h⟩
theorem pe_bl {b j pos} : PE X (.Constant (.bool b) j pos) (tC (.bl b)) := fun _ _ _ H _ I h => Constant_bool ⟨.bl b, H, I, rfl, h⟩
theorem pe_non {j pos} : PE X (.Constant .none j pos) (tC .non) := fun _ _ _ H _ I h => Constant_none ⟨.non, H, I, rfl, h⟩
theorem pe_str {x j pos} : PE X (.Constant (.str x) j pos) (tC (.str x)) := fun _ _ _ H _ I h => Calls.Constant_str ⟨.str x, H, I.tok _, ⟨_, rfl⟩, h⟩

/-- a global name of the def -/
def Gl (X : Cx) (x : Str) : Prop := X.env.kindOf x = some .globalImplicit
theorem ld_glob {E : Value → Shared → Prop} {pins : List (Addr × Obj)} {s : Shared} {σ : St} {H : Hp} {x : Str} {u : Value} {pos : Pos} {Q : Value → Shared → Prop} (I : Inv X pins σ H s) (hg : Gl X x) (hm : X.mg x = some u) (h : Q u s)
    (hd : (x == ("__debug__" : Str)) = false := by decide) : wpAny (model X.prog X.w) X.A (eval (.Name x pos) X.env) Q E s :=
  Calls.Name_function_global I.ok.kind hg (Calls.loadGlobal_global (by rw [I.ok.glob]; exact I.mod.glob.keeps I.bk) hm h) hd
theorem ld_blt {E : Value → Shared → Prop} {pins : List (Addr × Obj)} {s : Shared} {σ : St} {H : Hp} {x : Str} {u : Value} {pos : Pos} {Q : Value → Shared → Prop} (I : Inv X pins σ H s) (hg : Gl X x) (hm : X.mg x = none) (hv : bootBuiltins x = some u) (h : Q u s)
    (hn : x ≠ "__name__" := by decide) (hd : (x == ("__debug__" : Str)) = false := by decide) : wpAny (model X.prog X.w) X.A (eval (.Name x pos) X.env) Q E s := by
  obtain ⟨mb, h1, h2⟩ := I.mod.blt
  exact Calls.Name_function_global I.ok.kind hg (Calls.loadGlobal_builtin (by rw [I.ok.glob]; exact I.mod.glob.keeps I.bk) hm (by rw [I.ok.blt]; exact h1.keeps I.bk) ((h2 x hn).trans hv) h) hd
/-- a module's constant, a class, a function, as a value -/
theorem pe_glob {x : Str} {v : V} {u : Value} {pos : Pos} (hg : Gl X x) (hm : X.mg x = some u) (r : RelV v u) (hd : (x == ("__debug__" : Str)) = false := by decide) : PE X (.Name x pos) (tC v) :=
  fun _ _ _ H _ I h => ld_glob I hg hm ⟨v, H, I, r, h⟩ hd
theorem pe_bltn {x : Str} {v : V} {u : Value} {pos : Pos} (hg : Gl X x) (hm : X.mg x = none) (hv : bootBuiltins x = some u) (r : RelV v u) (hn : x ≠ "__name__" := by decide) (hd : (x == ("__debug__" : Str)) = false := by decide) : PE X (.Name x pos) (tC v) :=
  fun _ _ _ H _ I h => ld_blt I hg hm hv ⟨v, H, I, r, h⟩ hn hd

/-! ### arithmetic -/
/-- two ints -/
def t2I (ta tb : TE) (k : Int → Int → Hp → Prop) : St → Hp → Prop := fun σ H => ta σ H fun x H1 => tb σ H1 fun y H2 => ∃ i j, x = .int i ∧ y = .int j ∧ k i j H2
def tAdd (ta tb : TE) : TE := fun σ H Q => t2I ta tb (fun i j H2 => Q (.int (i + j)) H2) σ H
def tSub (ta tb : TE) : TE := fun σ H Q => t2I ta tb (fun i j H2 => Q (.int (i - j)) H2) σ H
/-- the left factor below 2^64 -/
def tMul (ta tb : TE) : TE := fun σ H Q => t2I ta tb (fun i j H2 => (-(2 ^ 64) < i ∧ i < 2 ^ 64) ∧ Q (.int (i * j)) H2) σ H
variable {a b : Expr} {ta tb : TE} {pos : Pos}
theorem pe_add (ha : PE X a ta) (hb : PE X b tb) : PE X (.BinOp a .Add b pos) (tAdd ta tb) := by
  intro pins s σ H Q I h
  refine wpAny_BinOp (bin ha hb I h fun v u s2 x y H2 I2 rx ry q => ?_)
  obtain ⟨i, j, rfl, rfl, q⟩ := q
  obtain ⟨t, rfl⟩ := rx
  obtain ⟨t', rfl⟩ := ry
  exact add_int ⟨.int _, H2, I2.tok _, ⟨_, rfl⟩, q⟩
theorem pe_sub (ha : PE X a ta) (hb : PE X b tb) : PE X (.BinOp a .Sub b pos) (tSub ta tb) := by
  intro pins s σ H Q I h
  refine wpAny_BinOp (bin ha hb I h fun v u s2 x y H2 I2 rx ry q => ?_)
  obtain ⟨i, j, rfl, rfl, q⟩ := q
  obtain ⟨t, rfl⟩ := rx
  obtain ⟨t', rfl⟩ := ry
  exact sub_int ⟨.int _, H2, I2.tok _, ⟨_, rfl⟩, q⟩
theorem pe_mul (ha : PE X a ta) (hb : PE X b tb) : PE X (.BinOp a .Mult b pos) (tMul ta tb) := by
  intro pins s σ H Q I h
  refine wpAny_BinOp (bin ha hb I h fun v u s2 x y H2 I2 rx ry q => ?_)
  obtain ⟨i, j, rfl, rfl, ⟨q1, q2⟩, q⟩ := q
  obtain ⟨t, rfl⟩ := rx
  obtain ⟨t', rfl⟩ := ry
  exact mul_int ⟨.int _, H2, I2.tok _, ⟨_, rfl⟩, q⟩ (.of_left (intBits_le_64 q1 q2))

/-! ### comparisons -/
def PC (X : Cx) (op : CmpOp) (a b : Expr) (t : TE) : Prop :=
  ∀ (pins : List (Addr × Obj)) (s : Shared) (σ : St) (H : Hp) (Q : VK), Inv X pins σ H s → t σ H Q →
    wpAny (model X.prog X.w) X.A (eval a X.env) (fun v s₁ => wpAny (model X.prog X.w) X.A (eval b X.env) (fun u s₂ => wpAny (model X.prog X.w) X.A (compareOp op v u) (EP X pins σ Q) X.xe s₂) X.xe s₁) X.xe s
theorem nobehind (b : Expr) {op : CmpOp} (h : op ≠ .In) (h2 : op ≠ .NotIn) : behindInMarks op b = false := by
  have e1 : (op == CmpOp.In) = false := by cases op <;> first | rfl | exact absurd rfl h
  have e2 : (op == CmpOp.NotIn) = false := by cases op <;> first | rfl | exact absurd rfl h2
  cases b <;> simp [behindInMarks, e1, e2]
def tCmp (p : Int → Int → Bool) (ta tb : TE) : TE := fun σ H Q => t2I ta tb (fun i j H2 => Q (.bl (p i j)) H2) σ H
abbrev tLt : TE → TE → TE := tCmp fun i j => decide (i < j)
abbrev tLe : TE → TE → TE := tCmp fun i j => decide (i ≤ j)
abbrev tGt : TE → TE → TE := tCmp fun i j => decide (j < i)
abbrev tGe : TE → TE → TE := tCmp fun i j => decide (j ≤ i)
abbrev tEqI : TE → TE → TE := tCmp fun i j => decide (i = j)
abbrev tNeI : TE → TE → TE := tCmp fun i j => !decide (i = j)
/-- a comparison of two ints, by its rule -/
theorem pc_int {op : CmpOp} {p : Int → Int → Bool} (ha : PE X a ta) (hb : PE X b tb)
    (rule : ∀ (i j : Int) (t u : Tok) (Q : Value → Shared → Prop) (s : Shared), Q (.bool (p i j)) s → wpAny (model X.prog X.w) X.A (compareOp op (.int i t) (.int j u)) Q X.xe s) : PC X op a b (tCmp p ta tb) := by
  intro pins s σ H Q I h
  refine bin ha hb I h fun v u s2 x y H2 I2 rx ry q => ?_
  obtain ⟨i, j, rfl, rfl, q⟩ := q
  obtain ⟨t, rfl⟩ := rx
  obtain ⟨t', rfl⟩ := ry
  exact rule i j t t' _ s2 ⟨.bl _, H2, I2, rfl, q⟩
theorem pc_lt (ha : PE X a ta) (hb : PE X b tb) : PC X .Lt a b (tLt ta tb) := pc_int ha hb fun _ _ _ _ _ _ h => lt_int h
theorem pc_le (ha : PE X a ta) (hb : PE X b tb) : PC X .LtE a b (tLe ta tb) := pc_int ha hb fun _ _ _ _ _ _ h => le_int h
theorem pc_gt (ha : PE X a ta) (hb : PE X b tb) : PC X .Gt a b (tGt ta tb) := pc_int ha hb fun _ _ _ _ _ _ h => gt_int h
theorem pc_ge (ha : PE X a ta) (hb : PE X b tb) : PC X .GtE a b (tGe ta tb) := pc_int ha hb fun _ _ _ _ _ _ h => ge_int h
theorem pc_eqI (ha : PE X a ta) (hb : PE X b tb) : PC X .Eq a b (tEqI ta tb) := pc_int ha hb fun _ _ _ _ _ _ h => eq_int (by rw [Bool.beq_eq_decide_eq]; exact h)
theorem pc_neI (ha : PE X a ta) (hb : PE X b tb) : PC X .NotEq a b (tNeI ta tb) := pc_int ha hb fun _ _ _ _ _ _ h => ne_int (by rw [bne, Bool.beq_eq_decide_eq]; exact h)
/-- is None -/
def tIsN (ta : TE) : TE := fun σ H Q => ta σ H fun x H1 => Q (.bl (decide (x = .non))) H1
def tNotN (ta : TE) : TE := fun σ H Q => ta σ H fun x H1 => Q (.bl (!decide (x = .non))) H1
theorem RelV.none_iff {x : V} {v : Value} (r : RelV x v) : (v == Value.none) = decide (x = .non) := by
  cases x with
  | non => cases r; rfl
  | bl _ => cases r; rfl
  | int _ => obtain ⟨t, rfl⟩ := r; rfl
  | str _ => obtain ⟨t, rfl⟩ := r; rfl
  | byt _ => obtain ⟨t, rfl⟩ := r; rfl
  | flt _ => obtain ⟨t, rfl⟩ := r; rfl
  | ref _ => cases r; rfl
  | ty _ => cases r; rfl
theorem pc_isN {j pos'} (ha : PE X a ta) : PC X .Is a (.Constant .none j pos') (tIsN ta) := by
  intro pins s σ H Q I h
  refine thn (ha pins s σ H _ I h) fun v s1 ⟨x, H1, I1, r1, q1⟩ => ?_
  exact Constant_none (is_none_gen ⟨.bl _, H1, I1, by rw [r1.none_iff]; rfl, q1⟩)
theorem pc_notN {j pos'} (ha : PE X a ta) : PC X .IsNot a (.Constant .none j pos') (tNotN ta) := by
  intro pins s σ H Q I h
  refine thn (ha pins s σ H _ I h) fun v s1 ⟨x, H1, I1, r1, q1⟩ => ?_
  exact Constant_none (isnot_none_gen ⟨.bl _, H1, I1, by rw [r1.none_iff]; rfl, q1⟩)
/-- a comparison as a value, as a test -/
def tB (t : TE) : TT := fun σ H Q => t σ H fun x H1 => ∃ c, x = .bl c ∧ Q c H1
theorem pe_cmp {op : CmpOp} {t : TE} (h : PC X op a b t) (h1 : behindInMarks op b = false := by first | exact nobehind _ (by decide) (by decide) | rfl) : PE X (.Compare a [op] [b] pos) t := fun pins s σ H Q I hw => wpAny_Compare1 (h pins s σ H Q I hw) h1
theorem pt_cmp {op : CmpOp} {t : TE} (h : PC X op a b t) (h1 : behindInMarks op b = false := by first | exact nobehind _ (by decide) (by decide) | rfl) : PT X (.Compare a [op] [b] pos) (tB t) := by
  intro pins s σ H Q I hw
  refine wpAny_isTrue_Compare1 (thn (h pins s σ H _ I hw) fun v s1 h1 => thn h1 fun u s2 h2 => thn h2 fun c s3 ⟨x, H1, I1, r1, q1⟩ => ?_) h1
  obtain ⟨d, rfl, q⟩ := q1
  cases r1
  exact wpAny_truthy_bool ⟨H1, I1, q⟩
/-- an expression whose value is a bool, as a test -/
theorem pt_val {e : Expr} {t : TE} (h : PE X e t) (he : ∀ whole, isTrue e X.env whole = (do let v ← whole; standAt e.pos; holding [v] (truthy v)) := by intro _; rfl) : PT X e (tB t) := by
  intro pins s σ H Q I hw
  refine isTrue_plain (thn (h pins s σ H _ I hw) fun v s1 ⟨x, H1, I1, r1, q1⟩ => ?_) (he _)
  obtain ⟨d, rfl, q⟩ := q1
  cases r1
  exact wpAny_truthy_bool ⟨H1, I1, q⟩

/-! ### and, or, not -/
variable {tA tB' : TT} {rest : List Expr}
def tAnd (t u : TT) : TT := fun σ H Q => t σ H fun c H1 => if c = true then u σ H1 Q else Q false H1
def tOr (t u : TT) : TT := fun σ H Q => t σ H fun c H1 => if c = true then Q true H1 else u σ H1 Q
def tNot (t : TT) : TT := fun σ H Q => t σ H fun c H1 => Q (!c) H1
theorem pw_and1 (ha : PT X a tA) : PW X (.BoolOp .And [a] pos) tA := by
  intro wh pins s σ H Q I h
  refine isTrue_and (thn (ha pins s σ H Q I h) fun c s1 e => ?_)
  cases c with
  | true => exact isTrue_and_nil e
  | false => exact e
theorem pw_or1 (ha : PT X a tA) : PW X (.BoolOp .Or [a] pos) tA := by
  intro wh pins s σ H Q I h
  refine isTrue_or (thn (ha pins s σ H Q I h) fun c s1 e => ?_)
  cases c with
  | false => exact isTrue_or_nil e
  | true => exact e
theorem pw_and (ha : PT X a tA) (hb : PW X (.BoolOp .And (b :: rest) pos) tB') : PW X (.BoolOp .And (a :: b :: rest) pos) (tAnd tA tB') := by
  intro wh pins s σ H Q I h
  refine isTrue_and (thn (ha pins s σ H _ I h) fun c s1 ⟨H1, I1, q1⟩ => ?_)
  cases c with
  | true => exact hb wh pins s1 σ H1 Q I1 q1
  | false => exact ⟨H1, I1, q1⟩
theorem pw_or (ha : PT X a tA) (hb : PW X (.BoolOp .Or (b :: rest) pos) tB') : PW X (.BoolOp .Or (a :: b :: rest) pos) (tOr tA tB') := by
  intro wh pins s σ H Q I h
  refine isTrue_or (thn (ha pins s σ H _ I h) fun c s1 ⟨H1, I1, q1⟩ => ?_)
  cases c with
  | true => exact ⟨H1, I1, q1⟩
  | false => exact hb wh pins s1 σ H1 Q I1 q1
theorem pt_not (ha : PT X a tA) : PT X (.UnaryOp .Not a pos) (tNot tA) := by
  intro pins s σ H Q I h
  exact isTrue_not (ha pins s σ H (fun c H1 => Q (!c) H1) I h)
/-- .. as values (bools) -/
def tAndV (ta tb : TE) : TE := fun σ H Q => ta σ H fun x H1 => ∃ c, x = .bl c ∧ if c = true then tb σ H1 Q else Q (.bl false) H1
def tOrV (ta tb : TE) : TE := fun σ H Q => ta σ H fun x H1 => ∃ c, x = .bl c ∧ if c = true then Q (.bl true) H1 else tb σ H1 Q
def tNotV (ta : TE) : TE := fun σ H Q => ta σ H fun x H1 => ∃ c, x = .bl c ∧ Q (.bl (!c)) H1
theorem pe_one {op} {t : TE} (h : PE X a t) : PE X (.BoolOp op [a] pos) t := fun pins s σ H Q I hw => BoolOp_one (h pins s σ H Q I hw)
theorem pe_and (ha : PE X a ta) (hb : PE X (.BoolOp .And (b :: rest) pos) tb) : PE X (.BoolOp .And (a :: b :: rest) pos) (tAndV ta tb) := by
  intro pins s σ H Q I h
  refine BoolOp_and (thn (ha pins s σ H _ I h) fun v s1 ⟨x, H1, I1, r1, q1⟩ => ?_)
  obtain ⟨c, rfl, q1⟩ := q1
  cases r1
  refine wpAny_truthy_bool ?_
  cases c with
  | true => exact hb pins s1 σ H1 Q I1 q1
  | false => exact ⟨.bl false, H1, I1, rfl, q1⟩
theorem pe_or (ha : PE X a ta) (hb : PE X (.BoolOp .Or (b :: rest) pos) tb) : PE X (.BoolOp .Or (a :: b :: rest) pos) (tOrV ta tb) := by
  intro pins s σ H Q I h
  refine BoolOp_or (thn (ha pins s σ H _ I h) fun v s1 ⟨x, H1, I1, r1, q1⟩ => ?_)
  obtain ⟨c, rfl, q1⟩ := q1
  cases r1
  refine wpAny_truthy_bool ?_
  cases c with
  | false => exact hb pins s1 σ H1 Q I1 q1
  | true => exact ⟨.bl true, H1, I1, rfl, q1⟩
theorem pe_not (ha : PE X a ta) : PE X (.UnaryOp .Not a pos) (tNotV ta) := by
  intro pins s σ H Q I h
  refine UnaryOp_ (thn (ha pins s σ H _ I h) fun v s1 ⟨x, H1, I1, r1, q1⟩ => ?_)
  obtain ⟨c, rfl, q1⟩ := q1
  cases r1
  exact not_of (wpAny_truthy_bool ⟨.bl (!c), H1, I1, rfl, q1⟩)
/-- a if t else b -/
def tIf (t : TT) (ta tb : TE) : TE := fun σ H Q => t σ H fun c H1 => if c = true then ta σ H1 Q else tb σ H1 Q
theorem pe_ifExp {c : Expr} (hc : PT X c tA) (ha : PE X a ta) (hb : PE X b tb) : PE X (.IfExp c a b pos) (tIf tA ta tb) := by
  intro pins s σ H Q I h
  refine wpAny_IfExp (thn (hc pins s σ H _ I h) fun d s1 ⟨H1, I1, q1⟩ => ?_)
  cases d with
  | true => exact ha pins s1 σ H1 Q I1 q1
  | false => exact hb pins s1 σ H1 Q I1 q1
end
end L2

namespace L2
open PySem PySem.Spec PyProof.Rows

/-! ### a list, a tuple that is read: tracked, frozen, or an object of the module -/
def SqL (K : PySem.W.Frag) (H : Hp) (a : Addr) (xs : List V) : Prop :=
  Rd H a (.lst xs) ∨
    ∃ (o : Obj) (its : Array Value) (n : Nat), K.lookup a = some o ∧ o.cls = .type "list" ∧ o.dict = none ∧ o.data = .seq its n ∧ its.size ≤ sizeLine ∧ Vals xs its.toList
def SqT (K : PySem.W.Frag) (H : Hp) (a : Addr) (xs : List V) : Prop :=
  Rd H a (.tup xs) ∨
    ∃ (o : Obj) (its : Array Value) (n : Nat), K.lookup a = some o ∧ o.cls = .type "tuple" ∧ o.data = .seq its n ∧ its.size ≤ sizeLine ∧ Vals xs its.toList
def absV : Value → Option V
  | .none => some .non
  | .bool b => some (.bl b)
  | .int i _ => some (.int i)
  | .str x _ => some (.str x)
  | .bytes b _ => some (.byt b)
  | .float b _ => some (.flt b)
  | .ref a => some (.ref a)
  | .type n => some (.ty n)
  | _ => none
theorem RelV.abs {x : V} {u : Value} (r : RelV x u) : absV u = some x := by
  cases x with
  | non => cases r; rfl
  | bl _ => cases r; rfl
  | int _ => obtain ⟨t, rfl⟩ := r; rfl
  | str _ => obtain ⟨t, rfl⟩ := r; rfl
  | byt _ => obtain ⟨t, rfl⟩ := r; rfl
  | flt _ => obtain ⟨t, rfl⟩ := r; rfl
  | ref _ => cases r; rfl
  | ty _ => cases r; rfl
theorem RelV.inj {x y : V} {u : Value} (r : RelV x u) (q : RelV y u) : x = y := Option.some.inj (r.abs.symm.trans q.abs)
theorem Vals.inj : ∀ {xs ys : List V} {us : List Value}, Vals xs us → Vals ys us → xs = ys
  | _, _, _, .nil, .nil => rfl
  | _, _, _, .cons r t, .cons r' t' => by rw [r.inj r', Vals.inj t t']
section
variable {X : Cx} {pins : List (Addr × Obj)} {σ : St} {H : Hp} {s : Shared} {a : Addr} {xs ys : List V}
theorem SqL.of {K : PySem.W.Frag} (h : H a = some (.lst xs)) : SqL K H a xs := .inl (.inl h)
theorem SqT.of {K : PySem.W.Frag} (h : H a = some (.tup xs)) : SqT K H a xs := .inl (.inl h)
theorem Inv.list (I : Inv X pins σ H s) (h : SqL X.K H a xs) : ∃ its : List Value, Vals xs its ∧ PlainL s.heap a its.toArray ∧ xs.length ≤ sizeLine := by
  rcases h with h | ⟨o, its, n, hk, hc, hd, hs, hz, r⟩
  · obtain ⟨z, its, n, r, e⟩ := h.ok I.hok
    exact ⟨its, r, ⟨_, n, e, rfl, rfl, rfl⟩, z⟩
  · refine ⟨its.toList, r, ⟨o, n, I.kIn a o hk, hc, hd, by simpa using hs⟩, ?_⟩
    have e := r.length
    simp only [Array.length_toList] at e
    omega
theorem Inv.tuple (I : Inv X pins σ H s) (h : SqT X.K H a xs) : ∃ its : List Value, Vals xs its ∧ IsTup s.heap a its.toArray ∧ xs.length ≤ sizeLine := by
  rcases h with h | ⟨o, its, n, hk, hc, hs, hz, r⟩
  · obtain ⟨z, its, r, p⟩ := h.ok I.hok
    exact ⟨its, r, p, z⟩
  · refine ⟨its.toList, r, ⟨o, I.kIn a o hk, hc, n, by simpa using hs⟩, ?_⟩
    have e := r.length
    simp only [Array.length_toList] at e
    omega
theorem Inv.list_inj (I : Inv X pins σ H s) (h : SqL X.K H a xs) (h' : SqL X.K H a ys) : xs = ys := by
  obtain ⟨its, r, ⟨o, n, e, _, _, d⟩, _⟩ := I.list h
  obtain ⟨its', r', ⟨o', n', e', _, _, d'⟩, _⟩ := I.list h'
  rw [e] at e'; cases e'
  rw [d] at d'
  injection d' with d1 _
  have : its = its' := by simpa using congrArg Array.toList d1
  subst this
  exact r.inj r'
theorem Inv.tuple_inj (I : Inv X pins σ H s) (h : SqT X.K H a xs) (h' : SqT X.K H a ys) : xs = ys := by
  obtain ⟨its, r, ⟨o, e, _, n, d⟩, _⟩ := I.tuple h
  obtain ⟨its', r', ⟨o', e', _, n', d'⟩, _⟩ := I.tuple h'
  rw [e] at e'; cases e'
  rw [d] at d'
  injection d' with d1 _
  have : its = its' := by simpa using congrArg Array.toList d1
  subst this
  exact r.inj r'
end

/-! ### another wish about exceptions -/
abbrev Cx.wish (X : Cx) (E : Value → Shared → Prop) : Cx := { X with xe := E }
/-- no exception leaves -/
abbrev Cx.nox (X : Cx) : Cx := X.wish fun _ _ => False
theorem Cx.Ok.wish {X : Cx} (ok : X.Ok) (E : Value → Shared → Prop) : (X.wish E).Ok :=
  ⟨ok.mod, ok.kind, ok.glob, ok.blt, ok.above, ok.inj, ok.has, ok.cab, ok.hd, ok.frames, ok.stk, ok.exf, ok.bs, ok.bsz, ok.noex, ok.exfs, ok.funs, ok.frf⟩
theorem Cx.Ok.unwish {X : Cx} {E : Value → Shared → Prop} (ok : (X.wish E).Ok) : X.Ok :=
  ⟨ok.mod, ok.kind, ok.glob, ok.blt, ok.above, ok.inj, ok.has, ok.cab, ok.hd, ok.frames, ok.stk, ok.exf, ok.bs, ok.bsz, ok.noex, ok.exfs, ok.funs, ok.frf⟩
section
variable {X : Cx} {pins : List (Addr × Obj)} {σ : St} {H : Hp} {s : Shared} {E : Value → Shared → Prop}
theorem Inv.wish (I : Inv X pins σ H s) (E : Value → Shared → Prop) : Inv (X.wish E) pins σ H s := ⟨I.ok.wish E, I.os, I.bare, I.base, I.loc, I.cell, I.free, I.freeC, I.pin, I.hok, I.len⟩
theorem Inv.unwish (I : Inv (X.wish E) pins σ H s) : Inv X pins σ H s := ⟨I.ok.unwish, I.os, I.bare, I.base, I.loc, I.cell, I.free, I.freeC, I.pin, I.hok, I.len⟩
theorem SP.unwish {D : Ends} {f : Flow} {s' : Shared} (h : SP (X.wish E) pins D f s') : SP X pins D f s' := by
  cases f with
  | next => obtain ⟨σ', H', I, q⟩ := h; exact ⟨σ', H', I.unwish, q⟩
  | brk => obtain ⟨σ', H', I, q⟩ := h; exact ⟨σ', H', I.unwish, q⟩
  | cont => obtain ⟨σ', H', I, q⟩ := h; exact ⟨σ', H', I.unwish, q⟩
  | ret u => obtain ⟨v, σ', H', I, r, q⟩ := h; exact ⟨v, σ', H', I.unwish, r, q⟩
theorem PE.nox {e : Expr} {t : TE} (h : PE X.nox e t) : PE X e t := fun pins s σ H Q I hw =>
  wpAny_mono (h pins s σ H Q (I.wish _) hw) (fun _ _ ⟨v, H', I', r, q⟩ => ⟨v, H', I'.unwish, r, q⟩) fun _ _ z => False.elim z
theorem PT.nox {e : Expr} {t : TT} (h : PT X.nox e t) : PT X e t := fun pins s σ H Q I hw =>
  wpAny_mono (h pins s σ H Q (I.wish _) hw) (fun _ _ ⟨H', I', q⟩ => ⟨H', I'.unwish, q⟩) fun _ _ z => False.elim z
theorem PSs.nox {st : List Stmt} {t : TS} (h : PSs X.nox st t) : PSs X st t := fun pins s σ H D I hw =>
  wpAny_mono (h pins s σ H D (I.wish _) hw) (fun _ _ q => q.unwish) fun _ _ z => False.elim z
end

/-! ### blocks and small statements -/
section
variable {X : Cx} {st : Stmt} {rest : List Stmt} {t u : TS} {e : Expr} {te : TE} {pos : Pos}
def tNext : TS := fun D σ H => D.nx σ H
def tSeq (t u : TS) : TS := fun D σ H => t { D with nx := u D } σ H
theorem pss_nil : PSs X [] tNext := fun _ _ σ H _ I h => wpAny_execs_nil ⟨σ, H, I, h⟩
theorem pss_cons (h1 : PS X st t) (h2 : PSs X rest u) : PSs X (st :: rest) (tSeq t u) := by
  intro pins s σ H D I h
  refine wpAny_execs_cons (thn (h1 pins s σ H { D with nx := u D } I h) fun f s1 q => ?_)
  cases f with
  | next =>
    obtain ⟨σ', H', I', q⟩ := q
    exact h2 pins s1 σ' H' D I' q
  | ret v => exact q
  | brk => exact q
  | cont => exact q
theorem pss_one (h1 : PS X st t) : PSs X [st] t := by
  intro pins s σ H D I h
  refine wpAny_execs_cons (thn (h1 pins s σ H D I h) fun f s1 q => ?_)
  cases f with
  | next => exact wpAny_execs_nil q
  | ret v => exact q
  | brk => exact q
  | cont => exact q
def tBreak : TS := fun D σ H => D.bk σ H
def tCont : TS := fun D σ H => D.ct σ H
theorem ps_pass : PS X (.Pass pos) tNext := fun _ _ σ H _ I h => wpAny_Pass ⟨σ, H, I, h⟩
theorem ps_break : PS X (.Break pos) tBreak := fun _ _ σ H _ I h => wpAny_Break ⟨σ, H, I, h⟩
theorem ps_continue : PS X (.Continue pos) tCont := fun _ _ σ H _ I h => wpAny_Continue ⟨σ, H, I, h⟩
/-- in a def's body nothing is shown -/
theorem Inv.quiet {pins : List (Addr × Obj)} {σ : St} {H : Hp} {s : Shared} (I : Inv X pins σ H s) : interactive X.env = false := by simp [interactive, I.ok.kind]
/-- a docstring -/
theorem ps_doc {x j pos pos'} : PS X (.Expr (.Constant (.str x) j pos) pos') tNext := fun _ s σ H _ I h => wpAny_Expr (Calls.Constant_str (show SP X _ _ .next { s with toks := s.toks + 1 } from ⟨σ, H, I.tok _, h⟩)) I.quiet
/-- an expression whose value is dropped -/
def tDrop (te : TE) : TS := fun D σ H => te σ H fun _ H1 => D.nx σ H1
theorem ps_expr (he : PE X e te) (hs : swapsWith e none pos.line X.env = pure false := by rfl) : PS X (.Expr e pos) (tDrop te) := by
  intro pins s σ H D I h
  exact wpAny_Expr_any (thn (he pins s σ H _ I h) fun v s1 ⟨x, H1, I1, r1, q1⟩ => ⟨σ, H1, I1, q1⟩) I.quiet hs
def tRet (te : TE) : TS := fun D σ H => te σ H D.rt
theorem ps_ret (he : PE X e te) : PS X (.Return (some e) pos) (tRet te) := by
  intro pins s σ H D I h
  exact wpAny_Return_some (thn (he pins s σ H _ I h) fun v s1 ⟨x, H1, I1, r1, q1⟩ => ⟨x, σ, H1, I1, r1, q1⟩)
def tRetN : TS := fun D _ H => D.rt .non H
theorem ps_retN : PS X (.Return none pos) tRetN := fun _ _ σ H _ I h => wpAny_Return_none ⟨.non, σ, H, I, rfl, h⟩
def tIfS (c : TT) (t u : TS) : TS := fun D σ H => c σ H fun b H1 => if b = true then t D σ H1 else u D σ H1
theorem ps_if {c : Expr} {a b : List Stmt} {tc : TT} (hc : PT X c tc) (ha : PSs X a t) (hb : PSs X b u) : PS X (.If c a b pos) (tIfS tc t u) := by
  intro pins s σ H D I h
  refine wpAny_If (thn (hc pins s σ H _ I h) fun d s1 ⟨H1, I1, q1⟩ => ?_)
  cases d with
  | true => exact ha pins s1 σ H1 D I1 q1
  | false => exact hb pins s1 σ H1 D I1 q1
/-- code that the proof never comes to -/
def tNever : TS := fun _ _ _ => False
theorem ps_never : PS X st tNever := fun _ _ _ _ _ _ h => h.elim
theorem pss_never {sts : List Stmt} : PSs X sts tNever := fun _ _ _ _ _ _ h => h.elim
end

/-! ### targets -/
abbrev TG := V → St → Hp → (St → Hp → Prop) → Prop
abbrev TGs := List V → St → Hp → (St → Hp → Prop) → Prop
def PG (X : Cx) (target : Expr) (t : TG) : Prop :=
  ∀ (pins : List (Addr × Obj)) (s : Shared) (σ : St) (H : Hp) (v : V) (u : Value) (Q : St → Hp → Prop), Inv X pins σ H s → RelV v u → t v σ H Q →
    wpAny (model X.prog X.w) X.A (assign target X.env u) (fun _ s' => ∃ σ' H', Inv X pins σ' H' s' ∧ Q σ' H') X.xe s
/-- several targets, one after another -/
def PGs (X : Cx) (ts : List Expr) (t : TGs) : Prop :=
  ∀ (pins : List (Addr × Obj)) (s : Shared) (σ : St) (H : Hp) (vs : List V) (us : List Value) (Q : St → Hp → Prop), Inv X pins σ H s → Vals vs us → t vs σ H Q →
    wpAny (model X.prog X.w) X.A (assignInOrder ((assignEach ts X.env).map (·.2)) us) (fun _ s' => ∃ σ' H', Inv X pins σ' H' s' ∧ Q σ' H') X.xe s
/-- o[i] = v, by values -/
abbrev TSet := V → V → V → Hp → (Hp → Prop) → Prop
def PSet (X : Cx) (t : TSet) : Prop :=
  ∀ (pins : List (Addr × Obj)) (s : Shared) (σ : St) (H : Hp) (o i v : V) (ov iv u : Value) (Q : Hp → Prop), Inv X pins σ H s → RelV o ov → RelV i iv → RelV v u → t o i v H Q →
    wpAny (model X.prog X.w) X.A (setItem ov iv u) (fun _ s' => ∃ H', Inv X pins σ H' s' ∧ Q H') X.xe s
/-- a op= b, by values -/
abbrev TIp := V → V → Hp → VK → Prop
def PIp (X : Cx) (op : Operator) (t : TIp) : Prop :=
  ∀ (pins : List (Addr × Obj)) (s : Shared) (σ : St) (H : Hp) (x y : V) (v u : Value) (Q : VK), Inv X pins σ H s → RelV x v → RelV y u → t x y H Q →
    wpAny (model X.prog X.w) X.A (inplaceOp op v u) (EP X pins σ Q) X.xe s
section
variable {X : Cx} {pos : Pos}
def gName (i : Nat) : TG := fun v σ H Q => Q (σ.set i (some v)) H
theorem pg_name {i : Nat} {x : Str} (hN : X.N.Nodup) (hi : X.N[i]? = some x) (hx : Loc X.env.scope x) (hf : X.fn x = true ∨ X.env.scope.names.lookup x = some .local := by first | exact .inl rfl | exact .inr rfl | assumption) : PG X (.Name x pos) (gName i) := by
  intro pins s σ H v u Q I r h
  exact wpAny_assign_Name (store_ok I hN hi hx r (fun s' I' => ⟨_, H, I', h⟩) hf)
def gNil : TGs := fun vs σ H Q => vs = [] ∧ Q σ H
def gCons (t : TG) (u : TGs) : TGs := fun vs σ H Q => ∃ v r, vs = v :: r ∧ t v σ H fun σ' H' => u r σ' H' Q
theorem pgs_nil : PGs X [] gNil := by
  intro pins s σ H vs us Q I r h
  obtain ⟨e, h⟩ := h
  subst e
  cases r
  exact assignInOrder_nil ⟨σ, H, I, h⟩
theorem pgs_cons {e : Expr} {es : List Expr} {t : TG} {u : TGs} (h1 : PG X e t) (h2 : PGs X es u)
    (hs : (assignEach (e :: es) X.env).map (·.2) = assign e X.env :: (assignEach es X.env).map (·.2) := by rfl) : PGs X (e :: es) (gCons t u) := by
  intro pins s σ H vs us Q I r h
  obtain ⟨v, vr, e1, h⟩ := h
  subst e1
  cases r with
  | cons r rr =>
    rw [hs]
    refine assignInOrder_cons (thn (h1 pins s σ H _ _ _ I r h) fun _ s1 ⟨σ1, H1, I1, q1⟩ => ?_)
    exact h2 pins s1 σ1 H1 _ _ Q I1 rr q1
/-- (a, b, ..) = a tuple of that length -/
def gTup (K : PySem.W.Frag) (n : Nat) (t : TGs) : TG := fun v σ H Q => ∃ a xs, v = .ref a ∧ SqT K H a xs ∧ xs.length = n ∧ t xs σ H Q
theorem pg_tup {es : List Expr} {k : Nat} {t : TGs} {n : Nat} (hc : X.calm = true) (h : PGs X es t)
    (hn : (assignEach es X.env).length = n := by rfl) (hst : (assignEach es X.env).findIdx? (·.1) = none := by rfl) : PG X (.Tuple es k pos) (gTup X.K n t) := by
  intro pins s σ H v u Q I r hw
  obtain ⟨a, xs, e1, hq, hl, hw⟩ := hw
  subst e1
  cases r
  obtain ⟨its, rv, ht, hz⟩ := I.tuple hq
  refine assign_Tuple_tuple (I.ok.hd hc) ht (by simp [hn, ← hl, rv.length]) hst fun h' hx => ?_
  have I1 : Inv X pins σ H { s with heap := h' } := I.kept (t' := s.toks) fun b o e => hx b o (Nat.ne_of_lt (Heap.lt_size e)) e
  exact h pins _ σ H xs _ Q I1 (by simpa using rv) hw
/-- o[i] = .. -/
def gSub (to ti : TE) (t : TSet) : TG := fun v σ H Q => to σ H fun o H1 => ti σ H1 fun i H2 => t o i v H2 fun H3 => Q σ H3
theorem pg_sub {o i : Expr} {to ti : TE} {t : TSet} (ho : PE X o to) (hi : PE X i ti) (hs : PSet X t)
    (ha : ∀ v, assign (.Subscript o i pos) X.env v = (do
      let ov ← holding [v] (eval o X.env)
      let iv ← holding [v, ov] (eval i X.env)
      standAt pos
      holding [v, ov, iv] (setItem ov iv v)
      release [v, ov, iv] []) := by intro _; rfl) : PG X (.Subscript o i pos) (gSub to ti t) := by
  intro pins s σ H v u Q I r h
  rw [ha]
  refine wpAny_bind (wpAny_holding (thn (ho pins s σ H _ I h) fun ov s1 ⟨x, H1, I1, r1, q1⟩ => ?_))
  refine wpAny_bind (wpAny_holding (thn (hi pins s1 σ H1 _ I1 q1) fun iv s2 ⟨y, H2, I2, r2, q2⟩ => ?_))
  refine wpAny_bind (wpAny_standAt (wpAny_bind (wpAny_holding (thn (hs pins s2 σ H2 x y v ov iv u _ I2 r1 r2 r q2) fun _ s3 ⟨H3, I3, q3⟩ => ?_))))
  exact wpAny_release ⟨σ, H3, I3, q3⟩
/-- target = value -/
def tAsg (te : TE) (g : TG) : TS := fun D σ H => te σ H fun x H1 => g x σ H1 D.nx
theorem ps_asg {tg e : Expr} {te : TE} {g : TG} (he : PE X e te) (hg : PG X tg g) (hs : swapsWithSole [tg] e pos.line X.env = pure false := by rfl) (hw : swappedStores [tg] e X.env = pure none := by rfl)
    (h1 : (assignEach [tg] X.env).map (·.2) = [assign tg X.env] := by rfl) : PS X (.Assign [tg] e pos) (tAsg te g) := by
  intro pins s σ H D I h
  refine wpAny_Assign_stores (thn (he pins s σ H _ I h) fun v s1 ⟨x, H1, I1, r1, q1⟩ => ?_) hs hw
  rw [h1]
  exact thn (hg pins s1 σ H1 x v _ I1 r1 q1) fun _ s2 q => q
/-- name = value -/
theorem ps_set {i : Nat} {x : Str} {e : Expr} {te : TE} {pos' : Pos} (hN : X.N.Nodup) (hi : X.N[i]? = some x) (hx : Loc X.env.scope x) (he : PE X e te) (hs : swapsWith e (some (.Name x pos')) pos.line X.env = pure false := by rfl) (hf : X.fn x = true ∨ X.env.scope.names.lookup x = some .local := by first | exact .inl rfl | exact .inr rfl | assumption) :
    PS X (.Assign [.Name x pos'] e pos) (tAsg te (gName i)) := by
  intro pins s σ H D I h
  refine wpAny_Assign_Name (thn (he pins s σ H _ I h) fun v s1 ⟨y, H1, I1, r1, q1⟩ => ?_) hs
  exact store_ok I1 hN hi hx r1 (fun s2 I2 => ⟨_, H1, I2, q1⟩) hf
/-- a, b = x, y with plain local names: stored from the right; the pair itself is not tracked (the opening rows as in PyProof/Rows/TupAssign.lean:23) -/
def tPar (i j : Nat) (ta : TA) : TS := fun D σ H => ta σ H fun vs H1 => ∃ v w, vs = [v, w] ∧ D.nx ((σ.set i (some v)).set j (some w)) H1
theorem ps_par {i j : Nat} {x y : Str} {a b : Expr} {ta : TA} {px py pt : Pos} {kt k2 pt2} (hc : X.calm = true) (hN : X.N.Nodup) (hi : X.N[i]? = some x) (hj : X.N[j]? = some y) (hij : i ≠ j)
    (hx : X.env.scope.names.lookup x = some .local) (hy : X.env.scope.names.lookup y = some .local) (ha : PA X [a, b] ta)
    (hw : swappedStores [.Tuple [.Name x px, .Name y py] kt pt] (.Tuple [a, b] k2 pt2) X.env = pure (some [x, y]))
    (hs : swapsWithSole [.Tuple [.Name x px, .Name y py] kt pt] (.Tuple [a, b] k2 pt2) pos.line X.env = pure false := by rfl) :
    PS X (.Assign [.Tuple [.Name x px, .Name y py] kt pt] (.Tuple [a, b] k2 pt2) pos) (tPar i j ta) := by
  intro pins s σ H D I h
  rw [exec_Assign_arm]
  refine wpAny_bind (wpAny_standAt ?_)
  rw [hs]
  refine wpAny_bind (wpAny_pure ?_)
  rw [if_neg (by decide)]
  refine wpAny_bind (Tuple_ (thn (ha _ pins s σ H _ I h) fun us s1 ⟨vs, H1, I1, r1, q1⟩ => ?_))
  obtain ⟨v, w, e1, q1⟩ := q1
  subst e1
  obtain ⟨u1, u2, rfl, rv, rw'⟩ : ∃ u1 u2, us = [u1, u2] ∧ RelV v u1 ∧ RelV w u2 := by
    cases r1 with
    | cons p q =>
      cases q with
      | cons p' q' =>
        cases q'
        exact ⟨_, _, rfl, p, p'⟩
  refine wpAny_newObj_type ?_ (by show 2 ≤ sizeLine; decide)
  have I2 : Inv X pins σ H1 { s1 with heap := s1.heap.push { cls := .type "tuple", data := .seq [u1, u2].toArray } } := I1.kept (t' := s1.toks) fun b o e => Heap.get?_push_of_some _ e
  rw [hw]
  refine wpAny_bind (wpAny_pure ?_)
  show wpAny (model X.prog X.w) X.A (do rule "assign.swapped-stores"; let items ← unpackItems (.ref s1.heap.objs.size) 2 none; assignInOrder [fun v => bindName X.env y v, fun v => bindName X.env x v] items.reverse; pure Flow.next) _ _ _
  refine wpAny_bind (wpAny_rule (wpAny_bind (unpackItems_tuple (items := #[u1, u2]) (I.ok.hd hc) (IsTup.new s1.heap _) fun h' hx' => ?_)))
  have I3 := I2.kept (h' := h') (t' := s1.toks) fun b o e => hx' b o (Nat.ne_of_lt (Heap.lt_size e)) e
  show wpAny _ _ (assignInOrder [fun v => bindName X.env y v, fun v => bindName X.env x v] [u2, u1] >>= fun _ => pure Flow.next) _ _ _
  refine wpAny_bind (assignInOrder_cons (wpAny_bindName (store_ok I3 hN hj (.inl hy) rw' (fun s2 I4 => ?_) (.inr hy))))
  refine assignInOrder_cons (wpAny_bindName (store_ok I4 hN hi (.inl hx) rv (fun s3 I5 => assignInOrder_nil (wpAny_pure ?_)) (.inr hx)))
  rw [List.set_comm _ _ (Ne.symm hij)] at I5
  exact ⟨_, H1, I5, q1⟩
/-- name op= e -/
def tAug (i : Nat) (te : TE) (ti : TIp) : TS := fun D σ H => ∃ x, σ[i]? = some (some x) ∧ te σ H fun y H1 => ti x y H1 fun z H2 => D.nx (σ.set i (some z)) H2
theorem ps_aug {i : Nat} {x : Str} {e : Expr} {te : TE} {op : Operator} {ti : TIp} {pos' : Pos} (hN : X.N.Nodup) (hi : X.N[i]? = some x) (hx : Loc X.env.scope x) (he : PE X e te) (ho : PIp X op ti) (hf : X.fn x = true ∨ X.env.scope.names.lookup x = some .local := by first | exact .inl rfl | exact .inr rfl | assumption) :
    PS X (.AugAssign (.Name x pos') op e pos) (tAug i te ti) := by
  intro pins s σ H D I h
  obtain ⟨v, e1, h⟩ := h
  obtain ⟨m, hn, hl⟩ := I.loc
  have vis : Vis X.env.scope x := by rcases hx with k | k; exact .inl k; exact .inr (.inl k)
  obtain ⟨u, r, l⟩ := hl i x v hi e1 vis
  refine wpAny_AugAssign_Name ?_
  have go : wpAny (model X.prog X.w) X.A (eval e X.env) (fun w s₂ => wpAny (model X.prog X.w) X.A (inplaceOp op u w) (fun r s₃ => wpAny (model X.prog X.w) X.A (storeName X.env x r) (fun _ => SP X pins D .next) X.xe s₃) X.xe s₂) X.xe s := by
    refine thn (he pins s σ H _ I h) fun w s1 ⟨y, H1, I1, r1, q1⟩ => ?_
    refine thn (ho pins s1 σ H1 v y u w _ I1 r r1 q1) fun z s2 ⟨zv, H2, I2, r2, q2⟩ => ?_
    exact store_ok I2 hN hi hx r2 (fun s3 I3 => ⟨_, H2, I3, q2⟩) hf
  rcases l with ⟨hk, hm⟩ | ⟨hk, c, hc, hcell⟩
  · exact wpAny_loadName_local I.ok.kind hk hn hm go
  · rcases hk with hk | hk
    · exact wpAny_loadName_cell I.ok.kind hk hc hcell go
    · rcases hx with k | k
      · have : X.env.scope.names.lookup x = some .free := hk
        rw [k] at this; cases this
      · have : X.env.scope.names.lookup x = some .free := hk
        rw [k] at this; cases this
/-- o[i] op= e -/
def tAugS (to ti te : TE) (tget : V → V → Hp → VK → Prop) (tip : TIp) (tset : TSet) : TS := fun D σ H => to σ H fun o H1 => ti σ H1 fun i H2 => tget o i H2 fun x H3 => te σ H3 fun y H4 => tip x y H4 fun z H5 => tset o i z H5 fun H6 => D.nx σ H6
/-- o[i], by values -/
def PGet (X : Cx) (t : V → V → Hp → VK → Prop) : Prop :=
  ∀ (pins : List (Addr × Obj)) (s : Shared) (σ : St) (H : Hp) (o i : V) (ov iv : Value) (Q : VK), Inv X pins σ H s → RelV o ov → RelV i iv → t o i H Q →
    wpAny (model X.prog X.w) X.A (getItem ov iv) (EP X pins σ Q) X.xe s
theorem ps_augS {o i e : Expr} {to ti te : TE} {tget : V → V → Hp → VK → Prop} {tip : TIp} {tset : TSet} {op : Operator} {tpos : Pos} (ho : PE X o to) (hi : PE X i ti) (hg : PGet X tget) (he : PE X e te) (hp : PIp X op tip) (hs : PSet X tset)
    (ha : ∀ ov iv new, augStore i ov iv new = (do holding [new, ov, iv] (setItem ov iv new); release [new, ov, iv] []; pure .next) := by intros; rfl) : PS X (.AugAssign (.Subscript o i tpos) op e pos) (tAugS to ti te tget tip tset) := by
  intro pins s σ H D I h
  refine wpAny_AugAssign_SubscriptAny (thn (ho pins s σ H _ I h) fun ov s1 ⟨x1, H1, I1, r1, q1⟩ => ?_) ha
  refine thn (hi pins s1 σ H1 _ I1 q1) fun iv s2 ⟨x2, H2, I2, r2, q2⟩ => ?_
  refine thn (hg pins s2 σ H2 x1 x2 ov iv _ I2 r1 r2 q2) fun old s3 ⟨x3, H3, I3, r3, q3⟩ => ?_
  refine thn (he pins s3 σ H3 _ I3 q3) fun v s4 ⟨x4, H4, I4, r4, q4⟩ => ?_
  refine thn (hp pins s4 σ H4 x3 x4 old v _ I4 r3 r4 q4) fun new s5 ⟨x5, H5, I5, r5, q5⟩ => ?_
  exact thn (hs pins s5 σ H5 x1 x2 x5 ov iv new _ I5 r1 r2 r5 q5) fun _ s6 ⟨H6, I6, q6⟩ => ⟨σ, H6, I6, q6⟩
/-- ints -/
def ipI (f : Int → Int → Int) : TIp := fun x y H Q => ∃ i j, x = .int i ∧ y = .int j ∧ Q (.int (f i j)) H
theorem ip_add : PIp X .Add (ipI fun i j => i + j) := by
  intro pins s σ H x y v u Q I r1 r2 h
  obtain ⟨i, j, e1, e2, q⟩ := h
  subst e1; subst e2
  obtain ⟨t, rfl⟩ := r1
  obtain ⟨t', rfl⟩ := r2
  exact iadd_int ⟨.int _, H, I.tok _, ⟨_, rfl⟩, q⟩
theorem ip_sub : PIp X .Sub (ipI fun i j => i - j) := by
  intro pins s σ H x y v u Q I r1 r2 h
  obtain ⟨i, j, e1, e2, q⟩ := h
  subst e1; subst e2
  obtain ⟨t, rfl⟩ := r1
  obtain ⟨t', rfl⟩ := r2
  exact isub_int ⟨.int _, H, I.tok _, ⟨_, rfl⟩, q⟩
end

/-! ### while -/
section
variable {X : Cx} {pos : Pos}
/-- the invariant W with its measure -/
def tWhile (c : TT) (tb : TS) : TS := fun D σ H => ∃ W : Nat → St → Hp → Prop, (∃ m, W m σ H) ∧ ∀ m σ H, W m σ H →
  c σ H fun b H1 => if b = true then ∃ N : St → Hp → Prop, (∀ σ' H', N σ' H' → ∃ m', m' < m ∧ W m' σ' H') ∧ tb { D with nx := N, ct := N, bk := D.nx } σ H1 else D.nx σ H1
theorem ps_while {c : Expr} {body : List Stmt} {tc : TT} {tb : TS} (hp : PassesOwn (model X.prog X.w) X.A X.env X.xe) (hc : PT X c tc) (hb : PSs X body tb) : PS X (.While c body [] pos) (tWhile tc tb) := by
  intro pins s σ H D I h
  obtain ⟨W, ⟨m0, w0⟩, turn⟩ := h
  refine wpAny_While (codeAny_whileLoop (fun n s' => ∃ σ' H', Inv X pins σ' H' s' ∧ W n σ' H') ?_ m0 ⟨σ, H, I, w0⟩)
  rintro n s1 ⟨σ1, H1, I1, w1⟩
  refine wpAny_passesOwn hp (thn (hc pins s1 σ1 H1 _ I1 (turn n σ1 H1 w1)) fun b s2 ⟨H2, I2, q2⟩ => ?_)
  cases b with
  | true =>
    obtain ⟨N, hN, q2⟩ := q2
    rw [if_pos rfl]
    refine wpAny_passesOwn hp (thn (hb pins s2 σ1 H2 _ I2 q2) fun f s3 q3 => ?_)
    cases f with
    | next =>
      obtain ⟨σ3, H3, I3, n3⟩ := q3
      obtain ⟨m', hm, w3⟩ := hN σ3 H3 n3
      exact ⟨m', hm, σ3, H3, I3, w3⟩
    | cont =>
      obtain ⟨σ3, H3, I3, n3⟩ := q3
      obtain ⟨m', hm, w3⟩ := hN σ3 H3 n3
      exact ⟨m', hm, σ3, H3, I3, w3⟩
    | brk => exact q3
    | ret v => exact q3
  | false =>
    rw [if_neg Bool.false_ne_true]
    exact wpAny_execs_nil ⟨σ1, H2, I2, q2⟩
end

/-! ### what a loop or a comprehension walks -/
/-- at turn i: it yields x (the heap may grow), or it stops -/
structure It where
  go : Nat → Hp → Prop
  yld : Nat → Hp → V → Hp → Prop
  stop : Nat → Hp → Prop
/-- the iterator's own objects may turn: they are not the frame's, not pinned, younger than the entry (or a comprehension's own) -/
def FpOk (X : Cx) (pins : List (Addr × Obj)) (H : Hp) (b : Addr) : Prop :=
  H b = none ∧ b ≠ X.env.locals ∧ b ∉ X.fs ∧ (b ∈ X.ex ∨ X.s₀.heap.objs.size ≤ b) ∧ (∀ x c, X.env.cells.lookup x = some c → c ≠ b) ∧ ∀ p ∈ X.pn ++ pins, p.1 ≠ b
theorem Inv.fpOk {X : Cx} {pins : List (Addr × Obj)} {σ : St} {H H' : Hp} {s : Shared} {b : Addr} (I : Inv X pins σ H s) (hb : s.heap.objs.size ≤ b) (hn : H' b = none) : FpOk X pins H' b := by
  refine ⟨hn, Nat.ne_of_gt (Nat.lt_of_lt_of_le I.lt hb), I.nofs hb, .inr (Nat.le_trans I.sz hb), fun x c e z => ?_, fun p hp z => ?_⟩
  · obtain ⟨v, q⟩ := I.cell x c e
    exact absurd (Nat.lt_of_lt_of_le q.lt (by rw [z]; exact hb)) (Nat.lt_irrefl _)
  · exact absurd (Nat.lt_of_lt_of_le (Heap.lt_size (I.pin p hp).1) (by rw [z]; exact hb)) (Nat.lt_irrefl _)
structure Turn (P : Program) (w : World) (K : PySem.W.Frag) (tg : Expr) (J : It) (fp : List Addr) (it : Addr) (tn : Nat → Heap → Prop) : Prop where
  mem : it ∈ fp
  obj : ∀ i h, tn i h → ∀ b ∈ fp, ∃ o, h.get? b = some o ∧ ∀ v, o.data ≠ .cell v
  keep : ∀ i h h', tn i h → (∀ b ∈ fp, ∀ o, h.get? b = some o → h'.get? b = some o) → tn i h'
  item : ∀ (X : Cx), X.prog = P → X.w = w → X.K = K → X.calm = true → ∀ (i : Nat) (pins : List (Addr × Obj)) (s : Shared) (σ : St) (H : Hp) (E : Value → Shared → Prop), Inv X pins σ H s → (∀ b ∈ fp, FpOk X pins H b) → tn i s.heap → J.go i H →
    wpAny (model P w) X.A (pyNext (.ref it)) (fun r s1 => ∃ u, r = some u ∧
      wpAny (model P w) X.A (letOwnedTupleGo tg (.ref it) u) (fun _ s2 => ∃ x H', Inv X pins σ H' s2 ∧ RelV x u ∧ J.yld i H x H' ∧ tn (i + 1) s2.heap ∧ ∀ b ∈ fp, H' b = none) E s1) E s
  done : ∀ (X : Cx), X.prog = P → X.w = w → X.K = K → X.calm = true → ∀ (i : Nat) (pins : List (Addr × Obj)) (s : Shared) (σ : St) (H : Hp) (E : Value → Shared → Prop), Inv X pins σ H s → (∀ b ∈ fp, FpOk X pins H b) → tn i s.heap → J.stop i H →
    wpAny (model P w) X.A (pyNext (.ref it)) (fun r s1 => r = none ∧ Inv X pins σ H s1) E s
  self : ∀ (A : Around) (i : Nat) (s : Shared) (Q : Value → Shared → Prop) (E : Value → Shared → Prop), tn i s.heap → Q (.ref it) s → wpAny (model P w) A (pyIter (.ref it)) Q E s
abbrev TI := St → Hp → (It → Hp → Prop) → Prop
/-- an iterator has come -/
def PIE (X : Cx) (pins : List (Addr × Obj)) (σ : St) (tg : Expr) (R : It → Hp → Prop) (itv : Value) (s2 : Shared) : Prop :=
  ∃ (it : Addr) (fp : List Addr) (tn : Nat → Heap → Prop) (J : It) (H' : Hp), itv = .ref it ∧ Inv X pins σ H' s2 ∧ Turn X.prog X.w X.K tg J fp it tn ∧ tn 0 s2.heap ∧ (∀ b ∈ fp, FpOk X pins H' b) ∧ R J H'
def PI (X : Cx) (tg iter : Expr) (wi : TI) : Prop :=
  ∀ (pins : List (Addr × Obj)) (s : Shared) (σ : St) (H : Hp) (R : It → Hp → Prop), Inv X pins σ H s → wi σ H R →
    wpAny (model X.prog X.w) X.A (eval iter X.env) (fun v s1 => wpAny (model X.prog X.w) X.A (pyIter v) (PIE X pins σ tg R) X.xe s1) X.xe s

/-- the step ahead of the store is nothing for an iterator that keeps no tuple -/
theorem go_of {M : Model} {A : Around} {E : Value → Shared → Prop} {s : Shared} {tg : Expr} {it : Addr} {u : Value} {o : Obj} {n : String} {vs : Array Value} {Q : Unit → Shared → Prop} (ho : s.heap.get? it = some o) (hc : o.cls = .type n) (hd : o.data = .fields vs)
    (hn : ["enumerate", "zip", "dict_itemiterator", "dict_reverseitemiterator", "odict_iterator", "itertools.zip_longest", "itertools.pairwise"].contains n = false) (hQ : Q () s) : wpAny M A (letOwnedTupleGo tg (.ref it) u) Q E s := by
  unfold letOwnedTupleGo
  cases tg <;> first
    | exact wpAny_pure hQ
    | (cases u <;> first
        | exact wpAny_pure hQ
        | (refine wpAny_bind (wpAny_load ho ?_)
           rw [hc, hd]
           show wpAny M A (if (["enumerate", "zip", "dict_itemiterator", "dict_reverseitemiterator", "odict_iterator", "itertools.zip_longest", "itertools.pairwise"].contains n && vs[0]? == some (rawInt _)) = true then _ else _) Q E s
           rw [if_neg (by intro h; rw [hn, Bool.false_and] at h; cases h)]
           exact wpAny_pure hQ))

/-- the list at a, as it stands at each turn (a loop may append to it) -/
def Itl (K : PySem.W.Frag) (a : Addr) : It :=
  ⟨fun i H => ∃ xs x, SqL K H a xs ∧ xs[i]? = some x, fun i H x H' => H' = H ∧ ∀ xs, SqL K H a xs → xs[i]? = some x, fun i H => ∃ xs, SqL K H a xs ∧ xs.length ≤ i⟩
def Itt (K : PySem.W.Frag) (a : Addr) : It :=
  ⟨fun i H => ∃ xs x, SqT K H a xs ∧ xs[i]? = some x, fun i H x H' => H' = H ∧ ∀ xs, SqT K H a xs → xs[i]? = some x, fun i H => ∃ xs, SqT K H a xs ∧ xs.length ≤ i⟩
/-- lo, lo + 1, .. (n of them) -/
def Itr (lo : Int) (n : Nat) : It := ⟨fun i _ => i < n, fun i H x H' => H' = H ∧ x = .int (lo + i), fun i _ => n ≤ i⟩
theorem turn_list {P : Program} {w : World} {K : PySem.W.Frag} {tg : Expr} (a it : Addr) : Turn P w K tg (Itl K a) [it] it (fun i h => h.IsListIter it a i) where
  mem := by simp
  obj := fun i h st b hb => by
    have e : b = it := by simpa using hb
    subst e
    obtain ⟨o, e, c, d⟩ := st
    exact ⟨o, e, fun v z => by rw [d] at z; cases z⟩
  keep := fun i h h' st k => st.at fun o e => k it (by simp) o e
  item := by
    intro X hP hw hK hc i pins s σ H E I hf st hg
    subst hP hw hK
    obtain ⟨xs, x, hq, hx⟩ := hg
    obtain ⟨its, rv, p, hz⟩ := I.list hq
    obtain ⟨u, hu, ru⟩ := rv.get hx
    obtain ⟨f0, f1, f2, f3, f4, f5⟩ := hf it (by simp)
    refine wpAny_pyNext_list_item st p.isList (x := u) (by simpa using hu) fun h' st' sb => ?_
    have I1 : Inv X pins σ H { s with heap := h' } := I.turned (t' := s.toks) (fun b o hb e => (sb.2 b hb).trans e) f0 f1 f3 f4 f5
    obtain ⟨o, e, c, d⟩ := id st'
    exact ⟨u, rfl, go_of (s := { s with heap := h' }) e c d (by decide) ⟨x, H, I1, ru, ⟨rfl, fun ys hy => by rw [I.list_inj hy hq]; exact hx⟩, st', fun b hb => (hf b hb).1⟩⟩
  done := by
    intro X hP hw hK hc i pins s σ H E I hf st hg
    subst hP hw hK
    obtain ⟨xs, hq, hx⟩ := hg
    obtain ⟨its, rv, p, hz⟩ := I.list hq
    obtain ⟨f0, f1, f2, f3, f4, f5⟩ := hf it (by simp)
    have hl := rv.length
    exact wpAny_pyNext_list_end (I.ok.hd hc) st p.isList (by simp; omega) fun h' eb => ⟨rfl, I.turned (t' := s.toks) (fun b o hb e => eb b o hb e) f0 f1 f3 f4 f5⟩
  self := fun _ _ _ _ _ st h => wpAny_pyIter_listiter st h
theorem turn_tuple {P : Program} {w : World} {K : PySem.W.Frag} {tg : Expr} (a it : Addr) : Turn P w K tg (Itt K a) [it] it (fun i h => h.IsTupleIter it a i) where
  mem := by simp
  obj := fun i h st b hb => by
    have e : b = it := by simpa using hb
    subst e
    obtain ⟨o, e, c, d⟩ := st
    exact ⟨o, e, fun v z => by rw [d] at z; cases z⟩
  keep := fun i h h' st k => st.at fun o e => k it (by simp) o e
  item := by
    intro X hP hw hK hc i pins s σ H E I hf st hg
    subst hP hw hK
    obtain ⟨xs, x, hq, hx⟩ := hg
    obtain ⟨its, rv, p, hz⟩ := I.tuple hq
    obtain ⟨u, hu, ru⟩ := rv.get hx
    obtain ⟨f0, f1, f2, f3, f4, f5⟩ := hf it (by simp)
    refine wpAny_pyNext_tuple_item st (show s.heap.IsTuple a its.toArray from p) (x := u) (by simpa using hu) fun h' st' sb => ?_
    have I1 : Inv X pins σ H { s with heap := h' } := I.turned (t' := s.toks) (fun b o hb e => (sb.2 b hb).trans e) f0 f1 f3 f4 f5
    obtain ⟨o, e, c, d⟩ := id st'
    exact ⟨u, rfl, go_of (s := { s with heap := h' }) e c d (by decide) ⟨x, H, I1, ru, ⟨rfl, fun ys hy => by rw [I.tuple_inj hy hq]; exact hx⟩, st', fun b hb => (hf b hb).1⟩⟩
  done := by
    intro X hP hw hK hc i pins s σ H E I hf st hg
    subst hP hw hK
    obtain ⟨xs, hq, hx⟩ := hg
    obtain ⟨its, rv, p, hz⟩ := I.tuple hq
    obtain ⟨f0, f1, f2, f3, f4, f5⟩ := hf it (by simp)
    have hl := rv.length
    exact wpAny_pyNext_tuple_end (I.ok.hd hc) st (show s.heap.IsTuple a its.toArray from p) (by simp; omega) fun h' eb => ⟨rfl, I.turned (t' := s.toks) (fun b o hb e => eb b o hb e) f0 f1 f3 f4 f5⟩
  self := fun _ _ _ _ _ st h => wpAny_pyIter_tupleiter st h
theorem turn_range {P : Program} {w : World} {K : PySem.W.Frag} {tg : Expr} (it : Addr) (lo : Int) (n : Nat) : Turn P w K tg (Itr lo n) [it] it (fun i h => IsRangeIter h it (lo + (i : Nat) * 1) ((n : Int) - (i : Nat)) 1) where
  mem := by simp
  obj := fun i h st b hb => by
    have e : b = it := by simpa using hb
    subst e
    exact ⟨_, st, fun v z => by
      have z' : Data.fields _ = Data.cell v := z
      cases z'⟩
  keep := fun i h h' st k => k it (by simp) _ st
  item := by
    intro X hP hw hK hc i pins s σ H E I hf st hg
    subst hP hw hK
    obtain ⟨f0, f1, f2, f3, f4, f5⟩ := hf it (by simp)
    have W := Walks.range (prog := X.prog) (w := X.w) (I.ok.hd hc) it lo 1 n
    refine W.item i s _ _ hg st fun v h' tk hv st' kk => ?_
    obtain ⟨t, rfl⟩ := hv
    have I1 : Inv X pins σ H { s with heap := h', toks := tk } := I.turned (fun b o hb e => kk b o (by simpa using hb) e) f0 f1 f3 f4 f5
    refine ⟨_, rfl, go_of (s := { s with heap := h', toks := tk }) (n := "range_iterator") st' rfl rfl (by decide) ⟨.int (lo + i), H, I1, ⟨t, ?_⟩, ⟨rfl, rfl⟩, st', fun b hb => (hf b hb).1⟩⟩
    rw [Int.mul_one]
  done := by
    intro X hP hw hK hc i pins s σ H E I hf st hg
    subst hP hw hK
    obtain ⟨f0, f1, f2, f3, f4, f5⟩ := hf it (by simp)
    exact wpAny_pyNext_range_end (I.ok.hd hc) st (by have : n ≤ i := hg; omega) fun h' eb => ⟨rfl, I.turned (t' := s.toks) (fun b o hb e => eb b o hb e) f0 f1 f3 f4 f5⟩
  self := fun _ _ _ _ _ st h => wpAny_pyIter_rangeiter st h
end L2

namespace L2
open PySem PySem.Spec PyProof.Rows
section
variable {X : Cx} {tg : Expr}
def iList (K : PySem.W.Frag) (tl : TE) : TI := fun σ H R => tl σ H fun x H1 => ∃ a, x = .ref a ∧ (∃ xs, SqL K H1 a xs) ∧ R (Itl K a) H1
def iTup (K : PySem.W.Frag) (tl : TE) : TI := fun σ H R => tl σ H fun x H1 => ∃ a, x = .ref a ∧ (∃ xs, SqT K H1 a xs) ∧ R (Itt K a) H1
theorem pi_list {l : Expr} {tl : TE} (hl : PE X l tl) : PI X tg l (iList X.K tl) := by
  intro pins s σ H R I h
  refine thn (hl pins s σ H _ I h) fun v s1 ⟨x, H1, I1, r1, q1⟩ => ?_
  obtain ⟨a, e, ⟨xs, hq⟩, q⟩ := q1
  subst e
  cases r1
  obtain ⟨its, rv, p, hz⟩ := I1.list hq
  refine wpAny_pyIter_list p.isList ?_
  refine ⟨s1.heap.objs.size, [s1.heap.objs.size], _, _, H1, rfl, I1.kept (t' := s1.toks) fun b o e => Heap.get?_push_of_some _ e, turn_list a _, ⟨_, Heap.get?_push_size _ rfl, rfl, rfl⟩, fun b hb => ?_, q⟩
  have e : b = s1.heap.objs.size := by simpa using hb
  subst e
  exact I1.fpOk (Nat.le_refl _) (I1.hok.fresh (Nat.le_refl _))
theorem pi_tup {l : Expr} {tl : TE} (hl : PE X l tl) : PI X tg l (iTup X.K tl) := by
  intro pins s σ H R I h
  refine thn (hl pins s σ H _ I h) fun v s1 ⟨x, H1, I1, r1, q1⟩ => ?_
  obtain ⟨a, e, ⟨xs, hq⟩, q⟩ := q1
  subst e
  cases r1
  obtain ⟨its, rv, p, hz⟩ := I1.tuple hq
  refine wpAny_pyIter_tuple (show s1.heap.IsTuple a its.toArray from p) ?_
  refine ⟨s1.heap.objs.size, [s1.heap.objs.size], _, _, H1, rfl, I1.kept (t' := s1.toks) fun b o e => Heap.get?_push_of_some _ e, turn_tuple a _, ⟨_, Heap.get?_push_size _ rfl, rfl, rfl⟩, fun b hb => ?_, q⟩
  have e : b = s1.heap.objs.size := by simpa using hb
  subst e
  exact I1.fpOk (Nat.le_refl _) (I1.hok.fresh (Nat.le_refl _))
/-- a range object just made, walked -/
theorem range_it {pins : List (Addr × Obj)} {σ : St} {H : Hp} {s : Shared} {R : It → Hp → Prop} {E : Value → Shared → Prop} {lo hi : Int} {t u v : Tok} {tk : Nat} (I : Inv X pins σ H s) (h1 : -(2 ^ 62) ≤ lo) (h2 : lo < 2 ^ 62) (h3 : -(2 ^ 62) ≤ hi) (h4 : hi < 2 ^ 62)
    (q : R (Itr lo (hi - lo).toNat) H) : wpAny (model X.prog X.w) X.A (pyIter (.ref s.heap.objs.size)) (PIE X pins σ tg R) E { s with heap := s.heap.push { cls := .type "range", data := .fields #[.int lo t, .int hi u, .int 1 v] }, toks := tk } := by
  refine wpAny_pyIter_range (IsRange.new ..) (small_one h1 h2 h3 h4) ?_
  have I1 : Inv X pins σ H { s with heap := s.heap.push { cls := .type "range", data := .fields #[.int lo t, .int hi u, .int 1 v] }, toks := tk } := I.kept fun b o e => Heap.get?_push_of_some _ e
  refine ⟨(s.heap.push { cls := .type "range", data := .fields #[.int lo t, .int hi u, .int 1 v] }).objs.size, [(s.heap.push { cls := .type "range", data := .fields #[.int lo t, .int hi u, .int 1 v] }).objs.size], _, _, H, rfl,
    I1.kept (t' := tk) fun b o e => Heap.get?_push_of_some _ e, turn_range _ lo (hi - lo).toNat, ?_, fun b hb => ?_, q⟩
  · have e1 : lo + ((0 : Nat) : Int) * 1 = lo := by simp
    have e2 : (((hi - lo).toNat : Nat) : Int) - ((0 : Nat) : Int) = Builtin.Range.rangeSize lo hi 1 := by rw [rangeSize_one]; split <;> omega
    show IsRangeIter _ _ (lo + ((0 : Nat) : Int) * 1) ((((hi - lo).toNat : Nat) : Int) - ((0 : Nat) : Int)) 1
    rw [e1, e2]
    exact Heap.get?_push_size _ rfl
  · have e : b = (s.heap.push { cls := .type "range", data := .fields #[.int lo t, .int hi u, .int 1 v] }).objs.size := by simpa using hb
    subst e
    exact I1.fpOk (Nat.le_refl _) (I1.hok.fresh (Nat.le_refl _))
def iRng1 (ta : TA) : TI := fun σ H R => ta σ H fun vs H1 => ∃ j : Int, vs = [.int j] ∧ -(2 ^ 62) ≤ j ∧ j < 2 ^ 62 ∧ R (Itr 0 j.toNat) H1
def iRng2 (ta : TA) : TI := fun σ H R => ta σ H fun vs H1 => ∃ i j : Int, vs = [.int i, .int j] ∧ (-(2 ^ 62) ≤ i ∧ i < 2 ^ 62 ∧ -(2 ^ 62) ≤ j ∧ j < 2 ^ 62) ∧ R (Itr i (j - i).toNat) H1
theorem pi_range1 {a : Expr} {ta : TA} {p pos : Pos} (hg : Gl X "range") (hm : X.mg "range" = none) (ha : PA X [a] ta) (hs : starEach [a] X.env = [(false, eval a X.env)] := by rfl) : PI X tg (.Call (.Name "range" p) [a] [] pos) (iRng1 ta) := by
  intro pins s σ H R I h
  refine Call_ (ld_blt I hg hm boot_range (PyProof.Rows.callWith_type1 (thn (ha pos pins s σ H _ I h) fun us s1 ⟨vs, H1, I1, r1, q1⟩ => ?_) hs rfl))
  obtain ⟨j, e, q1, q2, q⟩ := q1
  subst e
  cases r1 with
  | cons r rr =>
    cases rr
    obtain ⟨t, rfl⟩ := r
    exact call_range_1 (range_it I1 (by omega) (by omega) q1 q2 (by simpa using q))
theorem pi_range2 {a b : Expr} {ta : TA} {p pos : Pos} (hg : Gl X "range") (hm : X.mg "range" = none) (ha : PA X [a, b] ta) (hs : starEach [a, b] X.env = [(false, eval a X.env), (false, eval b X.env)] := by rfl) (hs2 : starEach [b] X.env = [(false, eval b X.env)] := by rfl) :
    PI X tg (.Call (.Name "range" p) [a, b] [] pos) (iRng2 ta) := by
  intro pins s σ H R I h
  refine Call_ (ld_blt I hg hm boot_range (PyProof.Rows.callWith_type1 (thn (ha pos pins s σ H _ I h) fun us s1 ⟨vs, H1, I1, r1, q1⟩ => ?_) (by rw [hs, hs2]) (by rw [hs2]; rfl)))
  obtain ⟨i, j, e, ⟨q1, q2, q3, q4⟩, q⟩ := q1
  subst e
  cases r1 with
  | cons r rr =>
    cases rr with
    | cons r' rr =>
      cases rr
      obtain ⟨t, rfl⟩ := r
      obtain ⟨t', rfl⟩ := r'
      exact call_range_2 (range_it I1 q1 q2 q3 q4 q)

/-! ### for -/
/-- W: the invariant by the turn and a measure; N: what the body is to reach -/
def tFor (wi : TI) (g : TG) (tb : TS) : TS := fun D σ H => wi σ H fun J H1 => ∃ W : Nat → Nat → St → Hp → Prop, (∃ m, W 0 m σ H1) ∧ ∀ i m σ H, W i m σ H →
  (J.stop i H ∧ D.nx σ H) ∨ (J.go i H ∧ ∃ N : St → Hp → Prop, (∀ σ' H', N σ' H' → ∃ m', m' < m ∧ W (i + 1) m' σ' H') ∧ ∀ x H', J.yld i H x H' → g x σ H' fun σ2 H2 => tb { D with nx := N, ct := N, bk := D.nx } σ2 H2)
/-- the records at fp as they stand -/
def pinsAt (fp : List Addr) (h : Heap) : List (Addr × Obj) := fp.filterMap fun b => (h.get? b).map fun o => (b, o)
theorem mem_pinsAt {fp : List Addr} {h : Heap} {b : Addr} {o : Obj} (hb : b ∈ fp) (e : h.get? b = some o) : (b, o) ∈ pinsAt fp h := List.mem_filterMap.mpr ⟨b, hb, by rw [e]; rfl⟩
theorem of_pinsAt {fp : List Addr} {h : Heap} {p : Addr × Obj} (hp : p ∈ pinsAt fp h) : p.1 ∈ fp ∧ h.get? p.1 = some p.2 := by
  obtain ⟨b, hb, e⟩ := List.mem_filterMap.mp hp
  cases q : h.get? b with
  | none => rw [q] at e; cases e
  | some o =>
    rw [q] at e
    have e' : (b, o) = p := Option.some.inj e
    subst e'
    exact ⟨hb, q⟩
theorem Inv.pinned {pins : List (Addr × Obj)} {σ : St} {H : Hp} {s : Shared} {fp : List Addr} (I : Inv X pins σ H s) (hf : ∀ b ∈ fp, FpOk X pins H b) (ho : ∀ b ∈ fp, ∃ o, s.heap.get? b = some o ∧ ∀ v, o.data ≠ .cell v) : Inv X (pins ++ pinsAt fp s.heap) σ H s :=
  I.pins_of fun p hp => (List.mem_append.mp hp).elim (fun z => I.pin p (List.mem_append_right _ z)) fun z => by
    obtain ⟨hb, e⟩ := of_pinsAt z
    obtain ⟨f0, f1, f2, _⟩ := hf p.1 hb
    obtain ⟨o, e', d⟩ := ho p.1 hb
    rw [e] at e'; cases e'
    exact ⟨e, f0, f1, f2, d⟩
theorem Inv.unpinned {pins pl : List (Addr × Obj)} {σ : St} {H : Hp} {s : Shared} (I : Inv X (pins ++ pl) σ H s) : Inv X pins σ H s := I.pins_of fun p hp => I.pin p (List.mem_append_right _ (List.mem_append_left _ hp))
theorem ps_for {iter : Expr} {body : List Stmt} {wi : TI} {g : TG} {tb : TS} {pos : Pos} (hp : PassesOwn (model X.prog X.w) X.A X.env X.xe) (hc : X.calm = true) (hi : PI X tg iter wi) (hg : PG X tg g) (hb : PSs X body tb)
    (hs : ∀ x, foldedSetIterable iter X.env x = pure x := by intro _; rfl) : PS X (.For tg iter body [] pos) (tFor wi g tb) := by
  intro pins s σ H D I h
  refine wpAny_For (thn (hi pins s σ H _ I h) fun v s1 h1 => thn h1 fun itv s2 h2 => ?_) hs
  obtain ⟨it, fp, tn, J, H2, e, I2, T, st2, f2, W, ⟨m0, w0⟩, turn⟩ := h2
  subst e
  -- what stays true of the iterator's objects through the loop
  have stat : ∀ {H' : Hp}, (∀ b ∈ fp, H' b = none) → ∀ b ∈ fp, FpOk X pins H' b := fun hn b hb => ⟨hn b hb, (f2 b hb).2⟩
  refine codeAny_forLoop_any (fun n s' => ∃ i σ' H', Inv X pins σ' H' s' ∧ tn i s'.heap ∧ (∀ b ∈ fp, H' b = none) ∧ W i n σ' H') ?_ m0 ⟨0, σ, H2, I2, st2, fun b hb => (f2 b hb).1, w0⟩
  rintro n s3 ⟨i, σ3, H3, I3, st3, fr3, w3⟩
  rcases turn i n σ3 H3 w3 with ⟨stop, qn⟩ | ⟨go, N, hN, step⟩
  · refine wpAny_passesOwn hp (thn (T.done X rfl rfl rfl hc i pins s3 σ3 H3 X.xe I3 (stat fr3) st3 stop) fun r s4 ⟨hr, I4⟩ => ?_)
    subst hr
    exact wpAny_execs_nil ⟨σ3, H3, I4, qn⟩
  · refine wpAny_passesOwn hp (thn (T.item X rfl rfl rfl hc i pins s3 σ3 H3 X.xe I3 (stat fr3) st3 go) fun r s4 ⟨u, hr, h4⟩ => ?_)
    subst hr
    refine wpAny_passesOwn hp (thn h4 fun _ s5 ⟨x, H5, I5, r5, y5, st5, fr5⟩ => ?_)
    have I5' := I5.pinned (stat fr5) (T.obj _ _ st5)
    refine wpAny_passesOwn hp (thn (hg _ s5 σ3 H5 x u _ I5' r5 (step x H5 y5)) fun _ s6 ⟨σ6, H6, I6, q6⟩ => ?_)
    refine wpAny_passesOwn hp (thn (hb _ s6 σ6 H6 _ I6 q6) fun f s7 q7 => ?_)
    have again : ∀ {σ7 : St} {H7 : Hp}, Inv X (pins ++ pinsAt fp s5.heap) σ7 H7 s7 → N σ7 H7 → ∃ m, m < n ∧ ∃ i σ' H', Inv X pins σ' H' s7 ∧ tn i s7.heap ∧ (∀ b ∈ fp, H' b = none) ∧ W i m σ' H' := fun {σ7 H7} I7 n7 => by
      obtain ⟨m', hm, w7⟩ := hN σ7 H7 n7
      refine ⟨m', hm, i + 1, σ7, H7, I7.unpinned, T.keep _ _ _ st5 fun b hb o e => (I7.pin (b, o) (List.mem_append_right _ (List.mem_append_right _ (mem_pinsAt hb e)))).1, fun b hb => ?_, w7⟩
      obtain ⟨o, e, d⟩ := T.obj _ _ st5 b hb
      exact (I7.pin (b, o) (List.mem_append_right _ (List.mem_append_right _ (mem_pinsAt hb e)))).2.1
    cases f with
    | next => obtain ⟨σ7, H7, I7, n7⟩ := q7; exact again I7 n7
    | cont => obtain ⟨σ7, H7, I7, n7⟩ := q7; exact again I7 n7
    | brk => obtain ⟨σ7, H7, I7, q7⟩ := q7; exact ⟨σ7, H7, I7.unpinned, q7⟩
    | ret v => obtain ⟨x7, σ7, H7, I7, r7, q7⟩ := q7; exact ⟨x7, σ7, H7, I7.unpinned, r7, q7⟩
end

/-! ### the forms one uses -/
/-- over a list that the body leaves as it is -/
theorem for_list {K : PySem.W.Frag} {a : Addr} {xs : List V} {g : TG} {tb : TS} {D : Ends} {σ : St} {H : Hp} (Pv : Nat → St → Hp → Prop) (h0 : Pv 0 σ H) (hl : ∀ i σ H, i ≤ xs.length → Pv i σ H → SqL K H a xs)
    (hs : ∀ i x σ H, xs[i]? = some x → Pv i σ H → g x σ H fun σ2 H2 => tb { D with nx := Pv (i + 1), ct := Pv (i + 1), bk := D.nx } σ2 H2) (hd : ∀ σ H, Pv xs.length σ H → D.nx σ H) :
    ∃ W : Nat → Nat → St → Hp → Prop, (∃ m, W 0 m σ H) ∧ ∀ i m σ H, W i m σ H →
      ((Itl K a).stop i H ∧ D.nx σ H) ∨ ((Itl K a).go i H ∧ ∃ N : St → Hp → Prop, (∀ σ' H', N σ' H' → ∃ m', m' < m ∧ W (i + 1) m' σ' H') ∧ ∀ x H', (Itl K a).yld i H x H' → g x σ H' fun σ2 H2 => tb { D with nx := N, ct := N, bk := D.nx } σ2 H2) := by
  refine ⟨fun i m σ H => m = xs.length - i ∧ i ≤ xs.length ∧ Pv i σ H, ⟨xs.length, by simp, Nat.zero_le _, h0⟩, ?_⟩
  rintro i m σ H ⟨rfl, hi, p⟩
  have q := hl i σ H hi p
  by_cases hlt : i < xs.length
  · refine .inr ⟨⟨xs, xs[i], q, by simp [hlt]⟩, Pv (i + 1), fun σ' H' p' => ⟨xs.length - (i + 1), by omega, rfl, hlt, p'⟩, fun x H' y => ?_⟩
    obtain ⟨e, y⟩ := y
    subst e
    exact hs i x σ _ (y xs q) p
  · have e : i = xs.length := by omega
    subst e
    exact .inl ⟨⟨xs, q, Nat.le_refl _⟩, hd σ H p⟩
theorem for_tup {K : PySem.W.Frag} {a : Addr} {xs : List V} {g : TG} {tb : TS} {D : Ends} {σ : St} {H : Hp} (Pv : Nat → St → Hp → Prop) (h0 : Pv 0 σ H) (hl : ∀ i σ H, i ≤ xs.length → Pv i σ H → SqT K H a xs)
    (hs : ∀ i x σ H, xs[i]? = some x → Pv i σ H → g x σ H fun σ2 H2 => tb { D with nx := Pv (i + 1), ct := Pv (i + 1), bk := D.nx } σ2 H2) (hd : ∀ σ H, Pv xs.length σ H → D.nx σ H) :
    ∃ W : Nat → Nat → St → Hp → Prop, (∃ m, W 0 m σ H) ∧ ∀ i m σ H, W i m σ H →
      ((Itt K a).stop i H ∧ D.nx σ H) ∨ ((Itt K a).go i H ∧ ∃ N : St → Hp → Prop, (∀ σ' H', N σ' H' → ∃ m', m' < m ∧ W (i + 1) m' σ' H') ∧ ∀ x H', (Itt K a).yld i H x H' → g x σ H' fun σ2 H2 => tb { D with nx := N, ct := N, bk := D.nx } σ2 H2) := by
  refine ⟨fun i m σ H => m = xs.length - i ∧ i ≤ xs.length ∧ Pv i σ H, ⟨xs.length, by simp, Nat.zero_le _, h0⟩, ?_⟩
  rintro i m σ H ⟨rfl, hi, p⟩
  have q := hl i σ H hi p
  by_cases hlt : i < xs.length
  · refine .inr ⟨⟨xs, xs[i], q, by simp [hlt]⟩, Pv (i + 1), fun σ' H' p' => ⟨xs.length - (i + 1), by omega, rfl, hlt, p'⟩, fun x H' y => ?_⟩
    obtain ⟨e, y⟩ := y
    subst e
    exact hs i x σ _ (y xs q) p
  · have e : i = xs.length := by omega
    subst e
    exact .inl ⟨⟨xs, q, Nat.le_refl _⟩, hd σ H p⟩
theorem for_range {lo : Int} {n : Nat} {g : TG} {tb : TS} {D : Ends} {σ : St} {H : Hp} (Pv : Nat → St → Hp → Prop) (h0 : Pv 0 σ H)
    (hs : ∀ i σ H, i < n → Pv i σ H → g (.int (lo + i)) σ H fun σ2 H2 => tb { D with nx := Pv (i + 1), ct := Pv (i + 1), bk := D.nx } σ2 H2) (hd : ∀ σ H, Pv n σ H → D.nx σ H) :
    ∃ W : Nat → Nat → St → Hp → Prop, (∃ m, W 0 m σ H) ∧ ∀ i m σ H, W i m σ H →
      ((Itr lo n).stop i H ∧ D.nx σ H) ∨ ((Itr lo n).go i H ∧ ∃ N : St → Hp → Prop, (∀ σ' H', N σ' H' → ∃ m', m' < m ∧ W (i + 1) m' σ' H') ∧ ∀ x H', (Itr lo n).yld i H x H' → g x σ H' fun σ2 H2 => tb { D with nx := N, ct := N, bk := D.nx } σ2 H2) := by
  refine ⟨fun i m σ H => m = n - i ∧ i ≤ n ∧ Pv i σ H, ⟨n, by simp, Nat.zero_le _, h0⟩, ?_⟩
  rintro i m σ H ⟨rfl, hi, p⟩
  by_cases hlt : i < n
  · refine .inr ⟨hlt, Pv (i + 1), fun σ' H' p' => ⟨n - (i + 1), by omega, rfl, hlt, p'⟩, fun x H' y => ?_⟩
    obtain ⟨e, y⟩ := y
    subst e y
    exact hs i σ _ hlt p
  · have e : i = n := by omega
    subst e
    exact .inl ⟨Nat.le_refl _, hd σ H p⟩
/-- while, by a word and a measure of the state -/
theorem while_by {c : TT} {tb : TS} {D : Ends} {σ : St} {H : Hp} (Pv : St → Hp → Prop) (μ : St → Hp → Nat) (h0 : Pv σ H)
    (hs : ∀ σ H, Pv σ H → c σ H fun b H1 => if b = true then tb { D with nx := fun σ' H' => Pv σ' H' ∧ μ σ' H' < μ σ H, ct := fun σ' H' => Pv σ' H' ∧ μ σ' H' < μ σ H, bk := D.nx } σ H1 else D.nx σ H1)
    (mono : ∀ σ H Q Q', (∀ b H1, Q b H1 → Q' b H1) → c σ H Q → c σ H Q') : tWhile c tb D σ H := by
  refine ⟨fun m σ H => m = μ σ H ∧ Pv σ H, ⟨_, rfl, h0⟩, ?_⟩
  rintro m σ H ⟨rfl, p⟩
  refine mono σ H _ _ (fun b H1 q => ?_) (hs σ H p)
  cases b with
  | true => exact ⟨_, fun σ' H' ⟨p', l⟩ => ⟨_, l, rfl, p'⟩, q⟩
  | false => exact q
end L2

namespace L2
open PySem PySem.Spec PyProof.Rows

abbrev R2 := V → V → Hp → VK → Prop
/-- a two-place operation on values: f is binaryOp op, inplaceOp op or compareOp op -/
def OpR (X : Cx) (f : Value → Value → Sem Value) (r : R2) : Prop :=
  ∀ (pins : List (Addr × Obj)) (s : Shared) (σ : St) (H : Hp) (x y : V) (v u : Value) (Q : VK), Inv X pins σ H s → RelV x v → RelV y u → r x y H Q →
    wpAny (model X.prog X.w) X.A (f v u) (EP X pins σ Q) X.xe s
/-- a one-place operation -/
def UnR (X : Cx) (f : Value → Sem Value) (r : V → Hp → VK → Prop) : Prop :=
  ∀ (pins : List (Addr × Obj)) (s : Shared) (σ : St) (H : Hp) (x : V) (v : Value) (Q : VK), Inv X pins σ H s → RelV x v → r x H Q →
    wpAny (model X.prog X.w) X.A (f v) (EP X pins σ Q) X.xe s
/-- a call of a value that is known (a builtin, a type) with values -/
def CallR (X : Cx) (f : Value) (r : List V → Hp → VK → Prop) : Prop :=
  ∀ (pins : List (Addr × Obj)) (s : Shared) (σ : St) (H : Hp) (xs : List V) (us : List Value) (Q : VK), Inv X pins σ H s → Vals xs us → r xs H Q →
    wpAny (model X.prog X.w) X.A (call f us) (EP X pins σ Q) X.xe s
/-- a value's truth -/
def TruR (X : Cx) (r : V → Hp → (Bool → Hp → Prop) → Prop) : Prop :=
  ∀ (pins : List (Addr × Obj)) (s : Shared) (σ : St) (H : Hp) (x : V) (v : Value) (Q : Bool → Hp → Prop), Inv X pins σ H s → RelV x v → r x H Q →
    wpAny (model X.prog X.w) X.A (truthy v) (TP X pins σ Q) X.xe s

def tOp (r : R2) (ta tb : TE) : TE := fun σ H Q => ta σ H fun x H1 => tb σ H1 fun y H2 => r x y H2 Q
def tUn (r : V → Hp → VK → Prop) (ta : TE) : TE := fun σ H Q => ta σ H fun x H1 => r x H1 Q
/-- ints in, under C, and a value out -/
def rI (C : Int → Int → Prop) (g : Int → Int → V) : R2 := fun x y H Q => ∃ i j, x = .int i ∧ y = .int j ∧ C i j ∧ Q (g i j) H
def rI0 (g : Int → Int → V) : R2 := fun x y H Q => ∃ i j, x = .int i ∧ y = .int j ∧ Q (g i j) H
def rU (g : Int → V) : V → Hp → VK → Prop := fun x H Q => ∃ i, x = .int i ∧ Q (g i) H

section
variable {X : Cx} {a b c : Expr} {ta tb tc : TE} {pos : Pos}

theorem binT (ha : PE X a ta) (hb : PE X b tb) {pins : List (Addr × Obj)} {s : Shared} {σ : St} {H : Hp} {R : V → V → Hp → Prop} (I : Inv X pins σ H s)
    (h : ta σ H fun x H1 => tb σ H1 fun y H2 => R x y H2) {Q : Value → Shared → Prop} {f : Value → Value → Sem Value}
    (hf : ∀ v u s2 x y H2, Inv X pins σ H2 s2 → RelV x v → RelV y u → R x y H2 → wpAny (model X.prog X.w) X.A (f v u) Q X.xe s2) :
    wpAny (model X.prog X.w) X.A (eval a X.env) (fun v s₁ => wpAny (model X.prog X.w) X.A (eval b X.env) (fun u s₂ => wpAny (model X.prog X.w) X.A (f v u) Q X.xe s₂) X.xe s₁) X.xe s := by
  refine thn (ha pins s σ H _ I h) fun v s1 ⟨x, H1, I1, r1, q1⟩ => ?_
  refine thn (hb pins s1 σ H1 _ I1 q1) fun u s2 ⟨y, H2, I2, r2, q2⟩ => ?_
  exact hf v u s2 x y H2 I2 r1 r2 q2

theorem pe_op {op : Operator} {r : R2} (ho : OpR X (binaryOp op) r) (ha : PE X a ta) (hb : PE X b tb) : PE X (.BinOp a op b pos) (tOp r ta tb) := by
  intro pins s σ H Q I h
  exact wpAny_BinOp (binT ha hb I h fun v u s2 x y H2 I2 rx ry q => ho pins s2 σ H2 x y v u Q I2 rx ry q)
theorem pe_un {op : UnaryOp} {r : V → Hp → VK → Prop} (ho : UnR X (unaryOp op) r) (ha : PE X a ta) : PE X (.UnaryOp op a pos) (tUn r ta) := by
  intro pins s σ H Q I h
  exact UnaryOp_ (thn (ha pins s σ H _ I h) fun v s1 ⟨x, H1, I1, r1, q1⟩ => ho pins s1 σ H1 x v Q I1 r1 q1)
/-- a op= e at a name: the name's slot i -/
theorem augR {op : Operator} {r : R2} (ho : OpR X (inplaceOp op) r) {pins : List (Addr × Obj)} {s : Shared} {σ : St} {H : Hp} {x y : V} {v u : Value} {Q : VK} (I : Inv X pins σ H s)
    (rx : RelV x v) (ry : RelV y u) (q : r x y H Q) : wpAny (model X.prog X.w) X.A (inplaceOp op v u) (EP X pins σ Q) X.xe s := ho pins s σ H x y v u Q I rx ry q

/-! ### ints -/
theorem opI {f : Value → Value → Sem Value} {C : Int → Int → Prop} {g : Int → Int → Int}
    (rule : ∀ (i j : Int) (t u : Tok) (s : Shared) (Q : Value → Shared → Prop) (E : Value → Shared → Prop), C i j → Q (.int (g i j) s.toks) { s with toks := s.toks + 1 } → wpAny (model X.prog X.w) X.A (f (.int i t) (.int j u)) Q E s) :
    OpR X f (rI C fun i j => .int (g i j)) := by
  intro pins s σ H x y v u Q I rx ry h
  obtain ⟨i, j, rfl, rfl, hc, q⟩ := h
  obtain ⟨t, rfl⟩ := rx
  obtain ⟨t', rfl⟩ := ry
  exact rule i j t t' s _ _ hc ⟨.int (g i j), H, I.tok _, ⟨_, rfl⟩, q⟩
theorem opI0 {f : Value → Value → Sem Value} {g : Int → Int → Int}
    (rule : ∀ (i j : Int) (t u : Tok) (s : Shared) (Q : Value → Shared → Prop) (E : Value → Shared → Prop), Q (.int (g i j) s.toks) { s with toks := s.toks + 1 } → wpAny (model X.prog X.w) X.A (f (.int i t) (.int j u)) Q E s) :
    OpR X f (rI0 fun i j => .int (g i j)) := by
  intro pins s σ H x y v u Q I rx ry h
  obtain ⟨i, j, rfl, rfl, q⟩ := h
  obtain ⟨t, rfl⟩ := rx
  obtain ⟨t', rfl⟩ := ry
  exact rule i j t t' s _ _ ⟨.int (g i j), H, I.tok _, ⟨_, rfl⟩, q⟩
theorem opB0 {f : Value → Value → Sem Value} {g : Int → Int → Bool}
    (rule : ∀ (i j : Int) (t u : Tok) (s : Shared) (Q : Value → Shared → Prop) (E : Value → Shared → Prop), Q (.bool (g i j)) s → wpAny (model X.prog X.w) X.A (f (.int i t) (.int j u)) Q E s) :
    OpR X f (rI0 fun i j => .bl (g i j)) := by
  intro pins s σ H x y v u Q I rx ry h
  obtain ⟨i, j, rfl, rfl, q⟩ := h
  obtain ⟨t, rfl⟩ := rx
  obtain ⟨t', rfl⟩ := ry
  exact rule i j t t' s _ _ ⟨.bl (g i j), H, I, rfl, q⟩

def CDiv (i j : Int) : Prop := 0 < j ∧ j < 1073741824
def CDivN (i j : Int) : Prop := j ≠ 0 ∧ j.natAbs < 1073741824
def CPow (i j : Int) : Prop := 0 ≤ j ∧ j ≤ 1000000 ∧ i.natAbs < 2 ^ 64
def CMul (i j : Int) : Prop := (-(2 ^ 64) < i ∧ i < 2 ^ 64) ∨ (-(2 ^ 64) < j ∧ j < 2 ^ 64)
theorem CMul.ok {i j : Int} (h : CMul i j) : IntMulOk i j := by
  rcases h with ⟨h1, h2⟩ | ⟨h1, h2⟩
  · exact .of_left (intBits_le_64 h1 h2)
  · exact .of_right (intBits_le_64 h1 h2)
theorem two_pow_nn (k : Nat) : (0 : Int) ≤ 2 ^ k := by
  rw [two_pow_cast]
  exact Int.natCast_nonneg _

theorem op_add : OpR X (binaryOp .Add) (rI0 fun i j => .int (i + j)) := opI0 fun _ _ _ _ _ _ _ q => add_int q
theorem op_sub : OpR X (binaryOp .Sub) (rI0 fun i j => .int (i - j)) := opI0 fun _ _ _ _ _ _ _ q => sub_int q
theorem op_mul : OpR X (binaryOp .Mult) (rI CMul fun i j => .int (i * j)) := opI fun _ _ _ _ _ _ _ hc q => mul_int q hc.ok
/-- // by a positive divisor -/
theorem op_fdiv : OpR X (binaryOp .FloorDiv) (rI CDiv fun i j => .int (i / j)) := opI fun i j _ _ _ _ _ hc q => by
  have h1 : (0 : Int) < j := hc.1
  have h2 : j < 1073741824 := hc.2
  exact floordiv_int (by omega) (by rw [Int.fdiv_eq_ediv_of_nonneg i (by omega)]; exact q) (.inl (PyProof.noPylong_small (by omega)))
theorem op_fdivN : OpR X (binaryOp .FloorDiv) (rI CDivN fun i j => .int (i.fdiv j)) := opI fun _ _ _ _ _ _ _ hc q => floordiv_int hc.1 q (.inl (PyProof.noPylong_small hc.2))
/-- % by a positive divisor of any size -/
theorem op_mod : OpR X (binaryOp .Mod) (rI (fun _ j => 0 < j) fun i j => .int (i % j)) := opI fun i j _ _ _ _ _ hc q => by
  have h1 : (0 : Int) < j := hc
  exact mod_int' (by omega) (by rw [Int.fmod_eq_emod_of_nonneg i (by omega)]; exact q)
theorem op_modN : OpR X (binaryOp .Mod) (rI (fun _ j => j ≠ 0) fun i j => .int (i.fmod j)) := opI fun _ _ _ _ _ _ _ hc q => mod_int' hc q
theorem op_pow : OpR X (binaryOp .Pow) (rI CPow fun i j => .int (i ^ j.toNat)) := opI fun _ _ _ _ _ _ _ hc q => pow_int_small hc.1 hc.2.1 hc.2.2 q
theorem op_shl : OpR X (binaryOp .LShift) (rI CPow fun i j => .int (i * 2 ^ j.toNat)) := opI fun _ _ _ _ _ _ _ hc q => lshift_int_small hc.1 hc.2.1 hc.2.2 q
theorem op_shr : OpR X (binaryOp .RShift) (rI (fun _ j => 0 ≤ j) fun i j => .int (i / 2 ^ j.toNat)) := opI fun i j _ _ _ _ _ hc q =>
  rshift_int hc (by rw [Int.fdiv_eq_ediv_of_nonneg i (two_pow_nn _)]; exact q)
theorem op_and : OpR X (binaryOp .BitAnd) (rI0 fun i j => .int (Builtin.bitAnd i j)) := opI0 fun _ _ _ _ _ _ _ q => and_int q
theorem op_or : OpR X (binaryOp .BitOr) (rI0 fun i j => .int (Builtin.bitOr i j)) := opI0 fun _ _ _ _ _ _ _ q => or_int q
theorem op_xor : OpR X (binaryOp .BitXor) (rI0 fun i j => .int (Builtin.bitXor i j)) := opI0 fun _ _ _ _ _ _ _ q => xor_int q

theorem iop_add : OpR X (inplaceOp .Add) (rI0 fun i j => .int (i + j)) := opI0 fun _ _ _ _ _ _ _ q => iadd_int q
theorem iop_sub : OpR X (inplaceOp .Sub) (rI0 fun i j => .int (i - j)) := opI0 fun _ _ _ _ _ _ _ q => isub_int q
theorem iop_mul : OpR X (inplaceOp .Mult) (rI CMul fun i j => .int (i * j)) := opI fun _ _ _ _ _ _ _ hc q => imul_int q hc.ok
theorem iop_fdiv : OpR X (inplaceOp .FloorDiv) (rI CDiv fun i j => .int (i / j)) := opI fun i j _ _ _ _ _ hc q => by
  have h1 : (0 : Int) < j := hc.1
  have h2 : j < 1073741824 := hc.2
  exact ifloordiv_int (by omega) (by rw [Int.fdiv_eq_ediv_of_nonneg i (by omega)]; exact q) (.inl (PyProof.noPylong_small (by omega)))
theorem iop_mod : OpR X (inplaceOp .Mod) (rI (fun _ j => 0 < j) fun i j => .int (i % j)) := opI fun i j _ _ _ _ _ hc q => by
  have h1 : (0 : Int) < j := hc
  exact imod_int (by omega) (by rw [Int.fmod_eq_emod_of_nonneg i (by omega)]; exact q)
theorem iop_shl : OpR X (inplaceOp .LShift) (rI CPow fun i j => .int (i * 2 ^ j.toNat)) := opI fun _ _ _ _ _ _ _ hc q => ilshift_int_small hc.1 hc.2.1 hc.2.2 q
theorem iop_shr : OpR X (inplaceOp .RShift) (rI (fun _ j => 0 ≤ j) fun i j => .int (i / 2 ^ j.toNat)) := opI fun i j _ _ _ _ _ hc q =>
  irshift_int hc (by rw [Int.fdiv_eq_ediv_of_nonneg i (two_pow_nn _)]; exact q)
theorem iop_and : OpR X (inplaceOp .BitAnd) (rI0 fun i j => .int (Builtin.bitAnd i j)) := opI0 fun _ _ _ _ _ _ _ q => iand_int q
theorem iop_or : OpR X (inplaceOp .BitOr) (rI0 fun i j => .int (Builtin.bitOr i j)) := opI0 fun _ _ _ _ _ _ _ q => ior_int q
theorem iop_xor : OpR X (inplaceOp .BitXor) (rI0 fun i j => .int (Builtin.bitXor i j)) := opI0 fun _ _ _ _ _ _ _ q => ixor_int q

theorem unI {f : Value → Sem Value} {g : Int → Int}
    (rule : ∀ (i : Int) (t : Tok) (s : Shared) (Q : Value → Shared → Prop) (E : Value → Shared → Prop), Q (.int (g i) s.toks) { s with toks := s.toks + 1 } → wpAny (model X.prog X.w) X.A (f (.int i t)) Q E s) :
    UnR X f (rU fun i => .int (g i)) := by
  intro pins s σ H x v Q I rx h
  obtain ⟨i, rfl, q⟩ := h
  obtain ⟨t, rfl⟩ := rx
  exact rule i t s _ _ ⟨.int (g i), H, I.tok _, ⟨_, rfl⟩, q⟩
theorem un_neg : UnR X (unaryOp .USub) (rU fun i => .int (-i)) := unI fun _ _ _ _ _ q => neg_int q
theorem un_inv : UnR X (unaryOp .Invert) (rU fun i => .int (Builtin.bitNot i)) := unI fun _ _ _ _ _ q => invert_int q

/-! ### bools among ints: n += (a < b) -/
theorem op_add_ib : OpR X (binaryOp .Add) (fun x y H Q => ∃ i k, x = .int i ∧ y = .bl k ∧ Q (.int (i + b2i k)) H) := by
  intro pins s σ H x y v u Q I rx ry h
  obtain ⟨i, k, rfl, rfl, q⟩ := h
  obtain ⟨t, rfl⟩ := rx
  cases ry
  exact add_int_bool ⟨.int (i + b2i k), H, I.tok _, ⟨_, rfl⟩, q⟩
end

/-! ### comparisons -/
/-- the scalars that == tells apart as data does -/
def scal : V → V → Bool
  | .non, .non => true | .non, .int _ => true | .int _, .non => true | .non, .bl _ => true | .bl _, .non => true | .non, .str _ => true | .str _, .non => true
  | .int _, .int _ => true | .bl _, .bl _ => true | .str _, .str _ => true | .byt _, .byt _ => true
  | .int _, .str _ => true | .str _, .int _ => true | .bl _, .str _ => true | .str _, .bl _ => true
  | _, _ => false
def rEq : R2 := fun x y H Q => scal x y = true ∧ Q (.bl (decide (x = y))) H
def rNe : R2 := fun x y H Q => scal x y = true ∧ Q (.bl (!decide (x = y))) H

theorem dec_int {i j : Int} : decide (V.int i = V.int j) = (i == j) := by
  rw [Bool.eq_iff_iff]
  simp
theorem dec_bl {i j : Bool} : decide (V.bl i = V.bl j) = (i == j) := by
  rw [Bool.eq_iff_iff]
  simp
theorem dec_str {i j : Str} : decide (V.str i = V.str j) = (i == j) := by
  rw [Bool.eq_iff_iff]
  simp
theorem dec_byt {i j : Array UInt8} : decide (V.byt i = V.byt j) = (i.toList == j.toList) := by
  rw [Bool.eq_iff_iff]
  cases i
  cases j
  simp

section
variable {X : Cx} {a b c : Expr} {ta tb tc : TE} {pos : Pos}
theorem fin_bl {pins : List (Addr × Obj)} {σ : St} {H : Hp} {s : Shared} {Q : VK} {k k' : Bool} (I : Inv X pins σ H s) (q : Q (.bl k) H) (e : k = k') : EP X pins σ Q (.bool k') s := by
  subst e
  exact ⟨.bl k, H, I, rfl, q⟩
theorem op_eq : OpR X (compareOp .Eq) rEq := by
  intro pins s σ H x y v u Q I rx ry h
  obtain ⟨hs, q⟩ := h
  cases x with
  | non =>
    cases rx
    cases y with
    | non => cases ry; exact PySem.EqNone.eq_none_none (fin_bl I q (by simp))
    | bl j => cases ry; exact PySem.EqNone.eq_none_bool (fin_bl I q (by simp))
    | int j => obtain ⟨t', rfl⟩ := ry; exact PySem.EqNone.eq_none_int (fin_bl I q (by simp))
    | str j => obtain ⟨t', rfl⟩ := ry; exact PySem.EqNone.eq_none_str (fin_bl I q (by simp))
    | _ => exact absurd (show false = true from hs) Bool.false_ne_true
  | bl i =>
    cases rx
    cases y with
    | non => cases ry; exact PySem.EqNone.eq_bool_none (fin_bl I q (by simp))
    | bl j => cases ry; exact eq_bool (fin_bl I q dec_bl)
    | str j => obtain ⟨t', rfl⟩ := ry; exact PySem.EqMixed.eq_bool_str (fin_bl I q (by simp))
    | _ => exact absurd (show false = true from hs) Bool.false_ne_true
  | int i =>
    obtain ⟨t, rfl⟩ := rx
    cases y with
    | non => cases ry; exact PySem.EqNone.eq_int_none (fin_bl I q (by simp))
    | int j => obtain ⟨t', rfl⟩ := ry; exact eq_int (fin_bl I q dec_int)
    | str j => obtain ⟨t', rfl⟩ := ry; exact PySem.EqMixed.eq_int_str (fin_bl I q (by simp))
    | _ => exact absurd (show false = true from hs) Bool.false_ne_true
  | str i =>
    obtain ⟨t, rfl⟩ := rx
    cases y with
    | non => cases ry; exact PySem.EqNone.eq_str_none (fin_bl I q (by simp))
    | bl j => cases ry; exact PySem.EqMixed.eq_str_bool (fin_bl I q (by simp))
    | int j => obtain ⟨t', rfl⟩ := ry; exact PySem.EqMixed.eq_str_int (fin_bl I q (by simp))
    | str j => obtain ⟨t', rfl⟩ := ry; exact eq_str (fin_bl I q dec_str)
    | _ => exact absurd (show false = true from hs) Bool.false_ne_true
  | byt i =>
    obtain ⟨t, rfl⟩ := rx
    cases y with
    | byt j => obtain ⟨t', rfl⟩ := ry; exact PySem.W.eq_bytes (fin_bl I q dec_byt)
    | _ => exact absurd (show false = true from hs) Bool.false_ne_true
  | _ => cases y <;> exact absurd (show false = true from hs) Bool.false_ne_true
theorem op_ne : OpR X (compareOp .NotEq) rNe := by
  intro pins s σ H x y v u Q I rx ry h
  obtain ⟨hs, q⟩ := h
  cases x with
  | non =>
    cases rx
    cases y with
    | non => cases ry; exact PySem.EqNone.ne_none_none (fin_bl I q (by simp))
    | bl j => cases ry; exact PySem.EqNone.ne_none_bool (fin_bl I q (by simp))
    | int j => obtain ⟨t', rfl⟩ := ry; exact PySem.EqNone.ne_none_int (fin_bl I q (by simp))
    | str j => obtain ⟨t', rfl⟩ := ry; exact PySem.EqNone.ne_none_str (fin_bl I q (by simp))
    | _ => exact absurd (show false = true from hs) Bool.false_ne_true
  | bl i =>
    cases rx
    cases y with
    | non => cases ry; exact PySem.EqNone.ne_bool_none (fin_bl I q (by simp))
    | bl j => cases ry; exact ne_bool (fin_bl I q (congrArg not dec_bl))
    | str j => obtain ⟨t', rfl⟩ := ry; exact PySem.EqMixed.ne_bool_str (fin_bl I q (by simp))
    | _ => exact absurd (show false = true from hs) Bool.false_ne_true
  | int i =>
    obtain ⟨t, rfl⟩ := rx
    cases y with
    | non => cases ry; exact PySem.EqNone.ne_int_none (fin_bl I q (by simp))
    | int j => obtain ⟨t', rfl⟩ := ry; exact ne_int (fin_bl I q (congrArg not dec_int))
    | str j => obtain ⟨t', rfl⟩ := ry; exact PySem.EqMixed.ne_int_str (fin_bl I q (by simp))
    | _ => exact absurd (show false = true from hs) Bool.false_ne_true
  | str i =>
    obtain ⟨t, rfl⟩ := rx
    cases y with
    | non => cases ry; exact PySem.EqNone.ne_str_none (fin_bl I q (by simp))
    | bl j => cases ry; exact PySem.EqMixed.ne_str_bool (fin_bl I q (by simp))
    | int j => obtain ⟨t', rfl⟩ := ry; exact PySem.EqMixed.ne_str_int (fin_bl I q (by simp))
    | str j => obtain ⟨t', rfl⟩ := ry; exact ne_str (fin_bl I q (congrArg not dec_str))
    | _ => exact absurd (show false = true from hs) Bool.false_ne_true
  | byt i =>
    obtain ⟨t, rfl⟩ := rx
    cases y with
    | byt j => obtain ⟨t', rfl⟩ := ry; exact PySem.W.ne_bytes (fin_bl I q (congrArg not dec_byt))
    | _ => exact absurd (show false = true from hs) Bool.false_ne_true
  | _ => cases y <;> exact absurd (show false = true from hs) Bool.false_ne_true

theorem op_lt : OpR X (compareOp .Lt) (rI0 fun i j => .bl (decide (i < j))) := opB0 fun _ _ _ _ _ _ _ q => lt_int q
theorem op_le : OpR X (compareOp .LtE) (rI0 fun i j => .bl (decide (i ≤ j))) := opB0 fun _ _ _ _ _ _ _ q => le_int q
theorem op_gt : OpR X (compareOp .Gt) (rI0 fun i j => .bl (decide (j < i))) := opB0 fun _ _ _ _ _ _ _ q => gt_int q
theorem op_ge : OpR X (compareOp .GtE) (rI0 fun i j => .bl (decide (j ≤ i))) := opB0 fun _ _ _ _ _ _ _ q => ge_int q
theorem op_lt_str : OpR X (compareOp .Lt) (fun x y H Q => ∃ i j, x = .str i ∧ y = .str j ∧ Q (.bl (decide (i.cps.toList < j.cps.toList))) H) := by
  intro pins s σ H x y v u Q I rx ry h
  obtain ⟨i, j, rfl, rfl, q⟩ := h
  obtain ⟨t, rfl⟩ := rx
  obtain ⟨t', rfl⟩ := ry
  exact lt_str (fin_bl I q rfl)
/-- the one string within the other -/
theorem op_in_str : OpR X (compareOp .In) (fun x y H Q => ∃ i j, x = .str i ∧ y = .str j ∧ Q (.bl (!(Builtin.Str.occurrences j i 0 j.length 1).isEmpty)) H) := by
  intro pins s σ H x y v u Q I rx ry h
  obtain ⟨i, j, rfl, rfl, q⟩ := h
  obtain ⟨t, rfl⟩ := rx
  obtain ⟨t', rfl⟩ := ry
  exact in_str (fin_bl I q rfl)

/-- is None, is not None: the right side a value none -/
theorem op_isN : OpR X (compareOp .Is) (fun x y H Q => y = .non ∧ Q (.bl (decide (x = .non))) H) := by
  intro pins s σ H x y v u Q I rx ry h
  obtain ⟨rfl, q⟩ := h
  cases ry
  refine is_none_gen (fin_bl I q ?_)
  cases x <;> first
    | (cases rx; rfl)
    | (obtain ⟨t, rfl⟩ := rx; rfl)
theorem op_notN : OpR X (compareOp .IsNot) (fun x y H Q => y = .non ∧ Q (.bl (!decide (x = .non))) H) := by
  intro pins s σ H x y v u Q I rx ry h
  obtain ⟨rfl, q⟩ := h
  cases ry
  refine isnot_none_gen (fin_bl I q ?_)
  cases x <;> first
    | (cases rx; rfl)
    | (obtain ⟨t, rfl⟩ := rx; rfl)

theorem op_notin_str : OpR X (compareOp .NotIn) (fun x y H Q => ∃ i j, x = .str i ∧ y = .str j ∧ Q (.bl (!(!(Builtin.Str.occurrences j i 0 j.length 1).isEmpty))) H) := by
  intro pins s σ H x y v u Q I rx ry h
  obtain ⟨i, j, rfl, rfl, q⟩ := h
  obtain ⟨t, rfl⟩ := rx
  obtain ⟨t', rfl⟩ := ry
  exact notIn_str (fin_bl I q rfl)
/-- is, is not of two objects that are tracked lists or instances -/
def isObj : HO → Bool
  | .lst _ => true
  | .ins _ _ _ => true
  | _ => false
theorem obj_there {pins : List (Addr × Obj)} {s : Shared} {σ : St} {H : Hp} {a : Addr} {o : HO} (I : Inv X pins σ H s) (h : H a = some o) (p : isObj o = true) : ∃ ob, s.heap.get? a = some ob ∧ ob.cls ≠ .type "tuple" := by
  cases o with
  | lst xs =>
    obtain ⟨_, its, n, _, e⟩ : xs.length ≤ sizeLine ∧ ∃ (its : List Value) (n : Nat), Vals xs its ∧ s.heap.get? a = some { cls := .type "list", data := .seq its.toArray n } := I.hok a _ h
    exact ⟨_, e, (by show Value.type "list" ≠ .type "tuple"; decide +kernel)⟩
  | ins C dx fs =>
    have x := I.hok a _ h
    obtain ⟨_, _, _, e, _⟩ := x
    exact ⟨_, e, (by show Value.ref C ≠ .type "tuple"; exact fun z => by cases z)⟩
  | _ => exact absurd (show false = true from p) Bool.false_ne_true
theorem op_is_ref : OpR X (compareOp .Is) (fun x y H Q => ∃ a b oa ob, x = .ref a ∧ y = .ref b ∧ H a = some oa ∧ isObj oa = true ∧ H b = some ob ∧ isObj ob = true ∧ Q (.bl (decide (a = b))) H) := by
  intro pins s σ H x y v u Q I rx ry h
  obtain ⟨a, b, oa, ob, rfl, rfl, ha, pa, hb, pb, q⟩ := h
  cases rx
  cases ry
  obtain ⟨o1, e1, n1⟩ := obj_there I ha pa
  obtain ⟨o2, e2, _⟩ := obj_there I hb pb
  by_cases z : a = b
  · subst z
    exact wpAny_is_ref_self (fin_bl I q (by simp))
  · exact wpAny_is_ref_other z e1 e2 n1 (fin_bl I q (by simp [z]))
theorem op_isnot_ref : OpR X (compareOp .IsNot) (fun x y H Q => ∃ a b oa ob, x = .ref a ∧ y = .ref b ∧ H a = some oa ∧ isObj oa = true ∧ H b = some ob ∧ isObj ob = true ∧ Q (.bl (!decide (a = b))) H) := by
  intro pins s σ H x y v u Q I rx ry h
  obtain ⟨a, b, oa, ob, rfl, rfl, ha, pa, hb, pb, q⟩ := h
  cases rx
  cases ry
  obtain ⟨o1, e1, n1⟩ := obj_there I ha pa
  obtain ⟨o2, e2, _⟩ := obj_there I hb pb
  by_cases z : a = b
  · subst z
    exact wpAny_isNot_ref_self (fin_bl I q (by simp))
  · exact wpAny_isNot_ref_other z e1 e2 n1 (fin_bl I q (by simp [z]))

/-- two rules for one operation: by cases -/
theorem OpR.or {f : Value → Value → Sem Value} {r r' : R2} (h : OpR X f r) (h' : OpR X f r') : OpR X f (fun x y H Q => r x y H Q ∨ r' x y H Q) := by
  intro pins s σ H x y v u Q I rx ry q
  rcases q with q | q
  · exact h pins s σ H x y v u Q I rx ry q
  · exact h' pins s σ H x y v u Q I rx ry q

theorem nomark (b : Expr) {op : CmpOp} (h : op ≠ .In := by decide) (h2 : op ≠ .NotIn := by decide) : behindInMarks op b = false := by
  have e1 : (op == CmpOp.In) = false := by cases op <;> first | rfl | exact absurd rfl h
  have e2 : (op == CmpOp.NotIn) = false := by cases op <;> first | rfl | exact absurd rfl h2
  cases b <;> simp [behindInMarks, e1, e2]
/-- a comparison as a value; hm: nomark b, or (for in, not in) by with_unfolding_all rfl -/
theorem pe_cmpR {op : CmpOp} {r : R2} (ho : OpR X (compareOp op) r) (ha : PE X a ta) (hb : PE X b tb) (hm : behindInMarks op b = false) : PE X (.Compare a [op] [b] pos) (tOp r ta tb) := by
  intro pins s σ H Q I h
  exact wpAny_Compare1 (binT ha hb I h fun v u s2 x y H2 I2 rx ry q => ho pins s2 σ H2 x y v u Q I2 rx ry q) hm
/-- a reading of a value as a test -/
def tTest (t : TE) : TT := fun σ H Q => t σ H fun x H' => ∃ k, x = .bl k ∧ Q k H'
theorem pt_cmpR {op : CmpOp} {r : R2} (ho : OpR X (compareOp op) r) (ha : PE X a ta) (hb : PE X b tb) (hm : behindInMarks op b = false) : PT X (.Compare a [op] [b] pos) (tTest (tOp r ta tb)) := by
  intro pins s σ H Q I h
  refine wpAny_isTrue_Compare1 (thn (ha pins s σ H _ I h) fun v s1 ⟨x, H1, I1, r1, q1⟩ => thn (hb pins s1 σ H1 _ I1 q1) fun u s2 ⟨y, H2, I2, r2, q2⟩ =>
    thn (ho pins s2 σ H2 x y v u _ I2 r1 r2 q2) fun c s3 ⟨z, H3, I3, r3, k, e, q3⟩ => ?_) hm
  subst e
  cases r3
  exact wpAny_truthy_bool ⟨H3, I3, q3⟩
/-- a op1 b op2 c -/
def tChain (r r' : R2) (ta tb tc : TE) : TE := fun σ H Q => ta σ H fun x H1 => tb σ H1 fun y H2 => r x y H2 fun z H3 => ∃ k, z = .bl k ∧
  (if k = true then tc σ H3 fun w' H4 => r' y w' H4 Q else Q (.bl false) H3)
theorem pe_chain {op op' : CmpOp} {r r' : R2} (ho : OpR X (compareOp op) r) (ho' : OpR X (compareOp op') r') (ha : PE X a ta) (hb : PE X b tb) (hc : PE X c tc)
    (hm : lastMarks [op, op'] [b, c] = false := by with_unfolding_all rfl) : PE X (.Compare a [op, op'] [b, c] pos) (tChain r r' ta tb tc) := by
  intro pins s σ H Q I h
  refine Compare_chain (thn (ha pins s σ H _ I h) fun v s1 ⟨x, H1, I1, r1, q1⟩ => chain_link (thn (hb pins s1 σ H1 _ I1 q1) fun u s2 ⟨y, H2, I2, r2, q2⟩ =>
    thn (ho pins s2 σ H2 x y v u _ I2 r1 r2 q2) fun d s3 ⟨z, H3, I3, r3, k, e, q3⟩ => ?_)) hm
  subst e
  cases r3
  refine wpAny_truthy_bool ?_
  cases k with
  | false => exact ite_ff ⟨.bl false, H3, I3, rfl, q3⟩
  | true => exact ite_tt (chain_last (thn (hc pins s3 σ H3 _ I3 q3) fun w' s4 ⟨z', H4, I4, r4, q4⟩ => ho' pins s4 σ H4 y z' u w' Q I4 r2 r4 q4))
theorem pt_chain {op op' : CmpOp} {r r' : R2} (ho : OpR X (compareOp op) r) (ho' : OpR X (compareOp op') r') (ha : PE X a ta) (hb : PE X b tb) (hc : PE X c tc)
    (hm : lastMarks [op, op'] [b, c] = false := by with_unfolding_all rfl) : PT X (.Compare a [op, op'] [b, c] pos) (tTest (tChain r r' ta tb tc)) := by
  intro pins s σ H Q I h
  refine isTrue_chain (thn (ha pins s σ H _ I h) fun v s1 ⟨x, H1, I1, r1, q1⟩ => test_link (thn (hb pins s1 σ H1 _ I1 q1) fun u s2 ⟨y, H2, I2, r2, q2⟩ =>
    thn (ho pins s2 σ H2 x y v u _ I2 r1 r2 q2) fun d s3 ⟨z, H3, I3, r3, k, e, q3⟩ => ?_)) hm
  subst e
  cases r3
  refine wpAny_truthy_bool ?_
  cases k with
  | false =>
    obtain ⟨k', e', q'⟩ := q3
    cases e'
    exact ite_ff ⟨H3, I3, q'⟩
  | true =>
    refine ite_tt (test_last (thn (hc pins s3 σ H3 _ I3 q3) fun w' s4 ⟨z', H4, I4, r4, q4⟩ => thn (ho' pins s4 σ H4 y z' u w' _ I4 r2 r4 q4) fun d' s5 ⟨z2, H5, I5, r5, k2, e2, q5⟩ => ?_))
    subst e2
    cases r5
    exact wpAny_truthy_bool ⟨H5, I5, q5⟩

/-! ### truth -/
/-- a value's truth by the abstract heap -/
def TruV (K : PySem.W.Frag) (x : V) (H : Hp) (k : Bool) : Prop :=
  match x with
  | .non => k = false
  | .bl b => k = b
  | .int i => k = (i != 0)
  | .str y => y.length ≤ sizeLine ∧ k = ((y.length : Int) != 0)
  | .byt y => y.size ≤ sizeLine ∧ k = ((y.size : Int) != 0)
  | .ref p => (∃ xs, SqL K H p xs ∧ k = !xs.isEmpty) ∨ (∃ xs, SqT K H p xs ∧ k = !xs.isEmpty) ∨ ∃ kvs, H p = some (.dK kvs) ∧ k = !kvs.isEmpty
  | _ => False
theorem isEmpty_kv {κ : Type} {kvs : List (κ × V)} {vs : List (κ × Value)} (r : KV kvs vs) : (!vs.isEmpty) = !kvs.isEmpty := by
  cases r <;> rfl
theorem isEmpty_of {xs : List V} {its : List Value} (r : Vals xs its) : (!its.toArray.isEmpty) = !xs.isEmpty := by
  cases r <;> simp
theorem line63 : (sizeLine : Nat) < 2 ^ 63 := by rw [sizeLine_eq]; decide
theorem tru_ok : TruR X (fun x H Q => ∃ k, TruV X.K x H k ∧ Q k H) := by
  intro pins s σ H x v Q I rx h
  obtain ⟨k, e, q⟩ := h
  have hl := line63
  have hs : sizeLine = 16777216 := sizeLine_eq
  cases x with
  | non =>
    cases rx
    have e' : k = false := e
    subst e'
    exact truthy_none ⟨H, I, q⟩
  | bl b =>
    cases rx
    have e' : k = b := e
    subst e'
    exact wpAny_truthy_bool ⟨H, I, q⟩
  | int i =>
    obtain ⟨t, rfl⟩ := rx
    have e' : k = (i != 0) := e
    subst e'
    exact PySem.P.truthy_int ⟨H, I, q⟩
  | str y =>
    obtain ⟨t, rfl⟩ := rx
    obtain ⟨hy, e'⟩ : y.length ≤ sizeLine ∧ k = ((y.length : Int) != 0) := e
    subst e'
    exact PySem.P.truthy_str (by omega) ⟨H, I.tok _, q⟩
  | byt y =>
    obtain ⟨t, rfl⟩ := rx
    obtain ⟨hy, e'⟩ : y.size ≤ sizeLine ∧ k = ((y.size : Int) != 0) := e
    subst e'
    exact PySem.W.truthy_bytes (by omega) ⟨H, I.tok _, q⟩
  | ref p =>
    cases rx
    have e' : (∃ xs, SqL X.K H p xs ∧ k = !xs.isEmpty) ∨ (∃ xs, SqT X.K H p xs ∧ k = !xs.isEmpty) ∨ ∃ kvs, H p = some (.dK kvs) ∧ k = !kvs.isEmpty := e
    rcases e' with ⟨xs, hx, e'⟩ | ⟨xs, hx, e'⟩ | ⟨kvs, hx, e'⟩
    · subst e'
      obtain ⟨its, r, pl, hz⟩ := I.list hx
      have hlen := r.length
      exact wpAny_truthy_list pl.isList (by simp only [List.size_toArray]; omega) ⟨H, I.tok _, by rw [isEmpty_of r]; exact q⟩
    · subst e'
      obtain ⟨its, r, pl, hz⟩ := I.tuple hx
      have hlen := r.length
      exact truthy_tuple pl (by simp only [List.size_toArray]; omega) ⟨H, I.tok _, by rw [isEmpty_of r]; exact q⟩
    · subst e'
      obtain ⟨hz, hS, vs, r, m⟩ : kvs.length ≤ sizeLine ∧ (p == sysModules) = false ∧ ∃ vs, KV kvs vs ∧ s.heap.DictOf (mixKind X.prog X.w) p vs := I.hok p _ hx
      have hlen : kvs.length = vs.length := Paired.length r
      exact wpAny_truthy_dict hS m (by omega) ⟨H, I.tok _, by rw [isEmpty_kv r]; exact q⟩
  | _ => exact (show False from e).elim
/-- any expression whose test is its value's truth (a name, a call, a subscript, a field ..: he by fun _ => rfl) -/
theorem pt_truth (ha : PE X a ta) (he : ∀ whole, isTrue a X.env whole = (do let v ← whole; standAt a.pos; holding [v] (truthy v))) :
    PT X a (fun σ H Q => ta σ H fun x H' => ∃ k, TruV X.K x H' k ∧ Q k H') := by
  intro pins s σ H Q I h
  exact isTrue_plain (thn (ha pins s σ H _ I h) fun v s1 ⟨x, H1, I1, r1, q1⟩ => tru_ok pins s1 σ H1 x v Q I1 r1 q1) (he _)

/-! ### strs and bytes -/
theorem pe_byt {x : List UInt8} {k : Nat} : PE X (.Constant (.bytes x) k pos) (fun _ H Q => Q (.byt x.toArray) H) := fun _ _ _ H _ I h => PySem.W.Constant_bytes ⟨.byt x.toArray, H, I.tok _, ⟨_, rfl⟩, h⟩
theorem op_add_str : OpR X (binaryOp .Add) (fun x y H Q => ∃ i j, x = .str i ∧ y = .str j ∧ i.length + j.length ≤ sizeLine ∧ Q (.str (i ++ j)) H) := by
  intro pins s σ H x y v u Q I rx ry h
  obtain ⟨i, j, rfl, rfl, hz, q⟩ := h
  obtain ⟨t, rfl⟩ := rx
  obtain ⟨t', rfl⟩ := ry
  exact add_str (fun t' tk => ⟨.str (i ++ j), H, I.tok _, ⟨_, rfl⟩, q⟩) hz
theorem iop_add_str : OpR X (inplaceOp .Add) (fun x y H Q => ∃ i j, x = .str i ∧ y = .str j ∧ i.length + j.length ≤ sizeLine ∧ Q (.str (i ++ j)) H) := by
  intro pins s σ H x y v u Q I rx ry h
  obtain ⟨i, j, rfl, rfl, hz, q⟩ := h
  obtain ⟨t, rfl⟩ := rx
  obtain ⟨t', rfl⟩ := ry
  exact iadd_str (fun t' tk => ⟨.str (i ++ j), H, I.tok _, ⟨_, rfl⟩, q⟩) hz
theorem op_add_byt : OpR X (binaryOp .Add) (fun x y H Q => ∃ i j, x = .byt i ∧ y = .byt j ∧ i.size + j.size ≤ 16777216 ∧ Q (.byt (i ++ j)) H) := by
  intro pins s σ H x y v u Q I rx ry h
  obtain ⟨i, j, rfl, rfl, hz, q⟩ := h
  obtain ⟨t, rfl⟩ := rx
  obtain ⟨t', rfl⟩ := ry
  exact PySem.W.KBy.add_bytes hz (fun t' tk => ⟨.byt (i ++ j), H, I.tok _, ⟨_, rfl⟩, q⟩)

def PlainIxT (b : Expr) : Prop := ∀ o i, subscripted b false o i = operate [o, i] (getItem o i)
/-- s[i], 0 ≤ i < len -/
theorem pe_item_str (ha : PE X a ta) (hb : PE X b tb) (hs : PlainIxT b) :
    PE X (.Subscript a b pos) (tOp (fun x y H Q => ∃ z i c, x = .str z ∧ y = .int i ∧ 0 ≤ i ∧ i < 2 ^ 63 ∧ i < z.length ∧ z.cps[i.toNat]? = some c ∧ Q (.str ⟨#[c]⟩) H) ta tb) := by
  intro pins s σ H Q I h
  refine Subscript_ (binT ha hb I h fun v u s2 x y H2 I2 rx ry q => ?_)
  obtain ⟨z, i, c, rfl, rfl, h0, h63, h1, hc, q⟩ := q
  obtain ⟨t, rfl⟩ := rx
  obtain ⟨t', rfl⟩ := ry
  have e : seqIndex? i z.length = some i.toNat := PySem.StrLaws.seqIndex_nonneg h0 h1
  exact tail_any (typeIs_str s2 z t) slot_str_getitem.lookup (getItem_str (c := c) (by
    have e1 : decide (i < -(2 ^ 63 : Int)) = false := decide_eq_false (by omega)
    have e2 : decide (i ≥ 2 ^ 63) = false := decide_eq_false (by omega)
    rw [e1, e2] <;> rfl) (by rw [e]; exact hc) ⟨.str ⟨#[c]⟩, H2, I2.tok _, ⟨_, rfl⟩, q⟩) (hs _ _)
/-- b[i], 0 ≤ i < len -/
theorem pe_item_byt (ha : PE X a ta) (hb : PE X b tb) (hs : PlainIxT b) :
    PE X (.Subscript a b pos) (tOp (fun x y H Q => ∃ (z : List UInt8) (i : Int), x = .byt z.toArray ∧ y = .int i ∧ z.length ≤ sizeLine ∧ 0 ≤ i ∧ i < z.length ∧ Q (.int ((z.getD i.toNat 0).toNat : Nat)) H) ta tb) := by
  intro pins s σ H Q I h
  refine Subscript_ (binT ha hb I h fun v u s2 x y H2 I2 rx ry q => ?_)
  obtain ⟨z, i, rfl, rfl, hz, h0, h1, q⟩ := q
  obtain ⟨t, rfl⟩ := rx
  obtain ⟨t', rfl⟩ := ry
  have hl : sizeLine = 16777216 := sizeLine_eq
  exact tail_any (PySem.W.typeIs_bytes s2 z.toArray t) PySem.W.FB.slot_bytes_getitem.lookup (PySem.W.getItem_bytes (by omega) h0 h1 ⟨.int ((z.getD i.toNat 0).toNat : Nat), H2, I2.tok _, ⟨_, rfl⟩, q⟩) (hs _ _)

/-! ### scalar builtins, by CallR -/
theorem vals1 {x : V} {us : List Value} (r : Vals [x] us) : ∃ u, us = [u] ∧ RelV x u := by
  cases r with
  | cons r1 r2 => cases r2; exact ⟨_, rfl, r1⟩
theorem vals2 {x y : V} {us : List Value} (r : Vals [x, y] us) : ∃ u w', us = [u, w'] ∧ RelV x u ∧ RelV y w' := by
  cases r with
  | cons r1 r2 =>
    cases r2 with
    | cons r3 r4 => cases r4; exact ⟨_, _, rfl, r1, r3⟩
theorem call_abs : CallR X (.builtin "abs") (fun xs H Q => ∃ i, xs = [.int i] ∧ Q (.int (if i < 0 then -i else i)) H) := by
  intro pins s σ H xs us Q I r h
  obtain ⟨i, rfl, q⟩ := h
  obtain ⟨u, rfl, t, rfl⟩ := vals1 r
  exact call_abs_int fun u tk => ⟨.int (if i < 0 then -i else i), H, I.tok _, ⟨_, rfl⟩, q⟩
theorem call_max2 (hc : X.calm = true) : CallR X (.builtin "max") (fun xs H Q => ∃ i j, xs = [.int i, .int j] ∧ Q (.int (if j > i then j else i)) H) := by
  intro pins s σ H xs us Q I r h
  obtain ⟨i, j, rfl, q⟩ := h
  obtain ⟨u, w', rfl, ⟨t, rfl⟩, ⟨t', rfl⟩⟩ := vals2 r
  refine max_two_ints (I.ok.hd hc) fun h' tk k => ⟨_, H, I.kept k, ?_, q⟩
  by_cases hj : j > i
  · rw [if_pos hj, if_pos hj]; exact ⟨_, rfl⟩
  · rw [if_neg hj, if_neg hj]; exact ⟨_, rfl⟩
theorem call_min2 (hc : X.calm = true) : CallR X (.builtin "min") (fun xs H Q => ∃ i j, xs = [.int i, .int j] ∧ Q (.int (if j < i then j else i)) H) := by
  intro pins s σ H xs us Q I r h
  obtain ⟨i, j, rfl, q⟩ := h
  obtain ⟨u, w', rfl, ⟨t, rfl⟩, ⟨t', rfl⟩⟩ := vals2 r
  refine min_two_ints (I.ok.hd hc) fun h' tk k => ⟨_, H, I.kept k, ?_, q⟩
  by_cases hj : j < i
  · rw [if_pos hj, if_pos hj]; exact ⟨_, rfl⟩
  · rw [if_neg hj, if_neg hj]; exact ⟨_, rfl⟩
theorem call_int1 : CallR X (.type "int") (fun xs H Q => (∃ i, xs = [.int i] ∧ Q (.int i) H) ∨ ∃ k, xs = [.bl k] ∧ Q (.int (if k then 1 else 0)) H) := by
  intro pins s σ H xs us Q I r h
  rcases h with ⟨i, rfl, q⟩ | ⟨k, rfl, q⟩
  · obtain ⟨u, rfl, t, rfl⟩ := vals1 r
    exact call_int_int ⟨.int i, H, I, ⟨_, rfl⟩, q⟩
  · obtain ⟨u, rfl, r1⟩ := vals1 r
    cases r1
    exact call_int_bool ⟨.int (if k then 1 else 0), H, I.tok _, ⟨_, rfl⟩, q⟩
theorem call_bool1 : CallR X (.type "bool") (fun xs H Q => (∃ i, xs = [.int i] ∧ Q (.bl (i != 0)) H) ∨ ∃ k, xs = [.bl k] ∧ Q (.bl k) H) := by
  intro pins s σ H xs us Q I r h
  rcases h with ⟨i, rfl, q⟩ | ⟨k, rfl, q⟩
  · obtain ⟨u, rfl, t, rfl⟩ := vals1 r
    exact call_bool_int ⟨.bl (i != 0), H, I, rfl, q⟩
  · obtain ⟨u, rfl, r1⟩ := vals1 r
    cases r1
    exact call_bool_bool ⟨.bl k, H, I, rfl, q⟩
theorem call_str_int : CallR X (.type "str") (fun xs H Q => ∃ i, xs = [.int i] ∧ i.natAbs.log2 < 1920 ∧ Q (.str (toString i)) H) := by
  intro pins s σ H xs us Q I r h
  obtain ⟨i, rfl, hz, q⟩ := h
  obtain ⟨u, rfl, t, rfl⟩ := vals1 r
  exact PySem.P.str_of_int hz ⟨.str _, H, I.tok _, ⟨_, rfl⟩, q⟩
theorem call_ord : CallR X (.builtin "ord") (fun xs H Q => ∃ x, xs = [.str x] ∧ x.length = 1 ∧ Q (.int (x.cps.getD 0 0 : Nat)) H) := by
  intro pins s σ H xs us Q I r h
  obtain ⟨x, rfl, hz, q⟩ := h
  obtain ⟨u, rfl, t, rfl⟩ := vals1 r
  exact ord_of_one hz ⟨.int _, H, I.tok _, ⟨_, rfl⟩, q⟩
theorem call_chr : CallR X (.builtin "chr") (fun xs H Q => ∃ i, xs = [.int i] ∧ 0 ≤ i ∧ i ≤ 1114111 ∧ Q (.str ⟨#[i.toNat]⟩) H) := by
  intro pins s σ H xs us Q I r h
  obtain ⟨i, rfl, h0, h1, q⟩ := h
  obtain ⟨u, rfl, t, rfl⟩ := vals1 r
  exact chr_of_range h0 h1 ⟨.str _, H, I.tok _, ⟨_, rfl⟩, q⟩
/-- len of a str, a bytes, a list, a tuple -/
def LenV (K : PySem.W.Frag) (x : V) (H : Hp) (n : Nat) : Prop :=
  match x with
  | .str y => y.length ≤ sizeLine ∧ n = y.length
  | .byt y => y.size ≤ sizeLine ∧ n = y.size
  | .ref p => (∃ xs, SqL K H p xs ∧ n = xs.length) ∨ ∃ xs, SqT K H p xs ∧ n = xs.length
  | _ => False
theorem call_len : CallR X (.builtin "len") (fun xs H Q => ∃ x n, xs = [x] ∧ LenV X.K x H n ∧ Q (.int n) H) := by
  intro pins s σ H xs us Q I r h
  obtain ⟨x, n, rfl, e, q⟩ := h
  obtain ⟨u, rfl, rx⟩ := vals1 r
  have hl := line63
  have hs : sizeLine = 16777216 := sizeLine_eq
  cases x with
  | str y =>
    obtain ⟨t, rfl⟩ := rx
    obtain ⟨hy, e'⟩ : y.length ≤ sizeLine ∧ n = y.length := e
    subst e'
    exact len_str (by omega) ⟨.int _, H, I.tok _, ⟨_, rfl⟩, q⟩
  | byt y =>
    obtain ⟨t, rfl⟩ := rx
    obtain ⟨hy, e'⟩ : y.size ≤ sizeLine ∧ n = y.size := e
    subst e'
    exact PySem.W.len_bytes (by omega) ⟨.int _, H, I.tok _, ⟨_, rfl⟩, q⟩
  | ref p =>
    cases rx
    have e' : (∃ xs, SqL X.K H p xs ∧ n = xs.length) ∨ ∃ xs, SqT X.K H p xs ∧ n = xs.length := e
    rcases e' with ⟨xs, hx, e'⟩ | ⟨xs, hx, e'⟩
    · subst e'
      obtain ⟨its, r', pl, hz⟩ := I.list hx
      have hlen := r'.length
      exact Calls.call_len_list pl.isList (by simp only [List.size_toArray]; omega) ⟨.int xs.length, H, I.tok _, ⟨_, by simp only [List.size_toArray]; rw [hlen]⟩, q⟩
    · subst e'
      obtain ⟨its, r', pl, hz⟩ := I.tuple hx
      have hlen := r'.length
      exact len_tuple pl (by simp only [List.size_toArray]; omega) ⟨.int xs.length, H, I.tok _, ⟨_, by simp only [List.size_toArray]; rw [hlen]⟩, q⟩
  | _ => exact (show False from e).elim
/-- divmod: a new tuple -/
theorem call_divmod : CallR X (.builtin "divmod") (fun xs H Q => ∃ i j, xs = [.int i, .int j] ∧ CDiv i j ∧ ∀ p, H p = none → Q (.ref p) (upd H p (.tup [.int (i / j), .int (i % j)]))) := by
  intro pins s σ H xs us Q I r h
  obtain ⟨i, j, rfl, ⟨h1, h2⟩, q⟩ := h
  obtain ⟨u, w', rfl, ⟨t, rfl⟩, ⟨t', rfl⟩⟩ := vals2 r
  refine divmod_int (by omega) ?_ (.inl (PyProof.noPylong_small (by omega)))
  rw [Int.fdiv_eq_ediv_of_nonneg i (by omega), Int.fmod_eq_emod_of_nonneg i (by omega)]
  have hn : H s.heap.objs.size = none := I.hok.fresh (Nat.le_refl _)
  refine ⟨.ref s.heap.objs.size, _, ?_, rfl, q _ hn⟩
  refine I.laid (fun b o e => Heap.get?_push_of_some _ e) (Nat.le_refl _) ⟨by simp only [List.length_cons, List.length_nil]; rw [sizeLine_eq]; decide, [.int (i / j) s.toks, .int (i % j) (s.toks + 1)], .cons ⟨_, rfl⟩ (.cons ⟨_, rfl⟩ .nil), ?_⟩
  exact ⟨_, Heap.get?_push_size s.heap rfl, rfl, 0, rfl⟩
end
end L2

namespace L2
open PySem PySem.Spec PyProof.Rows

/-! ### an instance, its attributes a map -/
structure ObjM (h : Heap) (x dx C : Addr) (mA : Str → Option Value) : Prop where
  obj : h.get? x = some (PySem.W.instObj C dx)
  ns : h.Ns1 dx mA
  ne : dx ≠ x

theorem lookIn_ns {h : Heap} {dx : Addr} {mA : Str → Option Value} (n : h.Ns1 dx mA) : ∃ od, h.get? dx = some od ∧ ∀ name, PySem.W.lookIn name od = some (mA name) := by
  obtain ⟨o, es, ep, ho, hd, hk, _, hm⟩ := n
  refine ⟨o, ho, fun name => ?_⟩
  have e := hm name
  unfold nsFind findBy at e
  rw [← Array.find?_toList] at e
  unfold PySem.W.lookIn
  rw [hd]
  dsimp only
  split
  · rename_i y q
    rw [q] at e
    exact congrArg some e
  · rename_i q
    rw [q] at e
    have a : es.toList.any (·.refKey) = false := by
      rw [List.any_eq_false]
      intro y hy
      obtain ⟨z, t, hkey⟩ := hk y (Array.mem_toList_iff.mp hy)
      simp [DictEntry.refKey, hkey]
    have a' : ¬ es.toList.any (·.refKey) = true := by rw [a]; exact Bool.false_ne_true
    rw [if_neg a']
    exact congrArg some e

theorem ObjM.look {h : Heap} {x dx C : Addr} {mA : Str → Option Value} (I : ObjM h x dx C mA) : ∃ od, PySem.W.InstAt h x (PySem.W.instObj C dx) C (some od) ∧ ∀ name, PySem.W.lookIn name od = some (mA name) :=
  let ⟨od, ho, hl⟩ := lookIn_ns I.ns
  ⟨od, ⟨I.obj, rfl, rfl, ho⟩, hl⟩

section
variable {prog : Program} {w : World} {A : Around} {E : Value → Shared → Prop} {s : Shared} {K : PySem.W.Frag} {x dx C f : Addr} {mA : Str → Option Value} {name : Str} {v : Value}

theorem get_map {expr : Bool} {Q : Value → Shared → Prop} (X : K.In s.heap) (I : ObjM s.heap x dx C mA) (hg : PySem.W.plainGet K C name = true) (hh : PySem.W.hasDictIn K C = true)
    (ha : PySem.W.findIn K (.ref C) name = some none) (hv : mA name = some v) (hv' : PySem.W.handedIn v = true) (h : Q v { s with toks := s.toks + 1 }) :
    wpAny (model prog w) A (getAttr (.ref x) name expr) Q E s := by
  obtain ⟨od, J, hl⟩ := I.look
  exact PySem.W.get_value X J (PySem.W.plainGet_of hg).1 (PySem.W.findObj_own hh ha rfl (by rw [hl, hv])) hv' h

theorem get_const {expr : Bool} {a : Value} {Q : Value → Shared → Prop} (X : K.In s.heap) (I : ObjM s.heap x dx C mA) (hg : PySem.W.plainGet K C name = true) (hh : PySem.W.hasDictIn K C = true)
    (ha : PySem.W.findIn K (.ref C) name = some (some a)) (hn : PySem.W.specialIn K a "__get__" = some none) (hc : PySem.W.copiedNames.contains name = false) (hv : mA name = none) (hv' : PySem.W.handedIn a = true)
    (h : Q a { s with toks := s.toks + 1 }) : wpAny (model prog w) A (getAttr (.ref x) name expr) Q E s := by
  obtain ⟨od, J, hl⟩ := I.look
  exact PySem.W.get_value X J (PySem.W.plainGet_of hg).1 (PySem.W.findObj_cls hh ha hn hv' hc (by rw [hl, hv])) hv' h

theorem get_meth {pl : Sem Bool} {Q : Value × List Value → Shared → Prop} (X : K.In s.heap) (I : ObjM s.heap x dx C mA) (hg : PySem.W.plainGet K C name = true)
    (hf : PySem.W.findIn K (.ref C) name = some (some (.ref f))) (ht : PySem.W.isFn K (.ref f) = true) (hv : mA name = none) (h : Q (.ref f, [.ref x]) s) :
    wpAny (model prog w) A (getMethod (.ref x) name pl) Q E s := by
  obtain ⟨od, J, hl⟩ := I.look
  exact PySem.W.method_fn X J (PySem.W.plainGet_of hg).1 (PySem.W.plainGet_of hg).2 hf (beq_iff_eq.mp ht) (by show (PySem.W.lookIn name od).map (·.isSome) = some false; rw [hl, hv]; rfl) h

theorem set_map {ns : List Str} {Q : Unit → Shared → Prop} (X : K.In s.heap) (I : ObjM s.heap x dx C mA)
    (hs : PySem.W.findIn K (.ref C) "__setattr__" = some (some (.builtin "object.__setattr__"))) (hp : PySem.W.plainOver K C = true) (ht : PySem.W.takerIn K C name = some none) (hh : PySem.W.hasDictIn K C = true)
    (hw : PySem.Within mA ns) (hsz : ns.length ≤ sizeLine)
    (h : ∀ h', ObjM h' x dx C (fun y => if y = name then some v else mA y) → Heap.SameBut dx s.heap h' → Q () { s with heap := h', toks := s.toks + 2 }) :
    wpAny (model prog w) A (setAttr (.ref x) name v) Q E s := by
  obtain ⟨od, J, hl⟩ := I.look
  refine PySem.W.set_plain X J hs (PySem.W.osa_open (s := { s with toks := s.toks + 1 }) (r := none) X J hp ht fun b => ?_)
  obtain ⟨cd, hc, hd'⟩ := PySem.W.any_some hh
  have hx : s.heap.get? x = some ⟨.ref C, some dx, .plain, #[]⟩ := I.obj
  refine wpAny_bind (wpAny_pure (wpAny_bind (wpAny_bind (wpAny_loadPart hx (wpAny_bind (PySem.W.Looks.here (s := { s with toks := s.toks + 1 }) (PySem.W.looks_clsIn X hc) ?_))))))
  rw [hd']
  refine wpAny_pure (a := some dx) (wpAny_bind (wpAny_pure (wpAny_bind ?_)))
  refine wpAny_nsSet1 (s := { s with toks := s.toks + 1 }) I.ns fun h' hn2 hs2 => ?_
  obtain ⟨oD, esD, epD, hoD, hdD, hcD⟩ := hn2.count (PySem.Within.cons name v hw)
  refine wpAny_bind (wpAny_lookBehind hoD (by rw [hdD]; exact pastItsLine_dict (Nat.le_trans hcD (by rw [List.length_cons]; omega))) ?_)
  exact wpAny_pure (h _ ⟨(hs2.2 _ (Ne.symm I.ne)).trans I.obj, hn2, I.ne⟩ hs2)

/-- C(..): the dict at the heap's end, the instance behind it; then its __init__ -/
theorem make_map {R : Result → Shared → Prop} {vs : List Value} {kw : List (Str × Value)} (X : K.In s.heap) (hm : PySem.W.makesIn K C = true)
    (hi : PySem.W.findIn K (.ref C) "__init__" = some (some (.ref f))) (hf : PySem.W.typeIn K (.ref f) = some (.type "function"))
    (h : codeAny (model prog w) (A.under (.builtin "type.__call__" ⟨.ref C :: vs, kw⟩)) (.call (.ref f) ⟨.ref (s.heap.objs.size + 1) :: vs, kw⟩) (PySem.W.InitBack (s.heap.objs.size + 1) R)
      { s with heap := (s.heap.push PySem.W.emptyDict).push (PySem.W.instObj C s.heap.objs.size) }) :
    codeAny (model prog w) A (.call (.ref C) ⟨vs, kw⟩) R s := by
  obtain ⟨hh, g, d, t, os⟩ := s
  exact PySem.W.make_core (PySem.W.makes_of X hm) (PySem.W.looks_findIn X hi) (fun self => PySem.W.bind_fn X self hf) (.inl rfl) h
/-- C() where there is no __init__ but object's -/
theorem make_map0 {R : Result → Shared → Prop} (X : K.In s.heap) (hm : PySem.W.makesIn K C = true)
    (hi : PySem.W.findIn K (.ref C) "__init__" = some (some (.builtin "object.__init__")))
    (hb : ∀ self, PySem.W.Looks (model prog w) s.heap (bindSpecial (.builtin "object.__init__") self) (.builtin "object.__init__", [self]))
    (h : codeAny (model prog w) (A.under (.builtin "type.__call__" ⟨[.ref C], []⟩)) (.call (.builtin "object.__init__") ⟨[.ref (s.heap.objs.size + 1)], []⟩) (PySem.W.InitBack (s.heap.objs.size + 1) R)
      { s with heap := (s.heap.push PySem.W.emptyDict).push (PySem.W.instObj C s.heap.objs.size) }) :
    codeAny (model prog w) A (.call (.ref C) ⟨[], []⟩) R s := by
  obtain ⟨hh, g, d, t, os⟩ := s
  exact PySem.W.make_core (PySem.W.makes_of X hm) (PySem.W.looks_findIn X hi) hb (.inr ⟨rfl, rfl⟩) h
end

/-! ### the attributes as a list of pairs -/
def putF (f : Str) (v : V) : List (Str × V) → List (Str × V)
  | [] => [(f, v)]
  | (g, x) :: r => if g = f then (g, v) :: r else (g, x) :: putF f v r
theorem lookup_putF (f g : Str) (v : V) : ∀ fs : List (Str × V), (putF f v fs).lookup g = if g = f then some v else fs.lookup g
  | [] => by
    show List.lookup g [(f, v)] = _
    by_cases h : g = f
    · have hb : (g == f) = true := beq_iff_eq.mpr h
      simp only [List.lookup, hb, if_pos h]
    · have hb : (g == f) = false := beq_eq_false_iff_ne.mpr h
      simp only [List.lookup, hb, if_neg h]
  | (k, x) :: r => by
    have ih := lookup_putF f g v r
    rw [show putF f v ((k, x) :: r) = (if k = f then (k, v) :: r else (k, x) :: putF f v r) from rfl]
    by_cases hk : k = f
    · rw [if_pos hk]
      by_cases h : g = k
      · have hb : (g == k) = true := beq_iff_eq.mpr h
        simp only [List.lookup, hb, if_pos (h.trans hk)]
      · have hb : (g == k) = false := beq_eq_false_iff_ne.mpr h
        simp only [List.lookup, hb, if_neg (fun e : g = f => h (e.trans hk.symm))]
    · rw [if_neg hk]
      by_cases h : g = k
      · have hb : (g == k) = true := beq_iff_eq.mpr h
        simp only [List.lookup, hb, if_neg (fun e : g = f => hk (h.symm.trans e))]
      · have hb : (g == k) = false := beq_eq_false_iff_ne.mpr h
        simp only [List.lookup, hb]
        exact ih
theorem keys_putF (f : Str) (v : V) : ∀ fs : List (Str × V), f ∈ (putF f v fs).map (·.1) ∧ ∀ g, g ∈ fs.map (·.1) → g ∈ (putF f v fs).map (·.1)
  | [] => ⟨by simp [putF], fun g h => by simp at h⟩
  | (k, x) :: r => by
    obtain ⟨i1, i2⟩ := keys_putF f v r
    rw [show putF f v ((k, x) :: r) = (if k = f then (k, v) :: r else (k, x) :: putF f v r) from rfl]
    by_cases hk : k = f
    · rw [if_pos hk]
      subst hk
      exact ⟨by simp, fun g h => by simpa using h⟩
    · rw [if_neg hk]
      refine ⟨?_, fun g h => ?_⟩
      · rw [List.map_cons]
        exact List.mem_cons_of_mem _ i1
      · rw [List.map_cons] at h ⊢
        rcases List.mem_cons.mp h with e | e
        · exact List.mem_cons.mpr (.inl e)
        · exact List.mem_cons_of_mem _ (i2 g e)
theorem length_putF (f : Str) (v : V) : ∀ fs : List (Str × V), (putF f v fs).length ≤ fs.length + 1
  | [] => by simp [putF]
  | (k, x) :: r => by
    have ih := length_putF f v r
    rw [show putF f v ((k, x) :: r) = (if k = f then (k, v) :: r else (k, x) :: putF f v r) from rfl]
    by_cases hk : k = f
    · rw [if_pos hk, List.length_cons, List.length_cons]; omega
    · rw [if_neg hk, List.length_cons, List.length_cons]; omega

theorem RelO.some_of {v : V} {o : Option Value} (r : RelO (some v) o) : ∃ u, o = some u ∧ RelV v u := by
  cases o with
  | none => exact (show False from r).elim
  | some u => exact ⟨u, rfl, r⟩
theorem RelO.none_of {o : Option Value} (r : RelO none o) : o = none := by
  cases o with
  | none => rfl
  | some u => exact (show False from r).elim
theorem handed_of {v : V} {u : Value} (r : RelV v u) : PySem.W.handedIn u = true := by
  cases v with
  | non => cases (show u = Value.none from r); rfl
  | bl b => cases (show u = Value.bool b from r); rfl
  | int i => obtain ⟨t, e⟩ := (show ∃ t, u = Value.int i t from r); cases e; rfl
  | str x => obtain ⟨t, e⟩ := (show ∃ t, u = Value.str x t from r); cases e; rfl
  | byt b => obtain ⟨t, e⟩ := (show ∃ t, u = Value.bytes b t from r); cases e; rfl
  | flt b => obtain ⟨t, e⟩ := (show ∃ t, u = Value.float b t from r); cases e; rfl
  | ref a => cases (show u = Value.ref a from r); rfl
  | ty n => cases (show u = Value.type n from r); rfl

section
variable {P : Program} {w : World} {H H' : Hp} {h h' : Heap} {a C dx : Addr} {fs fs' : List (Str × V)}
theorem ins_get (hok : HOk P w H h) (e : H a = some (.ins C dx fs)) : ∃ mA, ObjM h a dx C mA ∧ (∀ f, RelO (fs.lookup f) (mA f)) ∧ PySem.Within mA (fs.map (·.1)) ∧ fs.length ≤ 1000 ∧ H dx = some (.own a) := by
  obtain ⟨d, z, ne, ob, mA, n, r, q⟩ := (show ObjOk P w H h a (.ins C dx fs) from hok a _ e)
  exact ⟨mA, ⟨ob, n, ne⟩, r, q, z, d⟩
end

/-! ### what of the text a class must have -/
structure Cls (K : PySem.W.Frag) (C : Addr) : Prop where
  pg : PySem.W.plainGet K C Str.empty = true
  hd : PySem.W.hasDictIn K C = true
  po : PySem.W.plainOver K C = true
  sa : PySem.W.findIn K (.ref C) "__setattr__" = some (some (.builtin "object.__setattr__"))
theorem Cls.get {K : PySem.W.Frag} {C : Addr} (c : Cls K C) (f : Str) : PySem.W.plainGet K C f = true := c.pg
/-- no class of it has the name -/
def NoAttr (K : PySem.W.Frag) (C : Addr) (f : Str) : Prop := PySem.W.findIn K (.ref C) f = some none
theorem NoAttr.taker {K : PySem.W.Frag} {C : Addr} {f : Str} (n : NoAttr K C f) : PySem.W.takerIn K C f = some none := by
  unfold PySem.W.takerIn
  rw [show PySem.W.findIn K (.ref C) f = some none from n]
  rfl
/-- a constant of the class -/
structure Con (K : PySem.W.Frag) (C : Addr) (f : Str) (v : V) (u : Value) : Prop where
  at_ : PySem.W.findIn K (.ref C) f = some (some u)
  rel : RelV v u
  get : PySem.W.specialIn K u "__get__" = some none
  cp : PySem.W.copiedNames.contains f = false
/-- a method: a plain def of the class or of one above it -/
structure Meth (K : PySem.W.Frag) (C : Addr) (m : Str) (f : Addr) : Prop where
  at_ : PySem.W.findIn K (.ref C) m = some (some (.ref f))
  fn : PySem.W.isFn K (.ref f) = true
  kp : PySem.W.keepIn K (.ref f) = true

section
variable {X : Cx} {pins : List (Addr × Obj)} {σ : St} {H : Hp} {s : Shared} {a C dx : Addr} {fs : List (Str × V)} {f : Str} {v : V} {A : Around} {E : Value → Shared → Prop}

theorem getattr_ok {b : Bool} {Q : Value → Shared → Prop} (I : Inv X pins σ H s) (e : H a = some (.ins C dx fs)) (c : Cls X.K C) (n : NoAttr X.K C f) (l : fs.lookup f = some v)
    (h : ∀ u s', Inv X pins σ H s' → RelV v u → Q u s') : wpAny (model X.prog X.w) A (getAttr (.ref a) f b) Q E s := by
  obtain ⟨mA, O, r, _, _, _⟩ := ins_get I.hok e
  obtain ⟨u, hu, ru⟩ := RelO.some_of (v := v) (o := mA f) (by rw [← l]; exact r f)
  exact get_map I.kIn O (c.get f) c.hd n hu (handed_of ru) (h u _ (I.tok _) ru)

theorem getcon_ok {b : Bool} {u : Value} {Q : Value → Shared → Prop} (I : Inv X pins σ H s) (e : H a = some (.ins C dx fs)) (c : Cls X.K C) (k : Con X.K C f v u) (l : fs.lookup f = none)
    (h : ∀ s', Inv X pins σ H s' → Q u s') : wpAny (model X.prog X.w) A (getAttr (.ref a) f b) Q E s := by
  obtain ⟨mA, O, r, _, _, _⟩ := ins_get I.hok e
  have hn : mA f = none := RelO.none_of (by rw [← l]; exact r f)
  exact get_const I.kIn O (c.get f) c.hd k.at_ k.get k.cp hn (handed_of k.rel) (h _ (I.tok _))

theorem getmeth_ok {m : Str} {g : Addr} {pl : Sem Bool} {Q : Value × List Value → Shared → Prop} (I : Inv X pins σ H s) (e : H a = some (.ins C dx fs)) (c : Cls X.K C) (k : Meth X.K C m g) (l : fs.lookup m = none)
    (h : Q (.ref g, [.ref a]) s) : wpAny (model X.prog X.w) A (getMethod (.ref a) m pl) Q E s := by
  obtain ⟨mA, O, r, _, _, _⟩ := ins_get I.hok e
  have hn : mA m = none := RelO.none_of (by rw [← l]; exact r m)
  exact get_meth I.kIn O (c.get m) k.at_ k.fn hn h

theorem setattr_ok {y : V} {u : Value} {Q : Unit → Shared → Prop} (I : Inv X pins σ H s) (e : H a = some (.ins C dx fs)) (c : Cls X.K C) (n : NoAttr X.K C f) (hl : fs.length < 1000) (ry : RelV y u)
    (h : ∀ s', Inv X pins σ (upd H a (.ins C dx (putF f y fs))) s' → Q () s') : wpAny (model X.prog X.w) A (setAttr (.ref a) f u) Q E s := by
  obtain ⟨mA, O, r, wi, _, ho⟩ := ins_get I.hok e
  have hz : (fs.map (·.1)).length ≤ sizeLine := by rw [List.length_map, sizeLine_eq]; omega
  refine set_map I.kIn O c.sa c.po n.taker c.hd wi hz fun h' O' sb => h _ ?_
  have hd : ∃ o, h'.get? dx = some o := let ⟨o, _, _, e', _⟩ := O'.ns; ⟨o, e'⟩
  refine I.write (x := a) (e := dx) (by rw [e]; exact True.intro) (.inr ho) (fun b q hb z => (sb.2 b hb).trans z) hd ?_
  refine ⟨by rw [upd_ne O.ne]; exact ho, ?_, O.ne, O'.obj, _, O'.ns, fun g => ?_, fun g hg => ?_⟩
  · have := length_putF f y fs; omega
  · show RelO ((putF f y fs).lookup g) (if g = f then some u else mA g)
    rw [lookup_putF]
    by_cases q : g = f
    · rw [if_pos q, if_pos q]; exact ry
    · rw [if_neg q, if_neg q]; exact r g
  · by_cases q : g = f
    · rw [q]; exact (keys_putF f y fs).1
    · refine (keys_putF f y fs).2 g (wi g fun z => hg ?_)
      show (if g = f then some u else mA g) = none
      rw [if_neg q]; exact z

/-- a new instance, tracked, without attributes -/
theorem Inv.made (I : Inv X pins σ H s) : Inv X pins σ (upd (upd H s.heap.objs.size (.own (s.heap.objs.size + 1))) (s.heap.objs.size + 1) (.ins C s.heap.objs.size []))
    { s with heap := (s.heap.push PySem.W.emptyDict).push (PySem.W.instObj C s.heap.objs.size) } := by
  have e1 : (s.heap.push PySem.W.emptyDict).get? s.heap.objs.size = some PySem.W.emptyDict := Heap.get?_push_size s.heap rfl
  have e2 : ((s.heap.push PySem.W.emptyDict).push (PySem.W.instObj C s.heap.objs.size)).get? (s.heap.objs.size + 1) = some (PySem.W.instObj C s.heap.objs.size) := by
    have := Heap.get?_push_size (s.heap.push PySem.W.emptyDict) (o := PySem.W.instObj C s.heap.objs.size) rfl
    rwa [Heap.size_push] at this
  have e3 : (s.heap.push PySem.W.emptyDict).Ns s.heap.objs.size (fun _ => none) := ⟨PySem.W.emptyDict, #[], _, e1, rfl, (fun e he => absurd he (by simp)), fun _ => rfl⟩
  have I1 := I.laid (a := s.heap.objs.size) (o := .own (s.heap.objs.size + 1)) (h' := s.heap.push PySem.W.emptyDict) (t' := s.toks) (fun b u q => Heap.get?_push_of_some _ q) (Nat.le_refl _) ⟨_, e1⟩
  refine I1.laid (a := s.heap.objs.size + 1) (o := .ins C s.heap.objs.size []) (t' := s.toks) (fun b u q => Heap.get?_push_of_some _ q) (Nat.le_of_eq (Heap.size_push _ _)) ?_
  have ne : s.heap.objs.size ≠ s.heap.objs.size + 1 := Nat.ne_of_lt (Nat.lt_succ_self _)
  refine ⟨by rw [upd_ne ne, upd_same], Nat.zero_le _, ne, e2, fun _ => none, (Heap.Ns1.of_empty e3).at fun o q => Heap.get?_push_of_some _ q, fun _ => True.intro, fun y hy => absurd rfl hy⟩

/-- e.f where nothing but the object is asked: through attributeBase (super) and the last hold -/
theorem attr_of {prog : Program} {w : World} {env : Env} {e : Expr} {f : Str} {pos : Pos} {s : Shared} {Q : Value → Shared → Prop} (hb : attributeBase e f env (eval e env) = eval e env)
    (h : wpAny (model prog w) A (eval e env) (fun o s₁ => wpAny (model prog w) A (getAttr o f true) Q E s₁) E s) : wpAny (model prog w) A (eval (.Attribute e f pos) env) Q E s :=
  Attribute_any_ h (by rw [arm_eval_Attribute, hb])
end

/-! ### readings and rules -/
/-- e.f, an attribute of the instance -/
def tFld (K : PySem.W.Frag) (ta : TE) (f : Str) : TE := fun σ H Q => ta σ H fun x H1 => ∃ a C dx fs v, x = .ref a ∧ H1 a = some (.ins C dx fs) ∧ Cls K C ∧ NoAttr K C f ∧ fs.lookup f = some v ∧ Q v H1
/-- e.f, a constant of the class -/
def tCon (K : PySem.W.Frag) (ta : TE) (f : Str) : TE := fun σ H Q => ta σ H fun x H1 => ∃ a C dx fs v u, x = .ref a ∧ H1 a = some (.ins C dx fs) ∧ Cls K C ∧ Con K C f v u ∧ fs.lookup f = none ∧ Q v H1
/-- e.f = value -/
def sFld (K : PySem.W.Frag) (ta tv : TE) (f : Str) : TS := fun D σ H => tv σ H fun y H1 => ta σ H1 fun x H2 => ∃ a C dx fs, x = .ref a ∧ H2 a = some (.ins C dx fs) ∧ Cls K C ∧ NoAttr K C f ∧ fs.length < 1000 ∧
  D.nx σ (upd H2 a (.ins C dx (putF f y fs)))
/-- an augmented operator on two values -/
def InOp (X : Cx) (op : Operator) (rd : V → V → Hp → VK → Prop) : Prop :=
  ∀ (pins : List (Addr × Obj)) (s : Shared) (σ : St) (H : Hp) (x y : V) (u v : Value) (Q : VK), Inv X pins σ H s → RelV x u → RelV y v → rd x y H Q → wpAny (model X.prog X.w) X.A (inplaceOp op u v) (EP X pins σ Q) X.xe s
/-- e.f op= value -/
def sFldAug (K : PySem.W.Frag) (ta tv : TE) (rd : V → V → Hp → VK → Prop) (f : Str) : TS := fun D σ H => ta σ H fun x H1 => ∃ a C dx fs v, x = .ref a ∧ H1 a = some (.ins C dx fs) ∧ Cls K C ∧ NoAttr K C f ∧ fs.lookup f = some v ∧
  tv σ H1 fun y H2 => rd v y H2 fun z H3 => ∃ dx' fs', H3 a = some (.ins C dx' fs') ∧ fs'.length < 1000 ∧ D.nx σ (upd H3 a (.ins C dx' (putF f z fs')))

section
variable {X : Cx} {o e value : Expr} {f : Str} {pos pos' tpos : Pos} {ta tv : TE}
theorem pe_fld (he : PE X e ta) (hb : attributeBase e f X.env (eval e X.env) = eval e X.env) : PE X (.Attribute e f pos) (tFld X.K ta f) := by
  intro pins s σ H Q I h
  refine attr_of hb (thn (he pins s σ H _ I h) fun u s1 ⟨x, H1, I1, rx, a, C, dx, fs, v, ex, ea, c, n, l, q⟩ => ?_)
  subst ex
  obtain rfl : u = Value.ref a := rx
  exact getattr_ok I1 ea c n l fun u' s2 I2 ru => ⟨v, H1, I2, ru, q⟩
theorem pe_con (he : PE X e ta) (hb : attributeBase e f X.env (eval e X.env) = eval e X.env) : PE X (.Attribute e f pos) (tCon X.K ta f) := by
  intro pins s σ H Q I h
  refine attr_of hb (thn (he pins s σ H _ I h) fun u s1 ⟨x, H1, I1, rx, a, C, dx, fs, v, u0, ex, ea, c, k, l, q⟩ => ?_)
  subst ex
  obtain rfl : u = Value.ref a := rx
  exact getcon_ok I1 ea c k l fun s2 I2 => ⟨v, H1, I2, k.rel, q⟩
theorem ps_fld (ha : PE X o ta) (hv : PE X value tv) (hs : swapsWith value (some (.Attribute o f pos')) pos.line X.env = pure false) : PS X (.Assign [.Attribute o f pos'] value pos) (sFld X.K ta tv f) := by
  intro pins s σ H D I h
  refine plainObj_wpAny_Assign_Attribute (thn (hv pins s σ H _ I h) fun u s1 ⟨y, H1, I1, ry, q⟩ => thn (ha pins s1 σ H1 _ I1 q) fun ov s2 ⟨x, H2, I2, rx, a, C, dx, fs, ex, ea, c, n, l, q2⟩ => ?_) hs
  subst ex
  obtain rfl : ov = Value.ref a := rx
  exact setattr_ok I2 ea c n l ry fun s3 I3 => ⟨σ, _, I3, q2⟩
theorem ps_fldaug {op : Operator} {rd : V → V → Hp → VK → Prop} (ha : PE X o ta) (hv : PE X value tv) (hop : InOp X op rd) : PS X (.AugAssign (.Attribute o f tpos) op value pos) (sFldAug X.K ta tv rd f) := by
  intro pins s σ H D I h
  refine wpAny_AugAssign_AttributeAny (thn (ha pins s σ H _ I h) fun ov s1 ⟨x, H1, I1, rx, a, C, dx, fs, v, ex, ea, c, n, l, q⟩ => ?_)
  subst ex
  obtain rfl : ov = Value.ref a := rx
  refine getattr_ok I1 ea c n l fun u s2 I2 ru => thn (hv pins s2 σ H1 _ I2 q) fun w3 s3 ⟨y, H2, I3, ry, q3⟩ => thn (hop pins s3 σ H2 v y u w3 _ I3 ru ry q3) fun w4 s4 ⟨z, H3, I4, rz, dx', fs', ea', l', q4⟩ => ?_
  exact setattr_ok I4 ea' c n l' rz fun s5 I5 => ⟨σ, _, I5, q4⟩
def rAdd : V → V → Hp → VK → Prop := fun x y H Q => ∃ i j, x = .int i ∧ y = .int j ∧ Q (.int (i + j)) H
def rSub : V → V → Hp → VK → Prop := fun x y H Q => ∃ i j, x = .int i ∧ y = .int j ∧ Q (.int (i - j)) H
theorem in_add : InOp X .Add rAdd := by
  rintro pins s σ H x y u v Q I rx ry ⟨i, j, rfl, rfl, q⟩
  obtain ⟨t, rfl⟩ := (show ∃ t, u = Value.int i t from rx)
  obtain ⟨t', rfl⟩ := (show ∃ t', v = Value.int j t' from ry)
  exact PyProof.Rows.iadd_int ⟨.int (i + j), H, I.tok _, ⟨_, rfl⟩, q⟩
theorem in_sub : InOp X .Sub rSub := by
  rintro pins s σ H x y u v Q I rx ry ⟨i, j, rfl, rfl, q⟩
  obtain ⟨t, rfl⟩ := (show ∃ t, u = Value.int i t from rx)
  obtain ⟨t', rfl⟩ := (show ∃ t', v = Value.int j t' from ry)
  exact PyProof.Rows.isub_int ⟨.int (i - j), H, I.tok _, ⟨_, rfl⟩, q⟩

/-- what is between an instance and its method: the tree of a method call -/
theorem methcall_of {pl : Sem Bool} {m : Str} {apos : Pos} {args : List Expr} {pins : List (Addr × Obj)} {s : Shared} {σ : St} {H : Hp} {Q : Value → Shared → Prop} {te : TE} (he : PE X e te) (I : Inv X pins σ H s)
    (h : te σ H fun x H1 => ∃ a C dx fs g, x = .ref a ∧ H1 a = some (.ins C dx fs) ∧ Cls X.K C ∧ Meth X.K C m g ∧ fs.lookup m = none ∧
      ∀ s1, Inv X pins σ H1 s1 → wpAny (model X.prog X.w) X.A (callWith pos (.ref g) [.ref a] (backTo pos (starEach args X.env)) (backToKw pos (keywordEach [] X.env))) Q X.xe s1)
    (ht : eval (.Call (.Attribute e m apos) args [] pos) X.env = (do
      let ov ← eval e X.env
      standAt apos.atName
      let (f, first) ← holding [ov] (getMethod ov m pl)
      callWith pos f first (backTo pos (starEach args X.env)) (backToKw pos (keywordEach [] X.env)))) :
    wpAny (model X.prog X.w) X.A (eval (.Call (.Attribute e m apos) args [] pos) X.env) Q X.xe s := by
  refine PySem.W.methodCall_KW (pl := pl) (thn (he pins s σ H _ I h) fun u s1 ⟨x, H1, I1, rx, a, C, dx, fs, g, ex, ea, c, k, l, q⟩ => ?_) ht
  subst ex
  obtain rfl : u = Value.ref a := rx
  exact getmeth_ok I1 ea c k l (q s1 I1)
end

/-! ### isinstance -/
section
variable {X : Cx} {pins : List (Addr × Obj)} {σ : St} {H : Hp} {s : Shared} {A : Around} {E : Value → Shared → Prop} {Q : Value → Shared → Prop} {c : Value} {b : Bool}
/-- the type of a value, as the fragment's deciders take it; for an instance its class -/
inductive TyOf (K : PySem.W.Frag) (H : Hp) : V → Value → Prop where
  | non : TyOf K H .non (.type "NoneType")
  | bl (x : Bool) : TyOf K H (.bl x) (.type "bool")
  | int (i : Int) : TyOf K H (.int i) (.type "int")
  | str (x : Str) : TyOf K H (.str x) (.type "str")
  | flt (x : UInt64) : TyOf K H (.flt x) (.type "float")
  | lst {a : Addr} {xs : List V} (e : H a = some (.lst xs)) : TyOf K H (.ref a) (.type "list")
  | frz {a : Addr} {o : Obj} {xs : List V} (e : H a = some (.frz o (.lst xs))) : TyOf K H (.ref a) (.type "list")
  | tup {a : Addr} {xs : List V} (e : H a = some (.tup xs)) : TyOf K H (.ref a) (.type "tuple")
  | dK {a : Addr} {kvs : List (Key × V)} (e : H a = some (.dK kvs)) : TyOf K H (.ref a) (.type "dict")
  | dT {a : Addr} {kvs : List (List Key × V)} (e : H a = some (.dT kvs)) : TyOf K H (.ref a) (.type "dict")
  | ins {a C dx : Addr} {fs : List (Str × V)} (e : H a = some (.ins C dx fs)) (cl : Cls K C) (ha : PySem.W.findIn K (.ref C) "__class__" = some (some (.builtin "object.__class__")))
      (hn : PySem.W.specialIn K (.builtin "object.__class__") "__get__" = some (some (.builtin "getset_descriptor.__get__"))) (htk : PySem.W.takesIn K (.builtin "object.__class__") = some true)
      (hm : PySem.W.mroIn K C (.type "object") = some true) : TyOf K H (.ref a) (.ref C)
/-- isinstance(x, c) for one class c, a built-in or an own one: kitOne's answer -/
theorem isinst_ok {x : V} {u t : Value} (I : Inv X pins σ H s) (rx : RelV x u) (ty : TyOf X.K H x t) (e : PySem.W.kitOne X.K t c = some b) (h : ∀ tk, Q (.bool b) { s with toks := tk }) :
    wpAny (model X.prog X.w) A (call (.builtin "isinstance") [u, c]) Q E s := by
  cases ty with
  | non => cases (show u = Value.none from rx); exact PySem.W.kia_one PySem.W.kitx_none I.kIn True.intro e (fun z => nomatch z) h
  | bl y => cases (show u = Value.bool y from rx); exact PySem.W.kia_one PySem.W.kitx_bool I.kIn True.intro e (fun z => nomatch z) h
  | int i => obtain ⟨t, q⟩ := (show ∃ t, u = Value.int i t from rx); cases q; exact PySem.W.kia_one PySem.W.kitx_int I.kIn True.intro e (fun z => nomatch z) h
  | str y => obtain ⟨t, q⟩ := (show ∃ t, u = Value.str y t from rx); cases q; exact PySem.W.kia_one PySem.W.kitx_str I.kIn True.intro e (fun z => nomatch z) h
  | flt y => obtain ⟨t, q⟩ := (show ∃ t, u = Value.float y t from rx); cases q; exact PySem.W.kia_one PySem.W.kitx_float I.kIn True.intro e (fun z => nomatch z) h
  | @lst a xs ea =>
    cases (show u = Value.ref a from rx)
    obtain ⟨_, _, n, _, h1⟩ := (show ObjOk X.prog X.w H s.heap a (.lst xs) from I.hok a _ ea)
    exact PySem.W.kia_one PySem.W.kitx_list I.kIn ⟨_, h1, rfl⟩ e (fun z => nomatch z) h
  | @frz a ob xs ea =>
    cases (show u = Value.ref a from rx)
    obtain ⟨_, _, _, n, _, h1⟩ := (show ObjOk X.prog X.w H s.heap a (.frz ob (.lst xs)) from I.hok a _ ea)
    exact PySem.W.kia_one PySem.W.kitx_list I.kIn ⟨_, h1, rfl⟩ e (fun z => nomatch z) h
  | @tup a xs ea =>
    cases (show u = Value.ref a from rx)
    obtain ⟨_, _, _, p⟩ := (show ObjOk X.prog X.w H s.heap a (.tup xs) from I.hok a _ ea)
    obtain ⟨o, h1, h2, _⟩ := p
    exact PySem.W.kia_one PySem.W.kitx_tuple I.kIn ⟨o, h1, h2⟩ e (fun z => nomatch z) h
  | @dK a kvs ea =>
    cases (show u = Value.ref a from rx)
    obtain ⟨_, _, vs, _, p⟩ := (show ObjOk X.prog X.w H s.heap a (.dK kvs) from I.hok a _ ea)
    obtain ⟨o, es, ep, h1, h2, _⟩ := p
    exact PySem.W.kia_one PySem.W.kitx_dict I.kIn ⟨o, h1, h2.1⟩ e (fun z => nomatch z) h
  | @dT a kvs ea =>
    cases (show u = Value.ref a from rx)
    obtain ⟨_, _, xs, _, o, es, ep, h1, h2, _⟩ := (show ObjOk X.prog X.w H s.heap a (.dT kvs) from I.hok a _ ea)
    exact PySem.W.kia_one PySem.W.kitx_dict I.kIn ⟨o, h1, h2.1⟩ e (fun z => nomatch z) h
  | @ins a C dx fs ea cl ha hn htk hm =>
    cases (show u = Value.ref a from rx)
    obtain ⟨mA, O, _⟩ := ins_get I.hok ea
    obtain ⟨od, J, _⟩ := O.look
    exact PySem.W.kia_one (PySem.W.kitx_own (cl.get _) cl.hd ha hn htk hm) I.kIn J e (fun z => nomatch z) h
end
end L2

namespace L2
open PySem PySem.Spec PyProof.Rows

/-! ### room -/
structure Room (k : Nat) (A : Around) : Prop where
  hd : A.handled = none
  dp : A.depth + 3 * k + 5 < recursionLimit
  un : A.units + 16 * k + 200 < cLine
theorem Room.mono {j k : Nat} {A : Around} (r : Room k A) (h : j ≤ k) : Room j A := ⟨r.hd, by have := r.dp; omega, by have := r.un; omega⟩
theorem Room.deeper {k : Nat} {A : Around} (r : Room (k + 1) A) (env : Env) : Room k (A.deeper env) :=
  ⟨r.hd, by have := r.dp; show A.depth + 1 + 3 * k + 5 < _; omega, by have := r.un; show A.units + 3 + 16 * k + 200 < _; omega⟩
theorem Room.in1 {k : Nat} {A : Around} (r : Room (k + 1) A) : Room k A.in1 :=
  ⟨r.hd, by have := r.dp; show A.depth + 3 * k + 5 < _; omega, by have := r.un; show A.units + 1 + 16 * k + 200 < _; omega⟩
theorem make_depth {A : Around} {C : Addr} {us : List Value} {kw : List (Str × Value)} : (A.under (.builtin "type.__call__" ⟨.ref C :: us, kw⟩)).depth = A.depth + 1 := by
  first | rfl | simp [Around.under, Code.weight, Code.isCreation, Code.isGuard, Code.isCaller, Code.frames, Code.isFrame, guardIds]
theorem make_units {A : Around} {C : Addr} {us : List Value} {kw : List (Str × Value)} : (A.under (.builtin "type.__call__" ⟨.ref C :: us, kw⟩)).units = A.units + 1 := by
  first | rfl | simp [Around.under, Code.cUnits, Code.frames, Code.isFrame]
theorem Room.make {k : Nat} {A : Around} (r : Room (k + 1) A) (C : Addr) (us : List Value) (kw : List (Str × Value)) : Room k (A.under (.builtin "type.__call__" ⟨.ref C :: us, kw⟩)) :=
  ⟨r.hd, by have := r.dp; rw [make_depth]; omega, by have := r.un; rw [make_units]; omega⟩
theorem Room.depth {k : Nat} {A : Around} (r : Room k A) : A.depth < recursionLimit := by have := r.dp; omega
theorem Room.units {k : Nat} {A : Around} (r : Room k A) : A.units + 64 < cLine := by have := r.un; omega
theorem Room.units0 {k : Nat} {A : Around} (r : Room k A) : A.units < cLine := by have := r.un; omega

/-! ### argument lists and displays -/
def tNil : TA := fun _ H Q => Q [] H
def tCons (ta : TE) (tr : TA) : TA := fun σ H Q => ta σ H fun x H1 => tr σ H1 fun xs H2 => Q (x :: xs) H2
section
variable {X : Cx} {e : Expr} {es : List Expr} {te : TE} {t : TA} {pos : Pos}
theorem pa_nil : PA X [] tNil := fun _ _ _ _ H Q I h => Calls.spliced_nil ⟨[], H, I, .nil, h⟩
theorem pa_cons (ha : PE X e te) (hr : PA X es t) (hs : starEach (e :: es) X.env = (false, eval e X.env) :: starEach es X.env := by rfl) : PA X (e :: es) (tCons te t) := by
  intro pos pins s σ H Q I h
  rw [hs]
  show wpAny _ _ (spliced ((false, eval e X.env) :: backTo pos (starEach es X.env))) _ _ s
  refine Calls.spliced_cons (thn (ha pins s σ H _ I h) fun u s1 ⟨x, H1, I1, r1, q1⟩ => ?_)
  exact thn (hr pos pins s1 σ H1 _ I1 q1) fun us s2 ⟨xs, H2, I2, r2, q2⟩ => ⟨x :: xs, H2, I2, .cons r1 r2, q2⟩

/-- a tuple, a list of written items -/
def tTup (t : TA) : TE := fun σ H Q => t σ H fun xs H1 => xs.length ≤ sizeLine ∧ ∀ p, H1 p = none → Q (.ref p) (upd H1 p (.tup xs))
def tLst (t : TA) : TE := fun σ H Q => t σ H fun xs H1 => xs.length ≤ sizeLine ∧ ∀ p, H1 p = none → Q (.ref p) (upd H1 p (.lst xs))
theorem pe_tup {x1} (h : PA X es t) : PE X (.Tuple es x1 pos) (tTup t) := by
  intro pins s σ H Q I hq
  refine wpAny_Tuple_spliced (thn (h pos pins s σ H _ I hq) fun us s1 ⟨xs, H1, I1, r, z, q⟩ => ⟨by rw [← r.length]; exact z, ?_⟩)
  have hf : H1 s1.heap.objs.size = none := I1.hok.fresh (Nat.le_refl _)
  refine ⟨.ref s1.heap.objs.size, upd H1 s1.heap.objs.size (.tup xs), I1.laid (t' := s1.toks) (fun b u e => Heap.get?_push_of_some _ e) (Nat.le_refl _) ?_, rfl, q _ hf⟩
  exact ⟨z, us, r, ⟨_, Heap.get?_push_size _ rfl, rfl, _, rfl⟩⟩
theorem pe_lst (h : PA X es t) : PE X (.List es pos) (tLst t) := by
  intro pins s σ H Q I hq
  refine wpAny_List_spliced (thn (h pos pins s σ H _ I hq) fun us s1 ⟨xs, H1, I1, r, z, q⟩ => ⟨by rw [← r.length]; exact z, ?_⟩)
  have hf : H1 s1.heap.objs.size = none := I1.hok.fresh (Nat.le_refl _)
  refine ⟨.ref s1.heap.objs.size, upd H1 s1.heap.objs.size (.lst xs), I1.laid (t' := s1.toks) (fun b u e => Heap.get?_push_of_some _ e) (Nat.le_refl _) ?_, rfl, q _ hf⟩
  exact ⟨z, us, 0, r, Heap.get?_push_size _ rfl⟩
end

/-! ### what a def promises -/
/-- a def's promise: the bound arguments in the parameters' order, the heap, the wanted end, the wanted exception -/
abbrev Sp := List V → Hp → VK → XK → Prop
/-- how an exception lies behind a call (file 08 gives it): the callers' frames, abstract heap and state ahead of the call, the wish, the exception, the state -/
abbrev CXT := List Env → Hp → Shared → XK → Value → Shared → Prop

/-- the state at a call -/
structure Env0 (P : Program) (w : World) (K : PySem.W.Frag) (mg : Str → Option Value) (base : Heap) (A : Around) (outer : List Env) (s : Shared) (H : Hp) : Prop where
  frames : A.frames = some outer
  mod : Mod K mg base
  bs : ∀ b o, base.get? b = some o → s.heap.get? b = some o ∧ H b = none
  bsz : base.objs.size ≤ s.heap.objs.size
  funs : s.heap.FunFrames base outer
  frf : ∀ b ∈ frs outer, H b = none
  hok : HOk P w H s.heap
  bare : AllBare s.gens
/-- a call's end -/
def CE (outer : List Env) (P : Program) (w : World) (H : Hp) (s : Shared) (Q : VK) (u : Value) (s' : Shared) : Prop :=
  ∃ v H', s'.os = s.os ∧ AllBare s'.gens ∧ Un (frs outer) [] H H' s.heap s'.heap ∧ HOk P w H' s'.heap ∧ RelV v u ∧ Q v H'
def CR (CX : CXT) (outer : List Env) (P : Program) (w : World) (H : Hp) (s : Shared) (Q : VK) (E : XK) (r : Result) (s' : Shared) : Prop :=
  match r with
  | .ok (.ret u) => CE outer P w H s Q u s'
  | .ok _ => False
  | .error e => CX outer H s E e s'
structure FnOk (P : Program) (w : World) (K : PySem.W.Frag) (mg : Str → Option Value) (base : Heap) (CX : CXT) (k : Nat) (f : Addr) (fd : FuncData) (ps : List Str) (sp : Sp) : Prop where
  len : ∀ vs H Q E, sp vs H Q E → vs.length = ps.length
  run : ∀ (A : Around) (outer : List Env) (s : Shared) (H : Hp) (args : Args) (us : List Value) (vs : List V) (Q : VK) (E : XK), Room k A → Env0 P w K mg base A outer s H → BindsTo s fd args (ps.zip us) → Vals vs us → sp vs H Q E →
    codeAny (model P w) A (.call (.ref f) args) (CR CX outer P w H s Q E) s
theorem FnOk.mono {P : Program} {w : World} {K : PySem.W.Frag} {mg : Str → Option Value} {base : Heap} {CX : CXT} {j k : Nat} {f : Addr} {fd : FuncData} {ps : List Str} {sp : Sp} (F : FnOk P w K mg base CX j f fd ps sp) (h : j ≤ k) :
    FnOk P w K mg base CX k f fd ps sp := ⟨F.len, fun A outer s H args us vs Q E hr => F.run A outer s H args us vs Q E (hr.mono h)⟩
/-- a weaker promise -/
theorem FnOk.imp {P : Program} {w : World} {K : PySem.W.Frag} {mg : Str → Option Value} {base : Heap} {CX : CXT} {k : Nat} {f : Addr} {fd : FuncData} {ps : List Str} {sp sp' : Sp} (F : FnOk P w K mg base CX k f fd ps sp)
    (h : ∀ vs H Q E, sp' vs H Q E → sp vs H Q E) : FnOk P w K mg base CX k f fd ps sp' :=
  ⟨fun vs H Q E q => F.len vs H Q E (h _ _ _ _ q), fun A outer s H args us vs Q E hr he hb hv hs => F.run A outer s H args us vs Q E hr he hb hv (h _ _ _ _ hs)⟩

theorem Env0.make {P : Program} {w : World} {K : PySem.W.Frag} {mg : Str → Option Value} {base : Heap} {A : Around} {outer : List Env} {s : Shared} {H : Hp} (e : Env0 P w K mg base A outer s H) (C : Addr) (us : List Value) (kw : List (Str × Value)) :
    Env0 P w K mg base (A.under (.builtin "type.__call__" ⟨.ref C :: us, kw⟩)) outer s H := ⟨by first | exact e.frames | (simpa [Around.under, Code.envs, Code.isFrame, pushEnvs] using e.frames), e.mod, e.bs, e.bsz, e.funs, e.frf, e.hok, e.bare⟩
theorem Env0.in1 {P : Program} {w : World} {K : PySem.W.Frag} {mg : Str → Option Value} {base : Heap} {A : Around} {outer : List Env} {s : Shared} {H : Hp} (e : Env0 P w K mg base A outer s H) :
    Env0 P w K mg base A.in1 outer s H := ⟨e.frames, e.mod, e.bs, e.bsz, e.funs, e.frf, e.hok, e.bare⟩

section
variable {X : Cx} {pins : List (Addr × Obj)} {σ : St} {H : Hp} {s s' : Shared}
/-- from a body: what a callee wants -/
theorem Inv.env0 (I : Inv X pins σ H s) : Env0 X.prog X.w X.K X.mg X.base X.A X.stack s H :=
  ⟨I.ok.frames, I.ok.mod, I.bs, Nat.le_trans I.ok.bsz I.sz, I.stack, I.stkFree, I.hok, I.bare⟩
/-- behind a call -/
theorem Inv.after {Q : VK} {u : Value} (I : Inv X pins σ H s) (h : CE X.stack X.prog X.w H s Q u s') : EP X pins σ Q u s' := by
  obtain ⟨v, H', os, bare, un, hok, r, q⟩ := h
  obtain ⟨hh, g, d, t, os'⟩ := s'
  obtain rfl : os' = s.os := os
  exact ⟨v, H', I.call (h' := hh) (g' := g) (d' := d) (t' := t) (ch := []) un hok bare (fun b z => absurd z (by simp)), r, q⟩
end

/-! ### calls -/
/-- f(..): the written arguments, then the defaults dvs; E: what is wanted of an exception -/
def tCall (sp : Sp) (dvs : List V) (E : XK) (t : TA) : TE := fun σ H Q => t σ H fun vs H1 => sp (vs ++ dvs) H1 Q E
/-- o.m(..) of an instance of the class at C -/
def tMeth (C : Addr) (m : Str) (sp : Sp) (dvs : List V) (E : XK) (ta : TE) (t : TA) : TE := fun σ H Q => ta σ H fun x H1 => ∃ a dx fs, x = .ref a ∧ H1 a = some (.ins C dx fs) ∧ fs.lookup m = none ∧
  t σ H1 fun vs H2 => sp (x :: (vs ++ dvs)) H2 Q E
/-- C(..): a new instance and its dict, then __init__ -/
def tMake (C : Addr) (sp : Sp) (dvs : List V) (E : XK) (t : TA) : TE := fun σ H Q => t σ H fun vs H1 => ∀ x dx, H1 x = none → H1 dx = none → dx ≠ x →
  sp (.ref x :: (vs ++ dvs)) (upd (upd H1 dx (.own x)) x (.ins C dx [])) (fun v H2 => v = .non ∧ Q (.ref x) H2) E

/-- how the parameters are bound: us the positional arguments, kw the keywords' values by name, ds the defaults that fill up -/
def Binds (K : PySem.W.Frag) (fd : FuncData) (ps : List Str) (ds : List Value) : Prop :=
  ∀ (s : Shared) (us : List Value), K.In s.heap → (us ++ ds).length = ps.length → BindsTo s fd ⟨us, []⟩ (ps.zip (us ++ ds))
/-- every parameter is given -/
theorem Binds.all {K : PySem.W.Frag} {fd : FuncData} {ps : List Str} (h : ∀ us : List Value, us.length = ps.length → bindArgs fd ⟨us, []⟩ = pure (ps.zip us)) : Binds K fd ps [] := fun s us _ hl => by
  rw [List.append_nil] at hl ⊢
  exact .of_eq (h us hl)

/-- an exception of a callee reaches what this body wants of exceptions -/
def Passes (CX : CXT) (X : Cx) (E : XK) : Prop := ∀ (pins : List (Addr × Obj)) (σ : St) (H : Hp) (s : Shared) (e : Value) (s' : Shared), Inv X pins σ H s → CX X.stack H s E e s' → X.xe e s'

section
variable {X : Cx} {CX : CXT} {k : Nat} {f C : Addr} {fd : FuncData} {ps : List Str} {sp : Sp} {dvs : List V} {ds : List Value} {E : XK} {x m : Str} {p pos apos : Pos} {e o : Expr} {es : List Expr} {ta : TE} {t : TA}

/-- the callee runs -/
theorem run_fn {pins : List (Addr × Obj)} {σ : St} {H : Hp} {s : Shared} {Q : VK} {us : List Value} {vs : List V} (F : FnOk X.prog X.w X.K X.mg X.base CX k f fd ps sp) (hr : Room k X.A) (hb : Binds X.K fd ps ds) (hd : Vals dvs ds) (hx : Passes CX X E)
    (I : Inv X pins σ H s) (r : Vals vs us) (h : sp (vs ++ dvs) H Q E) : wpAny (model X.prog X.w) X.A (call (.ref f) us) (EP X pins σ Q) X.xe s := by
  have r2 : Vals (vs ++ dvs) (us ++ ds) := r.append hd
  have hl : (us ++ ds).length = ps.length := by rw [← r2.length]; exact F.len _ _ _ _ h
  refine wpAny_call (codeAny_mono (F.run X.A X.stack s H ⟨us, []⟩ (us ++ ds) (vs ++ dvs) Q E hr I.env0 (hb s us I.kIn hl) r2 h) fun r s' hq => ?_)
  cases r with
  | error e => exact hx pins σ H s e s' I hq
  | ok fl =>
    cases fl with
    | ret u => exact I.after hq
    | next => exact False.elim hq
    | brk => exact False.elim hq
    | cont => exact False.elim hq

theorem pe_call (F : FnOk X.prog X.w X.K X.mg X.base CX k f fd ps sp) (hr : Room k X.A) (hg : Gl X x) (hm : X.mg x = some (.ref f)) (hk : PySem.W.keepIn X.K (.ref f) = true) (hb : Binds X.K fd ps ds) (hd : Vals dvs ds) (hx : Passes CX X E)
    (ha : PA X (e :: es) t) (hdb : (x == ("__debug__" : Str)) = false := by decide) (he : starEach (e :: es) X.env = (false, eval e X.env) :: starEach es X.env := by rfl) (hpl : (backTo pos (starEach es X.env)).any (·.1) = false := by rfl) :
    PE X (.Call (.Name x p) (e :: es) [] pos) (tCall sp dvs E t) := by
  intro pins s σ H Q I h
  refine wpAny_Call_Name_kw (ld_glob I hg hm ?_ hdb)
  refine PySem.W.callWith_K (h₀ := X.base) I.ok.mod.kin hk (thn (ha pos pins s σ H _ I h) fun us s1 ⟨vs, H1, I1, r, q⟩ => ⟨I1.kIn, ?_⟩) he hpl
  exact run_fn F hr hb hd hx I1 r q
theorem pe_call0 (F : FnOk X.prog X.w X.K X.mg X.base CX k f fd ps sp) (hr : Room k X.A) (hg : Gl X x) (hm : X.mg x = some (.ref f)) (hk : PySem.W.keepIn X.K (.ref f) = true) (hb : Binds X.K fd ps ds) (hd : Vals dvs ds) (hx : Passes CX X E)
    (hdb : (x == ("__debug__" : Str)) = false := by decide) : PE X (.Call (.Name x p) [] [] pos) (tCall sp dvs E tNil) := by
  intro pins s σ H Q I h
  refine wpAny_Call_Name_kw (ld_glob I hg hm ?_ hdb)
  exact PySem.W.callWith_K0 I.kIn hk (run_fn (us := []) F hr hb hd hx I .nil h)

/-- o.m(e, ..) -/
theorem pe_meth {pl : Sem Bool} (he : PE X o ta) (c : Cls X.K C) (hm : Meth X.K C m f) (F : FnOk X.prog X.w X.K X.mg X.base CX k f fd ps sp) (hr : Room k X.A) (hb : Binds X.K fd ps ds) (hd : Vals dvs ds) (hx : Passes CX X E) (ha : PA X (e :: es) t)
    (hst : starEach (e :: es) X.env = (false, eval e X.env) :: starEach es X.env := by rfl) (hpl : (backTo pos (starEach es X.env)).any (·.1) = false := by rfl)
    (ht : eval (.Call (.Attribute o m apos) (e :: es) [] pos) X.env = (do
      let ov ← eval o X.env
      standAt apos.atName
      let (f, first) ← holding [ov] (getMethod ov m pl)
      callWith pos f first (backTo pos (starEach (e :: es) X.env)) (backToKw pos (keywordEach [] X.env))) := by rfl) :
    PE X (.Call (.Attribute o m apos) (e :: es) [] pos) (tMeth C m sp dvs E ta t) := by
  intro pins s σ H Q I h
  refine PySem.W.methodCall_KW (pl := pl) (thn (he pins s σ H _ I h) fun u s1 ⟨x, H1, I1, rx, a, dx, fs, ex, ea, l, q⟩ => ?_) ht
  subst ex
  obtain rfl : u = Value.ref a := rx
  refine getmeth_ok I1 ea c hm l ?_
  refine PySem.W.callWith_K (first := [.ref a]) (h₀ := X.base) I.ok.mod.kin hm.kp (thn (ha pos pins s1 σ H1 _ I1 q) fun us s2 ⟨vs, H2, I2, r, q2⟩ => ⟨I2.kIn, ?_⟩) hst hpl
  exact run_fn (us := .ref a :: us) (vs := .ref a :: vs) F hr hb hd hx I2 (.cons rfl r) q2
/-- o.m() -/
theorem pe_meth0 {pl : Sem Bool} (he : PE X o ta) (c : Cls X.K C) (hm : Meth X.K C m f) (F : FnOk X.prog X.w X.K X.mg X.base CX k f fd ps sp) (hr : Room k X.A) (hb : Binds X.K fd ps ds) (hd : Vals dvs ds) (hx : Passes CX X E)
    (ht : eval (.Call (.Attribute o m apos) [] [] pos) X.env = (do
      let ov ← eval o X.env
      standAt apos.atName
      let (f, first) ← holding [ov] (getMethod ov m pl)
      callWith pos f first (backTo pos (starEach [] X.env)) (backToKw pos (keywordEach [] X.env))) := by rfl) :
    PE X (.Call (.Attribute o m apos) [] [] pos) (tMeth C m sp dvs E ta tNil) := by
  intro pins s σ H Q I h
  refine PySem.W.methodCall_KW (pl := pl) (thn (he pins s σ H _ I h) fun u s1 ⟨x, H1, I1, rx, a, dx, fs, ex, ea, l, q⟩ => ?_) ht
  subst ex
  obtain rfl : u = Value.ref a := rx
  refine getmeth_ok I1 ea c hm l ?_
  exact PySem.W.callWith_K0 (first := [.ref a]) I1.kIn hm.kp (run_fn (us := [.ref a]) (vs := [.ref a]) F hr hb hd hx I1 (.cons rfl .nil) q)

/-- what a class must have to be made -/
structure Mk (K : PySem.W.Frag) (C f : Addr) : Prop where
  makes : PySem.W.makesIn K C = true
  init : PySem.W.findIn K (.ref C) "__init__" = some (some (.ref f))
  fn : PySem.W.isFn K (.ref f) = true
  kp : PySem.W.keepIn K (.ref C) = true

theorem run_make {pins : List (Addr × Obj)} {σ : St} {H : Hp} {s : Shared} {Q : VK} {us : List Value} {vs : List V} (M : Mk X.K C f) (F : FnOk X.prog X.w X.K X.mg X.base CX k f fd ps sp) (hr : Room (k + 1) X.A) (hb : Binds X.K fd ps ds) (hd : Vals dvs ds)
    (hx : Passes CX X E) (I : Inv X pins σ H s) (r : Vals vs us)
    (h : ∀ x dx, H x = none → H dx = none → dx ≠ x → sp (.ref x :: (vs ++ dvs)) (upd (upd H dx (.own x)) x (.ins C dx [])) (fun v H2 => v = .non ∧ Q (.ref x) H2) E) :
    wpAny (model X.prog X.w) X.A (call (.ref C) us) (EP X pins σ Q) X.xe s := by
  have hq := h (s.heap.objs.size + 1) s.heap.objs.size (I.hok.fresh (Nat.le_succ _)) (I.hok.fresh (Nat.le_refl _)) (Nat.ne_of_lt (Nat.lt_succ_self _))
  have I2 := Inv.made (C := C) I
  have r2 : Vals (V.ref (s.heap.objs.size + 1) :: (vs ++ dvs)) (Value.ref (s.heap.objs.size + 1) :: (us ++ ds)) := .cons rfl (r.append hd)
  have hl : (Value.ref (s.heap.objs.size + 1) :: us ++ ds).length = ps.length := by
    have e := r2.length
    rw [F.len _ _ _ _ hq] at e
    exact e.symm
  refine wpAny_call (make_map (f := f) I.kIn M.makes M.init (beq_iff_eq.mp M.fn) (codeAny_mono (F.run _ X.stack _ _ ⟨Value.ref (s.heap.objs.size + 1) :: us, []⟩ (Value.ref (s.heap.objs.size + 1) :: (us ++ ds)) _ _ E (hr.make C us [])
    (I2.env0.make C us []) (hb _ (Value.ref (s.heap.objs.size + 1) :: us) I2.kIn hl) r2 hq) fun r s' hq' => ?_))
  cases r with
  | error e => exact hx pins σ _ _ e s' I2 hq'
  | ok fl =>
    cases fl with
    | ret u =>
      obtain ⟨v, H', I3, rv, ev, q3⟩ := I2.after hq'
      subst ev
      exact ⟨rv, ⟨V.ref (s.heap.objs.size + 1), H', I3, rfl, q3⟩⟩
    | next => exact False.elim hq'
    | brk => exact False.elim hq'
    | cont => exact False.elim hq'
theorem pe_make (M : Mk X.K C f) (F : FnOk X.prog X.w X.K X.mg X.base CX k f fd ps sp) (hr : Room (k + 1) X.A) (hg : Gl X x) (hm : X.mg x = some (.ref C)) (hb : Binds X.K fd ps ds) (hd : Vals dvs ds) (hx : Passes CX X E)
    (ha : PA X (e :: es) t) (hdb : (x == ("__debug__" : Str)) = false := by decide) (he : starEach (e :: es) X.env = (false, eval e X.env) :: starEach es X.env := by rfl) (hpl : (backTo pos (starEach es X.env)).any (·.1) = false := by rfl) :
    PE X (.Call (.Name x p) (e :: es) [] pos) (tMake C sp dvs E t) := by
  intro pins s σ H Q I h
  refine wpAny_Call_Name_kw (ld_glob I hg hm ?_ hdb)
  refine PySem.W.callWith_K (h₀ := X.base) I.ok.mod.kin M.kp (thn (ha pos pins s σ H _ I h) fun us s1 ⟨vs, H1, I1, r, q⟩ => ⟨I1.kIn, ?_⟩) he hpl
  exact run_make M F hr hb hd hx I1 r q
theorem pe_make0 (M : Mk X.K C f) (F : FnOk X.prog X.w X.K X.mg X.base CX k f fd ps sp) (hr : Room (k + 1) X.A) (hg : Gl X x) (hm : X.mg x = some (.ref C)) (hb : Binds X.K fd ps ds) (hd : Vals dvs ds) (hx : Passes CX X E)
    (hdb : (x == ("__debug__" : Str)) = false := by decide) : PE X (.Call (.Name x p) [] [] pos) (tMake C sp dvs E tNil) := by
  intro pins s σ H Q I h
  refine wpAny_Call_Name_kw (ld_glob I hg hm ?_ hdb)
  exact PySem.W.callWith_K0 I.kIn M.kp (run_make (us := []) M F hr hb hd hx I .nil h)
end

/-! ### keywords -/
/-- the values of the keywords, from the left -/
def PK (X : Cx) (kws : List Keyword) (t : TA) : Prop :=
  ∀ (pos : Pos) (pins : List (Addr × Obj)) (s : Shared) (σ : St) (H : Hp) (Q : List V → Hp → Prop), Inv X pins σ H s → t σ H Q → wpAny (model X.prog X.w) X.A (evalAll ((backToKw pos (keywordEach kws X.env)).map (·.2))) (AP X pins σ Q) X.xe s
section
variable {X : Cx} {CX : CXT} {k : Nat} {f C : Addr} {fd : FuncData} {ps ks : List Str} {sp : Sp} {E : XK} {x m : Str} {p pos apos kpos : Pos} {e o : Expr} {es : List Expr} {kws : List Keyword} {te ta : TE} {t tk : TA} {nm : Option Str}
theorem pk_nil : PK X [] tNil := fun _ _ _ _ H Q I h => wpAny_evalAll_nil ⟨[], H, I, .nil, h⟩
theorem pk_cons (ha : PE X e te) (hr : PK X kws t) : PK X (⟨nm, e, kpos⟩ :: kws) (tCons te t) := by
  intro pos pins s σ H Q I h
  show wpAny _ _ (evalAll ((do let v ← eval e X.env; standAt pos; pure v) :: (backToKw pos (keywordEach kws X.env)).map (·.2))) _ _ s
  refine wpAny_evalAll_cons (wpAny_bind (thn (ha pins s σ H _ I h) fun u s1 ⟨x, H1, I1, r1, q1⟩ => wpAny_bind (wpAny_standAt (wpAny_pure ?_))))
  exact thn (hr pos pins s1 σ H1 _ I1 q1) fun us s2 ⟨xs, H2, I2, r2, q2⟩ => ⟨x :: xs, H2, I2, .cons r1 r2, q2⟩

/-- how a call with keywords binds: g puts the positional values us and the keywords' values ws (names ks) in the parameters' order, defaults among them -/
structure KBinds (K : PySem.W.Frag) (fd : FuncData) (ps ks : List Str) (g : List Value → List Value → List Value) (gV : List V → List V → List V) : Prop where
  to : ∀ (s : Shared) (us ws : List Value), K.In s.heap → (g us ws).length = ps.length → BindsTo s fd ⟨us, ks.zip ws⟩ (ps.zip (g us ws))
  rel : ∀ {vs : List V} {us : List Value} {zs : List V} {ws : List Value}, Vals vs us → Vals zs ws → Vals (gV vs zs) (g us ws)
def tCallK (sp : Sp) (gV : List V → List V → List V) (E : XK) (t tk : TA) : TE := fun σ H Q => t σ H fun vs H1 => tk σ H1 fun zs H2 => sp (gV vs zs) H2 Q E
variable {g : List Value → List Value → List Value} {gV : List V → List V → List V}
theorem run_fnk {pins : List (Addr × Obj)} {σ : St} {H : Hp} {s : Shared} {Q : VK} {us ws : List Value} {vs zs : List V} (F : FnOk X.prog X.w X.K X.mg X.base CX k f fd ps sp) (hr : Room k X.A) (hb : KBinds X.K fd ps ks g gV) (hx : Passes CX X E)
    (I : Inv X pins σ H s) (r : Vals vs us) (rz : Vals zs ws) (h : sp (gV vs zs) H Q E) : wpAny (model X.prog X.w) X.A (call (.ref f) us (ks.zip ws)) (EP X pins σ Q) X.xe s := by
  have r2 := hb.rel r rz
  have hl : (g us ws).length = ps.length := by rw [← r2.length]; exact F.len _ _ _ _ h
  refine wpAny_call (codeAny_mono (F.run X.A X.stack s H ⟨us, ks.zip ws⟩ (g us ws) (gV vs zs) Q E hr I.env0 (hb.to s us ws I.kIn hl) r2 h) fun r s' hq => ?_)
  cases r with
  | error e => exact hx pins σ H s e s' I hq
  | ok fl =>
    cases fl with
    | ret u => exact I.after hq
    | next => exact False.elim hq
    | brk => exact False.elim hq
    | cont => exact False.elim hq
/-- f(e, .., k = v, ..) -/
theorem pe_callK (F : FnOk X.prog X.w X.K X.mg X.base CX k f fd ps sp) (hr : Room k X.A) (hg : Gl X x) (hm : X.mg x = some (.ref f)) (hk : PySem.W.keepIn X.K (.ref f) = true) (hb : KBinds X.K fd ps ks g gV) (hx : Passes CX X E)
    (ha : PA X (e :: es) t) (hkw : PK X kws tk) (hall : (backToKw pos (keywordEach kws X.env)).all (·.1.isSome) = true := by rfl) (hks : (backToKw pos (keywordEach kws X.env)).filterMap (·.1) = ks := by rfl)
    (hdb : (x == ("__debug__" : Str)) = false := by decide) (he : starEach (e :: es) X.env = (false, eval e X.env) :: starEach es X.env := by rfl)
    (hpl : ((backTo pos (starEach (e :: es) X.env)).any (·.1) || (backToKw pos (keywordEach kws X.env)).any (·.1.isNone)) = false := by rfl) :
    PE X (.Call (.Name x p) (e :: es) kws pos) (tCallK sp gV E t tk) := by
  intro pins s σ H Q I h
  refine wpAny_Call_Name_kw (ld_glob I hg hm ?_ hdb)
  refine PySem.W.callWith_KW (h₀ := X.base) I.ok.mod.kin hk hall (thn (ha pos pins s σ H _ I h) fun us s1 ⟨vs, H1, I1, r, q⟩ => ?_) hpl he
  refine thn (hkw pos pins s1 σ H1 _ I1 q) fun ws s2 ⟨zs, H2, I2, rz, q2⟩ => ⟨I2.kIn, ?_⟩
  rw [hks]
  exact run_fnk F hr hb hx I2 r rz q2
end

/-! ### a def's body keeps its promise -/
/-- names: the parameters first -/
structure FnScope (N P : List Str) (sc : Scope) : Prop where
  kind : sc.kind = .function
  co : sc.isCoroutine = false
  gen : sc.isGenerator = false
  nd : N.Nodup
  pre : N.take P.length = P
  par : ∀ x ∈ P, sc.names.lookup x = some .local ∨ sc.names.lookup x = some .cell
  nofree : ∀ y ∈ sc.names, y.2 ≠ .free

theorem bindL_out {kindOf : Str → Option NameKind} {x : Str} : ∀ {binds : List (Str × Value)} {m : Str → Option Value}, (∀ v, (x, v) ∉ binds) → bindL kindOf binds m x = m x
  | [], _, _ => rfl
  | (n, v) :: r, m, h => by
    unfold bindL
    rw [bindL_out fun w hw => h w (List.mem_cons_of_mem _ hw)]
    split
    · have : x ≠ n := by rintro rfl; exact h v List.mem_cons_self
      simp [this]
    · rfl
theorem bindC_out {kindOf : Str → Option NameKind} {x : Str} : ∀ {binds : List (Str × Value)} {m : Str → Option Value}, (∀ v, (x, v) ∉ binds) → bindC kindOf binds m x = m x
  | [], _, _ => rfl
  | (n, v) :: r, m, h => by
    unfold bindC
    rw [bindC_out fun w hw => h w (List.mem_cons_of_mem _ hw)]
    split
    · rfl
    · have : x ≠ n := by rintro rfl; exact h v List.mem_cons_self
      simp [this]
theorem bindL_get {kindOf : Str → Option NameKind} {x : Str} {v : Value} : ∀ {P : List Str} {vs : List Value} {i : Nat} {m : Str → Option Value}, P.Nodup → P[i]? = some x → vs[i]? = some v → kindOf x = some .local →
    bindL kindOf (P.zip vs) m x = some v
  | [], _, _, _, _, h, _, _ => by simp at h
  | _ :: _, [], _, _, _, _, h, _ => by simp at h
  | p :: P, w :: vs, 0, m, nd, h1, h2, hk => by
    simp at h1 h2; subst h1; subst h2
    show bindL kindOf ((p, w) :: P.zip vs) m p = _
    unfold bindL
    rw [bindL_out fun v hv => (List.nodup_cons.mp nd).1 (List.of_mem_zip hv).1, if_pos hk]
    simp
  | p :: P, w :: vs, i + 1, m, nd, h1, h2, hk => by
    show bindL kindOf ((p, w) :: P.zip vs) m x = _
    unfold bindL
    exact bindL_get (i := i) (List.nodup_cons.mp nd).2 (by simpa using h1) (by simpa using h2) hk
theorem bindC_get {kindOf : Str → Option NameKind} {x : Str} {v : Value} : ∀ {P : List Str} {vs : List Value} {i : Nat} {m : Str → Option Value}, P.Nodup → P[i]? = some x → vs[i]? = some v → kindOf x ≠ some .local →
    bindC kindOf (P.zip vs) m x = some v
  | [], _, _, _, _, h, _, _ => by simp at h
  | _ :: _, [], _, _, _, _, h, _ => by simp at h
  | p :: P, w :: vs, 0, m, nd, h1, h2, hk => by
    simp at h1 h2; subst h1; subst h2
    show bindC kindOf ((p, w) :: P.zip vs) m p = _
    unfold bindC
    rw [bindC_out fun v hv => (List.nodup_cons.mp nd).1 (List.of_mem_zip hv).1, if_neg hk]
    simp
  | p :: P, w :: vs, i + 1, m, nd, h1, h2, hk => by
    show bindC kindOf ((p, w) :: P.zip vs) m x = _
    unfold bindC
    exact bindC_get (i := i) (List.nodup_cons.mp nd).2 (by simpa using h1) (by simpa using h2) hk

/-- the names' values at the entry -/
def start (N : List Str) (vs : List V) : St := vs.map some ++ List.replicate (N.length - vs.length) none

/-- the context of a def's body, at its entry; an exception leaves the frame, then lies as CX says -/
def cxOf (CX : CXT) (P : Program) (w : World) (K : PySem.W.Frag) (mg : Str → Option Value) (base : Heap) (N : List Str) (qual : Str) (scope : Scope) (f : Addr) (cd : Value) (A : Around) (outer : List Env) (s : Shared) (H : Hp) (E : XK) : Cx where
  prog := P
  w := w
  K := K
  mg := mg
  base := base
  A := A.deeper (envOfC qual scope s.heap.objs.size f cd)
  N := N
  s₀ := s
  H₀ := H
  env := envOfC qual scope s.heap.objs.size f cd
  outer := outer
  stack := envOfC qual scope s.heap.objs.size f cd :: outer
  ex := []
  calm := true
  fn := fun _ => true
  pn := []
  xe := fun e s' => wpAny (model P w) (A.deeper (envOfC qual scope s.heap.objs.size f cd)) (leaving (envOfC qual scope s.heap.objs.size f cd) e) (fun _ s'' => CX outer H s E e s'') (fun e' s'' => CX outer H s E e' s'') s'

theorem cell_has {sc : Scope} {n : Nat} {x : Str} (h : sc.names.lookup x = some .cell) : ∃ c, (cellsFrom n sc.names []).lookup x = some c := by
  have q := PySem.W.cellsFrom_some sc.names n [] (.inl h)
  exact Option.isSome_iff_exists.mp q

theorem inv_start {CX : CXT} {P : Program} {w : World} {K : PySem.W.Frag} {mg : Str → Option Value} {base : Heap} {N ps : List Str} {qual : Str} {scope : Scope} {f : Addr} {cd : Value} {A : Around} {outer : List Env} {s s1 : Shared} {H : Hp} {E : XK} {us : List Value} {vs : List V}
    (S : FnScope N ps scope) (hd : A.handled = none) (e0 : Env0 P w K mg base A outer s H) (hl : vs.length = ps.length) (r : Vals vs us)
    (x : InCallC s s.heap.objs.size (bindL (envOfC qual scope s.heap.objs.size f cd).kindOf (ps.zip us) fun _ => none) (cellsFrom (s.heap.objs.size + 1) scope.names []) (bindC (envOfC qual scope s.heap.objs.size f cd).kindOf (ps.zip us) fun _ => none) s1) :
    Inv (cxOf CX P w K mg base N qual scope f cd A outer s H E) [] (start N vs) H s1 := by
  have hpl : ps.length ≤ N.length := by have := congrArg List.length S.pre; rw [List.length_take] at this; omega
  obtain ⟨h1, tk, rfl, hk⟩ := x.done
  have noA : ∀ b : Addr, b ∉ (cxOf CX P w K mg base N qual scope f cd A outer s H E).ex := fun b z => absurd (show b ∈ ([] : List Addr) from z) (by simp)
  refine ⟨⟨e0.mod, S.kind, rfl, rfl, Nat.le_refl _, fun y z c h1 h2 => ?_, fun y hy => ?_, fun y c _ h => ?_, fun _ => hd, Around.frames_deeper e0.frames, .inr ⟨rfl, rfl⟩, fun b z => absurd z (noA b), e0.bs, e0.bsz, fun b _ _ => noA b, fun b z => absurd z (noA b), e0.funs, e0.frf⟩,
    rfl, e0.bare, Un.kept hk, ⟨_, x.toInCall.ns, fun i y v h1 h2 h3 => ?_⟩, fun y c h => ⟨_, x.cell y c h⟩, e0.hok.fresh (Nat.le_refl _), fun y c h => ?_, fun p hp => absurd (show p ∈ ([] : List (Addr × Obj)) from hp) (by simp), e0.hok.kept hk, ?_⟩
  · exact name_of_addr x.apart (PySem.mem_of_lookup h1) (PySem.mem_of_lookup h2)
  · have hy : scope.names.lookup y = some .cell ∨ scope.names.lookup y = some .free := hy
    rcases hy with hy | hy
    · exact cell_has hy
    · exact absurd rfl (S.nofree _ (PySem.mem_of_lookup hy))
  · exact Nat.le_of_lt (x.above y c (PySem.mem_of_lookup h))
  · have hi : i < vs.length := by
      unfold start at h2
      by_cases hi : i < vs.length
      · exact hi
      · rw [List.getElem?_append_right (by simpa using hi)] at h2
        rw [List.getElem?_replicate] at h2
        split at h2 <;> cases h2
    have ha : vs[i]? = some v := by
      unfold start at h2
      rw [List.getElem?_append_left (by simpa using hi), List.getElem?_map] at h2
      cases e : vs[i]? with
      | none => rw [e] at h2; cases h2
      | some a => rw [e] at h2; cases h2; rfl
    obtain ⟨u, hu, rv⟩ := r.get ha
    have hp : ps[i]? = some y := by
      rw [← S.pre, List.getElem?_take_of_lt (by omega)]; exact h1
    have ndP : ps.Nodup := by rw [← S.pre]; exact S.nd.sublist (List.take_sublist _ _)
    refine ⟨u, rv, ?_⟩
    rcases S.par y (List.mem_of_getElem? hp) with k | k
    · exact .inl ⟨k, bindL_get ndP hp hu k⟩
    · obtain ⟨c, e⟩ := cell_has (n := s.heap.objs.size + 1) k
      refine .inr ⟨.inl k, c, e, ?_⟩
      have q := x.cell y c e
      rw [bindC_get ndP hp hu (by show scope.names.lookup y ≠ _; rw [k]; decide)] at q
      exact q
  · exact e0.hok.fresh (Nat.le_of_lt (x.above y c (PySem.mem_of_lookup h)))
  · unfold start
    show _ = N.length
    rw [List.length_append, List.length_map, List.length_replicate]
    omega

/-- THE RULE: a def (or a method) of the text, by its body. The body's reading t is chosen for each entry; it is run at the parameters' values -/
theorem fn_of {CX : CXT} {P : Program} {w : World} {K : PySem.W.Frag} {mg : Str → Option Value} {base : Heap} {k : Nat} {f : Addr} {name qual : Str} {params : Arguments} {body : List Stmt} {scope : Scope} {dV kV doc pm cdv ct oc : Value} {an od : Option Addr}
    {osl : Array (Option Value)} {N ps : List Str} {sp : Sp} (lk : K.lookup f = some ⟨oc, od, .func (PySem.W.fnOf name qual params body scope dV kV doc pm an cdv ct), osl⟩) (hcd : PySem.W.codeIn K cdv qual = true) (S : FnScope N ps scope)
    (len : ∀ vs H Q E, sp vs H Q E → vs.length = ps.length)
    (hbody : ∀ (A : Around) (outer : List Env) (s : Shared) (H : Hp) (vs : List V) (Q : VK) (E : XK), Room k (A.deeper (envOfC qual scope s.heap.objs.size f cdv)) → sp vs H Q E →
      ∃ t, PSs (cxOf CX P w K mg base N qual scope f cdv A outer s H E) body t ∧ t { nx := fun _ H' => Q .non H', rt := Q } (start N vs) H) :
    FnOk P w K mg base CX (k + 1) f (PySem.W.fnOf name qual params body scope dV kV doc pm an cdv ct) ps sp := by
  refine ⟨len, fun A outer s H args us vs Q E hr e0 hb r hsp => ?_⟩
  have hl := len _ _ _ _ hsp
  have KX : K.In s.heap := e0.mod.kin.keeps fun b o e => (e0.bs b o e).1
  have lim : s.heap.NoLimit := e0.mod.nolimit.keeps fun b o e => (e0.bs b o e).1
  have hkind : ∀ y ∈ ps.zip us, scope.names.lookup y.1 = some .local ∨ (scope.names.lookup y.1 = some .cell ∧ ((cellsFrom (s.heap.objs.size + 1) scope.names []).lookup y.1).isSome = true) := fun ⟨n, v⟩ hy => by
    rcases S.par n (List.of_mem_zip hy).1 with q | q
    · exact .inl q
    · exact .inr ⟨q, PySem.W.cellsFrom_some _ _ _ (.inl q)⟩
  refine codeAny_call_function hr.depth (KX _ _ lk) rfl S.co S.gen rfl (PySem.W.codeRec_of KX hcd) (hb _ _ _ _ ?_)
  refine wpAny_newFunctionEnv_cells S.kind hkind fun env he s1 x => ?_
  subst he
  refine ⟨lim.keeps x.toInCall.keep, codeAny_func ?_⟩
  obtain ⟨t, ht, hq⟩ := hbody A outer s H vs Q E (hr.deeper _) hsp
  have I : Inv (cxOf CX P w K mg base N qual scope f cdv A outer s H E) [] (start N vs) H s1 := inv_start S hr.hd e0 hl r x
  refine wpAny_mono (ht [] s1 (start N vs) H _ I hq) (fun fl s' hs => ?_) fun e s' hs => hs
  have fin : ∀ {σ' : St} {H' : Hp} {v : V} {u : Value}, Inv (cxOf CX P w K mg base N qual scope f cdv A outer s H E) [] σ' H' s' → RelV v u → Q v H' → CE outer P w H s Q u s' :=
    fun {σ' H' v u} J rv q => ⟨v, H', J.os, J.bare, J.base, J.hok, rv, q⟩
  cases fl with
  | ret u =>
    obtain ⟨v, σ', H', J, rv, q⟩ := hs
    exact fin J rv q
  | next =>
    obtain ⟨σ', H', J, q⟩ := hs
    exact fin (v := V.non) (u := Value.none) J rfl q
  | brk =>
    obtain ⟨_, _, _, q⟩ := hs
    exact False.elim q
  | cont =>
    obtain ⟨_, _, _, q⟩ := hs
    exact False.elim q
end L2

namespace L2
open PySem PySem.Spec PyProof.Rows
section
variable {X : Cx} {x : Str} {p pos : Pos} {e : Expr} {es : List Expr} {t : TA} {id T : String} {r : List V → Hp → VK → Prop}

def tCB (r : List V → Hp → VK → Prop) (t : TA) : TE := fun σ H Q => t σ H fun vs H1 => r vs H1 Q
/-- f(e, ..), f a built-in function -/
theorem pe_callB (hc : CallR X (.builtin id) r) (hg : Gl X x) (hm : X.mg x = none) (hv : bootBuiltins x = some (.builtin id)) (ha : PA X (e :: es) t) (hn : x ≠ "__name__" := by decide) (hdb : (x == ("__debug__" : Str)) = false := by decide)
    (he : starEach (e :: es) X.env = (false, eval e X.env) :: starEach es X.env := by rfl) (hpl : (backTo pos (starEach es X.env)).any (·.1) = false := by rfl) : PE X (.Call (.Name x p) (e :: es) [] pos) (tCB r t) := by
  intro pins s σ H Q I h
  refine wpAny_Call_Name_kw (ld_blt I hg hm hv ?_ hn hdb)
  exact PyProof.Rows.callWith_builtin1 (thn (ha pos pins s σ H _ I h) fun us s1 ⟨vs, H1, I1, r1, q1⟩ => hc pins s1 σ H1 vs us Q I1 r1 q1) he hpl
/-- T(e, ..), T a built-in type -/
theorem pe_callTy (hc : CallR X (.type T) r) (hg : Gl X x) (hm : X.mg x = none) (hv : bootBuiltins x = some (.type T)) (ha : PA X (e :: es) t) (hn : x ≠ "__name__" := by decide) (hdb : (x == ("__debug__" : Str)) = false := by decide)
    (he : starEach (e :: es) X.env = (false, eval e X.env) :: starEach es X.env := by rfl) (hpl : (backTo pos (starEach es X.env)).any (·.1) = false := by rfl) : PE X (.Call (.Name x p) (e :: es) [] pos) (tCB r t) := by
  intro pins s σ H Q I h
  refine wpAny_Call_Name_kw (ld_blt I hg hm hv ?_ hn hdb)
  exact PyProof.Rows.callWith_type1 (thn (ha pos pins s σ H _ I h) fun us s1 ⟨vs, H1, I1, r1, q1⟩ => hc pins s1 σ H1 vs us Q I1 r1 q1) he hpl
/-- T() -/
theorem pe_callTy0 (hc : CallR X (.type T) r) (hg : Gl X x) (hm : X.mg x = none) (hv : bootBuiltins x = some (.type T)) (hn : x ≠ "__name__" := by decide) (hdb : (x == ("__debug__" : Str)) = false := by decide) :
    PE X (.Call (.Name x p) [] [] pos) (tCB r tNil) := by
  intro pins s σ H Q I h
  refine wpAny_Call_Name_kw (ld_blt I hg hm hv ?_ hn hdb)
  exact PyProof.Rows.callWith_type0 (hc pins s σ H [] [] Q I .nil h)
end
end L2

namespace HT
open PySem PyProof.Rows

/-- t < u of tuples of ints -/
def lexLt : List Int → List Int → Bool
  | [], [] => false
  | [], _ :: _ => true
  | _ :: _, [] => false
  | x :: xs, y :: ys => if x = y then lexLt xs ys else decide (x < y)
theorem lexLt_cons (x y : Int) (xs ys : List Int) : lexLt (x :: xs) (y :: ys) = if x = y then lexLt xs ys else decide (x < y) := rfl
theorem lexLt_nil_nil : lexLt [] [] = false := rfl
theorem lexLt_nil_cons (y : Int) (ys : List Int) : lexLt [] (y :: ys) = true := rfl
theorem lexLt_cons_nil (x : Int) (xs : List Int) : lexLt (x :: xs) [] = false := rfl

theorem eqAt_int (A : Around) (s : Shared) (a : Int) (t : Tok) (c : Int) (u : Tok) : ∃ e, SeqAt.EqAt A s (.int a t) (.int c u) e ∧ (e = true ↔ a = c) :=
  ⟨(a == c), SeqAt.EqAt.int_int a t c u, by simp⟩
theorem rcLt_int (A : Around) (s : Shared) (a : Int) (t : Tok) (c : Int) (u : Tok) (prog : Program) (w : World) (E : Value → Shared → Prop) (Q : Value → Shared → Prop) (h : Q (.bool (decide (a < c))) s) :
    wpAny (model prog w) A (richCompare .Lt (.int a t) (.int c u)) Q E s :=
  (PyProof.Rows.lt_int h : wpAny (model prog w) A (compareOp .Lt (.int a t) (.int c u)) Q E s)

section
open PySem.SeqAt
open PySem.AutoSeq1 (wpAny_loadPart')
open PySem.MeetsSeq PySem.MeetsSeq2 PySem.MeetsSeq3

theorem tuple_lt_ints (l b : Addr) (items items2 : Array Value) (n n2 : Nat) (dd dd2 : Option Addr) (sl sl2 : Array (Option Value)) (ns ms : List Int) (hi : IntsAre items.toList ns) (hj : IntsAre items2.toList ms) :
    Meets (Builtin.«tuple.__lt__» ⟨[.ref l, .ref b], []⟩)
      (fun _ R s => s.heap.get? l = some { cls := .type "tuple", dict := dd, data := .seq items n, slots := sl } ∧ s.heap.get? b = some { cls := .type "tuple", dict := dd2, data := .seq items2 n2, slots := sl2 } ∧
        R (.ok (.ret (.bool (lexLt ns ms)))) s) :=
  .of_wp fun prog w A R s h => by
    obtain ⟨hp, g, d, tk, os⟩ := s; obtain ⟨hl, hb, h⟩ := h
    have f2 := AutoSeq1.sub_tuple_tuple
    have z1 : items.size = ns.length := by rw [← hi.length]; simp
    have z2 : items2.size = ms.length := by rw [← hj.length]; simp
    wp_walk using wpAny_loadPart' hl, wpAny_loadPart' hb, wpAny_forIn_list _ (fun rest b s' => b.1 = none ∧ s' = ⟨hp, g, d, tk, os⟩ ∧ ∃ (vs ws : List Value) (ns' ms' : List Int), rest = vs.zip ws ∧
      IntsAre vs ns' ∧ IntsAre ws ms' ∧ ns'.length + items2.size = ms'.length + items.size ∧ R (.ok (.ret (.bool (lexLt ns' ms')))) ⟨hp, g, d, tk, os⟩) _
    case turn =>
      rintro ⟨y, x⟩ rest b s' ⟨hb', rfl, vs, ws, ns', ms', hz, hvi, hwi, hlen, hR⟩
      cases hvi with
      | nil => rw [List.zip_nil_left] at hz; cases hz
      | cons a t hvi' =>
        cases hwi with
        | nil => rw [List.zip_nil_right] at hz; cases hz
        | cons c u hwi' =>
          rw [List.zip_cons_cons] at hz
          injection hz with hyx hrest
          injection hyx with hy hx
          subst hy hx
          rw [lexLt_cons] at hR
          simp only [List.length_cons] at hlen
          obtain ⟨e, he, hiff⟩ := eqAt_int A.in1 ⟨hp, g, d, tk, os⟩ a t c u
          refine wpAny_bind (he prog w _ _ ?_)
          cases e with
          | true =>
            rw [if_pos (hiff.mp rfl)] at hR
            wp_walk
            exact ⟨rfl, rfl, _, _, _, _, hrest, hvi', hwi', by omega, hR⟩
          | false =>
            rw [if_neg (fun q => absurd (hiff.mpr q) Bool.false_ne_true)] at hR
            have hri := rcLt_int A.in1 ⟨hp, g, d, tk, os⟩ a t c u prog w
            wp_walk using hri
            exact ⟨_, rfl, by simpa using hR⟩
    case fin =>
      rintro ⟨b1, b2⟩ s' ⟨hb', rfl, vs, ws, ns', ms', hz, hvi, hwi, hlen, hR⟩
      simp only at hb'
      subst hb'
      have hv : lexLt ns' ms' = decide (items.size < items2.size) := by
        cases hvi with
        | nil =>
          cases hwi with
          | nil =>
            simp only [List.length_nil] at hlen
            rw [lexLt_nil_nil]
            exact (decide_eq_false (by omega)).symm
          | cons c u hw =>
            simp only [List.length_nil, List.length_cons] at hlen
            rw [lexLt_nil_cons]
            exact (decide_eq_true (by omega)).symm
        | cons a t hv =>
          cases hwi with
          | nil =>
            simp only [List.length_nil, List.length_cons] at hlen
            rw [lexLt_cons_nil]
            exact (decide_eq_false (by omega)).symm
          | cons c u hw =>
            rw [List.zip_cons_cons] at hz
            cases hz
      rw [hv] at hR
      wp_walk
      exact ⟨_, rfl, by simpa [Builtin.Tuple.tupleCompareSizes] using hR⟩
    case h =>
      exact ⟨rfl, rfl, items.toList, items2.toList, ns, ms, rfl, hi, hj, by omega, h⟩
end

section
variable {prog : Program} {w : World} {A : Around} {E : Value → Shared → Prop} {s : Shared}

theorem lt_tupInts {l b : Addr} {items items2 : Array Value} {ns ms : List Int} {Q : Value → Shared → Prop} (hl : IsTup s.heap l items) (hb : IsTup s.heap b items2) (hi : IntsAre items.toList ns) (hj : IntsAre items2.toList ms)
    (hu : A.units < cLine) (h : Q (.bool (lexLt ns ms)) s) : wpAny (model prog w) A (compareOp .Lt (.ref l) (.ref b)) Q E s := by
  obtain ⟨⟨cls, dd, data, sl⟩, ho, hc, n, hd⟩ := id hl
  obtain ⟨⟨cls2, dd2, data2, sl2⟩, ho2, hc2, n2, hd2⟩ := id hb
  simp only at hc hd hc2 hd2
  subst hc hd hc2 hd2
  exact richCompare_meets_room (op := .Lt) ⟨_, ho, rfl⟩ ⟨_, ho2, rfl⟩ PySem.F.slot_tuple_lt PySem.F.entry_tuple_lt (PySem.F.args_tuple_lt_2 _ _) (tuple_lt_ints l b items items2 n n2 dd dd2 sl sl2 ns ms hi hj)
    ⟨ho, ho2, show Value.bool (lexLt ns ms) ≠ Value.notImplemented ∧ Q (.bool (lexLt ns ms)) s from ⟨(fun x => nomatch x), h⟩⟩ hu

/-- t + u, t not empty -/
theorem cat_tup {t b : Addr} {vs ws : List Value} {Q : Value → Shared → Prop} (ht : IsTup s.heap t vs.toArray) (hb : IsTup s.heap b ws.toArray) (hv : vs ≠ [])
    (h1 : ws = [] → Q (.ref t) s) (h2 : ws ≠ [] → Q (.ref s.heap.objs.size) { s with heap := s.heap.push { cls := .type "tuple", data := .seq (vs ++ ws).toArray } })
    (hsz : vs.length + ws.length ≤ sizeLine) : wpAny (model prog w) A (binaryOp .Add (.ref t) (.ref b)) Q E s := by
  obtain ⟨⟨cls, dd, data, sl⟩, ho, hc, n, hd⟩ := id ht
  obtain ⟨⟨cls2, dd2, data2, sl2⟩, ho2, hc2, n2, hd2⟩ := id hb
  simp only at hc hd hc2 hd2
  subst hc hd hc2 hd2
  have e : vs.toArray ++ ws.toArray = (vs ++ ws).toArray := by simp
  by_cases hw : ws = []
  · exact concat_meets ⟨_, ho, rfl⟩ ⟨_, ho2, rfl⟩ noFill_tuple_add seq_tuple_add PySem.F.slot_tuple_add PySem.F.entry_tuple_add (PySem.F.args_tuple_add_2 _ _)
      (tuple_addW1 t b vs.toArray ws.toArray n n2 dd dd2 sl sl2 (by simpa using hv) (by simp [hw])) ⟨ho, ho2, h1 hw⟩
  · refine concat_meets ⟨_, ho, rfl⟩ ⟨_, ho2, rfl⟩ noFill_tuple_add seq_tuple_add PySem.F.slot_tuple_add PySem.F.entry_tuple_add (PySem.F.args_tuple_add_2 _ _)
      (tuple_addW2 t b vs.toArray ws.toArray n n2 dd dd2 sl sl2 (by simpa using hv) (by simpa using hw) (by rw [List.size_toArray, List.size_toArray]; exact hsz)) ⟨ho, ho2, ?_⟩
    rw [e]
    exact h2 hw

/-! ### t[a:b], not the whole -/
/-- a slice's bound as a place among n (d where it is left out) -/
def sIx (n d : Nat) : Option Int → Nat
  | none => d
  | some v => if v < 0 then (v + (n : Int)).toNat else min v.toNat n
theorem sIx_none (n d : Nat) : sIx n d none = d := rfl
theorem sIx_nat (n d k : Nat) : sIx n d (some (k : Int)) = min k n := by
  show (if (k : Int) < 0 then ((k : Int) + (n : Int)).toNat else min (k : Int).toNat n) = min k n
  rw [if_neg (by omega), Int.toNat_natCast]
theorem sIx_le (n d : Nat) (hd : d ≤ n) (o : Option Int) : sIx n d o ≤ n := by
  cases o with
  | none => exact hd
  | some v =>
    show (if v < 0 then (v + (n : Int)).toNat else min v.toNat n) ≤ n
    by_cases hv : v < 0
    · rw [if_pos hv]; omega
    · rw [if_neg hv]; exact Nat.min_le_right _ _
theorem clip_eq (v : Int) (n d : Nat) : (if v < 0 then max (v + (n : Int)) 0 else min v (n : Int)) = ((sIx n d (some v) : Nat) : Int) := by
  show (if v < 0 then max (v + (n : Int)) 0 else min v (n : Int)) = (((if v < 0 then (v + (n : Int)).toNat else min v.toNat n) : Nat) : Int)
  by_cases hv : v < 0
  · simp only [if_pos hv]; omega
  · simp only [if_neg hv]; omega
theorem adjust_gen (lo hi : Option Int) (n : Nat) : Builtin.Slice.sliceAdjust lo hi 1 (n : Int) = (((sIx n 0 lo : Nat) : Int), ((sIx n n hi : Nat) : Int)) := by
  have h1 : ¬ ((1 : Int) < 0) := by omega
  unfold Builtin.Slice.sliceAdjust
  simp only [h1, if_false]
  refine Prod.ext ?_ ?_
  · cases lo with
    | none => rfl
    | some v => exact clip_eq v n 0
  · cases hi with
    | none => rfl
    | some v => exact clip_eq v n n
theorem places_gen (i j : Nat) : Builtin.Slice.slicePlaces (i : Int) (j : Int) 1 = j - i := by
  unfold Builtin.Slice.slicePlaces
  have h1 : (1 : Int) > 0 := by omega
  simp only [h1, if_true, Int.ediv_one]
  split <;> omega
theorem slicePart_ {v : Value} {o : Option Int} {Q : Option Int → Shared → Prop} (p : IsPart v o) (h : Q o s) : wpAny (model prog w) A (Builtin.Slice.slicePartIndex v) Q E s := by
  cases p with
  | none => exact slicePart_none h
  | int i t => exact slicePart_int h
theorem sliceApplied_gen {sl : Addr} {vl vu : Value} {lo hi : Option Int} {n : Nat} {Q : Int × Int × Nat → Shared → Prop} (hs : s.heap.IsSliceOf sl vl vu .none) (pl : IsPart vl lo) (pu : IsPart vu hi)
    (h : Q (((sIx n 0 lo : Nat) : Int), 1, sIx n n hi - sIx n 0 lo) s) : wpAny (model prog w) A (Builtin.Slice.sliceApplied (.ref sl) (pure (n : Int))) Q E s := by
  obtain ⟨os, hos, hcs, hds⟩ := id hs
  unfold Builtin.Slice.sliceApplied Builtin.Slice.sliceFields
  refine wpAny_bind (wpAny_bind (wpAny_field hos hds (x := vl) rfl (wpAny_bind (wpAny_field hos hds (x := vu) rfl (wpAny_bind (wpAny_field hos hds (x := .none) rfl (wpAny_pure ?_)))))))
  refine wpAny_bind (slicePart_none ?_)
  show wpAny _ _ (if ((1 : Int) == 0) = true then _ else _) _ _ s
  rw [if_neg (by decide)]
  refine wpAny_bind (slicePart_ pl (wpAny_bind (slicePart_ pu (wpAny_bind (wpAny_pure ?_)))))
  show wpAny _ _ (match Builtin.Slice.sliceAdjust lo hi 1 (n : Int) with | (lo, hi) => pure (lo, (1 : Int), Builtin.Slice.slicePlaces lo hi 1)) _ _ s
  rw [adjust_gen lo hi n]
  show wpAny _ _ (pure (((sIx n 0 lo : Nat) : Int), (1 : Int), Builtin.Slice.slicePlaces ((sIx n 0 lo : Nat) : Int) ((sIx n n hi : Nat) : Int) 1)) _ _ s
  rw [places_gen]
  exact wpAny_pure h
theorem pick_gen (xs : Array Value) (i k : Nat) : ((List.range k).filterMap fun (m : Nat) => xs[((i : Int) + (m : Int) * 1).toNat]?).toArray = ((xs.toList.drop i).take k).toArray := by
  have e : (fun (m : Nat) => xs[((i : Int) + (m : Int) * 1).toNat]?) = fun m => xs[i + m]? := by
    funext m
    have : ((i : Int) + (m : Int) * 1).toNat = i + m := by omega
    rw [this]
  rw [e]
  have := pick_run xs i k
  rw [List.filterMap_map] at this
  have e2 : ((fun x => xs[x]?) ∘ fun x => i + x) = fun m => xs[i + m]? := rfl
  rw [e2] at this
  rw [this]

theorem getItem_tuple_cut {t sl : Addr} {items : Array Value} {vl vu : Value} {lo hi : Option Int} {Q : Value → Shared → Prop} (ht : IsTup s.heap t items) (hs : s.heap.IsSliceOf sl vl vu .none) (pl : IsPart vl lo) (pu : IsPart vu hi)
    (hw : ¬ (sIx items.size 0 lo = 0 ∧ sIx items.size items.size hi = items.size))
    (h : Q (.ref s.heap.objs.size) { s with heap := s.heap.push { cls := .type "tuple", data := .seq ((items.toList.drop (sIx items.size 0 lo)).take (sIx items.size items.size hi - sIx items.size 0 lo)).toArray } })
    (hsz : items.size ≤ sizeLine) : wpAny (model prog w) A (getItem (.ref t) (.ref sl)) Q E s := by
  have htake : sizeOk (.seq ((items.toList.drop (sIx items.size 0 lo)).take (sIx items.size items.size hi - sIx items.size 0 lo)).toArray) := by
    show ((items.toList.drop (sIx items.size 0 lo)).take (sIx items.size items.size hi - sIx items.size 0 lo)).toArray.size ≤ sizeLine
    rw [List.size_toArray, List.length_take, List.length_drop, Array.length_toList]
    omega
  have hj : sIx items.size items.size hi ≤ items.size := sIx_le _ _ (Nat.le_refl _) hi
  obtain ⟨os, hos, hcs, hds⟩ := id hs
  have hTs : s.TypeIs (.ref sl) "slice" := ⟨os, hos, hcs⟩
  unfold getItem
  try with_reducible refine wpAny_holding ?_
  first | refine wpAny_bind (wpAny_pure ?_) | skip
  refine wpAny_bind (wpAny_sequenceKey ht.typeIs (by decide) ?_)
  refine wpAny_bind (wpAny_callSpecial?_slot (name := Str.ofString "__getitem__") ht.typeIs PyProof.Rows.slot_tuple_getitem
    (wpAny_call_entry PyProof.Rows.slot_tuple_getitem ht.typeIs entry_tuple_getitem ?_ (args_tuple_getitem _ _)))
  show wpAny _ _ (Builtin.Tuple.tupleItemsOf (.ref t) >>= _) _ _ s
  refine wpAny_bind (tupleItemsOf_ ht ?_)
  refine wpAny_bind (wpAny_typeOf hTs ?_)
  rw [if_pos (by decide)]
  refine wpAny_bind (sliceApplied_gen hs pl pu ?_)
  have hno : ¬ ((((sIx items.size 0 lo : Nat) : Int) == 0 && (1 : Int) == 1 && (sIx items.size items.size hi - sIx items.size 0 lo) == items.size) = true) := by
    intro q
    rw [Bool.and_eq_true, Bool.and_eq_true] at q
    have q1 : ((sIx items.size 0 lo : Nat) : Int) = 0 := eq_of_beq q.1.1
    have q2 : sIx items.size items.size hi - sIx items.size 0 lo = items.size := eq_of_beq q.2
    exact hw ⟨by omega, by omega⟩
  show wpAny _ _ (if (((sIx items.size 0 lo : Nat) : Int) == 0 && (1 : Int) == 1 && (sIx items.size items.size hi - sIx items.size 0 lo) == items.size) = true then _ else _) _ _ s
  rw [if_neg hno, pick_gen]
  first
    | exact wpAny_bind (m := Builtin.Tuple.tupleExact _) (wpAny_newObj_type (wpAny_pure ⟨_, rfl, wpAny_pure h⟩) htake)
    | exact wpAny_bind (m := Builtin.Tuple.tupleExact _) (wpAny_newObj_type (wpAny_bind (wpAny_pure (wpAny_pure ⟨_, rfl, wpAny_pure h⟩))) htake)
    | exact wpAny_bind (wpAny_bind (m := Builtin.Tuple.tupleExact _) (wpAny_newObj_type (wpAny_pure (wpAny_pure ⟨_, rfl, wpAny_pure h⟩)) htake))
    | exact wpAny_bind (wpAny_bind (m := Builtin.Tuple.tupleExact _) (wpAny_newObj_type (wpAny_pure ⟨_, rfl, wpAny_pure h⟩) htake))
end
end HT

namespace L2
open PySem PySem.Spec PyProof.Rows

/-! ### the parts of a slice -/
abbrev TO := St → Hp → (Option Int → Hp → Prop) → Prop
/-- a slice's part (left out, or an int) -/
def PO (X : Cx) (e : Option Expr) (t : TO) : Prop :=
  ∀ (pins : List (Addr × Obj)) (s : Shared) (σ : St) (H : Hp) (Q : Option Int → Hp → Prop), Inv X pins σ H s → t σ H Q →
    wpAny (model X.prog X.w) X.A (evalPart e X.env) (fun u s' => ∃ o H', Inv X pins σ H' s' ∧ IsPart u o ∧ Q o H') X.xe s
def tNoPart : TO := fun _ H Q => Q none H
def tPart (t : TE) : TO := fun σ H Q => t σ H fun x H1 => ∃ i, x = .int i ∧ Q (some i) H1

theorem intsAre_of {ns : List Int} : ∀ {us : List Value}, Vals (ns.map V.int) us → IntsAre us ns := by
  induction ns with
  | nil => intro us r; rw [List.map_nil] at r; cases r; exact .nil
  | cons n ns ih =>
    intro us r
    rw [List.map_cons] at r
    cases r with
    | cons r1 r2 =>
      obtain ⟨t, e⟩ := r1
      subst e
      exact .cons n t (ih r2)

section
variable {X : Cx} {e : Expr} {te : TE} {lo hi : Option Expr} {tl th : TO} {pos p2 : Pos}

theorem po_none : PO X none tNoPart := by
  intro pins s σ H Q I h
  rw [evalPart_none]
  exact wpAny_pure ⟨none, H, I, .none, h⟩
theorem po_some (h : PE X e te) : PO X (some e) (tPart te) := by
  intro pins s σ H Q I hw
  rw [evalPart_some]
  refine thn (h pins s σ H _ I hw) fun u s1 ⟨x, H1, I1, r1, q1⟩ => ?_
  obtain ⟨i, rfl, q⟩ := q1
  obtain ⟨t, rfl⟩ := r1
  exact ⟨some i, H1, I1, .int i t, q⟩

/-- what a slice of a value is, by values: the slice object stands at sl -/
def SlR (X : Cx) (r : V → Option Int → Option Int → Hp → VK → Prop) : Prop :=
  ∀ (pins : List (Addr × Obj)) (s : Shared) (σ : St) (H : Hp) (x : V) (v vl vu : Value) (lo hi : Option Int) (sl : Addr) (Q : VK), Inv X pins σ H s → RelV x v → s.heap.IsSliceOf sl vl vu .none → IsPart vl lo → IsPart vu hi → r x lo hi H Q →
    ∃ T id, typeLookup (.type T) "__getitem__" = pure (some (.builtin id)) ∧ s.TypeIs v T ∧ wpAny (model X.prog X.w) X.A (getItem v (.ref sl)) (EP X pins σ Q) X.xe s
theorem SlR.or {r r' : V → Option Int → Option Int → Hp → VK → Prop} (h : SlR X r) (h' : SlR X r') : SlR X (fun x lo hi H Q => r x lo hi H Q ∨ r' x lo hi H Q) := by
  intro pins s σ H x v vl vu lo hi sl Q I rx hs pl pu q
  rcases q with q | q
  · exact h pins s σ H x v vl vu lo hi sl Q I rx hs pl pu q
  · exact h' pins s σ H x v vl vu lo hi sl Q I rx hs pl pu q
def tSl (r : V → Option Int → Option Int → Hp → VK → Prop) (te : TE) (tl th : TO) : TE := fun σ H Q => te σ H fun x H1 => tl σ H1 fun l H2 => th σ H2 fun u H3 => r x l u H3 Q
/-- a[lo:hi], any a -/
theorem pe_slice {r : V → Option Int → Option Int → Hp → VK → Prop} (hr : SlR X r) (he : PE X e te) (hl : PO X lo tl) (hu : PO X hi th) : PE X (.Subscript e (.Slice lo hi none p2) pos) (tSl r te tl th) := by
  intro pins s σ H Q I h
  refine Subscript_ (thn (he pins s σ H _ I h) fun v s1 ⟨x, H1, I1, r1, q1⟩ => ?_)
  refine wpAny_Slice (thn (hl pins s1 σ H1 _ I1 q1) fun vl s2 ⟨l, H2, I2, pl, q2⟩ => thn (hu pins s2 σ H2 _ I2 q2) fun vu s3 ⟨u, H3, I3, pu, q3⟩ => ?_)
  rw [evalPart_none]
  refine wpAny_pure ?_
  have I4 : Inv X pins σ H3 { s3 with heap := s3.heap.push { cls := .type "slice", data := .fields #[vl, vu, .none] } } := I3.kept (t' := s3.toks) fun b ob q => Heap.get?_push_of_some _ q
  obtain ⟨T, id, hT, ht, hg⟩ := hr pins { s3 with heap := s3.heap.push { cls := .type "slice", data := .fields #[vl, vu, .none] } } σ H3 x v vl vu l u s3.heap.objs.size Q I4 r1 (Heap.IsSliceOf.new ..) pl pu q3
  show wpAny (model X.prog X.w) X.A (subscriptTail e (.Slice lo hi none p2) v (.ref s3.heap.objs.size)) (EP X pins σ Q) X.xe { s3 with heap := s3.heap.push { cls := .type "slice", data := .fields #[vl, vu, .none] } }
  exact tail_any (ops := [.ref s3.heap.objs.size, v]) ht hT hg (by with_unfolding_all rfl)

/-- the items of xs[lo:hi] -/
def cutV (xs : List V) (lo hi : Option Int) : List V := (xs.drop (HT.sIx xs.length 0 lo)).take (HT.sIx xs.length xs.length hi - HT.sIx xs.length 0 lo)
theorem cutV_length (xs : List V) (lo hi : Option Int) : (cutV xs lo hi).length ≤ xs.length := by
  unfold cutV
  rw [List.length_take, List.length_drop]
  omega
/-- t[lo:hi], not the whole of it (the whole would be t itself) -/
def rSlT (K : PySem.W.Frag) : V → Option Int → Option Int → Hp → VK → Prop := fun x lo hi H Q => ∃ a xs, x = .ref a ∧ SqT K H a xs ∧
  ¬ (HT.sIx xs.length 0 lo = 0 ∧ HT.sIx xs.length xs.length hi = xs.length) ∧ ∀ p, H p = none → Q (.ref p) (upd H p (.tup (cutV xs lo hi)))
theorem sl_tup : SlR X (rSlT X.K) := by
  intro pins s σ H x v vl vu lo hi sl Q I rx hs pl pu h
  obtain ⟨a, xs, rfl, hx, hw, q⟩ := h
  cases rx
  obtain ⟨its, r, ht, hz⟩ := I.tuple hx
  have hlen : its.toArray.size = xs.length := by rw [List.size_toArray]; exact r.length.symm
  refine ⟨"tuple", _, PyProof.Rows.slot_tuple_getitem.lookup, ht.typeIs, ?_⟩
  refine HT.getItem_tuple_cut ht hs pl pu (by rw [hlen]; exact hw) ?_ (by rw [hlen]; exact hz)
  rw [hlen]
  refine ⟨.ref s.heap.objs.size, _, I.laid (t' := s.toks) (o := .tup (cutV xs lo hi)) (fun b ob q => Heap.get?_push_of_some _ q) (Nat.le_refl _) ?_, rfl, q _ (I.hok.fresh (Nat.le_refl _))⟩
  exact ⟨Nat.le_trans (cutV_length xs lo hi) hz, _, (r.drop (HT.sIx xs.length 0 lo)).take (HT.sIx xs.length xs.length hi - HT.sIx xs.length 0 lo), IsTup.new _ _⟩

/-! ### t < u, t + u -/
def rLtT (K : PySem.W.Frag) : R2 := fun x y H Q => ∃ a b ns ms, x = .ref a ∧ y = .ref b ∧ SqT K H a (ns.map V.int) ∧ SqT K H b (ms.map V.int) ∧ Q (.bl (HT.lexLt ns ms)) H
theorem op_ltT (hu : X.A.units < cLine) : OpR X (compareOp .Lt) (rLtT X.K) := by
  intro pins s σ H x y v u Q I rx ry h
  obtain ⟨a, b, ns, ms, rfl, rfl, ha, hb, q⟩ := h
  cases rx
  cases ry
  obtain ⟨its, r1, p1, _⟩ := I.tuple ha
  obtain ⟨its2, r2, p2, _⟩ := I.tuple hb
  have i1 : IntsAre its.toArray.toList ns := intsAre_of r1
  have i2 : IntsAre its2.toArray.toList ms := intsAre_of r2
  exact HT.lt_tupInts p1 p2 i1 i2 hu ⟨.bl (HT.lexLt ns ms), H, I, rfl, q⟩
/-- t + u, t not empty: u empty gives t itself -/
def rCatT (K : PySem.W.Frag) : R2 := fun x y H Q => ∃ a b xs ys, x = .ref a ∧ y = .ref b ∧ SqT K H a xs ∧ SqT K H b ys ∧ xs ≠ [] ∧ xs.length + ys.length ≤ sizeLine ∧
  (ys = [] → Q (.ref a) H) ∧ (ys ≠ [] → ∀ p, H p = none → Q (.ref p) (upd H p (.tup (xs ++ ys))))
theorem Vals.nil_iff {xs : List V} {us : List Value} (r : Vals xs us) : us = [] ↔ xs = [] := by
  cases r with
  | nil => simp
  | cons _ _ => simp
theorem op_catT : OpR X (binaryOp .Add) (rCatT X.K) := by
  intro pins s σ H x y v u Q I rx ry h
  obtain ⟨a, b, xs, ys, rfl, rfl, ha, hb, hx, hz, q1, q2⟩ := h
  cases rx
  cases ry
  obtain ⟨its, r1, p1, _⟩ := I.tuple ha
  obtain ⟨its2, r2, p2, _⟩ := I.tuple hb
  refine HT.cat_tup p1 p2 (fun z => hx (r1.nil_iff.mp z)) (fun z => ⟨.ref a, H, I, rfl, q1 (r2.nil_iff.mp z)⟩) (fun z => ?_) (by rw [← r1.length, ← r2.length]; exact hz)
  refine ⟨.ref s.heap.objs.size, _, I.laid (t' := s.toks) (o := .tup (xs ++ ys)) (fun b ob q => Heap.get?_push_of_some _ q) (Nat.le_refl _) ?_, rfl, q2 (fun w => z (r2.nil_iff.mpr w)) _ (I.hok.fresh (Nat.le_refl _))⟩
  exact ⟨by rw [List.length_append]; exact hz, _, r1.append r2, IsTup.new _ _⟩
/-- tuple(t) -/
theorem call_tupleT : CallR X (.type "tuple") (fun xs H Q => ∃ a ys, xs = [.ref a] ∧ SqT X.K H a ys ∧ Q (.ref a) H) := by
  intro pins s σ H xs us Q I r h
  obtain ⟨a, ys, rfl, ha, q⟩ := h
  obtain ⟨u, rfl, ru⟩ := vals1 r
  cases ru
  obtain ⟨its, _, p1, _⟩ := I.tuple ha
  exact call_tuple_same (items := its.toArray) p1 ⟨.ref a, H, I, rfl, q⟩
end
end L2

namespace L2
open PySem PySem.Spec PyProof.Rows

/-! ### places -/
/-- the place that an index of any sign means -/
def ixN (n : Nat) (i : Int) : Option Nat := if 0 ≤ i then (if i < n then some i.toNat else none) else if -(n : Int) ≤ i then some (i + n).toNat else none
def atI {α : Type} (xs : List α) (i : Int) : Option α := (ixN xs.length i).bind fun j => xs[j]?
theorem ixN_seq {n : Nat} {i : Int} {j : Nat} (h : ixN n i = some j) : seqIndex? i n = some j ∧ j < n ∧ -(n : Int) ≤ i ∧ i < n := by
  unfold ixN at h
  by_cases h0 : 0 ≤ i
  · rw [if_pos h0] at h
    by_cases h1 : i < n
    · rw [if_pos h1] at h
      have e : i.toNat = j := Option.some.inj h
      exact ⟨by rw [seqIndex_of h0 h1, e], by omega, by omega, h1⟩
    · rw [if_neg h1] at h; cases h
  · rw [if_neg h0] at h
    by_cases h1 : -(n : Int) ≤ i
    · rw [if_pos h1] at h
      have e : (i + n).toNat = j := Option.some.inj h
      exact ⟨by rw [seqIndex_neg (by omega) h1, e], by omega, h1, by omega⟩
    · rw [if_neg h1] at h; cases h
theorem atI_get {α : Type} {xs : List α} {i : Int} {v : α} (h : atI xs i = some v) : ∃ j, seqIndex? i xs.length = some j ∧ xs[j]? = some v ∧ j < xs.length ∧ -(xs.length : Int) ≤ i ∧ i < xs.length := by
  unfold atI at h
  cases e : ixN xs.length i with
  | none => rw [e] at h; cases h
  | some j =>
    rw [e] at h
    obtain ⟨h1, h2, h3, h4⟩ := ixN_seq e
    exact ⟨j, h1, h, h2, h3, h4⟩
theorem atI_nat {α : Type} {xs : List α} {j : Nat} {v : α} (h : xs[j]? = some v) : atI xs (j : Int) = some v := by
  have hj : j < xs.length := (List.getElem?_eq_some_iff.mp h).1
  have e : ixN xs.length (j : Int) = some j := by
    unfold ixN
    rw [if_pos (by omega), if_pos (by omega)]; simp
  unfold atI; rw [e]; exact h
theorem atI_last {α : Type} (xs : List α) (v : α) : atI (xs ++ [v]) (-1) = some v := by
  have hl : (xs ++ [v]).length = xs.length + 1 := by simp
  have e : ixN (xs ++ [v]).length (-1) = some xs.length := by
    unfold ixN
    rw [hl, if_neg (by decide), if_pos (by omega)]
    congr 1
    omega
  unfold atI
  rw [e]
  show (xs ++ [v])[xs.length]? = some v
  simp

/-! ### what may be subscripted -/
/-- what stands as an index of a plain subscript -/
def PlainIx (b : Expr) : Prop := ∀ o i, subscripted b false o i = operate [o, i] (getItem o i)
/-- a subscript by values -/
def IxR (X : Cx) (r : R2) : Prop :=
  ∀ (value slice : Expr) (pins : List (Addr × Obj)) (s : Shared) (σ : St) (H : Hp) (x y : V) (v u : Value) (Q : VK), Inv X pins σ H s → RelV x v → RelV y u → r x y H Q →
    subscripted slice false v u = operate [v, u] (getItem v u) → wpAny (model X.prog X.w) X.A (subscriptTail value slice v u) (EP X pins σ Q) X.xe s
/-- a call of a builtin's method by values: the receiver, the arguments -/
def MtR (X : Cx) (id : String) (r : V → List V → Hp → VK → Prop) : Prop :=
  ∀ (pins : List (Addr × Obj)) (s : Shared) (σ : St) (H : Hp) (x : V) (xs : List V) (v : Value) (us : List Value) (Q : VK), Inv X pins σ H s → RelV x v → Vals xs us → r x xs H Q →
    wpAny (model X.prog X.w) X.A (call (.builtin id) (v :: us)) (EP X pins σ Q) X.xe s
section
variable {X : Cx} {a b : Expr} {ta tb : TE} {pos : Pos}
theorem IxR.or {r r' : R2} (h : IxR X r) (h' : IxR X r') : IxR X (fun x y H Q => r x y H Q ∨ r' x y H Q) := by
  intro value slice pins s σ H x y v u Q I rx ry q hs
  rcases q with q | q
  · exact h value slice pins s σ H x y v u Q I rx ry q hs
  · exact h' value slice pins s σ H x y v u Q I rx ry q hs
theorem MtR.or {id : String} {r r' : V → List V → Hp → VK → Prop} (h : MtR X id r) (h' : MtR X id r') : MtR X id (fun x xs H Q => r x xs H Q ∨ r' x xs H Q) := by
  intro pins s σ H x xs v us Q I rx rs q
  rcases q with q | q
  · exact h pins s σ H x xs v us Q I rx rs q
  · exact h' pins s σ H x xs v us Q I rx rs q
/-- a[b] -/
theorem pe_ix {r : R2} (hr : IxR X r) (ha : PE X a ta) (hb : PE X b tb) (hs : PlainIx b) : PE X (.Subscript a b pos) (tOp r ta tb) := by
  intro pins s σ H Q I h
  exact Subscript_ (binT ha hb I h fun v u s2 x y H2 I2 rx ry q => hr a b pins s2 σ H2 x y v u Q I2 rx ry q (hs _ _))

def rIxL (K : PySem.W.Frag) : R2 := fun x y H Q => ∃ p xs i v, x = .ref p ∧ y = .int i ∧ SqL K H p xs ∧ atI xs i = some v ∧ Q v H
def rIxT (K : PySem.W.Frag) : R2 := fun x y H Q => ∃ p xs i v, x = .ref p ∧ y = .int i ∧ SqT K H p xs ∧ atI xs i = some v ∧ Q v H
def rIxS : R2 := fun x y H Q => ∃ z i c, x = .str z ∧ y = .int i ∧ z.length ≤ sizeLine ∧ atI z.cps.toList i = some c ∧ Q (.str ⟨#[c]⟩) H
theorem ix_list : IxR X (rIxL X.K) := by
  intro value slice pins s σ H x y v u Q I rx ry h hs
  obtain ⟨p, xs, i, z, rfl, rfl, hq, he, q⟩ := h
  cases rx
  obtain ⟨t, rfl⟩ := ry
  obtain ⟨its, r, pl, hz⟩ := I.list hq
  obtain ⟨j, h1, h2, h3, h4, h5⟩ := atI_get he
  obtain ⟨w, ew, rw'⟩ := r.get h2
  have hl := r.length
  have hn := line63
  have fin : EP X pins σ Q w s := ⟨z, H, I, rw', q⟩
  by_cases h0 : 0 ≤ i
  · have hj : i.toNat = j := by
      rw [seqIndex_of h0 h5] at h1
      exact Option.some.inj h1
    exact item_listR pl.isList h0 (by omega) (by rw [hj]; simpa using ew) fin hs
  · have hj : (i + (its.toArray.size : Int)).toNat = j := by
      rw [seqIndex_neg (by omega) h4] at h1
      rw [List.size_toArray, ← hl]
      exact Option.some.inj h1
    exact subscriptTail_builtinR (x := w) pl.isList.typeIs slot_list_getitem.lookup
      (wpAny_getItem_list_neg (Q := fun r s' => r = w ∧ EP X pins σ Q r s') pl.isList (by omega) (by rw [List.size_toArray] <;> omega) (by omega) (by rw [hj]; simpa using ew) ⟨rfl, fin⟩) hs
theorem ix_tup : IxR X (rIxT X.K) := by
  intro value slice pins s σ H x y v u Q I rx ry h hs
  obtain ⟨p, xs, i, z, rfl, rfl, hq, he, q⟩ := h
  cases rx
  obtain ⟨t, rfl⟩ := ry
  obtain ⟨its, r, pl, hz⟩ := I.tuple hq
  obtain ⟨j, h1, h2, h3, h4, h5⟩ := atI_get he
  obtain ⟨w, ew, rw'⟩ := r.get h2
  have hl := r.length
  have hn := line63
  have fin : EP X pins σ Q w s := ⟨z, H, I, rw', q⟩
  exact subscriptTail_builtinR (x := w) pl.typeIs slot_tuple_getitem.lookup
    (getItem_tuple (j := j) (Q := fun r s' => r = w ∧ EP X pins σ Q r s') pl (by omega) (by omega) (by rw [List.size_toArray, ← hl]; exact h1) (by simpa using ew) ⟨rfl, fin⟩) hs
theorem ix_str : IxR X rIxS := by
  intro value slice pins s σ H x y v u Q I rx ry h hs
  obtain ⟨z, i, c, rfl, rfl, hz, he, q⟩ := h
  obtain ⟨t, rfl⟩ := rx
  obtain ⟨t', rfl⟩ := ry
  obtain ⟨j, h1, h2, h3, h4, h5⟩ := atI_get he
  have hl : z.cps.toList.length = z.length := by simp [Str.length]
  rw [hl] at h1 h4 h5
  have hn := line63
  exact tail_any (typeIs_str s z t) slot_str_getitem.lookup (getItem_str (c := c) (by
    have e1 : decide (i < -(2 ^ 63 : Int)) = false := decide_eq_false (by omega)
    have e2 : decide (i ≥ 2 ^ 63) = false := decide_eq_false (by omega)
    rw [e1, e2, Bool.or_false]) (by rw [h1]; simpa using h2) ⟨.str ⟨#[c]⟩, H, I.tok _, ⟨_, rfl⟩, q⟩) hs
/-- list, tuple or str -/
def rIx (K : PySem.W.Frag) : R2 := fun x y H Q => rIxL K x y H Q ∨ rIxT K x y H Q ∨ rIxS x y H Q
theorem ix_seq : IxR X (rIx X.K) := ix_list.or (ix_tup.or ix_str)

/-! ### xs[i] = v, any sign -/
/-- the list's object behind a store -/
theorem mapSeq_set (its : List Value) (n j : Nat) (u : Value) : Obj.mapSeq (·.setIfInBounds j u) { cls := .type "list", data := .seq its.toArray n } = { cls := .type "list", data := .seq (its.set j u).toArray n } := by
  simp [Obj.mapSeq]
theorem Inv.lst {pins : List (Addr × Obj)} {σ : St} {H : Hp} {s : Shared} {p : Addr} {xs : List V} (I : Inv X pins σ H s) (h : H p = some (.lst xs)) :
    ∃ (its : List Value) (n : Nat), Vals xs its ∧ s.heap.get? p = some { cls := .type "list", data := .seq its.toArray n } ∧ xs.length ≤ sizeLine := by
  obtain ⟨z, its, n, r, e⟩ := I.hok p _ h
  exact ⟨its, n, r, e, z⟩
/-- the list at p is written by an update of its object -/
theorem Inv.lstUpd {pins : List (Addr × Obj)} {σ : St} {H : Hp} {s : Shared} {p : Addr} {xs ys : List V} {its its' : List Value} {n n' : Nat} {f : Obj → Obj} (I : Inv X pins σ H s) (h : H p = some (.lst xs))
    (ho : s.heap.get? p = some { cls := .type "list", data := .seq its.toArray n }) (hf : f { cls := .type "list", data := .seq its.toArray n } = { cls := .type "list", data := .seq its'.toArray n' }) (r : Vals ys its') (hz : ys.length ≤ sizeLine) (t : Nat) :
    Inv X pins σ (upd H p (.lst ys)) { s with heap := s.heap.update p f, toks := t } := by
  have e : (s.heap.update p f).get? p = some { cls := .type "list", data := .seq its'.toArray n' } := by
    rw [Heap.get?_update_self f ho (by rw [hf] <;> rfl), hf]
  refine I.write (x := p) (e := p) (by rw [h]; trivial) (.inl rfl) (fun b u hb q => (Heap.get?_update_other _ _ (Ne.symm hb)).trans q) ⟨_, e⟩ ?_
  exact ⟨hz, its', n', r, e⟩
def rSetL : V → V → V → Hp → (Hp → Prop) → Prop := fun o i v H Q => ∃ p xs k j, o = .ref p ∧ i = .int k ∧ H p = some (.lst xs) ∧ ixN xs.length k = some j ∧ Q (upd H p (.lst (xs.set j v)))
theorem set_list : PSet X rSetL := by
  intro pins s σ H o i v ov iv u Q I ro ri rv h
  obtain ⟨p, xs, k, j, rfl, rfl, hp, hj, q⟩ := h
  cases ro
  obtain ⟨t, rfl⟩ := ri
  obtain ⟨its, n, r, ho, hz⟩ := I.lst hp
  obtain ⟨h1, h2, h3, h4⟩ := ixN_seq hj
  have hl := r.length
  have hn := line63
  have I' : Inv X pins σ (upd H p (.lst (xs.set j v))) { s with heap := s.heap.update p (Obj.mapSeq (·.setIfInBounds j u)) } :=
    I.lstUpd hp ho (mapSeq_set its n j u) (r.set rv j) (by rw [List.length_set]; exact hz) s.toks
  by_cases h0 : 0 ≤ k
  · have hk : k.toNat = j := by
      rw [seqIndex_of h0 h4] at h1
      exact Option.some.inj h1
    exact PySem.W.ki_setAt ho h0 (by omega) (by rw [List.size_toArray, ← hl]; exact h4) (by rw [hk]; exact ⟨_, I', q⟩)
  · have hk : (k + (its.toArray.size : Int)).toNat = j := by
      rw [seqIndex_neg (by omega) h3] at h1
      rw [List.size_toArray, ← hl]
      exact Option.some.inj h1
    exact PySem.W.ki_setBack ho (by omega) (by rw [List.size_toArray, ← hl]; exact h3) (by omega) (by rw [hk]; exact ⟨_, I', q⟩)

/-! ### slices -/
theorem slice_bounds (lo hi : Option Int) (n : Nat) : (sliceBounds lo hi none n).1 = ((HT.sIx n 0 lo : Nat) : Int) ∧ (sliceBounds lo hi none n).2.1 = ((HT.sIx n n hi : Nat) : Int) ∧ (sliceBounds lo hi none n).2.2 = 1 := by
  refine ⟨?_, ?_, rfl⟩
  · cases lo with
    | none => simp [sliceBounds, HT.sIx]
    | some i =>
      simp only [sliceBounds, HT.sIx, Option.getD_none, show (1 : Int) > 0 by decide, if_true]
      by_cases h : i < 0
      · simp only [h, if_true] <;> omega
      · simp only [h, if_false] <;> omega
  · cases hi with
    | none => simp [sliceBounds, HT.sIx]
    | some i =>
      simp only [sliceBounds, HT.sIx, Option.getD_none, show (1 : Int) > 0 by decide, if_true]
      by_cases h : i < 0
      · simp only [h, if_true] <;> omega
      · simp only [h, if_false] <;> omega
theorem slicePick_cut (its : List Value) (lo hi : Option Int) : slicePick its.toArray lo hi none = ((its.drop (HT.sIx its.length 0 lo)).take (HT.sIx its.length its.length hi - HT.sIx its.length 0 lo)).toArray := by
  obtain ⟨h1, h2, h3⟩ := slice_bounds lo hi its.toArray.size
  unfold slicePick
  rw [h1, h2, h3]
  simp only [sliceRange_one, pick_run, List.size_toArray] <;> rfl
/-- xs[lo:hi] of a list: a new list -/
def rSlL (K : PySem.W.Frag) : V → Option Int → Option Int → Hp → VK → Prop := fun x lo hi H Q => ∃ a xs, x = .ref a ∧ SqL K H a xs ∧ ∀ p, H p = none → Q (.ref p) (upd H p (.lst (cutV xs lo hi)))
theorem sl_list : SlR X (rSlL X.K) := by
  intro pins s σ H x v vl vu lo hi sl Q I rx hs pl pu h
  obtain ⟨a, xs, rfl, hx, q⟩ := h
  cases rx
  obtain ⟨its, r, ht, hz⟩ := I.list hx
  have hlen := r.length
  refine ⟨"list", _, slot_list_getitem.lookup, ht.isList.typeIs, ?_⟩
  refine wpAny_getItem_list_slice ht.isList hs pl pu .none (by simp) ?_ (by rw [List.size_toArray] <;> omega)
  rw [slicePick_cut, ← hlen]
  refine ⟨.ref s.heap.objs.size, _, I.laid (t' := s.toks) (o := .lst (cutV xs lo hi)) (fun b ob q => Heap.get?_push_of_some _ q) (Nat.le_refl _) ?_, rfl, q _ (I.hok.fresh (Nat.le_refl _))⟩
  exact ⟨Nat.le_trans (cutV_length xs lo hi) hz, _, 0, (r.drop (HT.sIx xs.length 0 lo)).take (HT.sIx xs.length xs.length hi - HT.sIx xs.length 0 lo), Heap.get?_push_size _ rfl⟩

/-! ### in, not in: flat items -/
def flatV : V → Bool
  | .non => true
  | .bl _ => true
  | .int _ => true
  | .str _ => true
  | _ => false
/-- == of flat values -/
def eqV : V → V → Bool
  | .non, .non => true
  | .bl a, .bl b => a == b
  | .bl a, .int b => (if a then 1 else 0) == b
  | .int a, .bl b => a == (if b then 1 else 0)
  | .int a, .int b => a == b
  | .str a, .str b => a == b
  | _, _ => false
theorem eqAt_V {A : Around} {s : Shared} {y x : V} {u v : Value} (ry : RelV y u) (rx : RelV x v) (fy : flatV y = true) (fx : flatV x = true) : SeqAt.EqAt A s u v (eqV y x) := by
  cases y with
  | non =>
    cases ry
    cases x with
    | non => cases rx; exact SeqAt.EqAt.same _
    | bl b => cases rx; exact SeqAt.EqAt.none_bool b
    | int b => obtain ⟨t, rfl⟩ := rx; exact SeqAt.EqAt.none_int b t
    | str b => obtain ⟨t, rfl⟩ := rx; exact SeqAt.EqAt.none_str b t
    | _ => exact absurd (show false = true from fx) Bool.false_ne_true
  | bl a =>
    cases ry
    cases x with
    | non => cases rx; exact SeqAt.EqAt.bool_none a
    | bl b => cases rx; exact SeqAt.EqAt.bool_bool a b
    | int b => obtain ⟨t, rfl⟩ := rx; exact SeqAt.EqAt.bool_int a b t
    | str b => obtain ⟨t, rfl⟩ := rx; exact SeqAt.EqAt.bool_str a b t
    | _ => exact absurd (show false = true from fx) Bool.false_ne_true
  | int a =>
    obtain ⟨t', rfl⟩ := ry
    cases x with
    | non => cases rx; exact SeqAt.EqAt.int_none a t'
    | bl b => cases rx; exact SeqAt.EqAt.int_bool a t' b
    | int b => obtain ⟨t, rfl⟩ := rx; exact SeqAt.EqAt.int_int a t' b t
    | str b => obtain ⟨t, rfl⟩ := rx; exact SeqAt.EqAt.int_str a t' b t
    | _ => exact absurd (show false = true from fx) Bool.false_ne_true
  | str a =>
    obtain ⟨t', rfl⟩ := ry
    cases x with
    | non => cases rx; exact SeqAt.EqAt.str_none a t'
    | bl b => cases rx; exact SeqAt.EqAt.str_bool a t' b
    | int b => obtain ⟨t, rfl⟩ := rx; exact SeqAt.EqAt.str_int a t' b t
    | str b => obtain ⟨t, rfl⟩ := rx; exact SeqAt.EqAt.str_str a t' b t
    | _ => exact absurd (show false = true from fx) Bool.false_ne_true
  | _ => exact absurd (show false = true from fy) Bool.false_ne_true
/-- the items' answers, read off the values (a value's own answer does not lean on its token) -/
def eqU (x : V) (u : Value) : Bool := match u with
  | .none => eqV .non x
  | .bool b => eqV (.bl b) x
  | .int i _ => eqV (.int i) x
  | .str z _ => eqV (.str z) x
  | _ => false
theorem eqU_of {x y : V} {u : Value} (r : RelV y u) (f : flatV y = true) : eqU x u = eqV y x := by
  cases y with
  | non => cases r; rfl
  | bl b => cases r; rfl
  | int i => obtain ⟨t, rfl⟩ := r; rfl
  | str z => obtain ⟨t, rfl⟩ := r; rfl
  | _ => exact absurd (show false = true from f) Bool.false_ne_true
theorem any_eqU {x : V} : ∀ {xs : List V} {us : List Value}, Vals xs us → xs.all flatV = true → us.any (eqU x) = xs.any fun y => eqV y x
  | _, _, .nil, _ => rfl
  | y :: xs, u :: us, .cons r t, f => by
    rw [List.all_cons, Bool.and_eq_true] at f
    rw [List.any_cons, List.any_cons, eqU_of r f.1, any_eqU t f.2]
theorem mem_eqAt {A : Around} {s : Shared} {x : V} {v : Value} (rx : RelV x v) (fx : flatV x = true) : ∀ {xs : List V} {us : List Value}, Vals xs us → xs.all flatV = true → ∀ u ∈ us, SeqAt.EqAt A s u v (eqU x u)
  | _, _, .nil, _ => fun u hu => by cases hu
  | y :: xs, u :: us, .cons r t, f => fun u' hu => by
    rw [List.all_cons, Bool.and_eq_true] at f
    rcases List.mem_cons.mp hu with rfl | hu
    · rw [eqU_of r f.1]; exact eqAt_V r rx f.1 fx
    · exact mem_eqAt rx fx t f.2 u' hu
def inV (x : V) (xs : List V) : Bool := xs.any fun y => eqV y x
/-- x in a list or tuple of flat items -/
def rIn (K : PySem.W.Frag) (neg : Bool) : R2 := fun x y H Q => ∃ p xs, y = .ref p ∧ (SqL K H p xs ∨ SqT K H p xs) ∧ flatV x = true ∧ xs.all flatV = true ∧ Q (.bl (if neg then !inV x xs else inV x xs)) H
theorem op_in_seq : OpR X (compareOp .In) (rIn X.K false) := by
  intro pins s σ H x y v u Q I rx ry h
  obtain ⟨p, xs, rfl, hq, fx, fs, q⟩ := h
  cases ry
  rcases hq with hq | hq
  · obtain ⟨its, r, pl, hz⟩ := I.list hq
    refine SeqAt.in_listAt (eqU x) pl.isList (fun w hw => mem_eqAt rx fx r fs w (by simpa using hw)) ⟨.bl _, H, I, rfl, ?_⟩
    rw [show its.toArray.any (eqU x) = its.any (eqU x) by simp, any_eqU r fs]
    exact q
  · obtain ⟨its, r, pl, hz⟩ := I.tuple hq
    refine SeqAt.in_tupleAt (eqU x) pl (fun w hw => mem_eqAt rx fx r fs w (by simpa using hw)) ⟨.bl _, H, I, rfl, ?_⟩
    rw [show its.toArray.any (eqU x) = its.any (eqU x) by simp, any_eqU r fs]
    exact q
theorem op_notIn_seq : OpR X (compareOp .NotIn) (rIn X.K true) := by
  intro pins s σ H x y v u Q I rx ry h
  obtain ⟨p, xs, rfl, hq, fx, fs, q⟩ := h
  cases ry
  rcases hq with hq | hq
  · obtain ⟨its, r, pl, hz⟩ := I.list hq
    refine SeqAt.notIn_listAt (eqU x) pl.isList (fun w hw => mem_eqAt rx fx r fs w (by simpa using hw)) ⟨.bl _, H, I, rfl, ?_⟩
    rw [show its.toArray.any (eqU x) = its.any (eqU x) by simp, any_eqU r fs]
    exact q
  · obtain ⟨its, r, pl, hz⟩ := I.tuple hq
    refine SeqAt.notIn_tupleAt (eqU x) pl (fun w hw => mem_eqAt rx fx r fs w (by simpa using hw)) ⟨.bl _, H, I, rfl, ?_⟩
    rw [show its.toArray.any (eqU x) = its.any (eqU x) by simp, any_eqU r fs]
    exact q
theorem op_notIn_str : OpR X (compareOp .NotIn) (fun x y H Q => ∃ i j, x = .str i ∧ y = .str j ∧ Q (.bl (!(!(Builtin.Str.occurrences j i 0 j.length 1).isEmpty))) H) := by
  intro pins s σ H x y v u Q I rx ry h
  obtain ⟨i, j, rfl, rfl, q⟩ := h
  obtain ⟨t, rfl⟩ := rx
  obtain ⟨t', rfl⟩ := ry
  exact notIn_str ⟨.bl _, H, I, rfl, q⟩

/-! ### len, list(x), tuple(x) of any list or tuple that is read -/
theorem call_len_seq : CallR X (.builtin "len") (fun xs H Q => ∃ p ys, xs = [.ref p] ∧ (SqL X.K H p ys ∨ SqT X.K H p ys) ∧ Q (.int ys.length) H) := by
  intro pins s σ H xs us Q I r h
  obtain ⟨p, ys, rfl, hq, q⟩ := h
  obtain ⟨u, rfl, rx⟩ := vals1 r
  cases rx
  have hn := line63
  rcases hq with hq | hq
  · obtain ⟨its, r', pl, hz⟩ := I.list hq
    have hlen := r'.length
    exact Calls.call_len_list pl.isList (by simp only [List.size_toArray] <;> omega) ⟨.int ys.length, H, I.tok _, ⟨s.toks + 1, by rw [List.size_toArray, hlen]⟩, q⟩
  · obtain ⟨its, r', pl, hz⟩ := I.tuple hq
    have hlen := r'.length
    exact len_tuple pl (by simp only [List.size_toArray] <;> omega) ⟨.int ys.length, H, I.tok _, ⟨s.toks + 1, by rw [List.size_toArray, hlen]⟩, q⟩
theorem call_len_str : CallR X (.builtin "len") (fun xs H Q => ∃ z, xs = [.str z] ∧ z.length ≤ sizeLine ∧ Q (.int z.length) H) := by
  intro pins s σ H xs us Q I r h
  obtain ⟨z, rfl, hz, q⟩ := h
  obtain ⟨u, rfl, t, rfl⟩ := vals1 r
  have hn := line63
  exact len_str (by omega) ⟨.int z.length, H, I.tok _, ⟨_, rfl⟩, q⟩
theorem CallR.or {f : Value} {r r' : List V → Hp → VK → Prop} (h : CallR X f r) (h' : CallR X f r') : CallR X f (fun xs H Q => r xs H Q ∨ r' xs H Q) := by
  intro pins s σ H xs us Q I rs q
  rcases q with q | q
  · exact h pins s σ H xs us Q I rs q
  · exact h' pins s σ H xs us Q I rs q
theorem call_list_of : CallR X (.type "list") (fun xs H Q => ∃ p ys, xs = [.ref p] ∧ (SqL X.K H p ys ∨ SqT X.K H p ys) ∧ ∀ l, H l = none → Q (.ref l) (upd H l (.lst ys))) := by
  intro pins s σ H xs us Q I r h
  obtain ⟨p, ys, rfl, hq, q⟩ := h
  obtain ⟨u, rfl, rx⟩ := vals1 r
  cases rx
  have fin : ∀ (its : List Value), Vals ys its → ys.length ≤ sizeLine → ∀ (h' : Heap) (c' : Nat), (∀ b o', s.heap.get? b = some o' → h'.get? b = some o') →
      h'.get? s.heap.objs.size = some { cls := .type "list", dict := none, data := .seq its.toArray c', slots := #[] } → EP X pins σ Q (.ref s.heap.objs.size) { s with heap := h' } := fun its r' hz h' c' kp e =>
    ⟨.ref s.heap.objs.size, _, I.laid (t' := s.toks) kp (Nat.le_refl _) (show ObjOk X.prog X.w _ h' _ (.lst ys) from ⟨hz, its, c', r', e⟩), rfl, q _ (I.hok.fresh (Nat.le_refl _))⟩
  rcases hq with hq | hq
  · obtain ⟨its, r', pl, hz⟩ := I.list hq
    have hlen := r'.length
    obtain ⟨o, ho, hc, n, hd⟩ := pl.isList
    exact call_list_seq p (.inl rfl) ho hc hd (fun h' c' kp e => fin its r' hz h' c' kp e) (by simp only [List.size_toArray] <;> omega)
  · obtain ⟨its, r', pl, hz⟩ := I.tuple hq
    have hlen := r'.length
    obtain ⟨o, ho, hc, n, hd⟩ := pl
    exact call_list_seq p (.inr rfl) ho hc hd (fun h' c' kp e => fin its r' hz h' c' kp e) (by simp only [List.size_toArray] <;> omega)
theorem call_tuple_of : CallR X (.type "tuple") (fun xs H Q => ∃ p ys, xs = [.ref p] ∧ ((SqL X.K H p ys ∧ ∀ l, H l = none → Q (.ref l) (upd H l (.tup ys))) ∨ (SqT X.K H p ys ∧ Q (.ref p) H))) := by
  intro pins s σ H xs us Q I r h
  obtain ⟨p, ys, rfl, h⟩ := h
  obtain ⟨u, rfl, rx⟩ := vals1 r
  cases rx
  rcases h with ⟨hq, q⟩ | ⟨hq, q⟩
  · obtain ⟨its, r', pl, hz⟩ := I.list hq
    have hlen := r'.length
    refine call_tuple_list pl.isList (fun h' kp => ?_) (by simp only [List.size_toArray] <;> omega)
    have I1 : Inv X pins σ H { s with heap := h' } := I.kept (t' := s.toks) kp
    have I2 : Inv X pins σ (upd H h'.objs.size (.tup ys)) { s with heap := h'.push { cls := .type "tuple", data := .seq its.toArray } } :=
      I1.laid (t' := s.toks) (fun b o e => Heap.get?_push_of_some _ e) (Nat.le_refl _) (show ObjOk X.prog X.w _ _ _ (.tup ys) from ⟨hz, its, r', IsTup.new _ _⟩)
    exact ⟨.ref h'.objs.size, _, I2, rfl, q _ (I1.hok.fresh (Nat.le_refl _))⟩
  · obtain ⟨its, r', pl, hz⟩ := I.tuple hq
    exact call_tuple_same pl ⟨.ref p, H, I, rfl, q⟩

/-! ### the call of a builtin's method: o.m(..) -/
/-- the value is of that builtin type -/
def tyV (K : PySem.W.Frag) (T : String) (x : V) (H : Hp) : Prop := match x with
  | .str _ => T = "str"
  | .int _ => T = "int"
  | .ref p => (T = "list" ∧ ∃ xs, SqL K H p xs) ∨ (T = "tuple" ∧ ∃ o, K.lookup p = some o ∧ o.cls = .type "tuple" ∧ o.dict = none) ∨
      (T = "dict" ∧ ((∃ kvs, H p = some (.dK kvs)) ∨ ∃ kvs, H p = some (.dT kvs))) ∨ (T = "set" ∧ ∃ S n, H p = some (.set S n))
  | _ => False
theorem tyV_is {pins : List (Addr × Obj)} {σ : St} {H : Hp} {s : Shared} {T : String} {x : V} {v : Value} (I : Inv X pins σ H s) (r : RelV x v) (ty : tyV X.K T x H) :
    s.TypeIs v T ∧ ∀ a, v = .ref a → ∃ ob, s.heap.get? a = some ob ∧ ob.dict = none := by
  cases x with
  | str z =>
    obtain ⟨t, rfl⟩ := r
    cases (show T = "str" from ty)
    exact ⟨typeIs_str s z t, fun _ e => nomatch e⟩
  | int i =>
    obtain ⟨t, rfl⟩ := r
    cases (show T = "int" from ty)
    exact ⟨typeIs_int s i t, fun _ e => nomatch e⟩
  | ref p =>
    cases r
    rcases ty with ⟨rfl, xs, hq⟩ | ⟨rfl, o, hk, hc, hd⟩ | ⟨rfl, hk⟩ | ⟨rfl, S, n, hk⟩
    · obtain ⟨its, _, pl, _⟩ := I.list hq
      refine ⟨pl.isList.typeIs, fun a e => ?_⟩
      cases e
      obtain ⟨o, n, e, c, hd, _⟩ := pl
      exact ⟨o, e, hd⟩
    · refine ⟨⟨o, I.kIn p o hk, hc⟩, fun a e => ?_⟩
      cases e
      exact ⟨o, I.kIn _ o hk, hd⟩
    · have z : ∃ o, s.heap.get? p = some o ∧ o.ExactDict := by
        rcases hk with ⟨kvs, hk⟩ | ⟨kvs, hk⟩
        · obtain ⟨_, _, _, _, o, _, _, e, ex, _⟩ := I.hok p _ hk
          exact ⟨o, e, ex⟩
        · obtain ⟨_, _, _, _, o, _, _, e, ex, _⟩ := I.hok p _ hk
          exact ⟨o, e, ex⟩
      obtain ⟨o, e, ex⟩ := z
      refine ⟨⟨o, e, ex.1⟩, fun a e2 => ?_⟩
      cases e2
      exact ⟨o, e, ex.2.1⟩
    · obtain ⟨o, _, _, _, e, ex, _⟩ := I.hok p _ hk
      refine ⟨⟨o, e, ex.1⟩, fun a e2 => ?_⟩
      cases e2
      exact ⟨o, e, ex.2.1⟩
  | _ => exact False.elim ty
def tBM0 (K : PySem.W.Frag) (T : String) (r : V → List V → Hp → VK → Prop) (to : TE) : TE := fun σ H Q => to σ H fun x H1 => tyV K T x H1 ∧ r x [] H1 Q
def tBM (K : PySem.W.Frag) (T : String) (r : V → List V → Hp → VK → Prop) (to : TE) (t : TA) : TE := fun σ H Q => to σ H fun x H1 => tyV K T x H1 ∧ t σ H1 fun xs H2 => r x xs H2 Q
variable {o e : Expr} {es : List Expr} {to : TE} {t : TA} {name : Str} {apos cpos : Pos} {T id : String} {r : V → List V → Hp → VK → Prop}
theorem pe_bm0 (pa : PlainAttrs T) (slot : Slot T name id) (hty : typeOf (.builtin id) = pure (.type "method_descriptor")) (hm : MtR X id r) (ho : PE X o to)
    (hbase : attributeBase o name X.env (eval o X.env) = eval o X.env := by rfl) (hline : (apos.endLine == cpos.line) = true := by rfl) : PE X (.Call (.Attribute o name apos) [] [] cpos) (tBM0 X.K T r to) := by
  intro pins s σ H Q I h
  refine wpAny_Call_method0_late hbase hline (thn (ho pins s σ H _ I h) fun v s1 ⟨x, H1, I1, r1, ty, q1⟩ => ?_)
  obtain ⟨h1, h2⟩ := tyV_is I1 r1 ty
  exact ⟨T, id, pa, slot, hty, h1, h2, Calls.callWith_builtin rfl (PySem.evalArgs_none (hm pins s1 σ H1 x [] v [] Q I1 r1 .nil q1))⟩
theorem pe_bm (pa : PlainAttrs T) (slot : Slot T name id) (hty : typeOf (.builtin id) = pure (.type "method_descriptor")) (hm : MtR X id r) (ho : PE X o to) (ha : PA X (e :: es) t)
    (hbase : attributeBase o name X.env (eval o X.env) = eval o X.env := by rfl)
    (hfew : ((backTo cpos (starEach (e :: es) X.env)).all (fun x => !x.1) && (backToKw cpos (keywordEach [] X.env)).all (fun x => x.1.isSome)
      && decide ((e :: es).length + ([] : List Keyword).length + (if ([] : List Keyword).isEmpty then 0 else 1) < 30)) = true := by rfl)
    (hline : (apos.endLine == cpos.line) = true := by rfl) (hs : starEach (e :: es) X.env = (false, eval e X.env) :: starEach es X.env := by rfl) (hplain : (backTo cpos (starEach es X.env)).any (·.1) = false := by rfl) :
    PE X (.Call (.Attribute o name apos) (e :: es) [] cpos) (tBM X.K T r to t) := by
  intro pins s σ H Q I h
  refine wpAny_Call_method_late hbase hfew hline rfl (thn (ho pins s σ H _ I h) fun v s1 ⟨x, H1, I1, r1, ty, q1⟩ => ?_)
  obtain ⟨h1, h2⟩ := tyV_is I1 r1 ty
  refine ⟨T, id, pa, slot, hty, h1, h2, ?_⟩
  have hA := ha cpos pins s1 σ H1 _ I1 q1
  rw [hs] at hA ⊢
  refine Calls.callWith_builtin (by show (false || (backTo cpos (starEach es X.env)).any (·.1)) = false; rw [hplain] <;> rfl) (Calls.evalArgs_plain ?_)
  exact thn hA fun us s2 ⟨vs, H2, I2, r2, q2⟩ => hm pins s2 σ H2 x vs v us Q I2 r1 r2 q2
/- xs.append(e), list.index on a module's tuple .. are MtR facts of 06m -/
end
end L2

namespace L2
open PySem PySem.Spec PyProof.Rows

def MtM (X : Cx) (id : String) (r : V → List V → Hp → VK → Prop) : Prop :=
  ∀ (pins : List (Addr × Obj)) (s : Shared) (σ : St) (H : Hp) (x : V) (xs : List V) (v : Value) (us : List Value) (Q : VK), Inv X pins σ H s → RelV x v → Vals xs us → r x xs H Q →
    wpAny (model X.prog X.w) X.A (call (.builtin id) (v :: us)) (EP X pins σ Q) X.xe s

/-! ### lists of values -/
theorem Vals.one : ∀ {x : V} {us : List Value}, Vals [x] us → ∃ u, us = [u] ∧ RelV x u
  | _, _, .cons r .nil => ⟨_, rfl, r⟩
theorem Vals.two : ∀ {x y : V} {us : List Value}, Vals [x, y] us → ∃ u v, us = [u, v] ∧ RelV x u ∧ RelV y v
  | _, _, _, .cons r (.cons q .nil) => ⟨_, _, rfl, r, q⟩
theorem Vals.zero : ∀ {us : List Value}, Vals [] us → us = []
  | _, .nil => rfl
theorem Vals.dropLast {xs : List V} {us : List Value} (h : Vals xs us) : Vals xs.dropLast us.dropLast := by
  induction h with
  | nil => exact .nil
  | cons r t ih =>
    cases t with
    | nil => exact .nil
    | cons q t' => exact .cons r ih
theorem Vals.eraseIdx : ∀ {xs : List V} {us : List Value} (i : Nat), Vals xs us → Vals (xs.eraseIdx i) (us.eraseIdx i)
  | _, _, _, .nil => .nil
  | _, _, 0, .cons _ t => t
  | _, _, i + 1, .cons r t => .cons r (Vals.eraseIdx i t)
theorem Vals.reverse {xs : List V} {us : List Value} (h : Vals xs us) : Vals xs.reverse us.reverse := by
  induction h with
  | nil => exact .nil
  | cons r t ih => rw [List.reverse_cons, List.reverse_cons]; exact Vals.append ih (.cons r .nil)
theorem Vals.rep {xs : List V} {us : List Value} (h : Vals xs us) : ∀ k : Nat, Vals (List.replicate k xs).flatten (List.replicate k us).flatten
  | 0 => .nil
  | k + 1 => by
    rw [List.replicate_succ, List.replicate_succ, List.flatten_cons, List.flatten_cons]
    exact Vals.append h (Vals.rep h k)
theorem erase_last {α : Type} (l : List α) : l.eraseIdx (l.length - 1) = l.dropLast := by
  induction l with
  | nil => rfl
  | cons a r ih =>
    cases r with
    | nil => rfl
    | cons b r =>
      have e : (a :: b :: r).length - 1 = ((b :: r).length - 1) + 1 := by
        have h1 : (a :: b :: r).length = r.length + 2 := rfl
        have h2 : (b :: r).length = r.length + 1 := rfl
        omega
      rw [e, List.eraseIdx_cons_succ, ih]
      all_goals rfl
theorem len_erase {α : Type} : ∀ (l : List α) (i : Nat), (l.eraseIdx i).length ≤ l.length
  | [], _ => Nat.le_refl _
  | _ :: _, 0 => Nat.le_succ _
  | _ :: r, i + 1 => Nat.succ_le_succ (len_erase r i)
theorem foldl_rep (its : List Value) : ∀ (k : Nat) (acc : List Value),
    List.foldl (fun x1 x2 => x1 ++ x2) acc.toArray (List.replicate k its.toArray) = (acc ++ (List.replicate k its).flatten).toArray
  | 0, acc => by simp
  | k + 1, acc => by
    have e : acc.toArray ++ its.toArray = (acc ++ its).toArray := by simp
    have e2 : (acc ++ its) ++ (List.replicate k its).flatten = acc ++ (List.replicate (k + 1) its).flatten := by
      rw [List.replicate_succ, List.flatten_cons, List.append_assoc]
    rw [← e2, ← foldl_rep its k (acc ++ its), ← e, List.replicate_succ, List.foldl_cons]

section
variable {X : Cx} {pins : List (Addr × Obj)} {σ : St} {H : Hp} {s : Shared} {l b : Addr} {xs ys zs : List V}

/-! ### the two steps: a tracked list is rewritten, a new list is laid -/
theorem Inv.lset {its its' : List Value} {n : Nat} {f : Array Value → Array Value} {t' : Nat} (I : Inv X pins σ H s) (hH : H l = some (.lst xs))
    (e : s.heap.get? l = some { cls := .type "list", data := .seq its.toArray n }) (hf : f its.toArray = its'.toArray) (hv : Vals ys its') (hz : ys.length ≤ sizeLine) :
    Inv X pins σ (upd H l (.lst ys)) { s with heap := s.heap.update l (Obj.mapSeq f), toks := t' } := by
  have q := PySem.IsL.update e f
  rw [hf] at q
  refine I.write (x := l) (e := l) (by rw [hH]; exact trivial) (.inl rfl) (fun b' u hb hu => (Heap.get?_update_other s.heap (Obj.mapSeq f) (Ne.symm hb)).trans hu) ⟨_, q⟩ ?_
  exact ⟨hz, its', _, hv, q⟩
theorem Inv.lnew {its : List Value} {t' : Nat} (I : Inv X pins σ H s) (hv : Vals ys its) (hz : ys.length ≤ sizeLine) :
    Inv X pins σ (upd H s.heap.objs.size (.lst ys)) { s with heap := s.heap.push { cls := .type "list", data := .seq its.toArray }, toks := t' } :=
  I.laid (fun _ _ q => Heap.get?_push_of_some _ q) (Nat.le_refl _) ⟨hz, its, 0, hv, Heap.get?_push_size _ rfl⟩
theorem Inv.fresh (I : Inv X pins σ H s) : H s.heap.objs.size = none := I.hok.fresh (Nat.le_refl _)
theorem Inv.lstM (I : Inv X pins σ H s) (hH : H l = some (.lst xs)) : xs.length ≤ sizeLine ∧ ∃ (its : List Value) (n : Nat), Vals xs its ∧ xs.length = its.length ∧ s.heap.get? l = some { cls := .type "list", data := .seq its.toArray n } := by
  obtain ⟨z, its, n, r, e⟩ := I.hok l _ hH
  exact ⟨z, its, n, r, r.length, e⟩

theorem notLongL {n : Nat} (h : n ≤ sizeLine) : Builtin.List.listTooLong n = false := by
  unfold Builtin.List.listTooLong
  exact decide_eq_false (by omega)
end

section
variable {X : Cx}

/-! ### methods -/
def rAppend : V → List V → Hp → VK → Prop := fun x vs H Q => ∃ l xs y, x = .ref l ∧ vs = [y] ∧ H l = some (.lst xs) ∧ xs.length < sizeLine ∧ Q .non (upd H l (.lst (xs ++ [y])))
theorem mt_append : MtM X "list.append" rAppend := by
  intro pins s σ H x vs v us Q I rx rv h
  obtain ⟨l, xs, y, rfl, rfl, hH, hz, q⟩ := h
  cases rx
  obtain ⟨u, rfl, ru⟩ := rv.one
  obtain ⟨z, its, n, r, hl, e⟩ := I.lstM hH
  refine call_meets F.slot_list_append ⟨_, e, rfl⟩ F.entry_list_append (F.args_list_append_2 _ _) (PySem.list_append l its.toArray n u (by rw [List.size_toArray]; omega)) ⟨e, ?_⟩
  refine ⟨.non, _, I.lset (its' := its ++ [u]) hH e (by simp) (r.append (.cons ru .nil)) ?_, rfl, q⟩
  rw [List.length_append, List.length_singleton]
  omega

def rExtend : V → List V → Hp → VK → Prop := fun x vs H Q => ∃ l b xs zs, x = .ref l ∧ vs = [.ref b] ∧ H l = some (.lst xs) ∧ H b = some (.lst zs) ∧ xs.length + zs.length ≤ sizeLine ∧ Q .non (upd H l (.lst (xs ++ zs)))
theorem mt_extend : MtM X "list.extend" rExtend := by
  intro pins s σ H x vs v us Q I rx rv h
  obtain ⟨l, b, xs, zs, rfl, rfl, hH, hB, hz, q⟩ := h
  cases rx
  obtain ⟨u, rfl, ru⟩ := rv.one
  cases ru
  obtain ⟨z, its, n, r, hl, e⟩ := I.lstM hH
  obtain ⟨z2, its2, n2, r2, hl2, e2⟩ := I.lstM hB
  have hsz : its.toArray.size + its2.toArray.size ≤ sizeLine := by rw [List.size_toArray, List.size_toArray]; omega
  have hlong : ¬ (!its.toArray.isEmpty && Builtin.List.listTooLong (its.toArray.size + its2.toArray.size)) = true := by
    rw [notLongL hsz, Bool.and_false]
    exact Bool.false_ne_true
  refine call_meets F.slot_list_extend ⟨_, e, rfl⟩ F.entry_list_extend (F.args_list_extend_2 _ _)
    (AutoSeq1.list_extend_list_list_0 l its.toArray n b its2.toArray n2 hlong (by rw [List.size_toArray]; omega) (by omega)) ⟨e, e2, ?_⟩
  refine ⟨.non, _, I.lset (its' := its ++ its2) hH e (by simp) (r.append r2) ?_, rfl, q⟩
  rw [List.length_append]
  omega

def rPop : V → List V → Hp → VK → Prop := fun x vs H Q => ∃ l xs y, x = .ref l ∧ vs = [] ∧ H l = some (.lst xs) ∧ xs[xs.length - 1]? = some y ∧ Q y (upd H l (.lst xs.dropLast))
theorem mt_pop : MtM X "list.pop" rPop := by
  intro pins s σ H x vs v us Q I rx rv h
  obtain ⟨l, xs, y, rfl, rfl, hH, hy, q⟩ := h
  cases rx
  have hus := rv.zero
  subst hus
  obtain ⟨z, its, n, r, hl, e⟩ := I.lstM hH
  obtain ⟨u, hu, ru⟩ := r.get hy
  have hy' : its.toArray[its.toArray.size - 1]? = some u := by
    show its.toArray[its.length - 1]? = some u
    rw [← Array.getElem?_toList, ← hl]
    exact hu
  refine call_meets F.slot_list_pop ⟨_, e, rfl⟩ F.entry_list_pop (F.args_list_pop_1 _) (MeetsSeq.list_pop_last l its.toArray n u hy' (by rw [List.size_toArray]; omega)) ⟨e, ?_⟩
  refine ⟨y, _, I.lset (its' := its.dropLast) hH e ?_ r.dropLast ?_, ru, q⟩
  · show its.toArray.eraseIdxIfInBounds (its.toArray.size - 1) = its.dropLast.toArray
    rw [List.size_toArray, List.eraseIdxIfInBounds_toArray, erase_last]
  · rw [List.length_dropLast]
    omega

def rPopAt : V → List V → Hp → VK → Prop := fun x vs H Q => ∃ l xs i k y, x = .ref l ∧ vs = [.int i] ∧ H l = some (.lst xs) ∧ -(2 ^ 63) ≤ i ∧ i < 2 ^ 63 ∧ seqIndex? i xs.length = some k ∧ xs[k]? = some y ∧ Q y (upd H l (.lst (xs.eraseIdx k)))
theorem mt_popAt : MtM X "list.pop" rPopAt := by
  intro pins s σ H x vs v us Q I rx rv h
  obtain ⟨l, xs, i, k, y, rfl, rfl, hH, h1, h2, hk, hy, q⟩ := h
  cases rx
  obtain ⟨u, rfl, ru⟩ := rv.one
  obtain ⟨t, rfl⟩ := ru
  obtain ⟨z, its, n, r, hl, e⟩ := I.lstM hH
  obtain ⟨w, hw, rw'⟩ := r.get hy
  refine call_meets F.slot_list_pop ⟨_, e, rfl⟩ F.entry_list_pop (F.args_list_pop_2 _ _)
    (MeetsSeq.list_pop_at l its.toArray n i t k w (fitsIndex_both h1 h2) (by rw [List.size_toArray, ← hl]; exact hk) (by rw [← Array.getElem?_toList]; exact hw) (by rw [List.size_toArray]; omega)) ⟨e, ?_⟩
  refine ⟨y, _, I.lset (its' := its.eraseIdx k) hH e ?_ (r.eraseIdx k) ?_, rw', q⟩
  · show its.toArray.eraseIdxIfInBounds k = (its.eraseIdx k).toArray
    rw [List.eraseIdxIfInBounds_toArray]
  · have := len_erase xs k
    omega

def rReverse : V → List V → Hp → VK → Prop := fun x vs H Q => ∃ l xs, x = .ref l ∧ vs = [] ∧ H l = some (.lst xs) ∧ Q .non (upd H l (.lst xs.reverse))
theorem mt_reverse : MtM X "list.reverse" rReverse := by
  intro pins s σ H x vs v us Q I rx rv h
  obtain ⟨l, xs, rfl, rfl, hH, q⟩ := h
  cases rx
  have hus := rv.zero
  subst hus
  obtain ⟨z, its, n, r, hl, e⟩ := I.lstM hH
  refine call_meets F.slot_list_reverse ⟨_, e, rfl⟩ F.entry_list_reverse (F.args_list_reverse_1 _) (AutoSeq1.list_reverse_list_0 l its.toArray n (by rw [List.size_toArray]; omega)) ⟨e, ?_⟩
  refine ⟨.non, _, I.lset (its' := its.reverse) hH e (by simp) r.reverse ?_, rfl, q⟩
  rw [List.length_reverse]
  omega

def rClear : V → List V → Hp → VK → Prop := fun x vs H Q => ∃ l xs, x = .ref l ∧ vs = [] ∧ H l = some (.lst xs) ∧ Q .non (upd H l (.lst []))
theorem mt_clear : MtM X "list.clear" rClear := by
  intro pins s σ H x vs v us Q I rx rv h
  obtain ⟨l, xs, rfl, rfl, hH, q⟩ := h
  cases rx
  have hus := rv.zero
  subst hus
  obtain ⟨z, its, n, r, hl, e⟩ := I.lstM hH
  refine call_meets F.slot_list_clear ⟨_, e, rfl⟩ F.entry_list_clear (F.args_list_clear_1 _) (AutoSeq1.list_clear_list_0 l its.toArray n (by rw [List.size_toArray]; omega)) ⟨e, ?_⟩
  exact ⟨.non, _, I.lset (its' := []) (ys := []) hH e rfl .nil (Nat.zero_le _), rfl, q⟩

/-! ### list + list, list += list, list * int -/
def rCat : R2 := fun x y H Q => ∃ l b xs zs, x = .ref l ∧ y = .ref b ∧ H l = some (.lst xs) ∧ H b = some (.lst zs) ∧ xs.length + zs.length ≤ sizeLine ∧ ∀ p, H p = none → Q (.ref p) (upd H p (.lst (xs ++ zs)))
theorem op_cat : OpR X (binaryOp .Add) rCat := by
  intro pins s σ H x y v u Q I rx ry h
  obtain ⟨l, b, xs, zs, rfl, rfl, hH, hB, hz, q⟩ := h
  cases rx
  cases ry
  obtain ⟨z, its, n, r, hl, e⟩ := I.lstM hH
  obtain ⟨z2, its2, n2, r2, hl2, e2⟩ := I.lstM hB
  refine PySem.P.add_list e e2 ?_ (by rw [List.size_toArray, List.size_toArray]; omega)
  have ea : its.toArray ++ its2.toArray = (its ++ its2).toArray := by simp
  rw [ea]
  exact ⟨.ref _, _, I.lnew (t' := s.toks) (r.append r2) (by rw [List.length_append]; omega), rfl, q _ I.fresh⟩
/-- a list times an int (a negative one is nothing) -/
def rRep : R2 := fun x y H Q => ∃ l k xs, x = .ref l ∧ y = .int k ∧ H l = some (.lst xs) ∧ -(2 ^ 63) ≤ k ∧ k < 2 ^ 63 ∧ xs.length * k.toNat ≤ sizeLine ∧
  ∀ p, H p = none → Q (.ref p) (upd H p (.lst (List.replicate k.toNat xs).flatten))
theorem len_rep {α : Type} (xs : List α) (k : Nat) : (List.replicate k xs).flatten.length = k * xs.length := by
  induction k with
  | zero => simp
  | succ k ih => rw [List.replicate_succ, List.flatten_cons, List.length_append, ih, Nat.succ_mul, Nat.add_comm]
theorem op_rep : OpR X (binaryOp .Mult) rRep := by
  intro pins s σ H x y v u Q I rx ry h
  obtain ⟨l, k, xs, rfl, rfl, hH, h1, h2, hz, q⟩ := h
  cases rx
  obtain ⟨t, rfl⟩ := ry
  obtain ⟨z, its, n, r, hl, e⟩ := I.lstM hH
  have hlen : its.toArray.size * k.toNat ≤ sizeLine := by rw [List.size_toArray, ← hl]; exact hz
  have hcap : ¬ its.toArray.size * k.toNat > (2 ^ 63 - 1) / 8 := by
    have : (sizeLine : Nat) ≤ (2 ^ 63 - 1) / 8 := by decide
    omega
  have hfit : ¬ (!Builtin.List.listFitsIndex k) = true := by
    rw [fitsIndex_both h1 h2]
    exact Bool.false_ne_true
  have hlong : ¬ Builtin.List.listTooLong (its.toArray.size * k.toNat) = true := by
    rw [notLongL hlen]
    exact Bool.false_ne_true
  have hnew : List.foldl (fun x1 x2 => x1 ++ x2) #[] (List.replicate (if its.toArray.isEmpty = true then 0 else k.toNat) its.toArray) = (List.replicate k.toNat its).flatten.toArray := by
    have f0 : ∀ m : Nat, List.foldl (fun x1 x2 => x1 ++ x2) #[] (List.replicate m its.toArray) = (List.replicate m its).flatten.toArray := fun m => by
      have := foldl_rep its m []
      rw [List.nil_append] at this
      exact this
    rw [f0]
    cases its with
    | nil => simp
    | cons a r' => rw [if_neg (by simp)]
  refine wpAny_binaryOp_repeat_ref (T := "list") (U := "int") (by decide) ⟨_, e, rfl⟩ (fun s' => typeIs_int s' k t) noFill_list_mul F.fills_int_mul F.slot_int_rmul repeat_list F.slot_int_index.lookup
    (call_meets F.slot_int_rmul (typeIs_int s k t) F.entry_int_rmul (F.args_int_rmul_2 _ _) (int___rmul___int_list k t l its.toArray n)
      ⟨e, rfl, ⟨_, e, rfl⟩, call_meets F.slot_list_mul ⟨_, e, rfl⟩ F.entry_list_mul (F.args_list_mul_2 _ _) (AutoListH.list___mul___list_int_3 l its.toArray n k t hfit hcap hlong) ⟨e, ?_⟩⟩)
  rw [hnew]
  exact ⟨.ref _, _, I.lnew (t' := s.toks) (r.rep k.toNat) (by rw [len_rep, Nat.mul_comm]; exact hz), rfl, q _ I.fresh⟩

/-! ### del xs[i] -/
theorem del_list {pins : List (Addr × Obj)} {s : Shared} {σ : St} {H : Hp} {l : Addr} {xs : List V} {i : Int} {t : Tok} {k : Nat} {Q : Unit → Shared → Prop} (I : Inv X pins σ H s) (hH : H l = some (.lst xs))
    (h1 : -(2 ^ 63) ≤ i) (h2 : i < 2 ^ 63) (hk : seqIndex? i xs.length = some k) (h : ∀ s', Inv X pins σ (upd H l (.lst (xs.eraseIdx k))) s' → Q () s') :
    wpAny (model X.prog X.w) X.A (delItem (.ref l) (.int i t)) Q X.xe s := by
  obtain ⟨z, its, n, r, hl, e⟩ := I.lstM hH
  refine PySem.P.delItem_list (k := k) e (fitsIndex_both h1 h2) (by rw [List.size_toArray, ← hl]; exact hk) (h _ ?_) (by rw [List.size_toArray]; omega)
  refine I.lset (its' := its.eraseIdx k) (t' := s.toks) hH e ?_ (r.eraseIdx k) ?_
  · show its.toArray.eraseIdxIfInBounds k = (its.eraseIdx k).toArray
    rw [List.eraseIdxIfInBounds_toArray]
  · have := len_erase xs k
    omega
end

/-! ### xs[a:b] = ys -/
section
variable {prog : Program} {w : World} {A : Around} {E : Value → Shared → Prop} {s : Shared}
theorem splice_eq (its its2 : List Value) (a c : Nat) : its.toArray.extract 0 a ++ its2.toArray ++ its.toArray.extract c its.toArray.size = (its.take a ++ its2 ++ its.drop c).toArray := by
  apply Array.toList_inj.mp
  first
    | (simp
       exact List.take_of_length_le (by simp))
    | simp [List.take_of_length_le]
    | simp
theorem bounds_run {a c n : Nat} (hac : a ≤ c) (hc : c ≤ n) : sliceBounds (some (a : Int)) (some (c : Int)) none n = ((a : Int), (c : Int), 1) := by
  simp only [sliceBounds, Option.getD_none]
  have h1 : ¬ ((a : Int) < 0) := by omega
  have h2 : ¬ ((c : Int) < 0) := by omega
  simp only [h1, h2, if_false, show (1 : Int) > 0 by decide, if_true]
  congr 1
  · omega
  · congr 1; omega
set_option maxRecDepth 100000 in
/-- list.__setitem__ with a slice of step one and another list -/
theorem setItem_slice {l b sl : Addr} {items new : Array Value} {n n2 : Nat} {vl vu : Value} {a c : Nat} {Q : Unit → Shared → Prop}
    (e : s.heap.get? l = some { cls := .type "list", data := .seq items n }) (e2 : s.heap.get? b = some { cls := .type "list", data := .seq new n2 }) (hne : l ≠ b)
    (hs : s.heap.IsSliceOf sl vl vu .none) (pl : IsPart vl (some (a : Int))) (pu : IsPart vu (some (c : Int))) (hac : a ≤ c) (hc : c ≤ items.size)
    (hsz : items.size + new.size ≤ sizeLine) (h : Q () { s with heap := s.heap.update l (Obj.mapSeq fun xs => xs.extract 0 a ++ new ++ xs.extract c xs.size) }) :
    wpAny (model prog w) A (setItem (.ref l) (.ref sl) (.ref b)) Q E s := by
  have hl : s.heap.IsList l items := PySem.IsL.isList e
  have hb : s.heap.IsList b new := PySem.IsL.isList e2
  obtain ⟨os, hos, hcs, hds⟩ := id hs
  have hTs : s.TypeIs (.ref sl) "slice" := ⟨os, hos, hcs⟩
  have hstep : ¬ ((rawPart none == rawInt 0) = true) := Bool.false_ne_true
  have hsame : Builtin.List.listSameRef (.ref l) (.ref b) = false := by
    unfold Builtin.List.listSameRef
    exact beq_eq_false_iff_ne.mpr hne
  have hmax : (max (a : Int) (c : Int)).toNat = c := by omega
  have hz' : ((fun xs : Array Value => xs.extract 0 a ++ new ++ xs.extract c xs.size) items).size ≤ sizeLine + 1 := by
    simp only [Array.size_append, Array.size_extract]
    omega
  unfold setItem
  try with_reducible refine wpAny_holding ?_
  first | refine wpAny_bind (wpAny_pure ?_) | skip
  refine wpAny_bind (wpAny_sequenceKey hl.typeIs (by decide) ?_)
  refine wpAny_bind (wpAny_callSpecial?_slot (name := Str.ofString "__setitem__") hl.typeIs slot_list_setitem
    (wpAny_call_entry slot_list_setitem hl.typeIs entry_list_setitem ?_ (args_list_setitem _ _ _)))
  show wpAny _ _ (Builtin.List.listSubscript? (.ref sl) >>= _) _ _ s
  refine wpAny_bind ?_
  unfold Builtin.List.listSubscript?
  refine wpAny_bind (wpAny_specialOf hTs slice_no_index ?_)
  simp only [Option.isNone_none, if_true]
  refine wpAny_pure ?_
  show wpAny _ _ (typeOf (.ref sl) >>= _) _ _ s
  refine wpAny_bind (wpAny_typeOf hTs ?_)
  first
    | rw [if_neg (by decide)]
    | refine PySem.W.KFB.if_not (by decide) ?_
  rw [listSliceParts_eq]
  refine wpAny_bind (wpAny_bind (wpAny_field hos hds (x := .none) rfl (wpAny_bind (wpAny_listPart .none ?_))))
  rw [if_neg hstep]
  refine wpAny_bind (wpAny_field hos hds (x := vl) rfl (wpAny_bind (wpAny_listPart pl ?_)))
  refine wpAny_bind (wpAny_field hos hds (x := vu) rfl (wpAny_bind (wpAny_listPart pu (wpAny_pure ?_))))
  first
    | simp only [hsame, Bool.false_eq_true, if_false]
    | refine PySem.W.KFB.if_not hsame ?_
    | (dsimp only
       rw [if_neg (by rw [hsame]; exact Bool.false_ne_true)])
  refine wpAny_bind (m := Builtin.List.listAllItems (.ref b) "must assign iterable to extended slice") ?_
  unfold Builtin.List.listAllItems
  refine wpAny_bind (wpAny_typeOf hb.typeIs ?_)
  first
    | refine PySem.W.KFB.if_so (by decide) ?_
    | rw [if_pos (by decide)]
    | simp only [beq_self_eq_true, Bool.true_or, if_true]
  unfold Builtin.List.listItems
  refine wpAny_bind (wpAny_seqItems e2 rfl (wpAny_pure ?_))
  refine wpAny_bind (wpAny_bind (wpAny_seqItems e rfl (wpAny_pure ?_)))
  refine wpAny_bind (wpAny_of_eq ((sliceIndices_raw (some (a : Int)) (some (c : Int)) none items.size (by simp)).trans (congrArg (pure : Int × Int × Int → Sem (Int × Int × Int)) (bounds_run hac hc))) ?_)
  show wpAny _ _ (if ((1 : Int) == 1) = true then _ else _) _ _ s
  rw [if_pos (by decide)]
  refine wpAny_bind (wpAny_rule ?_)
  first
    | simp only [notLongL hsz, Bool.false_eq_true, if_false]
    | refine PySem.W.KFB.if_not (notLongL hsz) ?_
  first | refine wpAny_bind (wpAny_pure ?_) | skip
  show wpAny _ _ (updateSeq l (fun xs => xs.extract 0 ((a : Int)).toNat ++ new ++ xs.extract (max (a : Int) (c : Int)).toNat xs.size) >>= _) _ _ s
  rw [hmax, Int.toNat_natCast]
  refine wpAny_bind (wpAny_updateSeq (hz := Nat.le_trans (Nat.le_add_right _ _) hsz) (_hz' := hz') e rfl ?_)
  refine wpAny_bind (wpAny_letGo ?_)
  first
    | exact wpAny_bind (wpAny_pure (wpAny_pure ⟨.none, rfl, wpAny_pure h⟩))
    | exact wpAny_pure ⟨.none, rfl, wpAny_pure h⟩
end

section
variable {X : Cx}
/-- xs[a:c] = ys of another list, at the value level: sl is the slice object that was just made -/
theorem set_slice {pins : List (Addr × Obj)} {s : Shared} {σ : St} {H : Hp} {l b sl : Addr} {xs ys : List V} {a c : Int} {vl vu : Value} {Q : Unit → Shared → Prop} (I : Inv X pins σ H s)
    (hH : H l = some (.lst xs)) (hB : H b = some (.lst ys)) (hne : l ≠ b) (hs : s.heap.IsSliceOf sl vl vu .none) (ra : RelV (.int a) vl) (rc : RelV (.int c) vu) (h0 : 0 ≤ a) (hac : a ≤ c) (hc : c ≤ xs.length)
    (hz : xs.length + ys.length ≤ sizeLine) (h : ∀ s', Inv X pins σ (upd H l (.lst (xs.take a.toNat ++ ys ++ xs.drop c.toNat))) s' → Q () s') :
    wpAny (model X.prog X.w) X.A (setItem (.ref l) (.ref sl) (.ref b)) Q X.xe s := by
  obtain ⟨ta, rfl⟩ := ra
  obtain ⟨tc, rfl⟩ := rc
  obtain ⟨z, its, n, r, hl, e⟩ := I.lstM hH
  obtain ⟨z2, its2, n2, r2, hl2, e2⟩ := I.lstM hB
  obtain ⟨a', rfl⟩ := Int.eq_ofNat_of_zero_le h0
  obtain ⟨c', rfl⟩ := Int.eq_ofNat_of_zero_le (Int.le_trans h0 hac)
  simp only [Int.toNat_natCast] at h
  refine setItem_slice (a := a') (c := c') e e2 hne hs (.int _ _) (.int _ _) (by omega) (by rw [List.size_toArray]; omega) (by rw [List.size_toArray, List.size_toArray]; omega) (h _ ?_)
  refine I.lset (its' := its.take a' ++ its2 ++ its.drop c') (t' := s.toks) hH e ?_ (Vals.append (Vals.append (r.take _) r2) (r.drop _)) ?_
  · exact splice_eq its its2 a' c'
  · rw [List.length_append, List.length_append, List.length_take, List.length_drop]
    omega
end
end L2

namespace Att
open PySem PySem.W PySem.Calls PyProof.Rows

/-! ### the script -/
theorem ints_of_wellAll {P : Params} {h : Heap} : ∀ (ns : List Int) (vs : List Value), WellAll P h vs (ns.map WData.int) → IntsAre vs ns := by
  intro ns
  induction ns with
  | nil =>
    intro vs w
    rw [List.map_nil] at w
    cases w
    exact .nil
  | cons n ns ih =>
    intro vs w
    rw [List.map_cons] at w
    cases w with
    | cons a b =>
      cases a
      exact .cons _ _ (ih _ b)

theorem script_of {l : OpenLaw} {n : Nat} (hn : l.most = some n) {P : Params} {h : Heap} {args : List WData} {vals : List Value}
    (hpre : l.row.toRowW.claim.pre args = true) (hwl : WellAll P h vals args) :
    ∃ a vs ns, vals = [Value.ref a] ∧ args = [WData.list (ns.map WData.int)] ∧ h.get? a = some { cls := .type "list", data := .seq vs.toArray } ∧ IntsAre vs ns ∧ ns.length ≤ n := by
  have hsh : WShape.hasAll [] args [.list .int] = true := (pre_splitW hpre).1
  have hc : l.pre.holds [] { args := args } = true := (pre_splitW hpre).2
  obtain ⟨d, r, rfl, h1, h2⟩ := hasAllW_cons hsh
  obtain rfl := hasAllW_nil h2
  obtain ⟨xs, rfl, h3⟩ := hasW_list h1
  obtain ⟨ns, rfl⟩ := items_int h3
  have hlen : ns.length ≤ n := by
    unfold OpenLaw.pre at hc
    have h4 : (WTm.not (.lt (.lit (.int (n : Int))) (.len (.arg 0)))).holds [] { args := [.list (ns.map .int)] } = true := by
      have h4 := (holds_andW hc).1
      rw [hn] at h4
      exact h4
    have h5 := condW_of h4 (w_not (w_lt w_lit (w_len_list (w_arg rfl))))
    rw [List.length_map] at h5
    refine Nat.le_of_not_lt fun q => ?_
    have q' : (n : Int) < ((ns.length : Nat) : Int) := by omega
    first
      | (rw [decide_eq_true q'] at h5; exact absurd h5 (by decide))
      | (simp at h5; omega)
  cases hwl with
  | cons w1 w2 =>
    cases w2
    cases w1 with
    | list ho hall => exact ⟨_, _, ns, rfl, rfl, ho, ints_of_wellAll ns _ hall, hlen⟩

theorem post_true (l : OpenLaw) (args : List WData) : l.row.toRowW.claim.post args (.bool true) args = true :=
  postW_of (r := l.row.toRowW) (X := (true == true))
    (show WShape.has [] (.bool true) .bool = true by first | rfl | decide | simp [WShape.has, WShape.arms, WShape.armsAll])
    (show (WTm.eq .res (.lit (.bool true))).value [] { args := args, res := some (.bool true), after := args } = some (.bool (true == true)) from w_eq_bool (w_res rfl) w_lit) rfl

/-! ### the attachment: holds_open's last premise (the goal 'hc' behind k_head) from a wpAny of the law's body -/
theorem attach {l : OpenLaw} {n : Nat} {q : Program} {loose : List Str} {XP : (Str → Option Value) → Heap → Prop} {YP : World → Heap → Prop} {d : DefRec} {x : Str}
    (hn : l.most = some n) (hdf : d.params.defaults = [])
    (hbind : ∀ pm cd doc v : Value, bindArgs (docDef d.name d.params d.body d.scope pm cd doc) ⟨[v], []⟩ = pure [(x, v)])
    (hx : d.scope.names.lookup x = some .local ∨ d.scope.names.lookup x = some .cell)
    (hk : d.scope.kind = .function) (hco : d.scope.isCoroutine = false) (hgen : d.scope.isGenerator = false)
    (body : ∀ (w : World) (s₀ s₁ s : Shared) (mg mb : Str → Option Value) (fa : Addr) (o : Obj) (pm cd doc : Value) (a : Addr) (vs : List Value) (ns : List Int),
      Ground q loose [] XP w s₀ mg mb s₁.heap → YP w s₁.heap →
      s₁.heap.get? fa = some o → o.data = .func (docDef d.name d.params d.body d.scope pm cd doc) → s₁.heap.CodeRec cd d.name → mg d.name = some (.ref fa) →
      s₁.heap.get? a = some { cls := .type "list", data := .seq vs.toArray } → IntsAre vs ns → ns.length ≤ n →
      s.gens = #[] → s.os = s₁.os →
      Fr s₁.heap s₁.heap.objs.size s.heap (bindL (envOfC d.name d.scope s₁.heap.objs.size fa cd).kindOf [(x, .ref a)] fun _ => none) →
      Cl s₁.heap.objs.size (cellsFrom (s₁.heap.objs.size + 1) d.scope.names []) s.heap (bindC (envOfC d.name d.scope s₁.heap.objs.size fa cd).kindOf [(x, .ref a)] fun _ => none) →
      wpAny (model l.prog w) (callerA.deeper (envOfC d.name d.scope s₁.heap.objs.size fa cd)) (execs d.body (envOfC d.name d.scope s₁.heap.objs.size fa cd))
        (fun f s' => f = .ret (.bool true) ∧ OldK s₁.heap s'.heap ∧ s'.os = s₁.os ∧ AllBare s'.gens) (fun _ _ => False) s) :
    WalkO q loose XP YP l.row.toRowW d [] (fun f vs => PySem.call f vs) := by
  intro w s₀ s₁ mg mb G Y fa o pm cd doc dV kV ho hd hcd hD hmg hg args vals as hpre hlay hrd hwl hlo
  obtain rfl : dV = .none := Dflts.none hD hdf
  obtain rfl : kV = .none := Dflts.noKw hD
  obtain ⟨a, vs, ns, rfl, rfl, hobj, hints, hlen⟩ := script_of hn hpre hwl
  refine enter_call ?_
  refine call_cells_ret (o := o) (by rw [depth_caller]; decide) ho (fd_plain hd) G.T.nolimit hcd (hbind pm cd doc (.ref a)) (fun y hy => ?_) (fun h₁ tk F X => ?_) hco hgen hk
  · obtain rfl : y = (x, Value.ref a) := List.mem_singleton.mp hy
    rcases hx with e | e
    · exact .inl e
    · exact .inr ⟨e, cellsFrom_some _ _ _ (.inl e)⟩
  · refine wpAny_mono (body w s₀ s₁ { s₁ with heap := h₁, toks := tk } mg mb fa o pm cd doc a vs ns G Y ho (fd_plain hd) hcd hmg hobj hints hlen hg rfl F X) (fun f s' hq => ?_) (fun _ _ hq => hq)
    obtain ⟨rfl, h2, h3, h4⟩ := hq
    exact ⟨.inl ⟨.bool true, .bool true, [], rfl, fun _ => rfl, .bool true, post_true l _, fun _ => ⟨List.Pairwise.nil, fun _ hm => (nomatch hm)⟩⟩, h2, h3, h4⟩

/-- the same from a codeAny of the CALL (for a layer whose function contracts speak of calls) -/
theorem attach_call {l : OpenLaw} {n : Nat} {q : Program} {loose : List Str} {XP : (Str → Option Value) → Heap → Prop} {YP : World → Heap → Prop} {d : DefRec}
    (hn : l.most = some n) (hdf : d.params.defaults = [])
    (call : ∀ (w : World) (s₀ s₁ : Shared) (mg mb : Str → Option Value) (fa : Addr) (o : Obj) (pm cd doc : Value) (a : Addr) (vs : List Value) (ns : List Int),
      Ground q loose [] XP w s₀ mg mb s₁.heap → YP w s₁.heap →
      s₁.heap.get? fa = some o → o.data = .func (docDef d.name d.params d.body d.scope pm cd doc) → s₁.heap.CodeRec cd d.name → mg d.name = some (.ref fa) →
      s₁.heap.get? a = some { cls := .type "list", data := .seq vs.toArray } → IntsAre vs ns → ns.length ≤ n → s₁.gens = #[] →
      codeAny (model l.prog w) callerA (.call (.ref fa) ⟨[.ref a], []⟩) (fun r s' => r = .ok (.ret (.bool true)) ∧ OldK s₁.heap s'.heap ∧ s'.os = s₁.os ∧ AllBare s'.gens) s₁) :
    WalkO q loose XP YP l.row.toRowW d [] (fun f vs => PySem.call f vs) := by
  intro w s₀ s₁ mg mb G Y fa o pm cd doc dV kV ho hd hcd hD hmg hg args vals as hpre hlay hrd hwl hlo
  obtain rfl : dV = .none := Dflts.none hD hdf
  obtain rfl : kV = .none := Dflts.noKw hD
  obtain ⟨a, vs, ns, rfl, rfl, hobj, hints, hlen⟩ := script_of hn hpre hwl
  refine enter_call (codeAny_mono (call w s₀ s₁ mg mb fa o pm cd doc a vs ns G Y ho (fd_plain hd) hcd hmg hobj hints hlen hg) fun r s' hq => ?_)
  obtain ⟨rfl, h2, h3, h4⟩ := hq
  exact ⟨.inl ⟨.bool true, .bool true, [], rfl, fun _ => rfl, .bool true, post_true l _, fun _ => ⟨List.Pairwise.nil, fun _ hm => (nomatch hm)⟩⟩, h2, h3, h4⟩

/-- the same where the top left finished generators (o_head chose holds_openN): nothing may have changed at all and no generator may be left -/
theorem attachN {l : OpenLaw} {n : Nat} {q : Program} {loose : List Str} {XP : (Str → Option Value) → Heap → Prop} {YP : World → Heap → Prop} {d : DefRec} {x : Str}
    (hn : l.most = some n) (hdf : d.params.defaults = [])
    (hbind : ∀ pm cd doc v : Value, bindArgs (docDef d.name d.params d.body d.scope pm cd doc) ⟨[v], []⟩ = pure [(x, v)])
    (hx : d.scope.names.lookup x = some .local ∨ d.scope.names.lookup x = some .cell)
    (hk : d.scope.kind = .function) (hco : d.scope.isCoroutine = false) (hgen : d.scope.isGenerator = false)
    (body : ∀ (w : World) (s₀ s₁ s : Shared) (mg mb : Str → Option Value) (fa : Addr) (o : Obj) (pm cd doc : Value) (a : Addr) (vs : List Value) (ns : List Int),
      Ground q loose [] XP w s₀ mg mb s₁.heap → YP w s₁.heap →
      s₁.heap.get? fa = some o → o.data = .func (docDef d.name d.params d.body d.scope pm cd doc) → s₁.heap.CodeRec cd d.name → mg d.name = some (.ref fa) →
      s₁.heap.get? a = some { cls := .type "list", data := .seq vs.toArray } → IntsAre vs ns → ns.length ≤ n →
      s.gens = #[] → s.os = s₁.os →
      Fr s₁.heap s₁.heap.objs.size s.heap (bindL (envOfC d.name d.scope s₁.heap.objs.size fa cd).kindOf [(x, .ref a)] fun _ => none) →
      Cl s₁.heap.objs.size (cellsFrom (s₁.heap.objs.size + 1) d.scope.names []) s.heap (bindC (envOfC d.name d.scope s₁.heap.objs.size fa cd).kindOf [(x, .ref a)] fun _ => none) →
      wpAny (model l.prog w) (callerA.deeper (envOfC d.name d.scope s₁.heap.objs.size fa cd)) (execs d.body (envOfC d.name d.scope s₁.heap.objs.size fa cd))
        (fun f s' => f = .ret (.bool true) ∧ (∀ b o, s₁.heap.get? b = some o → s'.heap.get? b = some o) ∧ s'.os = s₁.os ∧ s'.gens = #[]) (fun _ _ => False) s) :
    WalkN q loose XP YP l.row.toRowW d [] (fun f vs => PySem.call f vs) := by
  intro w s₀ s₁ mg mb G Y fa o pm cd doc dV kV ho hd hcd hD hmg hg args vals as hpre hlay hrd hwl hlo
  obtain rfl : dV = .none := Dflts.none hD hdf
  obtain rfl : kV = .none := Dflts.noKw hD
  obtain ⟨a, vs, ns, rfl, rfl, hobj, hints, hlen⟩ := script_of hn hpre hwl
  refine enter_callW ?_
  refine call_cells_ret (o := o) (by rw [depth_caller]; decide) ho (fd_plain hd) G.T.nolimit hcd (hbind pm cd doc (.ref a)) (fun y hy => ?_) (fun h₁ tk F X => ?_) hco hgen hk
  · obtain rfl : y = (x, Value.ref a) := List.mem_singleton.mp hy
    rcases hx with e | e
    · exact .inl e
    · exact .inr ⟨e, cellsFrom_some _ _ _ (.inl e)⟩
  · refine wpAny_mono (body w s₀ s₁ { s₁ with heap := h₁, toks := tk } mg mb fa o pm cd doc a vs ns G Y ho (fd_plain hd) hcd hmg hobj hints hlen hg rfl F X) (fun f s' hq => ?_) (fun _ _ hq => hq)
    obtain ⟨rfl, h2, h3, h4⟩ := hq
    exact ⟨.inl ⟨.bool true, .bool true, [], rfl, fun _ => rfl, .bool true, post_true l _, fun _ => ⟨List.Pairwise.nil, fun _ hm => (nomatch hm)⟩⟩, h2, h3, h4⟩

/-! ### rules over ANY heap (no ledger) from facts about the written part K: the library's own take a ledger (News) for what they write -/
section
variable {prog : Program} {w : World} {A : Around} {E : Value → Shared → Prop} {s : Shared} {K : Frag}

/-- a def of the module, or a method (qual 'C.m'), entered: the frame is the next address; cells behind it -/
theorem call_fn {R : Result → Shared → Prop} {name qual : Str} {params : Arguments} {body : List Stmt} {scope : Scope} {dV kV doc pm cdv ct oc : Value} {an od : Option Addr} {osl : Array (Option Value)} {f : Addr} {args : Args} {binds : List (Str × Value)}
    (X : K.In s.heap) (hlim : s.heap.NoLimit) (ho : K.lookup f = some ⟨oc, od, .func (fnOf name qual params body scope dV kV doc pm an cdv ct), osl⟩) (hcd : codeIn K cdv qual = true) (hroom : A.depth < recursionLimit)
    (hbind : BindsTo s (fnOf name qual params body scope dV kV doc pm an cdv ct) args binds)
    (hkind : (binds.all fun y => scope.names.lookup y.1 == some .local || scope.names.lookup y.1 == some .cell) = true)
    (h : ∀ s₁, InCallC s s.heap.objs.size (bindL (envOfC qual scope s.heap.objs.size f cdv).kindOf binds fun _ => none) (cellsFrom (s.heap.objs.size + 1) scope.names [])
        (bindC (envOfC qual scope s.heap.objs.size f cdv).kindOf binds fun _ => none) s₁ →
      wpAny (model prog w) (A.deeper (envOfC qual scope s.heap.objs.size f cdv)) (execs body (envOfC qual scope s.heap.objs.size f cdv))
        (fun fl s' => R (.ok (.ret (match fl with | .ret v => v | _ => .none))) s')
        (fun e s' => wpAny (model prog w) (A.deeper (envOfC qual scope s.heap.objs.size f cdv)) (leaving (envOfC qual scope s.heap.objs.size f cdv) e) (fun _ s'' => R (.error e) s'') (fun e' s'' => R (.error e') s'') s') s₁)
    (hco : scope.isCoroutine = false) (hgen : scope.isGenerator = false) (hk : scope.kind = .function) : codeAny (model prog w) A (.call (.ref f) args) R s := by
  refine codeAny_call_function hroom (X _ _ ho) rfl hco hgen rfl (codeRec_of X hcd) (hbind _ _ _ _ ?_)
  refine wpAny_newFunctionEnv_cells hk (kindsX hkind _) fun env he s₁ x => ?_
  subst he
  exact ⟨hlim.keeps x.toInCall.keep, codeAny_func (h s₁ x)⟩

/-- C(..): dict at size, instance at size + 1, then __init__ -/
theorem make_obj {R : Result → Shared → Prop} {C fI : Addr} {rest : List Value} {kw : List (Str × Value)}
    (X : K.In s.heap) (hm : makesIn K C = true) (hi : findIn K (.ref C) "__init__" = some (some (.ref fI))) (hf : isFn K (.ref fI) = true)
    (h : codeAny (model prog w) (A.under (.builtin "type.__call__" ⟨.ref C :: rest, kw⟩)) (.call (.ref fI) ⟨.ref (s.heap.objs.size + 1) :: rest, kw⟩) (InitBack (s.heap.objs.size + 1) R)
      { s with heap := (s.heap.push emptyDict).push (instObj C s.heap.objs.size) }) : codeAny (model prog w) A (.call (.ref C) ⟨rest, kw⟩) R s := by
  obtain ⟨hh, g, d, t, os⟩ := s
  exact make_core (makes_of X hm) (looks_findIn X hi) (fun self => bind_fn X self (beq_iff_eq.mp hf)) (.inl rfl) h

/-- x.name where the instance's dict holds the name and the class does not -/
theorem get_field {x C : Addr} {ox : Obj} {es : List DictEntry} {n : Nat} {name : Str} {expr : Bool} {v : Value} {Q : Value → Shared → Prop}
    (X : K.In s.heap) (I : PySem.W.InstAt s.heap x ox C (some (dictOf es n))) (hg : plainGet K C name = true) (hh : hasDictIn K C = true) (ha : findIn K (.ref C) name = some none)
    (hl : getL name es = some (some v)) (hv : handedIn v = true) (h : Q v { s with toks := s.toks + 1 }) : wpAny (model prog w) A (getAttr (.ref x) name expr) Q E s :=
  get_value X I (plainGet_of hg).1 (findObj_own hh ha rfl hl) hv h

/-- x.m(..): the method found in the class -/
theorem get_method {x C f : Addr} {ox : Obj} {es : List DictEntry} {n : Nat} {name : Str} {pl : Sem Bool} {Q : Value × List Value → Shared → Prop}
    (X : K.In s.heap) (I : PySem.W.InstAt s.heap x ox C (some (dictOf es n))) (hg : plainGet K C name = true) (hf : findIn K (.ref C) name = some (some (.ref f))) (ht : isFn K (.ref f) = true)
    (hl : getL name es = some none) (h : Q (.ref f, [.ref x]) s) : wpAny (model prog w) A (getMethod (.ref x) name pl) Q E s :=
  method_fn X I (plainGet_of hg).1 (plainGet_of hg).2 hf (beq_iff_eq.mp ht) (by show (lookIn name (dictOf es n)).map _ = _; rw [lookIn_dict, hl]; rfl) h

/-! the whole heap as the ledger: makes every rule that writes through a ledger a rule over any heap -/
def noObjs (h : Heap) : Heap := { h with objs := #[] }
theorem noObjs_get (h : Heap) (b : Addr) : (noObjs h).get? b = none := by
  cases e : (noObjs h).get? b with
  | none => rfl
  | some o => exact absurd (Heap.lt_size e) (Nat.not_lt_zero _)
def ledger (h : Heap) (L d : Addr) : List (Addr × Obj) := (List.range h.objs.size).filterMap fun a => if a = L ∨ a = d then none else (h.get? a).map fun o => (a, o)
theorem mem_ledger {h : Heap} {L d a : Addr} {o : Obj} : (a, o) ∈ ledger h L d ↔ a ≠ L ∧ a ≠ d ∧ h.get? a = some o := by
  unfold ledger
  rw [List.mem_filterMap]
  constructor
  · rintro ⟨b, _, e⟩
    split at e
    · cases e
    · rename_i hb
      obtain ⟨o', ho, e'⟩ := Option.map_eq_some_iff.mp e
      cases e'
      exact ⟨fun q => hb (.inl q), fun q => hb (.inr q), ho⟩
  · rintro ⟨n1, n2, ho⟩
    refine ⟨a, List.mem_range.mpr (Heap.lt_size ho), ?_⟩
    rw [if_neg (show ¬ (a = L ∨ a = d) from fun q => q.elim n1 n2), ho] <;> rfl
theorem news_ledger {h : Heap} {L d : Addr} {od : Obj} (hne : d ≠ L) (ho : h.get? d = some od) : News (noObjs h) L h ([] ++ (d, od) :: ledger h L d) := by
  rintro ⟨a, o⟩ hp
  rcases List.mem_cons.mp hp with e | hp
  · cases e
    exact ⟨ho, hne, noObjs_get _ _⟩
  · obtain ⟨n1, n2, e⟩ := mem_ledger.mp hp
    exact ⟨e, n1, noObjs_get _ _⟩
theorem fr_all {h : Heap} {L : Addr} {m : Str → Option Value} (n : h.Ns L m) : Fr (noObjs h) L h m :=
  ⟨n, fun b o e => (by rw [noObjs_get] at e; cases e), Nat.zero_le _⟩
/-- Upd of the head entry (for append_K, setItem_K ..) -/
theorem upd_ledger {h : Heap} {L d : Addr} {o o' : Obj} : Upd d o o' ((d, o) :: ledger h L d) ((d, o') :: ledger h L d) :=
  .head fun ⟨_, _⟩ hp => (mem_ledger.mp hp).2.1

/-- x.name = v over any heap: L is any namespace of the heap (the frame's, say): its map stays, its object is not told; all else but the dict stays -/
theorem set_field {x C dx L : Addr} {ox : Obj} {m : Str → Option Value} {es es' : List DictEntry} {n n' : Nat} {name : Str} {v : Value} {Q : Unit → Shared → Prop}
    (X : K.In s.heap) (I : PySem.W.InstAt s.heap x ox C (some (dictOf es n))) (hd : ox.dict = some dx) (hL : s.heap.Ns L m) (hne : dx ≠ L)
    (hs : findIn K (.ref C) "__setattr__" = some (some (.builtin "object.__setattr__"))) (hp : plainOver K C = true) (ht : takerIn K C name = some none) (hh : hasDictIn K C = true) (hl : (getL name es).isSome = true)
    (e : (putL name (PyData.keyHash w.params name) (.str name (s.toks + 1)) v es, putN name es n) = (es', n')) (hz : es'.length ≤ 1000)
    (h : ∀ h' : Heap, h'.Ns L m → h'.get? dx = some (dictOf es' n') → (∀ b o, b ≠ dx → b ≠ L → s.heap.get? b = some o → h'.get? b = some o) → Q () { s with heap := h', toks := s.toks + 2 }) :
    wpAny (model prog w) A (setAttr (.ref x) name v) Q E s := by
  obtain ⟨e1, e2⟩ := Prod.mk.inj e
  have hdx : s.heap.get? dx = some (dictOf es n) := by
    have := I.dict
    rw [hd] at this
    exact this
  refine set_plain X I hs (osa_dict (s := { s with toks := s.toks + 1 }) (h₀ := noObjs s.heap) (L := L) (m := m) (od := dictOf es n) (od' := dictOf es' n') (es := es') (n := n') (pre := []) (post := ledger s.heap L dx)
    (fr_all hL) (news_ledger hne hdx) X I hd hp ht hh hl (fun _ q => nomatch q) (fun ⟨_, _⟩ q => (mem_ledger.mp q).2.1) (by rw [putName_dict, e1, e2]) rfl hz fun h' F' N' => ?_)
  exact h h' F'.ns (N'.get (List.Mem.head _)) fun b o n1 n2 ho => N'.get (List.Mem.tail _ (mem_ledger.mpr ⟨n2, n1, ho⟩))
end
end Att

namespace L2
open PySem PySem.Spec PyProof.Rows

theorem vals_ints : ∀ {vs : List Value} {ns : List Int}, IntsAre vs ns → Vals (ns.map V.int) vs
  | _, _, .nil => .nil
  | _, _, .cons n t h => .cons ⟨t, rfl⟩ (vals_ints h)

/-- nothing is tracked but the script, known to the object (or it is an object of the module) -/
def Only (H : Hp) : Prop := ∀ b, H b = none ∨ ∃ o xs, H b = some (.frz o (.lst xs))

/-- THE HEAD: the law's promise, at the heap behind the top. F, the promise of the law's def, may use that base is part of the heap (so K.In base, base.Ns mainGlobals mg stand in Mod) -/
theorem law_call {P : Program} {w : World} {K : PySem.W.Frag} {mg mb : Str → Option Value} {CX : CXT} {k : Nat} {fa a : Addr} {fd : FuncData} {x : Str} {sp : Sp} {s₁ : Shared} {vs : List Value} {ns : List Int}
    (KX : K.In s₁.heap) (hns : s₁.heap.Ns mainGlobals mg) (hb : s₁.heap.Ns builtinsNs mb) (hbb : ∀ x : Str, x ≠ "__name__" → mb x = bootBuiltins x) (hlim : s₁.heap.NoLimit) (hg : s₁.gens = #[])
    (ha : s₁.heap.get? a = some { cls := .type "list", data := .seq vs.toArray }) (hi : IntsAre vs ns) (hl : ns.length ≤ sizeLine) (hr : Room k callerA)
    (F : ∀ base : Heap, K.In base → base.Ns mainGlobals mg → FnOk P w K mg base CX k fa fd [x] sp) (hbind : ∀ (s : Shared) (u : Value), BindsTo s fd ⟨[u], []⟩ [(x, u)])
    (hsp : ∀ H : Hp, Only H → SqL K H a (ns.map V.int) → sp [.ref a] H (fun v _ => v = .bl true) fun _ _ _ => False)
    (hCX : ∀ H e s', CX [] H s₁ (fun _ _ _ => False) e s' → False) :
    codeAny (model P w) callerA (.call (.ref fa) ⟨[.ref a], []⟩) (fun r s' => r = .ok (.ret (.bool true)) ∧ OldK s₁.heap s'.heap ∧ s'.os = s₁.os ∧ AllBare s'.gens) s₁ := by
  have rv := vals_ints hi
  have lenV := hi.length
  -- from an abstract heap in which nothing but the script may be tracked
  have core : ∀ H : Hp, Only H → SqL K H a (ns.map V.int) → HOk P w H s₁.heap → (∀ b, H b ≠ none → b = a) → (H a ≠ none → K.lookup a = none) →
      codeAny (model P w) callerA (.call (.ref fa) ⟨[.ref a], []⟩) (fun r s' => r = .ok (.ret (.bool true)) ∧ OldK s₁.heap s'.heap ∧ s'.os = s₁.os ∧ AllBare s'.gens) s₁ := by
    intro H hO hS hok hA hK
    have base_of : ∀ {b : Addr} {o : Obj}, s₁.heap.get? b = some o → H b = none → (hidT s₁.heap H).get? b = some o := fun e n => hidT_get e n
    have noA : ∀ {b : Addr} {o : Obj} {es : Array DictEntry} {ep : Nat}, s₁.heap.get? b = some o → o.data = .dict es ep → H b = none := fun {b o es ep} e d => by
      cases q : H b with
      | none => rfl
      | some u =>
        have e' : b = a := hA b (by rw [q]; simp)
        subst e'
        rw [ha] at e; cases e
        have d' : Data.seq vs.toArray _ = Data.dict es ep := d
        cases d'
    have nsK : ∀ {b : Addr} {m : Str → Option Value}, s₁.heap.Ns b m → (hidT s₁.heap H).Ns b m := fun {b m} ⟨o, es, ep, e, d, r⟩ => ⟨o, es, ep, base_of e (noA e d), d, r⟩
    have hKb : K.In (hidT s₁.heap H) := fun b o e => base_of (KX b o e) (by
      cases q : H b with
      | none => rfl
      | some u =>
        have e' : b = a := hA b (by rw [q]; simp)
        subst e'
        rw [hK (by rw [q]; simp)] at e; cases e)
    have hM : Mod K mg (hidT s₁.heap H) := ⟨hKb, nsK hns, ⟨mb, nsK hb, hbb⟩, let ⟨mc, h1, h2⟩ := hlim; ⟨mc, nsK h1, h2⟩⟩
    have e0 : Env0 P w K mg (hidT s₁.heap H) callerA [] s₁ H := ⟨rfl, hM, fun b o e => of_hidT e, Nat.le_of_eq (hidT_size _ _), trivial, fun b hb => absurd (show b ∈ ([] : List Addr) from hb) (by simp), hok, .of_eq hg⟩
    refine codeAny_mono ((F _ hKb (nsK hns)).run callerA [] s₁ H ⟨[.ref a], []⟩ [.ref a] [.ref a] _ _ hr e0 (hbind s₁ (.ref a)) (.cons rfl .nil) (hsp H hO hS)) fun r s' h => ?_
    cases r with
    | error e => exact (hCX H e s' h).elim
    | ok fl =>
      cases fl with
      | next => exact False.elim h
      | brk => exact False.elim h
      | cont => exact False.elim h
      | ret u =>
        obtain ⟨v, H', os, bare, un, hok', r', q⟩ := h
        have q' : v = .bl true := q
        subst q'
        obtain rfl : u = Value.bool true := r'
        refine ⟨rfl, OldK.of_keep fun b o e => ?_, os, bare⟩
        cases q : H b with
        | none => exact un.keep b o e q (by intro z; exact absurd (show b ∈ ([] : List Addr) from z) (by simp)) (by simp)
        | some u =>
          rcases hO b with z | ⟨ob, xs, z⟩
          · rw [q] at z; cases z
          · have z2 := un.frzs b ob _ z
            obtain ⟨e1, _⟩ := hok b _ z
            obtain ⟨e2, _⟩ := hok' b _ z2
            rw [e] at e1; cases e1
            exact e2
  cases hk : K.lookup a with
  | some o =>
    -- the script is one of the module's own objects
    have e := KX a o hk
    rw [ha] at e
    cases e
    refine core (fun _ => none) (fun _ => .inl rfl) (.inr ⟨_, vs.toArray, _, hk, rfl, rfl, rfl, by rw [List.size_toArray, lenV]; exact hl, by simpa using rv⟩) (fun b u z => by have z' : (none : Option HO) = some u := z; cases z') (fun b z => absurd rfl z) fun z => absurd rfl z
  | none =>
    refine core (fun b => if b = a then some (.frz { cls := .type "list", data := .seq vs.toArray } (.lst (ns.map V.int))) else none) (fun b => ?_) (.inl (.inr ⟨{ cls := .type "list", data := .seq vs.toArray }, if_pos rfl⟩)) (fun b u z => ?_) (fun b z => ?_) fun _ => hk
    · by_cases hb : b = a
      · exact .inr ⟨_, _, if_pos hb⟩
      · exact .inl (if_neg hb)
    · by_cases hb : b = a
      · have z' := (if_pos hb).symm.trans z
        cases z'
        subst hb
        exact ⟨ha, by rw [List.length_map]; exact hl, vs, _, rv, ha⟩
      · have z' := (if_neg hb).symm.trans z
        cases z'
    · by_cases hb : b = a
      · exact hb
      · exact absurd (if_neg hb) z
end L2

namespace L2
open PySem PySem.Spec PyProof.Rows

abbrev KOf {K : PySem.W.Frag} {h : Heap} (_ : K.In h) : PySem.W.Frag := K

/-- the goal that k_head leaves (case hc), from the law's promise. F gives the function object fd (K's own) once, then the promise over every base -/
theorem walk_of {l : PySem.W.OpenLaw} {n k : Nat} {q : Program} {loose : List Str} {XP : (Str → Option Value) → Heap → Prop} {YP : World → Heap → Prop} {d : DefRec} {K : Params → PySem.W.Frag} {CX : World → CXT} {sp : World → Sp} {x : Str}
    (hn : l.most = some n) (hn2 : n ≤ sizeLine) (hdf : d.params.defaults = []) (hr : Room k callerA)
    (hY : ∀ (w : World) (h : Heap), YP w h → (K w.params).In h)
    (F : ∀ (w : World) (mg : Str → Option Value) (fa : Addr) (h : Heap), (K w.params).In h → h.Ns mainGlobals mg → mg d.name = some (.ref fa) →
      ∃ fd : FuncData, (∀ (s : Shared) (u : Value), BindsTo s fd ⟨[u], []⟩ [(x, u)]) ∧
        ∀ base : Heap, (K w.params).In base → base.Ns mainGlobals mg → FnOk l.prog w (K w.params) mg base (CX w) k fa fd [x] (sp w))
    (hsp : ∀ (w : World) (H : Hp) (a : Addr) (ns : List Int), ns.length ≤ n → Only H → SqL (K w.params) H a (ns.map V.int) → sp w [.ref a] H (fun v _ => v = .bl true) fun _ _ _ => False)
    (hCX : ∀ (w : World) (H : Hp) (s : Shared) (e : Value) (s' : Shared), CX w [] H s (fun _ _ _ => False) e s' → False) :
    PySem.W.WalkO q loose XP YP l.row.toRowW d [] (fun f vs => PySem.call f vs) := by
  refine Att.attach_call hn hdf fun w s₀ s₁ mg mb fa o pm cd doc a vs ns G Y ho hd hcd hmg hobj hints hlen hg => ?_
  have KX := hY w _ Y
  obtain ⟨fd, hb, hF⟩ := F w mg fa _ KX G.T.g hmg
  exact law_call KX G.T.g G.T.b G.T.builtins G.T.nolimit hg hobj hints (Nat.le_trans hlen hn2) hr hF hb (fun H hO hS => hsp w H a ns hlen hO hS) fun H e s' => hCX w H s₁ e s'
/-- the same where the promise hangs on the written part alone: (sp := My.sp_law), no hole under a binder -/
theorem walk_ofK {l : PySem.W.OpenLaw} {n k : Nat} {q : Program} {loose : List Str} {XP : (Str → Option Value) → Heap → Prop} {YP : World → Heap → Prop} {d : DefRec} {K : Params → PySem.W.Frag} {CX : CXT} {sp : PySem.W.Frag → Sp} {x : Str}
    (hn : l.most = some n) (hn2 : n ≤ sizeLine) (hdf : d.params.defaults = []) (hr : Room k callerA)
    (hY : ∀ (w : World) (h : Heap), YP w h → (K w.params).In h)
    (F : ∀ (w : World) (mg : Str → Option Value) (fa : Addr) (h : Heap), (K w.params).In h → h.Ns mainGlobals mg → mg d.name = some (.ref fa) →
      ∃ fd : FuncData, (∀ (s : Shared) (u : Value), BindsTo s fd ⟨[u], []⟩ [(x, u)]) ∧
        ∀ base : Heap, (K w.params).In base → base.Ns mainGlobals mg → FnOk l.prog w (K w.params) mg base CX k fa fd [x] (sp (K w.params)))
    (hsp : ∀ (K : PySem.W.Frag) (H : Hp) (a : Addr) (ns : List Int), ns.length ≤ n → Only H → SqL K H a (ns.map V.int) → sp K [.ref a] H (fun v _ => v = .bl true) fun _ _ _ => False)
    (hCX : ∀ (H : Hp) (s : Shared) (e : Value) (s' : Shared), CX [] H s (fun _ _ _ => False) e s' → False) :
    PySem.W.WalkO q loose XP YP l.row.toRowW d [] (fun f vs => PySem.call f vs) :=
  walk_of (K := K) (CX := fun _ => CX) (sp := fun w => sp (K w.params)) hn hn2 hdf hr hY F (fun w H a ns h1 h2 h3 => hsp (K w.params) H a ns h1 h2 h3) fun _ H s e s' => hCX H s e s'
end L2

/- THE LAST THEOREM (shape; LID, My.* are yours):
   My.Adr: a structure of the addresses that your layer names (classes, functions); My.Txt K t: a structure (Prop) of the equations over K;
   My.txt_mk : {K} {implicit addresses ..} (e1 : nsIn K mainGlobals "law" = some (some (.ref f))) (e2 : K.lookup f = some ⟨oc, od, .func (fnOf "law" "law" params body scope dV kV doc pm an cdv ct), sl⟩) (e3 : codeIn K cdv "law" = true) .. : ∃ t, My.Txt K t

set_option maxRecDepth 100000 in
set_option maxHeartbeats 0 in
theorem PySem.Challenge.cw_LID_holds : PySem.Challenge.rw_LID.Holds := by
  w_on; o_law; k_head; (case hw => w_witness2)
  k_fill
  refine L2.walk_of (l := PySem.Challenge.rw_LID) (n := 63) (k := 40) (x := "script") (CX := fun w => ..) (sp := fun _ => My.sp_law) rfl (by decide) rfl ⟨rfl, by decide, by decide⟩ (fun w h Y => PySem.W.kIn_of Y) ?F ?S ?C
  case F =>
    intro w mg fa h KX G hmg
    have T : ∃ t, My.Txt (L2.KOf KX) t := by
      dsimp only [L2.KOf]                          -- K must stand as «<heap const> w.params» for k_is
      refine' My.txt_mk ?e1 ?e2 ?e3 ..
      (case e1 => PySem.W.k_is)                    -- in the order: a name -> its address -> its object -> its parts
      (case e2 => PySem.W.k_is)
      ..
    obtain ⟨t, T⟩ := T
    have e0 := hmg.symm.trans (PySem.W.mg_of KX G T.law)
    cases e0                                       -- fa is the law's own address
    exact ⟨_, fun s u => .of_eq rfl, fun base kb nb => My.law_fn T kb nb⟩     -- if «.of_eq rfl» comes too early: refine' ⟨_, ?b, fun base kb nb => My.law_fn T kb nb⟩; exact fun s u => .of_eq rfl
  case S => exact fun w H a ns hl hO hS => ..
  case C => exact ..
(the tactic k_is has no namespace: write k_is) -/

/-! SHORT WORDS over the layer: a def of the text, its body, what a loop and a test want. -/
namespace L2
open PySem PySem.Spec PyProof.Rows

/-! ### the text by places -/
/-- the j-th statement of a class's body -/
def inClass (s : Stmt) (j : Nat) : Stmt := match s with
  | .ClassDef _ _ _ body _ _ _ _ _ _ _ => body.getD j (.Pass ⟨0, 0, 0, 0⟩)
  | _ => .Pass ⟨0, 0, 0, 0⟩
def defArgs (s : Stmt) : Arguments := match s with
  | .FunctionDef _ a _ _ _ _ _ _ _ _ => a
  | _ => { posonlyargs := [], args := [], vararg := none, kwonlyargs := [], kw_defaults := [], kwarg := none, defaults := [] }
def defBody (s : Stmt) : List Stmt := match s with
  | .FunctionDef _ _ b _ _ _ _ _ _ _ => b
  | _ => []
def defScope (s : Stmt) : Scope := match s with
  | .FunctionDef _ _ _ _ _ _ sc _ _ _ => sc
  | _ => { kind := .function, names := [], isGenerator := false, isCoroutine := false }

/-! ### no exception leaves a def -/
abbrev CX0 : CXT := fun _ _ _ _ _ _ => False
abbrev E0 : XK := fun _ _ _ => False
theorem pass0 {X : Cx} : Passes CX0 X E0 := fun _ _ _ _ _ _ _ h => h.elim

/-! ### a def (or method) of the text as it stands behind the top -/
structure Fun (K : PySem.W.Frag) (x qual : Str) (st : Stmt) (f : Addr) (fd : FuncData) : Prop where
  ex : ∃ (oc : Value) (od : Option Addr) (kV doc pm : Value) (an : Option Addr) (cdv ct : Value) (osl : Array (Option Value)),
    fd = PySem.W.fnOf x qual (defArgs st) (defBody st) (defScope st) .none kV doc pm an cdv ct ∧ K.lookup f = some ⟨oc, od, .func fd, osl⟩ ∧ PySem.W.codeIn K cdv qual = true
  kp : PySem.W.keepIn K (.ref f) = true
section
variable {P : Program} {w : World} {K : PySem.W.Frag} {mg : Str → Option Value} {base : Heap}
/-- THE RULE for a def: its body as a term of rules, and the reading of that term -/
theorem Fun.ok {x qual : Str} {st : Stmt} {f : Addr} {fd : FuncData} {N ps : List Str} {k : Nat} {sp : Sp} (F : Fun K x qual st f fd) (S : FnScope N ps (defScope st)) (len : ∀ vs H Q E, sp vs H Q E → vs.length = ps.length)
    (hbody : ∀ (cdv : Value) (A : Around) (outer : List Env) (s : Shared) (H : Hp) (vs : List V) (Q : VK) (E : XK), Room k (A.deeper (envOfC qual (defScope st) s.heap.objs.size f cdv)) → sp vs H Q E →
      ∃ t, PSs (cxOf CX0 P w K mg base N qual (defScope st) f cdv A outer s H E).nox (defBody st) t ∧ t { nx := fun _ H' => Q .non H', rt := Q } (start N vs) H) : FnOk P w K mg base CX0 (k + 1) f fd ps sp := by
  obtain ⟨oc, od, kV, doc, pm, an, cdv, ct, osl, rfl, lk, hcd⟩ := F.ex
  refine fn_of lk hcd S len fun A outer s H vs Q E hr hsp => ?_
  obtain ⟨t, h, q⟩ := hbody cdv A outer s H vs Q E hr hsp
  exact ⟨t, h.nox, q⟩
/-- how its arguments bind (no defaults): h is «fun _ _ _ _ _ _ us hl => match us, hl with | [_, _], _ => rfl», one _ a parameter -/
theorem Fun.binds {x qual : Str} {st : Stmt} {f : Addr} {fd : FuncData} {ps : List Str} (F : Fun K x qual st f fd)
    (h : ∀ (kV doc pm : Value) (an : Option Addr) (cdv ct : Value) (us : List Value), us.length = ps.length → bindArgs (PySem.W.fnOf x qual (defArgs st) (defBody st) (defScope st) .none kV doc pm an cdv ct) ⟨us, []⟩ = pure (ps.zip us)) : Binds K fd ps [] := by
  obtain ⟨oc, od, kV, doc, pm, an, cdv, ct, osl, rfl, lk, hcd⟩ := F.ex
  exact .all (h kV doc pm an cdv ct)
theorem fun_mk {x qual : Str} {st : Stmt} {f : Addr} {oc : Value} {od an : Option Addr} {osl : Array (Option Value)} {kV doc pm cdv ct : Value} (l : K.lookup f = some ⟨oc, od, .func (PySem.W.fnOf x qual (defArgs st) (defBody st) (defScope st) .none kV doc pm an cdv ct), osl⟩)
    (c : PySem.W.codeIn K cdv qual = true) (k : PySem.W.keepIn K (.ref f) = true) : Fun K x qual st f (PySem.W.fnOf x qual (defArgs st) (defBody st) (defScope st) .none kV doc pm an cdv ct) := ⟨⟨oc, od, kV, doc, pm, an, cdv, ct, osl, rfl, l, c⟩, k⟩
end
theorem hu_of {A : Around} {k : Nat} (hr : Room k A) : A.units + 1 < cLine := Nat.lt_of_le_of_lt (Nat.add_le_add_left (by decide : 1 ≤ 64) _) hr.units
theorem small1000 {n : Nat} (h : n ≤ 1000) : n < sizeLine := Nat.lt_of_le_of_lt h (by decide)

/-! ### expressions in short: the name that stands in the i-th slot -/
section
variable {X : Cx}
theorem pv (i : Nat) {x : Str} {pos : Pos} (hN : X.N[i]? = some x := by rfl) (hv : Vis X.env.scope x := by first | exact Or.inl rfl | exact Or.inr (Or.inl rfl) | exact Or.inr (Or.inr rfl)) (hd : (x == ("__debug__" : Str)) = false := by decide)
    (hcd : (x == ("__classdict__" : Str)) = false := by decide) : PE X (.Name x pos) (tVar i) := pe_var hN hv hd hcd
end

/-! ### tests -/
theorem iteF {A B : Prop} (h : B) : if false = true then A else B := by
  rw [if_neg Bool.false_ne_true]
  exact h
theorem iteT {A B : Prop} (h : A) : if true = true then A else B := by
  rw [if_pos rfl]
  exact h
theorem ite2 {c A B : Prop} [Decidable c] (h1 : c → A) (h2 : ¬ c → B) : if c then A else B := by
  by_cases h : c
  · rw [if_pos h]
    exact h1 h
  · rw [if_neg h]
    exact h2 h
theorem iteNS {c A B : Prop} [Decidable c] (hc : c) (h : B) : if (!decide c) = true then A else B := by
  rw [decide_eq_true hc]
  exact iteF h

/-! ### heaps -/
/-- all that was tracked is as it was -/
def Same (H H' : Hp) : Prop := ∀ b o, H b = some o → H' b = some o
theorem Same.refl (H : Hp) : Same H H := fun _ _ h => h
theorem Same.trans {H H1 H2 : Hp} (a : Same H H1) (b : Same H1 H2) : Same H H2 := fun c o h => b c o (a c o h)
theorem Same.free {H H' : Hp} (e : Same H H') {l : Addr} (h : H' l = Option.none) : H l = Option.none := by
  cases q : H l with
  | none => rfl
  | some o =>
    rw [e l o q] at h
    cases h
theorem Same.seq {K : PySem.W.Frag} {H H' : Hp} {a : Addr} {xs : List V} (e : Same H H') (h : SqL K H a xs) : SqL K H' a xs := by
  rcases h with (h | ⟨o, h⟩) | h
  · exact .inl (.inl (e _ _ h))
  · exact .inl (.inr ⟨o, e _ _ h⟩)
  · exact .inr h

end L2


section
namespace L2
open PySem PySem.Spec PyProof.Rows

/-! ### the cells that a comprehension takes over -/
def clAdd (cells : List (Str × Addr)) (cs : List (Str × Addr)) (x : Str × NameKind) : List (Str × Addr) :=
  if x.2 == NameKind.free then (x.1, (cells.lookup x.1).getD 0) :: cs else cs
def clOf (names : List (Str × NameKind)) (cells : List (Str × Addr)) : List (Str × Addr) := names.foldl (clAdd cells) []

theorem forIn_yield_fold {α β : Type} {f : α → β → Sem (ForInStep β)} {g : β → α → β} : ∀ (l : List α) (c : β), (∀ x ∈ l, ∀ c, f x c = pure (.yield (g c x))) → forIn l c f = pure (l.foldl g c)
  | [], c, _ => rfl
  | x :: l, c, h => by
    rw [List.forIn_cons, h x List.mem_cons_self, pure_bind]
    exact forIn_yield_fold l (g c x) fun y hy => h y (List.mem_cons_of_mem _ hy)

theorem closureFor_of {scope : Scope} {env : Env} (h : ∀ x ∈ scope.names, x.2 = .free → ∃ c, env.cells.lookup x.1 = some c) : closureFor scope env = pure (clOf scope.names env.cells) := by
  simp only [closureFor]
  rw [forIn_yield_fold (g := clAdd env.cells) scope.names [] (fun x hx c => by
    obtain ⟨n, k⟩ := x
    unfold clAdd
    cases hk : (k == NameKind.free) with
    | false => simp [hk]
    | true =>
      obtain ⟨a, ha⟩ := h _ hx (by simpa using hk)
      have ha' : List.lookup n env.cells = some a := ha
      simp [hk, cellOf, ha'])]
  rfl

theorem clOf_sub_aux {cells : List (Str × Addr)} : ∀ (names : List (Str × NameKind)) (cs : List (Str × Addr)), (∀ x ∈ names, x.2 = .free → ∃ c, cells.lookup x.1 = some c) →
    (∀ x c, cs.lookup x = some c → cells.lookup x = some c) → ∀ x c, (names.foldl (clAdd cells) cs).lookup x = some c → cells.lookup x = some c
  | [], cs, _, h, x, c, e => h x c e
  | (n, k) :: r, cs, hf, h, x, c, e => by
    refine clOf_sub_aux r (clAdd cells cs (n, k)) (fun y hy => hf y (List.mem_cons_of_mem _ hy)) (fun y d q => ?_) x c e
    unfold clAdd at q
    cases hk : (k == NameKind.free) with
    | false => simp only [hk, Bool.false_eq_true, if_false] at q; exact h y d q
    | true =>
      obtain ⟨a, ha⟩ := hf _ List.mem_cons_self (by simpa using hk)
      have ha' : List.lookup n cells = some a := ha
      simp only [hk, if_true, ha', Option.getD_some] at q
      cases hy : (y == n) with
      | false => simp only [List.lookup_cons, hy] at q; exact h y d q
      | true =>
        simp only [List.lookup_cons, hy] at q
        have : y = n := by simpa using hy
        rw [this, ← Option.some.inj q]; exact ha'
theorem clOf_sub {names : List (Str × NameKind)} {cells : List (Str × Addr)} (hf : ∀ x ∈ names, x.2 = .free → ∃ c, cells.lookup x.1 = some c) {x : Str} {c : Addr} (e : (clOf names cells).lookup x = some c) : cells.lookup x = some c :=
  clOf_sub_aux names [] hf (fun _ _ q => by cases q) x c e

theorem clOf_has_aux {cells : List (Str × Addr)} {x : Str} : ∀ (names : List (Str × NameKind)) (cs : List (Str × Addr)), ((∃ c, cs.lookup x = some c) ∨ (x, NameKind.free) ∈ names) → ∃ c, (names.foldl (clAdd cells) cs).lookup x = some c
  | [], cs, h => by
    rcases h with h | h
    · exact h
    · cases h
  | (n, k) :: r, cs, h => by
    refine clOf_has_aux r (clAdd cells cs (n, k)) ?_
    rcases h with ⟨c, h⟩ | h
    · left
      unfold clAdd
      cases hk : (k == NameKind.free) with
      | false => exact ⟨c, by simpa [hk] using h⟩
      | true =>
        cases hy : (x == n) with
        | false => exact ⟨c, by simp only [hk, if_true, List.lookup_cons, hy]; exact h⟩
        | true => exact ⟨(cells.lookup n).getD 0, by simp only [hk, if_true, List.lookup_cons, hy]⟩
    · rcases List.mem_cons.mp h with e | h
      · left
        cases e
        unfold clAdd
        exact ⟨(cells.lookup x).getD 0, by simp only [beq_self_eq_true, if_true, List.lookup_cons]⟩
      · exact .inr h

theorem lookup_mem {κ α : Type} [BEq κ] [LawfulBEq κ] {x : κ} {a : α} {l : List (κ × α)} (h : l.lookup x = some a) : (x, a) ∈ l := by
  induction l with
  | nil => cases h
  | cons p r ih =>
    obtain ⟨y, b⟩ := p
    cases hy : (x == y) with
    | false => simp only [List.lookup_cons, hy] at h; exact List.mem_cons_of_mem _ (ih h)
    | true =>
      simp only [List.lookup_cons, hy] at h
      have : x = y := by simpa using hy
      rw [this, ← Option.some.inj h]; exact List.mem_cons_self

/-- what a name is within the block: as it is in the block's own scope, or taken over -/
theorem relabel_lookup {env : Env} : ∀ {names : List (Str × NameKind)} {x : Str} {k : NameKind},
    (names.map fun (n, k) => if (k == NameKind.free && env.scope.kind == .function && env.kindOf n == some .cell) then (n, NameKind.cell) else (n, k)).lookup x = some k →
    names.lookup x = some k ∨ (names.lookup x = some .free ∧ k = .cell)
  | [], _, _, h => by cases h
  | (n, k') :: r, x, k, h => by
    have ih := @relabel_lookup env r x k
    have h' : List.lookup x ((if (k' == NameKind.free && env.scope.kind == .function && env.kindOf n == some .cell) = true then (n, NameKind.cell) else (n, k')) :: (r.map fun (n, k) => if (k == NameKind.free && env.scope.kind == .function && env.kindOf n == some .cell) then (n, NameKind.cell) else (n, k))) = some k := h
    cases hx : (x == n) with
    | false =>
      by_cases hc : (k' == NameKind.free && env.scope.kind == .function && env.kindOf n == some .cell) = true
      · rw [if_pos hc] at h'; simp only [List.lookup_cons, hx] at h' ⊢; exact ih h'
      · rw [if_neg hc] at h'; simp only [List.lookup_cons, hx] at h' ⊢; exact ih h'
    | true =>
      by_cases hc : (k' == NameKind.free && env.scope.kind == .function && env.kindOf n == some .cell) = true
      · rw [if_pos hc] at h'; simp only [List.lookup_cons, hx] at h' ⊢
        have e : NameKind.cell = k := Option.some.inj h'
        have e2 : k' = .free := by
          simp only [Bool.and_eq_true] at hc
          simpa using hc.1.1
        exact .inr ⟨by rw [e2], e.symm⟩
      · rw [if_neg hc] at h'; simp only [List.lookup_cons, hx] at h' ⊢
        exact .inl h'

/-! ### the block's context -/
def nmC (X : Cx) (own : List Str) (js : List Nat) : List Str := own ++ js.map fun j => X.N.getD j ""
def stC (n : Nat) (js : List Nat) (σ : St) : St := List.replicate n none ++ js.map fun j => σ.getD j none
def cxC (X : Cx) (N' : List Str) (scope : Scope) (C : Addr) (s₀ : Shared) (H₀ : Hp) (fp : List Addr) (pins : List (Addr × Obj)) : Cx where
  prog := X.prog
  w := X.w
  K := X.K
  mg := X.mg
  base := X.base
  A := X.A
  N := N'
  s₀ := s₀
  H₀ := H₀
  env := compEnvC scope (clOf scope.names X.env.cells) C X.env
  outer := X.stack
  stack := X.stack
  ex := fp
  fn := fun _ => false
  calm := X.calm
  pn := X.pn ++ pins
  xe := fun _ _ => False

/-- what the scope of a block is to be -/
structure CompScope (X : Cx) (scope : Scope) (js : List Nat) : Prop where
  kind : scope.kind = .function
  nocell : ∀ y ∈ scope.names, y.2 ≠ .cell
  names : ∀ x ∈ scope.names, x.2 = .local → scope.names.lookup x.1 = some .local
  free : ∀ x ∈ scope.names, x.2 = .free → X.env.kindOf x.1 = some .cell ∨ X.env.kindOf x.1 = some .free
  js : ∀ j ∈ js, scope.names.lookup (X.N.getD j "") = some .free ∧ j < X.N.length

theorem Heap.SameBut.getAt {a : Addr} {h h' : Heap} (hs : Heap.SameBut a h h') {b : Addr} (hb : b ≠ a) : h'.get? b = h.get? b := hs.2 b hb

theorem Un.past {fs ex : List Addr} {H H' : Hp} {h h1 h' : Heap} {C : Addr} (u : Un fs ex H H' h h1) (hs : Heap.SameBut C h1 h') (hC : h.objs.size ≤ C) : Un fs ex H H' h h' := by
  have ne : ∀ b o, h.get? b = some o → b ≠ C := fun b o e => Nat.ne_of_lt (Nat.lt_of_lt_of_le (Heap.lt_size e) hC)
  exact ⟨fun b o e n hb hx => (hs.2 b (ne b o e)).trans (u.keep b o e n hb hx), fun b o e n hb hx => let ⟨sl, q⟩ := u.slot b o e n hb hx; ⟨sl, (hs.2 b (ne b o e)).trans q⟩, u.free,
    fun b o e hx => let ⟨o', q⟩ := u.there b o e hx; ⟨o', (hs.2 b (ne b o e)).trans q⟩, u.tups, u.frzs, u.tbls⟩
theorem HOk.past {P : Program} {w : World} {H : Hp} {h h' : Heap} {C : Addr} (ok : HOk P w H h) (hs : Heap.SameBut C h h') (hf : H C = none) : HOk P w H h' := fun b ob e => by
  refine (ok b ob e).stay (fun c w' hc q => (hs.2 c ?_).trans q) (fun _ q => q) fun _ _ q => q
  rintro rfl
  rcases hc with rfl | hc
  · rw [hf] at e; cases e
  · rw [hf] at hc; cases hc

section
variable {X : Cx} {pins : List (Addr × Obj)} {σ : St} {H : Hp} {s : Shared}
theorem CompScope.cells {scope : Scope} {js : List Nat} (S : CompScope X scope js) (ok : X.Ok) : ∀ x ∈ scope.names, x.2 = .free → ∃ c, X.env.cells.lookup x.1 = some c := fun x hx hf => ok.has x.1 (S.free x hx hf)

/-- the block's entry -/
theorem inv_block {scope : Scope} {own : List Str} {js : List Nat} {fp : List Addr} {h₁ : Heap} {tk : Nat} (S : CompScope X scope js) (I : Inv X pins σ H s) (hfp : ∀ b ∈ fp, FpOk X pins H b)
    (hlt : ∀ b ∈ fp, b < s.heap.objs.size) {m : Str → Option Value} (hns : h₁.Ns s.heap.objs.size m) (old : ∀ b o, s.heap.get? b = some o → h₁.get? b = some o) :
    Inv (cxC X (nmC X own js) scope s.heap.objs.size s H fp pins) [] (stC own.length js σ) H { s with heap := h₁, toks := tk } := by
  have hcl := S.cells I.ok
  have sub : ∀ x c, (clOf scope.names X.env.cells).lookup x = some c → X.env.cells.lookup x = some c := fun x c e => clOf_sub hcl e
  have ltC : ∀ x c, X.env.cells.lookup x = some c → c < s.heap.objs.size := fun x c e => let ⟨_, z⟩ := I.cell x c e; z.lt
  refine ⟨⟨I.ok.mod, S.kind, I.ok.glob, I.ok.blt, Nat.le_refl _, fun x y c h1 h2 => I.ok.inj x y c (sub _ _ h1) (sub _ _ h2), fun x hx => ?_, fun x c h _ => (by cases h), I.ok.hd, I.ok.frames, .inl rfl, fun b hb => ⟨Nat.ne_of_lt (hlt b hb), fun x c e => (hfp b hb).2.2.2.2.1 x c (sub _ _ e)⟩,
      I.bs, Nat.le_trans I.ok.bsz I.sz, fun b o e hb => ?_, fun b hb hq => ?_, I.stack, I.stkFree⟩,
    rfl, I.bare, Un.kept old, ⟨m, hns, fun i x v e1 e2 e3 => ?_⟩, fun x c e => ?_, I.fresh, fun x c e => I.freeC x c (sub _ _ e), fun p hp => ?_, I.hok.kept old, ?_⟩
  · have hx' : (relabel scope X.env).names.lookup x = some .cell ∨ (relabel scope X.env).names.lookup x = some .free := hx
    have fr : scope.names.lookup x = some .free := by
      rcases hx' with z | z
      · rcases relabel_lookup z with q | q
        · exact absurd rfl (S.nocell _ (lookup_mem q))
        · exact q.1
      · rcases relabel_lookup z with q | q
        · exact q
        · exact q.1
    exact clOf_has_aux scope.names [] (.inr (lookup_mem fr))
  · rcases (hfp b hb).2.2.2.1 with z | z
    · exact I.ok.noex b o e z
    · exact absurd (Nat.lt_of_lt_of_le (Heap.lt_size e) (Nat.le_trans I.ok.bsz z)) (Nat.lt_irrefl _)
  · rcases List.mem_cons.mp (I.stkSub b hq) with z | z
    · exact (hfp b hb).2.1 z
    · exact (hfp b hb).2.2.1 z
  · have hi : own.length ≤ i := by
      by_cases hi : own.length ≤ i
      · exact hi
      · have e2' : (stC own.length js σ)[i]? = some (some v) := e2
        unfold stC at e2'
        rw [List.getElem?_append_left (by rw [List.length_replicate]; omega), List.getElem?_replicate] at e2'
        split at e2' <;> cases e2'
    have e2' : (js.map fun j => σ.getD j none)[i - own.length]? = some (some v) := by
      have e2' : (stC own.length js σ)[i]? = some (some v) := e2
      unfold stC at e2'
      rw [List.getElem?_append_right (by rw [List.length_replicate]; exact hi), List.length_replicate] at e2'
      exact e2'
    have e1' : (js.map fun j => X.N.getD j "")[i - own.length]? = some x := by
      have e1' : (nmC X own js)[i]? = some x := e1
      unfold nmC at e1'
      rw [List.getElem?_append_right hi] at e1'
      exact e1'
    rw [List.getElem?_map] at e1' e2'
    cases hj : js[i - own.length]? with
    | none => rw [hj] at e1'; cases e1'
    | some j =>
      rw [hj] at e1' e2'
      have e1'' : X.N.getD j "" = x := Option.some.inj e1'
      have e2'' : σ.getD j none = some v := Option.some.inj e2'
      obtain ⟨fr, hjl⟩ := S.js j (List.mem_of_getElem? hj)
      rw [e1''] at fr
      have hN : X.N[j]? = some x := by
        rw [List.getElem?_eq_getElem hjl, ← e1'', List.getD_eq_getElem?_getD, List.getElem?_eq_getElem hjl]; rfl
      have hσ : σ[j]? = some (some v) := by
        rw [List.getD_eq_getElem?_getD] at e2''
        cases q : σ[j]? with
        | none => rw [q] at e2''; cases e2''
        | some o => rw [q] at e2''; rw [show o = some v from e2'']
      obtain ⟨m0, hn0, hl0⟩ := I.loc
      have kd : X.env.kindOf x = some .cell ∨ X.env.kindOf x = some .free := S.free _ (lookup_mem fr) rfl
      obtain ⟨u, r, l⟩ := hl0 j x v hN hσ (by rcases kd with k | k; exact .inr (.inl k); exact .inr (.inr k))
      refine ⟨u, r, ?_⟩
      rcases l with ⟨k, _⟩ | ⟨_, c, hc, hcell⟩
      · rcases kd with z | z <;> (rw [k] at z; cases z)
      · have hcc : (clOf scope.names X.env.cells).lookup x = some c := by
          obtain ⟨c', e⟩ := clOf_has_aux (cells := X.env.cells) scope.names [] (.inr (lookup_mem fr))
          have := sub x c' e
          rw [hc] at this
          rw [Option.some.inj this]; exact e
        have kk : (relabel scope X.env).names.lookup x = some .cell ∨ (relabel scope X.env).names.lookup x = some .free := by
          rcases e3 with z | z | z
          · rcases relabel_lookup z with q | q
            · rw [fr] at q; cases q
            · rw [fr] at q; cases q.2
          · exact .inl z
          · exact .inr z
        exact .inr ⟨kk, c, hcc, let ⟨o, ho, hd⟩ := hcell; ⟨o, old _ _ ho, hd⟩⟩
  · obtain ⟨v, o, ho, hd⟩ := I.cell x c (sub _ _ e)
    exact ⟨v, o, old _ _ ho, hd⟩
  · have hp' : p ∈ X.pn ++ pins := by
      have hp' : p ∈ (X.pn ++ pins) ++ [] := hp
      simpa using hp'
    obtain ⟨e, n, ne, nf, d⟩ := I.pin p hp'
    refine ⟨old _ _ e, n, Nat.ne_of_lt (Heap.lt_size e), fun hq => ?_, d⟩
    rcases List.mem_cons.mp (I.stkSub p.1 hq) with z | z
    · exact ne z
    · exact nf z
  · show (stC own.length js σ).length = (nmC X own js).length
    unfold stC nmC
    rw [List.length_append, List.length_append, List.length_replicate, List.length_map, List.length_map]

/-- behind the block: the caller's own state again -/
theorem Inv.unblock {scope : Scope} {N' : List Str} {fp : List Addr} {C : Addr} {pins' : List (Addr × Obj)} {σ' : St} {H' : Hp} {s' : Shared} {h' : Heap} (I : Inv X pins σ H s) (hfp : ∀ b ∈ fp, FpOk X pins H b)
    (J : Inv (cxC X N' scope C s H fp pins) pins' σ' H' s') (hs : Heap.SameBut C s'.heap h') (hC : s.heap.objs.size ≤ C) : Inv X pins σ H' { s' with heap := h' } :=
  I.call' (s' := { s' with heap := h' }) (ch := fp) J.os (Un.past J.base hs hC) (J.hok.past hs J.free) J.bare fun b hb => ⟨(hfp b hb).2.2.2.1, (hfp b hb).2.1, (hfp b hb).2.2.2.2.1, (hfp b hb).2.2.2.2.2⟩
end

/-! ### the loop of a comprehension, whatever its target -/
section
variable {prog : Program} {w : World} {A : Around} {R : Result → Shared → Prop} {s : Shared}
theorem codeAny_compLoop_any {elt target iter : Expr} {ifs : List Expr} {scope : Scope} {pos : Pos} {it acc : Value} {env : Env} (I : Nat → Shared → Prop)
    (turn : ∀ n s, I n s → wpAny (model prog w) A (pyNext it) (fun r s₁ => match r with
      | none => R (.ok .next) s₁
      | some v => wpAny (model prog w) A (letOwnedTupleGo target it v) (fun _ s₁' => wpAny (model prog w) A (assign target env v) (fun _ s₂ =>
          wpAny (model prog w) A (forIn ifs true fun c r => if r = true then do let ok ← isTrue c env (eval c env); pure (ForInStep.yield ok) else pure (ForInStep.yield r)) (fun ok s₃ =>
            if ok = true then wpAny (model prog w) A (eval elt env) (fun x s₄ =>
              wpAny (model prog w) A (call (.builtin "list.append") [acc, x]) (fun _ s₅ => ∃ m, m < n ∧ I m s₅) (fun _ _ => False) s₄) (fun _ _ => False) s₃
            else ∃ m, m < n ∧ I m s₃) (fun _ _ => False) s₂) (fun _ _ => False) s₁') (fun _ _ => False) s₁) (fun _ _ => False) s)
    (n : Nat) (h : I n s) :
    codeAny (model prog w) A (.compLoop (.ListComp elt [⟨target, iter, ifs, 0⟩] scope pos) 0 it acc env) R s := by
  refine codeAny_loop rfl I (fun n s hI => ?_) n h
  show wpAny _ A ((compTurn (.ListComp elt [⟨target, iter, ifs, 0⟩] scope pos) 0 it acc env).onRaise (fun x => do noteFrame x env; theTreesLotGoes x)) _ _ s
  refine wpAny_noted ?_
  rw [compTurn_list]
  refine wpAny_bind (wpAny_standAt (wpAny_bind (wpAny_mono (turn n s hI) (fun r s₁ h₁ => ?_) fun _ _ h' => h'.elim)))
  cases r with
  | none => exact wpAny_pure h₁
  | some v =>
    refine wpAny_bind (wpAny_mono h₁ (fun _ s₁' h₁' => ?_) fun _ _ h' => h'.elim)
    refine wpAny_bind (wpAny_mono h₁' (fun _ s₂ h₂ => wpAny_bind (wpAny_mono h₂ (fun ok s₃ h₃ => ?_) fun _ _ h' => h'.elim)) fun _ _ h' => h'.elim)
    cases ok with
    | false => exact wpAny_pure ⟨rfl, h₃⟩
    | true =>
      exact wpAny_bind (wpAny_bind (wpAny_mono h₃ (fun x s₄ h₄ => wpAny_bind (wpAny_mono h₄ (fun _ s₅ h₅ => wpAny_pure (wpAny_pure ⟨rfl, h₅⟩)) fun _ _ h' => h'.elim)) fun _ _ h' => h'.elim))
end

/-! ### the tests of a clause -/
def PTs (X : Cx) (ifs : List Expr) (t : TT) : Prop :=
  ∀ (pins : List (Addr × Obj)) (s : Shared) (σ : St) (H : Hp) (Q : Bool → Hp → Prop), Inv X pins σ H s → t σ H Q →
    wpAny (model X.prog X.w) X.A (forIn ifs true fun c r => if r = true then do let ok ← isTrue c X.env (eval c X.env); pure (ForInStep.yield ok) else pure (ForInStep.yield r)) (TP X pins σ Q) X.xe s
def tYes : TT := fun _ H Q => Q true H
theorem pts_nil {X : Cx} : PTs X [] tYes := fun _ _ _ H _ I h => wpAny_tests_nil ⟨H, I, h⟩
theorem pts_one {X : Cx} {c : Expr} {t : TT} (h : PT X c t) : PTs X [c] t := fun pins s σ H Q I hw => wpAny_tests_one (h pins s σ H Q I hw)

/-! ### the reading of a comprehension -/
/-- one turn: the item x is there, ys was laid; N: what the turn is to reach -/
def Turn1 (n : Nat) (js : List Nat) (σ : St) (g : TG) (tt : TT) (te : TE) (D : Addr) (x : V) (ys : List V) (H : Hp) (N : List V → Hp → Prop) : Prop :=
  g x (stC n js σ) H fun σ' H4 => σ'.drop n = (stC n js σ).drop n ∧ tt σ' H4 fun b H5 =>
    if b = true then te σ' H5 fun y H6 => H6 D = some (.lst ys) ∧ N (ys ++ [y]) (upd H6 D (.lst (ys ++ [y]))) else N ys H5
/-- W: the invariant by the turn, a measure, what was laid into the new list at D, the heap -/
def LoopC (n : Nat) (js : List Nat) (σ : St) (g : TG) (tt : TT) (te : TE) (J : It) (H1 : Hp) (Q : VK) : Prop := ∀ D, H1 D = none → ∃ W : Nat → Nat → List V → Hp → Prop, (∃ m, W 0 m [] (upd H1 D (.lst []))) ∧ ∀ i m ys H2, W i m ys H2 →
  H2 D = some (.lst ys) ∧ ((J.stop i H2 ∧ Q (.ref D) H2) ∨ (ys.length < sizeLine ∧ J.go i H2 ∧ ∃ N : List V → Hp → Prop, (∀ ys' H', N ys' H' → ∃ m', m' < m ∧ W (i + 1) m' ys' H') ∧ ∀ x H3, J.yld i H2 x H3 → Turn1 n js σ g tt te D x ys H3 N))
def tComp (n : Nat) (js : List Nat) (wi : TI) (g : TG) (tt : TT) (te : TE) : TE := fun σ H Q => wi σ H fun J H1 => LoopC n js σ g tt te J H1 Q

theorem stC_weak {X : Cx} {pins : List (Addr × Obj)} {n : Nat} {js : List Nat} {σ σ' : St} {H : Hp} {s : Shared} (I : Inv X pins σ' H s) (hl : (stC n js σ).length = X.N.length) (hd : σ'.drop n = (stC n js σ).drop n) : Inv X pins (stC n js σ) H s := by
  refine I.weak (by rw [hl, I.len]) fun i v e => ?_
  have hi : n ≤ i := by
    by_cases hi : n ≤ i
    · exact hi
    · unfold stC at e
      rw [List.getElem?_append_left (by rw [List.length_replicate]; omega), List.getElem?_replicate] at e
      split at e <;> cases e
  have e2 : ((stC n js σ).drop n)[i - n]? = some (some v) := by rw [List.getElem?_drop]; rw [show n + (i - n) = i by omega]; exact e
  rw [← hd, List.getElem?_drop, show n + (i - n) = i by omega] at e2
  exact e2

section
variable {X : Cx}
/-- the block from the made iterator on: newList, the block's frame, the loop; RR: what is wanted behind it -/
theorem comp_block {elt tg iter : Expr} {ifs : List Expr} {scope : Scope} {pos : Pos} {g : TG} {tt : TT} {te : TE} {own : List Str} {js : List Nat} {pins : List (Addr × Obj)} {s : Shared} {σ : St} {H : Hp} {it : Addr} {fp : List Addr} {tn : Nat → Heap → Prop} {J : It} {Q : VK}
    {E : Value → Shared → Prop} {RR : Value → Addr → Result → Shared → Prop}
    (hc : X.calm = true) (S : CompScope X scope js)
    (hb : ∀ C s₀ H₀ fp pins, PG (cxC X (nmC X own js) scope C s₀ H₀ fp pins) tg g ∧ PTs (cxC X (nmC X own js) scope C s₀ H₀ fp pins) ifs tt ∧ PE (cxC X (nmC X own js) scope C s₀ H₀ fp pins) elt te)
    (I : Inv X pins σ H s) (T : Turn X.prog X.w X.K tg J fp it tn) (st : tn 0 s.heap) (f : ∀ b ∈ fp, FpOk X pins H b)
    (h : LoopC own.length js σ g tt te J H Q)
    (hR : ∀ D C H' s' m, Q (.ref D) H' → s'.heap.Ns C m → FpOk X pins H' C → Inv X pins σ H' s' → RR (.ref D) C (.ok .next) s') :
    wpAny (model X.prog X.w) X.A (newList []) (fun acc s₃ => wpAny (model X.prog X.w) X.A (newFunctionEnv scope X.env.globals (clOf scope.names X.env.cells) [] X.env.qual none .none (some X.env)) (fun cenv s₄ =>
      codeAny (model X.prog X.w) X.A (.compStart (.ListComp elt [⟨tg, iter, ifs, 0⟩] scope pos) 0 (.ref it) acc { cenv with scope := relabel scope X.env }) (RR acc cenv.locals) s₄) E s₃) E s := by
  refine wpAny_newObj_type (wpAny_newFunctionEnv S.nocell (by intro y hy; simp at hy) (fun h₁ hns₁ hsb₁ => ?_) S.kind)
  dsimp only at hns₁ hsb₁ ⊢
  obtain ⟨W, ⟨m0, w0⟩, turn⟩ := h _ I.fresh
  have I3 : Inv X pins σ (upd H s.heap.objs.size (.lst [])) { s with heap := s.heap.push { cls := .type "list", dict := none, data := .seq ([] : List Value).toArray }, toks := s.toks } := I.lnew (its := []) (t' := s.toks) .nil (Nat.zero_le _)
  generalize hs3 : ({ s with heap := s.heap.push { cls := .type "list", dict := none, data := .seq ([] : List Value).toArray }, toks := s.toks } : Shared) = s3 at I3
  have hh3 : s.heap.push { cls := .type "list", dict := none, data := .seq ([] : List Value).toArray } = s3.heap := by rw [← hs3]
  rw [hh3] at hns₁ hsb₁
  have f3 : ∀ b ∈ fp, FpOk X pins (upd H s.heap.objs.size (.lst [])) b := fun b hb => by
    obtain ⟨f0, fr⟩ := f b hb
    obtain ⟨o, ho, _⟩ := T.obj 0 s.heap st b hb
    refine ⟨?_, fr⟩
    rw [upd_ne (Nat.ne_of_lt (Heap.lt_size ho))]; exact f0
  have old1 : ∀ b o, s.heap.get? b = some o → s3.heap.get? b = some o := fun b o e => by rw [← hh3]; exact Heap.get?_push_of_some _ e
  have old : ∀ b o, s3.heap.get? b = some o → h₁.get? b = some o := fun b o e => (hsb₁.2 b (Nat.ne_of_lt (Heap.lt_size e))).trans (Heap.get?_push_of_some _ e)
  have hlt : ∀ b ∈ fp, b < s3.heap.objs.size := fun b hb => by
    obtain ⟨o, ho, _⟩ := T.obj 0 s.heap st b hb
    exact Heap.lt_size (old1 b o ho)
  have IB : ∀ tk, Inv (cxC X (nmC X own js) scope s3.heap.objs.size s3 (upd H s.heap.objs.size (.lst [])) fp pins) [] (stC own.length js σ) (upd H s.heap.objs.size (.lst [])) { s3 with heap := h₁, toks := tk } := fun tk => inv_block S I3 f3 hlt hns₁ old
  obtain ⟨hg, ht, he⟩ := hb s3.heap.objs.size s3 (upd H s.heap.objs.size (.lst [])) fp pins
  have hlen : (stC own.length js σ).length = (nmC X own js).length := (IB 0).len
  have loop : ∀ s₃ : Shared, s₃ = { s3 with heap := h₁, toks := s3.toks + ([] : List (Str × Value)).length } →
      codeAny (model X.prog X.w) X.A (.compLoop (.ListComp elt [⟨tg, iter, ifs, 0⟩] scope pos) 0 (.ref it) (.ref s.heap.objs.size) (compEnvC scope (clOf scope.names X.env.cells) s3.heap.objs.size X.env)) (RR (.ref s.heap.objs.size) s3.heap.objs.size) s₃ := by
    rintro s₃ rfl
    refine codeAny_compLoop_any (fun n s' => ∃ i ys H', Inv (cxC X (nmC X own js) scope s3.heap.objs.size s3 (upd H s.heap.objs.size (.lst [])) fp pins) [] (stC own.length js σ) H' s' ∧ tn i s'.heap ∧ (∀ b ∈ fp, H' b = none) ∧ W i n ys H') ?_ m0
      ⟨0, [], _, IB _, T.keep _ _ _ st fun b hb o e => old b o (old1 b o e), fun b hb => (f3 b hb).1, w0⟩
    rintro n s4 ⟨i, ys, H4, I4, st4, fr4, w4⟩
    have stat : ∀ {H' : Hp}, (∀ b ∈ fp, H' b = none) → ∀ b ∈ fp, FpOk (cxC X (nmC X own js) scope s3.heap.objs.size s3 (upd H s.heap.objs.size (.lst [])) fp pins) [] H' b := fun {H'} hn b hb => by
      obtain ⟨_, f1, f2, f3', f4, f5⟩ := f3 b hb
      refine ⟨hn b hb, Nat.ne_of_lt (hlt b hb), fun hq => ?_, .inl hb, fun x c e => f4 x c (clOf_sub (S.cells I3.ok) e), fun p hp => f5 p ?_⟩
      · rcases List.mem_cons.mp (I3.stkSub b hq) with z | z
        · exact f1 z
        · exact f2 z
      · have hp' : p ∈ (X.pn ++ pins) ++ [] := hp
        simpa using hp'
    obtain ⟨hD, rest⟩ := turn i n ys H4 w4
    rcases rest with ⟨stop, q⟩ | ⟨hz, go, N, hN, step⟩
    · refine thn (T.done (cxC X (nmC X own js) scope s3.heap.objs.size s3 (upd H s.heap.objs.size (.lst [])) fp pins) rfl rfl rfl hc i [] s4 _ H4 (fun _ _ => False) I4 (stat fr4) st4 stop) fun r s5 ⟨hr, I5⟩ => ?_
      subst hr
      obtain ⟨m5, hn5, _⟩ := I5.loc
      exact hR _ _ H4 s5 m5 q hn5 (I3.fpOk (Nat.le_refl _) I5.free) (I3.unblock f3 I5 (.refl ..) (Nat.le_refl _))
    · refine thn (T.item (cxC X (nmC X own js) scope s3.heap.objs.size s3 (upd H s.heap.objs.size (.lst [])) fp pins) rfl rfl rfl hc i [] s4 _ H4 (fun _ _ => False) I4 (stat fr4) st4 go) fun r s5 ⟨u, hr, h5⟩ => ?_
      subst hr
      refine thn h5 fun _ s6 ⟨x, H6, I6, r6, y6, st6, fr6⟩ => ?_
      have I6' := I6.pinned (stat fr6) (T.obj _ _ st6)
      refine thn (hg _ s6 _ H6 x u _ I6' r6 (step x H6 y6)) fun _ s7 ⟨σ7, H7, I7, hd7, q7⟩ => ?_
      refine thn (ht _ s7 σ7 H7 _ I7 q7) fun b s8 ⟨H8, I8, q8⟩ => ?_
      have again : ∀ {H9 : Hp} {s9 : Shared} {ys' : List V}, Inv (cxC X (nmC X own js) scope s3.heap.objs.size s3 (upd H s.heap.objs.size (.lst [])) fp pins) ([] ++ pinsAt fp s6.heap) σ7 H9 s9 → N ys' H9 →
          ∃ m, m < n ∧ ∃ i ys H', Inv (cxC X (nmC X own js) scope s3.heap.objs.size s3 (upd H s.heap.objs.size (.lst [])) fp pins) [] (stC own.length js σ) H' s9 ∧ tn i s9.heap ∧ (∀ b ∈ fp, H' b = none) ∧ W i m ys H' := fun {H9 s9 ys'} I9 n9 => by
        obtain ⟨m', hm, w9⟩ := hN ys' H9 n9
        refine ⟨m', hm, i + 1, ys', H9, stC_weak I9.unpinned hlen hd7, T.keep _ _ _ st6 fun b hb o e => (I9.pin (b, o) (List.mem_append_right _ (List.mem_append_right _ (mem_pinsAt hb e)))).1, fun b hb => ?_, w9⟩
        obtain ⟨o, e, d⟩ := T.obj _ _ st6 b hb
        exact (I9.pin (b, o) (List.mem_append_right _ (List.mem_append_right _ (mem_pinsAt hb e)))).2.1
      cases b with
      | false =>
        rw [if_neg Bool.false_ne_true] at q8 ⊢
        exact again I8 q8
      | true =>
        rw [if_pos rfl] at q8 ⊢
        refine thn (he _ s8 σ7 H8 _ I8 q8) fun u9 s9 ⟨y, H9, I9, r9, hD9, q9⟩ => ?_
        refine thn (mt_append (X := cxC X (nmC X own js) scope s3.heap.objs.size s3 (upd H s.heap.objs.size (.lst [])) fp pins) _ s9 σ7 H9 (.ref s.heap.objs.size) [y] (.ref s.heap.objs.size) [u9] (fun _ H' => N (ys ++ [y]) H') I9 rfl (.cons r9 .nil) ⟨_, ys, y, rfl, rfl, hD9, hz, q9⟩) fun _ s10 ⟨_, H10, I10, _, q10⟩ => ?_
        exact again I10 q10
  have hself := T.self X.A 0 { s3 with heap := h₁, toks := s3.toks + ([] : List (Str × Value)).length }
  subst hs3
  exact codeAny_compStart_list (loop _ rfl) (hself _ _ (T.keep _ _ _ st fun b hb o e => old b o (old1 b o e)) (loop _ rfl))

/-- [elt for tg in iter if ..] as a value -/
theorem pe_comp {elt tg iter : Expr} {ifs : List Expr} {scope : Scope} {pos : Pos} {wi : TI} {g : TG} {tt : TT} {te : TE} (own : List Str) (js : List Nat) (hc : X.calm = true) (S : CompScope X scope js) (hi : PI X tg iter wi)
    (hb : ∀ C s₀ H₀ fp pins, PG (cxC X (nmC X own js) scope C s₀ H₀ fp pins) tg g ∧ PTs (cxC X (nmC X own js) scope C s₀ H₀ fp pins) ifs tt ∧ PE (cxC X (nmC X own js) scope C s₀ H₀ fp pins) elt te)
    (hs : ∀ x, foldedSetIterable iter X.env x = pure x := by intro _; rfl) : PE X (.ListComp elt [⟨tg, iter, ifs, 0⟩] scope pos) (tComp own.length js wi g tt te) := by
  intro pins s σ H Q I h
  rw [eval_ListComp]
  refine wpAny_comprehension_free (use := none) (cl := clOf scope.names X.env.cells) rfl hs (closureFor_of (S.cells I.ok)) S.kind S.names ?_
  refine thn (hi pins s σ H _ I h) fun v s1 h1 => thn h1 fun itv s2 h2 => ?_
  obtain ⟨it, fp, tn, J, H2, e, I2, T, st2, f2, h2⟩ := h2
  subst e
  refine comp_block (RR := fun acc C => compPost (model X.prog X.w) X.A X.xe none (EP X pins σ Q) acc C) hc S hb I2 T st2 f2 h2 fun D C H' s' m q hn fC I3 => ?_
  exact ⟨m, hn, fun h' hs' => ⟨.ref D, H', I3.turned (t' := s'.toks) (fun b o hb e => (hs'.2 b hb).trans e) fC.1 fC.2.1 fC.2.2.2.1 fC.2.2.2.2.1 fC.2.2.2.2.2, rfl, q⟩⟩

/-- x = [..]: the name is stored ahead of the block's names going -/
def tSetC (i : Nat) (t : TE) : TS := fun D σ H => t σ H fun x H1 => D.nx (σ.set i (some x)) H1
theorem ps_setC {i : Nat} {x : Str} {elt tg iter : Expr} {ifs : List Expr} {scope : Scope} {pos pos' cpos : Pos} {wi : TI} {g : TG} {tt : TT} {te : TE} (own : List Str) (js : List Nat) (hc : X.calm = true) (hN : X.N.Nodup) (hix : X.N[i]? = some x) (hx : X.env.scope.names.lookup x = some .local)
    (S : CompScope X scope js) (hi : PI X tg iter wi)
    (hb : ∀ C s₀ H₀ fp pins, PG (cxC X (nmC X own js) scope C s₀ H₀ fp pins) tg g ∧ PTs (cxC X (nmC X own js) scope C s₀ H₀ fp pins) ifs tt ∧ PE (cxC X (nmC X own js) scope C s₀ H₀ fp pins) elt te)
    (hsw : swapsWith (.ListComp elt [⟨tg, iter, ifs, 0⟩] scope cpos) (some (.Name x pos')) pos.line X.env = pure true := by rfl)
    (hs : ∀ x, foldedSetIterable iter X.env x = pure x := by intro _; rfl) : PS X (.Assign [.Name x pos'] (.ListComp elt [⟨tg, iter, ifs, 0⟩] scope cpos) pos) (tSetC i (tComp own.length js wi g tt te)) := by
  intro pins s σ H D I h
  rw [exec_Assign_Name_used _ _ _ _ hsw]
  refine wpAny_bind (wpAny_standAt (wpAny_bind ?_))
  show wpAny _ X.A (do let _ ← comprehension (.ListComp elt [⟨tg, iter, ifs, 0⟩] scope cpos) scope X.env _ (newList []) false (eval iter X.env) (some (assign (.Name x pos') X.env))) _ _ s
  refine wpAny_bind (thn (wpAny_comprehension_free (use := some (assign (.Name x pos') X.env)) (cl := clOf scope.names X.env.cells) (Q := fun _ s' => SP X pins D .next s') rfl hs (closureFor_of (S.cells I.ok)) S.kind S.names ?_) fun _ s' hq => wpAny_pure (wpAny_pure hq))
  refine thn (hi pins s σ H _ I h) fun v s1 h1 => thn h1 fun itv s2 h2 => ?_
  obtain ⟨it, fp, tn, J, H2, e, I2, T, st2, f2, h2⟩ := h2
  subst e
  refine comp_block (RR := fun acc C => compPost (model X.prog X.w) X.A X.xe (some (assign (.Name x pos') X.env)) (fun _ s' => SP X pins D .next s') acc C) hc S hb I2 T st2 f2 h2 fun D' C H' s' m q hn fC I3 => ?_
  show wpAny _ X.A (assign (.Name x pos') X.env (.ref D')) _ _ _
  refine wpAny_assign_Name (store_ok2 I3 hN hix (.inl hx) (v := .ref D') rfl (fun s'' I4 hch => ?_) (.inr hx))
  obtain ⟨a, hsa, ha⟩ := hch
  have haC : a ≠ C := by
    rcases ha with z | z
    · rw [z]; exact Ne.symm fC.2.1
    · exact fC.2.2.2.2.1 x a z
  exact ⟨m, hn.sameBut hsa (Ne.symm haC), fun h' hs' => ⟨_, H', I4.turned (t' := s''.toks) (fun b o hb e => (hs'.2 b hb).trans e) fC.1 fC.2.1 fC.2.2.2.1 fC.2.2.2.2.1 fC.2.2.2.2.2, q⟩⟩
end
end L2

end

section
namespace L2
open PySem PySem.Spec PyProof.Rows

/-! ### a def by its name -/
structure Df (P : Program) (w : World) (K : PySem.W.Frag) (mg : Str → Option Value) (base : Heap) (x : Str) (k : Nat) (ps : List Str) (sp : Sp) : Prop where
  ex : ∃ f fd, FnOk P w K mg base CX0 k f fd ps sp ∧ Binds K fd ps [] ∧ PySem.W.keepIn K (.ref f) = true ∧ mg x = some (.ref f)
theorem Df.mk' {P : Program} {w : World} {K : PySem.W.Frag} {mg : Str → Option Value} {base : Heap} {x : Str} {k : Nat} {ps : List Str} {sp : Sp} {f : Addr} {fd : FuncData}
    (F : FnOk P w K mg base CX0 k f fd ps sp) (b : Binds K fd ps []) (kp : PySem.W.keepIn K (.ref f) = true) (m : mg x = some (.ref f)) : Df P w K mg base x k ps sp := ⟨f, fd, F, b, kp, m⟩
theorem pe_callD {X : Cx} {k : Nat} {ps : List Str} {sp : Sp} {x : Str} {p pos : Pos} {e : Expr} {es : List Expr} {t : TA} (D : Df X.prog X.w X.K X.mg X.base x k ps sp) (hr : Room k X.A) (hg : Gl X x)
    (ha : PA X (e :: es) t) (hdb : (x == ("__debug__" : Str)) = false := by decide) (he : starEach (e :: es) X.env = (false, eval e X.env) :: starEach es X.env := by rfl) (hpl : (backTo pos (starEach es X.env)).any (·.1) = false := by rfl) :
    PE X (.Call (.Name x p) (e :: es) [] pos) (tCall sp [] E0 t) := by
  obtain ⟨f, fd, F, b, kp, m⟩ := D.ex
  exact pe_call F hr hg m kp b .nil pass0 ha hdb he hpl

/-! ### the scope of a comprehension's block, by a look at closed data -/
def compOk (sc0 scope : Scope) (N : List Str) (js : List Nat) : Bool :=
  decide (scope.kind = .function) && (scope.names.all fun y => decide (y.2 ≠ .cell)) && (scope.names.all fun y => decide (y.2 ≠ .local) || decide (scope.names.lookup y.1 = some .local)) &&
  (scope.names.all fun y => decide (y.2 ≠ .free) || decide (sc0.names.lookup y.1 = some .cell) || decide (sc0.names.lookup y.1 = some .free)) &&
  (js.all fun j => decide (scope.names.lookup (N.getD j "") = some .free) && decide (j < N.length))
theorem comp_scope {X : Cx} {N P : List Str} {sc0 scope : Scope} {js : List Nat} (S : FnScope N P sc0) (hE : X.env.scope = sc0 := by rfl) (hN : X.N = N := by rfl) (h : compOk sc0 scope N js = true := by decide +kernel) : CompScope X scope js := by
  unfold compOk at h
  simp only [Bool.and_eq_true, List.all_eq_true, Bool.or_eq_true, decide_eq_true_eq] at h
  obtain ⟨⟨⟨⟨h1, h2⟩, h3⟩, h4⟩, h5⟩ := h
  refine ⟨h1, h2, fun x hx e => ?_, fun x hx e => ?_, fun j hj => ?_⟩
  · rcases h3 x hx with z | z
    · exact absurd e z
    · exact z
  · have hk : X.env.kindOf x.1 = sc0.names.lookup x.1 := by show X.env.scope.names.lookup x.1 = _; rw [hE]
    rw [hk]
    rcases h4 x hx with (z | z) | z
    · exact absurd e z
    · exact .inl z
    · exact .inr z
  · rw [hN]; exact h5 j hj

theorem nd_c {X : Cx} {N P : List Str} {sc0 scope : Scope} {own : List Str} {js : List Nat} {C : Addr} {s₀ : Shared} {H₀ : Hp} {fp : List Addr} {pins : List (Addr × Obj)} (S : FnScope N P sc0) (h : (own ++ js.map fun j => N.getD j "").Nodup) (hN : X.N = N := by rfl) :
    (cxC X (nmC X own js) scope C s₀ H₀ fp pins).N.Nodup := by
  show (nmC X own js).Nodup
  unfold nmC
  rw [hN]; exact h

/-! ### heaps in short -/
theorem same_new {H : Hp} {p : Addr} (h : H p = none) (o : HO) : Same H (upd H p o) := fun b u q => by rw [upd_ne (ne_of_none q h)]; exact q
theorem Same.at {H H' : Hp} {b : Addr} {o : HO} (S : Same H H') (h : H b = some o) : H' b = some o := S b o h
/-- an object that was not there at H0 is written -/
theorem Same.wr {H0 H : Hp} {l : Addr} (S : Same H0 H) (h : H0 l = none) (o : HO) : Same H0 (upd H l o) := fun b u q => by rw [upd_ne (ne_of_none q h)]; exact S b u q
theorem Same.new {H0 H : Hp} {l : Addr} (S : Same H0 H) (h : H l = none) (o : HO) : Same H0 (upd H l o) := S.trans (same_new h o)

/-! ### the forms of a comprehension's reading -/
section
variable {n : Nat} {js : List Nat} {σ : St} {g : TG} {tt : TT} {te : TE} {H1 : Hp} {Q : VK}
/-- over a list that stays -/
theorem comp_list {K : PySem.W.Frag} {a : Addr} {xs : List V} (Pv : Addr → Nat → List V → Hp → Prop) (hz : xs.length < sizeLine) (h0 : ∀ D, H1 D = none → Pv D 0 [] (upd H1 D (.lst [])))
    (hl : ∀ D i ys H, H1 D = none → i ≤ xs.length → Pv D i ys H → SqL K H a xs ∧ H D = some (.lst ys) ∧ ys.length ≤ i)
    (hs : ∀ D i x ys H, H1 D = none → xs[i]? = some x → Pv D i ys H → Turn1 n js σ g tt te D x ys H (Pv D (i + 1))) (hd : ∀ D ys H, H1 D = none → Pv D xs.length ys H → Q (.ref D) H) : LoopC n js σ g tt te (Itl K a) H1 Q := by
  intro D hD
  refine ⟨fun i m ys H => m = xs.length - i ∧ i ≤ xs.length ∧ Pv D i ys H, ⟨xs.length, by simp, Nat.zero_le _, h0 D hD⟩, ?_⟩
  rintro i m ys H ⟨rfl, hi, p⟩
  obtain ⟨q, q2, q3⟩ := hl D i ys H hD hi p
  refine ⟨q2, ?_⟩
  by_cases hlt : i < xs.length
  · refine .inr ⟨by omega, ⟨xs, xs[i], q, by simp [hlt]⟩, Pv D (i + 1), fun ys' H' p' => ⟨xs.length - (i + 1), by omega, rfl, hlt, p'⟩, fun x H' y => ?_⟩
    obtain ⟨e, y⟩ := y
    subst e
    exact hs D i x ys _ hD (y xs q) p
  · have e : i = xs.length := by omega
    subst e
    exact .inl ⟨⟨xs, q, Nat.le_refl _⟩, hd D ys H hD p⟩
/-- over a range -/
theorem comp_range {lo : Int} {k : Nat} (Pv : Addr → Nat → List V → Hp → Prop) (hz : k < sizeLine) (h0 : ∀ D, H1 D = none → Pv D 0 [] (upd H1 D (.lst [])))
    (hl : ∀ D i ys H, H1 D = none → i ≤ k → Pv D i ys H → H D = some (.lst ys) ∧ ys.length ≤ i)
    (hs : ∀ D i ys H, H1 D = none → i < k → Pv D i ys H → Turn1 n js σ g tt te D (.int (lo + i)) ys H (Pv D (i + 1))) (hd : ∀ D ys H, H1 D = none → Pv D k ys H → Q (.ref D) H) : LoopC n js σ g tt te (Itr lo k) H1 Q := by
  intro D hD
  refine ⟨fun i m ys H => m = k - i ∧ i ≤ k ∧ Pv D i ys H, ⟨k, by simp, Nat.zero_le _, h0 D hD⟩, ?_⟩
  rintro i m ys H ⟨rfl, hi, p⟩
  obtain ⟨q2, q3⟩ := hl D i ys H hD hi p
  refine ⟨q2, ?_⟩
  by_cases hlt : i < k
  · refine .inr ⟨by omega, hlt, Pv D (i + 1), fun ys' H' p' => ⟨k - (i + 1), by omega, rfl, hlt, p'⟩, fun x H' y => ?_⟩
    obtain ⟨e, y⟩ := y
    subst e y
    exact hs D i ys _ hD hlt p
  · have e : i = k := by omega
    subst e
    exact .inl ⟨Nat.le_refl _, hd D ys H hD p⟩
end

/-! ### a range with a step -/
def Itr3 (lo st : Int) (n : Nat) : It := ⟨fun i _ => i < n, fun i H x H' => H' = H ∧ x = .int (lo + i * st), fun i _ => n ≤ i⟩
theorem turn_range3 {P : Program} {w : World} {K : PySem.W.Frag} {tg : Expr} (it : Addr) (lo stp : Int) (n : Nat) : Turn P w K tg (Itr3 lo stp n) [it] it (fun i h => IsRangeIter h it (lo + (i : Nat) * stp) ((n : Int) - (i : Nat)) stp) where
  mem := by simp
  obj := fun i h st b hb => by
    have e : b = it := by simpa using hb
    subst e
    exact ⟨_, st, fun v z => by
      have z' : Data.fields _ = Data.cell v := z
      cases z'⟩
  keep := fun i h h' st k => k it (by simp) _ st
  item := by
    intro X hP hw hK hc i pins s σ H E I hf st hg
    subst hP hw hK
    obtain ⟨f0, f1, f2, f3, f4, f5⟩ := hf it (by simp)
    have W := Walks.range (prog := X.prog) (w := X.w) (I.ok.hd hc) it lo stp n
    refine W.item i s _ _ hg st fun v h' tk hv st' kk => ?_
    obtain ⟨t, rfl⟩ := hv
    have I1 : Inv X pins σ H { s with heap := h', toks := tk } := I.turned (fun b o hb e => kk b o (by simpa using hb) e) f0 f1 f3 f4 f5
    exact ⟨_, rfl, go_of (s := { s with heap := h', toks := tk }) (n := "range_iterator") st' rfl rfl (by decide) ⟨.int (lo + i * stp), H, I1, ⟨t, rfl⟩, ⟨rfl, rfl⟩, st', fun b hb => (hf b hb).1⟩⟩
  done := by
    intro X hP hw hK hc i pins s σ H E I hf st hg
    subst hP hw hK
    obtain ⟨f0, f1, f2, f3, f4, f5⟩ := hf it (by simp)
    exact wpAny_pyNext_range_end (I.ok.hd hc) st (by have : n ≤ i := hg; omega) fun h' eb => ⟨rfl, I.turned (t' := s.toks) (fun b o hb e => eb b o hb e) f0 f1 f3 f4 f5⟩
  self := fun _ _ _ _ _ st h => wpAny_pyIter_rangeiter st h
section
variable {X : Cx} {tg : Expr}
/-- range(0, hi, st), st positive, all small -/
def iRng3 (ta : TA) : TI := fun σ H R => ta σ H fun vs H1 => ∃ j k : Int, vs = [.int 0, .int j, .int k] ∧ (0 ≤ j ∧ j < 1000000 ∧ 0 < k ∧ k < 1000000) ∧ R (Itr3 0 k ((j + k - 1) / k).toNat) H1
theorem pi_range3 {a b c : Expr} {ta : TA} {p pos : Pos} (hg : Gl X "range") (hm : X.mg "range" = none) (ha : PA X [a, b, c] ta) (hs : starEach [a, b, c] X.env = (false, eval a X.env) :: starEach [b, c] X.env := by rfl) (hs2 : (backTo pos (starEach [b, c] X.env)).any (·.1) = false := by rfl) :
    PI X tg (.Call (.Name "range" p) [a, b, c] [] pos) (iRng3 ta) := by
  intro pins s σ H R I h
  refine Call_ (ld_blt I hg hm boot_range (PyProof.Rows.callWith_type1 (thn (ha pos pins s σ H _ I h) fun us s1 ⟨vs, H1, I1, r1, q1⟩ => ?_) hs hs2))
  obtain ⟨j, k, e, ⟨q2, q3, q4, q5⟩, q⟩ := q1
  subst e
  cases r1 with
  | cons r rr =>
    cases rr with
    | cons r' rr =>
      cases rr with
      | cons r'' rr =>
        cases rr
        obtain ⟨t, rfl⟩ := r
        obtain ⟨t', rfl⟩ := r'
        obtain ⟨t'', rfl⟩ := r''
        refine call_range_3 (by omega) ?_ (.inl (PyProof.noPylong_small (by omega)))
        have hsz : Builtin.Range.rangeSize 0 j k = (j + k - 1) / k := rangeSize_pos (by omega) q2
        have hnn : 0 ≤ (j + k - 1) / k := Int.ediv_nonneg (by omega) (by omega)
        have hle : (j + k - 1) / k ≤ j + k - 1 := Int.ediv_le_self _ (by omega)
        have hsm : Builtin.Range.small 0 j k = true := by
          unfold Builtin.Range.small
          rw [hsz]
          simp only [Builtin.Range.rangeFitsLong, Bool.and_eq_true, Bool.or_eq_true, decide_eq_true_eq, beq_iff_eq, show k > 0 from q4, if_true]
          omega
        refine wpAny_pyIter_range (IsRange.new ..) hsm ?_
        have I2 : Inv X pins σ H1 { s1 with heap := s1.heap.push { cls := .type "range", data := .fields #[.int 0 t, .int j t', .int k t''] }, toks := s1.toks } := I1.kept fun b o e => Heap.get?_push_of_some _ e
        refine ⟨(s1.heap.push { cls := .type "range", data := .fields #[.int 0 t, .int j t', .int k t''] }).objs.size, [(s1.heap.push { cls := .type "range", data := .fields #[.int 0 t, .int j t', .int k t''] }).objs.size], _, _, H1, rfl,
          I2.kept (t' := s1.toks) fun b o e => Heap.get?_push_of_some _ e, turn_range3 _ 0 k ((j + k - 1) / k).toNat, ?_, fun b hb => ?_, q⟩
        · have e1 : (0 : Int) + ((0 : Nat) : Int) * k = 0 := by simp
          have e2 : ((((j + k - 1) / k).toNat : Nat) : Int) - ((0 : Nat) : Int) = Builtin.Range.rangeSize 0 j k := by rw [hsz]; omega
          show IsRangeIter _ _ (0 + ((0 : Nat) : Int) * k) (((((j + k - 1) / k).toNat : Nat) : Int) - ((0 : Nat) : Int)) k
          rw [e1, e2]
          exact Heap.get?_push_size _ rfl
        · have e : b = (s1.heap.push { cls := .type "range", data := .fields #[.int 0 t, .int j t', .int k t''] }).objs.size := by simpa using hb
          subst e
          exact I2.fpOk (Nat.le_refl _) (I2.hok.fresh (Nat.le_refl _))
theorem for_range3 {lo st : Int} {n : Nat} {g : TG} {tb : TS} {D : Ends} {σ : St} {H : Hp} (Pv : Nat → St → Hp → Prop) (h0 : Pv 0 σ H)
    (hs : ∀ i σ H, i < n → Pv i σ H → g (.int (lo + i * st)) σ H fun σ2 H2 => tb { D with nx := Pv (i + 1), ct := Pv (i + 1), bk := D.nx } σ2 H2) (hd : ∀ σ H, Pv n σ H → D.nx σ H) :
    ∃ W : Nat → Nat → St → Hp → Prop, (∃ m, W 0 m σ H) ∧ ∀ i m σ H, W i m σ H →
      ((Itr3 lo st n).stop i H ∧ D.nx σ H) ∨ ((Itr3 lo st n).go i H ∧ ∃ N : St → Hp → Prop, (∀ σ' H', N σ' H' → ∃ m', m' < m ∧ W (i + 1) m' σ' H') ∧ ∀ x H', (Itr3 lo st n).yld i H x H' → g x σ H' fun σ2 H2 => tb { D with nx := N, ct := N, bk := D.nx } σ2 H2) := by
  refine ⟨fun i m σ H => m = n - i ∧ i ≤ n ∧ Pv i σ H, ⟨n, by simp, Nat.zero_le _, h0⟩, ?_⟩
  rintro i m σ H ⟨rfl, hi, p⟩
  by_cases hlt : i < n
  · refine .inr ⟨hlt, Pv (i + 1), fun σ' H' p' => ⟨n - (i + 1), by omega, rfl, hlt, p'⟩, fun x H' y => ?_⟩
    obtain ⟨e, y⟩ := y
    subst e y
    exact hs i σ _ hlt p
  · have e : i = n := by omega
    subst e
    exact .inl ⟨Nat.le_refl _, hd σ H p⟩
end

/-! ### a, b = a list -/
section
variable {prog : Program} {w : World} {A : Around} {E : Value → Shared → Prop}
theorem draw_list {it t : Addr} {items : Array Value} (hne : t ≠ it) : ∀ (n i : Nat) (s : Shared) (Q : List Value → Shared → Prop), s.heap.IsListIter it t i → s.heap.IsList t items → i + n ≤ items.size →
    (∀ h', h'.IsListIter it t (i + n) → Heap.SameBut it s.heap h' → Q ((items.toList.drop i).take n) { s with heap := h' }) → wpAny (model prog w) A (draw (.ref it) n) Q E s
  | 0, i, s, Q, hit, _, _, hQ => by
    show wpAny _ _ (pure []) Q E s
    exact wpAny_pure (by simpa using hQ s.heap hit (Heap.SameBut.refl ..))
  | n + 1, i, s, Q, hit, ht, hle, hQ => by
    have hlt : i < items.size := by omega
    show wpAny _ _ (pyNext (.ref it) >>= _) Q E s
    refine wpAny_bind (wpAny_pyNext_list_item hit ht (x := items[i]) (by simp [hlt]) fun h₁ hit₁ hs₁ => ?_)
    refine wpAny_bind (wpAny_holding (draw_list hne n (i + 1) _ _ hit₁ (ht.extBut hs₁.extBut hne) (by omega) fun h₂ hit₂ hs₂ => wpAny_pure ?_))
    have hd : items.toList.drop i = items[i] :: items.toList.drop (i + 1) := by simp [List.drop_eq_getElem_cons, hlt]
    have := hQ h₂ (by rw [show i + (n + 1) = i + 1 + n by omega]; exact hit₂) (hs₁.trans hs₂)
    rw [hd, List.take_succ_cons] at this
    exact this
theorem unpackItems_list {s : Shared} {t : Addr} {items : Array Value} {Q : List Value → Shared → Prop} (hh : A.handled = none) (ht : s.heap.IsList t items)
    (hQ : ∀ h', Heap.ExtBut s.heap.objs.size s.heap h' → Q items.toList { s with heap := h' }) : wpAny (model prog w) A (unpackItems (.ref t) items.size none) Q E s := by
  have hlt : t ≠ s.heap.objs.size := by obtain ⟨o, ho, _⟩ := ht; exact Nat.ne_of_lt (Heap.lt_size ho)
  unfold unpackItems
  refine wpAny_bind ?_
  unfold notIterableAtAll
  refine wpAny_bind (wpAny_specialOf ht.typeIs slot_list_iter.lookup ?_)
  refine wpAny_pure ?_
  simp only [Bool.false_eq_true, if_false]
  refine wpAny_bind (wpAny_holding (wpAny_pyIter_list ht ?_))
  have hp : (s.heap.push { cls := .type "list_iterator", data := .fields #[.ref t, .int 0 0] }).IsList t items := ht.at fun o e => Heap.get?_push_of_some _ e
  refine wpAny_bind (wpAny_holding (draw_list hlt items.size 0 _ _ ⟨_, Heap.get?_push_size _ rfl, rfl, rfl⟩ hp (by omega) fun h₁ hit₁ hs₁ => ?_))
  have hall : List.take items.size (List.drop 0 items.toList) = items.toList := by
    rw [List.drop_zero]; exact List.take_of_length_le (by simp)
  rw [hall]
  rw [if_neg (by simp)]
  have ht₁ : h₁.IsList t items := hp.extBut hs₁.extBut hlt
  refine wpAny_bind (wpAny_holding (wpAny_pyNext_list_end hh hit₁ ht₁ (by simp) fun h₂ he₂ => ?_))
  simp only [Option.isSome_none, Bool.false_eq_true, if_false]
  exact wpAny_pure (hQ h₂ fun b o hb e => he₂ b o hb (hs₁.extBut b o hb (Heap.get?_push_of_some _ e)))
end
section
variable {X : Cx} {pos : Pos}
def gLst (K : PySem.W.Frag) (n : Nat) (t : TGs) : TG := fun v σ H Q => ∃ a xs, v = .ref a ∧ SqL K H a xs ∧ xs.length = n ∧ t xs σ H Q
theorem pg_lst {es : List Expr} {k : Nat} {t : TGs} {n : Nat} (hc : X.calm = true) (h : PGs X es t)
    (hn : (assignEach es X.env).length = n := by rfl) (hst : (assignEach es X.env).findIdx? (·.1) = none := by rfl) : PG X (.Tuple es k pos) (gLst X.K n t) := by
  intro pins s σ H v u Q I r hw
  obtain ⟨a, xs, e1, hq, hl, hw⟩ := hw
  subst e1
  cases r
  obtain ⟨its, rv, ht, hz⟩ := I.list hq
  rw [assign_Tuple]
  refine wpAny_bind (wpAny_standAt ?_)
  unfold unpack
  rw [hst, show (assignEach es X.env).length = its.toArray.size by simp [hn, ← hl, rv.length]]
  refine wpAny_bind (wpAny_holding (unpackItems_list (I.ok.hd hc) ht.isList fun h' hx => ?_))
  have I1 : Inv X pins σ H { s with heap := h' } := I.kept (t' := s.toks) fun b o e => hx b o (Nat.ne_of_lt (Heap.lt_size e)) e
  exact h pins _ σ H xs _ Q I1 (by simpa using rv) hw
end

/-! ### isinstance, of values whose type is known -/
section
variable {X : Cx}
/-- what a class is as a value -/
def clsV : V → Option Value
  | .ty n => some (.type n)
  | .ref a => some (.ref a)
  | _ => none
/-- isinstance(x, c): c a built-in type or a class of the text -/
def rIsI (K : PySem.W.Frag) : List V → Hp → VK → Prop := fun xs H Q => ∃ x c cv t b, xs = [x, c] ∧ clsV c = some cv ∧ TyOf K H x t ∧ PySem.W.kitOne K t cv = some b ∧ Q (.bl b) H
theorem call_isinstance : CallR X (.builtin "isinstance") (rIsI X.K) := by
  intro pins s σ H xs us Q I r h
  obtain ⟨x, c, cv, t, b, rfl, rc, ty, e, q⟩ := h
  obtain ⟨u, u', rfl, ru, ru'⟩ := vals2 r
  have ec : u' = cv := by
    cases c with
    | ty n => cases ru'; exact Option.some.inj rc
    | ref a => cases ru'; exact Option.some.inj rc
    | _ => cases rc
  subst ec
  exact isinst_ok I ru ty e fun tk => ⟨.bl b, H, I.tok _, rfl, q⟩
end
end L2

end

section
namespace L2
open PySem PySem.Spec PyProof.Rows

/-! ### a reading put in the place of another -/
theorem PSs.cut {X : Cx} {st : List Stmt} {t : TS} (t' : TS) (h : PSs X st t) (f : ∀ D σ H, t' D σ H → t D σ H) : PSs X st t' := fun pins s σ H D I hw => h pins s σ H D I (f D σ H hw)
theorem PS.cut {X : Cx} {st : Stmt} {t : TS} (t' : TS) (h : PS X st t) (f : ∀ D σ H, t' D σ H → t D σ H) : PS X st t' := fun pins s σ H D I hw => h pins s σ H D I (f D σ H hw)
theorem PT.cut {X : Cx} {e : Expr} {t : TT} (t' : TT) (h : PT X e t) (f : ∀ σ H Q, t' σ H Q → t σ H Q) : PT X e t' := fun pins s σ H Q I hw => h pins s σ H Q I (f σ H Q hw)
theorem PE.cut {X : Cx} {e : Expr} {t : TE} (t' : TE) (h : PE X e t) (f : ∀ σ H Q, t' σ H Q → t σ H Q) : PE X e t' := fun pins s σ H Q I hw => h pins s σ H Q I (f σ H Q hw)

/-! ### tests over ints -/
theorem iteI {a b : Int} {A B : Prop} (h1 : a = b → A) (h2 : a ≠ b → B) : if decide (V.int a = V.int b) = true then A else B := by
  by_cases h : a = b
  · rw [if_pos (by rw [h]; exact decide_eq_true rfl)]; exact h1 h
  · rw [if_neg (by intro z; have := of_decide_eq_true z; injection this with e; exact h e)]; exact h2 h
theorem iteIn {a b : Int} {A B : Prop} (h1 : a ≠ b → A) (h2 : a = b → B) : if (!decide (V.int a = V.int b)) = true then A else B := by
  by_cases h : a = b
  · rw [if_neg (by rw [h]; simp)]; exact h2 h
  · rw [if_pos (by simp [h])]; exact h1 h
theorem decI {a b : Int} : decide (V.int a = V.int b) = decide (a = b) := by
  by_cases h : a = b
  · subst h; rw [decide_eq_true rfl, decide_eq_true rfl]
  · rw [decide_eq_false h, decide_eq_false (fun z => h (by injection z))]
theorem iteD {c A B : Prop} [Decidable c] (h1 : c → A) (h2 : ¬ c → B) : if decide c = true then A else B := by
  by_cases h : c
  · rw [if_pos (decide_eq_true h)]; exact h1 h
  · rw [if_neg (by rw [decide_eq_false h]; exact Bool.false_ne_true)]; exact h2 h

/-! ### triples of ints (deeds) -/
abbrev D3 := Int × Int × Int
def tupV (d : D3) : List V := [.int d.1, .int d.2.1, .int d.2.2]
/-- the value v is a tuple of the three -/
def T3 (H : Hp) (v : V) (d : D3) : Prop := ∃ a, v = .ref a ∧ H a = some (.tup (tupV d))
theorem T3.same {H H' : Hp} {v : V} {d : D3} (S : Same H H') (h : T3 H v d) : T3 H' v d := let ⟨a, e, q⟩ := h; ⟨a, e, S _ _ q⟩

theorem bitOr_pp {x y : Int} (hx : 0 ≤ x) (hy : 0 ≤ y) : Builtin.bitOr x y = ((x.toNat ||| y.toNat : Nat) : Int) := by
  rw [bitOr_and, bitAnd_pp hx hy]
  have e := nat_or_add_and x.toNat y.toNat
  omega
theorem and_ne {a b : Nat} (ha : a < 2 ^ 60) : (a &&& b ≠ 0) ↔ ∃ k, k < 60 ∧ a / 2 ^ k % 2 = 1 ∧ b / 2 ^ k % 2 = 1 := by
  constructor
  · intro h
    obtain ⟨k, hk⟩ := Nat.exists_testBit_of_ne_zero h
    rw [Nat.testBit_and, Bool.and_eq_true] at hk
    refine ⟨k, ?_, ?_, ?_⟩
    · refine Nat.lt_of_not_le fun hle => ?_
      have : a.testBit k = false := Nat.testBit_lt_two_pow (Nat.lt_of_lt_of_le ha (Nat.pow_le_pow_right (by decide) hle))
      rw [this] at hk; exact Bool.noConfusion hk.1
    · have := hk.1; rw [Nat.testBit_eq_decide_div_mod_eq] at this; exact of_decide_eq_true this
    · have := hk.2; rw [Nat.testBit_eq_decide_div_mod_eq] at this; exact of_decide_eq_true this
  · rintro ⟨k, _, h1, h2⟩ h0
    have : (a &&& b).testBit k = true := by
      rw [Nat.testBit_and, Nat.testBit_eq_decide_div_mod_eq, Nat.testBit_eq_decide_div_mod_eq, decide_eq_true h1, decide_eq_true h2]; rfl
    rw [h0, Nat.zero_testBit] at this; exact Bool.noConfusion this
theorem or_bit {a b k : Nat} : (a ||| b) / 2 ^ k % 2 = 1 ↔ a / 2 ^ k % 2 = 1 ∨ b / 2 ^ k % 2 = 1 := by
  have h : (a ||| b).testBit k = (a.testBit k || b.testBit k) := Nat.testBit_or ..
  rw [Nat.testBit_eq_decide_div_mod_eq, Nat.testBit_eq_decide_div_mod_eq, Nat.testBit_eq_decide_div_mod_eq] at h
  rw [← decide_eq_true_iff (p := (a ||| b) / 2 ^ k % 2 = 1), h, Bool.or_eq_true, decide_eq_true_iff, decide_eq_true_iff]

/-! ### the program's own clash -/
/-- a box that d changes is looked at or changed by e -/
def distB (d e : D3) : Bool := !decide (V.int (Builtin.bitAnd d.2.2 (Builtin.bitOr e.2.1 e.2.2)) = V.int 0)
def clashB (d e : D3) : Bool := distB d e || distB e d
def spDisturbs : Sp := fun vs H Q _ => ∃ x y d e, vs = [x, y] ∧ T3 H x d ∧ T3 H y e ∧ Q (.bl (distB d e)) H
def spClash : Sp := fun vs H Q _ => ∃ x y d e, vs = [x, y] ∧ T3 H x d ∧ T3 H y e ∧ Q (.bl (clashB d e)) H
theorem at3_0 {a b c : V} : atI [a, b, c] 0 = some a := rfl
theorem at3_1 {a b c : V} : atI [a, b, c] 1 = some b := rfl
theorem at3_2 {a b c : V} : atI [a, b, c] 2 = some c := rfl
theorem at2_0 {a b : V} : atI [a, b] 0 = some a := rfl
theorem at2_1 {a b : V} : atI [a, b] 1 = some b := rfl
end L2

end

section
namespace L2
open PySem PySem.Spec PyProof.Rows

/-! ### several records turn, a new object is laid -/
section
variable {X : Cx} {pins : List (Addr × Obj)} {σ : St} {H : Hp} {s : Shared} {h' : Heap} {ch : List Addr}
theorem Inv.turnedL {t' : Nat} (I : Inv X pins σ H s) (hch : ∀ b ∈ ch, FpOk X pins H b) (k : ∀ b u, b ∉ ch → s.heap.get? b = some u → h'.get? b = some u) : Inv X pins σ H { s with heap := h', toks := t' } := by
  have nit : ∀ b u, H b = some u → b ∉ ch := fun b u e z => by rw [(hch b z).1] at e; cases e
  refine I.step (g' := s.gens) (d' := s.drawn) (ch := ch) (fun b hb => ⟨(hch b hb).2.2.2.1, (hch b hb).2.1, (hch b hb).2.2.2.2.1, (hch b hb).2.2.2.2.2⟩) (fun b o _ _ hc e _ => k b o hc e) (fun b o _ _ hc e _ => ⟨o.slots, k b o hc e⟩) (fun _ _ _ _ n => n)
    (fun b o hc e => ⟨o, k b o hc e⟩) (fun _ _ e => e) (fun _ _ _ e => e) (fun b ps e => ⟨#[], by rw [e]; simp⟩) (fun m hm => ?_) (fun b u e => ?_) I.bare
  · obtain ⟨o, es, ep, ho, r⟩ := hm
    exact ⟨o, es, ep, k _ o (fun z => (hch _ z).2.1 rfl) ho, r⟩
  · refine (I.hok b u e).stay (fun c v hc q => k c v ?_ q) (fun _ q => q) fun _ _ q => q
    rcases hc with z | z
    · rw [z]; exact nit b u e
    · exact nit c _ z
theorem Inv.turnedNew {a : Addr} {o : HO} {t' : Nat} (I : Inv X pins σ H s) (hch : ∀ b ∈ ch, FpOk X pins H b) (k : ∀ b u, b ∉ ch → s.heap.get? b = some u → h'.get? b = some u) (ha : s.heap.objs.size ≤ a)
    (new : ObjOk X.prog X.w (upd H a o) h' a o) : Inv X pins σ (upd H a o) { s with heap := h', toks := t' } := by
  have nit : ∀ b u, H b = some u → b ∉ ch := fun b u e z => by rw [(hch b z).1] at e; cases e
  have hn : H a = none := I.hok.fresh ha
  have ne : ∀ b u, s.heap.get? b = some u → b ≠ a := fun b u e => Nat.ne_of_lt (Nat.lt_of_lt_of_le (Heap.lt_size e) ha)
  have up : ∀ b u, H b = some u → upd H a o b = some u := fun b u e => by rw [upd_ne (ne_of_none e hn)]; exact e
  refine I.step (g' := s.gens) (d' := s.drawn) (ch := ch) (fun b hb => ⟨(hch b hb).2.2.2.1, (hch b hb).2.1, (hch b hb).2.2.2.2.1, (hch b hb).2.2.2.2.2⟩) (fun b o _ _ hc e _ => k b o hc e) (fun b o _ _ hc e _ => ⟨o.slots, k b o hc e⟩)
    (fun b u _ e n => by rw [upd_ne (ne b u e)]; exact n) (fun b o hc e => ⟨o, k b o hc e⟩) (fun b xs e => up b _ e) (fun b _ _ e => up b _ e) (fun b ps e => ⟨#[], by rw [up b _ e]; simp⟩) (fun m hm => ?_) (fun b u e => ?_) I.bare
  · obtain ⟨o, es, ep, ho, r⟩ := hm
    exact ⟨o, es, ep, k _ o (fun z => (hch _ z).2.1 rfl) ho, r⟩
  · by_cases hb : b = a
    · subst hb; rw [upd_same] at e; cases e; exact new
    · rw [upd_ne hb] at e
      refine (I.hok b u e).stay (fun c v hc q => k c v ?_ q) (fun c q => up c _ q) fun c xs q => up c _ q
      rcases hc with z | z
      · rw [z]; exact nit b u e
      · exact nit c _ z
end

/-! ### a sequence's own iterator, as zip draws from it -/
structure SeqKind where
  Seq : Heap → Addr → Array Value → Prop
  It : Heap → Addr → Addr → Nat → Prop
  sq : PySem.W.Frag → Hp → Addr → List V → Prop
  seqAt : ∀ {h h' : Heap} {a : Addr} {xs : Array Value}, Seq h a xs → (∀ o, h.get? a = some o → h'.get? a = some o) → Seq h' a xs
  itAt : ∀ {h h' : Heap} {i a : Addr} {k : Nat}, It h i a k → (∀ o, h.get? i = some o → h'.get? i = some o) → It h' i a k
  seqO : ∀ {h : Heap} {a : Addr} {xs : Array Value}, Seq h a xs → ∃ o, h.get? a = some o
  itO : ∀ {h : Heap} {i a : Addr} {k : Nat}, It h i a k → ∃ o, h.get? i = some o ∧ ∀ v, o.data ≠ .cell v
  next : ∀ {prog : Program} {w : World} {A : Around} {E : Value → Shared → Prop} {s : Shared} {i a : Addr} {k : Nat} {xs : Array Value} {x : Value} {Q : Value → Shared → Prop}, It s.heap i a k → Seq s.heap a xs → xs[k]? = some x →
    (∀ h', It h' i a (k + 1) → Heap.SameBut i s.heap h' → Q x { s with heap := h' }) → wpAny (model prog w) A (Builtin.SmallTypes.nextOf (.ref i)) Q E s
  stop : ∀ {prog : Program} {w : World} {A : Around} {E : Value → Shared → Prop} {s : Shared} {i a : Addr} {k : Nat} {xs : Array Value} {Q : Value → Shared → Prop}, A.handled = none → It s.heap i a k → Seq s.heap a xs → xs[k]? = none →
    (∀ h' e, Heap.ExtBut i s.heap h' → (∃ o, h'.get? e = some o ∧ o.cls = .type "StopIteration") → E (.ref e) { s with heap := h' }) → wpAny (model prog w) A (Builtin.SmallTypes.nextOf (.ref i)) Q E s
  read : ∀ {X : Cx} {pins : List (Addr × Obj)} {σ : St} {H : Hp} {s : Shared} {a : Addr} {xs : List V}, Inv X pins σ H s → sq X.K H a xs → ∃ its : List Value, Vals xs its ∧ Seq s.heap a its.toArray
  inj : ∀ {X : Cx} {pins : List (Addr × Obj)} {σ : St} {H : Hp} {s : Shared} {a : Addr} {xs ys : List V}, Inv X pins σ H s → sq X.K H a xs → sq X.K H a ys → xs = ys

theorem tupIt_at {h h' : Heap} {i a : Addr} {k : Nat} (x : h.IsTupleIter i a k) (e : ∀ o, h.get? i = some o → h'.get? i = some o) : h'.IsTupleIter i a k := let ⟨o, ho, r⟩ := x; ⟨o, e _ ho, r⟩
theorem tup_at {h h' : Heap} {a : Addr} {xs : Array Value} (x : h.IsTuple a xs) (e : ∀ o, h.get? a = some o → h'.get? a = some o) : h'.IsTuple a xs := let ⟨o, ho, r⟩ := x; ⟨o, e _ ho, r⟩
section
variable {prog : Program} {w : World} {A : Around} {E : Value → Shared → Prop} {s : Shared}
theorem nextOf_tup_item {it t : Addr} {i : Nat} {items : Array Value} {x : Value} {Q : Value → Shared → Prop} (hit : s.heap.IsTupleIter it t i) (ht : s.heap.IsTuple t items) (hx : items[i]? = some x)
    (hQ : ∀ h', h'.IsTupleIter it t (i + 1) → Heap.SameBut it s.heap h' → Q x { s with heap := h' }) : wpAny (model prog w) A (Builtin.SmallTypes.nextOf (.ref it)) Q E s := by
  obtain ⟨o, ho, hc, hd⟩ := id hit
  obtain ⟨ot, hot, _, nt, hdt⟩ := ht
  unfold Builtin.SmallTypes.nextOf
  refine wpAny_bind (wpAny_callSpecial?_slot (name := Str.ofString "__next__") hit.typeIs F.slot_tuple_iterator_next (wpAny_call_entry F.slot_tuple_iterator_next hit.typeIs F.entry_tuple_iterator_next ?_ (F.args_tuple_iterator_next_1 _)))
  show wpAny _ _ (field (.ref it) 0 >>= _) _ _ s; refine wpAny_bind (wpAny_field ho hd (x := .ref t) rfl ?_)
  show wpAny _ _ (if (Value.ref t == Value.none) = true then _ else _) _ _ s; rw [if_neg (show ¬ ((Value.ref t == Value.none) = true) from Bool.false_ne_true)]
  show wpAny _ _ (field (.ref it) 1 >>= _) _ _ s; refine wpAny_bind (wpAny_field ho hd (x := .int i 0) rfl ?_)
  show wpAny _ _ (seqItems? (.ref t) >>= _) _ _ s; refine wpAny_bind (wpAny_seqItems hot hdt ?_)
  simp only [Int.toNat_natCast, hx]
  refine wpAny_bind (wpAny_setField ho hd (by simp) (wpAny_pure ⟨x, rfl, wpAny_pure (hQ _ ⟨_, Heap.get?_update_self _ ho (Obj.isFreed_of_fields (Obj.data_mapFields hd _)), (Obj.cls_mapFields ..).trans hc, by rw [Obj.data_mapFields hd]; simp [rawInt]⟩ (Heap.SameBut.update ..))⟩))
theorem nextOf_tup_end {it t : Addr} {i : Nat} {items : Array Value} {Q : Value → Shared → Prop} (hh : A.handled = none) (hit : s.heap.IsTupleIter it t i) (ht : s.heap.IsTuple t items) (hx : items[i]? = none)
    (hE : ∀ h' e, Heap.ExtBut it s.heap h' → (∃ o, h'.get? e = some o ∧ o.cls = .type "StopIteration") → E (.ref e) { s with heap := h' }) : wpAny (model prog w) A (Builtin.SmallTypes.nextOf (.ref it)) Q E s := by
  obtain ⟨o, ho, hc, hd⟩ := id hit
  obtain ⟨ot, hot, _, nt, hdt⟩ := ht
  unfold Builtin.SmallTypes.nextOf
  refine wpAny_bind (wpAny_callSpecial?_slot (name := Str.ofString "__next__") hit.typeIs F.slot_tuple_iterator_next (wpAny_call_entry F.slot_tuple_iterator_next hit.typeIs F.entry_tuple_iterator_next ?_ (F.args_tuple_iterator_next_1 _)))
  show wpAny _ _ (field (.ref it) 0 >>= _) _ _ s; refine wpAny_bind (wpAny_field ho hd (x := .ref t) rfl ?_)
  show wpAny _ _ (if (Value.ref t == Value.none) = true then _ else _) _ _ s; rw [if_neg (show ¬ ((Value.ref t == Value.none) = true) from Bool.false_ne_true)]
  show wpAny _ _ (field (.ref it) 1 >>= _) _ _ s; refine wpAny_bind (wpAny_field ho hd (x := .int i 0) rfl ?_)
  show wpAny _ _ (seqItems? (.ref t) >>= _) _ _ s; refine wpAny_bind (wpAny_seqItems hot hdt ?_)
  simp only [Int.toNat_natCast, hx]
  refine wpAny_bind (wpAny_rule (wpAny_bind (wpAny_setField ho hd (by simp) ?_)))
  show wpAny _ _ (newExc (.type "StopIteration") [] >>= _) _ _ _; refine wpAny_bind ?_; simp only [newExc, newTuple]
  refine wpAny_bind (wpAny_newObj_type ?_ (by size_fits)); refine wpAny_bind (m := firstArgMember _ _) (wpAny_of_eq (a := Value.none) (by first | rfl | (simp only [firstArgMember]; rfl)) ?_)
  refine wpAny_newObj_type ?_ (by size_fits); simp only [raiseNew]; refine wpAny_bind (wpAny_handled ?_)
  first | rw [show A.in1.handled = none from hh] | rw [hh]
  refine wpAny_bind (wpAny_pure (wpAny_throw (hE _ _ (((Heap.SameBut.update ..).extBut.push _).push _) ⟨_, Heap.get?_push_size _ rfl, rfl⟩)))
end
/-- lists -/
def kL : SeqKind where
  Seq := fun h a xs => h.IsList a xs
  It := fun h i a k => h.IsListIter i a k
  sq := SqL
  seqAt := fun x e => x.at e
  itAt := fun x e => x.at e
  seqO := fun ⟨o, e, _⟩ => ⟨o, e⟩
  itO := fun ⟨o, e, _, d⟩ => ⟨o, e, fun v z => by rw [d] at z; cases z⟩
  next := fun h1 h2 h3 h4 => wpAny_nextOf_list_item h1 h2 h3 h4
  stop := fun h0 h1 h2 h3 h4 => wpAny_nextOf_list_end h0 h1 h2 h3 h4
  read := fun I h => let ⟨its, r, p, _⟩ := I.list h; ⟨its, r, p.isList⟩
  inj := fun I h h' => I.list_inj h h'
/-- tuples -/
def kT : SeqKind where
  Seq := fun h a xs => h.IsTuple a xs
  It := fun h i a k => h.IsTupleIter i a k
  sq := SqT
  seqAt := fun x e => tup_at x e
  itAt := fun x e => tupIt_at x e
  seqO := fun ⟨o, e, _⟩ => ⟨o, e⟩
  itO := fun ⟨o, e, _, d⟩ => ⟨o, e, fun v z => by rw [d] at z; cases z⟩
  next := fun h1 h2 h3 h4 => nextOf_tup_item h1 h2 h3 h4
  stop := fun h0 h1 h2 h3 h4 => nextOf_tup_end h0 h1 h2 h3 h4
  read := fun I h => let ⟨its, r, p, _⟩ := I.tuple h; ⟨its, r, p⟩
  inj := fun I h h' => I.tuple_inj h h'

/-! ### zip of two sequences of a kind -/
section
variable {prog : Program} {w : World} {A : Around} {E : Value → Shared → Prop} {s : Shared} (k : SeqKind)
theorem zipK_item {z TI TO i1 i2 l1 l2 : Addr} {n1 n2 : Nat} {xs ys : Array Value} {x y a b : Value} {Q : Option Value → Shared → Prop} (D : ZipApart z TI TO i1 i2 l1 l2)
    (hz : IsZip s.heap z TI TO .none) (hTI : IsPair s.heap TI (.ref i1) (.ref i2)) (hTO : IsPair s.heap TO a b) (h1 : k.It s.heap i1 l1 n1) (h2 : k.It s.heap i2 l2 n2) (hl1 : k.Seq s.heap l1 xs) (hl2 : k.Seq s.heap l2 ys)
    (hx : xs[n1]? = some x) (hy : ys[n2]? = some y)
    (hQ : ∀ h', IsZip h' z TI TO (rawInt s.heap.objs.size) → IsPair h' TO x y → k.It h' i1 l1 (n1 + 1) → k.It h' i2 l2 (n2 + 1) → IsPair h' s.heap.objs.size x y → h'.objs.size = s.heap.objs.size + 1 →
      (∀ c o, c ≠ z → c ≠ TO → c ≠ i1 → c ≠ i2 → s.heap.get? c = some o → h'.get? c = some o) → Q (some (.ref s.heap.objs.size)) { s with heap := h' }) :
    wpAny (model prog w) A (pyNext (.ref z)) Q E s := by
  have hT : s.TypeIs (.ref z) "zip" := ⟨_, hz, rfl⟩
  unfold pyNext
  refine wpAny_bind (wpAny_attempt (wpAny_callSpecial?_slot (name := Str.ofString "__next__") hT F.slot_zip_next (wpAny_call_entry F.slot_zip_next hT F.entry_zip_next ?_ (F.args_zip_next_1 _))))
  show wpAny _ _ (field (.ref z) 2 >>= _) _ _ _; refine wpAny_bind (wpAny_field hz rfl (x := .bool false) rfl ?_)
  show wpAny _ _ (field (.ref z) 3 >>= _) _ _ _; refine wpAny_bind (wpAny_field hz rfl (x := .ref TI) rfl (wpAny_bind (wpAny_seqItems hTI rfl ?_)))
  show wpAny _ _ (Builtin.SmallTypes.ownedTupleIsFree (.ref z) >>= _) _ _ _; refine wpAny_bind ?_; unfold Builtin.SmallTypes.ownedTupleIsFree
  refine wpAny_bind (wpAny_field hz rfl (x := .none) rfl (wpAny_pure ?_)); simp only [if_true]
  refine wpAny_bind (wpAny_rule (wpAny_bind (wpAny_field hz rfl (x := .ref TO) rfl (wpAny_bind (wpAny_setField_rec hz (by simp) fun g1 z1 s1 => ?_)))))
  replace z1 : IsZip g1 z TI TO .ellipsis := z1
  refine wpAny_bind ?_; simp only [List.zipIdx_cons, List.zipIdx_nil, List.forIn_cons, List.forIn_nil]
  refine wpAny_bind (wpAny_bind (wpAny_onRaise ?_))
  show wpAny _ _ (Builtin.SmallTypes.nextOf (.ref i1) >>= _) _ _ _
  refine wpAny_bind (k.next (k.itAt h1 fun o e => s1.extBut _ _ D.i1z e) (k.seqAt hl1 fun o e => s1.extBut _ _ D.l1z e) hx fun g2 it2 s2 => wpAny_pure ?_)
  have TO2 : IsPair g2 TO a b := s2.extBut _ _ D.TOi1 (s1.extBut _ _ D.TOz hTO)
  refine wpAny_bind (wpAny_seqItems TO2 rfl (wpAny_bind (wpAny_updateSeq_pair TO2 fun g3 TO3 s3 => ?_)))
  replace TO3 : IsPair g3 TO x b := TO3
  refine wpAny_bind (wpAny_letGo (wpAny_pure ?_)); refine wpAny_bind (wpAny_bind (wpAny_onRaise ?_))
  show wpAny _ _ (Builtin.SmallTypes.nextOf (.ref i2) >>= _) _ _ _
  refine wpAny_bind (k.next (k.itAt h2 fun o e => s3.extBut _ _ D.TOi2.symm (s2.extBut _ _ D.i12.symm (s1.extBut _ _ D.i2z e))) (k.seqAt hl2 fun o e => s3.extBut _ _ D.l2TO (s2.extBut _ _ D.l2i1 (s1.extBut _ _ D.l2z e))) hy fun g4 it4 s4 => wpAny_pure ?_)
  have TO4 : IsPair g4 TO x b := s4.extBut _ _ D.TOi2 TO3
  refine wpAny_bind (wpAny_seqItems TO4 rfl (wpAny_bind (wpAny_updateSeq_pair TO4 fun g5 TO5 s5 => ?_)))
  replace TO5 : IsPair g5 TO x y := TO5
  refine wpAny_bind (wpAny_letGo (wpAny_pure (wpAny_pure ?_))); refine wpAny_bind (wpAny_seqItems TO5 rfl (wpAny_bind (wpAny_newTuple ?_)))
  have sz : g5.objs.size = s.heap.objs.size := by rw [s5.1, s4.1, s3.1, s2.1, s1.1]
  have z5 : IsZip g5 z TI TO .ellipsis := s5.extBut _ _ D.TOz.symm (s4.extBut _ _ D.i2z.symm (s3.extBut _ _ D.TOz.symm (s2.extBut _ _ D.i1z.symm z1)))
  have k5 : ∀ c o, c ≠ z → c ≠ TO → c ≠ i1 → c ≠ i2 → s.heap.get? c = some o → g5.get? c = some o := fun c o c1 c2 c3 c4 e => s5.extBut _ _ c2 (s4.extBut _ _ c4 (s3.extBut _ _ c2 (s2.extBut _ _ c3 (s1.extBut _ _ c1 e))))
  have it15 : k.It g5 i1 l1 (n1 + 1) := k.itAt it2 fun o e => s5.extBut _ _ D.TOi1.symm (s4.extBut _ _ D.i12 (s3.extBut _ _ D.TOi1.symm e))
  have it25 : k.It g5 i2 l2 (n2 + 1) := k.itAt it4 fun o e => s5.extBut _ _ D.TOi2.symm e
  have zlt : z < g5.objs.size := Heap.lt_size z5
  show wpAny _ _ (Builtin.SmallTypes.ownedTupleHandOut (.ref z) (.ref g5.objs.size) >>= _) _ _ _; refine wpAny_bind ?_; unfold Builtin.SmallTypes.ownedTupleHandOut
  have z6 : IsZip (g5.push { cls := .type "tuple", data := .seq #[x, y] }) z TI TO .ellipsis := Heap.get?_push_of_some _ z5
  refine wpAny_bind (wpAny_setField_rec z6 (by simp) fun g7 z7 s7 => ?_)
  replace z7 : IsZip g7 z TI TO (rawInt g5.objs.size) := z7
  refine wpAny_setField_rec z7 (by simp) fun g8 z8 s8 => ?_
  replace z8 : IsZip g8 z TI TO (rawInt g5.objs.size) := z8
  have up : ∀ c o, c ≠ z → g5.get? c = some o → g8.get? c = some o := fun c o c1 e => s8.extBut _ _ c1 (s7.extBut _ _ c1 (Heap.get?_push_of_some _ e))
  have T8 : IsPair g8 g5.objs.size x y := s8.extBut _ _ (Nat.ne_of_gt zlt) (s7.extBut _ _ (Nat.ne_of_gt zlt) (Heap.get?_push_size _ rfl))
  have sz8 : g8.objs.size = g5.objs.size + 1 := by rw [s8.1, s7.1, Heap.size_push]
  rw [sz] at z8 T8 sz8
  refine wpAny_pure ⟨_, rfl, wpAny_pure ?_⟩
  show Q (some (.ref g5.objs.size)) _; rw [sz]
  exact hQ g8 z8 (up _ _ D.TOz TO5) (k.itAt it15 fun o e => up _ o D.i1z e) (k.itAt it25 fun o e => up _ o D.i2z e) T8 sz8 fun c o c1 c2 c3 c4 e => up c o c1 (k5 c o c1 c2 c3 c4 e)
theorem zipK_end {z TI TO i1 i2 l1 l2 : Addr} {n1 n2 : Nat} {xs ys : Array Value} {a b : Value} {Q : Option Value → Shared → Prop} (hh : A.handled = none) (D : ZipApart z TI TO i1 i2 l1 l2)
    (hz : IsZip s.heap z TI TO .none) (hTI : IsPair s.heap TI (.ref i1) (.ref i2)) (hTO : IsPair s.heap TO a b) (h1 : k.It s.heap i1 l1 n1) (h2 : k.It s.heap i2 l2 n2) (hl1 : k.Seq s.heap l1 xs) (hl2 : k.Seq s.heap l2 ys)
    (hend : xs[n1]? = none ∨ ys[n2]? = none) (hQ : ∀ h', (∀ c o, c ≠ z → c ≠ TO → c ≠ i1 → c ≠ i2 → s.heap.get? c = some o → h'.get? c = some o) → Q none { s with heap := h' }) : wpAny (model prog w) A (pyNext (.ref z)) Q E s := by
  have hT : s.TypeIs (.ref z) "zip" := ⟨_, hz, rfl⟩
  unfold pyNext
  refine wpAny_bind (wpAny_attempt (wpAny_callSpecial?_slot (name := Str.ofString "__next__") hT F.slot_zip_next (wpAny_call_entry F.slot_zip_next hT F.entry_zip_next ?_ (F.args_zip_next_1 _))))
  have fin : ∀ (h' : Heap) (e : Addr), (∀ c o, c ≠ z → c ≠ TO → c ≠ i1 → c ≠ i2 → s.heap.get? c = some o → h'.get? c = some o) → (∃ o, h'.get? e = some o ∧ o.cls = .type "StopIteration") →
      wpAny (model prog w) A (isInstance (.ref e) (.type "StopIteration") >>= fun t => if t = true then pure none else throw (.ref e)) Q E { s with heap := h' } := fun h' e hk ⟨o, ho, hc⟩ =>
    wpAny_bind (wpAny_isInstance (T := "StopIteration") (b := true) ⟨o, ho, hc⟩ isSubtype_stop (wpAny_pure (hQ _ hk)))
  show wpAny _ _ (field (.ref z) 2 >>= _) _ _ _; refine wpAny_bind (wpAny_field hz rfl (x := .bool false) rfl ?_)
  show wpAny _ _ (field (.ref z) 3 >>= _) _ _ _; refine wpAny_bind (wpAny_field hz rfl (x := .ref TI) rfl (wpAny_bind (wpAny_seqItems hTI rfl ?_)))
  show wpAny _ _ (Builtin.SmallTypes.ownedTupleIsFree (.ref z) >>= _) _ _ _; refine wpAny_bind ?_; unfold Builtin.SmallTypes.ownedTupleIsFree
  refine wpAny_bind (wpAny_field hz rfl (x := .none) rfl (wpAny_pure ?_)); simp only [if_true]
  refine wpAny_bind (wpAny_rule (wpAny_bind (wpAny_field hz rfl (x := .ref TO) rfl (wpAny_bind (wpAny_setField_rec hz (by simp) fun g1 z1 s1 => ?_)))))
  replace z1 : IsZip g1 z TI TO .ellipsis := z1
  refine wpAny_bind ?_; simp only [List.zipIdx_cons, List.zipIdx_nil, List.forIn_cons, List.forIn_nil]
  refine wpAny_bind (wpAny_bind (wpAny_onRaise ?_))
  show wpAny _ _ (Builtin.SmallTypes.nextOf (.ref i1) >>= _) _ _ _
  cases hx : xs[n1]? with
  | none =>
    refine wpAny_bind (k.stop hh (k.itAt h1 fun o e => s1.extBut _ _ D.i1z e) (k.seqAt hl1 fun o e => s1.extBut _ _ D.l1z e) hx fun g2 e s2 he => ?_)
    obtain ⟨oe, hoe, hce⟩ := he
    have z2 : IsZip g2 z TI TO .ellipsis := s2 _ _ D.i1z.symm z1
    have ez : e ≠ z := fun q => by subst q; rw [z2] at hoe; cases hoe; simp at hce
    refine wpAny_setField_rec z2 (by simp) fun g3 _ s3 => ?_
    exact fin g3 e (fun c o c1 _ c3 _ q => s3.extBut _ _ c1 (s2 _ _ c3 (s1.extBut _ _ c1 q))) ⟨oe, s3.extBut _ _ ez hoe, hce⟩
  | some x =>
    have hy : ys[n2]? = none := by rcases hend with q | q; (rw [hx] at q; cases q); exact q
    refine wpAny_bind (k.next (k.itAt h1 fun o e => s1.extBut _ _ D.i1z e) (k.seqAt hl1 fun o e => s1.extBut _ _ D.l1z e) hx fun g2 it2 s2 => wpAny_pure ?_)
    have TO2 : IsPair g2 TO a b := s2.extBut _ _ D.TOi1 (s1.extBut _ _ D.TOz hTO)
    refine wpAny_bind (wpAny_seqItems TO2 rfl (wpAny_bind (wpAny_updateSeq_pair TO2 fun g3 TO3 s3 => ?_)))
    refine wpAny_bind (wpAny_letGo (wpAny_pure ?_)); refine wpAny_bind (wpAny_bind (wpAny_onRaise ?_))
    show wpAny _ _ (Builtin.SmallTypes.nextOf (.ref i2) >>= _) _ _ _
    refine wpAny_bind (k.stop hh (k.itAt h2 fun o e => s3.extBut _ _ D.TOi2.symm (s2.extBut _ _ D.i12.symm (s1.extBut _ _ D.i2z e))) (k.seqAt hl2 fun o e => s3.extBut _ _ D.l2TO (s2.extBut _ _ D.l2i1 (s1.extBut _ _ D.l2z e))) hy fun g4 e s4 he => ?_)
    obtain ⟨oe, hoe, hce⟩ := he
    have z4 : IsZip g4 z TI TO .ellipsis := s4 _ _ D.i2z.symm (s3.extBut _ _ D.TOz.symm (s2.extBut _ _ D.i1z.symm z1))
    have ez : e ≠ z := fun q => by subst q; rw [z4] at hoe; cases hoe; simp at hce
    refine wpAny_setField_rec z4 (by simp) fun g5 _ s5 => ?_
    exact fin g5 e (fun c o c1 c2 c3 c4 q => s5.extBut _ _ c1 (s4 _ _ c4 (s3.extBut _ _ c2 (s2.extBut _ _ c3 (s1.extBut _ _ c1 q))))) ⟨oe, s5.extBut _ _ ez hoe, hce⟩
end

/-- at turn i: the pair of the i-th items, a new tuple -/
def Itz (k : SeqKind) (K : PySem.W.Frag) (a b : Addr) : It :=
  ⟨fun i H => ∃ xs ys x y, k.sq K H a xs ∧ k.sq K H b ys ∧ xs[i]? = some x ∧ ys[i]? = some y,
   fun i H v H' => ∃ p x y, v = .ref p ∧ H p = none ∧ H' = upd H p (.tup [x, y]) ∧ (∀ xs, k.sq K H a xs → xs[i]? = some x) ∧ ∀ ys, k.sq K H b ys → ys[i]? = some y,
   fun i H => ∃ xs ys, k.sq K H a xs ∧ k.sq K H b ys ∧ (xs.length ≤ i ∨ ys.length ≤ i)⟩
theorem turn_zip (k : SeqKind) {P : Program} {w : World} {K : PySem.W.Frag} {es : List Expr} {x1 : Nat} {tpos : Pos} {z TI TO i1 i2 a b : Addr} (D : ZipApart z TI TO i1 i2 a b) :
    Turn P w K (.Tuple es x1 tpos) (Itz k K a b) [z, TI, TO, i1, i2] z (fun i h => IsZip h z TI TO .none ∧ IsPair h TI (.ref i1) (.ref i2) ∧ (∃ u v, IsPair h TO u v) ∧ k.It h i1 a i ∧ k.It h i2 b i) where
  mem := by simp
  obj := fun i h st c hc => by
    obtain ⟨h1, h2, ⟨u, v, h3⟩, h4, h5⟩ := st
    simp only [List.mem_cons, List.not_mem_nil, or_false] at hc
    rcases hc with rfl | rfl | rfl | rfl | rfl
    · exact ⟨_, h1, fun v z => by cases z⟩
    · exact ⟨_, h2, fun v z => by cases z⟩
    · exact ⟨_, h3, fun v z => by cases z⟩
    · exact k.itO h4
    · exact k.itO h5
  keep := fun i h h' st kp => by
    obtain ⟨h1, h2, ⟨u, v, h3⟩, h4, h5⟩ := st
    exact ⟨kp z (by simp) _ h1, kp TI (by simp) _ h2, ⟨u, v, kp TO (by simp) _ h3⟩, k.itAt h4 fun o e => kp i1 (by simp) o e, k.itAt h5 fun o e => kp i2 (by simp) o e⟩
  item := by
    intro X hP hw hK hc i pins s σ H E I hf st hg
    subst hP hw hK
    obtain ⟨h1, h2, ⟨u, v, h3⟩, h4, h5⟩ := st
    obtain ⟨xs, ys, x, y, q1, q2, e1, e2⟩ := hg
    obtain ⟨its1, r1, p1⟩ := k.read I q1
    obtain ⟨its2, r2, p2⟩ := k.read I q2
    obtain ⟨u1, hu1, ru1⟩ := r1.get e1
    obtain ⟨u2, hu2, ru2⟩ := r2.get e2
    refine zipK_item k D h1 h2 h3 h4 h5 p1 p2 (x := u1) (y := u2) (by simpa using hu1) (by simpa using hu2) fun h' a1 a2 a3 a4 a5 a6 hk => ⟨_, rfl, ?_⟩
    refine wpAny_letOwnedTupleGo_zip a1 fun h'' b1 b2 => ?_
    have hfp : ∀ c ∈ [z, TO, i1, i2], FpOk X pins H c := fun c hc => hf c (by simp only [List.mem_cons, List.not_mem_nil, or_false] at hc ⊢; rcases hc with q | q | q | q <;> simp [q])
    have lz : z < s.heap.objs.size := Heap.lt_size h1
    have up : ∀ c o, c ∉ [z, TO, i1, i2] → s.heap.get? c = some o → h''.get? c = some o := fun c o hc e => by
      simp only [List.mem_cons, List.not_mem_nil, or_false, not_or] at hc
      exact b2.extBut _ _ hc.1 (hk c o hc.1 hc.2.1 hc.2.2.1 hc.2.2.2 e)
    have T2 : IsPair h'' s.heap.objs.size u1 u2 := b2.extBut _ _ (Nat.ne_of_gt lz) a5
    have I2 : Inv X pins σ (upd H s.heap.objs.size (.tup [x, y])) { s with heap := h'', toks := s.toks } := I.turnedNew hfp up (Nat.le_refl _) ⟨by simp only [List.length_cons, List.length_nil]; rw [sizeLine_eq]; decide, [u1, u2], .cons ru1 (.cons ru2 .nil), ⟨_, T2, rfl, _, rfl⟩⟩
    refine ⟨.ref s.heap.objs.size, _, I2, rfl, ⟨_, x, y, rfl, I.fresh, rfl, fun xs' q => by rw [k.inj I q q1]; exact e1, fun ys' q => by rw [k.inj I q q2]; exact e2⟩, ⟨b1, up TI _ ?_ h2, ⟨_, _, b2.extBut _ _ D.TOz a2⟩, k.itAt a3 fun o e => b2.extBut _ _ D.i1z e, k.itAt a4 fun o e => b2.extBut _ _ D.i2z e⟩, fun c hc => ?_⟩
    · simp only [List.mem_cons, List.not_mem_nil, or_false, not_or]
      exact ⟨D.TIz, D.TITO, D.TIi1, D.TIi2⟩
    · have hlt : c < s.heap.objs.size := by
        simp only [List.mem_cons, List.not_mem_nil, or_false] at hc
        rcases hc with rfl | rfl | rfl | rfl | rfl
        · exact Heap.lt_size h1
        · exact Heap.lt_size h2
        · exact Heap.lt_size h3
        · obtain ⟨o, e, _⟩ := k.itO h4; exact Heap.lt_size e
        · obtain ⟨o, e, _⟩ := k.itO h5; exact Heap.lt_size e
      rw [upd_ne (Nat.ne_of_lt hlt)]; exact (hf c hc).1
  done := by
    intro X hP hw hK hc i pins s σ H E I hf st hg
    subst hP hw hK
    obtain ⟨h1, h2, ⟨u, v, h3⟩, h4, h5⟩ := st
    obtain ⟨xs, ys, q1, q2, e⟩ := hg
    obtain ⟨its1, r1, p1⟩ := k.read I q1
    obtain ⟨its2, r2, p2⟩ := k.read I q2
    have hfp : ∀ c ∈ [z, TO, i1, i2], FpOk X pins H c := fun c hc => hf c (by simp only [List.mem_cons, List.not_mem_nil, or_false] at hc ⊢; rcases hc with q | q | q | q <;> simp [q])
    refine zipK_end k (I.ok.hd hc) D h1 h2 h3 h4 h5 p1 p2 ?_ fun h' hk => ⟨rfl, I.turnedL (t' := s.toks) hfp fun c o hc e => ?_⟩
    · have l1 := r1.length
      have l2 := r2.length
      rcases e with q | q
      · exact .inl (by simp; omega)
      · exact .inr (by simp; omega)
    · simp only [List.mem_cons, List.not_mem_nil, or_false, not_or] at hc
      exact hk c o hc.1 hc.2.1 hc.2.2.1 hc.2.2.2 e
  self := fun _ _ _ _ _ st h => wpAny_pyIter_zip st.1 h
end L2

end

section
namespace L2
open PySem PySem.Spec PyProof.Rows

theorem bt_len : bootBuiltins "len" = some (.builtin "len") := by decide +kernel
theorem bt_isinstance : bootBuiltins "isinstance" = some (.builtin "isinstance") := by decide +kernel
theorem bt_max : bootBuiltins "max" = some (.builtin "max") := by decide +kernel
theorem bt_min : bootBuiltins "min" = some (.builtin "min") := by decide +kernel
theorem bt_sorted : bootBuiltins "sorted" = some (.builtin "sorted") := by decide +kernel
theorem bt_int : bootBuiltins "int" = some (.type "int") := by decide +kernel
theorem bt_bool : bootBuiltins "bool" = some (.type "bool") := by decide +kernel
theorem bt_list : bootBuiltins "list" = some (.type "list") := by decide +kernel
theorem bt_tuple : bootBuiltins "tuple" = some (.type "tuple") := by decide +kernel
theorem bt_zip : bootBuiltins "zip" = some (.type "zip") := by decide +kernel

theorem sm {n : Nat} (h : Nat.ble n 1000 = true) : n ≤ sizeLine := Nat.le_of_lt (small1000 (Nat.le_of_ble_eq_true h))
theorem new_at {H : Hp} {p b : Addr} {o u : HO} (h : H p = none) (q : H b = some u) : upd H p o b = some u := same_new h o b u q
/-! ### steps of a reading -/
theorem rdT {K : PySem.W.Frag} {H : Hp} {p : Addr} {xs : List V} {i : Int} {v : V} {Q : VK} (h : H p = some (.tup xs)) (e : atI xs i = some v) (q : Q v H) : rIxT K (.ref p) (.int i) H Q := ⟨p, xs, i, v, rfl, rfl, SqT.of h, e, q⟩
theorem rdL {K : PySem.W.Frag} {H : Hp} {p : Addr} {xs : List V} {i : Int} {v : V} {Q : VK} (h : H p = some (.lst xs)) (e : atI xs i = some v) (q : Q v H) : rIxL K (.ref p) (.int i) H Q := ⟨p, xs, i, v, rfl, rfl, SqL.of h, e, q⟩
theorem rdS {K : PySem.W.Frag} {H : Hp} {p : Addr} {xs : List V} {i : Int} {v : V} {Q : VK} (h : SqL K H p xs) (e : atI xs i = some v) (q : Q v H) : rIxL K (.ref p) (.int i) H Q := ⟨p, xs, i, v, rfl, rfl, h, e, q⟩

theorem rdLen {K : PySem.W.Frag} {H : Hp} {p : Addr} {xs : List V} {Q : VK} (h : H p = some (.lst xs)) (q : Q (.int xs.length) H) : (fun xs H Q => ∃ p ys, xs = [.ref p] ∧ (SqL K H p ys ∨ SqT K H p ys) ∧ Q (.int ys.length) H : List V → Hp → VK → Prop) [.ref p] H Q := ⟨p, xs, rfl, .inl (SqL.of h), q⟩

/-! ### zip(a, b) in a for or a comprehension, the target a tuple -/
section
variable {prog : Program} {w : World} {A : Around} {E : Value → Shared → Prop} {s : Shared}
abbrev zt1 (h : Heap) (l1 : Addr) : Heap := h.push { cls := .type "tuple_iterator", data := .fields #[.ref l1, .int 0 0] }
abbrev zt2 (h : Heap) (l1 l2 : Addr) : Heap := (zt1 h l1).push { cls := .type "tuple_iterator", data := .fields #[.ref l2, .int 0 0] }
abbrev zt3 (h : Heap) (l1 l2 : Addr) : Heap := (zt2 h l1 l2).push { cls := .type "tuple", data := .seq #[.ref h.objs.size, .ref (zt1 h l1).objs.size] }
abbrev zt4 (h : Heap) (l1 l2 : Addr) : Heap := (zt3 h l1 l2).push { cls := .type "tuple", data := .seq #[.none, .none] }
abbrev zt5 (h : Heap) (l1 l2 : Addr) : Heap := (zt4 h l1 l2).push { cls := .type "zip", data := .fields #[.none, .bool false, .bool false, .ref (zt2 h l1 l2).objs.size, .ref (zt3 h l1 l2).objs.size] }
theorem meets_zipT (l1 l2 : Addr) (xs ys : Array Value) : Meets (Builtin.«zip.__new__» ⟨[.type "zip", .ref l1, .ref l2], []⟩) (fun _ R s => s.heap.IsTuple l1 xs ∧ s.heap.IsTuple l2 ys ∧
    R (.ok (.ret (.ref (zt4 s.heap l1 l2).objs.size))) { s with heap := zt5 s.heap l1 l2 }) :=
  .of_wp fun prog w A R s h => by
    obtain ⟨hp, g, d, tk, os⟩ := s; obtain ⟨q1, q2, h⟩ := h
    have hsub := sub_zip
    have p1 : Heap.IsTuple (Shared.heap ⟨hp, g, d, tk, os⟩) l1 xs := q1
    have p2 : Heap.IsTuple (Shared.heap ⟨hp.push { cls := .type "tuple_iterator", data := .fields #[.ref l1, .int 0 0] }, g, d, tk, os⟩) l2 ys := Heap.IsTuple.push q2 _
    wp_walk using wpAny_pyIter_tuple p1, wpAny_pyIter_tuple p2
    exact ⟨_, rfl, h⟩
theorem call_zipT {l1 l2 : Addr} {xs ys : Array Value} {Q : Value → Shared → Prop} (q1 : s.heap.IsTuple l1 xs) (q2 : s.heap.IsTuple l2 ys)
    (h : ∀ h', IsZip h' (s.heap.objs.size + 4) (s.heap.objs.size + 2) (s.heap.objs.size + 3) .none → IsPair h' (s.heap.objs.size + 2) (.ref s.heap.objs.size) (.ref (s.heap.objs.size + 1)) →
      IsPair h' (s.heap.objs.size + 3) .none .none → h'.IsTupleIter s.heap.objs.size l1 0 → h'.IsTupleIter (s.heap.objs.size + 1) l2 0 →
      (∀ c o, s.heap.get? c = some o → h'.get? c = some o) → Q (.ref (s.heap.objs.size + 4)) { s with heap := h' }) : wpAny (model prog w) A (call (.type "zip") [.ref l1, .ref l2]) Q E s := by
  refine callType_new F.called_zip (by decide) (F.typeCall_zip_2 _ _) (F.newCall_zip_2 _ _) (fun obj => F.args_object_init_3 obj _ _) F.entry_zip_new (meets_zipT l1 l2 xs ys) ⟨q1, q2, ?_⟩
  have z1 : (zt1 s.heap l1).objs.size = s.heap.objs.size + 1 := Heap.size_push ..
  have z2 : (zt2 s.heap l1 l2).objs.size = s.heap.objs.size + 2 := by rw [Heap.size_push, z1]
  have z3 : (zt3 s.heap l1 l2).objs.size = s.heap.objs.size + 3 := by rw [Heap.size_push, z2]
  have z4 : (zt4 s.heap l1 l2).objs.size = s.heap.objs.size + 4 := by rw [Heap.size_push, z3]
  have u4 : ∀ c o, (zt4 s.heap l1 l2).get? c = some o → (zt5 s.heap l1 l2).get? c = some o := fun c o q => Heap.get?_push_of_some _ q
  have u3 : ∀ c o, (zt3 s.heap l1 l2).get? c = some o → (zt5 s.heap l1 l2).get? c = some o := fun c o q => u4 c o (Heap.get?_push_of_some _ q)
  have u2 : ∀ c o, (zt2 s.heap l1 l2).get? c = some o → (zt5 s.heap l1 l2).get? c = some o := fun c o q => u3 c o (Heap.get?_push_of_some _ q)
  have u1 : ∀ c o, (zt1 s.heap l1).get? c = some o → (zt5 s.heap l1 l2).get? c = some o := fun c o q => u2 c o (Heap.get?_push_of_some _ q)
  have a5 : (zt5 s.heap l1 l2).get? (zt4 s.heap l1 l2).objs.size = some { cls := .type "zip", data := .fields #[.none, .bool false, .bool false, .ref (zt2 s.heap l1 l2).objs.size, .ref (zt3 s.heap l1 l2).objs.size] } := Heap.get?_push_size _ rfl
  have a4 : (zt5 s.heap l1 l2).get? (zt3 s.heap l1 l2).objs.size = some { cls := .type "tuple", data := .seq #[.none, .none] } := u4 _ _ (Heap.get?_push_size _ rfl)
  have a3 : (zt5 s.heap l1 l2).get? (zt2 s.heap l1 l2).objs.size = some { cls := .type "tuple", data := .seq #[.ref s.heap.objs.size, .ref (zt1 s.heap l1).objs.size] } := u3 _ _ (Heap.get?_push_size _ rfl)
  have a2 : (zt5 s.heap l1 l2).get? (zt1 s.heap l1).objs.size = some { cls := .type "tuple_iterator", data := .fields #[.ref l2, .int 0 0] } := u2 _ _ (Heap.get?_push_size _ rfl)
  have a1 : (zt5 s.heap l1 l2).get? s.heap.objs.size = some { cls := .type "tuple_iterator", data := .fields #[.ref l1, .int 0 0] } := u1 _ _ (Heap.get?_push_size _ rfl)
  show _ ∧ _
  rw [z2, z3, z4] at a5
  rw [z3] at a4
  rw [z1, z2] at a3
  rw [z1] at a2
  rw [z4]
  exact ⟨⟨_, a5, rfl⟩, h _ a5 a3 a4 ⟨_, a1, rfl, rfl⟩ ⟨_, a2, rfl, rfl⟩ fun c o q => u1 c o (Heap.get?_push_of_some _ q)⟩
end
section
variable {X : Cx} {es : List Expr} {x1 : Nat} {tpos : Pos}
def iZip (k : SeqKind) (K : PySem.W.Frag) (ta : TA) : TI := fun σ H R => ta σ H fun vs H1 => ∃ a b xs ys, vs = [.ref a, .ref b] ∧ k.sq K H1 a xs ∧ k.sq K H1 b ys ∧ R (Itz k K a b) H1
theorem zip_it {k : SeqKind} {pins : List (Addr × Obj)} {σ : St} {H : Hp} {s : Shared} {R : It → Hp → Prop} {E : Value → Shared → Prop} {a b : Addr} {h' : Heap} (I : Inv X pins σ H s) (la : a < s.heap.objs.size) (lb : b < s.heap.objs.size)
    (hz : IsZip h' (s.heap.objs.size + 4) (s.heap.objs.size + 2) (s.heap.objs.size + 3) .none) (hTI : IsPair h' (s.heap.objs.size + 2) (.ref s.heap.objs.size) (.ref (s.heap.objs.size + 1))) (hTO : IsPair h' (s.heap.objs.size + 3) .none .none)
    (h1 : k.It h' s.heap.objs.size a 0) (h2 : k.It h' (s.heap.objs.size + 1) b 0) (kp : ∀ c o, s.heap.get? c = some o → h'.get? c = some o) (q : R (Itz k X.K a b) H) :
    wpAny (model X.prog X.w) X.A (pyIter (.ref (s.heap.objs.size + 4))) (PIE X pins σ (.Tuple es x1 tpos) R) E { s with heap := h' } := by
  refine wpAny_pyIter_zip hz ⟨s.heap.objs.size + 4, [s.heap.objs.size + 4, s.heap.objs.size + 2, s.heap.objs.size + 3, s.heap.objs.size, s.heap.objs.size + 1], _, _, H, rfl, I.kept (t' := s.toks) kp, turn_zip k (zipApart_new la lb), ⟨hz, hTI, ⟨_, _, hTO⟩, h1, h2⟩, fun c hc => ?_, q⟩
  have hle : s.heap.objs.size ≤ c := by
    simp only [List.mem_cons, List.not_mem_nil, or_false] at hc
    rcases hc with rfl | rfl | rfl | rfl | rfl
    · exact Nat.le_add_right _ 4
    · exact Nat.le_add_right _ 2
    · exact Nat.le_add_right _ 3
    · exact Nat.le_refl _
    · exact Nat.le_add_right _ 1
  exact I.fpOk hle (I.hok.fresh hle)
theorem pi_zip {a b : Expr} {ta : TA} {p pos : Pos} (hg : Gl X "zip") (hm : X.mg "zip" = none) (ha : PA X [a, b] ta) (hs : starEach [a, b] X.env = (false, eval a X.env) :: starEach [b] X.env := by rfl) (hs2 : (backTo pos (starEach [b] X.env)).any (·.1) = false := by rfl) :
    PI X (.Tuple es x1 tpos) (.Call (.Name "zip" p) [a, b] [] pos) (iZip kL X.K ta) := by
  intro pins s σ H R I h
  refine Call_ (ld_blt I hg hm bt_zip (PyProof.Rows.callWith_type1 (thn (ha pos pins s σ H _ I h) fun us s1 ⟨vs, H1, I1, r1, q1⟩ => ?_) hs hs2))
  obtain ⟨c, d, xs, ys, rfl, e1, e2, q⟩ := q1
  obtain ⟨u, u', rfl, ru, ru'⟩ := vals2 r1
  cases ru; cases ru'
  obtain ⟨its1, _, p1⟩ := kL.read I1 e1
  obtain ⟨its2, _, p2⟩ := kL.read I1 e2
  obtain ⟨_, g1⟩ := kL.seqO p1
  obtain ⟨_, g2⟩ := kL.seqO p2
  exact call_zip_2 p1 p2 fun h' hz hTI hTO h1 h2 _ kp => zip_it (k := kL) I1 (Heap.lt_size g1) (Heap.lt_size g2) hz hTI hTO h1 h2 kp q
theorem pi_zipT {a b : Expr} {ta : TA} {p pos : Pos} (hg : Gl X "zip") (hm : X.mg "zip" = none) (ha : PA X [a, b] ta) (hs : starEach [a, b] X.env = (false, eval a X.env) :: starEach [b] X.env := by rfl) (hs2 : (backTo pos (starEach [b] X.env)).any (·.1) = false := by rfl) :
    PI X (.Tuple es x1 tpos) (.Call (.Name "zip" p) [a, b] [] pos) (iZip kT X.K ta) := by
  intro pins s σ H R I h
  refine Call_ (ld_blt I hg hm bt_zip (PyProof.Rows.callWith_type1 (thn (ha pos pins s σ H _ I h) fun us s1 ⟨vs, H1, I1, r1, q1⟩ => ?_) hs hs2))
  obtain ⟨c, d, xs, ys, rfl, e1, e2, q⟩ := q1
  obtain ⟨u, u', rfl, ru, ru'⟩ := vals2 r1
  cases ru; cases ru'
  obtain ⟨its1, _, p1⟩ := kT.read I1 e1
  obtain ⟨its2, _, p2⟩ := kT.read I1 e2
  obtain ⟨_, g1⟩ := kT.seqO p1
  obtain ⟨_, g2⟩ := kT.seqO p2
  exact call_zipT p1 p2 fun h' hz hTI hTO h1 h2 kp => zip_it (k := kT) I1 (Heap.lt_size g1) (Heap.lt_size g2) hz hTI hTO h1 h2 kp q
/-- lists, or tuples -/
theorem PI.or {tg iter : Expr} {w1 w2 : TI} (h1 : PI X tg iter w1) (h2 : PI X tg iter w2) : PI X tg iter (fun σ H R => w1 σ H R ∨ w2 σ H R) := fun pins s σ H R I h => h.elim (h1 pins s σ H R I) (h2 pins s σ H R I)
theorem pi_zip2 {a b : Expr} {ta : TA} {p pos : Pos} (hg : Gl X "zip") (hm : X.mg "zip" = none) (ha : PA X [a, b] ta) (hs : starEach [a, b] X.env = (false, eval a X.env) :: starEach [b] X.env := by rfl) (hs2 : (backTo pos (starEach [b] X.env)).any (·.1) = false := by rfl) :
    PI X (.Tuple es x1 tpos) (.Call (.Name "zip" p) [a, b] [] pos) (fun σ H R => iZip kL X.K ta σ H R ∨ iZip kT X.K ta σ H R) := (pi_zip hg hm ha hs hs2).or (pi_zipT hg hm ha hs hs2)
end

/-! ### the forms: a for, a comprehension over zip(a, b) of sequences that stay -/
theorem for_zip {k : SeqKind} {K : PySem.W.Frag} {a b : Addr} {xs ys : List V} {g : TG} {tb : TS} {D : Ends} {σ : St} {H : Hp} (Pv : Nat → St → Hp → Prop) (h0 : Pv 0 σ H) (hl : ∀ i σ H, i ≤ min xs.length ys.length → Pv i σ H → k.sq K H a xs ∧ k.sq K H b ys)
    (hs : ∀ i x y p σ H, xs[i]? = some x → ys[i]? = some y → H p = none → Pv i σ H → g (.ref p) σ (upd H p (.tup [x, y])) fun σ2 H2 => tb { D with nx := Pv (i + 1), ct := Pv (i + 1), bk := D.nx } σ2 H2) (hd : ∀ σ H, Pv (min xs.length ys.length) σ H → D.nx σ H) :
    ∃ W : Nat → Nat → St → Hp → Prop, (∃ m, W 0 m σ H) ∧ ∀ i m σ H, W i m σ H →
      ((Itz k K a b).stop i H ∧ D.nx σ H) ∨ ((Itz k K a b).go i H ∧ ∃ N : St → Hp → Prop, (∀ σ' H', N σ' H' → ∃ m', m' < m ∧ W (i + 1) m' σ' H') ∧ ∀ x H', (Itz k K a b).yld i H x H' → g x σ H' fun σ2 H2 => tb { D with nx := N, ct := N, bk := D.nx } σ2 H2) := by
  refine ⟨fun i m σ H => m = min xs.length ys.length - i ∧ i ≤ min xs.length ys.length ∧ Pv i σ H, ⟨min xs.length ys.length, by simp, Nat.zero_le _, h0⟩, ?_⟩
  rintro i m σ H ⟨rfl, hi, p⟩
  obtain ⟨q1, q2⟩ := hl i σ H hi p
  by_cases hlt : i < min xs.length ys.length
  · have h1 : i < xs.length := by omega
    have h2 : i < ys.length := by omega
    refine .inr ⟨⟨xs, ys, xs[i], ys[i], q1, q2, by simp [h1], by simp [h2]⟩, Pv (i + 1), fun σ' H' p' => ⟨min xs.length ys.length - (i + 1), by omega, rfl, hlt, p'⟩, fun v H' y => ?_⟩
    obtain ⟨c, x, y, rfl, hc, rfl, e1, e2⟩ := y
    exact hs i x y c σ H (e1 xs q1) (e2 ys q2) hc p
  · have e : i = min xs.length ys.length := by omega
    subst e
    exact .inl ⟨⟨xs, ys, q1, q2, by omega⟩, hd σ H p⟩
theorem comp_zip {n : Nat} {js : List Nat} {σ : St} {g : TG} {tt : TT} {te : TE} {H1 : Hp} {Q : VK} {k : SeqKind} {K : PySem.W.Frag} {a b : Addr} {xs ys : List V} (Pv : Addr → Nat → List V → Hp → Prop) (hz : xs.length < sizeLine) (h0 : ∀ D, H1 D = none → Pv D 0 [] (upd H1 D (.lst [])))
    (hl : ∀ D i zs H, H1 D = none → i ≤ min xs.length ys.length → Pv D i zs H → (k.sq K H a xs ∧ k.sq K H b ys) ∧ H D = some (.lst zs) ∧ zs.length ≤ i)
    (hs : ∀ D i x y p zs H, H1 D = none → xs[i]? = some x → ys[i]? = some y → H p = none → Pv D i zs H → Turn1 n js σ g tt te D (.ref p) zs (upd H p (.tup [x, y])) (Pv D (i + 1))) (hd : ∀ D zs H, H1 D = none → Pv D (min xs.length ys.length) zs H → Q (.ref D) H) :
    LoopC n js σ g tt te (Itz k K a b) H1 Q := by
  intro D hD
  refine ⟨fun i m zs H => m = min xs.length ys.length - i ∧ i ≤ min xs.length ys.length ∧ Pv D i zs H, ⟨min xs.length ys.length, by simp, Nat.zero_le _, h0 D hD⟩, ?_⟩
  rintro i m zs H ⟨rfl, hi, p⟩
  obtain ⟨⟨q1, q2⟩, q3, q4⟩ := hl D i zs H hD hi p
  refine ⟨q3, ?_⟩
  by_cases hlt : i < min xs.length ys.length
  · have h1 : i < xs.length := by omega
    have h2 : i < ys.length := by omega
    refine .inr ⟨by omega, ⟨xs, ys, xs[i], ys[i], q1, q2, by simp [h1], by simp [h2]⟩, Pv D (i + 1), fun zs' H' p' => ⟨min xs.length ys.length - (i + 1), by omega, rfl, hlt, p'⟩, fun v H' y => ?_⟩
    obtain ⟨c, x, y, rfl, hc, rfl, e1, e2⟩ := y
    exact hs D i x y c zs H hD (e1 xs q1) (e2 ys q2) hc p
  · have e : i = min xs.length ys.length := by omega
    subst e
    exact .inl ⟨⟨xs, ys, q1, q2, by omega⟩, hd D zs H hD p⟩
end L2

end

section
namespace L2
open PySem PySem.Spec PyProof.Rows

/-! ### comprehensions of ints over a list of ints, one name -/
theorem drop_set0 {α : Type} (l : List α) (v : α) : (l.set 0 v).drop 1 = l.drop 1 := by cases l <;> rfl
theorem comp_ints {K : PySem.W.Frag} {js : List Nat} {σ : St} {te : TE} {H : Hp} {a : Addr} {Q : VK} (f : Int → Int) (xs : List Int) (hz : xs.length < sizeLine) (hS : SqL K H a (xs.map V.int))
    (hte : ∀ x ∈ xs, ∀ H' Q', Same H H' → Q' (.int (f x)) H' → te ((stC 1 js σ).set 0 (some (.int x))) H' Q') (q : ∀ D, H D = none → Q (.ref D) (upd H D (.lst ((xs.map f).map V.int)))) : LoopC 1 js σ (gName 0) tYes te (Itl K a) H Q := by
  refine comp_list (xs := xs.map V.int) (fun D i ys H' => H' = upd H D (.lst ys) ∧ ys = ((xs.take i).map f).map V.int) (by rw [List.length_map]; exact hz) (fun D hD => ⟨rfl, rfl⟩) (fun D i ys H' hD hi h => ?_) (fun D i x ys H' hD hx h => ?_) fun D ys H' hD h => ?_
  · obtain ⟨rfl, rfl⟩ := h
    refine ⟨(same_new hD _).seq hS, upd_same, ?_⟩
    rw [List.length_map, List.length_map, List.length_take]; omega
  · obtain ⟨rfl, rfl⟩ := h
    rw [List.getElem?_map] at hx
    cases hi : xs[i]? with
    | none => rw [hi] at hx; cases hx
    | some n =>
      rw [hi] at hx
      obtain rfl : V.int n = x := Option.some.inj hx
      refine ⟨drop_set0 _ _, hte n (List.mem_of_getElem? hi) _ _ (same_new hD _) ⟨upd_same, upd_upd, ?_⟩⟩
      rw [List.take_add_one, hi, List.map_append, List.map_append]; rfl
  · obtain ⟨rfl, rfl⟩ := h
    rw [List.length_map, List.take_length]
    exact q D hD

theorem pe_type {X : Cx} {x : Str} {T : String} {pos : Pos} (hg : Gl X x) (hm : X.mg x = none) (hv : bootBuiltins x = some (.type T)) (hn : x ≠ "__name__" := by decide) (hd : (x == ("__debug__" : Str)) = false := by decide) : PE X (.Name x pos) (tC (.ty T)) := pe_bltn hg hm hv rfl hn hd
/-! ### sizes -/
def R60 (x : Int) : Prop := 0 ≤ x ∧ x < 1152921504606846976
theorem p60 : (2 : Int) ^ (60 : Int).toNat = 1152921504606846976 := by decide
theorem m60 (x : Int) : R60 (x % 2 ^ (60 : Int).toNat) := by rw [p60]; unfold R60; omega
theorem and_bd {x y B : Int} (hx : 0 ≤ x) (hb : x < B) (hy : 0 ≤ y) : 0 ≤ Builtin.bitAnd x y ∧ Builtin.bitAnd x y < B ∧ Builtin.bitAnd x y ≤ y := by
  rw [bitAnd_pp hx hy]
  have h1 : (x.toNat &&& y.toNat) ≤ x.toNat := Nat.and_le_left
  have h2 : (x.toNat &&& y.toNat) ≤ y.toNat := Nat.and_le_right
  omega
end L2

end

section
namespace L2
open PySem PySem.Spec PyProof.Rows

/-! ### the rules by the written part's own name (so that a block's reading does not hang on the block's entry) -/
section
variable {X : Cx}
theorem ixL (K : PySem.W.Frag) (h : X.K = K := by rfl) : IxR X (rIxL K) := by subst h; exact ix_list
theorem ixT (K : PySem.W.Frag) (h : X.K = K := by rfl) : IxR X (rIxT K) := by subst h; exact ix_tup
theorem slL (K : PySem.W.Frag) (h : X.K = K := by rfl) : SlR X (rSlL K) := by subst h; exact sl_list
def rLen (K : PySem.W.Frag) : List V → Hp → VK → Prop := fun xs H Q => ∃ p ys, xs = [.ref p] ∧ (SqL K H p ys ∨ SqT K H p ys) ∧ Q (.int ys.length) H
theorem lenQ (K : PySem.W.Frag) (h : X.K = K := by rfl) : CallR X (.builtin "len") (rLen K) := by subst h; exact call_len_seq
theorem isI (K : PySem.W.Frag) (h : X.K = K := by rfl) : CallR X (.builtin "isinstance") (rIsI K) := by subst h; exact call_isinstance
def rListOf (K : PySem.W.Frag) : List V → Hp → VK → Prop := fun xs H Q => ∃ p ys, xs = [.ref p] ∧ (SqL K H p ys ∨ SqT K H p ys) ∧ ∀ l, H l = none → Q (.ref l) (upd H l (.lst ys))
theorem listOf (K : PySem.W.Frag) (h : X.K = K := by rfl) : CallR X (.type "list") (rListOf K) := by subst h; exact call_list_of
theorem piL (K : PySem.W.Frag) {tg l : Expr} {tl : TE} (hl : PE X l tl) (h : X.K = K := by rfl) : PI X tg l (iList K tl) := by subst h; exact pi_list hl
theorem pgT (K : PySem.W.Frag) {es : List Expr} {k : Nat} {t : TGs} {n : Nat} {pos : Pos} (hc : X.calm = true) (h : PGs X es t) (hn : (assignEach es X.env).length = n := by rfl) (hst : (assignEach es X.env).findIdx? (·.1) = none := by rfl) (hK : X.K = K := by rfl) : PG X (.Tuple es k pos) (gTup K n t) := by
  subst hK; exact pg_tup hc h hn hst
theorem pgLs (K : PySem.W.Frag) {es : List Expr} {k : Nat} {t : TGs} {n : Nat} {pos : Pos} (hc : X.calm = true) (h : PGs X es t) (hn : (assignEach es X.env).length = n := by rfl) (hst : (assignEach es X.env).findIdx? (·.1) = none := by rfl) (hK : X.K = K := by rfl) : PG X (.Tuple es k pos) (gLst K n t) := by
  subst hK; exact pg_lst hc h hn hst
theorem piZ (K : PySem.W.Frag) {es : List Expr} {x1 : Nat} {tpos : Pos} {a b : Expr} {ta : TA} {p pos : Pos} (hg : Gl X "zip") (hm : X.mg "zip" = none) (ha : PA X [a, b] ta) (hs : starEach [a, b] X.env = (false, eval a X.env) :: starEach [b] X.env := by rfl) (hs2 : (backTo pos (starEach [b] X.env)).any (·.1) = false := by rfl) (hK : X.K = K := by rfl) :
    PI X (.Tuple es x1 tpos) (.Call (.Name "zip" p) [a, b] [] pos) (iZip kL K ta) := by subst hK; exact pi_zip hg hm ha hs hs2
theorem piZ2 (K : PySem.W.Frag) {es : List Expr} {x1 : Nat} {tpos : Pos} {a b : Expr} {ta : TA} {p pos : Pos} (hg : Gl X "zip") (hm : X.mg "zip" = none) (ha : PA X [a, b] ta) (hs : starEach [a, b] X.env = (false, eval a X.env) :: starEach [b] X.env := by rfl) (hs2 : (backTo pos (starEach [b] X.env)).any (·.1) = false := by rfl) (hK : X.K = K := by rfl) :
    PI X (.Tuple es x1 tpos) (.Call (.Name "zip" p) [a, b] [] pos) (fun σ H R => iZip kL K ta σ H R ∨ iZip kT K ta σ H R) := by subst hK; exact pi_zip2 hg hm ha hs hs2
theorem pe_bmK (K : PySem.W.Frag) {o e : Expr} {es : List Expr} {to : TE} {t : TA} {name : Str} {apos cpos : Pos} {T id : String} {r : V → List V → Hp → VK → Prop} (pa : PlainAttrs T) (slot : Slot T name id) (hty : typeOf (.builtin id) = pure (.type "method_descriptor")) (hm : MtR X id r) (ho : PE X o to) (ha : PA X (e :: es) t)
    (hbase : attributeBase o name X.env (eval o X.env) = eval o X.env := by rfl)
    (hfew : ((backTo cpos (starEach (e :: es) X.env)).all (fun x => !x.1) && (backToKw cpos (keywordEach [] X.env)).all (fun x => x.1.isSome) && decide ((e :: es).length + ([] : List Keyword).length + (if ([] : List Keyword).isEmpty then 0 else 1) < 30)) = true := by rfl)
    (hline : (apos.endLine == cpos.line) = true := by rfl) (hs : starEach (e :: es) X.env = (false, eval e X.env) :: starEach es X.env := by rfl) (hplain : (backTo cpos (starEach es X.env)).any (·.1) = false := by rfl) (hK : X.K = K := by rfl) :
    PE X (.Call (.Attribute o name apos) (e :: es) [] cpos) (tBM K T r to t) := by subst hK; exact pe_bm pa slot hty hm ho ha hbase hfew hline hs hplain
end
end L2

end

section
namespace L2
open PySem PySem.Spec PyProof.Rows

/-! ### max, min of a list of ints, with and without a default -/
def maxF : Option Int → List Int → Option Int
  | b, [] => b
  | none, x :: r => maxF (some x) r
  | some m, x :: r => maxF (some (if m < x then x else m)) r
def minF : Option Int → List Int → Option Int
  | b, [] => b
  | none, x :: r => minF (some x) r
  | some m, x :: r => minF (some (if x < m then x else m)) r
def curA : Option (Int × Tok) → Array Value
  | none => #[]
  | some (m, t) => #[.int m t, .int m t]
/-- what comes back: the best one, or the default -/
def MRes (kw : List (Str × Value)) : Option Int → Value → Prop
  | some m, v => ∃ t, v = .int m t
  | none, v => ∃ n r, kw = (n, v) :: r
section
variable {prog : Program} {w : World} {A : Around} {E : Value → Shared → Prop} {s : Shared} {R : Result → Shared → Prop}
theorem rcGt {a b : Int} {t u : Tok} {Q : Value → Shared → Prop} (h : Q (.bool (decide (b < a))) s) : wpAny (model prog w) A (richCompare .Gt (.int a t) (.int b u)) Q E s := (PyProof.Rows.gt_int h : wpAny (model prog w) A (compareOp .Gt (.int a t) (.int b u)) Q E s)
theorem rcLt {a b : Int} {t u : Tok} {Q : Value → Shared → Prop} (h : Q (.bool (decide (a < b))) s) : wpAny (model prog w) A (richCompare .Lt (.int a t) (.int b u)) Q E s := (PyProof.Rows.lt_int h : wpAny (model prog w) A (compareOp .Lt (.int a t) (.int b u)) Q E s)

theorem max_loopK {I l S : Addr} {vs : List Value} {ns : List Int} {kw : List (Str × Value)} (hi : Vals (ns.map V.int) vs) (hh : A.handled = none) (h1 : l ≠ I) (h2 : S ≠ I) (h3 : S ≠ l) (hkw : kw = [] → ns ≠ []) :
    ∀ (k j : Nat) (s : Shared) (cur : Option (Int × Tok)) (c : Nat), ns.length - j = k → j ≤ ns.length → (cur = none → j = 0) → s.heap.IsListIter I l j → s.heap.IsList l vs.toArray →
    s.heap.get? S = some { cls := .type "list", dict := none, data := .seq (curA cur) c, slots := #[] } →
    (∀ v h' tk, MRes kw (maxF (cur.map (·.1)) (ns.drop j)) v → (∀ b o, b ≠ I → b ≠ S → s.heap.get? b = some o → h'.get? b = some o) → R (.ok (.ret v)) { s with heap := h', toks := tk }) →
    codeAny (model prog w) A (.builtin "max.loop" ⟨[.ref I, .none, .ref S], kw⟩) R s := by
  have nm : (toString "max" ++ toString ".loop" : String) = "max.loop" := by decide
  have lenV : ns.length = vs.length := by have := hi.length; rwa [List.length_map] at this
  intro k
  induction k with
  | zero =>
    intro j s cur c hk hj hc it li hS hR
    have hjn : j = ns.length := by omega
    refine codeAny_builtin F.entry_max_loop ?_; rw [Around.under_plainId F.plain_max_loop _]
    show wpAny _ A.in1 (seqItems? (.ref S) >>= _) _ _ s; refine wpAny_bind (wpAny_seqItems hS rfl ?_)
    show wpAny _ A.in1 (tryCatch (pyNext (.ref I)) _ >>= _) _ _ s; refine wpAny_bind (wpAny_tryCatch (wpAny_pyNext_list_end (A := A.in1) hh it li (by simp; omega) fun h' he => ?_))
    have S2 := he S _ h2 hS
    have hd : ns.drop j = [] := List.drop_eq_nil_of_le (by omega)
    rw [hd] at hR
    cases cur with
    | some p =>
      obtain ⟨m, t⟩ := p
      show wpAny _ A.in1 (updateSeq S (fun _ => #[]) >>= _) _ _ _; refine wpAny_bind ?_
      refine wpAny_updateSeq (hz := (by show 2 ≤ sizeLine; decide)) S2 rfl (wpAny_bind (wpAny_letGo (wpAny_pure ?_)))
      exact hR (.int m t) _ s.toks ⟨t, rfl⟩ fun b o b1 b2 e => (Heap.get?_update_other _ _ (Ne.symm b2)).trans (he b o b1 e)
    | none =>
      cases kw with
      | nil =>
        have := hc rfl
        have e0 : ns = [] := List.length_eq_zero_iff.mp (by omega)
        exact absurd e0 (hkw rfl)
      | cons d r =>
        obtain ⟨n, d⟩ := d
        exact wpAny_bind (wpAny_rule (wpAny_pure (hR d _ s.toks ⟨n, r, rfl⟩ fun b o b1 b2 e => he b o b1 e)))
  | succ k ih =>
    intro j s cur c hk hj hc it li hS hR
    have hlt : j < ns.length := by omega
    have hltv : j < vs.length := by omega
    obtain ⟨u0, hv, t, e0⟩ := hi.get (i := j) (x := .int ns[j]) (by rw [List.getElem?_map, List.getElem?_eq_getElem hlt]; rfl)
    subst e0
    have hd : ns.drop j = ns[j] :: ns.drop (j + 1) := List.drop_eq_getElem_cons hlt
    refine codeAny_builtin F.entry_max_loop ?_; rw [Around.under_plainId F.plain_max_loop _]
    show wpAny _ A.in1 (seqItems? (.ref S) >>= _) _ _ s; refine wpAny_bind (wpAny_seqItems hS rfl ?_)
    show wpAny _ A.in1 (tryCatch (pyNext (.ref I)) _ >>= _) _ _ s; refine wpAny_bind (wpAny_tryCatch (wpAny_pyNext_list_item it li (x := .int ns[j] t) (by simpa using hv) fun h' it' hs' => ?_))
    have S2 : h'.get? S = _ := (hs'.2 S h2).trans hS
    have li' : h'.IsList l vs.toArray := li.at fun o e => (hs'.2 l h1).trans e
    cases cur with
    | none =>
      show wpAny _ A.in1 (updateSeq S (fun _ => #[.int ns[j] t, .int ns[j] t]) >>= _) _ _ _; refine wpAny_bind ?_
      refine wpAny_updateSeq S2 rfl ?_; rw [nm]
      refine wpAny_pure ⟨plainId_quiet F.plain_max_loop _, ih (j + 1) _ (some (ns[j], t)) _ (by omega) hlt (fun z => by cases z) (it'.at fun o e => (Heap.get?_update_other _ _ h2).trans e) (li'.at fun o e => (Heap.get?_update_other _ _ h3).trans e) (Heap.get?_update_self _ S2 rfl) fun v h'' tk r kp => ?_⟩
      exact hR v h'' tk (by rw [hd]; exact r) fun b o b1 b2 e => kp b o b1 b2 ((Heap.get?_update_other _ _ (Ne.symm b2)).trans ((hs'.2 b b1).trans e))
    | some p =>
      obtain ⟨m, u⟩ := p
      show wpAny _ A.in1 (tryCatch (holding [.int ns[j] t, .int ns[j] t] (richCompare .Gt (.int ns[j] t) (.int m u) >>= _)) _ >>= _) _ _ _
      refine wpAny_bind (wpAny_tryCatch (wpAny_holding (wpAny_bind (rcGt ?_))))
      refine wpAny_bind (wpAny_holding (wpAny_truthy_bool (wpAny_bind (wpAny_letGo (wpAny_pure ?_)))))
      by_cases hb : m < ns[j]
      · rw [decide_eq_true hb]; simp only [if_true]
        refine wpAny_bind ?_; refine wpAny_updateSeq (hz := (by show 2 ≤ sizeLine; decide)) S2 rfl (wpAny_bind (wpAny_letGo ?_)); rw [nm]
        refine wpAny_pure ⟨plainId_quiet F.plain_max_loop _, ih (j + 1) _ (some (ns[j], t)) _ (by omega) hlt (fun z => by cases z) (it'.at fun o e => (Heap.get?_update_other _ _ h2).trans e) (li'.at fun o e => (Heap.get?_update_other _ _ h3).trans e) (Heap.get?_update_self _ S2 rfl) fun v h'' tk r kp => ?_⟩
        refine hR v h'' tk ?_ fun b o b1 b2 e => kp b o b1 b2 ((Heap.get?_update_other _ _ (Ne.symm b2)).trans ((hs'.2 b b1).trans e))
        rw [hd]; show MRes kw (maxF (some (if m < ns[j] then ns[j] else m)) _) v; rw [if_pos hb]; exact r
      · rw [decide_eq_false hb]; simp only [Bool.false_eq_true, if_false]
        refine wpAny_bind (wpAny_letGo ?_); rw [nm]
        refine wpAny_pure ⟨plainId_quiet F.plain_max_loop _, ih (j + 1) _ (some (m, u)) _ (by omega) hlt (fun z => by cases z) it' li' S2 fun v h'' tk r kp => ?_⟩
        refine hR v h'' tk ?_ fun b o b1 b2 e => kp b o b1 b2 ((hs'.2 b b1).trans e)
        rw [hd]; show MRes kw (maxF (some (if m < ns[j] then ns[j] else m)) _) v; rw [if_neg hb]; exact r

theorem min_loopK {I l S : Addr} {vs : List Value} {ns : List Int} {kw : List (Str × Value)} (hi : Vals (ns.map V.int) vs) (hh : A.handled = none) (h1 : l ≠ I) (h2 : S ≠ I) (h3 : S ≠ l) (hkw : kw = [] → ns ≠ []) :
    ∀ (k j : Nat) (s : Shared) (cur : Option (Int × Tok)) (c : Nat), ns.length - j = k → j ≤ ns.length → (cur = none → j = 0) → s.heap.IsListIter I l j → s.heap.IsList l vs.toArray →
    s.heap.get? S = some { cls := .type "list", dict := none, data := .seq (curA cur) c, slots := #[] } →
    (∀ v h' tk, MRes kw (minF (cur.map (·.1)) (ns.drop j)) v → (∀ b o, b ≠ I → b ≠ S → s.heap.get? b = some o → h'.get? b = some o) → R (.ok (.ret v)) { s with heap := h', toks := tk }) →
    codeAny (model prog w) A (.builtin "min.loop" ⟨[.ref I, .none, .ref S], kw⟩) R s := by
  have nm : (toString "min" ++ toString ".loop" : String) = "min.loop" := by decide
  have lenV : ns.length = vs.length := by have := hi.length; rwa [List.length_map] at this
  intro k
  induction k with
  | zero =>
    intro j s cur c hk hj hc it li hS hR
    have hjn : j = ns.length := by omega
    refine codeAny_builtin F.entry_min_loop ?_; rw [Around.under_plainId F.plain_min_loop _]
    show wpAny _ A.in1 (seqItems? (.ref S) >>= _) _ _ s; refine wpAny_bind (wpAny_seqItems hS rfl ?_)
    show wpAny _ A.in1 (tryCatch (pyNext (.ref I)) _ >>= _) _ _ s; refine wpAny_bind (wpAny_tryCatch (wpAny_pyNext_list_end (A := A.in1) hh it li (by simp; omega) fun h' he => ?_))
    have S2 := he S _ h2 hS
    have hd : ns.drop j = [] := List.drop_eq_nil_of_le (by omega)
    rw [hd] at hR
    cases cur with
    | some p =>
      obtain ⟨m, t⟩ := p
      show wpAny _ A.in1 (updateSeq S (fun _ => #[]) >>= _) _ _ _; refine wpAny_bind ?_
      refine wpAny_updateSeq (hz := (by show 2 ≤ sizeLine; decide)) S2 rfl (wpAny_bind (wpAny_letGo (wpAny_pure ?_)))
      exact hR (.int m t) _ s.toks ⟨t, rfl⟩ fun b o b1 b2 e => (Heap.get?_update_other _ _ (Ne.symm b2)).trans (he b o b1 e)
    | none =>
      cases kw with
      | nil =>
        have := hc rfl
        have e0 : ns = [] := List.length_eq_zero_iff.mp (by omega)
        exact absurd e0 (hkw rfl)
      | cons d r =>
        obtain ⟨n, d⟩ := d
        exact wpAny_bind (wpAny_rule (wpAny_pure (hR d _ s.toks ⟨n, r, rfl⟩ fun b o b1 b2 e => he b o b1 e)))
  | succ k ih =>
    intro j s cur c hk hj hc it li hS hR
    have hlt : j < ns.length := by omega
    have hltv : j < vs.length := by omega
    obtain ⟨u0, hv, t, e0⟩ := hi.get (i := j) (x := .int ns[j]) (by rw [List.getElem?_map, List.getElem?_eq_getElem hlt]; rfl)
    subst e0
    have hd : ns.drop j = ns[j] :: ns.drop (j + 1) := List.drop_eq_getElem_cons hlt
    refine codeAny_builtin F.entry_min_loop ?_; rw [Around.under_plainId F.plain_min_loop _]
    show wpAny _ A.in1 (seqItems? (.ref S) >>= _) _ _ s; refine wpAny_bind (wpAny_seqItems hS rfl ?_)
    show wpAny _ A.in1 (tryCatch (pyNext (.ref I)) _ >>= _) _ _ s; refine wpAny_bind (wpAny_tryCatch (wpAny_pyNext_list_item it li (x := .int ns[j] t) (by simpa using hv) fun h' it' hs' => ?_))
    have S2 : h'.get? S = _ := (hs'.2 S h2).trans hS
    have li' : h'.IsList l vs.toArray := li.at fun o e => (hs'.2 l h1).trans e
    cases cur with
    | none =>
      show wpAny _ A.in1 (updateSeq S (fun _ => #[.int ns[j] t, .int ns[j] t]) >>= _) _ _ _; refine wpAny_bind ?_
      refine wpAny_updateSeq S2 rfl ?_; rw [nm]
      refine wpAny_pure ⟨plainId_quiet F.plain_min_loop _, ih (j + 1) _ (some (ns[j], t)) _ (by omega) hlt (fun z => by cases z) (it'.at fun o e => (Heap.get?_update_other _ _ h2).trans e) (li'.at fun o e => (Heap.get?_update_other _ _ h3).trans e) (Heap.get?_update_self _ S2 rfl) fun v h'' tk r kp => ?_⟩
      exact hR v h'' tk (by rw [hd]; exact r) fun b o b1 b2 e => kp b o b1 b2 ((Heap.get?_update_other _ _ (Ne.symm b2)).trans ((hs'.2 b b1).trans e))
    | some p =>
      obtain ⟨m, u⟩ := p
      show wpAny _ A.in1 (tryCatch (holding [.int ns[j] t, .int ns[j] t] (richCompare .Lt (.int ns[j] t) (.int m u) >>= _)) _ >>= _) _ _ _
      refine wpAny_bind (wpAny_tryCatch (wpAny_holding (wpAny_bind (rcLt ?_))))
      refine wpAny_bind (wpAny_holding (wpAny_truthy_bool (wpAny_bind (wpAny_letGo (wpAny_pure ?_)))))
      by_cases hb : ns[j] < m
      · rw [decide_eq_true hb]; simp only [if_true]
        refine wpAny_bind ?_; refine wpAny_updateSeq (hz := (by show 2 ≤ sizeLine; decide)) S2 rfl (wpAny_bind (wpAny_letGo ?_)); rw [nm]
        refine wpAny_pure ⟨plainId_quiet F.plain_min_loop _, ih (j + 1) _ (some (ns[j], t)) _ (by omega) hlt (fun z => by cases z) (it'.at fun o e => (Heap.get?_update_other _ _ h2).trans e) (li'.at fun o e => (Heap.get?_update_other _ _ h3).trans e) (Heap.get?_update_self _ S2 rfl) fun v h'' tk r kp => ?_⟩
        refine hR v h'' tk ?_ fun b o b1 b2 e => kp b o b1 b2 ((Heap.get?_update_other _ _ (Ne.symm b2)).trans ((hs'.2 b b1).trans e))
        rw [hd]; show MRes kw (minF (some (if ns[j] < m then ns[j] else m)) _) v; rw [if_pos hb]; exact r
      · rw [decide_eq_false hb]; simp only [Bool.false_eq_true, if_false]
        refine wpAny_bind (wpAny_letGo ?_); rw [nm]
        refine wpAny_pure ⟨plainId_quiet F.plain_min_loop _, ih (j + 1) _ (some (m, u)) _ (by omega) hlt (fun z => by cases z) it' li' S2 fun v h'' tk r kp => ?_⟩
        refine hR v h'' tk ?_ fun b o b1 b2 e => kp b o b1 b2 ((hs'.2 b b1).trans e)
        rw [hd]; show MRes kw (minF (some (if ns[j] < m then ns[j] else m)) _) v; rw [if_neg hb]; exact r

theorem fn_tree_kw {id : String} {b : Builtin} {args : List Value} {kw : List (Str × Value)} {Q : Value → Shared → Prop} (hk : builtinKind id = none) (hp : plainId id = true) (hb : entryFor table id = some b) (ha : argsOk id ⟨args, kw⟩)
    (hc : wpAny (model prog w) A.in1 (b ⟨args, kw⟩) (fun fin s' => match fin with
      | .done f => (match (Except.ok f : Result) with | .ok (.ret v) => Q v s' | .ok _ => False | .error e => E e s')
      | .again c' => c'.quiet = true ∧ codeAny (model prog w) A c' (fun r s' => match r with | .ok (.ret v) => Q v s' | .ok _ => False | .error e => E e s') s') E s) :
    wpAny (model prog w) A (call (.builtin id) args kw) Q E s := by
  refine wpAny_call (codeAny_call_builtin hp hb ?_)
  simp only [checkBuiltinCall, hk]
  cases q : Manifest.signature? id with
  | none => exact wpAny_pure hc
  | some sg =>
    have h2 : Bind.checkArgs id sg ⟨args, kw⟩ = pure () := by simpa only [argsOk, q] using ha
    simp only [h2]
    exact wpAny_pure hc

theorem call_maxK {l : Addr} {vs : List Value} {ns : List Int} {kw : List (Str × Value)} {o : Option Value} {Q : Value → Shared → Prop} (hh : A.handled = none) (hi : Vals (ns.map V.int) vs) (li : s.heap.IsList l vs.toArray) (hkw : kw = [] → ns ≠ []) (ha : argsOk "max" ⟨[.ref l], kw⟩)
    (hb : Builtin.Builtins.bindParams "max" ["key", "default"] 0 ⟨[], kw⟩ = pure [none, o]) (hko : (o.toList.map fun d => (Str.ofString "default", d)) = kw)
    (h : ∀ v h' tk, MRes kw (maxF none ns) v → (∀ b o, s.heap.get? b = some o → h'.get? b = some o) → Q v { s with heap := h', toks := tk }) : wpAny (model prog w) A (call (.builtin "max") [.ref l] kw) Q E s := by
  have nm : (toString "max" ++ toString ".loop" : String) = "max.loop" := by decide
  obtain ⟨ol, hol, _⟩ := id li
  have ll := Heap.lt_size hol
  refine fn_tree_kw F.kind_max F.plain_max F.entry_max ha ?_
  show wpAny _ A.in1 (Builtin.Builtins.bindParams "max" ["key", "default"] 0 ⟨[], kw⟩ >>= _) _ _ s
  refine wpAny_bind (wpAny_of_eq hb (wpAny_bind (wpAny_pure (wpAny_bind (wpAny_pyIter_list li (wpAny_bind (wpAny_newObj_type ?_)))))))
  rw [nm]
  have e0 : (o.toList.map fun d => (Str.ofString "default", d)) = kw := hko
  show wpAny _ A.in1 (pure (Fin.again (.builtin "max.loop" ⟨[.ref s.heap.objs.size, .none, .ref (s.heap.push _).objs.size], o.toList.map fun d => (Str.ofString "default", d)⟩))) _ _ _
  rw [e0]
  refine wpAny_pure ⟨plainId_quiet F.plain_max_loop _, max_loopK hi hh (Nat.ne_of_lt ll) (by rw [Heap.size_push]; exact Nat.succ_ne_self _) (by rw [Heap.size_push]; exact Nat.ne_of_gt (Nat.lt_succ_of_lt ll)) hkw _ 0 _ none 0 rfl (Nat.zero_le _) (fun _ => rfl) ⟨_, Heap.get?_push_of_some _ (Heap.get?_push_size _ rfl), rfl, rfl⟩ ((li.push _).push _) (Heap.get?_push_size _ rfl) fun v h' tk r kp => ?_⟩
  refine h v h' tk r fun b o e => kp b o (Nat.ne_of_lt (Heap.lt_size e)) (by rw [Heap.size_push]; exact Nat.ne_of_lt (Nat.lt_succ_of_lt (Heap.lt_size e))) (Heap.get?_push_of_some _ (Heap.get?_push_of_some _ e))

theorem call_minK {l : Addr} {vs : List Value} {ns : List Int} {kw : List (Str × Value)} {o : Option Value} {Q : Value → Shared → Prop} (hh : A.handled = none) (hi : Vals (ns.map V.int) vs) (li : s.heap.IsList l vs.toArray) (hkw : kw = [] → ns ≠ []) (ha : argsOk "min" ⟨[.ref l], kw⟩)
    (hb : Builtin.Builtins.bindParams "min" ["key", "default"] 0 ⟨[], kw⟩ = pure [none, o]) (hko : (o.toList.map fun d => (Str.ofString "default", d)) = kw)
    (h : ∀ v h' tk, MRes kw (minF none ns) v → (∀ b o, s.heap.get? b = some o → h'.get? b = some o) → Q v { s with heap := h', toks := tk }) : wpAny (model prog w) A (call (.builtin "min") [.ref l] kw) Q E s := by
  have nm : (toString "min" ++ toString ".loop" : String) = "min.loop" := by decide
  obtain ⟨ol, hol, _⟩ := id li
  have ll := Heap.lt_size hol
  refine fn_tree_kw F.kind_min F.plain_min F.entry_min ha ?_
  show wpAny _ A.in1 (Builtin.Builtins.bindParams "min" ["key", "default"] 0 ⟨[], kw⟩ >>= _) _ _ s
  refine wpAny_bind (wpAny_of_eq hb (wpAny_bind (wpAny_pure (wpAny_bind (wpAny_pyIter_list li (wpAny_bind (wpAny_newObj_type ?_)))))))
  rw [nm]
  have e0 : (o.toList.map fun d => (Str.ofString "default", d)) = kw := hko
  show wpAny _ A.in1 (pure (Fin.again (.builtin "min.loop" ⟨[.ref s.heap.objs.size, .none, .ref (s.heap.push _).objs.size], o.toList.map fun d => (Str.ofString "default", d)⟩))) _ _ _
  rw [e0]
  refine wpAny_pure ⟨plainId_quiet F.plain_min_loop _, min_loopK hi hh (Nat.ne_of_lt ll) (by rw [Heap.size_push]; exact Nat.succ_ne_self _) (by rw [Heap.size_push]; exact Nat.ne_of_gt (Nat.lt_succ_of_lt ll)) hkw _ 0 _ none 0 rfl (Nat.zero_le _) (fun _ => rfl) ⟨_, Heap.get?_push_of_some _ (Heap.get?_push_size _ rfl), rfl, rfl⟩ ((li.push _).push _) (Heap.get?_push_size _ rfl) fun v h' tk r kp => ?_⟩
  refine h v h' tk r fun b o e => kp b o (Nat.ne_of_lt (Heap.lt_size e)) (by rw [Heap.size_push]; exact Nat.ne_of_lt (Nat.lt_succ_of_lt (Heap.lt_size e))) (Heap.get?_push_of_some _ (Heap.get?_push_of_some _ e))
end

section
variable {X : Cx}
theorem args_maxD (a d : Value) : argsOk "max" ⟨[a], [(Str.ofString "default", d)]⟩ := by unfold argsOk; kernel_rfl
theorem args_max0 (a : Value) : argsOk "max" ⟨[a], []⟩ := by unfold argsOk; kernel_rfl
theorem args_min0 (a : Value) : argsOk "min" ⟨[a], []⟩ := by unfold argsOk; kernel_rfl
/-- max(a list of ints), min(..): not empty -/
def rMax (K : PySem.W.Frag) : List V → Hp → VK → Prop := fun xs H Q => ∃ l ns m, xs = [.ref l] ∧ SqL K H l (ns.map V.int) ∧ maxF none ns = some m ∧ Q (.int m) H
def rMin (K : PySem.W.Frag) : List V → Hp → VK → Prop := fun xs H Q => ∃ l ns m, xs = [.ref l] ∧ SqL K H l (ns.map V.int) ∧ minF none ns = some m ∧ Q (.int m) H
theorem maxQ (K : PySem.W.Frag) (hc : X.calm = true) (hK : X.K = K := by rfl) : CallR X (.builtin "max") (rMax K) := by
  subst hK
  intro pins s σ H xs us Q I r h
  obtain ⟨l, ns, m, rfl, hS, hm, q⟩ := h
  obtain ⟨u, rfl, ru⟩ := vals1 r
  cases ru
  obtain ⟨its, rv, p, hz⟩ := I.list hS
  refine call_maxK (o := none) (I.ok.hd hc) rv p.isList (fun _ z => by rw [z] at hm; cases hm) (args_max0 _) rfl rfl fun v h' tk mr kp => ?_
  rw [hm] at mr
  exact ⟨.int m, H, I.kept kp, mr, q⟩
theorem minQ (K : PySem.W.Frag) (hc : X.calm = true) (hK : X.K = K := by rfl) : CallR X (.builtin "min") (rMin K) := by
  subst hK
  intro pins s σ H xs us Q I r h
  obtain ⟨l, ns, m, rfl, hS, hm, q⟩ := h
  obtain ⟨u, rfl, ru⟩ := vals1 r
  cases ru
  obtain ⟨its, rv, p, hz⟩ := I.list hS
  refine call_minK (o := none) (I.ok.hd hc) rv p.isList (fun _ z => by rw [z] at hm; cases hm) (args_min0 _) rfl rfl fun v h' tk mr kp => ?_
  rw [hm] at mr
  exact ⟨.int m, H, I.kept kp, mr, q⟩
/-- max(a list of ints, default=d) -/
def maxD (d : Int) (ns : List Int) : Int := (maxF none ns).getD d
def tMaxD (K : PySem.W.Frag) (t tk : TA) : TE := fun σ H Q => t σ H fun xs H1 => tk σ H1 fun ys H2 => ∃ l ns d, xs = [.ref l] ∧ ys = [.int d] ∧ SqL K H2 l (ns.map V.int) ∧ Q (.int (maxD d ns)) H2
theorem pe_maxD (K : PySem.W.Frag) {e dv : Expr} {p kp pos : Pos} {t tk : TA} (hc : X.calm = true) (hg : Gl X "max") (hm : X.mg "max" = none) (ha : PA X [e] t) (hkw : PK X [⟨some "default", dv, kp⟩] tk)
    (he : backTo pos (starEach [e] X.env) = (false, eval e X.env) :: backTo pos (starEach [] X.env) := by rfl) (hpl : (backTo pos (starEach [e] X.env)).any (·.1) = false := by rfl) (hall : (backToKw pos (keywordEach [⟨some "default", dv, kp⟩] X.env)).all (·.1.isSome) = true := by rfl)
    (hkn : (backToKw pos (keywordEach [⟨some "default", dv, kp⟩] X.env)).any (·.1.isNone) = false := by rfl) (hks : (backToKw pos (keywordEach [⟨some "default", dv, kp⟩] X.env)).filterMap (·.1) = [Str.ofString "default"] := by rfl) (hK : X.K = K := by rfl) :
    PE X (.Call (.Name "max" p) [e] [⟨some "default", dv, kp⟩] pos) (tMaxD K t tk) := by
  subst hK
  intro pins s σ H Q I h
  refine wpAny_Call_Name_kw (ld_blt I hg hm bt_max ?_)
  refine PyProof.Rows.callWith_kw (thn (ha pos pins s σ H _ I h) fun us s1 ⟨vs, H1, I1, r1, q1⟩ => thn (hkw pos pins s1 σ H1 _ I1 q1) fun ws s2 ⟨zs, H2, I2, r2, q2⟩ => ?_) he hpl hall hkn
  obtain ⟨l, ns, d, rfl, rfl, hS, q⟩ := q2
  obtain ⟨u, rfl, ru⟩ := vals1 r1
  obtain ⟨u2, rfl, t2, rfl⟩ := vals1 r2
  cases ru
  rw [hks]
  obtain ⟨its, rv, pl, hz⟩ := I2.list hS
  refine call_maxK (o := some (.int d t2)) (I2.ok.hd hc) rv pl.isList (fun z => by cases z) (args_maxD _ _) rfl rfl fun v h' tk mr kp => ?_
  refine ⟨.int (maxD d ns), H2, I2.kept kp, ?_, q⟩
  unfold maxD
  cases e : maxF none ns with
  | some m => rw [e] at mr; exact mr
  | none =>
    rw [e] at mr
    obtain ⟨n, r, z⟩ := mr
    have z1 : (Str.ofString "default", Value.int d t2) = (n, v) := (List.cons.inj z).1
    exact ⟨t2, (Prod.mk.inj z1).2.symm⟩
end
end L2

end

section
namespace L2
open PySem PySem.Spec PyProof.Rows

/-! ### lists whose items tell data -/
theorem Paired.getL {α β : Type} {F : α → β → Prop} : ∀ {l₁ : List α} {l₂ : List β} {i : Nat} {a : α}, Paired F l₁ l₂ → l₁[i]? = some a → ∃ b, l₂[i]? = some b ∧ F a b
  | _, _, _, _, .nil, e => by simp at e
  | _, _, 0, _, .cons r _, e => by simp at e; subst e; exact ⟨_, rfl, r⟩
  | _, _, i + 1, a, .cons _ t, e => by
    obtain ⟨b, h1, h2⟩ := Paired.getL (i := i) (a := a) t (by simpa using e)
    exact ⟨b, by simpa using h1, h2⟩
theorem Paired.getR {α β : Type} {F : α → β → Prop} : ∀ {l₁ : List α} {l₂ : List β} {i : Nat} {b : β}, Paired F l₁ l₂ → l₂[i]? = some b → ∃ a, l₁[i]? = some a ∧ F a b
  | _, _, _, _, .nil, e => by simp at e
  | _, _, 0, _, .cons r _, e => by simp at e; subst e; exact ⟨_, rfl, r⟩
  | _, _, i + 1, b, .cons _ t, e => by
    obtain ⟨a, h1, h2⟩ := Paired.getR (i := i) (b := b) t (by simpa using e)
    exact ⟨a, by simpa using h1, h2⟩
theorem Paired.app {α β : Type} {F : α → β → Prop} : ∀ {l₁ m₁ : List α} {l₂ m₂ : List β}, Paired F l₁ l₂ → Paired F m₁ m₂ → Paired F (l₁ ++ m₁) (l₂ ++ m₂)
  | _, _, _, _, .nil, s => s
  | _, _, _, _, .cons r t, s => .cons r (Paired.app t s)
theorem Paired.tk {α β : Type} {F : α → β → Prop} : ∀ {l₁ : List α} {l₂ : List β} (n : Nat), Paired F l₁ l₂ → Paired F (l₁.take n) (l₂.take n)
  | _, _, 0, _ => .nil
  | _, _, _ + 1, .nil => .nil
  | _, _, n + 1, .cons r t => .cons r (Paired.tk n t)
theorem Paired.dp {α β : Type} {F : α → β → Prop} : ∀ {l₁ : List α} {l₂ : List β} (n : Nat), Paired F l₁ l₂ → Paired F (l₁.drop n) (l₂.drop n)
  | _, _, 0, r => r
  | _, _, _ + 1, .nil => .nil
  | _, _, n + 1, .cons _ t => Paired.dp n t
/-- what is told of a value stays when the heap grows, and when a list is written -/
structure Stab {β : Type} (P : Hp → V → β → Prop) : Prop where
  same : ∀ {H H' : Hp} {v : V} {b : β}, Same H H' → P H v b → P H' v b
  wr : ∀ {H : Hp} {v : V} {b : β} {l : Addr} {xs ys : List V}, H l = some (.lst xs) → P H v b → P (upd H l (.lst ys)) v b
theorem T3.wr {H : Hp} {l : Addr} {xs : List V} {v : V} {d : D3} {o : HO} (hl : H l = some (.lst xs)) (h : T3 H v d) : T3 (upd H l o) v d := by
  obtain ⟨a, e, q⟩ := h
  exact ⟨a, e, by rw [upd_ne (ne_of q hl (by intro z; cases z))]; exact q⟩
theorem stab_T3 : Stab T3 := ⟨fun S h => h.same S, fun hl h => h.wr hl⟩
theorem Stab.list {β : Type} {P : Hp → V → β → Prop} (st : Stab P) {H H' : Hp} {vs : List V} {bs : List β} (S : Same H H') (h : Paired (P H) vs bs) : Paired (P H') vs bs := Paired.mapP h fun _ _ z => st.same S z
theorem Stab.listW {β : Type} {P : Hp → V → β → Prop} (st : Stab P) {H : Hp} {vs : List V} {bs : List β} {l : Addr} {xs ys : List V} (hl : H l = some (.lst xs)) (h : Paired (P H) vs bs) : Paired (P (upd H l (.lst ys))) vs bs := Paired.mapP h fun _ _ z => st.wr hl z

/-! ### comprehensions whose element makes things: one name, no test -/
theorem comp_grow {β : Type} {P : Hp → V → β → Prop} (st : Stab P) {K : PySem.W.Frag} {js : List Nat} {σ : St} {te : TE} {H : Hp} {a : Addr} {Q : VK} (xs : List V) (bs : List β) (hlen : xs.length = bs.length) (hz : xs.length < sizeLine) (hS : ∀ H', Same H H' → SqL K H' a xs)
    (hte : ∀ (i : Nat) x b, xs[i]? = some x → bs[i]? = some b → ∀ H' Q', Same H H' → (∀ y H'', Same H' H'' → P H'' y b → Q' y H'') → te ((stC 1 js σ).set 0 (some x)) H' Q')
    (q : ∀ D ys H', Same H H' → H D = none → H' D = some (.lst ys) → Paired (P H') ys bs → Q (.ref D) H') : LoopC 1 js σ (gName 0) tYes te (Itl K a) H Q := by
  refine comp_list (xs := xs) (fun D i ys H' => Same H H' ∧ H' D = some (.lst ys) ∧ Paired (P H') ys (bs.take i)) hz (fun D hD => ⟨same_new hD _, upd_same, .nil⟩) (fun D i ys H' hD hi h => ?_) (fun D i x ys H' hD hx h => ?_) fun D ys H' hD h => ?_
  · obtain ⟨S, hl, p⟩ := h
    refine ⟨hS H' S, hl, ?_⟩
    rw [Paired.length p, List.length_take]; omega
  · obtain ⟨S, hl, p⟩ := h
    have hi : i < xs.length := (List.getElem?_eq_some_iff.mp hx).1
    have hb : bs[i]? = some bs[i] := List.getElem?_eq_getElem (by omega)
    refine ⟨drop_set0 _ _, hte i x _ hx hb H' _ S fun y H6 S6 py => ⟨S6 _ _ hl, (S.trans S6).wr hD _, upd_same, ?_⟩⟩
    rw [List.take_add_one, hb]
    exact Paired.app (st.listW (S6 _ _ hl) (st.list S6 p)) (.cons (st.wr (S6 _ _ hl) py) .nil)
  · obtain ⟨S, hl, p⟩ := h
    rw [hlen, List.take_length] at p
    exact q D ys H' S hD hl p
theorem comp_growR {β : Type} {P : Hp → V → β → Prop} (st : Stab P) {js : List Nat} {σ : St} {te : TE} {H : Hp} {Q : VK} {lo : Int} (bs : List β) (hz : bs.length < sizeLine)
    (hte : ∀ (i : Nat) b, bs[i]? = some b → ∀ H' Q', Same H H' → (∀ y H'', Same H' H'' → P H'' y b → Q' y H'') → te ((stC 1 js σ).set 0 (some (.int (lo + i)))) H' Q')
    (q : ∀ D ys H', Same H H' → H D = none → H' D = some (.lst ys) → Paired (P H') ys bs → Q (.ref D) H') : LoopC 1 js σ (gName 0) tYes te (Itr lo bs.length) H Q := by
  refine comp_range (k := bs.length) (fun D i ys H' => Same H H' ∧ H' D = some (.lst ys) ∧ Paired (P H') ys (bs.take i)) hz (fun D hD => ⟨same_new hD _, upd_same, .nil⟩) (fun D i ys H' hD hi h => ?_) (fun D i ys H' hD hi h => ?_) fun D ys H' hD h => ?_
  · obtain ⟨S, hl, p⟩ := h
    refine ⟨hl, ?_⟩
    rw [Paired.length p, List.length_take]; omega
  · obtain ⟨S, hl, p⟩ := h
    have hb : bs[i]? = some bs[i] := List.getElem?_eq_getElem hi
    refine ⟨drop_set0 _ _, hte i _ hb H' _ S fun y H6 S6 py => ⟨S6 _ _ hl, (S.trans S6).wr hD _, upd_same, ?_⟩⟩
    rw [List.take_add_one, hb]
    exact Paired.app (st.listW (S6 _ _ hl) (st.list S6 p)) (.cons (st.wr (S6 _ _ hl) py) .nil)
  · obtain ⟨S, hl, p⟩ := h
    rw [List.take_length] at p
    exact q D ys H' S hD hl p
/-- ints -/
def VI (_ : Hp) (v : V) (n : Int) : Prop := v = .int n
theorem stab_VI : Stab VI := ⟨fun _ h => h, fun _ h => h⟩
theorem ints_of_VI {H : Hp} : ∀ {vs : List V} {ns : List Int}, Paired (VI H) vs ns → vs = ns.map V.int
  | _, _, .nil => rfl
  | _, _, .cons r t => by rw [show _ = _ from r, ints_of_VI t]; rfl

/-! ### deeds: their sizes, when they clash -/
def okD (d : D3) : Prop := (0 ≤ d.2.1 ∧ d.2.1 < 2 ^ 60) ∧ 0 ≤ d.2.2 ∧ d.2.2 < 2 ^ 60
/-- the law's own clash -/
def clashL (d e : D3) : Bool := distB d e || !decide (V.int (Builtin.bitAnd e.2.2 d.2.1) = V.int 0)
theorem clashL_eq {d e : D3} (hd : okD d) (he : okD e) : clashL d e = clashB d e := by
  obtain ⟨⟨d1, d2⟩, d3, d4⟩ := hd
  obtain ⟨⟨e1, e2⟩, e3, e4⟩ := he
  unfold clashL clashB distB
  rw [decI, decI, decI, bitOr_pp e1 e3, bitOr_pp d1 d3, bitAnd_pp d3 (Int.natCast_nonneg _), bitAnd_pp e3 d1, bitAnd_pp e3 (Int.natCast_nonneg _), Int.toNat_natCast, Int.toNat_natCast]
  have h0 : ∀ n : Nat, decide (((n : Nat) : Int) = 0) = decide (n = 0) := fun n => by
    by_cases hn : n = 0
    · rw [decide_eq_true hn, decide_eq_true (by omega)]
    · rw [decide_eq_false hn, decide_eq_false (by omega)]
  rw [h0, h0, h0, Nat.and_or_distrib_left, Nat.and_or_distrib_left]
  have h1 : ∀ a b : Nat, decide ((a ||| b) = 0) = (decide (a = 0) && decide (b = 0)) := fun a b => by
    rw [← Bool.decide_and]
    congr 1
    exact propext Nat.or_eq_zero_iff
  rw [h1, h1, Nat.and_comm e.2.2.toNat d.2.2.toNat]
  generalize decide ((d.2.2.toNat &&& e.2.1.toNat) = 0) = x1
  generalize decide ((d.2.2.toNat &&& e.2.2.toNat) = 0) = x2
  generalize decide ((e.2.2.toNat &&& d.2.1.toNat) = 0) = x3
  cases x1 <;> cases x2 <;> cases x3 <;> rfl
theorem clash_comm (d e : D3) : clashB d e = clashB e d := Bool.or_comm _ _
end L2
namespace L2
open PySem PySem.Spec PyProof.Rows
/-! ### what the drawing defs of the laws promise -/
def spCell (K : PySem.W.Frag) : Sp := fun vs H Q _ => ∃ (a : Addr) (ns : List Int) (k : Int), vs = [.ref a, .int k] ∧ SqL K H a (ns.map V.int) ∧ 0 ≤ k ∧ Q (.int (ns.getD k.toNat 0)) H
theorem at_ints {ns : List Int} {k : Int} (h0 : 0 ≤ k) (h : k < (ns.length : Int)) : atI (ns.map V.int) k = some (.int (ns.getD k.toNat 0)) := by
  have hk : k.toNat < ns.length := by omega
  have e : k = ((k.toNat : Nat) : Int) := by omega
  have q : atI (ns.map V.int) ((k.toNat : Nat) : Int) = some (.int (ns.getD k.toNat 0)) := atI_nat (by rw [List.getElem?_map, List.getElem?_eq_getElem hk, List.getD_eq_getElem?_getD, List.getElem?_eq_getElem hk]; rfl)
  rw [← e] at q
  exact q
theorem at_l0 {a : V} {r : List V} : atI (a :: r) 0 = some a := atI_nat (j := 0) rfl
theorem at_l1 {a b : V} {r : List V} : atI (a :: b :: r) 1 = some b := atI_nat (j := 1) rfl
theorem at_l2 {a b c : V} {r : List V} : atI (a :: b :: c :: r) 2 = some c := atI_nat (j := 2) rfl
theorem at_l3 {a b c d : V} {r : List V} : atI (a :: b :: c :: d :: r) 3 = some d := atI_nat (j := 3) rfl
theorem at_l4 {a b c d e : V} {r : List V} : atI (a :: b :: c :: d :: e :: r) 4 = some e := atI_nat (j := 4) rfl
theorem at_l5 {a b c d e f : V} {r : List V} : atI (a :: b :: c :: d :: e :: f :: r) 5 = some f := atI_nat (j := 5) rfl
theorem at_l6 {a b c d e f g : V} {r : List V} : atI (a :: b :: c :: d :: e :: f :: g :: r) 6 = some g := atI_nat (j := 6) rfl
theorem at_l7 {a b c d e f g h : V} {r : List V} : atI (a :: b :: c :: d :: e :: f :: g :: h :: r) 7 = some h := atI_nat (j := 7) rfl
def spClashL : Sp := fun vs H Q _ => ∃ x y d e, vs = [x, y] ∧ T3 H x d ∧ T3 H y e ∧ Q (.bl (clashL d e)) H
def B60 (b : Int) : Prop := 0 ≤ b ∧ b < 60
def spBits : Sp := fun vs H Q _ => ∃ (n : Int) (b : Addr) (b0 b1 b2 : Int), vs = [.int n, .ref b] ∧ H b = some (.lst [.int b0, .int b1, .int b2]) ∧ B60 b0 ∧ B60 b1 ∧ B60 b2 ∧ ∀ m H', Same H H' → R60 m → Q (.int m) H'
def spFar : Sp := fun vs H Q _ => ∃ c : Int, vs = [.int c] ∧ ∀ n, R60 n → Q (.int n) H
def spNames : Sp := fun vs H Q _ => ∃ a b : Int, vs = [.int a, .int b] ∧ ∀ (r : Addr) (H' : Hp) (x y z : Int), Same H H' → H' r = some (.lst [.int x, .int y, .int z]) → Q (.ref r) H'
def spNear : Sp := fun vs H Q _ => ∃ (n : Int) (m b : Addr) (x y z b0 b1 b2 : Int), vs = [.int n, .ref m, .ref b] ∧ H m = some (.lst [.int x, .int y, .int z]) ∧ H b = some (.lst [.int b0, .int b1, .int b2]) ∧ B60 b0 ∧ B60 b1 ∧ B60 b2 ∧
  ∀ v H' d, Same H H' → T3 H' v d → okD d → Q v H'
theorem or60 {x y : Int} (hx : R60 x) (hy : R60 y) : R60 (Builtin.bitOr x y) := by
  unfold R60 at *
  rw [bitOr_pp hx.1 hy.1]
  have h : (x.toNat ||| y.toNat) < 2 ^ 60 := Nat.or_lt_two_pow (by omega) (by omega)
  omega
theorem shl60 {b : Int} (h : B60 b) : R60 (1 * 2 ^ b.toNat) := by
  unfold B60 at h
  unfold R60
  have h1 : (2 : Nat) ^ b.toNat < 2 ^ 60 := Nat.pow_lt_pow_right (by decide) (by omega)
  have e : (2 : Int) ^ b.toNat = ((2 ^ b.toNat : Nat) : Int) := by rw [Int.natCast_pow]; rfl
  rw [e]
  generalize (2 : Nat) ^ b.toNat = m at h1
  omega
end L2

end

section
namespace L2
/-! ### heights, plainly -/
theorem maxF_some : ∀ (ns : List Int) (m : Int), ∃ x, maxF (some m) ns = some x ∧ m ≤ x ∧ (∀ y ∈ ns, y ≤ x) ∧ (x = m ∨ x ∈ ns)
  | [], m => ⟨m, rfl, Int.le_refl _, (fun y hy => nomatch hy), .inl rfl⟩
  | n :: ns, m => by
    obtain ⟨x, e, h1, h2, h3⟩ := maxF_some ns (if m < n then n else m)
    refine ⟨x, e, ?_, fun y hy => ?_, ?_⟩
    · split at h1 <;> omega
    · rcases List.mem_cons.mp hy with rfl | hy
      · split at h1 <;> omega
      · exact h2 y hy
    · rcases h3 with h3 | h3
      · split at h3
        · exact .inr (by rw [h3]; exact List.mem_cons_self)
        · exact .inl h3
      · exact .inr (List.mem_cons_of_mem _ h3)
theorem maxF_cons (n : Int) (ns : List Int) : ∃ x, maxF none (n :: ns) = some x ∧ (∀ y ∈ n :: ns, y ≤ x) ∧ x ∈ n :: ns := by
  obtain ⟨x, e, h1, h2, h3⟩ := maxF_some ns n
  refine ⟨x, e, fun y hy => ?_, ?_⟩
  · rcases List.mem_cons.mp hy with rfl | hy
    · exact h1
    · exact h2 y hy
  · rcases h3 with rfl | h3
    · exact List.mem_cons_self
    · exact List.mem_cons_of_mem _ h3
theorem maxD_nil (d : Int) : maxD d [] = d := rfl
/-- the greatest, told by its bounds -/
theorem maxD_spec (d : Int) (ns : List Int) : (ns = [] ∧ maxD d ns = d) ∨ (maxD d ns ∈ ns ∧ ∀ y ∈ ns, y ≤ maxD d ns) := by
  cases ns with
  | nil => exact .inl ⟨rfl, rfl⟩
  | cons n ns =>
    obtain ⟨x, e, h1, h2⟩ := maxF_cons n ns
    right
    unfold maxD
    rw [e]
    exact ⟨h2, h1⟩
theorem maxD_eq {d x : Int} {ns : List Int} (h1 : ∀ y ∈ ns, y ≤ x) (h2 : x ∈ ns ∨ (ns = [] ∧ x = d)) : maxD d ns = x := by
  rcases maxD_spec d ns with ⟨e1, e2⟩ | ⟨e1, e2⟩
  · rcases h2 with h2 | ⟨_, h2⟩
    · rw [e1] at h2; cases h2
    · rw [e2, h2]
  · rcases h2 with h2 | ⟨h2, _⟩
    · exact Int.le_antisymm (h1 _ e1) (e2 _ h2)
    · rw [h2] at e1; cases e1

section
variable {α : Type} (c : α → α → Bool)
/-- the height of d behind those ahead, each with its own -/
def hOf (acc : List (α × Int)) (d : α) : Int := maxD 0 ((acc.filter fun p => c p.1 d).map fun p => p.2 + 1)
/-- the deeds with their heights -/
def hp (ds : List α) : List (α × Int) := ds.foldl (fun acc d => acc ++ [(d, hOf c acc d)]) []
def hts (ds : List α) : List Int := (hp c ds).map (·.2)
theorem hp_snoc (ds : List α) (d : α) : hp c (ds ++ [d]) = hp c ds ++ [(d, hOf c (hp c ds) d)] := by
  unfold hp
  rw [List.foldl_append]
  rfl
/-- from the end -/
theorem snocInd {β : Type} {p : List β → Prop} (h0 : p []) (h1 : ∀ l x, p l → p (l ++ [x])) (l : List β) : p l := by
  have h : ∀ r : List β, p r.reverse := fun r => by
    induction r with
    | nil => exact h0
    | cons x r ih => rw [List.reverse_cons]; exact h1 _ x ih
  have := h l.reverse
  rwa [List.reverse_reverse] at this
theorem hp_fst (ds : List α) : (hp c ds).map (·.1) = ds := by
  induction ds using snocInd with
  | h0 => rfl
  | h1 l x ih => rw [hp_snoc, List.map_append, ih]; rfl
theorem hp_length (ds : List α) : (hp c ds).length = ds.length := by
  have := congrArg List.length (hp_fst c ds)
  rwa [List.length_map] at this
theorem hts_length (ds : List α) : (hts c ds).length = ds.length := by unfold hts; rw [List.length_map, hp_length]
theorem hp_zip (ds : List α) : ds.zip (hts c ds) = hp c ds := by
  have h : ∀ l : List (α × Int), (l.map (·.1)).zip (l.map (·.2)) = l := fun l => by
    induction l with
    | nil => rfl
    | cons p l ih => simp [ih]
  have := h (hp c ds)
  rw [hp_fst] at this
  exact this
theorem hp_append (ds es : List α) : ∃ r, hp c (ds ++ es) = hp c ds ++ r := by
  induction es using snocInd with
  | h0 => exact ⟨[], by rw [List.append_nil, List.append_nil]⟩
  | h1 l x ih =>
    obtain ⟨r, e⟩ := ih
    refine ⟨r ++ [(x, hOf c (hp c (ds ++ l)) x)], ?_⟩
    rw [← List.append_assoc, hp_snoc, e, List.append_assoc]
theorem hp_take (ds : List α) (i : Nat) : hp c (ds.take i) = (hp c ds).take i := by
  obtain ⟨r, e⟩ := hp_append c (ds.take i) (ds.drop i)
  rw [List.take_append_drop] at e
  by_cases hi : i ≤ ds.length
  · have hl : (hp c (ds.take i)).length = i := by rw [hp_length, List.length_take]; omega
    conv => rhs; rw [e]
    rw [List.take_append_of_le_length (Nat.le_of_eq hl.symm), List.take_of_length_le (Nat.le_of_eq hl)]
  · rw [List.take_of_length_le (by omega : ds.length ≤ i), List.take_of_length_le (by rw [hp_length]; omega)]
theorem hts_take (ds : List α) (i : Nat) : hts c (ds.take i) = (hts c ds).take i := by unfold hts; rw [hp_take, List.map_take]
theorem hp_get {ds : List α} {i : Nat} {d : α} (h : ds[i]? = some d) : (hp c ds)[i]? = some (d, hOf c ((hp c ds).take i) d) := by
  have hi : i < ds.length := (List.getElem?_eq_some_iff.mp h).1
  have e : ds.take (i + 1) = ds.take i ++ [d] := by rw [List.take_add_one, h]; rfl
  have e2 := hp_take c ds (i + 1)
  rw [e, hp_snoc, hp_take] at e2
  have e3 : ((hp c ds).take (i + 1))[i]? = (hp c ds)[i]? := by rw [List.getElem?_take_of_lt (Nat.lt_succ_self i)]
  rw [← e3, ← e2, List.getElem?_append_right (by rw [List.length_take]; omega), List.length_take, hp_length, Nat.min_eq_left (by omega), Nat.sub_self]
  rfl
theorem hts_get {ds : List α} {i : Nat} {d : α} (h : ds[i]? = some d) : (hts c ds)[i]? = some (hOf c ((hp c ds).take i) d) := by
  unfold hts; rw [List.getElem?_map, hp_get c h]; rfl
theorem hts_snoc (ds : List α) (d : α) : hts c (ds ++ [d]) = hts c ds ++ [hOf c (hp c ds) d] := by unfold hts; rw [hp_snoc, List.map_append]; rfl
theorem hOf_nonneg {acc : List (α × Int)} (h : ∀ p ∈ acc, 0 ≤ p.2) (d : α) : 0 ≤ hOf c acc d := by
  unfold hOf
  rcases maxD_spec 0 ((acc.filter fun p => c p.1 d).map fun p => p.2 + 1) with ⟨_, e⟩ | ⟨e, _⟩
  · omega
  · obtain ⟨p, hp, e⟩ := List.mem_map.mp e
    have := h p (List.mem_filter.mp hp).1
    omega
theorem hp_nonneg (ds : List α) : ∀ p ∈ hp c ds, 0 ≤ p.2 := by
  induction ds using snocInd with
  | h0 => intro p hp; cases hp
  | h1 l x ih =>
    intro p hp
    rw [hp_snoc] at hp
    rcases List.mem_append.mp hp with hp | hp
    · exact ih p hp
    · rw [List.mem_singleton.mp hp]; exact hOf_nonneg c ih x
theorem hOf_lt {acc : List (α × Int)} {d : α} {p : α × Int} (hp : p ∈ acc) (h : c p.1 d = true) : p.2 < hOf c acc d := by
  unfold hOf
  have hm : p.2 + 1 ∈ (acc.filter fun p => c p.1 d).map fun p => p.2 + 1 := List.mem_map.mpr ⟨p, List.mem_filter.mpr ⟨hp, h⟩, rfl⟩
  rcases maxD_spec 0 ((acc.filter fun p => c p.1 d).map fun p => p.2 + 1) with ⟨e, _⟩ | ⟨_, e⟩
  · rw [e] at hm; cases hm
  · have := e _ hm
    omega
theorem hOf_from {acc : List (α × Int)} {d : α} (h : 0 < hOf c acc d) : ∃ p ∈ acc, c p.1 d = true ∧ hOf c acc d = p.2 + 1 := by
  unfold hOf at h ⊢
  rcases maxD_spec 0 ((acc.filter fun p => c p.1 d).map fun p => p.2 + 1) with ⟨_, e⟩ | ⟨e, _⟩
  · omega
  · obtain ⟨p, hp, e⟩ := List.mem_map.mp e
    obtain ⟨h1, h2⟩ := List.mem_filter.mp hp
    exact ⟨p, h1, h2, e.symm⟩
/-- a height is told by what it is to be: no less than any, and met -/
theorem hOf_eq {acc : List (α × Int)} {d : α} {x : Int} (h1 : ∀ p ∈ acc, c p.1 d = true → p.2 < x) (h2 : x = 0 ∨ ∃ p ∈ acc, c p.1 d = true ∧ x = p.2 + 1) (h3 : ∀ p ∈ acc, 0 ≤ p.2) : hOf c acc d = x := by
  unfold hOf
  refine maxD_eq (fun y hy => ?_) ?_
  · obtain ⟨p, hp, rfl⟩ := List.mem_map.mp hy
    obtain ⟨a, b⟩ := List.mem_filter.mp hp
    have := h1 p a b
    omega
  · rcases h2 with h2 | ⟨p, a, b, e⟩
    · right
      refine ⟨?_, h2⟩
      cases e : (acc.filter fun p => c p.1 d) with
      | nil => rfl
      | cons p r =>
        have hp : p ∈ acc.filter fun p => c p.1 d := by rw [e]; exact List.mem_cons_self
        obtain ⟨a, b⟩ := List.mem_filter.mp hp
        have := h1 p a b
        have := h3 p a
        omega
    · exact .inl (List.mem_map.mpr ⟨p, List.mem_filter.mpr ⟨a, b⟩, e.symm⟩)
/-- the law's own search -/
def dueF (acc : List (α × Int)) (d : α) : Int := acc.foldl (fun due p => if due ≤ p.2 ∧ c p.1 d = true then p.2 + 1 else due) 0
theorem dueF_snoc (acc : List (α × Int)) (p : α × Int) (d : α) : dueF c (acc ++ [p]) d = if dueF c acc d ≤ p.2 ∧ c p.1 d = true then p.2 + 1 else dueF c acc d := by
  unfold dueF; rw [List.foldl_append]; rfl
theorem dueF_eq {acc : List (α × Int)} (h : ∀ p ∈ acc, 0 ≤ p.2) (d : α) : dueF c acc d = hOf c acc d := by
  refine (hOf_eq c ?_ ?_ h).symm
  · clear h
    induction acc using snocInd with
    | h0 => intro p hp; cases hp
    | h1 l q ih =>
      intro p hp hc
      rw [dueF_snoc]
      rcases List.mem_append.mp hp with hp | hp
      · have := ih p hp hc
        split <;> omega
      · have e := List.mem_singleton.mp hp
        subst e
        split
        · omega
        · rename_i z
          have : ¬ dueF c l d ≤ p.2 := fun q => z ⟨q, hc⟩
          omega
  · induction acc using snocInd with
    | h0 => exact .inl rfl
    | h1 l q ih =>
      rw [dueF_snoc]
      split
      · rename_i z
        exact .inr ⟨q, by simp, z.2, rfl⟩
      · rcases ih (fun p hp => h p (List.mem_append_left _ hp)) with e | ⟨p, a, b, e⟩
        · exact .inl e
        · exact .inr ⟨p, List.mem_append_left _ a, b, e⟩
end

section
variable {α : Type} (c : α → α → Bool)
/-! ### layers -/
theorem hOf_mono {acc acc' : List (α × Int)} (h : ∀ p ∈ acc, p ∈ acc') (h0 : ∀ p ∈ acc', 0 ≤ p.2) (d : α) : hOf c acc d ≤ hOf c acc' d := by
  by_cases hz : 0 < hOf c acc d
  · obtain ⟨p, hp, hc, e⟩ := hOf_from c hz
    have := hOf_lt c (h p hp) hc
    omega
  · have := hOf_nonneg c h0 d
    omega
/-- equal ones: never lower behind -/
theorem hp_eqs {ds : List α} {i j : Nat} {d : α} {x y : Int} (hij : i ≤ j) (hi : (hp c ds)[i]? = some (d, x)) (hj : (hp c ds)[j]? = some (d, y)) : x ≤ y := by
  have f : ∀ {k : Nat} {z : Int}, (hp c ds)[k]? = some (d, z) → z = hOf c ((hp c ds).take k) d := fun {k z} hk => by
    have e : ds[k]? = some d := by
      have := congrArg (fun l => l[k]?) (hp_fst c ds)
      simp only [List.getElem?_map, hk] at this
      exact this.symm
    have := hp_get c e
    rw [hk] at this
    injection this with this
    injection this
  rw [f hi, f hj]
  refine hOf_mono c (fun p hm => ?_) (fun p hm => hp_nonneg c ds p (List.mem_of_mem_take hm)) d
  have : ((hp c ds).take j).take i = (hp c ds).take i := by rw [List.take_take, Nat.min_eq_left hij]
  rw [← this] at hm
  exact List.mem_of_mem_take hm
/-- clashing ones: higher behind -/
theorem hp_clash {ds : List α} {i j : Nat} {d e : α} {x y : Int} (hij : i < j) (hi : (hp c ds)[i]? = some (d, x)) (hj : (hp c ds)[j]? = some (e, y)) (hc : c d e = true) : x < y := by
  have ej : ds[j]? = some e := by
    have := congrArg (fun l => l[j]?) (hp_fst c ds)
    simp only [List.getElem?_map, hj] at this
    exact this.symm
  have := hp_get c ej
  rw [hj] at this
  injection this with this
  injection this with _ this
  rw [this]
  refine hOf_lt (p := (d, x)) c ?_ hc
  refine List.mem_of_getElem? (i := i) ?_
  rw [List.getElem?_take_of_lt hij]; exact hi
/-- the number of layers -/
def nL (ds : List α) : Nat := (maxD (-1) (hts c ds) + 1).toNat
theorem hts_nonneg (ds : List α) : ∀ h ∈ hts c ds, 0 ≤ h := fun h hh => by
  obtain ⟨p, hp, rfl⟩ := List.mem_map.mp hh
  exact hp_nonneg c ds p hp
theorem nL_cast (ds : List α) : ((nL c ds : Nat) : Int) = maxD (-1) (hts c ds) + 1 := by
  unfold nL
  rcases maxD_spec (-1) (hts c ds) with ⟨_, e⟩ | ⟨e, _⟩
  · rw [e]; rfl
  · have := hts_nonneg c ds _ e
    omega
theorem lt_nL {ds : List α} {h : Int} (hh : h ∈ hts c ds) : h < nL c ds := by
  rw [nL_cast]
  rcases maxD_spec (-1) (hts c ds) with ⟨e, _⟩ | ⟨_, e⟩
  · rw [e] at hh; cases hh
  · have := e h hh
    omega
/-- the deeds of height h, in the diary's order -/
def rowOf (l : List (α × Int)) (h : Nat) : List α := (l.filter fun p => p.2 == (h : Int)).map (·.1)
def rowsOf (l : List (α × Int)) (n : Nat) : List (List α) := (List.range n).map (rowOf l)
theorem rowOf_snoc (l : List (α × Int)) (d : α) (x : Int) (h : Nat) : rowOf (l ++ [(d, x)]) h = if x = (h : Int) then rowOf l h ++ [d] else rowOf l h := by
  unfold rowOf
  rw [List.filter_append, List.map_append]
  by_cases e : x = (h : Int)
  · rw [if_pos e]; simp [e]
  · rw [if_neg e]; simp [e]
theorem rowsOf_set (l : List (α × Int)) (d : α) (k n : Nat) (hk : k < n) : rowsOf (l ++ [(d, (k : Int))]) n = (rowsOf l n).set k (rowOf l k ++ [d]) := by
  apply List.ext_getElem?
  intro j
  unfold rowsOf
  rw [List.getElem?_set, List.length_map, List.length_range, List.getElem?_map, List.getElem?_map]
  by_cases hj : j < n
  · rw [List.getElem?_range hj]
    by_cases e : k = j
    · subst e
      rw [if_pos rfl, if_pos hk]
      simp [rowOf_snoc]
    · rw [if_neg e]
      simp only [Option.map_some, rowOf_snoc]
      rw [if_neg (by omega)]
  · have : (List.range n)[j]? = none := List.getElem?_eq_none (by rw [List.length_range]; omega)
    rw [this]
    by_cases e : k = j
    · omega
    · rw [if_neg e]; rfl
theorem rowsOf_get {l : List (α × Int)} {n k : Nat} (hk : k < n) : (rowsOf l n)[k]? = some (rowOf l k) := by
  unfold rowsOf; rw [List.getElem?_map, List.getElem?_range hk]; rfl
theorem rowsOf_length (l : List (α × Int)) (n : Nat) : (rowsOf l n).length = n := by unfold rowsOf; rw [List.length_map, List.length_range]
/-- every height up to the greatest is met -/
theorem met_below {ds : List α} {i : Nat} {d : α} {x : Int} (hi : (hp c ds)[i]? = some (d, x)) : ∀ (k : Nat), (k : Int) ≤ x → ∃ p ∈ hp c ds, p.2 = (k : Int) := by
  have go : ∀ (m : Nat) (i : Nat) (d : α) (x : Int), (hp c ds)[i]? = some (d, x) → x.toNat ≤ m → ∀ (k : Nat), (k : Int) ≤ x → ∃ p ∈ hp c ds, p.2 = (k : Int) := by
    intro m
    induction m with
    | zero =>
      intro i d x hi hm k hk
      exact ⟨(d, x), List.mem_of_getElem? hi, show x = k by omega⟩
    | succ m ih =>
      intro i d x hi hm k hk
      by_cases e : (k : Int) = x
      · exact ⟨(d, x), List.mem_of_getElem? hi, e.symm⟩
      · have ed : ds[i]? = some d := by
          have := congrArg (fun l => l[i]?) (hp_fst c ds)
          simp only [List.getElem?_map, hi] at this
          exact this.symm
        have := hp_get c ed
        rw [hi] at this
        injection this with this
        injection this with _ this
        obtain ⟨p, hp', hc, e2⟩ := hOf_from c (acc := (hp c ds).take i) (d := d) (by omega)
        obtain ⟨j, hj⟩ := List.getElem?_of_mem (List.mem_of_mem_take hp')
        exact ih j p.1 p.2 hj (by omega) k (by omega)
  intro k hk
  exact go x.toNat i d x hi (Nat.le_refl _) k hk
theorem row_ne {ds : List α} {k : Nat} (hk : k < nL c ds) : rowOf (hp c ds) k ≠ [] := by
  have hmax : (maxD (-1) (hts c ds)) ∈ hts c ds := by
    rcases maxD_spec (-1) (hts c ds) with ⟨_, e⟩ | ⟨e, _⟩
    · have := nL_cast c ds
      omega
    · exact e
  obtain ⟨q, hq, e⟩ := List.mem_map.mp hmax
  obtain ⟨i, hi⟩ := List.getElem?_of_mem hq
  obtain ⟨p, hp', e2⟩ := met_below c (d := q.1) (x := q.2) hi k (by have := nL_cast c ds; omega)
  intro z
  have : p.1 ∈ rowOf (hp c ds) k := List.mem_map.mpr ⟨p, List.mem_filter.mpr ⟨hp', by simp [e2]⟩, rfl⟩
  rw [z] at this
  cases this
end

/-! ### the law's levels: the first layer where an equal one is left -/
section
variable {α : Type} [DecidableEq α] (c : α → α → Bool)
/-- what is left behind i deeds -/
def LeftOk (ds : List α) (left : List (List α)) (i : Nat) : Prop := left.length = nL c ds ∧ ∀ (k : Nat) (r : List α), left[k]? = some r → r.Perm (rowOf ((hp c ds).drop i) k)
theorem left_step {ds : List α} {left : List (List α)} {i : Nat} {d : α} {x : Int} (L : LeftOk c ds left i) (hi : (hp c ds)[i]? = some (d, x)) :
    ∃ k r, x = ((k : Nat) : Int) ∧ k < left.length ∧ left[k]? = some r ∧ d ∈ r ∧ (∀ (j : Nat) (q : List α), j < k → left[j]? = some q → d ∉ q) ∧ LeftOk c ds (left.set k (r.erase d)) (i + 1) := by
  have hx : x ∈ hts c ds := List.mem_map.mpr ⟨(d, x), List.mem_of_getElem? hi, rfl⟩
  have h0 := hts_nonneg c ds x hx
  have h1 := lt_nL c hx
  have hk : x.toNat < left.length := by rw [L.1]; omega
  have hd : (hp c ds).drop i = (d, x) :: (hp c ds).drop (i + 1) := by
    have hlt : i < (hp c ds).length := (List.getElem?_eq_some_iff.mp hi).1
    rw [List.drop_eq_getElem_cons hlt]
    have := List.getElem?_eq_getElem hlt
    rw [hi] at this
    rw [← Option.some.inj this]
  have hr : ∀ k : Nat, rowOf ((hp c ds).drop i) k = if x = (k : Int) then d :: rowOf ((hp c ds).drop (i + 1)) k else rowOf ((hp c ds).drop (i + 1)) k := fun k => by
    rw [hd]
    unfold rowOf
    rw [List.filter_cons]
    by_cases e : x = (k : Int)
    · simp [e]
    · simp [e]
  have hg : left[x.toNat]? = some left[x.toNat] := List.getElem?_eq_getElem hk
  have pk := L.2 _ _ hg
  rw [hr, if_pos (by omega)] at pk
  refine ⟨x.toNat, left[x.toNat], by omega, hk, hg, pk.mem_iff.mpr List.mem_cons_self, fun j q hj hq hm => ?_, by rw [List.length_set]; exact L.1, fun k r e => ?_⟩
  · have hm' := (L.2 j q hq).mem_iff.mp hm
    obtain ⟨p, hp', e⟩ := List.mem_map.mp hm'
    obtain ⟨hp1, hp2⟩ := List.mem_filter.mp hp'
    obtain ⟨m, hm2⟩ := List.getElem?_of_mem hp1
    rw [List.getElem?_drop] at hm2
    have : p = (d, p.2) := by rw [← e]
    rw [this] at hm2
    have := hp_eqs c (Nat.le_add_right i m) hi hm2
    have e3 : p.2 = (j : Int) := by simpa using hp2
    omega
  · rw [List.getElem?_set] at e
    by_cases ek : x.toNat = k
    · subst ek
      rw [if_pos rfl, if_pos hk] at e
      rw [← Option.some.inj e]
      have := pk.erase d
      rwa [List.erase_cons_head] at this
    · rw [if_neg ek] at e
      have := L.2 k r e
      rw [hr, if_neg (by omega)] at this
      exact this
theorem left_end {ds : List α} {left : List (List α)} (L : LeftOk c ds left ds.length) : ∀ r ∈ left, r = [] := fun r hr => by
  obtain ⟨k, hk⟩ := List.getElem?_of_mem hr
  have := L.2 k r hk
  rw [List.drop_eq_nil_of_le (by rw [hp_length]; exact Nat.le_refl _)] at this
  exact List.Perm.eq_nil this
end
section
variable {α : Type} (c : α → α → Bool)
/-! ### the chain -/
def good (ds : List α) (due : List Nat) (p : Nat) : Prop := ∃ d, (hp c ds)[p]? = some (d, ((nL c ds : Nat) : Int) - 1 - (due.length : Nat)) ∧ ∀ q r, due = q :: r → ∃ e, ds[q]? = some e ∧ c d e = true
def IsNx (ds : List α) (due : List Nat) (p : Nat) : Prop := good c ds due p ∧ ∀ j, j < p → ¬ good c ds due j
inductive Ch (ds : List α) : List Nat → Prop
  | nil : Ch ds []
  | cons {due : List Nat} {p : Nat} : Ch ds due → IsNx c ds due p → Ch ds (p :: due)
theorem IsNx.inj {ds : List α} {due : List Nat} {p q : Nat} (h : IsNx c ds due p) (h' : IsNx c ds due q) : p = q := by
  rcases Nat.lt_trichotomy p q with z | z | z
  · exact absurd h.1 (h'.2 p z)
  · exact z
  · exact absurd h'.1 (h.2 q z)
theorem Ch.inj {ds : List α} : ∀ {l l' : List Nat}, Ch c ds l → Ch c ds l' → l.length = l'.length → l = l'
  | _, _, .nil, .nil, _ => rfl
  | _, _, .nil, .cons _ _, e => by cases e
  | _, _, .cons _ _, .nil, e => by cases e
  | _, _, .cons h n, .cons h' n', e => by
    have := Ch.inj h h' (Nat.succ.inj e)
    subst this
    rw [IsNx.inj c n n']
theorem Ch.head {ds : List α} {p : Nat} {due : List Nat} (h : Ch c ds (p :: due)) : ∃ d, (hp c ds)[p]? = some (d, ((nL c ds : Nat) : Int) - 1 - (due.length : Nat)) := by
  cases h with
  | cons _ n => obtain ⟨d, h, _⟩ := n.1; exact ⟨d, h⟩
theorem hp_ds {ds : List α} {i : Nat} {d : α} {x : Int} (hi : (hp c ds)[i]? = some (d, x)) : ds[i]? = some d ∧ x = hOf c ((hp c ds).take i) d ∧ 0 ≤ x ∧ x < nL c ds := by
  have e : ds[i]? = some d := by
    have := congrArg (fun l => l[i]?) (hp_fst c ds)
    simp only [List.getElem?_map, hi] at this
    exact this.symm
  refine ⟨e, ?_, hp_nonneg c ds _ (List.mem_of_getElem? hi), lt_nL c (List.mem_map.mpr ⟨(d, x), List.mem_of_getElem? hi, rfl⟩)⟩
  have := hp_get c e
  rw [hi] at this
  injection this with this
  injection this
theorem Ch.len {ds : List α} {l : List Nat} (h : Ch c ds l) : l.length ≤ nL c ds := by
  cases h with
  | nil => exact Nat.zero_le _
  | cons h n =>
    obtain ⟨d, e⟩ := Ch.head c (.cons h n)
    have := (hp_ds c e).2.2.1
    show _ + 1 ≤ _
    omega
theorem least {P : Nat → Prop} {n : Nat} (h : P n) : ∃ m, P m ∧ ∀ j, j < m → ¬ P j := by
  have go : ∀ k n, n ≤ k → P n → ∃ m, P m ∧ ∀ j, j < m → ¬ P j := by
    intro k
    induction k with
    | zero => intro n hn h; exact ⟨n, h, fun j hj => by omega⟩
    | succ k ih =>
      intro n hn h
      by_cases hz : ∃ j, j < n ∧ P j
      · obtain ⟨j, hj, pj⟩ := hz
        exact ih j (by omega) pj
      · exact ⟨n, h, fun j hj pj => hz ⟨j, hj, pj⟩⟩
  exact go n n (Nat.le_refl _) h
/-- there is one, and it lies ahead -/
theorem Ch.next {ds : List α} {due : List Nat} (h : Ch c ds due) (hl : due.length < nL c ds) : ∃ p, IsNx c ds due p := by
  have : ∃ p, good c ds due p := by
    cases h with
    | nil =>
      have hm : maxD (-1) (hts c ds) ∈ hts c ds := by
        rcases maxD_spec (-1) (hts c ds) with ⟨_, e⟩ | ⟨e, _⟩
        · have := nL_cast c ds
          have : (0 : Nat) < nL c ds := hl
          omega
        · exact e
      obtain ⟨q, hq, e⟩ := List.mem_map.mp hm
      obtain ⟨i, hi⟩ := List.getElem?_of_mem hq
      refine ⟨i, q.1, ?_, fun _ _ z => by cases z⟩
      rw [hi]
      have := nL_cast c ds
      have e2 : q.2 = ((nL c ds : Nat) : Int) - 1 - ((([] : List Nat).length : Nat) : Int) := by
        show q.2 = ((nL c ds : Nat) : Int) - 1 - 0
        omega
      rw [← e2]
    | @cons due' p h n =>
      obtain ⟨d, e⟩ := Ch.head c (.cons h n)
      have hl' : due'.length + 1 < nL c ds := hl
      obtain ⟨e1, e2, _⟩ := hp_ds c e
      obtain ⟨q, hq, hc, e3⟩ := hOf_from c (acc := (hp c ds).take p) (d := d) (by omega)
      obtain ⟨i, hi⟩ := List.getElem?_of_mem (List.mem_of_mem_take hq)
      refine ⟨i, q.1, ?_, fun a r z => ?_⟩
      · rw [hi]
        have e4 : q.2 = ((nL c ds : Nat) : Int) - 1 - (((p :: due').length : Nat) : Int) := by
          show q.2 = ((nL c ds : Nat) : Int) - 1 - ((due'.length + 1 : Nat) : Int)
          omega
        rw [← e4]
      · cases z
        exact ⟨d, e1, hc⟩
  obtain ⟨p, hp⟩ := this
  obtain ⟨m, h1, h2⟩ := least (P := good c ds due) hp
  exact ⟨m, h1, h2⟩
theorem good_lt {ds : List α} {p j : Nat} {due : List Nat} (hsym : ∀ a b, c a b = c b a) (h : Ch c ds (p :: due)) (g : good c ds (p :: due) j) : j < p := by
  obtain ⟨d, e⟩ := Ch.head c h
  obtain ⟨d', e', hc⟩ := g
  obtain ⟨f, ef, hc⟩ := hc p due rfl
  rw [(hp_ds c e).1] at ef
  cases ef
  have hlen : (((p :: due).length : Nat) : Int) = (due.length : Nat) + 1 := by show ((due.length + 1 : Nat) : Int) = _; omega
  rcases Nat.lt_trichotomy j p with z | z | z
  · exact z
  · subst z
    rw [e] at e'
    injection e' with e'
    injection e' with _ e'
    omega
  · have := hp_clash c z e e' (by rw [hsym]; exact hc)
    omega
theorem Ch.rising {ds : List α} (hsym : ∀ a b, c a b = c b a) : ∀ {l : List Nat}, Ch c ds l → l.Pairwise (· < ·)
  | _, .nil => .nil
  | _, .cons .nil _ => by simp
  | _, .cons (p := q) (.cons (due := due) (p := p) h n) n' => by
    have ih := Ch.rising hsym (.cons h n)
    have hlt := good_lt c hsym (.cons h n) n'.1
    refine List.pairwise_cons.mpr ⟨fun x hx => ?_, ih⟩
    rcases List.mem_cons.mp hx with rfl | hx
    · exact hlt
    · exact Nat.lt_trans hlt ((List.pairwise_cons.mp ih).1 x hx)
end
/-! ### partners -/
section
variable {α : Type} [DecidableEq α]
theorem occ_ex {a : α} : ∀ {l : List α} {i : Nat}, i < l.count a → ∃ p, l[p]? = some a ∧ (l.take p).count a = i
  | [], i, h => by simp at h
  | b :: l, i, h => by
    by_cases e : b = a
    · subst e
      cases i with
      | zero => exact ⟨0, rfl, rfl⟩
      | succ i =>
        rw [List.count_cons_self] at h
        obtain ⟨p, h1, h2⟩ := occ_ex (a := b) (l := l) (i := i) (by omega)
        exact ⟨p + 1, by simpa using h1, by rw [List.take_succ_cons, List.count_cons_self, h2]⟩
    · rw [List.count_cons_of_ne e] at h
      obtain ⟨p, h1, h2⟩ := occ_ex h
      exact ⟨p + 1, by simpa using h1, by rw [List.take_succ_cons, List.count_cons_of_ne e, h2]⟩
theorem take_count_mono {a : α} {l : List α} {p q : Nat} (h : p ≤ q) : (l.take p).count a ≤ (l.take q).count a := by
  have e : (l.take q).take p = l.take p := by rw [List.take_take, Nat.min_eq_left h]
  rw [← e]
  exact (List.take_sublist p (l.take q)).count_le a
theorem take_count_lt {a : α} {l : List α} {p q : Nat} (h : p < q) (hp : l[p]? = some a) : (l.take p).count a < (l.take q).count a := by
  have h1 : (l.take (p + 1)).count a ≤ (l.take q).count a := take_count_mono h
  have h2 : l.take (p + 1) = l.take p ++ [a] := by rw [List.take_add_one, hp]; rfl
  rw [h2, List.count_append] at h1
  simp at h1
  omega
theorem take_count_le {a : α} {l : List α} {p : Nat} : (l.take p).count a ≤ l.count a := (List.take_sublist p l).count_le a
theorem occ_lt {a : α} {l : List α} {p : Nat} (hp : l[p]? = some a) : (l.take p).count a < l.count a := by
  have := take_count_lt (q := l.length) (by exact (List.getElem?_eq_some_iff.mp hp).1) hp
  rwa [List.take_of_length_le (Nat.le_refl _)] at this
theorem occ_inj {a : α} {l : List α} {p q : Nat} (hp : l[p]? = some a) (hq : l[q]? = some a) (e : (l.take p).count a = (l.take q).count a) : p = q := by
  rcases Nat.lt_trichotomy p q with z | z | z
  · have := take_count_lt z hp; omega
  · exact z
  · have := take_count_lt z hq; omega
/-- f tells the partners -/
def Mate (xs ys : List α) (f : Nat → Nat) : Prop := ∀ p a, xs[p]? = some a → ys[f p]? = some a ∧ (ys.take (f p)).count a = (xs.take p).count a
theorem Mate.inj {xs ys : List α} {f : Nat → Nat} (M : Mate xs ys f) {p q : Nat} {a b : α} (hp : xs[p]? = some a) (hq : xs[q]? = some b) (e : f p = f q) : p = q := by
  obtain ⟨h1, h2⟩ := M p a hp
  obtain ⟨h3, h4⟩ := M q b hq
  rw [e] at h1
  rw [h1] at h3
  cases h3
  exact occ_inj hp hq (by rw [← h2, ← h4, e])
theorem Mate.sur {xs ys : List α} {f : Nat → Nat} (M : Mate xs ys f) (hc : ∀ a, ys.count a ≤ xs.count a) {r : Nat} {a : α} (hr : ys[r]? = some a) : ∃ p, xs[p]? = some a ∧ f p = r := by
  obtain ⟨p, h1, h2⟩ := occ_ex (l := xs) (a := a) (i := (ys.take r).count a) (Nat.lt_of_lt_of_le (occ_lt hr) (hc a))
  refine ⟨p, h1, ?_⟩
  obtain ⟨h3, h4⟩ := M p a h1
  exact occ_inj h3 hr (by rw [h4, h2])
theorem Mate.count {xs ys : List α} {f : Nat → Nat} (M : Mate xs ys f) (a : α) : xs.count a ≤ ys.count a := by
  by_cases h : xs.count a = 0
  · omega
  · obtain ⟨p, h1, h2⟩ := occ_ex (l := xs) (a := a) (i := xs.count a - 1) (by omega)
    obtain ⟨h3, h4⟩ := M p a h1
    have := occ_lt h3
    omega
theorem count_sum_le {xs ys : List α} (h : ∀ a, xs.count a ≤ ys.count a) (hl : xs.length = ys.length) : ∀ a, ys.count a ≤ xs.count a := by
  have key : ∀ (xs ys : List α), (∀ a, xs.count a ≤ ys.count a) → xs.length = ys.length → xs.Perm ys := by
    intro xs
    induction xs with
    | nil => intro ys _ hl; rw [List.length_eq_zero_iff.mp hl.symm]
    | cons x xs ih =>
      intro ys h hl
      have hx : x ∈ ys := by
        have := h x
        rw [List.count_cons_self] at this
        exact List.count_pos_iff.mp (by omega)
      have p := List.perm_cons_erase hx
      refine (List.Perm.cons x (ih (ys.erase x) (fun a => ?_) ?_)).trans p.symm
      · have h1 := h a
        have h2 := p.count a
        rw [h2] at h1
        by_cases e : x = a
        · subst e; rw [List.count_cons_self, List.count_cons_self] at h1; omega
        · rw [List.count_cons_of_ne e, List.count_cons_of_ne e] at h1; exact h1
      · have := p.length_eq
        rw [List.length_cons] at this
        rw [List.length_cons] at hl
        omega
  intro a
  rw [(key xs ys h hl).count a]
  exact Nat.le_refl _
/-- by the same counts there are partners -/
theorem mate_ex {xs ys : List α} (h : ∀ a, xs.count a ≤ ys.count a) : ∃ f, Mate xs ys f := by
  have : ∀ p, ∃ r, ∀ a, xs[p]? = some a → ys[r]? = some a ∧ (ys.take r).count a = (xs.take p).count a := fun p => by
    cases e : xs[p]? with
    | none => exact ⟨0, fun a z => by cases z⟩
    | some a =>
      obtain ⟨r, h1, h2⟩ := occ_ex (l := ys) (a := a) (i := (xs.take p).count a) (Nat.lt_of_lt_of_le (occ_lt e) (h a))
      exact ⟨r, fun b z => by cases z; exact ⟨h1, h2⟩⟩
  exact ⟨fun p => Classical.choose (this p), fun p a h => Classical.choose_spec (this p) a h⟩
/-- clashing ones stand in the same order -/
def Kept (c : α → α → Bool) (xs : List α) (f : Nat → Nat) : Prop := ∀ p q a b, p < q → xs[p]? = some a → xs[q]? = some b → c a b = true → f p < f q
variable (c : α → α → Bool)
/-- alike: the heights are the partners' -/
theorem alike_hp {xs ys : List α} {f : Nat → Nat} (hsym : ∀ a b, c a b = c b a) (M : Mate xs ys f) (hc : ∀ a, ys.count a ≤ xs.count a) (O : Kept c xs f) : ∀ (p : Nat) (a : α) (x : Int), (hp c xs)[p]? = some (a, x) → (hp c ys)[f p]? = some (a, x) := by
  intro p
  induction p using Nat.strongRecOn with
  | _ p ih =>
    intro a x hx
    obtain ⟨e1, e2, e3, e4⟩ := hp_ds c hx
    obtain ⟨m1, m2⟩ := M p a e1
    rw [hp_get c m1]
    congr 2
    refine hOf_eq c (fun q hq hcl => ?_) ?_ (fun q hq => hp_nonneg c ys q (List.mem_of_mem_take hq))
    · obtain ⟨r, hr⟩ := List.getElem?_of_mem hq
      have hrl : r < f p := by
        have := (List.getElem?_eq_some_iff.mp hr).1
        rw [List.length_take] at this
        omega
      rw [List.getElem?_take_of_lt hrl] at hr
      obtain ⟨d1, _⟩ := hp_ds c (d := q.1) (x := q.2) hr
      obtain ⟨s, s1, s2⟩ := M.sur hc d1
      have hs : s < p := by
        rcases Nat.lt_trichotomy s p with z | z | z
        · exact z
        · subst z; omega
        · have := O p s a q.1 z e1 s1 (by rw [hsym]; exact hcl)
          omega
      have g := ih s hs q.1 _ (hp_get c s1)
      rw [s2, hr] at g
      have e5 : q.2 = hOf c ((hp c xs).take s) q.1 := by
        injection g with g
        rw [g]
      have := hp_clash c hs (hp_get c s1) hx hcl
      omega
    · by_cases z : x = 0
      · exact .inl z
      · right
        obtain ⟨q, hq, hcl, e⟩ := hOf_from c (acc := (hp c xs).take p) (d := a) (by omega)
        obtain ⟨s, hs⟩ := List.getElem?_of_mem hq
        have hsl : s < p := by
          have := (List.getElem?_eq_some_iff.mp hs).1
          rw [List.length_take] at this
          omega
        rw [List.getElem?_take_of_lt hsl] at hs
        have g := ih s hsl q.1 q.2 hs
        have hlt := O s p q.1 a hsl (hp_ds c hs).1 e1 hcl
        refine ⟨q, ?_, hcl, by omega⟩
        refine List.mem_of_getElem? (i := f s) ?_
        rw [List.getElem?_take_of_lt hlt]; exact g
/-- lists that tell the same by partners hold the same -/
theorem perm_of_mate {β : Type} {l l' : List β} {f : Nat → Nat} (h1 : ∀ p x, l[p]? = some x → l'[f p]? = some x) (h2 : ∀ p q, p < l.length → q < l.length → f p = f q → p = q) (h3 : ∀ r, r < l'.length → ∃ p, p < l.length ∧ f p = r) : l.Perm l' := by
  have hl : ((List.range l.length).map f).Perm (List.range l'.length) := by
    refine (List.perm_ext_iff_of_nodup ?_ List.nodup_range).mpr fun r => ?_
    · rw [List.nodup_iff_pairwise_ne, List.pairwise_map]
      refine List.Pairwise.imp_of_mem ?_ (List.nodup_range (n := l.length))
      intro p q hp hq hne e
      exact hne (h2 p q (List.mem_range.mp hp) (List.mem_range.mp hq) e)
    · rw [List.mem_map, List.mem_range]
      constructor
      · rintro ⟨p, hp, rfl⟩
        have := h1 p _ (List.getElem?_eq_getElem (List.mem_range.mp hp))
        exact (List.getElem?_eq_some_iff.mp this).1
      · intro hr
        obtain ⟨p, hp, e⟩ := h3 r hr
        exact ⟨p, List.mem_range.mpr hp, e⟩
  have e1 : l.map some = ((List.range l.length).map f).map fun r => l'[r]? := by
    apply List.ext_getElem?
    intro i
    rw [List.getElem?_map, List.getElem?_map, List.getElem?_map]
    by_cases hi : i < l.length
    · rw [List.getElem?_range hi, List.getElem?_eq_getElem hi]
      show some (some l[i]) = some (l'[f i]?)
      rw [h1 i _ (List.getElem?_eq_getElem hi)]
    · rw [List.getElem?_eq_none (by omega), List.getElem?_eq_none (by rw [List.length_range]; omega)]
      rfl
  have e2 : l'.map some = (List.range l'.length).map fun r => l'[r]? := by
    apply List.ext_getElem?
    intro i
    rw [List.getElem?_map, List.getElem?_map]
    by_cases hi : i < l'.length
    · rw [List.getElem?_range hi, List.getElem?_eq_getElem hi]
      show some (some l'[i]) = some (l'[i]?)
      rw [List.getElem?_eq_getElem hi]
    · rw [List.getElem?_eq_none (by omega), List.getElem?_eq_none (by rw [List.length_range]; omega)]
      rfl
  have p : (l.map some).Perm (l'.map some) := by
    rw [e1, e2]
    exact hl.map _
  have := p.filterMap id
  simpa [List.filterMap_map] using this
theorem alike_perm {xs ys : List α} {f : Nat → Nat} (hsym : ∀ a b, c a b = c b a) (M : Mate xs ys f) (hc : ∀ a, ys.count a ≤ xs.count a) (O : Kept c xs f) : (hp c xs).Perm (hp c ys) := by
  refine perm_of_mate (f := f) (fun p x hx => alike_hp c hsym M hc O p x.1 x.2 hx) (fun p q hp hq e => ?_) fun r hr => ?_
  · rw [hp_length] at hp hq
    exact M.inj (List.getElem?_eq_getElem hp) (List.getElem?_eq_getElem hq) e
  · rw [hp_length] at hr
    obtain ⟨p, h1, h2⟩ := M.sur hc (List.getElem?_eq_getElem hr)
    exact ⟨p, by rw [hp_length]; exact (List.getElem?_eq_some_iff.mp h1).1, h2⟩
/-! the other way about -/
theorem fil_get {β : Type} {P : β → Bool} {x : β} (hx : P x = true) : ∀ {l : List β} {p : Nat}, l[p]? = some x → (l.filter P)[((l.take p).filter P).length]? = some x
  | [], _, h => by simp at h
  | y :: l, 0, h => by
    simp at h; subst h
    simp [List.filter_cons, hx]
  | y :: l, p + 1, h => by
    have ih := fil_get hx (l := l) (p := p) (by simpa using h)
    rw [List.take_succ_cons, List.filter_cons, List.filter_cons]
    split
    · simpa using ih
    · exact ih
theorem hp_take_count (xs : List α) (p : Nat) (a : α) : (((hp c xs).take p).filter fun q => decide (q.1 = a)).length = (xs.take p).count a := by
  have e : xs.take p = ((hp c xs).take p).map (·.1) := by rw [List.map_take, hp_fst]
  rw [e, List.count_eq_length_filter, List.filter_map, List.length_map]
  congr 1
theorem sorted_eqs (xs : List α) (a : α) : (((hp c xs).filter fun q => decide (q.1 = a)).map (·.2)).Pairwise (· ≤ ·) := by
  rw [List.pairwise_map, List.pairwise_filter]
  rw [List.pairwise_iff_getElem]
  intro i j hi hj hij h1 h2
  have e1 : (hp c xs)[i].1 = a := by simpa using h1
  have e2 : (hp c xs)[j].1 = a := by simpa using h2
  refine hp_eqs c (ds := xs) (d := a) (Nat.le_of_lt hij) ?_ ?_
  · rw [List.getElem?_eq_getElem hi, ← e1]
  · rw [List.getElem?_eq_getElem hj, ← e2]
theorem perm_hp {xs ys : List α} {f : Nat → Nat} (P : (hp c xs).Perm (hp c ys)) (M : Mate xs ys f) : ∀ (p : Nat) (a : α) (x : Int), (hp c xs)[p]? = some (a, x) → (hp c ys)[f p]? = some (a, x) := by
  intro p a x hx
  obtain ⟨e1, e2, _⟩ := hp_ds c hx
  obtain ⟨m1, m2⟩ := M p a e1
  have same : ((hp c xs).filter fun q => decide (q.1 = a)).map (·.2) = ((hp c ys).filter fun q => decide (q.1 = a)).map (·.2) :=
    List.Perm.eq_of_pairwise (fun _ _ _ _ h h' => Int.le_antisymm h h') (sorted_eqs c xs a) (sorted_eqs c ys a) ((P.filter _).map _)
  have g1 := fil_get (P := fun q : α × Int => decide (q.1 = a)) (x := (a, x)) (by simp) hx
  have g2 := fil_get (P := fun q : α × Int => decide (q.1 = a)) (x := (a, hOf c ((hp c ys).take (f p)) a)) (by simp) (hp_get c m1)
  rw [hp_take_count] at g1 g2
  rw [m2] at g2
  have k1 := congrArg (fun l => l[(xs.take p).count a]?) same
  simp only [List.getElem?_map, g1, g2, Option.map_some] at k1
  injection k1 with k1
  rw [hp_get c m1, k1]
theorem perm_kept {xs ys : List α} {f : Nat → Nat} (hsym : ∀ a b, c a b = c b a) (P : (hp c xs).Perm (hp c ys)) (M : Mate xs ys f) : Kept c xs f := by
  intro p q a b hpq ha hb hc
  have g1 := perm_hp c P M p a _ (hp_get c ha)
  have g2 := perm_hp c P M q b _ (hp_get c hb)
  have lt := hp_clash c hpq (hp_get c ha) (hp_get c hb) hc
  rcases Nat.lt_trichotomy (f p) (f q) with z | z | z
  · exact z
  · have := M.inj ha hb z
    omega
  · have := hp_clash c z g2 g1 (by rw [hsym]; exact hc)
    omega
end
section
variable {α : Type} (c : α → α → Bool)
/-! ### the layers, one behind the other -/
def lvG (n : Nat) : List (List α) → List (α × Int)
  | [] => []
  | r :: rs => r.map (fun a => (a, (n : Int))) ++ lvG (n + 1) rs
theorem lvG_app : ∀ (rs rs' : List (List α)) (n : Nat), lvG n (rs ++ rs') = lvG n rs ++ lvG (n + rs.length) rs'
  | [], _, n => rfl
  | r :: rs, rs', n => by
    show _ ++ lvG (n + 1) (rs ++ rs') = (_ ++ lvG (n + 1) rs) ++ _
    rw [lvG_app rs rs' (n + 1), List.append_assoc, List.length_cons, Nat.add_right_comm, Nat.add_assoc]
theorem lvG_fst : ∀ (rs : List (List α)) (n : Nat), (lvG n rs).map (·.1) = rs.flatten
  | [], _ => rfl
  | r :: rs, n => by
    show ((r.map fun a => (a, (n : Int))) ++ lvG (n + 1) rs).map (·.1) = r ++ rs.flatten
    rw [List.map_append, lvG_fst rs (n + 1), List.map_map]
    congr 1
    exact List.map_id _
theorem mem_lvG : ∀ {rs : List (List α)} {n : Nat} {p : α × Int}, p ∈ lvG n rs ↔ ∃ (k : Nat) (r : List α), rs[k]? = some r ∧ p.1 ∈ r ∧ p.2 = ((n + k : Nat) : Int)
  | [], n, p => by simp [lvG]
  | r :: rs, n, p => by
    show p ∈ (r.map fun a => (a, (n : Int))) ++ lvG (n + 1) rs ↔ _
    rw [List.mem_append, mem_lvG (rs := rs)]
    constructor
    · rintro (h | ⟨k, q, h1, h2, h3⟩)
      · obtain ⟨a, ha, rfl⟩ := List.mem_map.mp h
        exact ⟨0, r, rfl, ha, rfl⟩
      · exact ⟨k + 1, q, by simpa using h1, h2, by rw [h3]; congr 1; omega⟩
    · rintro ⟨k, q, h1, h2, h3⟩
      cases k with
      | zero =>
        left
        have : r = q := by simpa using h1
        subst this
        exact List.mem_map.mpr ⟨p.1, h2, by show (p.1, ((n : Nat) : Int)) = p; rw [show ((n : Nat) : Int) = p.2 from h3.symm]⟩
      | succ k => exact .inr ⟨k, q, by simpa using h1, h2, by rw [h3]; congr 1; omega⟩
theorem row_free (hsym : ∀ a b, c a b = c b a) (ds : List α) (k : Nat) : (rowOf (hp c ds) k).Pairwise fun a b => c a b = false := by
  unfold rowOf
  rw [List.pairwise_map, List.pairwise_filter, List.pairwise_iff_getElem]
  intro i j hi hj hij h1 h2
  have e1 : (hp c ds)[i].2 = (k : Int) := by simpa using h1
  have e2 : (hp c ds)[j].2 = (k : Int) := by simpa using h2
  refine Bool.eq_false_iff.mpr fun z => ?_
  have := hp_clash c (ds := ds) (d := (hp c ds)[i].1) (x := (hp c ds)[i].2) (e := (hp c ds)[j].1) (y := (hp c ds)[j].2) hij (List.getElem?_eq_getElem hi) (List.getElem?_eq_getElem hj) z
  omega
/-- rows that hold the deeds of the layers, in any order -/
def RowsOk (ds : List α) (rs : List (List α)) : Prop := rs.length = nL c ds ∧ ∀ (k : Nat) (r : List α), rs[k]? = some r → r.Perm (rowOf (hp c ds) k)
theorem rows_hp (hsym : ∀ a b, c a b = c b a) {ds : List α} {rs : List (List α)} (R : RowsOk c ds rs) : hp c rs.flatten = lvG 0 rs := by
  have free : ∀ (k : Nat) (r : List α), rs[k]? = some r → r.Pairwise fun a b => c a b = false := fun k r h =>
    ((R.2 k r h).pairwise_iff fun {x y} z => by rw [hsym]; exact z).mpr (row_free c hsym ds k)
  have fr : ∀ (k : Nat) (r : List α), rs[k]? = some r → 0 < k → ∀ d ∈ r, ∃ q e, rs[k - 1]? = some q ∧ e ∈ q ∧ c e d = true := fun k r h hk d hd => by
    have hd' := (R.2 k r h).mem_iff.mp hd
    obtain ⟨p, hp1, e1⟩ := List.mem_map.mp hd'
    obtain ⟨hp2, hp3⟩ := List.mem_filter.mp hp1
    have e3 : p.2 = (k : Int) := by simpa using hp3
    obtain ⟨i, hi⟩ := List.getElem?_of_mem hp2
    obtain ⟨_, e2, _, _⟩ := hp_ds c (d := p.1) (x := p.2) hi
    obtain ⟨q, hq, hc, e4⟩ := hOf_from c (acc := (hp c ds).take i) (d := p.1) (by omega)
    have hq' := List.mem_of_mem_take hq
    have hkl : k < rs.length := (List.getElem?_eq_some_iff.mp h).1
    have hk1 : rs[k - 1]? = some rs[k - 1] := List.getElem?_eq_getElem (by omega)
    refine ⟨rs[k - 1], q.1, hk1, (R.2 _ _ hk1).mem_iff.mpr (List.mem_map.mpr ⟨q, List.mem_filter.mpr ⟨hq', ?_⟩, rfl⟩), by rw [← e1]; exact hc⟩
    have : q.2 = ((k - 1 : Nat) : Int) := by omega
    simp [this]
  have go : ∀ k, k ≤ rs.length → hp c (rs.take k).flatten = lvG 0 (rs.take k) := by
    intro k
    induction k with
    | zero => intro _; rfl
    | succ k ih =>
      intro hk
      have hg : rs[k]? = some rs[k] := List.getElem?_eq_getElem (by omega)
      have e : rs.take (k + 1) = rs.take k ++ [rs[k]] := by rw [List.take_add_one, hg]; rfl
      have hl : (rs.take k).length = k := by rw [List.length_take]; omega
      rw [e, List.flatten_append, lvG_app, hl, Nat.zero_add]
      show hp c ((rs.take k).flatten ++ (rs[k] ++ [])) = lvG 0 (rs.take k) ++ (rs[k].map (fun a => (a, (k : Int))) ++ [])
      rw [List.append_nil, List.append_nil]
      have inner : ∀ m, m ≤ rs[k].length → hp c ((rs.take k).flatten ++ rs[k].take m) = lvG 0 (rs.take k) ++ (rs[k].take m).map fun a => (a, (k : Int)) := by
        intro m
        induction m with
        | zero => intro _; simpa using ih (by omega)
        | succ m ihm =>
          intro hm
          have hgm : rs[k][m]? = some rs[k][m] := List.getElem?_eq_getElem (by omega)
          have em : rs[k].take (m + 1) = rs[k].take m ++ [rs[k][m]] := by rw [List.take_add_one, hgm]; rfl
          rw [em, ← List.append_assoc, hp_snoc, ihm (by omega), List.map_append, List.append_assoc]
          congr 2
          show [_] = [_]
          congr 2
          refine hOf_eq c (fun p hp' hc => ?_) ?_ fun p hp' => ?_
          · rcases List.mem_append.mp hp' with h | h
            · obtain ⟨j, r, h1, h2, h3⟩ := mem_lvG.mp h
              have := (List.getElem?_eq_some_iff.mp h1).1
              rw [hl] at this
              omega
            · obtain ⟨a, ha, rfl⟩ := List.mem_map.mp h
              have hfree := free k _ hg
              rw [← List.take_append_drop (m + 1) rs[k], em] at hfree
              have h1 := (List.pairwise_append.mp hfree).1
              have h2 := (List.pairwise_append.mp h1).2.2 a ha rs[k][m] (by simp)
              rw [h2] at hc
              cases hc
          · by_cases hz : k = 0
            · left; omega
            · right
              obtain ⟨q, e0, h1, h2, h3⟩ := fr k _ hg (by omega) rs[k][m] (List.getElem_mem _)
              refine ⟨(e0, ((k - 1 : Nat) : Int)), List.mem_append_left _ (mem_lvG.mpr ⟨k - 1, q, ?_, h2, by rw [Nat.zero_add]⟩), h3, by show (k : Int) = ((k - 1 : Nat) : Int) + 1; omega⟩
              rw [List.getElem?_take_of_lt (by omega)]; exact h1
          · rcases List.mem_append.mp hp' with h | h
            · obtain ⟨j, r, h1, h2, h3⟩ := mem_lvG.mp h
              omega
            · obtain ⟨a, ha, rfl⟩ := List.mem_map.mp h
              exact Int.natCast_nonneg _
      have := inner rs[k].length (Nat.le_refl _)
      rwa [List.take_of_length_le (Nat.le_refl _)] at this
  have := go rs.length (Nat.le_refl _)
  rwa [List.take_of_length_le (Nat.le_refl _)] at this
end
section
variable {α : Type} [DecidableEq α] (c : α → α → Bool)
theorem lvG_count : ∀ (rs : List (List α)) (n : Nat) (a : α) (x : Int), (lvG n rs).count (a, x) = if (n : Int) ≤ x then ((rs[(x - n).toNat]?).map fun r => r.count a).getD 0 else 0
  | [], n, a, x => by simp [lvG]
  | r :: rs, n, a, x => by
    show ((r.map fun a => (a, (n : Int))) ++ lvG (n + 1) rs).count (a, x) = _
    rw [List.count_append, lvG_count rs (n + 1) a x]
    have h1 : (r.map fun a => (a, (n : Int))).count (a, x) = if x = (n : Int) then r.count a else 0 := by
      rw [List.count_eq_countP, List.countP_map, List.count_eq_countP]
      by_cases e : x = (n : Int)
      · subst e
        rw [if_pos rfl]
        congr 1
        funext b
        show ((b, (n : Int)) == (a, (n : Int))) = (b == a)
        by_cases hb : b = a
        · rw [hb, beq_self_eq_true, beq_self_eq_true]
        · rw [beq_eq_false_iff_ne.mpr hb, beq_eq_false_iff_ne.mpr fun z => hb (Prod.mk.inj z).1]
      · rw [if_neg e]
        refine List.countP_eq_zero.mpr fun b _ => ?_
        show ¬ (((b, (n : Int)) == (a, x)) = true)
        intro z
        have z' := eq_of_beq z
        injection z' with _ z'
        exact e z'.symm
    rw [h1]
    by_cases e : x = (n : Int)
    · subst e
      rw [if_pos rfl, if_neg (by omega), if_pos (Int.le_refl _)]
      simp
    · rw [if_neg e]
      by_cases hlt : (n : Int) ≤ x
      · rw [if_pos hlt, if_pos (by omega)]
        have : (x - (n : Int)).toNat = (x - ((n + 1 : Nat) : Int)).toNat + 1 := by omega
        rw [this, List.getElem?_cons_succ]
        simp
      · rw [if_neg hlt, if_neg (by omega)]
theorem row_count (l : List (α × Int)) (k : Nat) (a : α) : (rowOf l k).count a = l.count (a, (k : Int)) := by
  unfold rowOf
  rw [List.count_eq_countP, List.countP_map, List.countP_filter, List.count_eq_countP]
  rfl
theorem rows_perm (hsym : ∀ a b, c a b = c b a) {ds : List α} {rs : List (List α)} (R : RowsOk c ds rs) : (hp c ds).Perm (hp c rs.flatten) := by
  rw [rows_hp c hsym R, List.perm_iff_count]
  rintro ⟨a, x⟩
  rw [lvG_count]
  by_cases h0 : (0 : Int) ≤ x
  · rw [if_pos (by simpa using h0)]
    have ex : x = ((x.toNat : Nat) : Int) := by omega
    have e : (x - ((0 : Nat) : Int)).toNat = x.toNat := by omega
    rw [e]
    by_cases hk : x.toNat < rs.length
    · have hg : rs[x.toNat]? = some rs[x.toNat] := List.getElem?_eq_getElem hk
      rw [hg]
      show _ = rs[x.toNat].count a
      rw [(R.2 _ _ hg).count a, row_count, ← ex]
    · rw [List.getElem?_eq_none (by omega)]
      show _ = 0
      refine List.count_eq_zero_of_not_mem fun hm => ?_
      have := lt_nL c (ds := ds) (h := x) (List.mem_map.mpr ⟨(a, x), hm, rfl⟩)
      rw [R.1] at hk
      omega
  · rw [if_neg (by simpa using h0)]
    refine List.count_eq_zero_of_not_mem fun hm => ?_
    have := hp_nonneg c ds _ hm
    exact h0 this
/-- equal layers: the same deeds at the same heights -/
theorem perm_of_rows {xs ys : List α} (hn : nL c xs = nL c ys) (h : ∀ k, k < nL c xs → (rowOf (hp c xs) k).Perm (rowOf (hp c ys) k)) : (hp c xs).Perm (hp c ys) := by
  rw [List.perm_iff_count]
  rintro ⟨a, x⟩
  by_cases h0 : 0 ≤ x ∧ x < nL c xs
  · have ex : x = ((x.toNat : Nat) : Int) := by omega
    rw [ex, ← row_count, ← row_count]
    exact (h x.toNat (by omega)).count a
  · rw [List.count_eq_zero_of_not_mem fun hm => ?_, List.count_eq_zero_of_not_mem fun hm => ?_]
    · have h1 := hp_nonneg c ys _ hm
      have h2 := lt_nL c (ds := ys) (h := x) (List.mem_map.mpr ⟨(a, x), hm, rfl⟩)
      rw [← hn] at h2
      exact h0 ⟨h1, h2⟩
    · have h1 := hp_nonneg c xs _ hm
      have h2 := lt_nL c (ds := xs) (h := x) (List.mem_map.mpr ⟨(a, x), hm, rfl⟩)
      exact h0 ⟨h1, h2⟩
theorem rows_of_perm {xs ys : List α} (P : (hp c xs).Perm (hp c ys)) : nL c xs = nL c ys ∧ ∀ k, (rowOf (hp c xs) k).Perm (rowOf (hp c ys) k) := by
  refine ⟨?_, fun k => (P.filter _).map _⟩
  have hm : (hts c xs).Perm (hts c ys) := P.map _
  have : maxD (-1) (hts c xs) = maxD (-1) (hts c ys) := by
    refine maxD_eq (fun y hy => ?_) ?_
    · rcases maxD_spec (-1) (hts c ys) with ⟨e, _⟩ | ⟨_, e⟩
      · rw [hm.mem_iff, e] at hy; cases hy
      · exact e y (hm.mem_iff.mp hy)
    · rcases maxD_spec (-1) (hts c ys) with ⟨e, e2⟩ | ⟨e, _⟩
      · right
        refine ⟨?_, e2⟩
        rw [e] at hm
        exact hm.eq_nil
      · exact .inl (hm.mem_iff.mpr e)
  have h1 := nL_cast c xs
  have h2 := nL_cast c ys
  omega
end
section
variable {α : Type} [DecidableEq α] (c : α → α → Bool)
/-! ### brought one by one -/
inductive Lk : List α → List α → Prop
  | nil : Lk [] []
  | cons {l1 l2 ys : List α} {b : α} : (∀ a ∈ l1, a ≠ b) → (∀ a ∈ l1, c a b = false) → Lk (l1 ++ l2) ys → Lk (l1 ++ b :: l2) (b :: ys)
theorem Lk.perm {xs ys : List α} (h : Lk c xs ys) : xs.Perm ys := by
  induction h with
  | nil => exact .refl _
  | @cons l1 l2 ys b _ _ _ ih => exact List.perm_middle.trans (ih.cons b)
/-- the partners once b is brought ahead: g tells those of the rest -/
def mUp (n : Nat) (g : Nat → Nat) (p : Nat) : Nat := if p < n then g p + 1 else if p = n then 0 else g (p - 1) + 1
theorem Lk.mate {xs ys : List α} (h : Lk c xs ys) : ∃ f, Mate xs ys f ∧ Kept c xs f := by
  induction h with
  | nil => exact ⟨id, (fun p a h => by simp at h), fun p q a b _ h => by simp at h⟩
  | @cons l1 l2 ys b hne hfree _ ih =>
    obtain ⟨g, M, O⟩ := ih
    have lo : ∀ {p : Nat}, p < l1.length → (l1 ++ b :: l2)[p]? = (l1 ++ l2)[p]? := fun {p} h => by rw [List.getElem?_append_left h, List.getElem?_append_left h]
    have hi : ∀ {p : Nat}, l1.length < p → (l1 ++ b :: l2)[p]? = (l1 ++ l2)[p - 1]? := fun {p} h => by
      rw [List.getElem?_append_right (by omega), List.getElem?_append_right (by omega)]
      have : p - l1.length = (p - 1 - l1.length) + 1 := by omega
      rw [this, List.getElem?_cons_succ]
    have at' : (l1 ++ b :: l2)[l1.length]? = some b := by rw [List.getElem?_append_right (Nat.le_refl _), Nat.sub_self]; rfl
    have tlo : ∀ {p : Nat}, p ≤ l1.length → (l1 ++ b :: l2).take p = (l1 ++ l2).take p := fun {p} h => by rw [List.take_append_of_le_length h, List.take_append_of_le_length h]
    have thi : ∀ {p : Nat} (a : α), l1.length < p → ((l1 ++ b :: l2).take p).count a = ((l1 ++ l2).take (p - 1)).count a + if b = a then 1 else 0 := fun {p} a h => by
      have e : p = l1.length + ((p - 1 - l1.length) + 1) := by omega
      have e2 : p - 1 = l1.length + (p - 1 - l1.length) := by omega
      rw [e2, e, List.take_length_add_append, List.take_length_add_append]
      have : l1.length + ((p - 1 - l1.length) + 1) - 1 - l1.length = p - 1 - l1.length := by omega
      rw [List.take_succ_cons, List.count_append, List.count_append, List.count_cons, this]
      simp only [beq_iff_eq]
      rw [Nat.add_assoc]
    have m0 : ∀ {p : Nat}, p < l1.length → mUp l1.length g p = g p + 1 := fun {p} h => by unfold mUp; rw [if_pos h]
    have m1 : mUp l1.length g l1.length = 0 := by unfold mUp; rw [if_neg (Nat.lt_irrefl _), if_pos rfl]
    have m2 : ∀ {p : Nat}, l1.length < p → mUp l1.length g p = g (p - 1) + 1 := fun {p} h => by unfold mUp; rw [if_neg (by omega), if_neg (by omega)]
    refine ⟨mUp l1.length g, fun p a hp => ?_, fun p q a a' hpq ha ha' hc => ?_⟩
    · rcases Nat.lt_trichotomy p l1.length with z | z | z
      · rw [m0 z]
        rw [lo z] at hp
        obtain ⟨h1, h2⟩ := M p a hp
        have hab : b ≠ a := by
          rw [List.getElem?_append_left z] at hp
          exact fun e => hne a (List.mem_of_getElem? hp) e.symm
        refine ⟨by rw [List.getElem?_cons_succ]; exact h1, ?_⟩
        rw [List.take_succ_cons, List.count_cons_of_ne hab, h2, tlo (Nat.le_of_lt z)]
      · subst z
        rw [at'] at hp
        cases hp
        rw [m1]
        refine ⟨rfl, ?_⟩
        rw [tlo (Nat.le_refl _), List.take_left']
        · show 0 = _
          exact (List.count_eq_zero_of_not_mem fun hm => hne b hm rfl).symm
        · rfl
      · rw [m2 z]
        rw [hi z] at hp
        obtain ⟨h1, h2⟩ := M (p - 1) a hp
        refine ⟨by rw [List.getElem?_cons_succ]; exact h1, ?_⟩
        rw [List.take_succ_cons, List.count_cons, h2, thi a z]
        simp only [beq_iff_eq]
    · rcases Nat.lt_trichotomy p l1.length with z | z | z
      · rcases Nat.lt_trichotomy q l1.length with y | y | y
        · rw [m0 z, m0 y]
          rw [lo z] at ha
          rw [lo y] at ha'
          exact Nat.succ_lt_succ (O p q a a' hpq ha ha' hc)
        · subst y
          rw [at'] at ha'
          cases ha'
          rw [List.getElem?_append_left z] at ha
          rw [hfree a (List.mem_of_getElem? ha)] at hc
          cases hc
        · rw [m0 z, m2 y]
          rw [lo z] at ha
          rw [hi y] at ha'
          exact Nat.succ_lt_succ (O p (q - 1) a a' (by omega) ha ha' hc)
      · subst z
        rw [m1, m2 hpq]
        exact Nat.succ_pos _
      · rw [m2 z, m2 (Nat.lt_trans z hpq)]
        rw [hi z] at ha
        rw [hi (Nat.lt_trans z hpq)] at ha'
        exact Nat.succ_lt_succ (O (p - 1) (q - 1) a a' (by omega) ha ha' hc)
/-- partners are told in one way -/
theorem Mate.uniq {xs ys : List α} {f g : Nat → Nat} (M : Mate xs ys f) (N : Mate xs ys g) {p : Nat} (h : p < xs.length) : f p = g p := by
  obtain ⟨h1, h2⟩ := M p _ (List.getElem?_eq_getElem h)
  obtain ⟨h3, h4⟩ := N p _ (List.getElem?_eq_getElem h)
  exact occ_inj h1 h3 (by rw [h2, h4])
theorem first_split {b : α} : ∀ {l : List α}, b ∈ l → ∃ l1 l2, l = l1 ++ b :: l2 ∧ ∀ a ∈ l1, a ≠ b
  | [], h => by cases h
  | x :: l, h => by
    by_cases e : x = b
    · subst e; exact ⟨[], l, rfl, (fun a h => by cases h)⟩
    · rcases List.mem_cons.mp h with z | z
      · exact absurd z.symm e
      · obtain ⟨l1, l2, e1, e2⟩ := first_split z
        refine ⟨x :: l1, l2, by rw [e1]; rfl, fun a ha => ?_⟩
        rcases List.mem_cons.mp ha with rfl | ha
        · exact e
        · exact e2 a ha
/-- what the rest's partners are -/
theorem Mate.rest {l1 l2 ys : List α} {b : α} {f : Nat → Nat} (M : Mate (l1 ++ b :: l2) (b :: ys) f) (hne : ∀ a ∈ l1, a ≠ b) : f l1.length = 0 ∧ Mate (l1 ++ l2) ys (fun p => if p < l1.length then f p - 1 else f (p + 1) - 1) ∧ ∀ p, p < (l1 ++ b :: l2).length → p ≠ l1.length → 0 < f p := by
  have at' : (l1 ++ b :: l2)[l1.length]? = some b := by rw [List.getElem?_append_right (Nat.le_refl _), Nat.sub_self]; rfl
  have c0 : ((l1 ++ b :: l2).take l1.length).count b = 0 := by
    rw [List.take_left']
    · exact List.count_eq_zero_of_not_mem fun hm => hne b hm rfl
    · rfl
  have f0 : f l1.length = 0 := by
    obtain ⟨h1, h2⟩ := M _ b at'
    exact occ_inj (l := b :: ys) (a := b) h1 rfl (by rw [h2, c0]; rfl)
  have pos : ∀ p, p < (l1 ++ b :: l2).length → p ≠ l1.length → 0 < f p := fun p hp hn => by
    rcases Nat.eq_zero_or_pos (f p) with z | z
    · exact absurd (M.inj (List.getElem?_eq_getElem hp) at' (by rw [z, f0])) hn
    · exact z
  refine ⟨f0, fun p a hp => ?_, pos⟩
  by_cases z : p < l1.length
  · simp only [if_pos z]
    have hp' : (l1 ++ b :: l2)[p]? = some a := by rw [List.getElem?_append_left z] at hp ⊢; exact hp
    obtain ⟨h1, h2⟩ := M p a hp'
    have hpos := pos p (List.getElem?_eq_some_iff.mp hp').1 (by omega)
    have hab : b ≠ a := by
      rw [List.getElem?_append_left z] at hp
      exact fun e => hne a (List.mem_of_getElem? hp) e.symm
    have e : f p = (f p - 1) + 1 := by omega
    rw [e, List.getElem?_cons_succ] at h1
    rw [e, List.take_succ_cons, List.count_cons_of_ne hab, List.take_append_of_le_length (Nat.le_of_lt z)] at h2
    exact ⟨h1, by rw [h2, List.take_append_of_le_length (Nat.le_of_lt z)]⟩
  · simp only [if_neg z]
    have hp' : (l1 ++ b :: l2)[p + 1]? = some a := by
      rw [List.getElem?_append_right (by omega)] at hp ⊢
      have : p + 1 - l1.length = (p - l1.length) + 1 := by omega
      rw [this, List.getElem?_cons_succ]; exact hp
    obtain ⟨h1, h2⟩ := M (p + 1) a hp'
    have hpos := pos (p + 1) (List.getElem?_eq_some_iff.mp hp').1 (by omega)
    have e : f (p + 1) = (f (p + 1) - 1) + 1 := by omega
    rw [e, List.getElem?_cons_succ] at h1
    refine ⟨h1, ?_⟩
    have e3 : p + 1 = l1.length + ((p - l1.length) + 1) := by omega
    have e4 : p = l1.length + (p - l1.length) := by omega
    have t1 : (l1 ++ b :: l2).take (p + 1) = l1 ++ b :: l2.take (p - l1.length) := by
      rw [e3, List.take_length_add_append, List.take_succ_cons]
    have t2 : (l1 ++ l2).take p = l1 ++ l2.take (p - l1.length) := by
      conv => lhs; rw [e4]
      rw [List.take_length_add_append]
    rw [e, List.take_succ_cons, t1, List.count_cons, List.count_append, List.count_cons] at h2
    rw [t2, List.count_append]
    omega
theorem Kept.lk : ∀ {ys xs : List α} {f : Nat → Nat}, Mate xs ys f → xs.length = ys.length → Kept c xs f → Lk c xs ys
  | [], xs, _, _, hl, _ => by rw [List.length_eq_zero_iff.mp hl]; exact .nil
  | b :: ys, xs, f, M, hl, O => by
    have hb : b ∈ xs := by
      have := count_sum_le M.count hl b
      rw [List.count_cons_self] at this
      exact List.count_pos_iff.mp (by omega)
    obtain ⟨l1, l2, rfl, hne⟩ := first_split hb
    obtain ⟨f0, M', pos⟩ := M.rest hne
    have at' : (l1 ++ b :: l2)[l1.length]? = some b := by rw [List.getElem?_append_right (Nat.le_refl _), Nat.sub_self]; rfl
    refine .cons hne (fun a ha => Bool.eq_false_iff.mpr fun hc => ?_) (Kept.lk M' (by rw [List.length_append, List.length_cons, List.length_cons] at hl; rw [List.length_append]; omega) fun p q a a' hpq ha ha' hc => ?_)
    · obtain ⟨p, hp⟩ := List.getElem?_of_mem ha
      have hpl : p < l1.length := (List.getElem?_eq_some_iff.mp hp).1
      have := O p l1.length a b hpl (by rw [List.getElem?_append_left hpl]; exact hp) at' hc
      omega
    · have hq : ∀ {p : Nat} {a : α}, (l1 ++ l2)[p]? = some a → (l1 ++ b :: l2)[if p < l1.length then p else p + 1]? = some a := fun {p a} h => by
        by_cases z : p < l1.length
        · rw [if_pos z]
          rw [List.getElem?_append_left z] at h ⊢
          exact h
        · rw [if_neg z]
          rw [List.getElem?_append_right (by omega)] at h ⊢
          have : p + 1 - l1.length = (p - l1.length) + 1 := by omega
          rw [this, List.getElem?_cons_succ]; exact h
      have k := O (if p < l1.length then p else p + 1) (if q < l1.length then q else q + 1) a a' (by split <;> split <;> omega) (hq ha) (hq ha') hc
      have g1 := pos _ (List.getElem?_eq_some_iff.mp (hq ha)).1 (by split <;> omega)
      have g2 := pos _ (List.getElem?_eq_some_iff.mp (hq ha')).1 (by split <;> omega)
      by_cases z1 : p < l1.length
      · rw [if_pos z1] at k g1
        simp only [if_pos z1]
        by_cases z2 : q < l1.length
        · rw [if_pos z2] at k g2
          simp only [if_pos z2]
          omega
        · rw [if_neg z2] at k g2
          simp only [if_neg z2]
          omega
      · rw [if_neg z1] at k g1
        simp only [if_neg z1]
        by_cases z2 : q < l1.length
        · omega
        · rw [if_neg z2] at k g2
          simp only [if_neg z2]
          omega
end
end L2

end

section
namespace L2
open PySem PySem.Spec PyProof.Rows

/-! ### what a value tells, as a tree -/
mutual
inductive Dat (H : Hp) : V → PyData → Prop
  | non : Dat H .non .none
  | bl (b : Bool) : Dat H (.bl b) (.bool b)
  | int (i : Int) : Dat H (.int i) (.int i)
  | str (x : Str) (hx : (PyData.str x).canLay0 = true) : Dat H (.str x) (.str x)
  | lst {a : Addr} {vs : List V} {ds : List PyData} : H a = some (.lst vs) → DatAll H vs ds → Dat H (.ref a) (.list ds)
  | tup {a : Addr} {vs : List V} {ds : List PyData} : H a = some (.tup vs) → DatAll H vs ds → Dat H (.ref a) (.tuple ds)
inductive DatAll (H : Hp) : List V → List PyData → Prop
  | nil : DatAll H [] []
  | cons {v : V} {d : PyData} {vs : List V} {ds : List PyData} : Dat H v d → DatAll H vs ds → DatAll H (v :: vs) (d :: ds)
end
theorem DatAll.paired {H : Hp} : ∀ {vs : List V} {ds : List PyData}, DatAll H vs ds → Paired (Dat H) vs ds
  | _, _, .nil => .nil
  | _, _, .cons h t => .cons h t.paired
theorem DatAll.of {H : Hp} : ∀ {vs : List V} {ds : List PyData}, Paired (Dat H) vs ds → DatAll H vs ds
  | _, _, .nil => .nil
  | _, _, .cons h t => .cons h (DatAll.of t)
theorem DatAll.length {H : Hp} : ∀ {vs : List V} {ds : List PyData}, DatAll H vs ds → vs.length = ds.length
  | _, _, .nil => rfl
  | _, _, .cons _ t => congrArg Nat.succ t.length
theorem DatAll.map {β : Type} {H : Hp} {f : β → PyData} {P : V → β → Prop} (hf : ∀ v b, P v b → Dat H v (f b)) : ∀ {vs : List V} {bs : List β}, Paired P vs bs → DatAll H vs (bs.map f)
  | _, _, .nil => .nil
  | _, _, .cons h t => .cons (hf _ _ h) (DatAll.map hf t)
mutual
theorem Dat.lay {H : Hp} : ∀ (d : PyData) {v : V}, Dat H v d → d.canLay0 = true
  | .none, _, _ => rfl
  | .bool _, _, _ => rfl
  | .int _, _, _ => rfl
  | .str _, _, h => by cases h with | str _ hx => exact hx
  | .list ds, _, h => by cases h with | lst _ h => exact DatAll.lay ds h
  | .tuple ds, _, h => by cases h with | tup _ h => exact DatAll.lay ds h
  | .dict _, _, h => by cases h
theorem DatAll.lay {H : Hp} : ∀ (ds : List PyData) {vs : List V}, DatAll H vs ds → PyData.canLayAll0 ds = true
  | [], _, _ => rfl
  | d :: ds, _, h => by
    cases h with
    | cons h1 h2 =>
      show (d.canLay0 && PyData.canLayAll0 ds) = true
      rw [Dat.lay d h1, DatAll.lay ds h2]; rfl
end
mutual
theorem Dat.same {H H' : Hp} (S : Same H H') : ∀ (d : PyData) {v : V}, Dat H v d → Dat H' v d
  | .none, _, h => by cases h; exact .non
  | .bool _, _, h => by cases h; exact .bl _
  | .int _, _, h => by cases h; exact .int _
  | .str _, _, h => by cases h with | str _ hx => exact .str _ hx
  | .list ds, _, h => by cases h with | lst e h => exact .lst (S _ _ e) (DatAll.same S ds h)
  | .tuple ds, _, h => by cases h with | tup e h => exact .tup (S _ _ e) (DatAll.same S ds h)
  | .dict _, _, h => by cases h
theorem DatAll.same {H H' : Hp} (S : Same H H') : ∀ (ds : List PyData) {vs : List V}, DatAll H vs ds → DatAll H' vs ds
  | [], _, h => by cases h; exact .nil
  | d :: ds, _, h => by cases h with | cons h1 h2 => exact .cons (Dat.same S d h1) (DatAll.same S ds h2)
end
section
variable {X : Cx} {pins : List (Addr × Obj)} {σ : St} {H : Hp} {s : Shared}
mutual
theorem Inv.dat (I : Inv X pins σ H s) : ∀ (d : PyData) {v : V} {u : Value}, Dat H v d → RelV v u → ∃ as, Reads s.heap u d as
  | .none, _, _, h, r => by cases h; cases r; exact ⟨_, .none⟩
  | .bool _, _, _, h, r => by cases h; cases r; exact ⟨_, .bool _⟩
  | .int _, _, _, h, r => by cases h; obtain ⟨t, rfl⟩ := r; exact ⟨_, .int _ _⟩
  | .str _, _, _, h, r => by cases h; obtain ⟨t, rfl⟩ := r; exact ⟨_, .str _ _⟩
  | .list ds, _, _, h, r => by
    cases h with
    | lst e h =>
      cases r
      obtain ⟨_, its, n, rv, g⟩ := I.hok _ _ e
      obtain ⟨as, q⟩ := Inv.datAll I ds h rv
      exact ⟨_, .list g rfl rfl (by simpa using q)⟩
  | .tuple ds, _, _, h, r => by
    cases h with
    | tup e h =>
      cases r
      obtain ⟨_, its, rv, o, g1, g2, n, g3⟩ := I.hok _ _ e
      obtain ⟨as, q⟩ := Inv.datAll I ds h rv
      exact ⟨_, .tuple g1 g2 g3 (by simpa using q)⟩
  | .dict _, _, _, h, _ => by cases h
theorem Inv.datAll (I : Inv X pins σ H s) : ∀ (ds : List PyData) {vs : List V} {us : List Value}, DatAll H vs ds → Vals vs us → ∃ as, ReadsAll s.heap us ds as
  | [], _, _, h, r => by cases h; cases r; exact ⟨_, .nil⟩
  | d :: ds, _, _, h, r => by
    cases h with
    | cons h1 h2 =>
      cases r with
      | cons r1 r2 =>
        obtain ⟨as, q⟩ := Inv.dat I d h1 r1
        obtain ⟨bs, q'⟩ := Inv.datAll I ds h2 r2
        exact ⟨_, .cons q q'⟩
end
end
/-! ### == and != of such values -/
def rEqD : R2 := fun x y H Q => ∃ d e, Dat H x d ∧ Dat H y e ∧ d.depth ≤ 60 ∧ Q (.bl (PyData.eqv d e)) H
def rNeD : R2 := fun x y H Q => ∃ d e, Dat H x d ∧ Dat H y e ∧ d.depth ≤ 60 ∧ Q (.bl (!PyData.eqv d e)) H
theorem op_eqD {X : Cx} (hu : X.A.units + 64 < cLine) : OpR X (compareOp .Eq) rEqD := by
  intro pins s σ H x y v u Q I rx ry h
  obtain ⟨d, e, hd, he, dp, q⟩ := h
  obtain ⟨as, r1⟩ := I.dat d hd rx
  obtain ⟨bs, r2⟩ := I.dat e he ry
  exact SeqAt.compareEq_reads r1 r2 (Dat.lay d hd) (Dat.lay e he) (by omega) ⟨.bl _, H, I, rfl, q⟩
theorem op_neD {X : Cx} (hu : X.A.units + 64 < cLine) : OpR X (compareOp .NotEq) rNeD := by
  intro pins s σ H x y v u Q I rx ry h
  obtain ⟨d, e, hd, he, dp, q⟩ := h
  obtain ⟨as, r1⟩ := I.dat d hd rx
  obtain ⟨bs, r2⟩ := I.dat e he ry
  exact SeqAt.compareNe_reads r1 r2 (Dat.lay d hd) (Dat.lay e he) (by omega) ⟨.bl _, H, I, rfl, q⟩

/-! ### ways to tell things as trees that tell them apart -/
structure Enc {β : Type} (f : β → PyData) (k : Nat) : Prop where
  inj : ∀ x y, PyData.eqv (f x) (f y) = true ↔ x = y
  dep : ∀ x, (f x).depth ≤ k
theorem Enc.dec {β : Type} [DecidableEq β] {f : β → PyData} {k : Nat} (h : Enc f k) (x y : β) : PyData.eqv (f x) (f y) = decide (x = y) := by
  by_cases e : x = y
  · rw [decide_eq_true e]; exact (h.inj x y).mpr e
  · rw [decide_eq_false e]; exact Bool.eq_false_iff.mpr fun z => e ((h.inj x y).mp z)
theorem enc_int : Enc PyData.int 0 := ⟨fun x y => by show (x == y) = true ↔ _; exact beq_iff_eq, fun _ => Nat.le_refl _⟩
theorem enc_all {β : Type} {f : β → PyData} {k : Nat} (h : Enc f k) : ∀ (xs ys : List β), PyData.eqvAll (xs.map f) (ys.map f) = true ↔ xs = ys
  | [], [] => by simp [PyData.eqvAll]
  | [], _ :: _ => by simp [PyData.eqvAll]
  | _ :: _, [] => by simp [PyData.eqvAll]
  | x :: xs, y :: ys => by
    show (PyData.eqv (f x) (f y) && PyData.eqvAll (xs.map f) (ys.map f)) = true ↔ _
    rw [Bool.and_eq_true, h.inj, enc_all h xs ys]
    constructor
    · rintro ⟨rfl, rfl⟩; rfl
    · intro e; injection e with e1 e2; exact ⟨e1, e2⟩
theorem dep_all {β : Type} {f : β → PyData} {k : Nat} (h : ∀ x, (f x).depth ≤ k) : ∀ (xs : List β), PyData.depthAll (xs.map f) ≤ k
  | [] => Nat.zero_le _
  | x :: xs => Nat.max_le.mpr ⟨h x, dep_all h xs⟩
theorem enc_list {β : Type} {f : β → PyData} {k : Nat} (h : Enc f k) : Enc (fun xs : List β => PyData.list (xs.map f)) (k + 1) :=
  ⟨fun xs ys => by rw [PyData.eqv]; exact enc_all h xs ys, fun xs => Nat.succ_le_succ (dep_all h.dep xs)⟩
/-- a deed -/
def dD (d : D3) : PyData := .tuple [.int d.1, .int d.2.1, .int d.2.2]
theorem enc_dD : Enc dD 1 := by
  refine ⟨fun x y => ?_, fun x => Nat.le_refl _⟩
  have e : PyData.eqv (dD x) (dD y) = ((x.1 == y.1) && ((x.2.1 == y.2.1) && ((x.2.2 == y.2.2) && true))) := by
    unfold dD
    simp only [PyData.eqv, PyData.eqvAll]
  rw [e]
  obtain ⟨a, b, c⟩ := x
  obtain ⟨a', b', c'⟩ := y
  simp
theorem T3.dat {H : Hp} {v : V} {d : D3} (h : T3 H v d) : Dat H v (dD d) := by
  obtain ⟨a, rfl, e⟩ := h
  exact .tup e (.cons (.int _) (.cons (.int _) (.cons (.int _) .nil)))
theorem T3.of {H : Hp} {v : V} {d : D3} (h : Dat H v (dD d)) : T3 H v d := by
  cases h with
  | tup e h =>
    cases h with
    | cons h1 h =>
      cases h with
      | cons h2 h =>
        cases h with
        | cons h3 h =>
          cases h
          cases h1; cases h2; cases h3
          exact ⟨_, rfl, e⟩
/-- a list of ints -/
def dI (ns : List Int) : PyData := .list (ns.map .int)
theorem enc_dI : Enc dI 1 := enc_list enc_int
theorem dat_ints {H : Hp} {a : Addr} {ns : List Int} (h : H a = some (.lst (ns.map V.int))) : Dat H (.ref a) (dI ns) := by
  refine .lst h ?_
  clear h
  induction ns with
  | nil => exact .nil
  | cons n ns ih => exact .cons (.int n) ih
/-- a list of deeds -/
def dL (ds : List D3) : PyData := .list (ds.map dD)
theorem enc_dL : Enc dL 2 := enc_list enc_dD
/-- the list at a holds the deeds ds -/
def LD (H : Hp) (a : Addr) (ds : List D3) : Prop := ∃ vs, H a = some (.lst vs) ∧ Paired (T3 H) vs ds
theorem LD.same {H H' : Hp} {a : Addr} {ds : List D3} (S : Same H H') (h : LD H a ds) : LD H' a ds := let ⟨vs, e, p⟩ := h; ⟨vs, S _ _ e, stab_T3.list S p⟩
theorem LD.dat {H : Hp} {a : Addr} {ds : List D3} (h : LD H a ds) : Dat H (.ref a) (dL ds) := let ⟨_, e, p⟩ := h; .lst e (DatAll.map (fun _ _ z => T3.dat z) p)
end L2

end

section
namespace L2
open PySem PySem.Spec PyProof.Rows

/-! ### the law's own sameness: ints, tuples, lists alone -/
mutual
def itl : PyData → Bool
  | .int _ => true
  | .list xs => itlAll xs
  | .tuple xs => itlAll xs
  | _ => false
def itlAll : List PyData → Bool
  | [] => true
  | x :: xs => itl x && itlAll xs
end
theorem itl_all {β : Type} {f : β → PyData} (h : ∀ x, itl (f x) = true) : ∀ xs : List β, itlAll (xs.map f) = true
  | [] => rfl
  | x :: xs => by show (itl (f x) && itlAll (xs.map f)) = true; rw [h x, itl_all h xs]; rfl
theorem itl_dI (ns : List Int) : itl (dI ns) = true := itl_all (fun _ => rfl) ns
theorem itl_dD (d : D3) : itl (dD d) = true := rfl
theorem itl_dL (ds : List D3) : itl (dL ds) = true := itl_all itl_dD ds
theorem itlAll_get : ∀ {xs : List PyData} {i : Nat} {x : PyData}, itlAll xs = true → xs[i]? = some x → itl x = true
  | [], _, _, _, e => by simp at e
  | y :: xs, i, x, h, e => by
    have h' : itl y = true ∧ itlAll xs = true := by
      have : (itl y && itlAll xs) = true := h
      simpa using this
    cases i with
    | zero => simp at e; subst e; exact h'.1
    | succ i => exact itlAll_get h'.2 (by simpa using e)
theorem dep_get : ∀ {xs : List PyData} {i : Nat} {x : PyData}, xs[i]? = some x → x.depth ≤ PyData.depthAll xs
  | [], _, _, e => by simp at e
  | y :: xs, i, x, e => by
    show _ ≤ max y.depth (PyData.depthAll xs)
    cases i with
    | zero => simp at e; subst e; exact Nat.le_max_left _ _
    | succ i => exact Nat.le_trans (dep_get (xs := xs) (i := i) (by simpa using e)) (Nat.le_max_right _ _)
theorem eqvAll_take : ∀ {xs ys : List PyData} {i : Nat} {x y : PyData}, PyData.eqvAll (xs.take i) (ys.take i) = true → xs[i]? = some x → ys[i]? = some y → PyData.eqvAll (xs.take (i + 1)) (ys.take (i + 1)) = PyData.eqv x y
  | [], _, _, _, _, _, e, _ => by simp at e
  | _ :: _, [], _, _, _, _, _, e => by simp at e
  | a :: xs, b :: ys, 0, x, y, _, e1, e2 => by
    simp at e1 e2; subst e1 e2
    show (PyData.eqv a b && PyData.eqvAll [] []) = _
    rw [show PyData.eqvAll [] [] = true from by simp [PyData.eqvAll], Bool.and_true]
  | a :: xs, b :: ys, i + 1, x, y, h, e1, e2 => by
    have h' : (PyData.eqv a b && PyData.eqvAll (xs.take i) (ys.take i)) = true := h
    rw [Bool.and_eq_true] at h'
    show (PyData.eqv a b && PyData.eqvAll (xs.take (i + 1)) (ys.take (i + 1))) = _
    rw [h'.1, Bool.true_and]
    exact eqvAll_take h'.2 (by simpa using e1) (by simpa using e2)
theorem eqvAll_bad : ∀ {xs ys : List PyData} {i : Nat} {x y : PyData}, xs[i]? = some x → ys[i]? = some y → PyData.eqv x y = false → PyData.eqvAll xs ys = false
  | [], _, _, _, _, e, _, _ => by simp at e
  | _ :: _, [], _, _, _, _, e, _ => by simp at e
  | a :: xs, b :: ys, 0, x, y, e1, e2, h => by
    simp at e1 e2; subst e1 e2
    show (PyData.eqv a b && _) = false
    rw [h]; rfl
  | a :: xs, b :: ys, i + 1, x, y, e1, e2, h => by
    show (PyData.eqv a b && PyData.eqvAll xs ys) = false
    rw [eqvAll_bad (xs := xs) (ys := ys) (i := i) (by simpa using e1) (by simpa using e2) h, Bool.and_false]
theorem DatAll.get {H : Hp} {vs : List V} {ds : List PyData} {i : Nat} {v : V} (h : DatAll H vs ds) (e : vs[i]? = some v) : ∃ d, ds[i]? = some d ∧ Dat H v d := Paired.getL h.paired e
section
variable {K : PySem.W.Frag}
theorem kit_same {n : String} : PySem.W.kitOne K (.type n) (.type n) = some true := if_pos (beq_self_eq_true _)
theorem kit_int_bool : PySem.W.kitOne K (.type "int") (.type "bool") = some false := by kernel_rfl
theorem kit_int_tuple : PySem.W.kitOne K (.type "int") (.type "tuple") = some false := by kernel_rfl
theorem kit_int_list : PySem.W.kitOne K (.type "int") (.type "list") = some false := by kernel_rfl
theorem kit_tuple_int : PySem.W.kitOne K (.type "tuple") (.type "int") = some false := by kernel_rfl
theorem kit_tuple_list : PySem.W.kitOne K (.type "tuple") (.type "list") = some false := by kernel_rfl
theorem kit_list_int : PySem.W.kitOne K (.type "list") (.type "int") = some false := by kernel_rfl
theorem kit_list_tuple : PySem.W.kitOne K (.type "list") (.type "tuple") = some false := by kernel_rfl
end
def spSame (n : Nat) : Sp := fun vs H Q _ => ∃ x y d e, vs = [x, y] ∧ Dat H x d ∧ Dat H y e ∧ itl d = true ∧ itl e = true ∧ e.depth ≤ n ∧ ∀ H', Same H H' → Q (.bl (PyData.eqv d e)) H'
/-- what is told of the same, of two of a kind -/
theorem spSame.of {β : Type} [DecidableEq β] {f : β → PyData} {k n : Nat} (hE : Enc f k) (hi : ∀ b, itl (f b) = true) (hk : k ≤ n) {x y : V} {b b' : β} {H : Hp} {Q : VK} {E : XK} (hx : Dat H x (f b)) (hy : Dat H y (f b')) (q : ∀ H', Same H H' → Q (.bl (decide (b = b'))) H') : spSame n [x, y] H Q E :=
  ⟨x, y, _, _, rfl, hx, hy, hi b, hi b', Nat.le_trans (hE.dep b') hk, fun H' S => by rw [hE.dec]; exact q H' S⟩
theorem spSame.int {n : Nat} {i j : Int} {H : Hp} {Q : VK} {E : XK} (q : ∀ H', Same H H' → Q (.bl (decide (i = j))) H') : spSame n [.int i, .int j] H Q E :=
  spSame.of enc_int (fun _ => rfl) (Nat.zero_le _) (.int _) (.int _) q
/-! ### the drawn diary -/
theorem okD_of {x a b : Int} (h1 : R60 a) (h2 : R60 b) : okD (x, a, b) := by
  unfold R60 at h1 h2
  refine ⟨⟨h1.1, ?_⟩, h2.1, ?_⟩
  · show a < 2 ^ 60
    omega
  · show b < 2 ^ 60
    omega
theorem cut_ints (ns : List Int) (lo hi : Option Int) : ∃ ms : List Int, cutV (ns.map V.int) lo hi = ms.map V.int ∧ ms.length ≤ ns.length := by
  have h := cutV_length (ns.map V.int) lo hi
  unfold cutV at h ⊢
  rw [← List.map_drop, ← List.map_take] at h ⊢
  refine ⟨_, rfl, ?_⟩
  simp only [List.length_map] at h ⊢
  exact h
def spDiary (K : PySem.W.Frag) : Sp := fun vs H Q _ => ∃ (a : Addr) (ns : List Int) (m : Int), vs = [.ref a, .int m] ∧ SqL K H a (ns.map V.int) ∧ ns.length ≤ 63 ∧
  ∀ r H' ds, Same H H' → H r = none → LD H' r ds → (∀ d ∈ ds, okD d) → ds.length ≤ 63 → Q (.ref r) H'
/-- a deed of a good size stands there -/
def DP (H : Hp) (v : V) (_ : Unit) : Prop := ∃ d, T3 H v d ∧ okD d
theorem stab_DP : Stab DP := ⟨fun S ⟨d, h, o⟩ => ⟨d, h.same S, o⟩, fun hl ⟨d, h, o⟩ => ⟨d, h.wr hl, o⟩⟩
theorem deeds_of {H : Hp} : ∀ {vs : List V} {us : List Unit}, Paired (DP H) vs us → ∃ ds : List D3, Paired (T3 H) vs ds ∧ (∀ d ∈ ds, okD d) ∧ ds.length = us.length
  | _, _, .nil => ⟨[], .nil, (fun _ h => nomatch h), rfl⟩
  | _, _, .cons ⟨d, h, o⟩ t => by
    obtain ⟨ds, p, q, e⟩ := deeds_of t
    refine ⟨d :: ds, .cons h p, fun x hx => ?_, congrArg Nat.succ e⟩
    rcases List.mem_cons.mp hx with rfl | hx
    · exact o
    · exact q x hx
end L2
namespace L2
open PySem PySem.Spec PyProof.Rows
/-! ### heights -/
def spBehind : Sp := fun vs H Q _ => ∃ (a b : Addr) (x : V) (ds : List D3) (hs : List Int) (d : D3), vs = [.ref a, .ref b, x] ∧ LD H a ds ∧ ds.length < sizeLine ∧ H b = some (.lst (hs.map V.int)) ∧ T3 H x d ∧
  ∀ H', Same H H' → Q (.int (hOf clashB (ds.zip hs) d)) H'
def spHeights : Sp := fun vs H Q _ => ∃ (a : Addr) (ds : List D3), vs = [.ref a] ∧ LD H a ds ∧ ds.length < sizeLine ∧
  ∀ r H', Same H H' → H r = none → H' r = some (.lst ((hts clashB ds).map V.int)) → Q (.ref r) H'
end L2
namespace L2
open PySem PySem.Spec PyProof.Rows
theorem zip_pre {α β : Type} : ∀ (xs : List α) (ys : List β), xs.zip ys = (xs.take ys.length).zip ys
  | [], _ => by simp
  | _ :: _, [] => by simp
  | x :: xs, y :: ys => by simp [← zip_pre xs ys]
theorem zip_hts {α : Type} (c : α → α → Bool) (ds : List α) {i : Nat} (hi : i ≤ ds.length) : ds.zip (hts c (ds.take i)) = hp c (ds.take i) := by
  rw [zip_pre, hts_length, List.length_take, Nat.min_eq_left hi, hp_zip]
theorem ints_get {hs : List Int} {i : Nat} {y : V} (h : (hs.map V.int)[i]? = some y) : ∃ n, hs[i]? = some n ∧ y = .int n := by
  rw [List.getElem?_map] at h
  cases e : hs[i]? with
  | none => rw [e] at h; cases h
  | some n => rw [e] at h; exact ⟨n, rfl, (Option.some.inj h).symm⟩
end L2
namespace L2
open PySem PySem.Spec PyProof.Rows
theorem at0 {α : Type} {xs : List α} {j : Nat} {v : α} (h : xs[j]? = some v) : atI xs (0 + (j : Int)) = some v := by rw [Int.zero_add]; exact atI_nat h
theorem z_nat (k : Nat) : ((0 : Int) + (k : Int)).toNat = k := by omega
theorem cut_to {xs : List V} {m : Int} (h : 0 ≤ m) : cutV xs none (some m) = xs.take m.toNat := by
  obtain ⟨k, rfl⟩ := Int.eq_ofNat_of_zero_le h
  unfold cutV
  rw [HT.sIx_nat, HT.sIx_none, List.drop_zero, Nat.sub_zero, Int.toNat_natCast]
  rcases Nat.le_total k xs.length with z | z
  · rw [Nat.min_eq_left z]
  · rw [Nat.min_eq_right z, List.take_of_length_le (Nat.le_refl _), List.take_of_length_le z]
theorem LD.len {H : Hp} {a : Addr} {ds : List D3} (h : LD H a ds) : ∃ vs, H a = some (.lst vs) ∧ vs.length = ds.length := let ⟨vs, e, p⟩ := h; ⟨vs, e, Paired.length p⟩
def spStands : Sp := fun vs H Q _ => ∃ (a b : Addr) (ds : List D3), vs = [.ref a, .ref b] ∧ LD H a ds ∧ (∀ d ∈ ds, okD d) ∧ ds.length ≤ 1000 ∧ H b = some (.lst ((hts clashB ds).map V.int)) ∧ ∀ H', Same H H' → Q (.bl true) H'
def spLaw (K : PySem.W.Frag) : Sp := fun vs H Q _ => ∃ (a : Addr) (ns : List Int), vs = [.ref a] ∧ SqL K H a (ns.map V.int) ∧ ns.length ≤ 63 ∧ ∀ H', Q (.bl true) H'
end L2
namespace L2
open PySem PySem.Spec PyProof.Rows
/-! ### a row of written ints -/
def intsOf : List Expr → Option (List Int)
  | [] => some []
  | .Constant (.int i) _ _ :: es => (intsOf es).map (i :: ·)
  | _ => none
theorem pa_ints {X : Cx} : ∀ {es : List Expr} {ns : List Int}, intsOf es = some ns → PA X es (fun _ H Q => Q (ns.map V.int) H)
  | [], ns, h => by
    have e : [] = ns := Option.some.inj h
    subst e
    exact pa_nil
  | e :: es, ns, h => by
    cases e with
    | Constant c j pos =>
      cases c with
      | int i =>
        have h' : (intsOf es).map (i :: ·) = some ns := h
        cases q : intsOf es with
        | none => rw [q] at h'; cases h'
        | some ms =>
          rw [q] at h'
          have e : i :: ms = ns := Option.some.inj h'
          subst e
          exact pa_cons pe_int (pa_ints q)
      | _ => cases h
    | _ => cases h
end L2

end

section
namespace L2
open PySem PySem.W PyProof.Rows
/-! ### the sort of few, as a tree of questions, answered by an order -/
section
variable (n : Nat) (lt : Nat → Nat → Bool)
/-- every question is about two of the n; the end is as wanted -/
def Gd {α : Type} : KasT α → (α → Prop) → Prop
  | .ret a, Q => Q a
  | .ask i j k, Q => i < n ∧ j < n ∧ Gd (k (lt i j)) Q
variable {n lt}
theorem Gd.mono {α : Type} {Q Q' : α → Prop} (h : ∀ a, Q a → Q' a) : ∀ {t : KasT α}, Gd n lt t Q → Gd n lt t Q'
  | .ret a, g => h a g
  | .ask i j k, ⟨a, b, g⟩ => ⟨a, b, Gd.mono h g⟩
theorem Gd.bind {α β : Type} {Q : α → Prop} {R : β → Prop} {f : α → KasT β} : ∀ {t : KasT α}, Gd n lt t Q → (∀ a, Q a → Gd n lt (f a) R) → Gd n lt (t.bind f) R
  | .ret a, g, h => h a g
  | .ask i j k, ⟨a, b, g⟩, h => ⟨a, b, Gd.bind g h⟩
structure LtOk (lt : Nat → Nat → Bool) : Prop where
  asy : ∀ i j, lt i j = true → lt j i = false
  tr : ∀ i j k, lt j i = false → lt k j = false → lt k i = false
variable (O : LtOk lt)
theorem LtOk.refl (O : LtOk lt) (i : Nat) : lt i i = false := by
  cases h : lt i i with
  | false => rfl
  | true => rw [← h]; exact O.asy i i h
abbrev gt' (p : Array Nat) (i : Nat) : Nat := p.getD i 0
/-- the first k of p rise -/
def Srt (lt : Nat → Nat → Bool) (p : Array Nat) (k : Nat) : Prop := ∀ i j, i ≤ j → j < k → lt (p.getD j 0) (p.getD i 0) = false
/-- they fall -/
def Fal (lt : Nat → Nat → Bool) (p : Array Nat) (k : Nat) : Prop := ∀ i j, i ≤ j → j < k → lt (p.getD i 0) (p.getD j 0) = false
/-- the numbers below n, in some order -/
def Prm (n : Nat) (p : Array Nat) : Prop := p.Perm (List.range n).toArray
theorem Prm.size {p : Array Nat} (h : Prm n p) : p.size = n := by have := Array.Perm.size_eq h; simpa using this
theorem Prm.ix {p : Array Nat} (h : Prm n p) {i : Nat} (hi : i < n) : p.getD i 0 < n := by
  have hs := h.size
  have : p[i] ∈ p := Array.getElem_mem (by omega)
  have := (Array.Perm.mem_iff h).mp this
  rw [show p.getD i 0 = p[i] by simp [Array.getD, hs, hi]]
  simpa using this
theorem srt_step {p : Array Nat} {k : Nat} (O : LtOk lt) (h1 : 1 ≤ k) (h : Srt lt p k) (e : lt (p.getD k 0) (p.getD (k - 1) 0) = false) : Srt lt p (k + 1) := by
  intro i j hij hj
  by_cases hjk : j < k
  · exact h i j hij hjk
  · have : j = k := by omega
    subst this
    by_cases hi : i = j
    · subst hi; exact O.refl _
    · exact O.tr _ (p.getD (j - 1) 0) _ (h i (j - 1) (by omega) (by omega)) e
theorem fal_step {p : Array Nat} {k : Nat} (O : LtOk lt) (h1 : 1 ≤ k) (h : Fal lt p k) (e : lt (p.getD (k - 1) 0) (p.getD k 0) = false) : Fal lt p (k + 1) := by
  intro i j hij hj
  by_cases hjk : j < k
  · exact h i j hij hjk
  · have : j = k := by omega
    subst this
    by_cases hi : i = j
    · subst hi; exact O.refl _
    · exact O.tr _ (p.getD (j - 1) 0) _ e (h i (j - 1) (by omega) (by omega))
theorem asc_ok {p : Array Nat} (O : LtOk lt) (P : Prm n p) : ∀ (f k : Nat), 1 ≤ k → k + f ≤ n → Srt lt p k → Gd n lt (kas_asc p f k) (fun m => k ≤ m ∧ m ≤ k + f ∧ Srt lt p m ∧ (m < k + f → lt (p.getD m 0) (p.getD (m - 1) 0) = true))
  | 0, k, _, _, h => ⟨Nat.le_refl _, Nat.le_refl _, h, fun z => absurd z (Nat.lt_irrefl _)⟩
  | f + 1, k, h1, h2, h => by
    refine ⟨P.ix (by omega), P.ix (by omega), ?_⟩
    cases e : lt (p.getD k 0) (p.getD (k - 1) 0) with
    | true => simp only [↓reduceIte, Bool.false_eq_true]; exact ⟨Nat.le_refl _, by omega, h, fun _ => e⟩
    | false =>
      simp only [↓reduceIte, Bool.false_eq_true]
      refine Gd.mono ?_ (asc_ok O P f (k + 1) (by omega) (by omega) (srt_step O h1 h e))
      rintro m ⟨a, b, c, d⟩
      exact ⟨by omega, by omega, c, fun z => d (by omega)⟩
theorem rev_prm {p : Array Nat} (P : Prm n p) (i j : Nat) : Prm n (kas_rev p i j) := (mirror_perm _ _ _ _).trans P
theorem rev_get {p : Array Nat} {i j : Nat} (hij : i ≤ j) (hj : j ≤ p.size) (k : Nat) : (kas_rev p i j).getD k 0 = if i ≤ k ∧ k < j then p.getD (i + j - 1 - k) 0 else p.getD k 0 := by
  have h := getElem?_mirror (xs := p) (i := i) (j := j) hj ((j - i) / 2) (by omega) k
  have gd : ∀ (q : Array Nat) (k : Nat), q.getD k 0 = (q[k]?).getD 0 := fun q k => by
    by_cases hk : k < q.size
    · simp [Array.getD, hk]
    · simp [Array.getD, hk]
  unfold kas_rev
  rw [gd, h]
  by_cases hk : i ≤ k ∧ k < j
  · rw [if_pos hk]
    by_cases hc : (i ≤ k ∧ k < i + (j - i) / 2) ∨ (j - (j - i) / 2 ≤ k ∧ k < j)
    · rw [if_pos hc, ← gd]
    · rw [if_neg hc, ← gd]
      congr 1
      omega
  · rw [if_neg hk]
    have hc : ¬ ((i ≤ k ∧ k < i + (j - i) / 2) ∨ (j - (j - i) / 2 ≤ k ∧ k < j)) := by omega
    rw [if_neg hc, ← gd]
/-- a falling row turned about rises -/
theorem rev_srt {p : Array Nat} {k : Nat} (hk : k ≤ p.size) (h : Fal lt p k) : Srt lt (kas_rev p 0 k) k := by
  intro i j hij hj
  rw [rev_get (Nat.zero_le _) hk, rev_get (Nat.zero_le _) hk, if_pos ⟨Nat.zero_le _, hj⟩, if_pos ⟨Nat.zero_le _, by omega⟩]
  exact h _ _ (by omega) (by omega)
/-- a part of equal ones turned about: the row falls as it did -/
theorem rev_fal {p : Array Nat} {k i : Nat} (O : LtOk lt) (hk : k ≤ p.size) (hi : i ≤ k) (h : Fal lt p k) (he : ∀ a b, i ≤ a → a < k → i ≤ b → b < k → lt (p.getD a 0) (p.getD b 0) = false) : Fal lt (kas_rev p i k) k := by
  intro a b hab hb
  rw [rev_get hi hk, rev_get hi hk]
  by_cases ha : i ≤ a
  · rw [if_pos ⟨ha, by omega⟩, if_pos ⟨by omega, hb⟩]
    exact he _ _ (by omega) (by omega) (by omega) (by omega)
  · rw [if_neg (by omega)]
    by_cases hb' : i ≤ b
    · rw [if_pos ⟨hb', hb⟩]
      exact h _ _ (by omega) (by omega)
    · rw [if_neg (by omega)]
      exact h _ _ hab hb
/-- the last q + 1 are equal -/
def Eql (lt : Nat → Nat → Bool) (p : Array Nat) (k q : Nat) : Prop := q + 1 ≤ k ∧ ∀ a b, k - (q + 1) ≤ a → a < k → k - (q + 1) ≤ b → b < k → lt (p.getD a 0) (p.getD b 0) = false
theorem desc_ok (O : LtOk lt) : ∀ (f : Nat) (p : Array Nat) (k q : Nat), Prm n p → 1 ≤ k → k + f ≤ n → Fal lt p k → Eql lt p k q → Gd n lt (kas_desc f p k q) (fun r => Prm n r.1 ∧ k ≤ r.2.1 ∧ r.2.1 ≤ k + f ∧ Fal lt r.1 r.2.1 ∧ Eql lt r.1 r.2.1 r.2.2)
  | 0, p, k, q, P, h1, h2, h, e => ⟨P, Nat.le_refl _, Nat.le_refl _, h, e⟩
  | f + 1, p, k, q, P, h1, h2, h, e => by
    have hs := P.size
    refine ⟨P.ix (by omega), P.ix (by omega), ?_⟩
    cases c : lt (p.getD k 0) (p.getD (k - 1) 0) with
    | true =>
      simp only [↓reduceIte, Bool.false_eq_true]
      have c' := O.asy _ _ c
      by_cases hq : q > 0
      · rw [if_pos hq]
        have F : Fal lt (kas_rev p (k - (q + 1)) k) k := rev_fal O (by omega) (by omega) h e.2
        have F' : Fal lt (kas_rev p (k - (q + 1)) k) (k + 1) := by
          refine fal_step O h1 F ?_
          rw [rev_get (by omega) (by omega), rev_get (by omega) (by omega), if_pos ⟨by omega, by omega⟩, if_neg (by omega)]
          have := e.1
          exact O.tr _ (p.getD (k - 1) 0) _ c' (e.2 _ _ (by omega) (by omega) (by omega) (by omega))
        refine Gd.mono ?_ (desc_ok O f _ (k + 1) 0 (rev_prm P _ _) (by omega) (by omega) F' ⟨by omega, fun a b ha ha' hb hb' => by
          have e1 : a = k := by omega
          have e2 : b = k := by omega
          subst e1 e2; exact O.refl _⟩)
        rintro r ⟨a, b, c, d, e⟩
        exact ⟨a, by omega, by omega, d, e⟩
      · rw [if_neg hq]
        refine Gd.mono ?_ (desc_ok O f p (k + 1) 0 P (by omega) (by omega) (fal_step O h1 h c') ⟨by omega, fun a b ha ha' hb hb' => by
          have e1 : a = k := by omega
          have e2 : b = k := by omega
          subst e1 e2; exact O.refl _⟩)
        rintro r ⟨a, b, c, d, e⟩
        exact ⟨a, by omega, by omega, d, e⟩
    | false =>
      simp only [↓reduceIte, Bool.false_eq_true]
      refine ⟨P.ix (by omega), P.ix (by omega), ?_⟩
      cases d : lt (p.getD (k - 1) 0) (p.getD k 0) with
      | true => simp only [↓reduceIte, Bool.false_eq_true]; exact ⟨P, Nat.le_refl _, Nat.le_add_right _ _, h, e⟩
      | false =>
        simp only [↓reduceIte, Bool.false_eq_true]
        have := e.1
        refine Gd.mono ?_ (desc_ok O f p (k + 1) (q + 1) P (by omega) (by omega) (fal_step O h1 h d) ⟨by omega, fun a b ha ha' hb hb' => ?_⟩)
        · rintro r ⟨a, b, c, d, e⟩
          exact ⟨a, by omega, by omega, d, e⟩
        · by_cases a1 : a = k
          · subst a1
            by_cases b1 : b = a
            · subst b1; exact O.refl _
            · exact O.tr _ (p.getD (a - 1) 0) _ (e.2 _ _ (by omega) (by omega) (by omega) (by omega)) c
          · by_cases b1 : b = k
            · subst b1
              exact O.tr _ (p.getD (b - 1) 0) _ d (e.2 _ _ (by omega) (by omega) (by omega) (by omega))
            · exact e.2 a b (by omega) (by omega) (by omega) (by omega)
theorem tail3_ok (O : LtOk lt) {p : Array Nat} {k m : Nat} (P : Prm n p) (h1 : 1 ≤ k) (hk : k ≤ m) (hm : m ≤ n) (h : Fal lt p k) : Gd n lt (kas_tail3 k m p) (fun r => Prm n r.2 ∧ 1 ≤ r.1 ∧ r.1 ≤ m ∧ Srt lt r.2 r.1) := by
  have hs := P.size
  refine Gd.bind (asc_ok O (rev_prm P 0 k) (m - k) k h1 (by omega) (rev_srt (by omega) h)) ?_
  rintro x ⟨a, b, c, _⟩
  exact ⟨rev_prm P 0 k, by omega, by omega, c⟩
theorem descPart_ok (O : LtOk lt) {p : Array Nat} {k m : Nat} (P : Prm n p) (h1 : 1 ≤ k) (hk : k + 1 ≤ m) (hm : m ≤ n) (h : Fal lt p (k + 1)) : Gd n lt (kas_descPart k m p) (fun r => Prm n r.2 ∧ 1 ≤ r.1 ∧ r.1 ≤ m ∧ Srt lt r.2 r.1) := by
  refine Gd.bind (desc_ok O (m - (k + 1)) p (k + 1) 0 P (by omega) (by omega) h ⟨by omega, fun a b ha ha' hb hb' => by
    have e1 : a = k := by omega
    have e2 : b = k := by omega
    subst e1 e2; exact O.refl _⟩) ?_
  rintro ⟨p', k', q'⟩ ⟨P', a, b, F, e⟩
  dsimp only at P' a b F e ⊢
  have hs := P'.size
  by_cases hq : q' > 0
  · rw [if_pos hq]
    exact tail3_ok O (rev_prm P' _ _) (by omega) (by omega) hm (rev_fal O (by omega) (by omega) F e.2)
  · rw [if_neg hq]
    exact tail3_ok O P' (by omega) (by omega) hm F
theorem count_ok (O : LtOk lt) {p : Array Nat} {m : Nat} (P : Prm n p) (h1 : 1 ≤ m) (hm : m ≤ n) : Gd n lt (kas_count m p) (fun r => Prm n r.2 ∧ 1 ≤ r.1 ∧ r.1 ≤ m ∧ Srt lt r.2 r.1) := by
  have hs := P.size
  have s1 : Srt lt p 1 := fun i j hij hj => by
    have e1 : i = 0 := by omega
    have e2 : j = 0 := by omega
    subst e1 e2; exact O.refl _
  refine Gd.bind (asc_ok O P (m - 1) 1 (Nat.le_refl _) (by omega) s1) ?_
  rintro k ⟨a, b, c, d⟩
  by_cases hk : (k == m) = true
  · rw [if_pos hk]; exact ⟨P, a, by omega, c⟩
  · rw [if_neg hk]
    have hkm : k < m := by
      have : k ≠ m := fun z => hk (by rw [z]; exact beq_self_eq_true _)
      omega
    have d' := d (by omega)
    by_cases h2 : k > 1
    · rw [if_pos h2]
      refine ⟨P.ix (by omega), P.ix (by omega), ?_⟩
      cases e : lt (p.getD 0 0) (p.getD (k - 1) 0) with
      | true => simp only [↓reduceIte, Bool.false_eq_true]; exact ⟨P, a, by omega, c⟩
      | false =>
        simp only [↓reduceIte, Bool.false_eq_true]
        have eq : ∀ x y, x < k → y < k → lt (p.getD x 0) (p.getD y 0) = false := fun x y hx hy => by
          -- x ≤ last ≤ first ≤ y
          have g1 := c 0 x (Nat.zero_le _) hx
          have g2 := c y (k - 1) (by omega) (by omega)
          exact O.tr _ (p.getD 0 0) _ (O.tr _ (p.getD (k - 1) 0) _ g2 e) (c 0 x (Nat.zero_le _) hx) |> fun _ => O.tr (p.getD y 0) (p.getD (k - 1) 0) (p.getD x 0) g2 (O.tr _ (p.getD 0 0) _ e g1)
        have F : Fal lt (kas_rev p 0 k) (k + 1) := by
          have F0 : Fal lt (kas_rev p 0 k) k := fun x y hxy hy => by
            rw [rev_get (Nat.zero_le _) (by omega), rev_get (Nat.zero_le _) (by omega), if_pos ⟨Nat.zero_le _, by omega⟩, if_pos ⟨Nat.zero_le _, hy⟩]
            exact eq _ _ (by omega) (by omega)
          refine fal_step O a F0 ?_
          rw [rev_get (Nat.zero_le _) (by omega), rev_get (Nat.zero_le _) (by omega), if_pos ⟨Nat.zero_le _, by omega⟩, if_neg (by omega)]
          exact O.tr _ (p.getD (k - 1) 0) _ (O.asy _ _ d') (eq _ _ (by omega) (by omega))
        exact descPart_ok O (rev_prm P 0 k) a hkm hm F
    · rw [if_neg h2]
      have e1 : k = 1 := by omega
      subst e1
      refine descPart_ok O P a hkm hm (fal_step O (Nat.le_refl _) (fun i j hij hj => ?_) (O.asy _ _ d'))
      have e1 : i = 0 := by omega
      have e2 : j = 0 := by omega
      subst e1 e2; exact O.refl _
theorem place_ok {p : Array Nat} (O : LtOk lt) (P : Prm n p) {k : Nat} (hk : k < n) (hs : Srt lt p k) : ∀ (f l r : Nat), l ≤ r → r ≤ k → r - l ≤ f → (∀ i, i < l → lt (p.getD k 0) (p.getD i 0) = false) → (∀ i, r ≤ i → i < k → lt (p.getD k 0) (p.getD i 0) = true) →
    Gd n lt (kas_place p k f l r) (fun x => x ≤ k ∧ (∀ i, i < x → lt (p.getD k 0) (p.getD i 0) = false) ∧ ∀ i, x ≤ i → i < k → lt (p.getD k 0) (p.getD i 0) = true)
  | 0, l, r, h1, h2, h3, h4, h5 => ⟨by omega, h4, fun i hi => h5 i (by omega)⟩
  | f + 1, l, r, h1, h2, h3, h4, h5 => by
    unfold kas_place
    by_cases hlr : l ≥ r
    · rw [if_pos hlr]; exact ⟨by omega, h4, fun i hi => h5 i (by omega)⟩
    · rw [if_neg hlr]
      refine ⟨P.ix hk, P.ix (by omega), ?_⟩
      cases e : lt (p.getD k 0) (p.getD ((l + r) / 2) 0) with
      | true =>
        simp only [↓reduceIte, Bool.false_eq_true]
        refine place_ok O P hk hs f l ((l + r) / 2) (by omega) (by omega) (by omega) h4 fun i hi hik => ?_
        cases e2 : lt (p.getD k 0) (p.getD i 0) with
        | true => rfl
        | false =>
          rw [O.tr _ (p.getD i 0) _ (hs _ _ hi hik) e2] at e
          cases e
      | false =>
        simp only [↓reduceIte, Bool.false_eq_true]
        refine place_ok O P hk hs f ((l + r) / 2 + 1) r (by omega) h2 (by omega) (fun i hi => ?_) h5
        exact O.tr _ (p.getD ((l + r) / 2) 0) _ (hs _ _ (by omega) (by omega)) e
theorem bub_get {p : Array Nat} {k l : Nat} (hk : k < p.size) (hl : l ≤ k) (i : Nat) : (bubble p k (k - l)).getD i 0 = if i = l then p.getD k 0 else if l < i ∧ i ≤ k then p.getD (i - 1) 0 else p.getD i 0 := by
  have h := getElem?_bubble (xs := p) (src := k) hk (k - l) (by omega) i
  have gd : ∀ (q : Array Nat) (k : Nat), q.getD k 0 = (q[k]?).getD 0 := fun q k => by
    by_cases hk : k < q.size
    · simp [Array.getD, hk]
    · simp [Array.getD, hk]
  have e : k - (k - l) = l := by omega
  rw [e] at h
  rw [gd, h]
  by_cases h1 : i = l
  · rw [if_pos h1, if_pos h1, ← gd]
  · rw [if_neg h1, if_neg h1]
    by_cases h2 : l < i ∧ i ≤ k
    · rw [if_pos h2, if_pos h2, ← gd]
    · rw [if_neg h2, if_neg h2, ← gd]
theorem bin_ok (O : LtOk lt) : ∀ (f : Nat) (p : Array Nat) (k : Nat), Prm n p → k + f ≤ n → Srt lt p k → Gd n lt (kas_bin f p k) (fun q => Prm n q ∧ Srt lt q (k + f))
  | 0, p, k, P, _, hs => ⟨P, hs⟩
  | f + 1, p, k, P, h, hs => by
    have hz := P.size
    refine Gd.bind (place_ok O P (k := k) (by omega) hs k 0 k (Nat.zero_le _) (Nat.le_refl _) (by omega) (fun i hi => absurd hi (Nat.not_lt_zero _)) fun i hi hik => by omega) ?_
    rintro l ⟨hl, h1, h2⟩
    refine Gd.mono ?_ (bin_ok O f (bubble p k (k - l)) (k + 1) ((bubble_perm _ _ _).trans P) (by omega) ?_)
    · rintro q ⟨a, b⟩
      exact ⟨a, by rw [show k + (f + 1) = k + 1 + f by omega]; exact b⟩
    · intro i j hij hj
      rw [bub_get (by omega) hl, bub_get (by omega) hl]
      by_cases j1 : j = l
      · rw [if_pos j1]
        by_cases i1 : i = l
        · rw [if_pos i1]; exact O.refl _
        · rw [if_neg i1, if_neg (by omega)]
          exact h1 i (by omega)
      · rw [if_neg j1]
        by_cases j2 : l < j ∧ j ≤ k
        · rw [if_pos j2]
          by_cases i1 : i = l
          · rw [if_pos i1]
            exact O.asy _ _ (h2 _ (by omega) (by omega))
          · rw [if_neg i1]
            by_cases i2 : l < i ∧ i ≤ k
            · rw [if_pos i2]; exact hs _ _ (by omega) (by omega)
            · rw [if_neg i2]; exact hs _ _ (by omega) (by omega)
        · rw [if_neg j2, if_neg (by omega), if_neg (by omega)]
          exact hs _ _ hij (by omega)
theorem sort_ok (O : LtOk lt) (h2 : 1 ≤ n) : Gd n lt (kas_sort n) (fun p => Prm n p ∧ Srt lt p n) := by
  refine Gd.bind (count_ok O (p := (List.range n).toArray) (m := n) (Array.Perm.refl _) h2 (Nat.le_refl _)) ?_
  rintro ⟨k, p⟩ ⟨P, a, b, c⟩
  dsimp only at P a b c ⊢
  by_cases hk : k < n
  · rw [if_pos hk]
    have e : max k 1 = k := by omega
    rw [e]
    refine Gd.mono ?_ (bin_ok O (n - k) p k P (by omega) c)
    rintro q ⟨x, y⟩
    exact ⟨x, by rw [show k + (n - k) = n by omega] at y; exact y⟩
  · rw [if_neg hk]
    exact ⟨P, by rw [show n = k by omega]; exact c⟩
end
end L2

end

section
namespace L2
open PySem PySem.Spec PyProof.Rows PySem.W

/-! ### the order of deeds -/
def ltB (d e : D3) : Bool := decide (d.1 < e.1 ∨ (d.1 = e.1 ∧ (d.2.1 < e.2.1 ∨ (d.2.1 = e.2.1 ∧ d.2.2 < e.2.2))))
theorem ltB_iff {d e : D3} : ltB d e = true ↔ (d.1 < e.1 ∨ (d.1 = e.1 ∧ (d.2.1 < e.2.1 ∨ (d.2.1 = e.2.1 ∧ d.2.2 < e.2.2)))) := decide_eq_true_iff
theorem ltB_no {d e : D3} : ltB d e = false ↔ ¬ (d.1 < e.1 ∨ (d.1 = e.1 ∧ (d.2.1 < e.2.1 ∨ (d.2.1 = e.2.1 ∧ d.2.2 < e.2.2)))) := decide_eq_false_iff_not
theorem ltB_asy {d e : D3} (h : ltB d e = true) : ltB e d = false := by rw [ltB_iff] at h; rw [ltB_no]; omega
theorem ltB_tr {d e f : D3} (h1 : ltB e d = false) (h2 : ltB f e = false) : ltB f d = false := by rw [ltB_no] at h1 h2 ⊢; omega
theorem ltB_anti {d e : D3} (h1 : ltB e d = false) (h2 : ltB d e = false) : d = e := by
  rw [ltB_no] at h1 h2
  obtain ⟨a, b, c⟩ := d
  obtain ⟨a', b', c'⟩ := e
  dsimp only at h1 h2
  have e1 : a = a' := by omega
  have e2 : b = b' := by omega
  have e3 : c = c' := by omega
  rw [e1, e2, e3]
def leD (d e : D3) : Bool := !ltB e d
def srt (ds : List D3) : List D3 := ds.mergeSort leD
theorem srt_perm (ds : List D3) : (srt ds).Perm ds := List.mergeSort_perm ds leD
theorem srt_rises (ds : List D3) : (srt ds).Pairwise fun d e => ltB e d = false := by
  refine List.Pairwise.imp ?_ (List.pairwise_mergeSort (le := leD) ?_ ?_ ds)
  · intro a b h
    simpa [leD] using h
  · intro a b c h1 h2
    have h1' : ltB b a = false := by simpa [leD] using h1
    have h2' : ltB c b = false := by simpa [leD] using h2
    show (!ltB c a) = true
    rw [ltB_tr h1' h2']; rfl
  · intro a b
    unfold leD
    cases h : ltB b a with
    | false => rfl
    | true => rw [ltB_asy h]; rfl
theorem srt_uniq {ds es : List D3} (p : es.Perm ds) (r : es.Pairwise fun d e => ltB e d = false) : es = srt ds :=
  List.Perm.eq_of_pairwise (fun _ _ _ _ h h' => ltB_anti h h') r (srt_rises ds) (p.trans (srt_perm ds).symm)
theorem srt_id {ds : List D3} (r : ds.Pairwise fun d e => ltB e d = false) : srt ds = ds := (srt_uniq (.refl _) r).symm
theorem srt_of_perm {ds es : List D3} (p : ds.Perm es) : srt ds = srt es := srt_uniq ((srt_perm ds).trans p) (srt_rises ds)
theorem srt_length (ds : List D3) : (srt ds).length = ds.length := (srt_perm ds).length_eq

/-! ### the tree of questions, each answered where the state stays -/
theorem Gd.wp {α : Type} {n : Nat} {lt : Nat → Nat → Bool} {cmp : Nat → Nat → (Bool → Shared → Prop) → Shared → Prop} {s : Shared} {Q : α → Prop} {R : α → Shared → Prop} (hc : ∀ i j C, i < n → j < n → C (lt i j) s → cmp i j C s) (h : ∀ a, Q a → R a s) :
    ∀ {t : KasT α}, Gd n lt t Q → t.kasWp cmp R s
  | .ret a, g => h a g
  | .ask i j k, ⟨a, b, g⟩ => hc i j _ a b (Gd.wp hc h g)
section
variable {prog : Program} {w : World} {A : Around} {E : Value → Shared → Prop} {s : Shared}
theorem lt_ints3 {x y : Addr} {a b c a' b' c' : Int} {t1 t2 t3 u1 u2 u3 : Tok} {C : Bool → Shared → Prop} (hx : IsTup s.heap x #[.int a t1, .int b t2, .int c t3]) (hy : IsTup s.heap y #[.int a' u1, .int b' u2, .int c' u3]) (h : C (ltB (a, b, c) (a', b', c')) s) :
    wpAny (model prog w) A (keyLt' (tuples' true) (.ref x) (.ref y)) C (fun _ _ => False) s := by
  obtain ⟨ox, gx, _, nx, dx⟩ := hx
  obtain ⟨oy, gy, _, ny, dy⟩ := hy
  refine kat_lt gx dx gy dy ?_
  show KatLex prog w A true _ C [(.int a t1, .int a' u1), (.int b t2, .int b' u2), (.int c t3, .int c' u3)] 0 s
  refine kat_cons (SeqAt.EqAt.int_int a t1 a' u1 prog w _ _ ?_)
  refine kat_go (fun e1 => kat_yes ?_) (fun e1 => kat_no ?_)
  · have e1' : a = a' := by simpa using e1
    refine kat_cons (SeqAt.EqAt.int_int b t2 b' u2 prog w _ _ ?_)
    refine kat_go (fun e2 => kat_yes ?_) (fun e2 => kat_no ?_)
    · have e2' : b = b' := by simpa using e2
      refine kat_cons (SeqAt.EqAt.int_int c t3 c' u3 prog w _ _ ?_)
      refine kat_go (fun e3 => kat_yes (kat_nil ?_)) (fun e3 => kat_no ?_)
      · have e3' : c = c' := by simpa using e3
        have z : ltB (a, b, c) (a', b', c') = false := by rw [ltB_no]; dsimp only; omega
        rw [z] at h
        exact h
      · refine kat_one _ _ (lt_int ?_)
        have z : ltB (a, b, c) (a', b', c') = decide (c < c') := by
          by_cases q : c < c'
          · rw [decide_eq_true q, ltB_iff]; dsimp only; omega
          · rw [decide_eq_false q, ltB_no]; dsimp only; omega
        rw [z] at h
        exact h
    · have e2' : b ≠ b' := by simpa using e2
      refine kat_one _ _ (lt_int ?_)
      have z : ltB (a, b, c) (a', b', c') = decide (b < b') := by
        by_cases q : b < b'
        · rw [decide_eq_true q, ltB_iff]; dsimp only; omega
        · rw [decide_eq_false q, ltB_no]; dsimp only; omega
      rw [z] at h
      exact h
  · have e1' : a ≠ a' := by simpa using e1
    have z : ltB (a, b, c) (a', b', c') = decide (a < a') := by
      by_cases q : a < a'
      · rw [decide_eq_true q, ltB_iff]; dsimp only; omega
      · rw [decide_eq_false q, ltB_no]; dsimp only; omega
    rw [z] at h
    exact (kat_lt_int h : wpAny (model prog w) A (keyLt' oneType' (.int a t1) (.int a' u1)) C (fun _ _ => False) s)
/-- the values are tuples of three ints -/
def Tri (h : Heap) : List Value → List D3 → Prop := Paired fun v d => ∃ x t1 t2 t3, v = .ref x ∧ IsTup h x #[.int d.1 t1, .int d.2.1 t2, .int d.2.2 t3]
theorem Tri.keep {h h' : Heap} {l : Addr} (hk : ∀ b o, b ≠ l → h.get? b = some o → h'.get? b = some o) (hl : ∃ o, h.get? l = some o ∧ o.cls = .type "list") {vs : List Value} {ds : List D3} (t : Tri h vs ds) : Tri h' vs ds := by
  refine Paired.mapP t ?_
  rintro v d ⟨x, t1, t2, t3, rfl, o, g, cc, n, dd⟩
  refine ⟨x, t1, t2, t3, rfl, o, hk x o ?_ g, cc, n, dd⟩
  rintro rfl
  obtain ⟨o', g', c'⟩ := hl
  rw [g] at g'
  cases g'
  exact absurd (cc.symm.trans c') (by simp)
theorem Tri.firsts {h : Heap} : ∀ {vs : List Value} {ds : List D3}, Tri h vs ds → ∃ fs, KatTups h vs fs ∧ fs.length = vs.length ∧ ∀ v ∈ fs, ∃ i t, v = .int i t
  | _, _, .nil => ⟨[], KatTups.nil, rfl, (fun _ z => nomatch z)⟩
  | _, _, .cons ⟨x, t1, t2, t3, e, o, g, cc, n, dd⟩ t => by
    subst e
    obtain ⟨fs, k, l, z⟩ := Tri.firsts t
    refine ⟨_, KatTups.cons (f := .int _ t1) g cc dd rfl k, congrArg Nat.succ l, fun v hv => ?_⟩
    rcases List.mem_cons.mp hv with rfl | hv
    · exact ⟨_, _, rfl⟩
    · exact z v hv
theorem tri_lt {vs : List Value} {ds : List D3} (t : Tri s.heap vs ds) {i j : Nat} (hi : i < vs.length) (hj : j < vs.length) {C : Bool → Shared → Prop} (h : C (ltB (ds.getD i (0, 0, 0)) (ds.getD j (0, 0, 0))) s) : kas_ask prog w A (tuples' true) vs i j C s := by
  obtain ⟨d, gd, x, t1, t2, t3, ex, hx⟩ := Paired.getL t (List.getElem?_eq_getElem hi)
  obtain ⟨e, ge, y, u1, u2, u3, ey, hy⟩ := Paired.getL t (List.getElem?_eq_getElem hj)
  unfold kas_ask
  rw [List.getD_eq_getElem?_getD, List.getElem?_eq_getElem hi, List.getD_eq_getElem?_getD, List.getElem?_eq_getElem hj]
  show wpAny _ _ (keyLt' _ vs[i] vs[j]) _ _ _
  rw [ex, ey]
  refine lt_ints3 hx hy ?_
  rw [List.getD_eq_getElem?_getD, List.getD_eq_getElem?_getD, gd, ge] at h
  exact h
theorem sort_body {a : Addr} {vs : List Value} {ds : List D3} {n : Nat} {P : Fin → Shared → Prop} (ho : s.heap.get? a = some (seqObj "list" vs.toArray n)) (t : Tri s.heap vs ds) (h64 : vs.length < 64)
    (h : ∀ p : Array Nat, Prm vs.length p → Srt (fun i j => ltB (ds.getD i (0, 0, 0)) (ds.getD j (0, 0, 0))) p vs.length → P (.done (.ret .none)) { s with heap := sortedHeap s.heap a vs (p.toList.map fun i => vs.getD i Value.none).toArray }) :
    wpAny (model prog w) A (Builtin.«list.sort» ⟨[.ref a], []⟩) P E s := by
  rw [list_sort_plain]
  have la : a < s.heap.objs.size := Heap.lt_size ho
  have hz : vs.length ≤ sizeLine := by rw [sizeLine_eq]; omega
  refine wpAny_bind (listItems_at ho rfl (wpAny_bind (listUpdate_at ho rfl ?_ (by rw [List.size_toArray]; exact hz) (Nat.zero_le _))))
  obtain ⟨e1, o1⟩ : ∃ e1, (s.heap.update a (Obj.mapSeq fun _ => #[])).get? a = some (seqObj "list" #[] e1) := ⟨_, get?_update_seq ho (fun _ => #[])⟩
  refine wpAny_bind (seqEpoch_at o1 rfl (wpAny_bind (wpAny_newTuple (wpAny_bind (wpAny_newList (wpAny_holding ?_) (Nat.zero_le _))) (by show vs.length ≤ _; exact hz))))
  have o6 : (((s.heap.update a (Obj.mapSeq fun _ => #[])).push (seqObj "tuple" vs.toArray 0)).push (seqObj "list" #[] 0)).get? a = some (seqObj "list" #[] e1) := Heap.get?_push_of_some _ (Heap.get?_push_of_some _ o1)
  have kp : ∀ b o, b ≠ a → s.heap.get? b = some o → (((s.heap.update a (Obj.mapSeq fun _ => #[])).push (seqObj "tuple" vs.toArray 0)).push (seqObj "list" #[] 0)).get? b = some o := fun b o hb e =>
    Heap.get?_push_of_some _ (Heap.get?_push_of_some _ ((Heap.get?_update_other _ _ (Ne.symm hb)).trans e))
  show wpAny (model prog w) A _ P E { s with heap := ((s.heap.update a (Obj.mapSeq fun _ => #[])).push (seqObj "tuple" vs.toArray 0)).push (seqObj "list" #[] 0) }
  have t6 := t.keep kp ⟨_, ho, rfl⟩
  dsimp only
  by_cases h2 : vs.toArray.size < 2
  · have hv : vs.length < 2 := by simpa using h2
    rw [if_pos h2, if_pos h2]
    refine wpAny_bind (wpAny_pure ?_)
    rw [StateT.run_pure]
    refine wpAny_bind (wpAny_pure (wpAny_bind (seqEpoch_at o6 rfl (wpAny_bind (listUpdate_at o6 rfl ?_ (Nat.zero_le _) ?_)))))
    · have f := h (List.range vs.length).toArray (Array.Perm.refl _) fun i j hij hj => by
        have : i = j := by omega
        subst this
        exact (ltB_no.mpr (by omega))
      have eo : (((List.range vs.length).toArray).toList.map fun i => vs.getD i Value.none).toArray = (Array.zip vs.toArray vs.toArray).map (·.2) := by
        match vs, hv with
        | [], _ => simp
        | [_], _ => simp
      rw [eo] at f
      simp only [bne_self_eq_false, Bool.false_eq_true, if_false]
      exact wpAny_pure f
    · rw [Array.size_map, Array.size_zip, Nat.min_self, List.size_toArray]; omega
  · have hv : 2 ≤ vs.length := by
      rw [List.size_toArray] at h2
      omega
    rw [if_neg h2, if_neg h2]
    obtain ⟨fs, kt, kl, ki⟩ := t6.firsts
    refine wpAny_bind (kat_kind (T := .type "int") kt (by omega) (fun v hv => ?_) rfl ?_)
    · obtain ⟨i, u, rfl⟩ := ki v hv
      exact Looks.of_pure rfl
    have ek : tuples' ((Value.type "int") != Value.type "tuple") = tuples' true := by
      have : ((Value.type "int") != Value.type "tuple") = true := by simp
      rw [this]
    rw [ek]
    have O : LtOk (fun i j => ltB (ds.getD i (0, 0, 0)) (ds.getD j (0, 0, 0))) := ⟨fun i j => ltB_asy, fun i j k => ltB_tr⟩
    refine wpAny_bind (wpAny_mono (kat_run (vs := vs) (ks := vs) (κ := tuples' true) (Q := fun st' s' => s' = { s with heap := ((s.heap.update a (Obj.mapSeq fun _ => #[])).push (seqObj "tuple" vs.toArray 0)).push (seqObj "list" #[] 0) } ∧ failedOf st' = none ∧ ∃ p : Array Nat, Prm vs.length p ∧ Srt (fun i j => ltB (ds.getD i (0, 0, 0)) (ds.getD j (0, 0, 0))) p vs.length ∧ arrOf st' = p.map (kas_item (vs.toArray.zip vs.toArray)))
      (G := fun p s' => s' = { s with heap := ((s.heap.update a (Obj.mapSeq fun _ => #[])).push (seqObj "tuple" vs.toArray 0)).push (seqObj "list" #[] 0) } ∧ Prm vs.length p ∧ Srt (fun i j => ltB (ds.getD i (0, 0, 0)) (ds.getD j (0, 0, 0))) p vs.length)
      rfl hv h64 (fun p st' s' _ a2 a3 ⟨z1, z2, z3⟩ => ⟨z1, a3, p, z2, z3, a2⟩) (Gd.wp (fun i j C hi hj hc => tri_lt t6 hi hj hc) (fun p ⟨z2, z3⟩ => ⟨rfl, z2, z3⟩) (sort_ok O (by omega)))) ?_ fun _ _ e => e)
    rintro ⟨⟨⟩, st'⟩ s' ⟨rfl, hf, p, hP, hS, har⟩
    dsimp only
    have hout := kat_snds (vs := vs) (ks := vs) rfl har
    refine wpAny_bind (seqEpoch_at o6 rfl (wpAny_bind (listUpdate_at o6 rfl ?_ (Nat.zero_le _) ?_)))
    · rw [hf]
      simp only [bne_self_eq_false, Bool.false_eq_true, if_false]
      rw [hout]
      exact wpAny_pure (h p hP hS)
    · rw [hout, List.size_toArray, List.length_map, Array.length_toList, hP.size]; omega
theorem call_sorted3 {l : Addr} {vs : List Value} {ds : List D3} {Q : Value → Shared → Prop} (hl : s.heap.IsList l vs.toArray) (t : Tri s.heap vs ds) (h64 : vs.length < 64)
    (h : ∀ p : Array Nat, Prm vs.length p → Srt (fun i j => ltB (ds.getD i (0, 0, 0)) (ds.getD j (0, 0, 0))) p vs.length → Q (.ref (s.heap.objs.size + 1)) { s with heap := sortedAll s.heap vs (p.toList.map fun i => vs.getD i Value.none).toArray }) :
    wpAny (model prog w) A (call (.builtin "sorted") [.ref l]) Q E s := by
  refine Calls.call_function_entry kind_sorted plain_sorted entry_sorted (args_sorted1 _) ?_
  unfold Builtin.«sorted»
  have hz : vs.length ≤ sizeLine := by rw [sizeLine_eq]; omega
  refine wpAny_bind (m := checkCount "sorted" 1 1 _) (wpAny_pure (wpAny_bind (collect_list hl (wpAny_bind (wpAny_newList ?_ hz)) hz)))
  have hs1 : ((s.heap.push (seqObj "list" #[] 0)).update s.heap.objs.size (Obj.mapSeq (· ++ vs.toArray))).objs.size = s.heap.objs.size + 1 := by rw [Heap.size_update, size_push']
  have kp : ∀ b o, s.heap.get? b = some o → (((s.heap.push (seqObj "list" #[] 0)).update s.heap.objs.size (Obj.mapSeq (· ++ vs.toArray))).push (seqObj "list" vs.toArray 0)).get? b = some o := fun b o e =>
    Heap.get?_push_of_some _ ((Heap.get?_update_other _ _ (Nat.ne_of_gt (Heap.lt_size e))).trans (Heap.get?_push_of_some _ e))
  have hL : (((s.heap.push (seqObj "list" #[] 0)).update s.heap.objs.size (Obj.mapSeq (· ++ vs.toArray))).push (seqObj "list" vs.toArray 0)).get? (s.heap.objs.size + 1) = some (seqObj "list" vs.toArray 0) := by
    rw [← hs1]; exact Heap.get?_push_size _ rfl
  show wpAny _ _ _ _ _ { s with heap := ((s.heap.push (seqObj "list" #[] 0)).update s.heap.objs.size (Obj.mapSeq (· ++ vs.toArray))).push (seqObj "list" vs.toArray 0) }
  rw [hs1]
  obtain ⟨ol, gl, cl, _⟩ := hl
  have t' : Tri (((s.heap.push (seqObj "list" #[] 0)).update s.heap.objs.size (Obj.mapSeq (· ++ vs.toArray))).push (seqObj "list" vs.toArray 0)) vs ds := t.keep (l := l) (fun b o _ e => kp b o e) ⟨ol, gl, cl⟩
  refine wpAny_bind (wpAny_holding (wpAny_call_entry slot_list_sort ⟨_, hL, rfl⟩ entry_list_sort (sort_body (s := { s with heap := ((s.heap.push (seqObj "list" #[] 0)).update s.heap.objs.size (Obj.mapSeq (· ++ vs.toArray))).push (seqObj "list" vs.toArray 0) }) hL t' h64 fun p hP hS => ⟨_, rfl, ?_⟩) (args_list_sort _)))
  have z := h p hP hS
  unfold sortedAll at z
  refine wpAny_pure ⟨_, rfl, ?_⟩
  dsimp only
  exact z
end
/-! ### the rule -/
theorem vals_cons {x : V} {xs : List V} {us : List Value} (h : Vals (x :: xs) us) : ∃ u r, us = u :: r ∧ RelV x u ∧ Vals xs r := by
  cases h with
  | cons a b => exact ⟨_, _, rfl, a, b⟩
theorem pick_perm {n : Nat} {p : Array Nat} (P : Prm n p) {α : Type} (xs : List α) (d : α) (hn : xs.length = n) : (p.toList.map fun i => xs.getD i d).Perm xs := by
  have e : (List.range n).map (fun i => xs.getD i d) = xs := by
    apply List.ext_getElem?
    intro i
    rw [List.getElem?_map]
    by_cases hi : i < n
    · rw [List.getElem?_range hi, List.getElem?_eq_getElem (by omega), Option.map_some, List.getD_eq_getElem?_getD, List.getElem?_eq_getElem (by omega)]; rfl
    · rw [List.getElem?_eq_none (by rw [List.length_range]; omega), List.getElem?_eq_none (by omega)]; rfl
  have q : p.toList.Perm (List.range n) := by
    have := Array.Perm.toList P
    simpa using this
  have := q.map fun i => xs.getD i d
  rwa [e] at this
theorem pick_paired {α β : Type} {F : α → β → Prop} {xs : List α} {ys : List β} (pr : Paired F xs ys) (a : α) (b : β) : ∀ (ix : List Nat), (∀ i ∈ ix, i < xs.length) → Paired F (ix.map fun i => xs.getD i a) (ix.map fun i => ys.getD i b)
  | [], _ => .nil
  | i :: ix, h => by
    have hi := h i List.mem_cons_self
    obtain ⟨y, gy, f⟩ := Paired.getL pr (List.getElem?_eq_getElem hi)
    refine .cons ?_ (pick_paired pr a b ix fun j hj => h j (List.mem_cons_of_mem _ hj))
    show F (xs.getD i a) (ys.getD i b)
    rw [List.getD_eq_getElem?_getD, List.getElem?_eq_getElem hi, List.getD_eq_getElem?_getD, gy]
    exact f
def rSorted : List V → Hp → VK → Prop := fun xs H Q => ∃ a ds, xs = [.ref a] ∧ LD H a ds ∧ ds.length < 64 ∧ ∀ r vs, H r = none → Paired (T3 H) vs (srt ds) → Q (.ref r) (upd H r (.lst vs))
theorem Inv.tri {X : Cx} {pins : List (Addr × Obj)} {σ : St} {H : Hp} {s : Shared} (I : Inv X pins σ H s) : ∀ {vs : List V} {its : List Value} {ds : List D3}, Vals vs its → Paired (T3 H) vs ds → Tri s.heap its ds
  | _, _, _, .nil, .nil => .nil
  | _, _, _, .cons r1 r2, .cons p1 p2 => by
    refine .cons ?_ (Inv.tri I r2 p2)
    obtain ⟨x, e, ex⟩ := p1
    subst e
    have e2 := r1
    unfold RelV at e2
    subst e2
    obtain ⟨_, tv, trv, tup⟩ := I.hok x _ ex
    unfold tupV at trv
    obtain ⟨u1, r1, e1, q1, trv⟩ := vals_cons trv
    obtain ⟨u2, r2, e2, q2, trv⟩ := vals_cons trv
    obtain ⟨u3, r3, e3, q3, trv⟩ := vals_cons trv
    cases trv
    obtain ⟨t1, rfl⟩ := q1
    obtain ⟨t2, rfl⟩ := q2
    obtain ⟨t3, rfl⟩ := q3
    subst e3 e2 e1
    exact ⟨x, t1, t2, t3, rfl, tup⟩
theorem call_sorted {X : Cx} : CallR X (.builtin "sorted") rSorted := by
  intro pins s σ H xs us Q I r h
  obtain ⟨a, ds, rfl, ⟨vs, ha, pr⟩, h64, q⟩ := h
  obtain ⟨u, rfl, ru⟩ := vals1 r
  have ru' : u = Value.ref a := ru
  subst ru'
  obtain ⟨hz, its, n, rv, hlen, g⟩ := I.lstM ha
  have hl0 := Paired.length pr
  refine call_sorted3 (ds := ds) (vs := its) ⟨_, g, rfl, _, rfl⟩ (I.tri rv pr) (by omega) fun p hP hS => ?_
  have e2 : ∀ i ∈ p.toList, i < vs.length := fun i hi => by
    have := (Array.Perm.mem_iff hP).mp (Array.mem_toList_iff.mp hi)
    have : i < its.length := by simpa using this
    omega
  have pv := pick_paired pr V.non (0, 0, 0) p.toList e2
  have pu := pick_paired rv V.non Value.none p.toList e2
  have es : (p.toList.map fun i => ds.getD i (0, 0, 0)) = srt ds := by
    refine srt_uniq (pick_perm hP ds _ (by omega)) ?_
    rw [List.pairwise_map, List.pairwise_iff_getElem]
    intro i j hi hj hij
    have hs := hP.size
    have hi' : i < p.size := by simpa using hi
    have hj' : j < p.size := by simpa using hj
    have ei : p.toList[i] = p.getD i 0 := by simp [Array.getD, hi']
    have ej : p.toList[j] = p.getD j 0 := by simp [Array.getD, hj']
    rw [ei, ej]
    exact hS i j (Nat.le_of_lt hij) (by omega)
  rw [es] at pv
  generalize hvs : (p.toList.map fun i => vs.getD i V.non) = vs' at pv pu
  generalize hits : (p.toList.map fun i => its.getD i Value.none) = its' at pu ⊢
  obtain ⟨e, ge⟩ := sortedAll_at s.heap its its'.toArray
  have hlen' : vs'.length ≤ sizeLine := by rw [Paired.length pv, srt_length]; omega
  have J : Inv X pins σ (upd H (s.heap.objs.size + 1) (.lst vs')) { s with heap := sortedAll s.heap its its'.toArray, toks := s.toks } :=
    I.laid (h' := sortedAll s.heap its its'.toArray) (fun b o q => sortedAll_old q) (Nat.le_succ _) ⟨hlen', its', e, pu, ge⟩
  exact ⟨.ref (s.heap.objs.size + 1), _, J, rfl, q _ _ (I.hok.fresh (Nat.le_succ _)) pv⟩
end L2

end

section
namespace L2
open PySem PySem.Spec PyProof.Rows

/-! ### what equals a thing that is told as a tree -/
open Classical in
noncomputable def eR (h : Heap) (dx : PyData) (y : Value) : Bool := decide (∃ d as, Reads h y d as ∧ d.canLay0 = true ∧ PyData.eqv d dx = true)
theorem eR_eq {h : Heap} {dx d : PyData} {y : Value} {as : List Addr} (r : Reads h y d as) (hl : d.canLay0 = true) : eR h dx y = PyData.eqv d dx := by
  unfold eR
  cases e : PyData.eqv d dx with
  | true => exact @decide_eq_true _ (Classical.propDecidable _) ⟨d, as, r, hl, e⟩
  | false =>
    refine @decide_eq_false _ (Classical.propDecidable _) ?_
    rintro ⟨d', as', r', hl', e'⟩
    rw [SeqAt.Reads.unique d d' _ _ _ hl r r', e'] at e
    cases e
theorem any_eR {h : Heap} {dx : PyData} : ∀ {vs : List Value} {ds : List PyData} {as : List Addr}, ReadsAll h vs ds as → PyData.canLayAll0 ds = true → vs.any (eR h dx) = ds.any fun d => PyData.eqv d dx
  | _, _, _, .nil, _ => rfl
  | _, _, _, .cons (d := d) (ds := ds) r rs, hl => by
    have hl' : d.canLay0 = true ∧ PyData.canLayAll0 ds = true := by simpa [PyData.canLayAll0] using hl
    show (eR h dx _ || _) = (PyData.eqv d dx || _)
    rw [eR_eq r hl'.1, any_eR rs hl'.2]
theorem reads_mem {h : Heap} : ∀ {vs : List Value} {ds : List PyData} {as : List Addr}, ReadsAll h vs ds as → PyData.canLayAll0 ds = true → ∀ v ∈ vs, ∃ d as', Reads h v d as' ∧ d.canLay0 = true
  | _, _, _, .nil, _, v, hv => by cases hv
  | _, _, _, .cons (d := d) (ds := ds) r rs, hl, v, hv => by
    have hl' : d.canLay0 = true ∧ PyData.canLayAll0 ds = true := by simpa [PyData.canLayAll0] using hl
    rcases List.mem_cons.mp hv with rfl | hv
    · exact ⟨d, _, r, hl'.1⟩
    · exact reads_mem rs hl'.2 v hv
section
variable {A : Around} {s : Shared}
theorem eqAt_eR {dx d : PyData} {x y : Value} {as bs : List Addr} (ry : Reads s.heap y d as) (hd : d.canLay0 = true) (rx : Reads s.heap x dx bs) (hx : dx.canLay0 = true) (hu : A.units + dx.depth < cLine) : SeqAt.EqAt A s y x (eR s.heap dx y) := by
  rw [eR_eq ry hd]
  exact SeqAt.eqAt_reads d dx A s y x _ _ ry rx hd hx (by omega)
end
theorem in1_units {A : Around} : A.in1.units ≤ A.units + 1 := by
  show A.units + 1 ≤ A.units + 1
  exact Nat.le_refl _
def rInD (neg : Bool) : R2 := fun x y H Q => ∃ d ds, Dat H x d ∧ Dat H y (.list ds) ∧ d.depth ≤ 60 ∧ Q (.bl (if neg then !ds.any (fun e => PyData.eqv e d) else ds.any fun e => PyData.eqv e d)) H
theorem op_notInD {X : Cx} (hu : X.A.units + 64 < cLine) : OpR X (compareOp .NotIn) (rInD true) := by
  intro pins s σ H x y v u Q I rx ry h
  obtain ⟨d, ds, hd, he, dp, q⟩ := h
  obtain ⟨as, r1⟩ := I.dat d hd rx
  cases he with
  | lst e h =>
    have ry' : u = _ := ry
    subst ry'
    obtain ⟨_, its, n, rv, g⟩ := I.hok _ _ e
    obtain ⟨bs, r2⟩ := I.datAll ds h rv
    have hl := DatAll.lay ds h
    refine SeqAt.notIn_listAt (eR s.heap d) ⟨_, g, rfl, _, rfl⟩ (fun w hw => ?_) ⟨.bl _, H, I, rfl, ?_⟩
    · obtain ⟨dw, _, rw', hw'⟩ := reads_mem r2 hl w (by simpa using hw)
      have := in1_units (A := X.A)
      exact eqAt_eR rw' hw' r1 (Dat.lay d hd) (by omega)
    · rw [show its.toArray.any (eR s.heap d) = its.any (eR s.heap d) by simp, any_eR r2 hl]
      exact q
theorem op_inD {X : Cx} (hu : X.A.units + 64 < cLine) : OpR X (compareOp .In) (rInD false) := by
  intro pins s σ H x y v u Q I rx ry h
  obtain ⟨d, ds, hd, he, dp, q⟩ := h
  obtain ⟨as, r1⟩ := I.dat d hd rx
  cases he with
  | lst e h =>
    have ry' : u = _ := ry
    subst ry'
    obtain ⟨_, its, n, rv, g⟩ := I.hok _ _ e
    obtain ⟨bs, r2⟩ := I.datAll ds h rv
    have hl := DatAll.lay ds h
    refine SeqAt.in_listAt (eR s.heap d) ⟨_, g, rfl, _, rfl⟩ (fun w hw => ?_) ⟨.bl _, H, I, rfl, ?_⟩
    · obtain ⟨dw, _, rw', hw'⟩ := reads_mem r2 hl w (by simpa using hw)
      have := in1_units (A := X.A)
      exact eqAt_eR rw' hw' r1 (Dat.lay d hd) (by omega)
    · rw [show its.toArray.any (eR s.heap d) = its.any (eR s.heap d) by simp, any_eR r2 hl]
      exact q
theorem any_deeds (ds : List D3) (d : D3) : (ds.map dD).any (fun e => PyData.eqv e (dD d)) = decide (d ∈ ds) := by
  rw [List.any_map]
  by_cases h : d ∈ ds
  · rw [decide_eq_true h]
    exact List.any_eq_true.mpr ⟨d, h, (enc_dD.inj d d).mpr rfl⟩
  · rw [decide_eq_false h]
    refine List.any_eq_false.mpr fun e he => ?_
    intro z
    have : e = d := (enc_dD.inj e d).mp z
    exact h (this ▸ he)

/-! ### xs.remove(d) -/
theorem entry_rm_loop : entryFor table "list.remove.loop" = some Builtin.«list.remove.loop» := entryFor_of_fast (by kernel_rfl)
theorem plain_rm_loop : plainId "list.remove.loop" = true := by decide +kernel
theorem size_rm (xs : Array Value) (i : Nat) : (xs.eraseIdxIfInBounds i).size ≤ xs.size := by
  unfold Array.eraseIdxIfInBounds
  split
  · rw [Array.size_eraseIdx]; exact Nat.sub_le _ _
  · exact Nat.le_refl _
theorem rm_loop (l : Addr) (xs : Array Value) (n : Nat) (x : Value) (e : Value → Bool) (j : Nat) (hj : j < xs.size) (hz : xs.size ≤ sizeLine) (hit : e xs[j] = true) : ∀ (k i : Nat), j - i = k → i ≤ j → (∀ m (hm : m < xs.size), i ≤ m → m < j → e xs[m] = false) →
    Meets (Builtin.«list.remove.loop» ⟨[.ref l, x, rawInt i], []⟩) (fun A R s => s.heap.get? l = some { cls := .type "list", data := .seq xs n } ∧ (∀ y, y ∈ xs → SeqAt.EqAt A.in1 s y x (e y)) ∧ R (.ok (.ret .none)) { s with heap := s.heap.update l (Obj.mapSeq (·.eraseIdxIfInBounds j)) })
  | 0, i, hk, hij, hno => by
    intro prog w A R s h
    obtain ⟨hl, he, h⟩ := h
    have eij : i = j := by omega
    subst eij
    show wpAny _ A.in1 (Builtin.List.listItems (.ref l) >>= _) _ _ s
    refine wpAny_bind (listItems_at hl rfl ?_)
    have hi : xs[((i : Nat) : Int).toNat]? = some xs[i] := by rw [Int.toNat_natCast]; simp [hj]
    rw [hi]
    refine wpAny_bind (he _ (Array.getElem_mem hj) prog w _ _ ?_)
    rw [hit]
    simp only [if_true]
    refine wpAny_bind (listUpdate_at hl rfl (wpAny_pure ?_) hz (by rw [Int.toNat_natCast]; refine Nat.le_trans ?_ (Nat.le_succ_of_le hz); exact size_rm xs i))
    exact h
  | k + 1, i, hk, hij, hno => by
    intro prog w A R s h
    obtain ⟨hl, he, h⟩ := h
    have hlt : i < xs.size := by omega
    show wpAny _ A.in1 (Builtin.List.listItems (.ref l) >>= _) _ _ s
    refine wpAny_bind (listItems_at hl rfl ?_)
    have hi : xs[((i : Nat) : Int).toNat]? = some xs[i] := by rw [Int.toNat_natCast]; simp [hlt]
    rw [hi]
    refine wpAny_bind (he _ (Array.getElem_mem hlt) prog w _ _ ?_)
    rw [hno i hlt (Nat.le_refl _) (by omega)]
    simp only [Bool.false_eq_true, if_false]
    refine wpAny_pure ⟨plainId_quiet plain_rm_loop _, codeAny_builtin entry_rm_loop ?_⟩
    rw [Around.under_plainId plain_rm_loop _]
    have hc : ((i : Int) + 1) = ((i + 1 : Nat) : Int) := by omega
    rw [hc]
    exact rm_loop l xs n x e j hj hz hit k (i + 1) (by omega) (by omega) (fun m hm h1 h2 => hno m hm (by omega) h2) prog w A R s ⟨hl, he, h⟩
theorem list_remove (l : Addr) (xs : Array Value) (n : Nat) (x : Value) (e : Value → Bool) (j : Nat) (hj : j < xs.size) (hz : xs.size ≤ sizeLine) (hit : e xs[j] = true) (hno : ∀ m (hm : m < xs.size), m < j → e xs[m] = false) :
    Meets (Builtin.«list.remove» ⟨[.ref l, x], []⟩) (fun A R s => s.heap.get? l = some { cls := .type "list", data := .seq xs n } ∧ (∀ y, y ∈ xs → SeqAt.EqAt A.in1 s y x (e y)) ∧ R (.ok (.ret .none)) { s with heap := s.heap.update l (Obj.mapSeq (·.eraseIdxIfInBounds j)) }) := by
  intro prog w A R s h
  show wpAny _ A.in1 (pure (Fin.again (.builtin "list.remove.loop" ⟨[.ref l, x, rawInt 0], []⟩))) _ _ s
  refine wpAny_pure ⟨plainId_quiet plain_rm_loop _, codeAny_builtin entry_rm_loop ?_⟩
  rw [Around.under_plainId plain_rm_loop _]
  exact rm_loop l xs n x e j hj hz hit _ 0 rfl (Nat.zero_le _) (fun m hm _ h2 => hno m hm h2) prog w A R s h
section
variable {X : Cx}
/-- the list's deeds without the first that equals d -/
def rRemove : V → List V → Hp → VK → Prop := fun x vs H Q => ∃ l ds d y, x = .ref l ∧ vs = [y] ∧ LD H l ds ∧ T3 H y d ∧ d ∈ ds ∧ ∀ ws, Paired (T3 H) ws (ds.erase d) → Q .non (upd H l (.lst ws))
theorem first_ix {d : D3} : ∀ {ds : List D3}, d ∈ ds → ∃ j, ds[j]? = some d ∧ (∀ m e, m < j → ds[m]? = some e → e ≠ d) ∧ ds.erase d = ds.eraseIdx j
  | [], h => by cases h
  | a :: ds, h => by
    by_cases e : a = d
    · subst e
      exact ⟨0, rfl, (fun m _ hm => absurd hm (Nat.not_lt_zero _)), by rw [List.erase_cons_head]; rfl⟩
    · rcases List.mem_cons.mp h with z | z
      · exact absurd z.symm e
      · obtain ⟨j, h1, h2, h3⟩ := first_ix z
        refine ⟨j + 1, by simpa using h1, fun m x hm hx => ?_, by rw [List.erase_cons_tail (by simpa using e), h3]; rfl⟩
        cases m with
        | zero => simp at hx; rw [← hx]; exact e
        | succ m => exact h2 m x (by omega) (by simpa using hx)
theorem Paired.ers {α β : Type} {F : α → β → Prop} : ∀ {l₁ : List α} {l₂ : List β} (n : Nat), Paired F l₁ l₂ → Paired F (l₁.eraseIdx n) (l₂.eraseIdx n)
  | _, _, _, .nil => .nil
  | _, _, 0, .cons _ t => t
  | _, _, n + 1, .cons r t => .cons r (Paired.ers n t)
theorem ers_array (its : List Value) (j : Nat) : its.toArray.eraseIdxIfInBounds j = (its.eraseIdx j).toArray := by
  unfold Array.eraseIdxIfInBounds
  split
  · rw [List.eraseIdx_toArray]
  · rename_i h
    rw [List.eraseIdx_of_length_le (by simpa using h)]
theorem mt_remove (hu : X.A.units + 64 < cLine) : MtM X "list.remove" rRemove := by
  intro pins s σ H x vs v us Q I rx rv h
  obtain ⟨l, ds, d, y, rfl, rfl, ⟨ws, hl, pr⟩, hy, hm, q⟩ := h
  have rx' : v = Value.ref l := rx
  subst rx'
  obtain ⟨u, rfl, ru⟩ := rv.one
  obtain ⟨z, its, n, r, hlen, e⟩ := I.lstM hl
  have hl0 := Paired.length pr
  obtain ⟨j, g1, g2, g3⟩ := first_ix hm
  have hj : j < ds.length := (List.getElem?_eq_some_iff.mp g1).1
  obtain ⟨as, rd⟩ := I.dat (dD d) hy.dat ru
  have da : DatAll H ws (ds.map dD) := DatAll.map (fun _ _ z => T3.dat z) pr
  obtain ⟨bs, ra⟩ := I.datAll _ da r
  have hlay := DatAll.lay _ da
  have at' : ∀ (m : Nat) (hmm : m < its.toArray.size), eR s.heap (dD d) its.toArray[m] = decide ((ds.getD m (0, 0, 0)) = d) := fun m hmm => by
    have hm1 : m < its.length := by simpa using hmm
    have hm2 : m < ws.length := by omega
    obtain ⟨um, em, rm⟩ := r.get (List.getElem?_eq_getElem hm2)
    obtain ⟨dm, gm, tm⟩ := Paired.getL pr (List.getElem?_eq_getElem hm2)
    have e1 : its.toArray[m] = um := by
      rw [List.getElem?_eq_getElem hm1] at em
      exact Option.some.inj em
    obtain ⟨cs, rr⟩ := I.dat (dD dm) tm.dat rm
    rw [e1, eR_eq rr (Dat.lay _ tm.dat), enc_dD.dec, List.getD_eq_getElem?_getD, gm]
    rfl
  have hjz : j < its.toArray.size := by rw [List.size_toArray]; omega
  refine call_meets F.slot_list_remove ⟨_, e, rfl⟩ F.entry_list_remove (F.args_list_remove_2 _ _) (list_remove l its.toArray n u (eR s.heap (dD d)) j hjz (by rw [List.size_toArray]; omega) ?_ ?_) ⟨e, fun w hw => ?_, ?_⟩
  · rw [at' j hjz, List.getD_eq_getElem?_getD, g1]; exact decide_eq_true rfl
  · intro m hmm hmj
    rw [at' m hmm]
    refine decide_eq_false ?_
    have hm2 : m < ds.length := by rw [List.size_toArray] at hmm; omega
    rw [List.getD_eq_getElem?_getD, List.getElem?_eq_getElem hm2]
    exact g2 m _ hmj (List.getElem?_eq_getElem hm2)
  · obtain ⟨dw, _, rw', hw'⟩ := reads_mem ra hlay w (by simpa using hw)
    have := in1_units (A := X.A)
    have dp := enc_dD.dep d
    exact eqAt_eR rw' hw' rd (Dat.lay _ hy.dat) (by omega)
  · refine ⟨.non, _, I.lset (its' := its.eraseIdx j) (t' := s.toks) hl e (ers_array its j) (Paired.ers j r) ?_, rfl, q _ ?_⟩
    · exact Nat.le_trans (len_erase _ _) z
    · rw [g3]; exact Paired.ers j pr
/-- xs.insert(0, v) -/
def rInsert0 : V → List V → Hp → VK → Prop := fun x vs H Q => ∃ l ws y, x = .ref l ∧ vs = [.int 0, y] ∧ H l = some (.lst ws) ∧ ws.length < sizeLine ∧ Q .non (upd H l (.lst (y :: ws)))
theorem mt_insert0 : MtM X "list.insert" rInsert0 := by
  intro pins s σ H x vs v us Q I rx rv h
  obtain ⟨l, ws, y, rfl, rfl, hl, hz, q⟩ := h
  have rx' : v = Value.ref l := rx
  subst rx'
  obtain ⟨u, u', rfl, ru, ru'⟩ := vals2 rv
  obtain ⟨t, rfl⟩ := ru
  obtain ⟨z, its, n, r, hlen, e⟩ := I.lstM hl
  refine call_meets F.slot_list_insert ⟨_, e, rfl⟩ F.entry_list_insert (F.args_list_insert_3 _ _ _) (AutoListH.list_insert_list_int_val_1 l its.toArray n 0 t u' (by decide) (by rw [List.size_toArray]; omega)) ⟨e, ?_⟩
  refine ⟨.non, _, I.lset (its' := u' :: its) (t' := s.toks) hl e ?_ (.cons ru' r) (by rw [List.length_cons]; omega), rfl, q⟩
  simp
/-- xs.index(i), a list of ints -/
def rIndexI : V → List V → Hp → VK → Prop := fun x vs H Q => ∃ (l : Addr) (ns : List Int) (i : Int) (j : Nat), x = .ref l ∧ vs = [.int i] ∧ H l = some (.lst (ns.map V.int)) ∧ ns[j]? = some i ∧ (∀ m, m < j → ns[m]? ≠ some i) ∧ Q (.int (j : Nat)) H
def isI' (i : Int) (v : Value) : Bool := match v with
  | .int k _ => k == i
  | _ => false
theorem mt_indexI : MtM X "list.index" rIndexI := by
  intro pins s σ H x vs v us Q I rx rv h
  obtain ⟨l, ns, i, j, rfl, rfl, hl, hj, hno, q⟩ := h
  have rx' : v = Value.ref l := rx
  subst rx'
  obtain ⟨u, rfl, ru⟩ := rv.one
  obtain ⟨t, rfl⟩ := ru
  obtain ⟨z, its, n, r, hlen, e⟩ := I.lstM hl
  have hlen' : ns.length = its.length := by rw [← hlen, List.length_map]
  have at' : ∀ (m : Nat) (hmm : m < its.toArray.size), ∃ k tk, its.toArray[m] = .int k tk ∧ ns[m]? = some k := fun m hmm => by
    have hm1 : m < its.length := by simpa using hmm
    have hm2 : m < ns.length := by omega
    obtain ⟨um, em, tk, rm⟩ := r.get (x := .int ns[m]) (by rw [List.getElem?_map, List.getElem?_eq_getElem hm2]; rfl)
    rw [List.getElem?_eq_getElem hm1] at em
    exact ⟨ns[m], tk, (Option.some.inj em).trans rm, List.getElem?_eq_getElem hm2⟩
  have hjl : j < ns.length := (List.getElem?_eq_some_iff.mp hj).1
  have hjz : j < its.toArray.size := by rw [List.size_toArray]; omega
  have hz63 := line63
  refine call_meets F.slot_list_index ⟨_, e, rfl⟩ F.entry_list_index (F.args_list_index_2 _ _) (SeqAt.list_indexAt l its.toArray n none #[] (.int i t) (isI' i) j hjz (by omega) ?_ ?_) ⟨e, fun w hw => ?_, ?_⟩
  · obtain ⟨k, tk, e1, e2⟩ := at' j hjz
    rw [e1]
    rw [hj] at e2
    cases e2
    exact beq_self_eq_true _
  · intro m hmm hmj
    obtain ⟨k, tk, e1, e2⟩ := at' m hmm
    rw [e1]
    refine beq_eq_false_iff_ne.mpr fun z => ?_
    subst z
    exact hno m hmj e2
  · obtain ⟨m, hm, rfl⟩ := List.getElem_of_mem (show w ∈ its by simpa using hw)
    obtain ⟨k, tk, e1, _⟩ := at' m (by simpa using hm)
    have e1' : its[m] = .int k tk := by simpa using e1
    rw [e1']
    exact SeqAt.EqAt.int_int k tk i t
  · exact ⟨.int j, H, I.tok _, ⟨_, rfl⟩, q⟩
end
end L2

end

section
namespace L2
open PySem PySem.Spec PyProof.Rows

/-! ### rows: lists of lists of deeds -/
def Rows (H : Hp) (bs : List Addr) (rs : List (List D3)) : Prop := Paired (LD H) bs rs
theorem LD.wr {H : Hp} {b l : Addr} {r : List D3} {xs : List V} {o : HO} (hne : b ≠ l) (hl : H l = some (.lst xs)) (h : LD H b r) : LD (upd H l o) b r := by
  obtain ⟨vs, e, p⟩ := h
  exact ⟨vs, by rw [upd_ne hne]; exact e, Paired.mapP p fun _ _ z => z.wr hl⟩
theorem Rows.same {H H' : Hp} {bs : List Addr} {rs : List (List D3)} (S : Same H H') (h : Rows H bs rs) : Rows H' bs rs := Paired.mapP h fun _ _ z => z.same S
theorem Rows.wr {H : Hp} {l : Addr} {xs : List V} {o : HO} (hl : H l = some (.lst xs)) : ∀ {bs : List Addr} {rs : List (List D3)}, l ∉ bs → Rows H bs rs → Rows (upd H l o) bs rs
  | _, _, _, .nil => .nil
  | b :: bs, _, hn, .cons r t => .cons (r.wr (fun z => hn (by rw [z]; exact List.mem_cons_self)) hl) (Rows.wr hl (fun z => hn (List.mem_cons_of_mem _ z)) t)
theorem Rows.set {H : Hp} {b : Addr} {xs : List V} {o : HO} {r' : List D3} (hb : H b = some (.lst xs)) (h' : LD (upd H b o) b r') : ∀ {bs : List Addr} {rs : List (List D3)} {k : Nat}, bs.Nodup → bs[k]? = some b → Rows H bs rs → Rows (upd H b o) bs (rs.set k r')
  | _, _, _, _, e, .nil => by simp at e
  | c :: bs, _, 0, nd, e, .cons r t => by
    simp at e; subst e
    exact .cons h' (Rows.wr hb (List.nodup_cons.mp nd).1 t)
  | c :: bs, _, k + 1, nd, e, .cons r t => by
    have e' : bs[k]? = some b := by simpa using e
    refine .cons (r.wr (fun z => (List.nodup_cons.mp nd).1 (by rw [z]; exact List.mem_of_getElem? e')) hb) (Rows.set hb h' (List.nodup_cons.mp nd).2 e' t)
theorem Rows.dat {H : Hp} : ∀ {bs : List Addr} {rs : List (List D3)}, Rows H bs rs → DatAll H (bs.map V.ref) (rs.map dL)
  | _, _, .nil => .nil
  | _, _, .cons r t => .cons r.dat (Rows.dat t)
def dR (rs : List (List D3)) : PyData := .list (rs.map dL)
theorem enc_dR : Enc dR 3 := enc_list enc_dL
theorem itl_dR (rs : List (List D3)) : itl (dR rs) = true := itl_all itl_dL rs
theorem Rows.dat' {H : Hp} {a : Addr} {bs : List Addr} {rs : List (List D3)} (e : H a = some (.lst (bs.map V.ref))) (h : Rows H bs rs) : Dat H (.ref a) (dR rs) := .lst e h.dat
/-- a list of new lists of deeds is made, item by item -/
theorem comp_rows {K : PySem.W.Frag} {js : List Nat} {σ : St} {te : TE} {H : Hp} {a : Addr} {Q : VK} (xs : List V) (rs : List (List D3)) (hlen : xs.length = rs.length) (hz : xs.length < sizeLine) (hS : ∀ H', Same H H' → SqL K H' a xs)
    (hte : ∀ (i : Nat) x r, xs[i]? = some x → rs[i]? = some r → ∀ H' Q', Same H H' → (∀ b ws, H' b = none → Paired (T3 H') ws r → Q' (.ref b) (upd H' b (.lst ws))) → te ((stC 1 js σ).set 0 (some x)) H' Q')
    (q : ∀ D bs H', Same H H' → H D = none → H' D = some (.lst (bs.map V.ref)) → Rows H' bs rs → (∀ b ∈ bs, H b = none ∧ b ≠ D) → bs.Nodup → Q (.ref D) H') : LoopC 1 js σ (gName 0) tYes te (Itl K a) H Q := by
  refine comp_list (xs := xs) (fun D i ys H' => Same H H' ∧ ∃ bs, ys = bs.map V.ref ∧ H' D = some (.lst ys) ∧ Rows H' bs (rs.take i) ∧ (∀ b ∈ bs, H b = none ∧ b ≠ D) ∧ bs.Nodup) hz (fun D hD => ⟨same_new hD _, [], rfl, upd_same, .nil, (fun _ z => nomatch z), .nil⟩) (fun D i ys H' hD hi h => ?_) (fun D i x ys H' hD hx h => ?_) fun D ys H' hD h => ?_
  · obtain ⟨S, bs, rfl, hl, p, _⟩ := h
    refine ⟨hS H' S, hl, ?_⟩
    rw [List.length_map, Paired.length p, List.length_take]; omega
  · obtain ⟨S, bs, rfl, hl, p, fr, nd⟩ := h
    have hi : i < xs.length := (List.getElem?_eq_some_iff.mp hx).1
    have hb : rs[i]? = some rs[i] := List.getElem?_eq_getElem (by omega)
    refine ⟨drop_set0 _ _, hte i x _ hx hb H' _ S fun b ws hb0 pw => ?_⟩
    have hbD : b ≠ D := Ne.symm (ne_of_none hl hb0)
    have nb : b ∉ bs := fun z => by
      obtain ⟨k, hk⟩ := List.getElem?_of_mem z
      obtain ⟨r, _, vs, e, _⟩ := Paired.getL p hk
      rw [hb0] at e; cases e
    refine ⟨new_at hb0 hl, (S.new hb0 _).wr hD _, bs ++ [b], by rw [List.map_append]; rfl, upd_same, ?_, fun c hc => ?_, ?_⟩
    · rw [List.take_add_one, hb]
      have Dn : D ∉ bs := fun z => (fr D z).2 rfl
      refine Paired.app (Rows.wr (new_at hb0 hl) Dn (Rows.same (same_new hb0 _) p)) (.cons (LD.wr hbD (new_at hb0 hl) ⟨ws, upd_same, stab_T3.list (same_new hb0 _) pw⟩) .nil)
    · rcases List.mem_append.mp hc with z | z
      · exact fr c z
      · rw [List.mem_singleton.mp z]; exact ⟨S.free hb0, hbD⟩
    · refine List.nodup_append.mpr ⟨nd, by simp, fun c hc d hd => ?_⟩
      rw [List.mem_singleton.mp hd]
      rintro rfl
      exact nb hc
  · obtain ⟨S, bs, rfl, hl, p, fr, nd⟩ := h
    rw [hlen, List.take_length] at p
    exact q D bs H' S hD hl p fr nd
theorem comp_empties {js : List Nat} {σ : St} {H : Hp} {Q : VK} {lo : Int} (n : Nat) (hz : n < sizeLine)
    (q : ∀ D bs H', Same H H' → H D = none → H' D = some (.lst (bs.map V.ref)) → Rows H' bs (List.replicate n []) → (∀ b ∈ bs, H b = none ∧ b ≠ D) → bs.Nodup → Q (.ref D) H') : LoopC 1 js σ (gName 0) tYes (tLst tNil) (Itr lo n) H Q := by
  refine comp_range (k := n) (fun D i ys H' => Same H H' ∧ ∃ bs, ys = bs.map V.ref ∧ H' D = some (.lst ys) ∧ Rows H' bs (List.replicate i []) ∧ (∀ b ∈ bs, H b = none ∧ b ≠ D) ∧ bs.Nodup) hz (fun D hD => ⟨same_new hD _, [], rfl, upd_same, .nil, (fun _ z => nomatch z), .nil⟩) (fun D i ys H' hD hi h => ?_) (fun D i ys H' hD hi h => ?_) fun D ys H' hD h => ?_
  · obtain ⟨S, bs, rfl, hl, p, _⟩ := h
    refine ⟨hl, ?_⟩
    rw [List.length_map, Paired.length p, List.length_replicate]; exact Nat.le_refl _
  · obtain ⟨S, bs, rfl, hl, p, fr, nd⟩ := h
    refine ⟨drop_set0 _ _, (by decide : 0 ≤ sizeLine), fun b hb0 => ?_⟩
    have hbD : b ≠ D := Ne.symm (ne_of_none hl hb0)
    have nb : b ∉ bs := fun z => by
      obtain ⟨k, hk⟩ := List.getElem?_of_mem z
      obtain ⟨r, _, vs, e, _⟩ := Paired.getL p hk
      rw [hb0] at e; cases e
    refine ⟨new_at hb0 hl, (S.new hb0 _).wr hD _, bs ++ [b], by rw [List.map_append]; rfl, upd_same, ?_, fun c hc => ?_, ?_⟩
    · rw [List.replicate_succ']
      have Dn : D ∉ bs := fun z => (fr D z).2 rfl
      refine Paired.app (Rows.wr (new_at hb0 hl) Dn (Rows.same (same_new hb0 _) p)) (.cons (LD.wr hbD (new_at hb0 hl) ⟨[], upd_same, .nil⟩) .nil)
    · rcases List.mem_append.mp hc with z | z
      · exact fr c z
      · rw [List.mem_singleton.mp z]; exact ⟨S.free hb0, hbD⟩
    · refine List.nodup_append.mpr ⟨nd, by simp, fun c hc d hd => ?_⟩
      rw [List.mem_singleton.mp hd]
      rintro rfl
      exact nb hc
  · obtain ⟨S, bs, rfl, hl, p, fr, nd⟩ := h
    exact q D bs H' S hD hl p fr nd
/-! ### what the program's defs promise -/
/-- the layers -/
def layF (ds : List D3) : List (List D3) := (rowsOf (hp clashB ds) (nL clashB ds)).map srt
theorem layF_length (ds : List D3) : (layF ds).length = nL clashB ds := by unfold layF; rw [List.length_map, rowsOf_length]
theorem layF_get {ds : List D3} {k : Nat} (h : k < nL clashB ds) : (layF ds)[k]? = some (srt (rowOf (hp clashB ds) k)) := by unfold layF; rw [List.getElem?_map, rowsOf_get h]; rfl
theorem row_length (l : List (D3 × Int)) (k : Nat) : (rowOf l k).length ≤ l.length := by unfold rowOf; rw [List.length_map]; exact List.length_filter_le _ _
theorem nL_le (ds : List D3) : nL clashB ds ≤ ds.length := by
  -- the rows are none of them empty, and hold no more than the diary
  have h : ∀ n, n ≤ nL clashB ds → n ≤ (((hp clashB ds).filter fun p => decide (p.2 < (n : Int))).length) := by
    intro n
    induction n with
    | zero => intro _; exact Nat.zero_le _
    | succ n ih =>
      intro hn
      have i := ih (by omega)
      have ne := row_ne clashB (ds := ds) (k := n) (by omega)
      have key : ((hp clashB ds).filter fun p => decide (p.2 < ((n + 1 : Nat) : Int))).length = ((hp clashB ds).filter fun p => decide (p.2 < (n : Int))).length + (rowOf (hp clashB ds) n).length := by
        unfold rowOf
        rw [List.length_map]
        generalize hp clashB ds = l
        induction l with
        | nil => rfl
        | cons p l ihl =>
          rw [List.filter_cons, List.filter_cons, List.filter_cons]
          by_cases h1 : p.2 < (n : Int)
          · rw [if_pos (decide_eq_true (by omega : p.2 < ((n + 1 : Nat) : Int))), if_pos (decide_eq_true h1), if_neg (by simp; omega)]
            simp only [List.length_cons]
            omega
          · by_cases h3 : p.2 = (n : Int)
            · rw [if_pos (decide_eq_true (by omega : p.2 < ((n + 1 : Nat) : Int))), if_neg (by simpa using h1), if_pos (by simpa using h3)]
              simp only [List.length_cons]
              omega
            · rw [if_neg (by have : ¬ p.2 < ((n + 1 : Nat) : Int) := by omega
                             simpa using this), if_neg (by simpa using h1), if_neg (by simpa using h3)]
              exact ihl
      have pos : 0 < (rowOf (hp clashB ds) n).length := List.length_pos_iff.mpr ne
      omega
  refine Nat.le_trans (h _ (Nat.le_refl _)) ?_
  rw [← hp_length clashB ds]
  exact List.length_filter_le _ _
def spLayers : Sp := fun vs H Q _ => ∃ (a : Addr) (ds : List D3), vs = [.ref a] ∧ LD H a ds ∧ ds.length < 64 ∧
  ∀ r bs H', Same H H' → H r = none → H' r = some (.lst (bs.map V.ref)) → Rows H' bs (layF ds) → (∀ b ∈ bs, H b = none ∧ b ≠ r) → Q (.ref r) H'
def ixs (l : List Nat) : List V := l.map fun (p : Nat) => V.int (p : Int)
theorem ixs_ints (l : List Nat) : ixs l = (l.map fun (p : Nat) => (p : Int)).map V.int := by unfold ixs; rw [List.map_map]; rfl
def spBelow : Sp := fun vs H Q _ => ∃ (a t : Addr) (p : Nat) (due : List Nat) (ds : List D3), vs = [.ref a, .ref t, .int (p : Int)] ∧ LD H a ds ∧ ds.length < 64 ∧ H t = some (.lst ((hts clashB ds).map V.int)) ∧ Ch clashB ds (p :: due) ∧ due.length + 1 < nL clashB ds ∧
  ∀ H' q, Same H H' → IsNx clashB ds (p :: due) q → Q (.int (q : Int)) H'
def spChain : Sp := fun vs H Q _ => ∃ (a : Addr) (ds : List D3), vs = [.ref a] ∧ LD H a ds ∧ ds.length < 64 ∧
  ∀ r l H', Same H H' → H r = none → H' r = some (.lst (ixs l)) → Ch clashB ds l → l.length = nL clashB ds → Q (.ref r) H'
/-! ### the least -/
theorem minF_some : ∀ (ns : List Int) (m : Int), ∃ x, minF (some m) ns = some x ∧ x ≤ m ∧ (∀ y ∈ ns, x ≤ y) ∧ (x = m ∨ x ∈ ns)
  | [], m => ⟨m, rfl, Int.le_refl _, (fun y hy => nomatch hy), .inl rfl⟩
  | n :: ns, m => by
    obtain ⟨x, e, h1, h2, h3⟩ := minF_some ns (if n < m then n else m)
    refine ⟨x, e, ?_, fun y hy => ?_, ?_⟩
    · split at h1 <;> omega
    · rcases List.mem_cons.mp hy with rfl | hy
      · split at h1 <;> omega
      · exact h2 y hy
    · rcases h3 with h3 | h3
      · split at h3
        · exact .inr (by rw [h3]; exact List.mem_cons_self)
        · exact .inl h3
      · exact .inr (List.mem_cons_of_mem _ h3)
theorem minF_is {ns : List Int} {x : Int} (hx : x ∈ ns) (h : ∀ y ∈ ns, x ≤ y) : minF none ns = some x := by
  cases ns with
  | nil => cases hx
  | cons n ns =>
    obtain ⟨y, e, h1, h2, h3⟩ := minF_some ns n
    have : x = y := by
      refine Int.le_antisymm ?_ ?_
      · rcases h3 with rfl | h3
        · exact h _ List.mem_cons_self
        · exact h _ (List.mem_cons_of_mem _ h3)
      · rcases List.mem_cons.mp hx with rfl | hx
        · exact h1
        · exact h2 x hx
    rw [this]; exact e
theorem maxF_is {ns : List Int} {x : Int} (hx : x ∈ ns) (h : ∀ y ∈ ns, y ≤ x) : maxF none ns = some x := by
  cases ns with
  | nil => cases hx
  | cons n ns =>
    obtain ⟨y, e, h1, h2⟩ := maxF_cons n ns
    have : x = y := Int.le_antisymm (h1 x hx) (h y h2)
    rw [this]; exact e
/-! ### sorted(ints) -/
def rSortedI : List V → Hp → VK → Prop := fun xs H Q => ∃ (a : Addr) (ns : List Int), xs = [.ref a] ∧ H a = some (.lst (ns.map V.int)) ∧ ns.length < 64 ∧ ∀ (r : Addr) (ms : List Int), H r = none → ms.Perm ns → ms.Pairwise (· ≤ ·) → Q (.ref r) (upd H r (.lst (ms.map V.int)))
theorem call_sortedI {X : Cx} : CallR X (.builtin "sorted") rSortedI := by
  intro pins s σ H xs us Q I r h
  obtain ⟨a, ns, rfl, ha, h64, q⟩ := h
  obtain ⟨u, rfl, ru⟩ := vals1 r
  have ru' : u = Value.ref a := ru
  subst ru'
  obtain ⟨hz, its, n, rv, hlen, g⟩ := I.lstM ha
  rw [List.length_map] at hlen
  refine sorted_ints ⟨_, g, rfl, _, rfl⟩ (intsAre_of rv) (by omega) fun out ms hI hp hr => ?_
  obtain ⟨e, ge⟩ := sortedAll_at s.heap its out
  have hv : Vals (ms.map V.int) out.toList := vals_ints hI
  have J : Inv X pins σ (upd H (s.heap.objs.size + 1) (.lst (ms.map V.int))) { s with heap := sortedAll s.heap its out, toks := s.toks } :=
    I.laid (h' := sortedAll s.heap its out) (fun b o q => sortedAll_old q) (Nat.le_succ _) ⟨by rw [List.length_map, hp.length_eq]; exact Nat.le_of_lt (small1000 (by omega)), out.toList, e, hv, by simpa using ge⟩
  exact ⟨.ref (s.heap.objs.size + 1), _, J, rfl, q _ _ (I.hok.fresh (Nat.le_succ _)) hp hr⟩
end L2

end

section
namespace L2
open PySem PySem.Spec PyProof.Rows
def rNotInD : R2 := fun x y H Q => ∃ d ds, Dat H x d ∧ Dat H y (.list ds) ∧ d.depth ≤ 60 ∧ Q (.bl (!ds.any fun e => PyData.eqv e d)) H
theorem op_nin {X : Cx} (hu : X.A.units + 64 < cLine) : OpR X (compareOp .NotIn) rNotInD := fun pins s σ H x y v u Q I rx ry h => by
  obtain ⟨d, ds, h1, h2, h3, q⟩ := h
  exact op_notInD hu pins s σ H x y v u Q I rx ry ⟨d, ds, h1, h2, h3, q⟩
/-! ### what the law's own defs promise -/
def spSortedL : Sp := fun vs H Q _ => ∃ (r : Addr) (bs : List Addr) (rs : List (List D3)), vs = [.ref r] ∧ H r = some (.lst (bs.map V.ref)) ∧ Rows H bs rs ∧ (∀ r ∈ rs, r ≠ [] ∧ srt r = r ∧ r.length < 64) ∧ ∀ H', Same H H' → Q (.bl true) H'
def spLevels : Sp := fun vs H Q _ => ∃ (a r : Addr) (bs : List Addr) (ds : List D3), vs = [.ref a, .ref r] ∧ LD H a ds ∧ ds.length < 64 ∧ H r = some (.lst (bs.map V.ref)) ∧ Rows H bs (layF ds) ∧ ∀ x H', Same H H' → H x = none → H' x = some (.lst ((hts clashB ds).map V.int)) → Q (.ref x) H'
def spChainL : Sp := fun vs H Q _ => ∃ (a t : Addr) (ds : List D3), vs = [.ref a, .ref t, .int ((nL clashB ds : Nat) : Int)] ∧ LD H a ds ∧ (∀ d ∈ ds, okD d) ∧ ds.length < 64 ∧ H t = some (.lst ((hts clashB ds).map V.int)) ∧
  ∀ r l H', Same H H' → H r = none → H' r = some (.lst (ixs l)) → Ch clashB ds l → l.length = nL clashB ds → Q (.ref r) H'
theorem lay_rows {ds : List D3} (h64 : ds.length < 64) : ∀ r ∈ layF ds, r ≠ [] ∧ srt r = r ∧ r.length < 64 := fun r hr => by
  obtain ⟨k, hk⟩ := List.getElem?_of_mem hr
  have hk' : k < nL clashB ds := by
    have := (List.getElem?_eq_some_iff.mp hk).1
    rwa [layF_length] at this
  rw [layF_get hk'] at hk
  have e : srt (rowOf (hp clashB ds) k) = r := Option.some.inj hk
  subst e
  have hl := row_length (hp clashB ds) k
  rw [hp_length] at hl
  refine ⟨fun z => row_ne clashB hk' ?_, srt_id (srt_rises _), by rw [srt_length]; omega⟩
  have := srt_length (rowOf (hp clashB ds) k)
  rw [z] at this
  exact List.length_eq_zero_iff.mp this.symm
theorem lay_left (ds : List D3) : LeftOk clashB ds (layF ds) 0 := by
  refine ⟨layF_length ds, fun k r hk => ?_⟩
  have hk' : k < nL clashB ds := by
    have := (List.getElem?_eq_some_iff.mp hk).1
    rwa [layF_length] at this
  rw [layF_get hk'] at hk
  rw [← Option.some.inj hk, List.drop_zero]
  exact srt_perm _
theorem ixs_inj {l l' : List Nat} (h : l = l') : ixs l = ixs l' := by rw [h]
theorem dat_ixs {H : Hp} {a : Addr} {l : List Nat} (h : H a = some (.lst (ixs l))) : Dat H (.ref a) (dI (l.map fun (p : Nat) => (p : Int))) := by
  rw [ixs_ints] at h
  exact dat_ints h
theorem rising_ints {l : List Nat} (h : l.Pairwise (· < ·)) : (l.map fun (p : Nat) => (p : Int)).Pairwise (· ≤ ·) := by
  rw [List.pairwise_map]
  exact h.imp fun {a b} z => by omega
theorem beq_uniq {α : Type} (b1 b2 : BEq α) (h1 : @LawfulBEq α b1) (h2 : @LawfulBEq α b2) : b1 = b2 := by
  have e : @BEq.beq α b1 = @BEq.beq α b2 := by
    funext x y
    cases h : @BEq.beq α b1 x y with
    | true =>
      have z := @LawfulBEq.eq_of_beq α b1 h1 _ _ h
      subst z
      exact (@ReflBEq.rfl α b2 h2.toReflBEq x).symm
    | false =>
      cases h' : @BEq.beq α b2 x y with
      | false => rfl
      | true =>
        have z := @LawfulBEq.eq_of_beq α b2 h2 _ _ h'
        subst z
        rw [@ReflBEq.rfl α b1 h1.toReflBEq x] at h
        cases h
  cases b1
  cases b2
  exact congrArg BEq.mk e
theorem er_eq (l : List D3) (d : D3) : @List.erase D3 instBEqProd l d = @List.erase D3 instBEqOfDecidableEq l d := by
  rw [beq_uniq (instBEqProd : BEq D3) instBEqOfDecidableEq inferInstance inferInstance]
end L2

end

section
open PySem PySem.Spec PyProof.Rows
namespace L2

/-! ### an exception on its way: behind a call -/
/-- the frames' heads apart, everything that stood before is in B -/
structure Fly (P : Program) (w : World) (outer : List Env) (H : Hp) (s : Shared) (a : Addr) (cls a0 : Value) (B : Heap) (H' : Hp) (s' : Shared) : Prop where
  os : s'.os = s.os
  bare : AllBare s'.gens
  fly : Heap.FlyingW B outer a cls a0 s'.heap
  keep : ∀ b o, s.heap.get? b = some o → H b = none → b ∉ frs outer → B.get? b = some o
  slot : ∀ b o, s.heap.get? b = some o → H b = none → b ∈ frs outer → ∃ sl, s'.heap.get? b = some { o with slots := sl }
  free : ∀ b o, s.heap.get? b = some o → H b = none → H' b = none
  there : ∀ b o, s.heap.get? b = some o → b ∉ frs outer → ∃ o', B.get? b = some o'
  tups : ∀ b xs, H b = some (.tup xs) → H' b = some (.tup xs)
  frzs : ∀ b o u, H b = some (.frz o u) → H' b = some (.frz o u)
  tbls : ∀ b ps, H b = some (.tbl ps) → ∃ more, H' b = some (.tbl (ps ++ more))
  hok : HOk P w H' B
  na : H' a = none
  new : ∀ o, s.heap.get? a ≠ some o
def CX1 (P : Program) (w : World) : CXT := fun outer H s E e s' => ∃ a cls a0 B H', e = .ref a ∧ Fly P w outer H s a cls a0 B H' s' ∧ E cls none H'

section
variable {P : Program} {w : World} {outer : List Env} {H H' : Hp} {s s' : Shared} {a : Addr} {cls a0 : Value} {B : Heap}
theorem frs_eq (l : List Env) : frs l = l.filterMap (·.frame) := rfl
theorem FunFrames.to {h b1 b2 : Heap} : ∀ {l : List Env}, h.FunFrames b1 l → (∀ b ∈ frs l, b2.get? b = none) → h.FunFrames b2 l
  | [], _, _ => trivial
  | env :: r, ⟨hk, ⟨L, o, hf, _, ho, hd⟩, hr⟩, hs => by
    have hL : L ∈ frs (env :: r) := by unfold frs; rw [List.filterMap_cons, hf]; exact List.mem_cons_self
    refine ⟨hk, ⟨L, o, hf, hs L hL, ho, hd⟩, FunFrames.to hr fun b hb => hs b ?_⟩
    unfold frs; rw [List.filterMap_cons, hf]; exact List.mem_cons_of_mem _ hb
theorem Fly.un (F : Fly P w outer H s a cls a0 B H' s') : Un (frs outer) [] H H' s.heap s'.heap where
  keep := fun b o e n hb _ => F.fly.1 b o (F.keep b o e n hb)
  slot := fun b o e n hb _ => F.slot b o e n hb
  free := fun b o e n _ => F.free b o e n
  there := fun b o e _ => by
    by_cases hb : b ∈ frs outer
    · obtain ⟨_, o', ho, _⟩ := F.fly.2.2.1.mem hb
      exact ⟨o', ho⟩
    · obtain ⟨o', q⟩ := F.there b o e hb
      exact ⟨o', F.fly.1 b o' q⟩
  tups := F.tups
  frzs := F.frzs
  tbls := F.tbls
theorem Fly.hok' (F : Fly P w outer H s a cls a0 B H' s') : HOk P w H' s'.heap := F.hok.kept F.fly.1
end

theorem ObjOk.has {P : Program} {w : World} {H : Hp} {h : Heap} {a : Addr} {o : HO} (x : ObjOk P w H h a o) : ∃ o, h.get? a = some o := by
  cases o with
  | lst xs => obtain ⟨_, _, _, _, e⟩ := x; exact ⟨_, e⟩
  | tup xs => obtain ⟨_, _, _, o, e, _⟩ := x; exact ⟨_, e⟩
  | dK kvs => obtain ⟨_, _, _, _, o, _, _, e, _⟩ := x; exact ⟨_, e⟩
  | dT kvs => obtain ⟨_, _, _, _, o, _, _, e, _⟩ := x; exact ⟨_, e⟩
  | set S n => obtain ⟨o, _, _, _, e, _⟩ := x; exact ⟨_, e⟩
  | ins C dx fs => obtain ⟨_, _, _, e, _⟩ := x; exact ⟨_, e⟩
  | own y => obtain ⟨_, e⟩ := x; exact ⟨_, e⟩
  | xd fs => obtain ⟨_, ⟨_, _, _, e, _⟩, _⟩ := x; exact ⟨_, e⟩
  | rng lo hi => obtain ⟨_, _, _, e⟩ := x; exact ⟨_, e⟩
  | frz ob u => obtain ⟨e, _⟩ := x; exact ⟨_, e⟩
  | tbl ps => exact ⟨_, (show h.get? a = some _ from x)⟩
  | met f y => exact ⟨_, (show h.get? a = some _ from x)⟩
  | ext φ => obtain ⟨_, ⟨_, e⟩, _⟩ := x; exact ⟨_, e⟩

section
variable {X : Cx} {pins : List (Addr × Obj)} {σ : St} {H : Hp} {s : Shared}
/-- the state behind a call that an exception left -/
theorem Inv.flown {H' : Hp} {s' : Shared} {a : Addr} {cls a0 : Value} {B : Heap} (I : Inv X pins σ H s) (F : Fly X.prog X.w X.stack H s a cls a0 B H' s') : Inv X pins σ H' s' :=
  I.call' (ch := []) F.os F.un F.hok' F.bare fun b z => absurd z (by simp)

/-- .. and one frame further -/
theorem Inv.flies {H' : Hp} {s' : Shared} {a : Addr} {cls a0 : Value} {B h' : Heap} (I : Inv X pins σ H s) (F : Fly X.prog X.w X.stack H s a cls a0 B H' s') (hx : X.ex = []) (hst : X.stack = X.env :: X.outer)
    (hf : Heap.FlyingW B X.outer a cls a0 h') (up : s'.heap.UpToSlots h') : Fly X.prog X.w X.outer X.H₀ X.s₀ a cls a0 B H' { s' with heap := h' } := by
  have J : Inv X pins σ H' s' := I.flown F
  have neL : ∀ b o, X.s₀.heap.get? b = some o → b ≠ X.env.locals := fun b o e => Nat.ne_of_lt (Nat.lt_of_lt_of_le (Heap.lt_size e) I.ok.above)
  have nex : ∀ b, b ∉ X.ex := fun b z => by rw [hx] at z; exact absurd z (by simp)
  have nst : ∀ b o, X.s₀.heap.get? b = some o → b ∉ X.fs → b ∉ frs X.stack := fun b o e hb z => by
    rcases List.mem_cons.mp (I.stkSub b z) with q | q
    · exact neL b o e q
    · exact hb q
  refine ⟨J.os, J.bare, hf, fun b o e n hb => ?_, fun b o e n hb => ?_, fun b o e n => J.base.free b o e n (nex b), fun b o e hb => ?_, J.base.tups, J.base.frzs, J.base.tbls, F.hok, F.na, fun o e => ?_⟩
  · exact F.keep b o (I.base.keep b o e n hb (nex b)) (I.base.free b o e n (nex b)) (nst b o e hb)
  · obtain ⟨sl, q⟩ := J.base.slot b o e n hb (nex b)
    obtain ⟨_, o', ho, hd⟩ := I.ok.funs.mem hb
    rw [e] at ho; cases ho
    obtain ⟨sl', q'⟩ := up b _ q hd
    exact ⟨sl', q'⟩
  · obtain ⟨o1, e1⟩ := I.base.there b o e (nex b)
    exact F.there b o1 e1 (nst b o e hb)
  · obtain ⟨o1, e1⟩ := I.base.there a o e (nex a)
    exact F.new o1 e1

/-- an exception made here leaves the frame -/
theorem Inv.raised {h1 h' : Heap} {a : Addr} {cls a0 : Value} {args : List Value} (I : Inv X pins σ H s) (hx : X.ex = []) (hst : X.stack = X.env :: X.outer)
    (M : Heap.MadeExcOf s.heap h1 a cls args) (hf : Heap.FlyingW (PySem.W.hideAll s.heap (frs X.stack)) X.outer a cls a0 h') (up : h1.UpToSlots h') :
    Fly X.prog X.w X.outer X.H₀ X.s₀ a cls a0 (PySem.W.hideAll s.heap (frs X.stack)) H { s with heap := h' } := by
  have neL : ∀ b o, X.s₀.heap.get? b = some o → b ≠ X.env.locals := fun b o e => Nat.ne_of_lt (Nat.lt_of_lt_of_le (Heap.lt_size e) I.ok.above)
  have nex : ∀ b, b ∉ X.ex := fun b z => by rw [hx] at z; exact absurd z (by simp)
  have nst : ∀ b o, X.s₀.heap.get? b = some o → b ∉ X.fs → b ∉ frs X.stack := fun b o e hb z => by
    rcases List.mem_cons.mp (I.stkSub b z) with q | q
    · exact neL b o e q
    · exact hb q
  refine ⟨I.os, I.bare, hf, fun b o e n hb => ?_, fun b o e n hb => ?_, fun b o e n => I.base.free b o e n (nex b), fun b o e hb => ?_, I.base.tups, I.base.frzs, I.base.tbls, ?_, ?_, fun o e => ?_⟩
  · exact PySem.W.hideAll_get _ (I.base.keep b o e n hb (nex b)) (nst b o e hb)
  · obtain ⟨sl, q⟩ := I.base.slot b o e n hb (nex b)
    obtain ⟨_, o', ho, hd⟩ := I.ok.funs.mem hb
    rw [e] at ho; cases ho
    obtain ⟨sl', q'⟩ := up b _ (M.keeps _ _ q) hd
    exact ⟨sl', q'⟩
  · obtain ⟨o1, e1⟩ := I.base.there b o e (nex b)
    exact ⟨o1, PySem.W.hideAll_get _ e1 (nst b o e hb)⟩
  · intro b u e
    refine (I.hok b u e).stay (fun c v hc q => PySem.W.hideAll_get _ q fun z => ?_) (fun _ q => q) fun _ _ q => q
    have := I.stkFree c z
    rcases hc with r | r
    · rw [r, e] at this; cases this
    · rw [r] at this; cases this
  · cases q : H a with
    | none => rfl
    | some u =>
      obtain ⟨_, e⟩ := (I.hok a u q).has
      rw [M.new] at e; cases e
  · obtain ⟨o1, e1⟩ := I.base.there a o e (nex a)
    rw [M.new] at e1; cases e1
end
end L2

end

section
open PySem PySem.Spec PyProof.Rows
namespace L2

/-! ### raise of an own class -/
/-- an exception that is made in X's body reaches what X wants of exceptions -/
def Thrown (X : Cx) (E : XK) : Prop := ∀ (pins : List (Addr × Obj)) (σ : St) (H : Hp) (s : Shared) (h1 : Heap) (a : Addr) (cls : Value) (args : List Value), Inv X pins σ H s → Heap.MadeExcOf s.heap h1 a cls args → E cls none H → X.xe (.ref a) { s with heap := h1 }

section
variable {P : Program} {w : World} {K : PySem.W.Frag} {mg : Str → Option Value} {base : Heap} {N : List Str} {qual : Str} {scope : Scope} {f : Addr} {cd : Value} {A : Around} {outer : List Env} {s₀ : Shared} {H₀ : Hp} {E : XK}
theorem thrown_of : Thrown (cxOf (CX1 P w) P w K mg base N qual scope f cd A outer s₀ H₀ E) E := by
  intro pins σ H s h1 a cls args I M hE
  show wpAny _ _ (leaving _ (.ref a)) _ _ _
  refine wpAny_leaves_madeW (base := PySem.W.hideAll s.heap (frs (envOfC qual scope s₀.heap.objs.size f cd :: outer))) (h := s.heap) I.ok.frames rfl (fun b o e => PySem.W.of_hideAll _ e)
    (FunFrames.to I.stack fun b hb => PySem.W.hideAll_none _ hb) M fun h' t hf _ _ up => ?_
  exact ⟨a, cls, .ref t, _, H, rfl, I.raised rfl rfl M hf up, hE⟩
theorem pass_of : Passes (CX1 P w) (cxOf (CX1 P w) P w K mg base N qual scope f cd A outer s₀ H₀ E) E := by
  intro pins σ H s e s' I h
  obtain ⟨a, cls, a0, B, H', rfl, F, hE⟩ := h
  show wpAny _ _ (leaving _ (.ref a)) _ _ _
  refine wpAny_leaves_onW I.ok.frames rfl F.fly fun h' hf up => ?_
  exact ⟨a, cls, a0, B, H', rfl, I.flies F rfl rfl hf up, hE⟩
end

section
variable {X : Cx} {x : Str} {C : Addr} {B newId initId : String} {bm : List Value} {e : Expr} {es : List Expr} {t : TA} {E : XK} {np cpos pos : Pos}
def tRaise (C : Addr) (E : XK) (t : TA) : TS := fun _ σ H => t σ H fun vs H1 => vs.length ≤ sizeLine ∧ E (.ref C) none H1
theorem ps_raise (ht : Thrown X E) (hc : X.calm = true) (hg : Gl X x) (O : OwnCls x C bm newId X.mg X.base) (FB : ExcBaseFacts B newId initId bm) (ha : PA X (e :: es) t) (hdb : (x == ("__debug__" : Str)) = false := by decide)
    (he : starEach (e :: es) X.env = (false, eval e X.env) :: starEach es X.env := by rfl) (hpl : (backTo cpos (starEach es X.env)).any (·.1) = false := by rfl) :
    PS X (.Raise (some (.Call (.Name x np) (e :: es) [] cpos)) none pos) (tRaise C E t) := by
  intro pins s σ H D I h
  obtain ⟨tl, N, nm, q, bs, hdct, sn, sub, ab, col, dd, k0, k1, k2, k3, k5, mN, hC, hN, hni, T⟩ := O.obj
  refine wpAny_Raise_call_subT (C := C) (nm := nm) (q := q) (N := N) (bs := bs) (bm := tl) (hdct := hdct) (sn := sn) (sub := sub) (ab := ab) (col := col) (dd := dd) (k0 := k0) (k1 := k1) (k2 := k2) (k3 := k3) (k5 := k5)
    FB (mN := mN) (T.hasType FB.hasBase) (I.ok.hd hc) (by rw [he]; show (false || (backTo cpos (starEach es X.env)).any (·.1)) = false; rw [hpl]; rfl) hni (ld_glob I hg O.bound ⟨rfl, ?_⟩ hdb)
  have hb := ha cpos pins s σ H _ I h
  rw [he] at hb ⊢
  refine Calls.evalArgs_plain (wpAny_mono hb (fun us s2 h2 => ?_) fun _ _ y => y)
  obtain ⟨vs, H1, I1, r, z, hE⟩ := h2
  exact ⟨rfl, by rw [← r.length]; exact z, I1.bk _ _ hC, hN.keeps I1.bk, T.keeps I1.bk, fun h' a M => ht pins σ H1 s2 h' a _ _ I1 M hE⟩
end
end L2

end

section
open PySem PySem.Spec PyProof.Rows
namespace L2

/-! ### code that an exception may leave, caught in the same frame -/
theorem Fly.on {P : Program} {w : World} {outer : List Env} {H H' : Hp} {s s' : Shared} {a : Addr} {cls a0 : Value} {B h' : Heap} (F : Fly P w outer H s a cls a0 B H' s') (hf : Heap.FlyingW B outer a cls a0 h') (up : s'.heap.UpToSlots h')
    (funs : ∀ b ∈ frs outer, ∀ o, s.heap.get? b = some o → ∀ vs, o.data ≠ .fields vs) : Fly P w outer H s a cls a0 B H' { s' with heap := h' } :=
  ⟨F.os, F.bare, hf, F.keep, fun b o e n hb => by
    obtain ⟨sl, q⟩ := F.slot b o e n hb
    obtain ⟨sl', q'⟩ := up b _ q (funs b hb o e)
    exact ⟨sl', q'⟩, F.free, F.there, F.tups, F.frzs, F.tbls, F.hok, F.na, F.new⟩
theorem Inv.funs' {X : Cx} {pins : List (Addr × Obj)} {σ : St} {H : Hp} {s : Shared} (I : Inv X pins σ H s) : ∀ b ∈ frs X.stack, ∀ o, s.heap.get? b = some o → ∀ vs, o.data ≠ .fields vs := fun b hb o e => by
  obtain ⟨_, o', ho, hd⟩ := I.stack.mem hb
  rw [e] at ho; cases ho
  exact hd

def XP (X : Cx) (pins : List (Addr × Obj)) (σ : St) (R : XK) (e : Value) (s' : Shared) : Prop := ∃ a cls a0 B H1 s1 H', e = .ref a ∧ Inv X pins σ H1 s1 ∧ Fly X.prog X.w X.stack H1 s1 a cls a0 B H' s' ∧ R cls none H'
abbrev TEX := St → Hp → VK → XK → Prop
def PEX (X : Cx) (e : Expr) (t : TEX) : Prop :=
  ∀ (pins : List (Addr × Obj)) (s : Shared) (σ : St) (H : Hp) (Q : VK) (R : XK), Inv X pins σ H s → t σ H Q R → wpAny (model X.prog X.w) X.A (eval e X.env) (EP X pins σ Q) (XP X pins σ R) s
abbrev TSX := Ends → (St → XK) → St → Hp → Prop
def PSX (X : Cx) (st : Stmt) (t : TSX) : Prop :=
  ∀ (pins : List (Addr × Obj)) (s : Shared) (σ : St) (H : Hp) (D : Ends) (R : St → XK), Inv X pins σ H s → t D R σ H → wpAny (model X.prog X.w) X.A (exec st X.env) (SP X pins D) (fun e s' => ∃ σ', XP X pins σ' (R σ') e s') s
def PSXs (X : Cx) (st : List Stmt) (t : TSX) : Prop :=
  ∀ (pins : List (Addr × Obj)) (s : Shared) (σ : St) (H : Hp) (D : Ends) (R : St → XK), Inv X pins σ H s → t D R σ H → wpAny (model X.prog X.w) X.A (execs st X.env) (SP X pins D) (fun e s' => ∃ σ', XP X pins σ' (R σ') e s') s

section
variable {X : Cx} {k : Nat} {f C : Addr} {fd : FuncData} {ps : List Str} {sp : Sp} {dvs : List V} {ds : List Value} {x : Str} {p pos : Pos} {e : Expr} {es : List Expr} {t : TA} {tx : TEX} {st : Stmt} {sts : List Stmt} {ts us : TSX} {ta : TS}
def tCallX (sp : Sp) (dvs : List V) (t : TA) : TEX := fun σ H Q R => t σ H fun vs H1 => sp (vs ++ dvs) H1 Q R
theorem pex_call (F : FnOk X.prog X.w X.K X.mg X.base (CX1 X.prog X.w) k f fd ps sp) (hr : Room k X.A) (hg : Gl X x) (hm : X.mg x = some (.ref f)) (hk : PySem.W.keepIn X.K (.ref f) = true) (hb : Binds X.K fd ps ds) (hd : Vals dvs ds)
    (ha : PA X.nox (e :: es) t) (hdb : (x == ("__debug__" : Str)) = false := by decide) (he : starEach (e :: es) X.env = (false, eval e X.env) :: starEach es X.env := by rfl) (hpl : (backTo pos (starEach es X.env)).any (·.1) = false := by rfl) :
    PEX X (.Call (.Name x p) (e :: es) [] pos) (tCallX sp dvs t) := by
  intro pins s σ H Q R I h
  refine wpAny_Call_Name_kw (ld_glob I hg hm ?_ hdb)
  refine PySem.W.callWith_K (h₀ := X.base) I.ok.mod.kin hk (wpAny_mono (ha pos pins s σ H _ (I.wish _) h) (fun us s1 h1 => ?_) fun _ _ z => False.elim z) he hpl
  obtain ⟨vs, H1, I1, r, q⟩ := h1
  have I1 := I1.unwish
  refine ⟨I1.kIn, ?_⟩
  have r2 : Vals (vs ++ dvs) (us ++ ds) := r.append hd
  have hl : (us ++ ds).length = ps.length := by rw [← r2.length]; exact F.len _ _ _ _ q
  refine wpAny_call (codeAny_mono (F.run X.A X.stack s1 H1 ⟨us, []⟩ (us ++ ds) (vs ++ dvs) Q R hr I1.env0 (hb s1 us I1.kIn hl) r2 q) fun r s' hq => ?_)
  cases r with
  | error e =>
    obtain ⟨a, cls, a0, B, H', rfl, G, hE⟩ := hq
    exact ⟨a, cls, a0, B, H1, s1, H', rfl, I1, G, hE⟩
  | ok fl =>
    cases fl with
    | ret u => exact I1.after hq
    | next => exact False.elim hq
    | brk => exact False.elim hq
    | cont => exact False.elim hq

def tDropX (t : TEX) : TSX := fun D R σ H => t σ H (fun _ H1 => D.nx σ H1) (R σ)
theorem psx_expr (he : PEX X e tx) (hs : swapsWith e none pos.line X.env = pure false := by rfl) : PSX X (.Expr e pos) (tDropX tx) := by
  intro pins s σ H D R I h
  exact wpAny_Expr_any (wpAny_mono (he pins s σ H _ _ I h) (fun v s1 ⟨x, H1, I1, r1, q1⟩ => ⟨σ, H1, I1, q1⟩) fun e s' z => ⟨σ, z⟩) I.quiet hs
def tSetX (i : Nat) (t : TEX) : TSX := fun D R σ H => t σ H (fun v H1 => D.nx (σ.set i (some v)) H1) (R σ)
theorem psx_set {i : Nat} {pos' : Pos} (hN : X.N.Nodup) (hi : X.N[i]? = some x) (hx : Loc X.env.scope x) (he : PEX X e tx) (hs : swapsWith e (some (.Name x pos')) pos.line X.env = pure false := by rfl)
    (hf : X.fn x = true ∨ X.env.scope.names.lookup x = some .local := by first | exact .inl rfl | exact .inr rfl | assumption) : PSX X (.Assign [.Name x pos'] e pos) (tSetX i tx) := by
  intro pins s σ H D R I h
  refine wpAny_Assign_Name (wpAny_mono (he pins s σ H _ _ I h) (fun v s1 h1 => ?_) fun e s' z => ⟨σ, z⟩) hs
  obtain ⟨y, H1, I1, r1, q1⟩ := h1
  exact store_ok I1 hN hi hx r1 (fun s2 I2 => ⟨_, H1, I2, q1⟩) hf
def tCalm (t : TS) : TSX := fun D _ σ H => t D σ H
theorem psx_of (h : PS X.nox st ta) : PSX X st (tCalm ta) := fun pins s σ H D R I hw =>
  wpAny_mono (h pins s σ H D (I.wish _) hw) (fun _ _ q => q.unwish) fun _ _ z => False.elim z
theorem psxs_one (h1 : PSX X st ts) : PSXs X [st] ts := by
  intro pins s σ H D R I h
  refine wpAny_execs_cons (thn (h1 pins s σ H D R I h) fun f s1 q => ?_)
  cases f with
  | next => exact wpAny_execs_nil q
  | ret v => exact q
  | brk => exact q
  | cont => exact q
def tSeqX (t u : TSX) : TSX := fun D R σ H => t { D with nx := u D R } R σ H
theorem psxs_cons (h1 : PSX X st ts) (h2 : PSXs X sts us) : PSXs X (st :: sts) (tSeqX ts us) := by
  intro pins s σ H D R I h
  refine wpAny_execs_cons (thn (h1 pins s σ H { D with nx := us D R } R I h) fun f s1 q => ?_)
  cases f with
  | next =>
    obtain ⟨σ', H', I', q⟩ := q
    exact h2 pins s1 σ' H' D R I' q
  | ret v => exact q
  | brk => exact q
  | cont => exact q
end

/-! ### the handler -/
/-- the caught exception, by its class -/
def excO (a : Addr) (cls : Value) : HO := .ext fun h => ∃ o vs, h.get? a = some o ∧ o.cls = cls ∧ o.data = .fields vs
abbrev Cx.held (X : Cx) (a : Addr) : Cx := { X with A := X.A.mark (some (.ref a)), calm := false, xe := fun _ _ => False }
section
variable {X : Cx} {pins : List (Addr × Obj)} {σ : St} {H : Hp} {s : Shared}
theorem Inv.held (I : Inv X pins σ H s) (a : Addr) : Inv (X.held a) pins σ H s :=
  ⟨⟨I.ok.mod, I.ok.kind, I.ok.glob, I.ok.blt, I.ok.above, I.ok.inj, I.ok.has, I.ok.cab, (fun z => by cases z), I.ok.frames, I.ok.stk, I.ok.exf, I.ok.bs, I.ok.bsz, I.ok.noex, I.ok.exfs, I.ok.funs, I.ok.frf⟩, I.os, I.bare, I.base, I.loc, I.cell, I.free, I.freeC, I.pin, I.hok, I.len⟩
theorem Inv.unheld {a : Addr} {pins : List (Addr × Obj)} {σ : St} {H : Hp} {s : Shared} (ok : X.Ok) (I : Inv (X.held a) pins σ H s) : Inv X pins σ H s :=
  ⟨ok, I.os, I.bare, I.base, I.loc, I.cell, I.free, I.freeC, I.pin, I.hok, I.len⟩
/-- a local name goes -/
theorem goes_ok {M : Model} {A : Around} {E : Value → Shared → Prop} {i : Nat} {x : Str} {pos : Pos} {Q : Unit → Shared → Prop} (I : Inv X pins σ H s) (hN : X.N.Nodup) (hi : X.N[i]? = some x) (hk : X.env.scope.names.lookup x = some .local)
    (h : ∀ s', Inv X pins (σ.set i none) H s' → Q () s') : wpAny M A (do bindName X.env x .none; unbindBehindTheSuite X.env x pos) Q E s := by
  obtain ⟨m, hn, hl⟩ := id I.loc
  have hcls : (X.env.scope.kind == .class || (X.env.scope.kind == .module && X.env.locals != X.env.globals)) = false := by rw [I.ok.kind]; rfl
  have cne := I.cne
  have hiσ : i < σ.length := by rw [I.len]; exact (List.getElem?_eq_some_iff.mp hi).1
  refine wpAny_nameGoes_keeps hk hn hcls fun h' v hn' hs => ?_
  obtain ⟨oL, _, _, hoL, _⟩ := id hn
  have tracked : HOk X.prog X.w H h' := fun b ob e => by
    refine (I.hok b ob e).stay (fun c w' hc q => (hs.2 c ?_).trans q) (fun _ q => q) fun _ _ q => q
    rintro rfl
    rcases hc with rfl | hc
    · rw [I.free] at e; cases e
    · rw [I.free] at hc; cases hc
  refine h _ ⟨I.ok, I.os, I.bare, ⟨fun b o e n hb hx => ?_, fun b o e n hb hx => ?_, I.base.free, fun b o e hx => ?_, I.base.tups, I.base.frzs, I.base.tbls⟩, ⟨_, hn', fun j y v' e1 e2 e3 => ?_⟩, fun y c e => ?_, I.free, I.freeC, fun p hp => ?_, tracked, by simpa using I.len⟩
  · exact (hs.2 b (Nat.ne_of_lt (Nat.lt_of_lt_of_le (Heap.lt_size e) I.ok.above))).trans (I.base.keep b o e n hb hx)
  · obtain ⟨sl, e1⟩ := I.base.slot b o e n hb hx
    exact ⟨sl, (hs.2 b (Nat.ne_of_lt (Nat.lt_of_lt_of_le (Heap.lt_size e) I.ok.above))).trans e1⟩
  · obtain ⟨o', e1⟩ := I.base.there b o e hx
    exact ⟨o', (hs.2 b (Nat.ne_of_lt (Nat.lt_of_lt_of_le (Heap.lt_size e) I.ok.above))).trans e1⟩
  · by_cases hj : j = i
    · subst hj
      rw [List.getElem?_set_self hiσ] at e2
      cases e2
    · rw [List.getElem?_set_ne (Ne.symm hj)] at e2
      obtain ⟨u', r', q⟩ := hl j y v' e1 e2 e3
      refine ⟨u', r', ?_⟩
      rcases q with ⟨k, e⟩ | ⟨k, c, e, z⟩
      · refine .inl ⟨k, ?_⟩
        have : y ≠ x := fun e => hj (nodup_ix hN e1 (e ▸ hi))
        simp [this, e]
      · exact .inr ⟨k, c, e, z.sameBut hs (cne y c e)⟩
  · obtain ⟨w', z⟩ := I.cell y c e
    exact ⟨w', z.sameBut hs (cne y c e)⟩
  · obtain ⟨e, n, ne, nf, d⟩ := I.pin p hp
    exact ⟨(hs.2 p.1 ne).trans e, n, ne, nf, d⟩
/-- the state in the handler: the exception is tracked from here on -/
theorem Inv.caught {H' : Hp} {s' : Shared} {a : Addr} {cls a0 : Value} {B : Heap} (I : Inv X pins σ H s) (F : Fly X.prog X.w X.stack H s a cls a0 B H' s') : Inv X pins σ (upd H' a (excO a cls)) s' := by
  obtain ⟨oe, vs, h1, h2, h3, h4⟩ := F.fly.first
  have u := F.un
  have ne : ∀ b o, s.heap.get? b = some o → b ≠ a := fun b o e z => F.new o (z ▸ e)
  have nh : ∀ b o, H' b = some o → b ≠ a := fun b o e => ne_of_none e F.na
  refine I.call' (ch := []) F.os ⟨u.keep, u.slot, fun b o e n hx => ?_, u.there, fun b xs e => ?_, fun b o xs e => ?_, fun b ps e => ?_⟩ (fun b o e => ?_) F.bare fun b z => absurd z (by simp)
  · rw [upd_ne (ne b o e)]; exact u.free b o e n hx
  · have q := u.tups b xs e; rw [upd_ne (nh b _ q)]; exact q
  · have q := u.frzs b o xs e; rw [upd_ne (nh b _ q)]; exact q
  · obtain ⟨m, q⟩ := u.tbls b ps e; exact ⟨m, by rw [upd_ne (nh b _ q)]; exact q⟩
  · by_cases hb : b = a
    · subst hb
      rw [upd_same] at e; cases e
      exact ⟨⟨oe, vs, h1, h2, h3⟩, ⟨oe, h1⟩, fun g1 g2 ⟨o, ws, q1, q2, q3⟩ k => ⟨o, ws, k o q1, q2, q3⟩⟩
    · rw [upd_ne hb] at e
      refine (F.hok' b o e).stay (fun _ _ _ q => q) (fun c q => ?_) fun c xs q => ?_
      · rw [upd_ne (nh c _ q)]; exact q
      · rw [upd_ne (nh c _ q)]; exact q
end
end L2

end

section
open PySem PySem.Spec PyProof.Rows
namespace L2

/-! ### try .. except C as n / except C -/
def hEnds (i : Nat) (D : Ends) : Ends := { nx := fun σ H => D.nx (σ.set i none) H, rt := D.rt, bk := fun σ H => D.bk (σ.set i none) H, ct := fun σ H => D.ct (σ.set i none) H }
def tTryAs (K : PySem.W.Frag) (C : Value) (i : Nat) (tb : TSX) (th : TS) : TS := fun D σ H =>
  tb D (fun σ' cls _ H' => PySem.W.exmOne K cls C = some true ∧ ∀ a, H' a = none → th (hEnds i D) (σ'.set i (some (.ref a))) (upd H' a (excO a cls))) σ H
def tTry (K : PySem.W.Frag) (C : Value) (tb : TSX) (th : TS) : TS := fun D σ H =>
  tb D (fun σ' cls _ H' => PySem.W.exmOne K cls C = some true ∧ ∀ a, H' a = none → th D σ' (upd H' a (excO a cls))) σ H
theorem typ_at {M : Model} {h : Heap} {a : Addr} {o : Obj} {cls : Value} (h1 : h.get? a = some o) (h2 : o.cls = cls) : PySem.W.Looks M h (typeOf (.ref a)) cls := h2 ▸ (PySem.W.Looks.ld h1).andThen .now
section
variable {X : Cx} {body : List Stmt} {b₀ : Stmt} {suite : List Stmt} {tb : TSX} {th : TS} {c n : Str} {C : Addr} {i : Nat} {np hpos pos : Pos}
theorem ps_try_as (hb : PSXs X body tb) (hg : Gl X c) (hm : X.mg c = some (.ref C)) (hN : X.N.Nodup) (hi : X.N[i]? = some n) (hlo : X.env.scope.names.lookup n = some .local) (hh : ∀ a, PSs (X.held a) (b₀ :: suite) th)
    (hst : X.stack = X.env :: X.outer := by rfl) (hfm : X.env.frame = some X.env.locals := by rfl) (hdb : (c == ("__debug__" : Str)) = false := by decide) :
    PS X (.Try body [.ExceptHandler (some (.Name c np)) (some n) (b₀ :: suite) hpos] [] [] pos) (tTryAs X.K (.ref C) i tb th) := by
  intro pins s σ H D I h
  refine wpAny_Try_except (wpAny_mono (hb pins s σ H D _ I h) (fun f s1 q => ?_) fun e s1 z => ?_)
  · cases f with
    | next => exact wpAny_execs_nil q
    | ret v => exact q
    | brk => exact q
    | cont => exact q
  · obtain ⟨σ', a, cls, a0, B, H1, s2, H', rfl, I1, F, hx, hq⟩ := z
    have fl : Heap.FlyingW B (X.env :: X.outer) a cls a0 s1.heap := hst ▸ F.fly
    refine wpAny_looks_onW (hst ▸ I.ok.frames) hfm fl fun h4 held up4 => ?_
    refine wpAny_landsW held fun h5 fl5 up5 => ?_
    have F5 : Fly X.prog X.w X.stack H1 s2 a cls a0 B H' { s1 with heap := h5 } := F.on (hst ▸ fl5) (up4.trans up5) I1.funs'
    have J5 := I1.flown F5
    refine wpAny_handleBy_cons (codeAny_handlers_test (ld_glob (X := X.held a) (J5.held a) hg hm ?_ hdb)) (by intro q; cases q)
    obtain ⟨ob, hob, hobc⟩ := fl5.there
    refine (PySem.W.exm_one (M := model X.prog X.w) J5.kIn (typ_at hob hobc) hx).at ?_
    refine codeAny_handlers_suite_as ?_
    refine lands_againW (base := B) (l := X.env :: X.outer) (cls := cls) (a0 := a0) fl5 fun h6 fl6 up6 => ?_
    have F6 : Fly X.prog X.w X.stack H1 s2 a cls a0 B H' { s1 with heap := h6 } := F5.on (hst ▸ fl6) up6 I1.funs'
    have J6 := (I1.caught F6).held a
    refine store_ok (X := X.held a) (v := .ref a) J6 hN hi (.inl hlo) rfl (fun s7 I7 => ?_) (.inr hlo)
    refine wpAny_mono (hh a pins s7 _ _ _ I7 (hq a F.na)) (fun f s8 q => ?_) fun _ _ z => False.elim z
    cases f with
    | next =>
      obtain ⟨σ2, H2, I8, q⟩ := q
      exact goes_ok (I8.unheld I.ok) hN hi hlo fun s9 I9 => ⟨_, _, I9, q⟩
    | brk =>
      obtain ⟨σ2, H2, I8, q⟩ := q
      exact goes_ok (I8.unheld I.ok) hN hi hlo fun s9 I9 => ⟨_, _, I9, q⟩
    | cont =>
      obtain ⟨σ2, H2, I8, q⟩ := q
      exact goes_ok (I8.unheld I.ok) hN hi hlo fun s9 I9 => ⟨_, _, I9, q⟩
    | ret v =>
      obtain ⟨v', σ2, H2, I8, r, q⟩ := q
      exact goes_ok (I8.unheld I.ok) hN hi hlo fun s9 I9 => ⟨v', _, _, I9, r, q⟩
theorem ps_try (hb : PSXs X body tb) (hg : Gl X c) (hm : X.mg c = some (.ref C)) (hh : ∀ a, PSs (X.held a) (b₀ :: suite) th)
    (hst : X.stack = X.env :: X.outer := by rfl) (hfm : X.env.frame = some X.env.locals := by rfl) (hdb : (c == ("__debug__" : Str)) = false := by decide) :
    PS X (.Try body [.ExceptHandler (some (.Name c np)) none (b₀ :: suite) hpos] [] [] pos) (tTry X.K (.ref C) tb th) := by
  intro pins s σ H D I h
  refine wpAny_Try_except (wpAny_mono (hb pins s σ H D _ I h) (fun f s1 q => ?_) fun e s1 z => ?_)
  · cases f with
    | next => exact wpAny_execs_nil q
    | ret v => exact q
    | brk => exact q
    | cont => exact q
  · obtain ⟨σ', a, cls, a0, B, H1, s2, H', rfl, I1, F, hx, hq⟩ := z
    have fl : Heap.FlyingW B (X.env :: X.outer) a cls a0 s1.heap := hst ▸ F.fly
    refine wpAny_looks_onW (hst ▸ I.ok.frames) hfm fl fun h4 held up4 => ?_
    refine wpAny_landsW held fun h5 fl5 up5 => ?_
    have F5 : Fly X.prog X.w X.stack H1 s2 a cls a0 B H' { s1 with heap := h5 } := F.on (hst ▸ fl5) (up4.trans up5) I1.funs'
    have J5 := I1.flown F5
    refine wpAny_handleBy_cons (codeAny_handlers_test (ld_glob (X := X.held a) (J5.held a) hg hm ?_ hdb)) (by intro q; cases q)
    obtain ⟨ob, hob, hobc⟩ := fl5.there
    refine (PySem.W.exm_one (M := model X.prog X.w) J5.kIn (typ_at hob hobc) hx).at ?_
    refine codeAny_handlers_suite ?_
    refine lands_againW (base := B) (l := X.env :: X.outer) (cls := cls) (a0 := a0) fl5 fun h6 fl6 up6 => ?_
    have F6 : Fly X.prog X.w X.stack H1 s2 a cls a0 B H' { s1 with heap := h6 } := F5.on (hst ▸ fl6) up6 I1.funs'
    have J6 := (I1.caught F6).held a
    refine wpAny_mono (hh a pins _ _ _ _ J6 (hq a F.na)) (fun f s8 q => ?_) fun _ _ z => False.elim z
    cases f with
    | next =>
      obtain ⟨σ2, H2, I8, q⟩ := q
      exact ⟨_, _, I8.unheld I.ok, q⟩
    | brk =>
      obtain ⟨σ2, H2, I8, q⟩ := q
      exact ⟨_, _, I8.unheld I.ok, q⟩
    | cont =>
      obtain ⟨σ2, H2, I8, q⟩ := q
      exact ⟨_, _, I8.unheld I.ok, q⟩
    | ret v =>
      obtain ⟨v', σ2, H2, I8, r, q⟩ := q
      exact ⟨v', _, _, I8.unheld I.ok, r, q⟩
end
end L2

end

section
namespace L2X
open PySem PySem.Spec PySem.W PyProof.Rows

/-- an own exception class of the text: what isinstance asks of it -/
structure ExcK (K : Frag) (D : Addr) : Prop where
  ga : findIn K (.ref D) "__getattribute__" = some (some (.builtin "BaseException.__getattribute__"))
  noGa : findIn K (.ref D) "__getattr__" = some none
  cl : findIn K (.ref D) "__class__" = some (some (.builtin "object.__class__"))
  be : mroIn K D (.type "BaseException") = some true
  ob : mroIn K D (.type "object") = some true
  cd : (clsIn K D).isSome = true
def excK (K : Frag) (D : Addr) : Bool := findIn K (.ref D) "__getattribute__" == some (some (.builtin "BaseException.__getattribute__")) && findIn K (.ref D) "__getattr__" == some none && findIn K (.ref D) "__class__" == some (some (.builtin "object.__class__"))
  && mroIn K D (.type "BaseException") == some true && mroIn K D (.type "object") == some true && (clsIn K D).isSome
theorem excK_of {K : Frag} {D : Addr} (e : excK K D = true) : ExcK K D := by
  unfold excK at e
  simp only [Bool.and_eq_true, beq_iff_eq] at e
  exact ⟨e.1.1.1.1.1, e.1.1.1.1.2, e.1.1.1.2, e.1.1.2, e.1.2, e.2⟩
section
variable {prog : Program} {w : World} {A : Around} {E : Value → Shared → Prop} {h : Heap} {g : Array GenState} {d : Drawn} {t : Nat} {os : OsState} {a D : Addr} {o : Obj} {K : Frag}
theorem xclass_get {R : Result → Shared → Prop} (X : K.In h) (Z : ExcK K D) (hx : h.get? a = some o) (hc : o.cls = .ref D) (hq : R (.ok (.ret (.ref D))) ⟨h, g, d, t, os⟩) :
    codeAny (model prog w) A (.call (.builtin "getset_descriptor.__get__") ⟨[.builtin "object.__class__", .ref a, .ref D], []⟩) R ⟨h, g, d, t, os⟩ := by
  have hT5 : (⟨h, g, d, t, os⟩ : Shared).TypeIs (.builtin "object.__class__") "getset_descriptor" := F.typeOf_object_class
  have f8 : Looks (model prog w) h (isSubtype (.ref D) (.type (".".intercalate ("object.__class__".cutAt '.').dropLast))) true := by rw [F.owner_object_class]; exact looks_mroIn X Z.ob
  refine codeAny_call_builtin F.slot_gs_get.plain F.entry_gs_get (F.slot_gs_get.check _ _ _ _ _ _ _ _ hT5 (F.args_gs_get _ _ _) ?_)
  repeat (any_goals (first | assumption | (with_reducible refine wpAny_loadPart_at hx ?_; rw [hc]) | with_reducible refine f8.at ?_ | wp_step))
  refine ⟨Code.quiet_builtin _ (by decide +kernel), codeAny_builtin F.entry_object_class ?_⟩
  repeat (any_goals (first | assumption | (with_reducible refine wpAny_loadPart_at hx ?_; rw [hc]) | wp_step))
theorem xclass_entry {tk : Tok} {Q : Fin → Shared → Prop} (X : K.In h) (Z : ExcK K D) (hx : h.get? a = some o) (hc : o.cls = .ref D) (hq : Q (.done (.ret (.ref D))) ⟨h, g, d, t, os⟩) :
    wpAny (model prog w) A (Builtin.«object.__getattribute__» ⟨[.ref a, .str "__class__" tk], []⟩) Q E ⟨h, g, d, t, os⟩ := by
  have hT5 : (⟨h, g, d, t, os⟩ : Shared).TypeIs (.builtin "object.__class__") "getset_descriptor" := F.typeOf_object_class
  have f4 : Looks (model prog w) h (typeLookup (.ref D) "__class__") _ := looks_findIn X Z.cl
  have f5 := F.typeOf_object_class
  have f6 := F.slot_gs_get.lookup
  have f7 := F.slot_gs_set.lookup
  repeat (any_goals (first | assumption | (with_reducible refine wpAny_loadPart_at hx ?_; rw [hc]) | with_reducible refine f4.at ?_ | wp_step))
  refine xclass_get X Z hx hc ?_
  repeat (any_goals (first | assumption | wp_step))
theorem xcheck_ga {M : Model} {nameV : Value} {Q : Unit → Shared → Prop} (X : K.In h) (Z : ExcK K D) (hx : h.get? a = some o) (hc : o.cls = .ref D) (hq : Q () ⟨h, g, d, t, os⟩) :
    wpAny M A (checkBuiltinCall "BaseException.__getattribute__" ⟨[.ref a, nameV], []⟩) Q E ⟨h, g, d, t, os⟩ := by
  have hk : builtinKind "BaseException.__getattribute__" = some .slot := by decide +kernel
  have hsplit : splitId "BaseException.__getattribute__" = some ("BaseException", "__getattribute__") := by decide +kernel
  have f8 : Looks M h (isSubtype (.ref D) (.type "BaseException")) true := looks_mroIn X Z.be
  have ha := F.args_bexc_ga (.ref a) nameV
  simp only [checkBuiltinCall, hk, hsplit]
  refine wpAny_bind ?_
  · unfold isInstance
    repeat (first | (with_reducible refine wpAny_loadPart_at hx ?_; rw [hc]) | with_reducible refine f8.at ?_ | wp_step)
    exact hq
theorem xclass_call {tk : Tok} {R : Result → Shared → Prop} (X : K.In h) (Z : ExcK K D) (hx : h.get? a = some o) (hc : o.cls = .ref D) (hq : R (.ok (.ret (.ref D))) ⟨h, g, d, t, os⟩) :
    codeAny (model prog w) A (.call (.builtin "BaseException.__getattribute__") ⟨[.ref a, .str "__class__" tk], []⟩) R ⟨h, g, d, t, os⟩ :=
  codeAny_call_builtin (by decide +kernel) F.entry_bexc_ga (xcheck_ga X Z hx hc (xclass_entry X Z hx hc hq))
theorem xclass_by {tk : Tok} {Q : Value → Shared → Prop} (X : K.In h) (Z : ExcK K D) (hx : h.get? a = some o) (hc : o.cls = .ref D) (hq : Q (.ref D) ⟨h, g, d, t, os⟩) :
    wpAny (model prog w) A (getAttrBy (.ref a) (.str "__class__" tk) false) Q E ⟨h, g, d, t, os⟩ := by
  have f1 : Looks (model prog w) h (typeLookup (.ref D) "__getattribute__") _ := looks_findIn X Z.ga
  have f2 : Looks (model prog w) h (typeLookup (.ref D) "__getattr__") _ := looks_findIn X Z.noGa
  have f3 := F.excAttr_ValueError.ga.bind (.ref a)
  have hx0 : (false && onTheHeap (Value.builtin "BaseException.__getattribute__")) = false := rfl
  have hx2 : (Value.builtin "BaseException.__getattribute__" == Value.builtin "object.__getattribute__") = false := by decide +kernel
  have hx1 : (onTheHeap (Value.ref D) && Value.builtin "BaseException.__getattribute__" == Value.builtin "object.__getattribute__") = false := by rw [hx2]; rfl
  repeat (any_goals (first | assumption | (with_reducible refine wpAny_loadPart_at hx ?_; rw [hc]) | with_reducible refine f1.at ?_ | with_reducible refine f2.at ?_ | wp_step))
  refine xclass_call X Z hx hc ?_
  repeat (any_goals (first | assumption | wp_step))
theorem xclass_attr {Q : Option Value → Shared → Prop} (X : K.In h) (Z : ExcK K D) (hx : h.get? a = some o) (hc : o.cls = .ref D) (hq : Q (some (.ref D)) ⟨h, g, d, t + 1, os⟩) : wpAny (model prog w) A (getAttr? (.ref a) "__class__") Q E ⟨h, g, d, t, os⟩ := by
  unfold getAttr? getAttrBy?
  repeat (any_goals (first | assumption | with_reducible apply xclass_by X Z hx hc | wp_step))
theorem kitx_exc (Z : ExcK K D) : KitX K (.ref a) (.ref D) (fun h => ∃ o, h.get? a = some o ∧ o.cls = .ref D) where
  ty := fun _ _ _ ⟨o, h1, h2⟩ => h2 ▸ (Looks.ld h1).andThen .now
  it := fun _ _ X _ => by
    obtain ⟨cdD, hcD⟩ := Option.isSome_iff_exists.mp Z.cd
    unfold clsIn at hcD
    split at hcD
    · rename_i c' d' cd' sl' ho
      intro A' Q' E' s' k q
      unfold isType loadHead
      exact wpAny_bind (wpAny_loadPart (k _ _ (X _ _ ho)) (wpAny_pure q))
    · cases hcD
  ne := fun h tp dd its n sl X htp => by
    obtain ⟨cdD, hcD⟩ := Option.isSome_iff_exists.mp Z.cd
    refine Bool.eq_false_iff.mpr fun q => ?_
    have e : D = tp := Value.ref.inj (beq_iff_eq.mp q)
    subst e
    unfold clsIn at hcD
    split at hcD
    · rename_i c' d' cd' sl' ho
      have z := (X _ _ ho).symm.trans htp
      cases z
    · cases hcD
  ca := fun {_ _ _ _ _ s} X p k => by
    obtain ⟨h, g, d, t, os⟩ := s
    obtain ⟨o, h1, h2⟩ := p
    exact xclass_attr X Z h1 h2 k
end
end L2X
namespace L2
open PySem PySem.Spec PyProof.Rows
/-- isinstance(e, c), e a caught exception -/
theorem isinst_exc {X : Cx} {pins : List (Addr × Obj)} {σ : St} {H : Hp} {s : Shared} {A : Around} {E : Value → Shared → Prop} {Q : Value → Shared → Prop} {c : Value} {b : Bool} {a D : Addr} (I : Inv X pins σ H s) (ha : H a = some (excO a (.ref D))) (Z : L2X.ExcK X.K D)
    (e : PySem.W.kitOne X.K (.ref D) c = some b) (h : ∀ tk, Q (.bool b) { s with toks := tk }) : wpAny (model X.prog X.w) A (call (.builtin "isinstance") [.ref a, c]) Q E s := by
  obtain ⟨⟨o, vs, h1, h2, h3⟩, _⟩ := (show ObjOk X.prog X.w H s.heap a (excO a (.ref D)) from I.hok a _ ha)
  exact PySem.W.kia_one (L2X.kitx_exc Z) I.kIn ⟨o, h1, h2⟩ e (fun z => nomatch z) h
end L2

end

section
open PySem PySem.Spec PyProof.Rows
namespace L2

/-! ### a def whose calls an exception may leave -/
section
variable {P : Program} {w : World} {K : PySem.W.Frag} {mg : Str → Option Value} {base : Heap}
theorem Fun.ok1 {x qual : Str} {st : Stmt} {f : Addr} {fd : FuncData} {N ps : List Str} {k : Nat} {sp : Sp} (F : Fun K x qual st f fd) (S : FnScope N ps (defScope st)) (len : ∀ vs H Q E, sp vs H Q E → vs.length = ps.length)
    (hbody : ∀ (cdv : Value) (A : Around) (outer : List Env) (s : Shared) (H : Hp) (vs : List V) (Q : VK) (E : XK), Room k (A.deeper (envOfC qual (defScope st) s.heap.objs.size f cdv)) → sp vs H Q E →
      ∃ t, PSs (cxOf (CX1 P w) P w K mg base N qual (defScope st) f cdv A outer s H E) (defBody st) t ∧ t { nx := fun _ H' => Q .non H', rt := Q } (start N vs) H) : FnOk P w K mg base (CX1 P w) (k + 1) f fd ps sp := by
  obtain ⟨oc, od, kV, doc, pm, an, cdv, ct, osl, rfl, lk, hcd⟩ := F.ex
  exact fn_of lk hcd S len fun A outer s H vs Q E hr hsp => hbody cdv A outer s H vs Q E hr hsp
/-- a def with defaults: the tuple of them stands at dV -/
structure FunD (K : PySem.W.Frag) (x qual : Str) (st : Stmt) (dV : Value) (f : Addr) (fd : FuncData) : Prop where
  ex : ∃ (oc : Value) (od : Option Addr) (kV doc pm : Value) (an : Option Addr) (cdv ct : Value) (osl : Array (Option Value)),
    fd = PySem.W.fnOf x qual (defArgs st) (defBody st) (defScope st) dV kV doc pm an cdv ct ∧ K.lookup f = some ⟨oc, od, .func fd, osl⟩ ∧ PySem.W.codeIn K cdv qual = true
  kp : PySem.W.keepIn K (.ref f) = true
theorem FunD.ok1 {x qual : Str} {st : Stmt} {dV : Value} {f : Addr} {fd : FuncData} {N ps : List Str} {k : Nat} {sp : Sp} (F : FunD K x qual st dV f fd) (S : FnScope N ps (defScope st)) (len : ∀ vs H Q E, sp vs H Q E → vs.length = ps.length)
    (hbody : ∀ (cdv : Value) (A : Around) (outer : List Env) (s : Shared) (H : Hp) (vs : List V) (Q : VK) (E : XK), Room k (A.deeper (envOfC qual (defScope st) s.heap.objs.size f cdv)) → sp vs H Q E →
      ∃ t, PSs (cxOf (CX1 P w) P w K mg base N qual (defScope st) f cdv A outer s H E) (defBody st) t ∧ t { nx := fun _ H' => Q .non H', rt := Q } (start N vs) H) : FnOk P w K mg base (CX1 P w) (k + 1) f fd ps sp := by
  obtain ⟨oc, od, kV, doc, pm, an, cdv, ct, osl, rfl, lk, hcd⟩ := F.ex
  exact fn_of lk hcd S len fun A outer s H vs Q E hr hsp => hbody cdv A outer s H vs Q E hr hsp
end

/-! ### a def that is called within an except suite -/
structure RoomH (k : Nat) (A : Around) : Prop where
  dp : A.depth + 3 * k + 5 < recursionLimit
  un : A.units + 16 * k + 200 < cLine
theorem Room.mark {k : Nat} {A : Around} (r : Room k A) (h : Option Value) : RoomH k (A.mark h) := ⟨r.dp, r.un⟩
theorem RoomH.deeper {k : Nat} {A : Around} (r : RoomH (k + 1) A) (env : Env) : RoomH k (A.deeper env) :=
  ⟨by have := r.dp; show A.depth + 1 + 3 * k + 5 < _; omega, by have := r.un; show A.units + 3 + 16 * k + 200 < _; omega⟩
theorem RoomH.units {k : Nat} {A : Around} (r : RoomH k A) : A.units + 64 < cLine := by have := r.un; omega
structure FnOkH (P : Program) (w : World) (K : PySem.W.Frag) (mg : Str → Option Value) (base : Heap) (k : Nat) (f : Addr) (fd : FuncData) (ps : List Str) (sp : Sp) : Prop where
  len : ∀ vs H Q E, sp vs H Q E → vs.length = ps.length
  run : ∀ (A : Around) (outer : List Env) (s : Shared) (H : Hp) (args : Args) (us : List Value) (vs : List V) (Q : VK) (E : XK), RoomH k A → Env0 P w K mg base A outer s H → BindsTo s fd args (ps.zip us) → Vals vs us → sp vs H Q E →
    codeAny (model P w) A (.call (.ref f) args) (CR CX0 outer P w H s Q E) s
abbrev cxH (P : Program) (w : World) (K : PySem.W.Frag) (mg : Str → Option Value) (base : Heap) (N : List Str) (qual : Str) (scope : Scope) (f : Addr) (cd : Value) (A : Around) (outer : List Env) (s : Shared) (H : Hp) (E : XK) : Cx :=
  { cxOf CX0 P w K mg base N qual scope f cd A outer s H E with calm := false, xe := fun _ _ => False }
section
variable {P : Program} {w : World} {K : PySem.W.Frag} {mg : Str → Option Value} {base : Heap}
theorem Fun.okH {x qual : Str} {st : Stmt} {f : Addr} {fd : FuncData} {N ps : List Str} {k : Nat} {sp : Sp} (F : Fun K x qual st f fd) (S : FnScope N ps (defScope st)) (len : ∀ vs H Q E, sp vs H Q E → vs.length = ps.length)
    (hbody : ∀ (cdv : Value) (A : Around) (outer : List Env) (s : Shared) (H : Hp) (vs : List V) (Q : VK) (E : XK), RoomH k (A.deeper (envOfC qual (defScope st) s.heap.objs.size f cdv)) → sp vs H Q E →
      ∃ t, PSs (cxH P w K mg base N qual (defScope st) f cdv A outer s H E) (defBody st) t ∧ t { nx := fun _ H' => Q .non H', rt := Q } (start N vs) H) : FnOkH P w K mg base (k + 1) f fd ps sp := by
  obtain ⟨oc, od, kV, doc, pm, an, cdv, ct, osl, rfl, lk, hcd⟩ := F.ex
  refine ⟨len, fun A outer s H args us vs Q E hr e0 hb r hsp => ?_⟩
  have hl := len _ _ _ _ hsp
  have KX : K.In s.heap := e0.mod.kin.keeps fun b o e => (e0.bs b o e).1
  have lim : s.heap.NoLimit := e0.mod.nolimit.keeps fun b o e => (e0.bs b o e).1
  have hkind : ∀ y ∈ ps.zip us, (defScope st).names.lookup y.1 = some .local ∨ ((defScope st).names.lookup y.1 = some .cell ∧ ((cellsFrom (s.heap.objs.size + 1) (defScope st).names []).lookup y.1).isSome = true) := fun ⟨n, v⟩ hy => by
    rcases S.par n (List.of_mem_zip hy).1 with q | q
    · exact .inl q
    · exact .inr ⟨q, PySem.W.cellsFrom_some _ _ _ (.inl q)⟩
  refine codeAny_call_function (by have := hr.dp; omega) (KX _ _ lk) rfl S.co S.gen rfl (PySem.W.codeRec_of KX hcd) (hb _ _ _ _ ?_)
  refine wpAny_newFunctionEnv_cells S.kind hkind fun env he s1 x => ?_
  subst he
  refine ⟨lim.keeps x.toInCall.keep, codeAny_func ?_⟩
  obtain ⟨t, ht, hq⟩ := hbody cdv A outer s H vs Q E (hr.deeper _) hsp
  have I0 : Inv (cxOf CX0 P w K mg base N qual (defScope st) f cdv { A with handled := none } outer s H E) [] (start N vs) H s1 := inv_start S rfl ⟨e0.frames, e0.mod, e0.bs, e0.bsz, e0.funs, e0.frf, e0.hok, e0.bare⟩ hl r x
  have I : Inv (cxH P w K mg base N qual (defScope st) f cdv A outer s H E) [] (start N vs) H s1 :=
    ⟨⟨I0.ok.mod, I0.ok.kind, I0.ok.glob, I0.ok.blt, I0.ok.above, I0.ok.inj, I0.ok.has, I0.ok.cab, (fun z => by cases z), I0.ok.frames, I0.ok.stk, I0.ok.exf, I0.ok.bs, I0.ok.bsz, I0.ok.noex, I0.ok.exfs, I0.ok.funs, I0.ok.frf⟩, I0.os, I0.bare, I0.base, I0.loc, I0.cell, I0.free, I0.freeC, I0.pin, I0.hok, I0.len⟩
  refine wpAny_mono (ht [] s1 (start N vs) H _ I hq) (fun fl s' hs => ?_) fun e s' hs => False.elim hs
  have fin : ∀ {σ' : St} {H' : Hp} {v : V} {u : Value}, Inv (cxH P w K mg base N qual (defScope st) f cdv A outer s H E) [] σ' H' s' → RelV v u → Q v H' → CE outer P w H s Q u s' :=
    fun {σ' H' v u} J rv q => ⟨v, H', J.os, J.bare, J.base, J.hok, rv, q⟩
  cases fl with
  | ret u =>
    obtain ⟨v, σ', H', J, rv, q⟩ := hs
    exact fin J rv q
  | next =>
    obtain ⟨σ', H', J, q⟩ := hs
    exact fin (v := V.non) (u := Value.none) J rfl q
  | brk =>
    obtain ⟨_, _, _, q⟩ := hs
    exact False.elim q
  | cont =>
    obtain ⟨_, _, _, q⟩ := hs
    exact False.elim q
end
section
variable {X : Cx} {k : Nat} {f : Addr} {fd : FuncData} {ps : List Str} {sp : Sp} {dvs : List V} {ds : List Value} {E : XK} {x : Str} {p pos : Pos} {e : Expr} {es : List Expr} {t : TA}
theorem pe_callH (F : FnOkH X.prog X.w X.K X.mg X.base k f fd ps sp) (hr : RoomH k X.A) (hg : Gl X x) (hm : X.mg x = some (.ref f)) (hk : PySem.W.keepIn X.K (.ref f) = true) (hb : Binds X.K fd ps ds) (hd : Vals dvs ds)
    (ha : PA X (e :: es) t) (hdb : (x == ("__debug__" : Str)) = false := by decide) (he : starEach (e :: es) X.env = (false, eval e X.env) :: starEach es X.env := by rfl) (hpl : (backTo pos (starEach es X.env)).any (·.1) = false := by rfl) :
    PE X (.Call (.Name x p) (e :: es) [] pos) (tCall sp dvs E t) := by
  intro pins s σ H Q I h
  refine wpAny_Call_Name_kw (ld_glob I hg hm ?_ hdb)
  refine PySem.W.callWith_K (h₀ := X.base) I.ok.mod.kin hk (thn (ha pos pins s σ H _ I h) fun us s1 ⟨vs, H1, I1, r, q⟩ => ⟨I1.kIn, ?_⟩) he hpl
  have r2 : Vals (vs ++ dvs) (us ++ ds) := r.append hd
  have hl : (us ++ ds).length = ps.length := by rw [← r2.length]; exact F.len _ _ _ _ q
  refine wpAny_call (codeAny_mono (F.run X.A X.stack s1 H1 ⟨us, []⟩ (us ++ ds) (vs ++ dvs) Q E hr I1.env0 (hb s1 us I1.kIn hl) r2 q) fun r s' hq => ?_)
  cases r with
  | error e => exact False.elim hq
  | ok fl =>
    cases fl with
    | ret u => exact I1.after hq
    | next => exact False.elim hq
    | brk => exact False.elim hq
    | cont => exact False.elim hq
end
end L2

end

section
open PySem PySem.Spec PyProof.Rows
namespace L2

/-- two by place, one by its name -/
def g21 {α : Type} : List α → List α → List α := fun us ws => match us, ws with
  | [a, b], [c] => [a, b, c]
  | _, _ => []
/-! ### a def that may raise, with one default at its end -/
structure DfR (P : Program) (w : World) (K : PySem.W.Frag) (mg : Str → Option Value) (base : Heap) (x : Str) (k : Nat) (ps : List Str) (d : V) (sp : Sp) : Prop where
  ex : ∃ f fd dv, FnOk P w K mg base (CX1 P w) k f fd ps sp ∧ Binds K fd ps [] ∧ Binds K fd ps [dv] ∧ RelV d dv ∧ KBinds K fd ps [ps.getLastD ""] g21 g21 ∧ PySem.W.keepIn K (.ref f) = true ∧ mg x = some (.ref f)
theorem pass1 {X : Cx} : Passes (CX1 X.prog X.w) X E0 := fun _ _ _ _ _ _ _ h => by
  obtain ⟨_, _, _, _, _, _, _, z⟩ := h
  exact False.elim z
section
variable {X : Cx} {k : Nat} {ps : List Str} {sp : Sp} {d : V} {x : Str} {p pos kpos : Pos} {e ek : Expr} {es : List Expr} {t tk : TA} {tek : TE}
theorem pe_callR (D : DfR X.prog X.w X.K X.mg X.base x k ps d sp) (hr : Room k X.A) (hg : Gl X x) (ha : PA X (e :: es) t) (hdb : (x == ("__debug__" : Str)) = false := by decide)
    (he : starEach (e :: es) X.env = (false, eval e X.env) :: starEach es X.env := by rfl) (hpl : (backTo pos (starEach es X.env)).any (·.1) = false := by rfl) : PE X (.Call (.Name x p) (e :: es) [] pos) (tCall sp [] E0 t) := by
  obtain ⟨f, fd, dv, F, b0, b1, rd, kb, kp, m⟩ := D.ex
  exact pe_call F hr hg m kp b0 .nil pass1 ha hdb he hpl
theorem pe_callR1 (D : DfR X.prog X.w X.K X.mg X.base x k ps d sp) (hr : Room k X.A) (hg : Gl X x) (ha : PA X (e :: es) t) (hdb : (x == ("__debug__" : Str)) = false := by decide)
    (he : starEach (e :: es) X.env = (false, eval e X.env) :: starEach es X.env := by rfl) (hpl : (backTo pos (starEach es X.env)).any (·.1) = false := by rfl) : PE X (.Call (.Name x p) (e :: es) [] pos) (tCall sp [d] E0 t) := by
  obtain ⟨f, fd, dv, F, b0, b1, rd, kb, kp, m⟩ := D.ex
  exact pe_call F hr hg m kp b1 (.cons rd .nil) pass1 ha hdb he hpl
theorem pe_callRK {n : Str} (D : DfR X.prog X.w X.K X.mg X.base x k ps d sp) (hr : Room k X.A) (hg : Gl X x) (hn : ps.getLastD "" = n) (ha : PA X (e :: es) t) (hk : PE X ek tek) (hdb : (x == ("__debug__" : Str)) = false := by decide)
    (he : starEach (e :: es) X.env = (false, eval e X.env) :: starEach es X.env := by rfl)
    (hpl : ((backTo pos (starEach (e :: es) X.env)).any (·.1) || (backToKw pos (keywordEach [⟨some n, ek, kpos⟩] X.env)).any (·.1.isNone)) = false := by rfl) :
    PE X (.Call (.Name x p) (e :: es) [⟨some n, ek, kpos⟩] pos) (tCallK sp g21 E0 t (tCons tek tNil)) := by
  obtain ⟨f, fd, dv, F, b0, b1, rd, kb, kp, m⟩ := D.ex
  rw [hn] at kb
  exact pe_callK F hr hg m kp kb pass1 ha (pk_cons hk pk_nil) rfl rfl hdb he hpl
theorem pex_callR (D : DfR X.prog X.w X.K X.mg X.base x k ps d sp) (hr : Room k X.A) (hg : Gl X x) (ha : PA X.nox (e :: es) t) (hdb : (x == ("__debug__" : Str)) = false := by decide)
    (he : starEach (e :: es) X.env = (false, eval e X.env) :: starEach es X.env := by rfl) (hpl : (backTo pos (starEach es X.env)).any (·.1) = false := by rfl) : PEX X (.Call (.Name x p) (e :: es) [] pos) (tCallX sp [] t) := by
  obtain ⟨f, fd, dv, F, b0, b1, rd, kb, kp, m⟩ := D.ex
  exact pex_call F hr hg m kp b0 .nil ha hdb he hpl
end
theorem RoomH.mono {j k : Nat} {A : Around} (r : RoomH k A) (h : j ≤ k) : RoomH j A := ⟨by have := r.dp; omega, by have := r.un; omega⟩
/-- a def that is called in a handler -/
structure DfH (P : Program) (w : World) (K : PySem.W.Frag) (mg : Str → Option Value) (base : Heap) (x : Str) (k : Nat) (ps : List Str) (sp : Sp) : Prop where
  ex : ∃ f fd, FnOkH P w K mg base k f fd ps sp ∧ Binds K fd ps [] ∧ PySem.W.keepIn K (.ref f) = true ∧ mg x = some (.ref f)
theorem pe_callDH {X : Cx} {k : Nat} {ps : List Str} {sp : Sp} {x : Str} {p pos : Pos} {e : Expr} {es : List Expr} {t : TA} (D : DfH X.prog X.w X.K X.mg X.base x k ps sp) (hr : RoomH k X.A) (hg : Gl X x)
    (ha : PA X (e :: es) t) (hdb : (x == ("__debug__" : Str)) = false := by decide) (he : starEach (e :: es) X.env = (false, eval e X.env) :: starEach es X.env := by rfl) (hpl : (backTo pos (starEach es X.env)).any (·.1) = false := by rfl) :
    PE X (.Call (.Name x p) (e :: es) [] pos) (tCall sp [] E0 t) := by
  obtain ⟨f, fd, F, b, kp, m⟩ := D.ex
  exact pe_callH F hr hg m kp b .nil ha hdb he hpl

theorem iteB {b : Bool} {A B : Prop} (h1 : b = true → B) (h2 : b = false → A) : if (!b) = true then A else B := by
  cases b with
  | true => exact iteF (h1 rfl)
  | false => exact iteT (h2 rfl)
/-! ### what an argument may be -/
inductive Arg (H : Hp) : V → Option Int → Prop where
  | int (i : Int) : Arg H (.int i) (some i)
  | bl (b : Bool) : Arg H (.bl b) none
  | non : Arg H .non none
  | str (x : Str) : Arg H (.str x) none
  | tup {a : Addr} {xs : List V} (e : H a = some (.tup xs)) : Arg H (.ref a) none
  | lst {a : Addr} {xs : List V} (e : H a = some (.lst xs)) : Arg H (.ref a) none
section
variable {K : PySem.W.Frag}
theorem kit_bool_int : PySem.W.kitOne K (.type "bool") (.type "int") = some true := by kernel_rfl
theorem kit_non_int : PySem.W.kitOne K (.type "NoneType") (.type "int") = some false := by kernel_rfl
theorem kit_str_int : PySem.W.kitOne K (.type "str") (.type "int") = some false := by kernel_rfl
end
def lies (o : Option Int) (n : Int) : Bool := match o with | some i => decide (0 ≤ i) && decide (i < n) | none => false
/-! ### isinstance of a caught exception, as a rule -/
def rIsE (K : PySem.W.Frag) : List V → Hp → VK → Prop := fun xs H Q => ∃ a c cv D b, xs = [.ref a, c] ∧ clsV c = some cv ∧ H a = some (excO a (.ref D)) ∧ L2X.ExcK K D ∧ PySem.W.kitOne K (.ref D) cv = some b ∧ Q (.bl b) H
theorem isE {X : Cx} (K : PySem.W.Frag) (hK : X.K = K := by rfl) : CallR X (.builtin "isinstance") (rIsE K) := by
  subst hK
  intro pins s σ H xs us Q I r h
  obtain ⟨a, c, cv, D, b, rfl, rc, ha, Z, e, q⟩ := h
  obtain ⟨u, u', rfl, ru, ru'⟩ := vals2 r
  have ec : u' = cv := by
    cases c with
    | ty n => cases ru'; exact Option.some.inj rc
    | ref a => cases ru'; exact Option.some.inj rc
    | _ => cases rc
  subst ec
  obtain rfl : u = Value.ref a := ru
  exact isinst_exc I ha Z e fun tk => ⟨.bl b, _, I.tok tk, rfl, q⟩
theorem pe_cls {X : Cx} {x : Str} {C : Addr} {pos : Pos} (hg : Gl X x) (hm : X.mg x = some (.ref C)) (hd : (x == ("__debug__" : Str)) = false := by decide) : PE X (.Name x pos) (tC (.ref C)) := pe_glob hg hm rfl hd
theorem bt_ValueError : bootBuiltins "ValueError" = some (.type "ValueError") := by decide +kernel
def spOdd : Sp := fun vs H Q _ => ∃ c b, vs = [.int c, .int b] ∧ ∀ v o H', Same H H' → Arg H' v o → L2.lies o b = false → Q v H'
def spSame3 : Sp := fun vs H Q _ => ∃ a b x y z, vs = [.ref a, .ref b] ∧ H a = some (.tup [.int x, .int y, .int z]) ∧ H b = some (.lst [.int x, .int y, .int z]) ∧ ∀ H', Same H H' → Q (.bl true) H'
def spWhole : Sp := fun vs H Q _ => ∃ v o, vs = [v] ∧ Arg H v o ∧ Q (.bl o.isSome) H
def spLies : Sp := fun vs H Q _ => ∃ v o n, vs = [v, .int n] ∧ Arg H v o ∧ Q (.bl (L2.lies o n)) H
def spDeed (C : Addr) : Sp := fun vs H Q E => ∃ x y z ox oy oz, vs = [x, y, z] ∧ Arg H x ox ∧ Arg H y oy ∧ Arg H z oz ∧
  if (L2.lies ox (10 ^ 60) && L2.lies oy (2 ^ 60) && L2.lies oz (2 ^ 60)) = true then ∀ p, H p = none → Q (.ref p) (upd H p (.tup [x, y, z])) else E (.ref C) none H
end L2

end

section
namespace L2X
open PySem PySem.W
theorem cls_some {K : Frag} {D : Addr} (h : hasDictIn K D = true) : (clsIn K D).isSome = true := by
  obtain ⟨cd, hc, _⟩ := any_some h
  rw [hc]; rfl
end L2X
namespace L2
open PySem PySem.Spec PySem.W PyProof.Rows
/-- an own exception class, read off the fragment -/
theorem own_at {K : Frag} {h : Heap} {mg : Str → Option Value} {x : Str} {C : Addr} {bmB : List Value} {newId : String} (X : K.In h) (hm : mg x = some (.ref C)) (q : excIn K C bmB newId = true) : OwnCls x C bmB newId mg h := by
  refine ⟨hm, ?_⟩
  unfold excIn at q
  split at q
  · rename_i dd cd sl ho
    split at q
    · rename_i C' bm k0 k1 k2 k3 n k5 e1 e2
      simp only [Bool.and_eq_true, beq_iff_eq, Bool.not_eq_true'] at q
      obtain ⟨⟨⟨⟨⟨rfl, rfl⟩, hdel⟩, ht⟩, hok⟩, hni⟩ := q
      have hg := X _ _ ho
      cases cd
      dsimp only at e1 hdel hok hni
      subst e1 hdel
      cases sl
      dsimp only at e2
      subst e2
      exact ⟨_, _, _, _, _, _, _, _, _, _, _, _, _, _, _, _, _, hg, .of_isNs (isNs_of_in X hok), nsMap_none_of_in X hok hni, tail_of_in X ht⟩
    · cases q
  · cases q
/-- how a def of three parameters with one default binds -/
theorem deed_binds {K : Frag} {x qual : Str} {st : Stmt} {T f : Addr} {fd : FuncData} {od : Obj} {items : Array Value} {n : Nat} (F : FunD K x qual st (.ref T) f fd) (hT : K.lookup T = some od) (hs : od.data = .seq items n) {args : Args} {bs : List (Str × Value)}
    (h : ∀ (kV doc pm : Value) (an : Option Addr) (cdv ct : Value), ∃ k : Option (Array Value) → Sem (List (Str × Value)), bindArgs (PySem.W.fnOf x qual (defArgs st) (defBody st) (defScope st) (.ref T) kV doc pm an cdv ct) args = seqItems? (.ref T) >>= k ∧ k (some items) = pure bs) {s : Shared} (X : K.In s.heap) : BindsTo s fd args bs := by
  obtain ⟨oc, o, kV, doc, pm, an, cdv, ct, osl, rfl, lk, hcd⟩ := F.ex
  obtain ⟨k, h1, h2⟩ := h kV doc pm an cdv ct
  exact .of_defaults (T := T) rfl (X _ _ hT) hs h1 h2
theorem g21_rel {vs : List V} {us : List Value} {zs : List V} {ws : List Value} (h1 : Vals vs us) (h2 : Vals zs ws) : Vals (g21 vs zs) (g21 us ws) := by
  match vs, us, h1, zs, ws, h2 with
  | [], [], _, _, _, _ => exact .nil
  | [_], [_], _, _, _, _ => exact .nil
  | [_, _], [_, _], .cons a (.cons b .nil), [_], [_], .cons c .nil => exact .cons a (.cons b (.cons c .nil))
  | [_, _], [_, _], _, [], [], _ => exact .nil
  | [_, _], [_, _], _, _ :: _ :: _, _ :: _ :: _, _ => exact .nil
  | _ :: _ :: _ :: _, _ :: _ :: _ :: _, _, _, _, _ => exact .nil
end L2

end

section
open PySem PySem.Spec PyProof.Rows
namespace L2
/-! ### o.m(..) that an exception may leave -/
section
variable {X : Cx} {k : Nat} {f C : Addr} {fd : FuncData} {ps : List Str} {sp : Sp} {dvs : List V} {ds : List Value} {m : Str} {pos apos : Pos} {e o : Expr} {es : List Expr} {ta : TE} {t : TA}
def tMethX (C : Addr) (m : Str) (sp : Sp) (dvs : List V) (ta : TE) (t : TA) : TEX := fun σ H Q R => ta σ H fun x H1 => ∃ a dx fs, x = .ref a ∧ H1 a = some (.ins C dx fs) ∧ fs.lookup m = none ∧
  t σ H1 fun vs H2 => sp (x :: (vs ++ dvs)) H2 Q R
theorem runX {pins : List (Addr × Obj)} {σ : St} {H : Hp} {s : Shared} {Q : VK} {R : XK} {us : List Value} {vs : List V} (F : FnOk X.prog X.w X.K X.mg X.base (CX1 X.prog X.w) k f fd ps sp) (hr : Room k X.A) (hb : Binds X.K fd ps ds) (hd : Vals dvs ds)
    (I : Inv X pins σ H s) (r : Vals vs us) (h : sp (vs ++ dvs) H Q R) : wpAny (model X.prog X.w) X.A (call (.ref f) us) (EP X pins σ Q) (XP X pins σ R) s := by
  have r2 : Vals (vs ++ dvs) (us ++ ds) := r.append hd
  have hl : (us ++ ds).length = ps.length := by rw [← r2.length]; exact F.len _ _ _ _ h
  refine wpAny_call (codeAny_mono (F.run X.A X.stack s H ⟨us, []⟩ (us ++ ds) (vs ++ dvs) Q R hr I.env0 (hb s us I.kIn hl) r2 h) fun r s' hq => ?_)
  cases r with
  | error e =>
    obtain ⟨a, cls, a0, B, H', rfl, G, hE⟩ := hq
    exact ⟨a, cls, a0, B, H, s, H', rfl, I, G, hE⟩
  | ok fl =>
    cases fl with
    | ret u => exact I.after hq
    | next => exact False.elim hq
    | brk => exact False.elim hq
    | cont => exact False.elim hq
theorem pex_meth {pl : Sem Bool} (he : PE X.nox o ta) (c : Cls X.K C) (hm : Meth X.K C m f) (F : FnOk X.prog X.w X.K X.mg X.base (CX1 X.prog X.w) k f fd ps sp) (hr : Room k X.A) (hb : Binds X.K fd ps ds) (hd : Vals dvs ds) (ha : PA X.nox (e :: es) t)
    (hst : starEach (e :: es) X.env = (false, eval e X.env) :: starEach es X.env := by rfl) (hpl : (backTo pos (starEach es X.env)).any (·.1) = false := by rfl)
    (ht : eval (.Call (.Attribute o m apos) (e :: es) [] pos) X.env = (do
      let ov ← eval o X.env
      standAt apos.atName
      let (f, first) ← holding [ov] (getMethod ov m pl)
      callWith pos f first (backTo pos (starEach (e :: es) X.env)) (backToKw pos (keywordEach [] X.env))) := by rfl) :
    PEX X (.Call (.Attribute o m apos) (e :: es) [] pos) (tMethX C m sp dvs ta t) := by
  intro pins s σ H Q R I h
  refine PySem.W.methodCall_KW (pl := pl) (wpAny_mono (he pins s σ H _ (I.wish _) h) (fun u s1 h1 => ?_) fun _ _ z => False.elim z) ht
  obtain ⟨x, H1, I1, rx, a, dx, fs, ex, ea, l, q⟩ := h1
  have I1 := I1.unwish
  subst ex
  obtain rfl : u = Value.ref a := rx
  refine getmeth_ok I1 ea c hm l ?_
  refine PySem.W.callWith_K (first := [.ref a]) (h₀ := X.base) I.ok.mod.kin hm.kp (wpAny_mono (ha pos pins s1 σ H1 _ (I1.wish _) q) (fun us s2 h2 => ?_) fun _ _ z => False.elim z) hst hpl
  obtain ⟨vs, H2, I2, r, q2⟩ := h2
  have I2 := I2.unwish
  exact ⟨I2.kIn, runX (us := .ref a :: us) (vs := .ref a :: vs) F hr hb hd I2 (.cons rfl r) q2⟩
theorem pex_meth0 {pl : Sem Bool} (he : PE X.nox o ta) (c : Cls X.K C) (hm : Meth X.K C m f) (F : FnOk X.prog X.w X.K X.mg X.base (CX1 X.prog X.w) k f fd ps sp) (hr : Room k X.A) (hb : Binds X.K fd ps ds) (hd : Vals dvs ds)
    (ht : eval (.Call (.Attribute o m apos) [] [] pos) X.env = (do
      let ov ← eval o X.env
      standAt apos.atName
      let (f, first) ← holding [ov] (getMethod ov m pl)
      callWith pos f first (backTo pos (starEach [] X.env)) (backToKw pos (keywordEach [] X.env))) := by rfl) :
    PEX X (.Call (.Attribute o m apos) [] [] pos) (tMethX C m sp dvs ta tNil) := by
  intro pins s σ H Q R I h
  refine PySem.W.methodCall_KW (pl := pl) (wpAny_mono (he pins s σ H _ (I.wish _) h) (fun u s1 h1 => ?_) fun _ _ z => False.elim z) ht
  obtain ⟨x, H1, I1, rx, a, dx, fs, ex, ea, l, q⟩ := h1
  have I1 := I1.unwish
  subst ex
  obtain rfl : u = Value.ref a := rx
  refine getmeth_ok I1 ea c hm l ?_
  exact PySem.W.callWith_K0 (first := [.ref a]) I1.kIn hm.kp (runX (us := [.ref a]) (vs := [.ref a]) F hr hb hd I1 (.cons rfl .nil) q)
end
end L2

end

section
open PySem PySem.Spec PyProof.Rows
namespace L2
/-! ### a def that may raise, without defaults -/
structure DfX (P : Program) (w : World) (K : PySem.W.Frag) (mg : Str → Option Value) (base : Heap) (x : Str) (k : Nat) (ps : List Str) (sp : Sp) : Prop where
  ex : ∃ f fd, FnOk P w K mg base (CX1 P w) k f fd ps sp ∧ Binds K fd ps [] ∧ PySem.W.keepIn K (.ref f) = true ∧ mg x = some (.ref f)
section
variable {X : Cx} {k : Nat} {ps : List Str} {sp : Sp} {x : Str} {p pos : Pos} {e : Expr} {es : List Expr} {t : TA}
theorem pe_callX (D : DfX X.prog X.w X.K X.mg X.base x k ps sp) (hr : Room k X.A) (hg : Gl X x) (ha : PA X (e :: es) t) (hdb : (x == ("__debug__" : Str)) = false := by decide)
    (he : starEach (e :: es) X.env = (false, eval e X.env) :: starEach es X.env := by rfl) (hpl : (backTo pos (starEach es X.env)).any (·.1) = false := by rfl) : PE X (.Call (.Name x p) (e :: es) [] pos) (tCall sp [] E0 t) := by
  obtain ⟨f, fd, F, b0, kp, m⟩ := D.ex
  exact pe_call F hr hg m kp b0 .nil pass1 ha hdb he hpl
theorem pex_callX (D : DfX X.prog X.w X.K X.mg X.base x k ps sp) (hr : Room k X.A) (hg : Gl X x) (ha : PA X.nox (e :: es) t) (hdb : (x == ("__debug__" : Str)) = false := by decide)
    (he : starEach (e :: es) X.env = (false, eval e X.env) :: starEach es X.env := by rfl) (hpl : (backTo pos (starEach es X.env)).any (·.1) = false := by rfl) : PEX X (.Call (.Name x p) (e :: es) [] pos) (tCallX sp [] t) := by
  obtain ⟨f, fd, F, b0, kp, m⟩ := D.ex
  exact pex_call F hr hg m kp b0 .nil ha hdb he hpl
end
/-! ### slices from a place on -/
theorem cut_from {xs : List V} {m : Int} (h : 0 ≤ m) (h2 : m ≤ xs.length) : cutV xs (some m) none = xs.drop m.toNat := by
  obtain ⟨k, rfl⟩ := Int.eq_ofNat_of_zero_le h
  unfold cutV
  rw [HT.sIx_nat, HT.sIx_none, Int.toNat_natCast, Nat.min_eq_left (by omega)]
  rw [List.take_of_length_le (by rw [List.length_drop]; exact Nat.le_refl _)]
theorem cut_mid {xs : List V} {m n : Int} (h : 0 ≤ m) (h2 : m ≤ n) (h3 : n ≤ xs.length) : cutV xs (some m) (some n) = (xs.drop m.toNat).take (n.toNat - m.toNat) := by
  obtain ⟨k, rfl⟩ := Int.eq_ofNat_of_zero_le h
  obtain ⟨j, rfl⟩ := Int.eq_ofNat_of_zero_le (Int.le_trans h h2)
  unfold cutV
  rw [HT.sIx_nat, HT.sIx_nat, Int.toNat_natCast, Int.toNat_natCast, Nat.min_eq_left (by omega), Nat.min_eq_left (by omega)]
/-- two neighbours have passed one another -/
def swp {α : Type} (xs : List α) (p : Nat) (y x : α) : List α := xs.take p ++ [y, x] ++ xs.drop (p + 2)
theorem swp_length {α : Type} {xs : List α} {p : Nat} {y x : α} (h : p + 1 < xs.length) : (swp xs p y x).length = xs.length := by
  unfold swp
  rw [List.length_append, List.length_append, List.length_take, List.length_drop]
  show min p xs.length + 2 + _ = _
  omega
theorem swp_at {α : Type} {xs : List α} {p : Nat} {y x : α} (h : p + 1 < xs.length) : ((swp xs p y x).drop p).take 2 = [y, x] := by
  unfold swp
  rw [List.append_assoc, List.drop_append_of_le_length (by rw [List.length_take]; omega), List.drop_of_length_le (by rw [List.length_take]; omega)]
  rfl
theorem swp_mem {α : Type} {xs : List α} {p : Nat} {y x : α} (hy : y ∈ xs) (hx : x ∈ xs) : ∀ d ∈ swp xs p y x, d ∈ xs := by
  unfold swp
  intro d hd
  rcases List.mem_append.mp hd with hd | hd
  · rcases List.mem_append.mp hd with hd | hd
    · exact List.mem_of_mem_take hd
    · rcases List.mem_cons.mp hd with rfl | hd
      · exact hy
      · rw [List.mem_singleton.mp hd]; exact hx
  · exact List.mem_of_mem_drop hd
end L2

end

section
open PySem PySem.Spec PyProof.Rows
namespace L2
section
variable {X : Cx}
/-! ### sum(a list of ints) -/
theorem preSum_is (ns : List Int) : ∀ k, k ≤ ns.length → preSum (fun i => ns.getD i 0) k = (ns.take k).sum
  | 0, _ => rfl
  | k + 1, h => by
    show preSum _ k + ns.getD k 0 = _
    rw [preSum_is ns k (by omega), take_sum_succ ns k (by omega)]
def rSum (K : PySem.W.Frag) : List V → Hp → VK → Prop := fun xs H Q => ∃ (l : Addr) (ns : List Int), xs = [.ref l] ∧ SqL K H l (ns.map V.int) ∧ Q (.int ns.sum) H
theorem sumQ (K : PySem.W.Frag) (hc : X.calm = true) (hK : X.K = K := by rfl) : CallR X (.builtin "sum") (rSum K) := by
  subst hK
  intro pins s σ H xs us Q I r h
  obtain ⟨l, ns, rfl, hS, q⟩ := h
  obtain ⟨u, rfl, ru⟩ := vals1 r
  cases ru
  obtain ⟨its, rv, p, hz⟩ := I.list hS
  have li := p.isList
  have hlt : l < s.heap.objs.size := by obtain ⟨_, e, _⟩ := id li; exact Heap.lt_size e
  have len : ns.length = its.length := by have := rv.length; rwa [List.length_map] at this
  refine call_sum_walkG (wpAny_pyIter_list li ?_)
  refine ⟨_, _, _, _, _, _, fun i => ns.getD i 0, rfl, Walks.list (A := X.A.in1) (I.ok.hd hc) _ l (Nat.ne_of_lt hlt) its.toArray, ⟨⟨_, Heap.get?_push_size _ rfl, rfl, rfl⟩, li.push _⟩, fun b hb => ?_, fun i v hv => ?_, fun h' tk t' hk => ?_⟩
  · show b < (s.heap.push _).objs.size
    rw [Heap.size_push]
    rcases List.mem_cons.mp hb with rfl | hb
    · exact Nat.lt_succ_self _
    · rcases List.mem_cons.mp hb with rfl | hb
      · exact Nat.lt_succ_of_lt hlt
      · cases hb
  · have hv' : its[i]? = some v := by simpa using hv
    have hi : i < its.length := (List.getElem?_eq_some_iff.mp hv').1
    obtain ⟨u0, hu, t, e0⟩ := rv.get (i := i) (x := .int (ns.getD i 0)) (by rw [List.getElem?_map, List.getD_eq_getElem?_getD, List.getElem?_eq_getElem (by omega : i < ns.length)]; rfl)
    rw [hv'] at hu
    cases hu
    exact ⟨t, e0⟩
  · have e : preSum (fun i => ns.getD i 0) its.toArray.size = ns.sum := by rw [preSum_is ns _ (by rw [List.size_toArray]; omega), List.take_of_length_le (by rw [List.size_toArray]; omega)]
    rw [e]
    refine ⟨.int ns.sum, H, I.kept fun b o eb => ?_, ⟨_, rfl⟩, q⟩
    refine hk b o (fun hm => ?_) (Heap.get?_push_of_some _ eb)
    rcases List.mem_cons.mp hm with e1 | hm
    · exact absurd (e1 ▸ Heap.lt_size eb) (Nat.lt_irrefl _)
    · cases hm
theorem bt_sum : bootBuiltins "sum" = some (.builtin "sum") := by decide +kernel
/-! ### n.bit_length() -/
def rBitLen : V → List V → Hp → VK → Prop := fun x vs H Q => ∃ i, x = .int i ∧ vs = [] ∧ Q (.int (Builtin.Int.intBits i : Nat)) H
theorem mt_bitlen : MtR X "int.bit_length" rBitLen := by
  intro pins s σ H x vs v us Q I rx rv h
  obtain ⟨i, rfl, rfl, q⟩ := h
  obtain ⟨t, rfl⟩ := rx
  have hus := rv.zero
  subst hus
  exact call_int_bit_length ⟨.int _, _, I.tok _, ⟨_, rfl⟩, q⟩
theorem small1001 : 1001 < sizeLine := by decide
/-! ### xs.insert(i, v) -/
def rInsert : V → List V → Hp → VK → Prop := fun x vs H Q => ∃ (l : Addr) (ws : List V) (i : Int) (y : V), x = .ref l ∧ vs = [.int i, y] ∧ 0 ≤ i ∧ i ≤ ws.length ∧ H l = some (.lst ws) ∧ ws.length ≤ 1000 ∧ Q .non (upd H l (.lst (ws.take i.toNat ++ y :: ws.drop i.toNat)))
theorem ins_meets (l : Addr) (items : Array Value) (n : Nat) (x : Int) (u : Tok) (y : Value) (h0 : 0 ≤ x) (h1 : x ≤ 1000) (hsz : items.size ≤ sizeLine) :
    Meets (Builtin.«list.insert» ⟨[.ref l, .int x u, y], []⟩) (fun _ R s => s.heap.get? l = some { cls := .type "list", dict := none, data := .seq items n, slots := #[] } ∧ R (.ok (.ret Value.none)) { s with heap := s.heap.update l (Obj.mapSeq fun xs => have k := if x < 0 then (x + ((xs.size : Nat) : Int)).toNat else min x.toNat xs.size; (xs.extract 0 k).push y ++ xs.extract k), toks := s.toks }) := by
  refine AutoListH.list_insert_list_int_val_1 l items n x u y ?_ hsz
  unfold Builtin.List.listFitsIndex
  simp
  omega
theorem mt_insertI : MtM X "list.insert" rInsert := by
  intro pins s σ H x vs v us Q I rx rv h
  obtain ⟨l, ws, i, y, rfl, rfl, hi0, hi, hl, hz, q⟩ := h
  have rx' : v = Value.ref l := rx
  subst rx'
  obtain ⟨u, u', rfl, ru, ru'⟩ := vals2 rv
  obtain ⟨t, rfl⟩ := ru
  obtain ⟨z, its, n, r, hlen, e⟩ := I.lstM hl
  have hsz : its.toArray.size ≤ sizeLine := by rw [List.size_toArray, ← hlen]; exact z
  refine call_meets F.slot_list_insert ⟨_, e, rfl⟩ F.entry_list_insert (F.args_list_insert_3 _ _ _) (ins_meets l its.toArray n i t u' hi0 (by omega) hsz) ⟨e, ?_⟩
  refine ⟨.non, _, I.lset (its' := its.take i.toNat ++ u' :: its.drop i.toNat) (ys := ws.take i.toNat ++ y :: ws.drop i.toNat) (t' := s.toks) hl e ?_ ?_ ?_, rfl, q⟩
  · have e1 : ¬ (i < 0) := by omega
    have e2 : min i.toNat its.toArray.size = i.toNat := by rw [List.size_toArray]; omega
    simp only [e1, if_false]
    rw [e2]
    apply Array.toList_inj.mp
    simp
    rw [List.take_of_length_le (by rw [List.length_drop]; exact Nat.le_refl _)]
  · exact Paired.app (Paired.tk _ r) (.cons ru' (Paired.dp _ r))
  · rw [List.length_append, List.length_take, List.length_cons, List.length_drop]
    have : 1001 < sizeLine := small1001
    omega
/-! ### isinstance(e, (A, B, ..)) of a caught exception -/
def rIsET (K : PySem.W.Frag) : List V → Hp → VK → Prop := fun xs H Q => ∃ (a tp : Addr) (cs : List Addr) (D : Addr) (b : Bool), xs = [.ref a, .ref tp] ∧ H tp = some (.tup (cs.map V.ref)) ∧ H a = some (excO a (.ref D)) ∧ L2X.ExcK K D ∧ PySem.W.kitAny K (.ref D) (cs.map Value.ref) = some b ∧ Q (.bl b) H
theorem refs_vals : ∀ {cs : List Addr} {us : List Value}, Vals (cs.map V.ref) us → us = cs.map Value.ref
  | [], _, .nil => rfl
  | c :: cs, _, .cons h t => by
    have e1 : _ = Value.ref c := h
    rw [e1, refs_vals t]
    rfl
theorem isET (K : PySem.W.Frag) (hK : X.K = K := by rfl) : CallR X (.builtin "isinstance") (rIsET K) := by
  subst hK
  intro pins s σ H xs us Q I r h
  obtain ⟨a, tp, cs, D, b, rfl, ht, ha, Z, e, q⟩ := h
  obtain ⟨u, u', rfl, ru, ru'⟩ := vals2 r
  obtain rfl : u = Value.ref a := ru
  obtain rfl : u' = Value.ref tp := ru'
  obtain ⟨its, rv, ⟨o, e1, e2, n, e3⟩, _⟩ := I.tuple (SqT.of ht)
  have := refs_vals rv
  subst this
  obtain ⟨oc, od, dt, sl⟩ := o
  dsimp only at e2 e3
  subst e2 e3
  obtain ⟨⟨oe, vs, h1, h2, h3⟩, _⟩ := (show ObjOk X.prog X.w H s.heap a (excO a (.ref D)) from I.hok a _ ha)
  exact PySem.W.kia_tup (L2X.kitx_exc Z) I.kIn ⟨oe, h1, h2⟩ e1 e (fun z => nomatch z) fun tk => ⟨.bl b, _, I.tok tk, rfl, q⟩
end
section
variable {X : Cx}
theorem pe_bm0K (K : PySem.W.Frag) {o : Expr} {to : TE} {name : Str} {apos cpos : Pos} {T id : String} {r : V → List V → Hp → VK → Prop} (pa : PlainAttrs T) (slot : Slot T name id) (hty : typeOf (.builtin id) = pure (.type "method_descriptor")) (hm : MtR X id r) (ho : PE X o to)
    (hbase : attributeBase o name X.env (eval o X.env) = eval o X.env := by rfl) (hline : (apos.endLine == cpos.line) = true := by rfl) (hK : X.K = K := by rfl) : PE X (.Call (.Attribute o name apos) [] [] cpos) (tBM0 K T r to) := by subst hK; exact pe_bm0 pa slot hty hm ho hbase hline
/-- // by a positive divisor of not too many figures -/
def CDivB (i j : Int) : Prop := 0 < j ∧ j.natAbs.log2 < 9000
theorem op_fdivB : OpR X (binaryOp .FloorDiv) (rI CDivB fun i j => .int (i / j)) := opI fun i j _ _ _ _ _ hc q => by
  have h1 : (0 : Int) < j := hc.1
  exact floordiv_int (by omega) (by rw [Int.fdiv_eq_ediv_of_nonneg i (by omega)]; exact q) (.inl (PyProof.noPylong_of_log2 hc.2))
end
end L2

end

section
open PySem PySem.Spec PyProof.Rows
namespace L2
/-! ### done -/
section
variable {α : Type} (nm : α → Int) (lk ch : α → Nat → Bool) (n : Nat)
def lkSum (a : α) (σ : Nat → Int) : Nat → Int
  | 0 => 0
  | k + 1 => lkSum a σ k + if lk a k = true then ((k : Int) + 1) * σ k else 0
def say (a : α) (σ : Nat → Int) : Int := nm a + lkSum lk a σ n
def stp (a : α) (σ : Nat → Int) : Nat → Int := fun k => if ch a k = true then say nm lk n a σ + k else σ k
def wds : List α → (Nat → Int) → List Int
  | [], _ => []
  | a :: l, σ => say nm lk n a σ :: wds l (stp nm lk ch n a σ)
def fin : List α → (Nat → Int) → (Nat → Int)
  | [], σ => σ
  | a :: l, σ => fin l (stp nm lk ch n a σ)
/-- the two do not clash -/
def Nc (a b : α) : Prop := ∀ k, (ch a k = true → lk b k = false ∧ ch b k = false) ∧ (ch b k = true → lk a k = false)
variable {nm lk ch n}
theorem Nc.symm {a b : α} (h : Nc lk ch a b) : Nc lk ch b a := fun k => ⟨fun z => ⟨(h k).2 z, Bool.eq_false_iff.mpr fun y => by have := ((h k).1 y).2; rw [z] at this; cases this⟩, fun z => ((h k).1 z).1⟩
theorem lkSum_congr {a : α} {σ τ : Nat → Int} : ∀ {m : Nat}, (∀ k, k < m → lk a k = true → σ k = τ k) → lkSum lk a σ m = lkSum lk a τ m
  | 0, _ => rfl
  | m + 1, h => by
    show lkSum lk a σ m + _ = lkSum lk a τ m + _
    rw [lkSum_congr fun k hk => h k (by omega)]
    by_cases e : lk a m = true
    · rw [if_pos e, if_pos e, h m (Nat.lt_succ_self m) e]
    · rw [if_neg e, if_neg e]
theorem say_stp {a b : α} (h : Nc lk ch a b) (σ : Nat → Int) : say nm lk n b (stp nm lk ch n a σ) = say nm lk n b σ := by
  unfold say
  congr 1
  refine lkSum_congr fun k _ hb => ?_
  unfold stp
  rw [if_neg fun z => by have := ((h k).1 z).1; rw [hb] at this; cases this]
theorem stp_stp {a b : α} (h : Nc lk ch a b) (σ : Nat → Int) : stp nm lk ch n b (stp nm lk ch n a σ) = stp nm lk ch n a (stp nm lk ch n b σ) := by
  funext k
  have e1 := say_stp (nm := nm) (n := n) h σ
  have e2 := say_stp (nm := nm) (n := n) h.symm σ
  show (if ch b k = true then say nm lk n b (stp nm lk ch n a σ) + k else if ch a k = true then say nm lk n a σ + k else σ k) = (if ch a k = true then say nm lk n a (stp nm lk ch n b σ) + k else if ch b k = true then say nm lk n b σ + k else σ k)
  rw [e1, e2]
  by_cases hb : ch b k = true
  · rw [if_pos hb]
    have ha : ¬ ch a k = true := fun z => by have := ((h k).1 z).2; rw [hb] at this; cases this
    rw [if_neg ha, if_pos hb]
  · rw [if_neg hb, if_neg hb]
theorem wds_app : ∀ (l l' : List α) (σ : Nat → Int), wds nm lk ch n (l ++ l') σ = wds nm lk ch n l σ ++ wds nm lk ch n l' (fin nm lk ch n l σ)
  | [], _, _ => rfl
  | a :: l, l', σ => by
    show _ :: wds nm lk ch n (l ++ l') _ = _ :: (wds nm lk ch n l _ ++ _)
    rw [wds_app l l']
    rfl
theorem fin_app : ∀ (l l' : List α) (σ : Nat → Int), fin nm lk ch n (l ++ l') σ = fin nm lk ch n l' (fin nm lk ch n l σ)
  | [], _, _ => rfl
  | a :: l, l', σ => fin_app l l' _
theorem wds_length : ∀ (l : List α) (σ : Nat → Int), (wds nm lk ch n l σ).length = l.length
  | [], _ => rfl
  | a :: l, σ => congrArg Nat.succ (wds_length l _)
/-- one that clashes with none of l may be done ahead of them, or behind -/
theorem bring {b : α} : ∀ {l : List α} (σ : Nat → Int), (∀ a ∈ l, Nc lk ch a b) → say nm lk n b (fin nm lk ch n l σ) = say nm lk n b σ ∧ wds nm lk ch n l (stp nm lk ch n b σ) = wds nm lk ch n l σ ∧ fin nm lk ch n l (stp nm lk ch n b σ) = stp nm lk ch n b (fin nm lk ch n l σ)
  | [], σ, _ => ⟨rfl, rfl, rfl⟩
  | a :: l, σ, h => by
    have ha := h a List.mem_cons_self
    obtain ⟨i1, i2, i3⟩ := bring (l := l) (stp nm lk ch n a σ) fun x hx => h x (List.mem_cons_of_mem _ hx)
    refine ⟨?_, ?_, ?_⟩
    · show say nm lk n b (fin nm lk ch n l (stp nm lk ch n a σ)) = _
      rw [i1, say_stp ha]
    · show say nm lk n a (stp nm lk ch n b σ) :: wds nm lk ch n l (stp nm lk ch n a (stp nm lk ch n b σ)) = say nm lk n a σ :: wds nm lk ch n l (stp nm lk ch n a σ)
      rw [say_stp ha.symm, ← stp_stp ha, i2]
    · show fin nm lk ch n l (stp nm lk ch n a (stp nm lk ch n b σ)) = stp nm lk ch n b (fin nm lk ch n l (stp nm lk ch n a σ))
      rw [← stp_stp ha, i3]
/-- l1, b, l2 and b, l1, l2 -/
theorem bring_wds {b : α} {l1 l2 : List α} (σ : Nat → Int) (h : ∀ a ∈ l1, Nc lk ch a b) : ∃ w1 wb w2, wds nm lk ch n (l1 ++ b :: l2) σ = w1 ++ wb :: w2 ∧ wds nm lk ch n (b :: (l1 ++ l2)) σ = wb :: (w1 ++ w2) ∧ w1.length = l1.length ∧ fin nm lk ch n (l1 ++ b :: l2) σ = fin nm lk ch n (b :: (l1 ++ l2)) σ := by
  obtain ⟨i1, i2, i3⟩ := bring (nm := nm) (n := n) σ h
  refine ⟨wds nm lk ch n l1 σ, say nm lk n b σ, wds nm lk ch n l2 (stp nm lk ch n b (fin nm lk ch n l1 σ)), ?_, ?_, wds_length _ _, ?_⟩
  · rw [wds_app]
    show _ ++ say nm lk n b (fin nm lk ch n l1 σ) :: _ = _
    rw [i1]
  · show say nm lk n b σ :: wds nm lk ch n (l1 ++ l2) (stp nm lk ch n b σ) = _
    rw [wds_app, i2, i3]
  · rw [fin_app]
    show fin nm lk ch n l2 (stp nm lk ch n b (fin nm lk ch n l1 σ)) = fin nm lk ch n (l1 ++ l2) (stp nm lk ch n b σ)
    rw [fin_app, i3]
/-- b, l1, l2 and l1, b, l2 (one passed on) -/
theorem pass_on {b : α} {l0 l1 l2 : List α} (σ : Nat → Int) (h : ∀ a ∈ l1, Nc lk ch a b) : ∃ w0 w1 wb w2, wds nm lk ch n (l0 ++ b :: (l1 ++ l2)) σ = w0 ++ wb :: (w1 ++ w2) ∧ wds nm lk ch n (l0 ++ (l1 ++ b :: l2)) σ = w0 ++ (w1 ++ wb :: w2) ∧
    w0.length = l0.length ∧ w1.length = l1.length ∧ fin nm lk ch n (l0 ++ b :: (l1 ++ l2)) σ = fin nm lk ch n (l0 ++ (l1 ++ b :: l2)) σ := by
  obtain ⟨w1, wb, w2, e1, e2, e3, e4⟩ := bring_wds (nm := nm) (n := n) (l2 := l2) (fin nm lk ch n l0 σ) h
  exact ⟨wds nm lk ch n l0 σ, w1, wb, w2, by rw [wds_app, e2], by rw [wds_app, e1], wds_length _ _, e3, by rw [fin_app, fin_app, e4]⟩
end
/-! ### boxes -/
/-- bit k of n is set -/
def bit (n : Int) (k : Nat) : Bool := decide (n / 2 ^ k % 2 = 1)
theorem bitlen_le {n : Int} (h : 0 ≤ n) (m : Nat) : Builtin.Int.intBits n ≤ m ↔ n < 2 ^ m := by
  obtain ⟨k, rfl⟩ := Int.eq_ofNat_of_zero_le h
  unfold Builtin.Int.intBits
  have hp : (((2 ^ m : Nat) : Int)) = (2 : Int) ^ m := by simp
  by_cases e : k = 0
  · subst e
    simp
    exact Int.pow_pos (by decide)
  · rw [if_neg (by simpa using e)]
    have h1 : ((k : Int)).natAbs = k := rfl
    rw [h1, Nat.succ_le_iff, Nat.log2_lt e, ← hp]
    omega
theorem pow_le_pow {m k : Nat} (hk : m ≤ k) : (2 : Int) ^ m ≤ 2 ^ k := by
  have := Nat.pow_le_pow_right (by decide : 0 < 2) hk
  have e1 : (((2 ^ m : Nat) : Int)) = (2 : Int) ^ m := by simp
  have e2 : (((2 ^ k : Nat) : Int)) = (2 : Int) ^ k := by simp
  omega
theorem bit_none {n : Int} (h : 0 ≤ n) {m k : Nat} (hn : n < 2 ^ m) (hk : m ≤ k) : bit n k = false := by
  unfold bit
  have h2 := pow_le_pow hk
  rw [Int.ediv_eq_zero_of_lt h (by omega)]
  decide
theorem bitOr_lt {x y : Int} (hx : 0 ≤ x) (hy : 0 ≤ y) (m : Nat) : 0 ≤ Builtin.bitOr x y ∧ (Builtin.bitOr x y < 2 ^ m ↔ x < 2 ^ m ∧ y < 2 ^ m) := by
  have e : Builtin.bitOr x y = ((x.toNat ||| y.toNat : Nat) : Int) := bitOr_pp hx hy
  rw [e]
  have hp : (((2 ^ m : Nat) : Int)) = (2 : Int) ^ m := by simp
  refine ⟨Int.natCast_nonneg _, ?_⟩
  rw [← hp]
  constructor
  · intro h
    have l := Nat.left_le_or (n := x.toNat) (m := y.toNat)
    have r := Nat.right_le_or (n := x.toNat) (m := y.toNat)
    omega
  · rintro ⟨h1, h2⟩
    have := Nat.or_lt_two_pow (x := x.toNat) (y := y.toNat) (n := m) (by omega) (by omega)
    omega
def bxs (n : Int) (m : Nat) : List Nat := (List.range m).filter (bit n)
theorem mem_bxs {n : Int} {m k : Nat} : k ∈ bxs n m ↔ k < m ∧ bit n k = true := by unfold bxs; rw [List.mem_filter, List.mem_range]
theorem bxs_succ (n : Int) (m : Nat) : bxs n (m + 1) = bxs n m ++ if bit n m = true then [m] else [] := by
  unfold bxs
  rw [List.range_succ, List.filter_append]
  congr 1
  by_cases h : bit n m = true
  · rw [if_pos h, List.filter_cons, if_pos h, List.filter_nil]
  · rw [if_neg h, List.filter_cons, if_neg h, List.filter_nil]
theorem bxs_length (n : Int) (m : Nat) : (bxs n m).length ≤ m := by
  unfold bxs
  exact Nat.le_trans (List.length_filter_le _ _) (by rw [List.length_range]; exact Nat.le_refl _)
theorem bxs_far {n : Int} (h : 0 ≤ n) : ∀ {m k : Nat}, n < 2 ^ m → bxs n (m + k) = bxs n m
  | m, 0, _ => rfl
  | m, k + 1, hn => by
    rw [← Nat.add_assoc, bxs_succ, bxs_far h hn, bit_none h hn (Nat.le_add_right m k)]
    simp
theorem bxs_any {n : Int} (h : 0 ≤ n) {m : Nat} (hn : n < 2 ^ m) : bxs n (Builtin.Int.intBits n) = bxs n m := by
  have h1 := (bitlen_le h m).mpr hn
  have h2 := (bitlen_le h _).mp (Nat.le_refl (Builtin.Int.intBits n))
  have := bxs_far h (m := Builtin.Int.intBits n) (k := m - Builtin.Int.intBits n) h2
  rw [← this]
  congr 1
  omega
def cvec (n : Nat) (σ : Nat → Int) : List Int := (List.range n).map σ
theorem cvec_length (n : Nat) (σ : Nat → Int) : (cvec n σ).length = n := by unfold cvec; rw [List.length_map, List.length_range]
theorem cvec_get {n k : Nat} {σ : Nat → Int} (h : k < n) : (cvec n σ)[k]? = some (σ k) := by unfold cvec; rw [List.getElem?_map, List.getElem?_range h]; rfl
theorem cvec_congr {n : Nat} {σ τ : Nat → Int} (h : ∀ k, k < n → σ k = τ k) : cvec n σ = cvec n τ := by
  unfold cvec
  refine List.map_congr_left fun k hk => h k (List.mem_range.mp hk)
theorem cvec_of (cs : List Int) : cvec cs.length (fun k => cs.getD k 0) = cs := by
  apply List.ext_getElem?
  intro i
  by_cases h : i < cs.length
  · rw [cvec_get h, List.getD_eq_getElem?_getD, List.getElem?_eq_getElem h]; rfl
  · rw [List.getElem?_eq_none (by rw [cvec_length]; omega), List.getElem?_eq_none (by omega)]
theorem cvec_set {n k : Nat} {σ : Nat → Int} {v : Int} : (cvec n σ).set k v = cvec n fun j => if j = k then v else σ j := by
  apply List.ext_getElem?
  intro i
  by_cases h : i < n
  · rw [cvec_get h]
    by_cases e : k = i
    · subst e
      rw [List.getElem?_set_self (by rw [cvec_length]; exact h), if_pos rfl]
    · rw [List.getElem?_set_ne e, cvec_get h, if_neg (fun z => e z.symm)]
  · rw [List.getElem?_eq_none (by rw [List.length_set, cvec_length]; omega), List.getElem?_eq_none (by rw [cvec_length]; omega)]

/-! ### a diary is done -/
def nmD (d : D3) : Int := d.1
def lkD (d : D3) (k : Nat) : Bool := bit d.2.1 k
def chD (d : D3) (k : Nat) : Bool := bit d.2.2 k
abbrev sayD (n : Nat) (d : D3) (σ : Nat → Int) : Int := say nmD lkD n d σ
abbrev stpD (n : Nat) (d : D3) (σ : Nat → Int) : Nat → Int := stp nmD lkD chD n d σ
abbrev wdsD (n : Nat) (ds : List D3) (σ : Nat → Int) : List Int := wds nmD lkD chD n ds σ
abbrev finD (n : Nat) (ds : List D3) (σ : Nat → Int) : Nat → Int := fin nmD lkD chD n ds σ
def atD (cs : List Int) : Nat → Int := fun k => cs.getD k 0
theorem lkSum_bxs (d : D3) (σ : Nat → Int) : ∀ m, ((bxs d.2.1 m).map fun (k : Nat) => ((k : Int) + 1) * σ k).sum = lkSum lkD d σ m
  | 0 => rfl
  | m + 1 => by
    rw [bxs_succ, List.map_append, List.sum_append, lkSum_bxs d σ m]
    show _ = lkSum lkD d σ m + _
    congr 1
    by_cases h : bit d.2.1 m = true
    · rw [if_pos h, if_pos (show lkD d m = true from h)]; simp
    · rw [if_neg h, if_neg (show ¬ lkD d m = true from h)]; rfl
theorem wds_snoc (n : Nat) (ds : List D3) (d : D3) (σ : Nat → Int) : wdsD n (ds ++ [d]) σ = wdsD n ds σ ++ [sayD n d (finD n ds σ)] := by unfold wdsD; rw [wds_app]; rfl
theorem fin_snoc (n : Nat) (ds : List D3) (d : D3) (σ : Nat → Int) : finD n (ds ++ [d]) σ = stpD n d (finD n ds σ) := by unfold finD; rw [fin_app]; rfl
/-- all its boxes are there -/
def There (n : Nat) (d : D3) : Prop := Builtin.bitOr d.2.1 d.2.2 < 2 ^ n
instance (n : Nat) (d : D3) : Decidable (There n d) := inferInstanceAs (Decidable (_ < _))
theorem ixN_nat {n k : Nat} (h : k < n) : ixN n (k : Int) = some k := by
  unfold ixN
  rw [if_pos (by omega), if_pos (by omega)]; simp
theorem and60 {x y : Int} (hx : R60 x) (hy : R60 y) : R60 (Builtin.bitAnd x y) := by
  unfold R60 at *
  have := and_bd hx.1 hx.2 hy.1
  exact ⟨this.1, this.2.1⟩
theorem getD_all {P : Int → Prop} {l : List Int} (h : ∀ x ∈ l, P x) (h0 : P 0) (k : Nat) : P (l.getD k 0) := by
  rw [List.getD_eq_getElem?_getD]
  by_cases hk : k < l.length
  · rw [List.getElem?_eq_getElem hk]
    exact h _ (List.getElem_mem hk)
  · rw [List.getElem?_eq_none (by omega)]
    exact h0
theorem mul60 {e l : Int} (h : 0 ≤ e ∧ e ≤ 20) (h0 : 0 ≤ l) (h1 : l ≤ 2 ^ 55) : R60 (e * l) := by
  unfold R60
  have a := Int.mul_nonneg h.1 h0
  have b := Int.mul_le_mul h.2 h1 h0 (by decide)
  exact ⟨a, by omega⟩
theorem bit_at {n : Int} {i : Nat} : (Builtin.bitAnd (n / 2 ^ (0 + (i : Int)).toNat) 1 = 1) ↔ bit n i = true := by
  rw [bitAnd_m1, z_nat]
  unfold bit
  rw [decide_eq_true_iff]
theorem bit_no {n : Int} {i : Nat} (h : Builtin.bitAnd (n / 2 ^ (0 + (i : Int)).toNat) 1 ≠ 1) : bit n i = false := Bool.eq_false_iff.mpr fun z => h (bit_at.mpr z)
/-- what is handed in, what is told -/
def dP (p : List D3 × List Int) : PyData := .list [dL p.1, dI p.2]
theorem enc_dP : Enc dP 3 := by
  refine ⟨fun x y => ?_, fun x => ?_⟩
  · have e : PyData.eqv (dP x) (dP y) = (PyData.eqv (dL x.1) (dL y.1) && (PyData.eqv (dI x.2) (dI y.2) && true)) := by
      unfold dP
      rw [PyData.eqv, PyData.eqvAll, PyData.eqvAll, PyData.eqvAll]
    rw [e, Bool.and_true, Bool.and_eq_true, enc_dL.inj, enc_dI.inj]
    obtain ⟨a, b⟩ := x
    obtain ⟨a', b'⟩ := y
    simp
  · have h1 := enc_dL.dep x.1
    have h2 := enc_dI.dep x.2
    show Nat.succ (max (dL x.1).depth (max (dI x.2).depth 0)) ≤ 3
    omega
def dW (p : List Int × List Int) : PyData := .tuple [dI p.1, dI p.2]
theorem enc_dW : Enc dW 2 := by
  refine ⟨fun x y => ?_, fun x => ?_⟩
  · have e : PyData.eqv (dW x) (dW y) = (PyData.eqv (dI x.1) (dI y.1) && (PyData.eqv (dI x.2) (dI y.2) && true)) := by
      unfold dW
      rw [PyData.eqv, PyData.eqvAll, PyData.eqvAll, PyData.eqvAll]
    rw [e, Bool.and_true, Bool.and_eq_true, enc_dI.inj, enc_dI.inj]
    obtain ⟨a, b⟩ := x
    obtain ⟨a', b'⟩ := y
    simp
  · have h1 := enc_dI.dep x.1
    have h2 := enc_dI.dep x.2
    show Nat.succ (max (dI x.1).depth (max (dI x.2).depth 0)) ≤ 2
    omega
theorem dat_dP {H : Hp} {h a c : Addr} {ds : List D3} {cs : List Int} (e : H h = some (.lst [.ref a, .ref c])) (La : LD H a ds) (hc : H c = some (.lst (cs.map V.int))) : Dat H (.ref h) (dP (ds, cs)) := .lst e (.cons La.dat (.cons (dat_ints hc) .nil))
theorem dat_dW {H : Hp} {h a c : Addr} {bs cs : List Int} (e : H h = some (.tup [.ref a, .ref c])) (ha : H a = some (.lst (bs.map V.int))) (hc : H c = some (.lst (cs.map V.int))) : Dat H (.ref h) (dW (bs, cs)) := .tup e (.cons (dat_ints ha) (.cons (dat_ints hc) .nil))
theorem mod60 {x t : Int} (h0 : 0 < t) (h1 : t ≤ 2 ^ 60) : R60 (x % t) := by
  unfold R60
  have a := Int.emod_nonneg x (Int.ne_of_gt h0)
  have b := Int.emod_lt_of_pos x h0
  omega
theorem pow60 {k : Int} (h : k < 60) : R60 (2 ^ k.toNat) := by
  unfold R60
  have := pow_le_pow (m := k.toNat) (k := 59) (by omega)
  have p : (0 : Int) < 2 ^ k.toNat := Int.pow_pos (by decide)
  omega
def spBoxes : Sp := fun vs H Q _ => ∃ n : Int, vs = [.int n] ∧ 0 ≤ n ∧ n < 2 ^ 60 ∧ ∀ r H', Same H H' → H r = none → H' r = some (.lst (((bxs n (Builtin.Int.intBits n)).map fun (k : Nat) => (k : Int)).map V.int)) → Q (.ref r) H'
def spSaying : Sp := fun vs H Q _ => ∃ (x : V) (c : Addr) (d : D3) (n : Nat) (σ : Nat → Int), vs = [x, .ref c] ∧ T3 H x d ∧ okD d ∧ n ≤ 1000 ∧ There n d ∧ H c = some (.lst ((cvec n σ).map V.int)) ∧ ∀ H', Same H H' → Q (.int (sayD n d σ)) H'
def spDone (C : Addr) : Sp := fun vs H Q E => ∃ (a c : Addr) (ds : List D3) (cs : List Int), vs = [.ref a, .ref c] ∧ LD H a ds ∧ (∀ d ∈ ds, okD d) ∧ ds.length ≤ 1000 ∧ cs.length ≤ 1000 ∧ H c = some (.lst (cs.map V.int)) ∧
  (((∀ d ∈ ds, There cs.length d) ∧ ∀ r p q H', Same H H' → H r = none → H p = none → H q = none → p ≠ q → H' r = some (.tup [.ref p, .ref q]) → H' p = some (.lst ((wdsD cs.length ds (atD cs)).map V.int)) → H' q = some (.lst ((cvec cs.length (finD cs.length ds (atD cs))).map V.int)) → Q (.ref r) H')
   ∨ ((∃ d ∈ ds, ¬ There cs.length d) ∧ ∀ H', Same H H' → E (.ref C) none H'))
end L2

end

section
namespace L2X
open PySem PySem.Spec PyProof.Rows
theorem lri_no_len : typeLookup (.type "list_reverseiterator") "__len__" = pure none := by rw [typeLookup_type, builtinLookup_eq_fast]; kernel_rfl
theorem lri_hint : typeLookup (.type "list_reverseiterator") "__length_hint__" = pure (some (.builtin "list_reverseiterator.__length_hint__")) := by rw [typeLookup_type, builtinLookup_eq_fast]; kernel_rfl
section
variable {prog : Program} {w : World} {A : Around} {E : Value → Shared → Prop} {s : Shared}
theorem hint_rev {it l : Addr} {i : Int} {Q : Bool → Shared → Prop} (hit : s.heap.IsRevIter it l i) (h : Q false s) : wpAny (model prog w) A (Builtin.List.listLengthHint (.ref it)) Q E s := by
  unfold Builtin.List.listLengthHint
  refine wpAny_bind (wpAny_specialOf hit.typeIs lri_no_len ?_)
  refine wpAny_ite_split (fun hab => absurd hab (by decide +kernel)) (fun _ => ?_)
  refine wpAny_ite_split (fun hab => absurd hab (by decide)) (fun _ => ?_)
  refine wpAny_bind (wpAny_specialOf hit.typeIs lri_hint ?_)
  generalize hid : ("list_reverseiterator.__length_hint__" : String) = id0
  wp_delta
  rw [show splitId id0 = some ("list_reverseiterator", "__length_hint__") from by subst hid; decide +kernel]
  subst hid
  refine wpAny_bind (wpAny_isInstance (T := "list_reverseiterator") (b := true) hit.typeIs (by rw [isSubtype_type]; kernel_rfl) ?_)
  refine wpAny_ite_split (fun hab => absurd hab (by decide)) (fun _ => ?_)
  refine wpAny_ite_split (fun _ => ?_) (fun hab => absurd (by decide +kernel) hab)
  refine wpAny_ite_split (fun hab => absurd hab (by decide +kernel)) (fun _ => ?_)
  exact wpAny_pure h
variable {R : Result → Shared → Prop}
theorem extend_rev {I l : Addr} {items : Array Value} (hh : A.handled = none) (hit : s.heap.IsRevIter I l ((items.size : Int) - 1)) (hl : s.heap.IsList l items) (hz : items.size ≤ sizeLine) (S : Addr) (res : Value) (c₀ : Nat) (hSI : S ≠ I) (hSl : S ≠ l) (hIl : l ≠ I) (hS : s.heap.get? S = some { cls := .type "list", data := .seq #[] c₀ })
    (hR : ∀ h' tk acc' c', (∀ b o, b ≠ S → b ≠ I → s.heap.get? b = some o → h'.get? b = some o) → h'.get? S = some { cls := .type "list", dict := none, data := .seq acc' c', slots := #[] } →
      ItemsOf (fun i v => items[items.size - 1 - i]? = some v) acc' items.size → R (.ok (.ret res)) { s with heap := h', toks := tk }) :
    wpAny (model prog w) A.in1 (Builtin.List.listExtendWith (.ref S) (.ref I) res)
      (fun fin s' => match fin with | .done f => R (.ok f) s' | .again c' => c'.quiet = true ∧ codeAny (model prog w) A c' R s') (fun e s' => R (.error e) s') s := by
  have W := (Walks.listRev (prog := prog) (w := w) (A := A.in1) hh I l hIl items).toS
  have hSf : S ∉ [I, l] := fun hm => by
    rcases List.mem_cons.mp hm with e | hm
    · exact hSI e
    · exact hSl (List.mem_singleton.mp hm)
  have key : ∀ (h : Heap) (c₁ tk : Nat), h.IsRevIter I l ((items.size : Int) - 1 - ((0 : Nat) : Int)) → h.IsList l items → (∀ b o, b ≠ S → s.heap.get? b = some o → h.get? b = some o) →
      h.get? S = some { cls := .type "list", data := .seq #[] c₁ } → codeAny (model prog w) A (.builtin "list.extend.loop" ⟨[.ref S, .ref I, res], []⟩) R { s with heap := h, toks := tk } := by
    intro h c₁ tk hi hl1 hk hS₁
    refine codeAny_extend_loopS W hz S hSf res items.size 0 _ #[] c₁ rfl (Nat.zero_le _) ⟨Nat.zero_le _, hi, hl1⟩ hS₁ (ItemsOf.nil _) fun s' acc' c' hm hS' hacc => ?_
    rw [Moved.eq_with hm]
    refine hR s'.heap s'.toks acc' c' (fun b o hb hbI e => hm.heap b o (fun hmem => ?_) (hk b o hb e)) hS' hacc
    rcases List.mem_cons.mp hmem with e' | hmem
    · exact hb e'
    · exact hbI (List.mem_singleton.mp hmem)
  unfold Builtin.List.listExtendWith
  refine wpAny_bind (wpAny_typeOf hit.typeIs ?_)
  have h1 : Builtin.List.listSameRef (.ref S) (.ref I) = false := by simp [Builtin.List.listSameRef, hSI]
  have h2 : (Value.type "list_reverseiterator" == Value.type "list") = false := by decide
  have h3 : (Value.type "list_reverseiterator" == Value.type "tuple") = false := by decide
  simp only [h1, h2, h3, Bool.or_false, Bool.false_eq_true, if_false]
  refine wpAny_bind (wpAny_pyIter_revIter hit ?_)
  refine wpAny_bind (wpAny_holding (hint_rev hit ?_))
  have hi0 : s.heap.IsRevIter I l ((items.size : Int) - 1 - ((0 : Nat) : Int)) := by simpa using hit
  refine wpAny_ite_split (fun _ => ?_) (fun _ => wpAny_pure ⟨plainId_quiet F.plain_extend_loop _, key _ c₀ _ hi0 hl (fun b o _ e => e) hS⟩)
  refine wpAny_bind (wpAny_rule ?_)
  refine wpAny_bind ?_
  show wpAny _ _ (updateSeq S (·.push .none) >>= fun _ => updateSeq S (·.pop)) _ _ _
  refine wpAny_bind (wpAny_updateSeq hS rfl ?_)
  have hS₂ := Heap.get?_update_self (Obj.mapSeq (·.push Value.none)) hS rfl
  refine wpAny_updateSeq (hz := by seq_fits) hS₂ rfl ?_
  have hS₃ := Heap.get?_update_self (Obj.mapSeq (·.pop)) hS₂ rfl
  have oth : ∀ b o, b ≠ S → s.heap.get? b = some o → ((s.heap.update S (Obj.mapSeq (·.push Value.none))).update S (Obj.mapSeq (·.pop))).get? b = some o :=
    fun b o hb e => (Heap.get?_update_other _ _ (Ne.symm hb)).trans ((Heap.get?_update_other _ _ (Ne.symm hb)).trans e)
  exact wpAny_pure ⟨plainId_quiet F.plain_extend_loop _, key _ _ _ (hi0.at fun o e => oth _ _ (Ne.symm hSI) e) (hl.at fun o e => oth _ _ (Ne.symm hSl) e) oth hS₃⟩
theorem list_init_rev {I l : Addr} {items : Array Value} (hh : A.handled = none) (hit : s.heap.IsRevIter I l ((items.size : Int) - 1)) (hl : s.heap.IsList l items) (hz : items.size ≤ sizeLine) (S : Addr) (hSI : S ≠ I) (hSl : S ≠ l) (hIl : l ≠ I) (hS : s.heap.get? S = some { cls := .type "list", data := .seq #[] })
    (hR : ∀ h' tk acc' c', (∀ b o, b ≠ S → b ≠ I → s.heap.get? b = some o → h'.get? b = some o) → h'.get? S = some { cls := .type "list", dict := none, data := .seq acc' c', slots := #[] } →
      ItemsOf (fun i v => items[items.size - 1 - i]? = some v) acc' items.size → R (.ok (.ret .none)) { s with heap := h', toks := tk }) :
    wpAny (model prog w) A.in1 (Builtin.«list.__init__» ⟨[.ref S, .ref I], []⟩)
      (fun fin s' => match fin with | .done f => R (.ok f) s' | .again c' => c'.quiet = true ∧ codeAny (model prog w) A c' R s') (fun e s' => R (.error e) s') s := by
  show wpAny _ A.in1 (do let old ← Builtin.List.listItems (.ref S); Builtin.List.listUpdate (.ref S) (fun _ => #[]); letGo old.toList.reverse; Builtin.List.listExtendWith (.ref S) (.ref I) .none) _ _ s
  refine wpAny_bind ?_
  unfold Builtin.List.listItems
  refine wpAny_bind (wpAny_seqItems hS rfl (wpAny_pure ?_))
  show wpAny _ A.in1 (updateSeq S (fun _ => #[]) >>= fun _ => letGo (#[] : Array Value).toList.reverse >>= fun _ => Builtin.List.listExtendWith (.ref S) (.ref I) .none) _ _ s
  refine wpAny_bind (wpAny_updateSeq hS rfl ?_)
  have hS₂ := Heap.get?_update_self (Obj.mapSeq (fun _ => (#[] : Array Value))) hS rfl
  have oth : ∀ b o, b ≠ S → s.heap.get? b = some o → (s.heap.update S (Obj.mapSeq (fun _ => (#[] : Array Value)))).get? b = some o :=
    fun b o hb e => (Heap.get?_update_other _ _ (Ne.symm hb)).trans e
  refine wpAny_bind (wpAny_letGo ?_)
  exact extend_rev hh (hit.at fun o e => oth _ _ (Ne.symm hSI) e) (hl.at fun o e => oth _ _ (Ne.symm hSl) e) hz S .none _ hSI hSl hIl hS₂ fun h' tk acc' c' kp e i => hR h' tk acc' c' (fun b o hb hbI q => kp b o hb hbI (oth b o hb q)) e i
theorem call_list_rev {Q : Value → Shared → Prop} {I l : Addr} {items : Array Value} (hh : A.handled = none) (hit : s.heap.IsRevIter I l ((items.size : Int) - 1)) (hl : s.heap.IsList l items) (hz : items.size ≤ sizeLine) (hIl : l ≠ I)
    (hQ : ∀ h' tk acc' c', (∀ b o, b ≠ I → s.heap.get? b = some o → h'.get? b = some o) → h'.get? s.heap.objs.size = some { cls := .type "list", dict := none, data := .seq acc' c', slots := #[] } →
      ItemsOf (fun i v => items[items.size - 1 - i]? = some v) acc' items.size → Q (.ref s.heap.objs.size) { s with heap := h', toks := tk }) :
    wpAny (model prog w) A (call (.type "list") [.ref I]) Q E s := by
  refine callType_codes (Q₁ := fun obj s₁ => obj = .ref s.heap.objs.size ∧ s₁ = { s with heap := s.heap.push { cls := .type "list", data := .seq #[] } }) F.called_list (F.typeCall_list_1 _) F.entry_list_init
    (code_list_new _ ⟨rfl, rfl⟩) fun obj s₁ h₁ => ?_
  obtain ⟨rfl, rfl⟩ := h₁
  have hS : (s.heap.push { cls := .type "list", data := .seq #[] }).get? s.heap.objs.size = some { cls := .type "list", data := .seq #[] } := Heap.get?_push_size _ rfl
  have lI : I < s.heap.objs.size := by obtain ⟨o, e, _⟩ := id hit; exact Heap.lt_size e
  have ll : l < s.heap.objs.size := by obtain ⟨o, e, _⟩ := id hl; exact Heap.lt_size e
  refine ⟨⟨_, hS, rfl⟩, F.args_list_init_2 _ _, list_init_rev (A := A.in1) hh (hit.at fun o e => Heap.get?_push_of_some _ e) (hl.push _) hz _ (Nat.ne_of_gt lI) (Nat.ne_of_gt ll) hIl hS fun h' tk acc' c' kp e i => ?_⟩
  exact ⟨rfl, hQ h' tk acc' c' (fun b o hb q => kp b o (Nat.ne_of_lt (Heap.lt_size q)) hb (Heap.get?_push_of_some _ q)) e i⟩
end
end L2X
namespace L2
open PySem PySem.Spec PyProof.Rows
/-! ### list(reversed(e)), e a list -/
def tRev (K : PySem.W.Frag) (te : TE) : TE := fun σ H Q => te σ H fun x H1 => ∃ a xs, x = .ref a ∧ SqL K H1 a xs ∧ ∀ l, H1 l = none → Q (.ref l) (upd H1 l (.lst xs.reverse))
theorem vals_rev {xs : List V} {us : List Value} (h : Vals xs us) : Vals xs.reverse us.reverse := by
  induction h with
  | nil => exact .nil
  | cons a _ ih =>
    rw [List.reverse_cons, List.reverse_cons]
    exact ih.append (.cons a .nil)
theorem bt_reversed : bootBuiltins "reversed" = some (.type "reversed") := boot_reversed
theorem pe_listrev {X : Cx} (K : PySem.W.Frag) {e : Expr} {te : TE} {p p2 pos pos2 : Pos} (hc : X.calm = true) (he : PE X e te) (hg1 : Gl X "list") (hm1 : X.mg "list" = none) (hg2 : Gl X "reversed") (hm2 : X.mg "reversed" = none)
    (hs : starEach [e] X.env = (false, eval e X.env) :: starEach [] X.env := by rfl) (hp : (backTo pos2 (starEach [] X.env)).any (·.1) = false := by rfl)
    (hs' : starEach [.Call (.Name "reversed" p2) [e] [] pos2] X.env = (false, eval (.Call (.Name "reversed" p2) [e] [] pos2) X.env) :: starEach [] X.env := by rfl) (hp' : (backTo pos (starEach [] X.env)).any (·.1) = false := by rfl) (hK : X.K = K := by rfl) :
    PE X (.Call (.Name "list" p) [.Call (.Name "reversed" p2) [e] [] pos2] [] pos) (tRev K te) := by
  subst hK
  intro pins s σ H Q I h
  refine wpAny_Call_Name_kw (ld_blt I hg1 hm1 bt_list ?_ (by decide) (by decide))
  refine PyProof.Rows.callWith_type1 ?_ hs' hp'
  rw [hs']
  show wpAny _ _ (spliced ((false, eval (.Call (.Name "reversed" p2) [e] [] pos2) X.env) :: backTo pos (starEach [] X.env))) _ _ s
  refine Calls.spliced_cons ?_
  refine wpAny_Call_Name_kw (ld_blt I hg2 hm2 bt_reversed ?_ (by decide) (by decide))
  refine PyProof.Rows.callWith_type1 ?_ hs hp
  rw [hs]
  show wpAny _ _ (spliced ((false, eval e X.env) :: backTo pos2 (starEach [] X.env))) _ _ s
  refine Calls.spliced_cons (thn (he pins s σ H _ I h) fun u s1 ⟨x, H1, I1, r1, a, xs, ex, hS, q⟩ => ?_)
  subst ex
  obtain rfl : u = Value.ref a := r1
  refine Calls.spliced_nil ?_
  obtain ⟨its, rv, pl, hz⟩ := I1.list hS
  have li := pl.isList
  have la : a < s1.heap.objs.size := by obtain ⟨o, e, _⟩ := id li; exact Heap.lt_size e
  refine call_reversed_list li ?_
  refine Calls.spliced_nil ?_
  have I2 : Inv X pins σ H1 { s1 with heap := s1.heap.push (revObj a ((its.toArray.size : Int) - 1)) } := I1.kept (t' := s1.toks) fun b o e => Heap.get?_push_of_some _ e
  have hl2 := li.push (revObj a ((its.toArray.size : Int) - 1))
  have len := rv.length
  refine L2X.call_list_rev (s := { s1 with heap := s1.heap.push (revObj a ((its.toArray.size : Int) - 1)) }) (items := its.toArray) (I.ok.hd hc) ⟨_, Heap.get?_push_size _ rfl, rfl, rfl⟩ hl2 (by rw [List.size_toArray]; omega) (Nat.ne_of_lt la) fun h' tk acc' c' kp e i => ?_
  have hsz : ((s1.heap.push (revObj a ((its.toArray.size : Int) - 1))).objs.size) = s1.heap.objs.size + 1 := Heap.size_push _ _
  have ea : acc' = its.reverse.toArray := by
    apply Array.toList_inj.mp
    apply List.ext_getElem?
    intro j
    have i1 : acc'.toList.length = its.length := by have := i.1; simpa using this
    by_cases hj : j < its.length
    · have hj' : j < acc'.size := by have := i.1; have e2 : its.toArray.size = its.length := List.size_toArray; omega
      have g := i.2 j acc'[j] (by simp [hj'])
      rw [List.size_toArray] at g
      have g' : its[its.length - 1 - j]? = some acc'[j] := by simpa using g
      rw [List.getElem?_reverse hj, g']
      simp [hj']
    · rw [List.getElem?_eq_none (by omega), List.getElem?_eq_none (by simp; omega)]
  have kp0 : ∀ b o, s1.heap.get? b = some o → h'.get? b = some o := fun b o q => kp b o (Nat.ne_of_lt (Heap.lt_size q)) (Heap.get?_push_of_some _ q)
  refine ⟨.ref _, _, I1.laid (t' := tk) kp0 (by rw [hsz]; exact Nat.le_succ _) (show ObjOk X.prog X.w _ h' _ (.lst xs.reverse) from ⟨by rw [List.length_reverse]; exact hz, its.reverse, c', vals_rev rv, by rw [← ea]; exact e⟩), rfl, q _ (I1.hok.fresh (by rw [hsz]; exact Nat.le_succ _))⟩
end L2

end

section
namespace L2
open PySem PySem.Spec PyProof.Rows PySem.W
/-! ### sorted of pairs of a deed and a number -/
abbrev D4 := D3 × Int
def lt4 (p q : D4) : Bool := decide (p.1.1 < q.1.1 ∨ (p.1.1 = q.1.1 ∧ (p.1.2.1 < q.1.2.1 ∨ (p.1.2.1 = q.1.2.1 ∧ (p.1.2.2 < q.1.2.2 ∨ (p.1.2.2 = q.1.2.2 ∧ p.2 < q.2))))))
theorem lt4_iff {p q : D4} : lt4 p q = true ↔ (p.1.1 < q.1.1 ∨ (p.1.1 = q.1.1 ∧ (p.1.2.1 < q.1.2.1 ∨ (p.1.2.1 = q.1.2.1 ∧ (p.1.2.2 < q.1.2.2 ∨ (p.1.2.2 = q.1.2.2 ∧ p.2 < q.2)))))) := decide_eq_true_iff
theorem lt4_no {p q : D4} : lt4 p q = false ↔ ¬ (p.1.1 < q.1.1 ∨ (p.1.1 = q.1.1 ∧ (p.1.2.1 < q.1.2.1 ∨ (p.1.2.1 = q.1.2.1 ∧ (p.1.2.2 < q.1.2.2 ∨ (p.1.2.2 = q.1.2.2 ∧ p.2 < q.2)))))) := decide_eq_false_iff_not
theorem lt4_asy {d e : D4} (h : lt4 d e = true) : lt4 e d = false := by rw [lt4_iff] at h; rw [lt4_no]; omega
theorem lt4_tr {d e f : D4} (h1 : lt4 e d = false) (h2 : lt4 f e = false) : lt4 f d = false := by rw [lt4_no] at h1 h2 ⊢; omega
theorem lt4_anti {d e : D4} (h1 : lt4 e d = false) (h2 : lt4 d e = false) : d = e := by
  rw [lt4_no] at h1 h2
  obtain ⟨⟨a, b, c⟩, n⟩ := d
  obtain ⟨⟨a', b', c'⟩, n'⟩ := e
  dsimp only at h1 h2
  have e1 : a = a' := by omega
  have e2 : b = b' := by omega
  have e3 : c = c' := by omega
  have e4 : n = n' := by omega
  rw [e1, e2, e3, e4]
def le4 (d e : D4) : Bool := !lt4 e d
def srt4 (ds : List D4) : List D4 := ds.mergeSort le4
theorem srt4_perm (ds : List D4) : (srt4 ds).Perm ds := List.mergeSort_perm ds le4
theorem srt4_rises (ds : List D4) : (srt4 ds).Pairwise fun d e => lt4 e d = false := by
  refine List.Pairwise.imp ?_ (List.pairwise_mergeSort (le := le4) ?_ ?_ ds)
  · intro a b h
    simpa [le4] using h
  · intro a b c h1 h2
    have h1' : lt4 b a = false := by simpa [le4] using h1
    have h2' : lt4 c b = false := by simpa [le4] using h2
    show (!lt4 c a) = true
    rw [lt4_tr h1' h2']; rfl
  · intro a b
    unfold le4
    cases h : lt4 b a with
    | false => rfl
    | true => rw [lt4_asy h]; rfl
theorem srt4_uniq {ds es : List D4} (p : es.Perm ds) (r : es.Pairwise fun d e => lt4 e d = false) : es = srt4 ds :=
  List.Perm.eq_of_pairwise (fun _ _ _ _ h h' => lt4_anti h h') r (srt4_rises ds) (p.trans (srt4_perm ds).symm)
theorem srt4_of_perm {ds es : List D4} (p : ds.Perm es) : srt4 ds = srt4 es := srt4_uniq ((srt4_perm ds).trans p) (srt4_rises ds)
theorem srt4_length (ds : List D4) : (srt4 ds).length = ds.length := (srt4_perm ds).length_eq
def P4 (H : Hp) (v : V) (p : D4) : Prop := ∃ q x, v = .ref q ∧ H q = some (.tup [x, .int p.2]) ∧ T3 H x p.1
theorem P4.same {H H' : Hp} {v : V} {p : D4} (S : Same H H') (h : P4 H v p) : P4 H' v p := let ⟨q, x, e, g, t⟩ := h; ⟨q, x, e, S _ _ g, t.same S⟩
theorem P4.wr {H : Hp} {l : Addr} {xs ys : List V} {v : V} {p : D4} (hl : H l = some (.lst xs)) (h : P4 H v p) : P4 (upd H l (.lst ys)) v p := let ⟨q, x, e, g, t⟩ := h
  ⟨q, x, e, by rw [upd_ne (ne_of g hl (by intro z; cases z))]; exact g, t.wr hl⟩
theorem stab_P4 : Stab P4 := ⟨fun S h => h.same S, fun hl h => h.wr hl⟩
def LP (H : Hp) (a : Addr) (ps : List D4) : Prop := ∃ vs, H a = some (.lst vs) ∧ Paired (P4 H) vs ps
def dQ4 (p : D4) : PyData := .tuple [dD p.1, .int p.2]
theorem enc_dQ4 : Enc dQ4 2 := by
  refine ⟨fun x y => ?_, fun x => ?_⟩
  · have e : PyData.eqv (dQ4 x) (dQ4 y) = (PyData.eqv (dD x.1) (dD y.1) && (PyData.eqv (.int x.2) (.int y.2) && true)) := by
      unfold dQ4
      simp only [PyData.eqv, PyData.eqvAll]
    rw [e, Bool.and_true, Bool.and_eq_true, enc_dD.inj, enc_int.inj]
    obtain ⟨a, b⟩ := x
    obtain ⟨a', b'⟩ := y
    simp
  · have h1 := enc_dD.dep x.1
    show Nat.succ (max (dD x.1).depth (max 0 0)) ≤ 2
    omega
theorem P4.dat {H : Hp} {v : V} {p : D4} (h : P4 H v p) : Dat H v (dQ4 p) := let ⟨q, x, e, g, t⟩ := h; e ▸ .tup g (.cons t.dat (.cons (.int _) .nil))
def dLP (ps : List D4) : PyData := .list (ps.map dQ4)
theorem enc_dLP : Enc dLP 3 := enc_list enc_dQ4
theorem LP.dat {H : Hp} {r : Addr} {ps : List D4} (h : LP H r ps) : Dat H (.ref r) (dLP ps) := let ⟨_, e, p⟩ := h; .lst e (DatAll.map (fun _ _ z => P4.dat z) p)
theorem LP.same {H H' : Hp} {a : Addr} {ps : List D4} (S : Same H H') (h : LP H a ps) : LP H' a ps := let ⟨vs, e, p⟩ := h; ⟨vs, S _ _ e, stab_P4.list S p⟩
theorem lex3 (a b c a' b' c' : Int) : HT.lexLt [a, b, c] [a', b', c'] = ltB (a, b, c) (a', b', c') := by
  show (if a = a' then (if b = b' then (if c = c' then false else decide (c < c')) else decide (b < b')) else decide (a < a')) = _
  unfold ltB
  dsimp only
  by_cases h1 : a = a'
  · rw [if_pos h1]
    by_cases h2 : b = b'
    · rw [if_pos h2]
      by_cases h3 : c = c'
      · rw [if_pos h3, eq_comm, decide_eq_false_iff_not]; omega
      · rw [if_neg h3, decide_eq_decide]; omega
    · rw [if_neg h2, decide_eq_decide]; omega
  · rw [if_neg h1, decide_eq_decide]; omega
section
variable {prog : Program} {w : World} {A : Around} {E : Value → Shared → Prop} {s : Shared}
def In3 (h : Heap) (x : Addr) (d : D3) : Prop := ∃ t1 t2 t3, IsTup h x #[.int d.1 t1, .int d.2.1 t2, .int d.2.2 t3]
theorem eq_in3 {x y : Addr} {d e : D3} (hu : A.units + 8 < cLine) (hx : In3 s.heap x d) (hy : In3 s.heap y e) : SeqAt.EqAt A s (.ref x) (.ref y) (decide (d = e)) := by
  obtain ⟨t1, t2, t3, ox, gx, cx, nx, dx⟩ := hx
  obtain ⟨u1, u2, u3, oy, gy, cy, ny, dy⟩ := hy
  have rx : Reads s.heap (.ref x) (dD d) _ := .tuple gx cx dx (.cons (.int _ _) (.cons (.int _ _) (.cons (.int _ _) .nil)))
  have ry : Reads s.heap (.ref y) (dD e) _ := .tuple gy cy dy (.cons (.int _ _) (.cons (.int _ _) (.cons (.int _ _) .nil)))
  have := eqAt_eR (A := A) rx rfl ry rfl (by have := enc_dD.dep e; omega)
  rw [eR_eq rx rfl, enc_dD.dec] at this
  exact this
theorem lt_pair {z z' x y : Addr} {d e : D3} {n n' : Int} {t u : Tok} {C : Bool → Shared → Prop} (hu : A.units + 8 < cLine) (hz : IsTup s.heap z #[.ref x, .int n t]) (hz' : IsTup s.heap z' #[.ref y, .int n' u]) (hx : In3 s.heap x d) (hy : In3 s.heap y e) (h : C (lt4 (d, n) (e, n')) s) :
    wpAny (model prog w) A (keyLt' (tuples' false) (.ref z) (.ref z')) C (fun _ _ => False) s := by
  obtain ⟨oz, gz, _, nz, dz⟩ := hz
  obtain ⟨oz', gz', _, nz', dz'⟩ := hz'
  refine kat_lt gz dz gz' dz' ?_
  show KatLex prog w A false _ C [(.ref x, .ref y), (.int n t, .int n' u)] 0 s
  refine kat_cons (eq_in3 hu hx hy prog w _ _ ?_)
  refine kat_go (fun e1 => kat_yes ?_) (fun e1 => kat_no ?_)
  · have e1' : d = e := of_decide_eq_true e1
    subst e1'
    refine kat_cons (SeqAt.EqAt.int_int n t n' u prog w _ _ ?_)
    refine kat_go (fun e2 => kat_yes (kat_nil ?_)) (fun e2 => kat_no ?_)
    · have e2' : n = n' := by simpa using e2
      have q : lt4 (d, n) (d, n') = false := by rw [lt4_no]; dsimp only; omega
      rw [q] at h
      exact h
    · refine kat_one _ _ (lt_int ?_)
      have q : lt4 (d, n) (d, n') = decide (n < n') := by
        by_cases c : n < n'
        · rw [decide_eq_true c, lt4_iff]; dsimp only; omega
        · rw [decide_eq_false c, lt4_no]; dsimp only; omega
      rw [q] at h
      exact h
  · have e1' : d ≠ e := of_decide_eq_false e1
    obtain ⟨t1, t2, t3, px⟩ := hx
    obtain ⟨u1, u2, u3, py⟩ := hy
    refine kat_one _ _ (HT.lt_tupInts (ns := [d.1, d.2.1, d.2.2]) (ms := [e.1, e.2.1, e.2.2]) px py (.cons _ _ (.cons _ _ (.cons _ _ .nil))) (.cons _ _ (.cons _ _ (.cons _ _ .nil))) (by omega) ?_)
    rw [lex3]
    have q : lt4 (d, n) (e, n') = ltB (d.1, d.2.1, d.2.2) (e.1, e.2.1, e.2.2) := by
      have hne : ¬ (d.1 = e.1 ∧ d.2.1 = e.2.1 ∧ d.2.2 = e.2.2) := fun z => e1' (by
        obtain ⟨a, b, c⟩ := d
        obtain ⟨a', b', c'⟩ := e
        obtain ⟨z1, z2, z3⟩ := z
        dsimp only at z1 z2 z3
        rw [z1, z2, z3])
      unfold lt4 ltB
      rw [decide_eq_decide]
      dsimp only
      omega
    rw [q] at h
    exact h
/-- the values are pairs of a tuple of three ints and an int -/
def Tri4 (h : Heap) : List Value → List D4 → Prop := Paired fun v p => ∃ z x t, v = .ref z ∧ IsTup h z #[.ref x, .int p.2 t] ∧ In3 h x p.1
theorem IsTup.keepL {h h' : Heap} {l x : Addr} {its : Array Value} (hk : ∀ b o, b ≠ l → h.get? b = some o → h'.get? b = some o) (hl : ∃ o, h.get? l = some o ∧ o.cls = .type "list") (t : IsTup h x its) : IsTup h' x its := by
  obtain ⟨o, g, cc, n, dd⟩ := t
  refine ⟨o, hk x o ?_ g, cc, n, dd⟩
  rintro rfl
  obtain ⟨o', g', c'⟩ := hl
  rw [g] at g'
  cases g'
  exact absurd (cc.symm.trans c') (by simp)
theorem Tri4.keep {h h' : Heap} {l : Addr} (hk : ∀ b o, b ≠ l → h.get? b = some o → h'.get? b = some o) (hl : ∃ o, h.get? l = some o ∧ o.cls = .type "list") {vs : List Value} {ds : List D4} (t : Tri4 h vs ds) : Tri4 h' vs ds := by
  refine Paired.mapP t ?_
  rintro v d ⟨z, x, t, rfl, p, t1, t2, t3, i⟩
  exact ⟨z, x, t, rfl, IsTup.keepL hk hl p, t1, t2, t3, IsTup.keepL hk hl i⟩
theorem Tri4.firsts {h : Heap} : ∀ {vs : List Value} {ds : List D4}, Tri4 h vs ds → ∃ fs, KatTups h vs fs ∧ fs.length = vs.length ∧ ∀ v ∈ fs, ∃ x o, v = .ref x ∧ h.get? x = some o ∧ o.cls = .type "tuple"
  | _, _, .nil => ⟨[], KatTups.nil, rfl, (fun _ z => nomatch z)⟩
  | _, _, .cons ⟨z, x, tk, e, ⟨o, g, cc, n, dd⟩, t1, t2, t3, o', g', c', _⟩ t => by
    subst e
    obtain ⟨fs, k, l, q⟩ := Tri4.firsts t
    refine ⟨_, KatTups.cons (f := .ref x) g cc dd rfl k, congrArg Nat.succ l, fun v hv => ?_⟩
    rcases List.mem_cons.mp hv with rfl | hv
    · exact ⟨_, _, rfl, g', c'⟩
    · exact q v hv
theorem tri_lt4 {vs : List Value} {ds : List D4} (t : Tri4 s.heap vs ds) (hu : A.units + 8 < cLine) {i j : Nat} (hi : i < vs.length) (hj : j < vs.length) {C : Bool → Shared → Prop} (h : C (lt4 (ds.getD i ((0, 0, 0), 0)) (ds.getD j ((0, 0, 0), 0))) s) : kas_ask prog w A (tuples' false) vs i j C s := by
  obtain ⟨⟨d, n⟩, gd, z, x, t1, ez, pz, ix⟩ := Paired.getL t (List.getElem?_eq_getElem hi)
  obtain ⟨⟨e, n'⟩, ge, z', y, t2, ez', pz', iy⟩ := Paired.getL t (List.getElem?_eq_getElem hj)
  unfold kas_ask
  rw [List.getD_eq_getElem?_getD, List.getElem?_eq_getElem hi, List.getD_eq_getElem?_getD, List.getElem?_eq_getElem hj]
  show wpAny _ _ (keyLt' _ vs[i] vs[j]) _ _ _
  rw [ez, ez']
  refine lt_pair hu pz pz' ix iy ?_
  rw [List.getD_eq_getElem?_getD, List.getD_eq_getElem?_getD, gd, ge] at h
  exact h
theorem sort_body4 {a : Addr} {vs : List Value} {ds : List D4} {n : Nat} {P : Fin → Shared → Prop} (ho : s.heap.get? a = some (seqObj "list" vs.toArray n)) (t : Tri4 s.heap vs ds) (h64 : vs.length < 64) (hu : A.units + 8 < cLine)
    (h : ∀ p : Array Nat, Prm vs.length p → Srt (fun i j => lt4 (ds.getD i ((0, 0, 0), 0)) (ds.getD j ((0, 0, 0), 0))) p vs.length → P (.done (.ret .none)) { s with heap := sortedHeap s.heap a vs (p.toList.map fun i => vs.getD i Value.none).toArray }) :
    wpAny (model prog w) A (Builtin.«list.sort» ⟨[.ref a], []⟩) P E s := by
  rw [list_sort_plain]
  have la : a < s.heap.objs.size := Heap.lt_size ho
  have hz : vs.length ≤ sizeLine := by rw [sizeLine_eq]; omega
  refine wpAny_bind (listItems_at ho rfl (wpAny_bind (listUpdate_at ho rfl ?_ (by rw [List.size_toArray]; exact hz) (Nat.zero_le _))))
  obtain ⟨e1, o1⟩ : ∃ e1, (s.heap.update a (Obj.mapSeq fun _ => #[])).get? a = some (seqObj "list" #[] e1) := ⟨_, get?_update_seq ho (fun _ => #[])⟩
  refine wpAny_bind (seqEpoch_at o1 rfl (wpAny_bind (wpAny_newTuple (wpAny_bind (wpAny_newList (wpAny_holding ?_) (Nat.zero_le _))) (by show vs.length ≤ _; exact hz))))
  have o6 : (((s.heap.update a (Obj.mapSeq fun _ => #[])).push (seqObj "tuple" vs.toArray 0)).push (seqObj "list" #[] 0)).get? a = some (seqObj "list" #[] e1) := Heap.get?_push_of_some _ (Heap.get?_push_of_some _ o1)
  have kp : ∀ b o, b ≠ a → s.heap.get? b = some o → (((s.heap.update a (Obj.mapSeq fun _ => #[])).push (seqObj "tuple" vs.toArray 0)).push (seqObj "list" #[] 0)).get? b = some o := fun b o hb e =>
    Heap.get?_push_of_some _ (Heap.get?_push_of_some _ ((Heap.get?_update_other _ _ (Ne.symm hb)).trans e))
  show wpAny (model prog w) A _ P E { s with heap := ((s.heap.update a (Obj.mapSeq fun _ => #[])).push (seqObj "tuple" vs.toArray 0)).push (seqObj "list" #[] 0) }
  have t6 := t.keep kp ⟨_, ho, rfl⟩
  dsimp only
  by_cases h2 : vs.toArray.size < 2
  · have hv : vs.length < 2 := by simpa using h2
    rw [if_pos h2, if_pos h2]
    refine wpAny_bind (wpAny_pure ?_)
    rw [StateT.run_pure]
    refine wpAny_bind (wpAny_pure (wpAny_bind (seqEpoch_at o6 rfl (wpAny_bind (listUpdate_at o6 rfl ?_ (Nat.zero_le _) ?_)))))
    · have f := h (List.range vs.length).toArray (Array.Perm.refl _) fun i j hij hj => by
        have : i = j := by omega
        subst this
        exact (lt4_no.mpr (by omega))
      have eo : (((List.range vs.length).toArray).toList.map fun i => vs.getD i Value.none).toArray = (Array.zip vs.toArray vs.toArray).map (·.2) := by
        match vs, hv with
        | [], _ => simp
        | [_], _ => simp
      rw [eo] at f
      simp only [bne_self_eq_false, Bool.false_eq_true, if_false]
      exact wpAny_pure f
    · rw [Array.size_map, Array.size_zip, Nat.min_self, List.size_toArray]; omega
  · have hv : 2 ≤ vs.length := by
      rw [List.size_toArray] at h2
      omega
    rw [if_neg h2, if_neg h2]
    obtain ⟨fs, kt, kl, ki⟩ := t6.firsts
    refine wpAny_bind (kat_kind (T := .type "tuple") kt (by omega) (fun v hv => ?_) rfl ?_)
    · obtain ⟨x, o, rfl, ho, hc⟩ := ki v hv
      exact hc ▸ (Looks.ld ho).andThen .now
    have ek : tuples' ((Value.type "tuple") != Value.type "tuple") = tuples' false := by
      have : ((Value.type "tuple") != Value.type "tuple") = false := by simp
      rw [this]
    rw [ek]
    have O : LtOk (fun i j => lt4 (ds.getD i ((0, 0, 0), 0)) (ds.getD j ((0, 0, 0), 0))) := ⟨fun i j => lt4_asy, fun i j k => lt4_tr⟩
    refine wpAny_bind (wpAny_mono (kat_run (vs := vs) (ks := vs) (κ := tuples' false) (Q := fun st' s' => s' = { s with heap := ((s.heap.update a (Obj.mapSeq fun _ => #[])).push (seqObj "tuple" vs.toArray 0)).push (seqObj "list" #[] 0) } ∧ failedOf st' = none ∧ ∃ p : Array Nat, Prm vs.length p ∧ Srt (fun i j => lt4 (ds.getD i ((0, 0, 0), 0)) (ds.getD j ((0, 0, 0), 0))) p vs.length ∧ arrOf st' = p.map (kas_item (vs.toArray.zip vs.toArray)))
      (G := fun p s' => s' = { s with heap := ((s.heap.update a (Obj.mapSeq fun _ => #[])).push (seqObj "tuple" vs.toArray 0)).push (seqObj "list" #[] 0) } ∧ Prm vs.length p ∧ Srt (fun i j => lt4 (ds.getD i ((0, 0, 0), 0)) (ds.getD j ((0, 0, 0), 0))) p vs.length)
      rfl hv h64 (fun p st' s' _ a2 a3 ⟨z1, z2, z3⟩ => ⟨z1, a3, p, z2, z3, a2⟩) (Gd.wp (fun i j C hi hj hc => tri_lt4 t6 (by omega) hi hj hc) (fun p ⟨z2, z3⟩ => ⟨rfl, z2, z3⟩) (sort_ok O (by omega)))) ?_ fun _ _ e => e)
    rintro ⟨⟨⟩, st'⟩ s' ⟨rfl, hf, p, hP, hS, har⟩
    dsimp only
    have hout := kat_snds (vs := vs) (ks := vs) rfl har
    refine wpAny_bind (seqEpoch_at o6 rfl (wpAny_bind (listUpdate_at o6 rfl ?_ (Nat.zero_le _) ?_)))
    · rw [hf]
      simp only [bne_self_eq_false, Bool.false_eq_true, if_false]
      rw [hout]
      exact wpAny_pure (h p hP hS)
    · rw [hout, List.size_toArray, List.length_map, Array.length_toList, hP.size]; omega
theorem call_sorted4 {l : Addr} {vs : List Value} {ds : List D4} {Q : Value → Shared → Prop} (hl : s.heap.IsList l vs.toArray) (t : Tri4 s.heap vs ds) (h64 : vs.length < 64) (hu : A.units + 16 < cLine)
    (h : ∀ p : Array Nat, Prm vs.length p → Srt (fun i j => lt4 (ds.getD i ((0, 0, 0), 0)) (ds.getD j ((0, 0, 0), 0))) p vs.length → Q (.ref (s.heap.objs.size + 1)) { s with heap := sortedAll s.heap vs (p.toList.map fun i => vs.getD i Value.none).toArray }) :
    wpAny (model prog w) A (call (.builtin "sorted") [.ref l]) Q E s := by
  refine Calls.call_function_entry kind_sorted plain_sorted entry_sorted (args_sorted1 _) ?_
  unfold Builtin.«sorted»
  have hz : vs.length ≤ sizeLine := by rw [sizeLine_eq]; omega
  refine wpAny_bind (m := checkCount "sorted" 1 1 _) (wpAny_pure (wpAny_bind (collect_list hl (wpAny_bind (wpAny_newList ?_ hz)) hz)))
  have hs1 : ((s.heap.push (seqObj "list" #[] 0)).update s.heap.objs.size (Obj.mapSeq (· ++ vs.toArray))).objs.size = s.heap.objs.size + 1 := by rw [Heap.size_update, size_push']
  have kp : ∀ b o, s.heap.get? b = some o → (((s.heap.push (seqObj "list" #[] 0)).update s.heap.objs.size (Obj.mapSeq (· ++ vs.toArray))).push (seqObj "list" vs.toArray 0)).get? b = some o := fun b o e =>
    Heap.get?_push_of_some _ ((Heap.get?_update_other _ _ (Nat.ne_of_gt (Heap.lt_size e))).trans (Heap.get?_push_of_some _ e))
  have hL : (((s.heap.push (seqObj "list" #[] 0)).update s.heap.objs.size (Obj.mapSeq (· ++ vs.toArray))).push (seqObj "list" vs.toArray 0)).get? (s.heap.objs.size + 1) = some (seqObj "list" vs.toArray 0) := by
    rw [← hs1]; exact Heap.get?_push_size _ rfl
  show wpAny _ _ _ _ _ { s with heap := ((s.heap.push (seqObj "list" #[] 0)).update s.heap.objs.size (Obj.mapSeq (· ++ vs.toArray))).push (seqObj "list" vs.toArray 0) }
  rw [hs1]
  obtain ⟨ol, gl, cl, _⟩ := hl
  have t' : Tri4 (((s.heap.push (seqObj "list" #[] 0)).update s.heap.objs.size (Obj.mapSeq (· ++ vs.toArray))).push (seqObj "list" vs.toArray 0)) vs ds := t.keep (l := l) (fun b o _ e => kp b o e) ⟨ol, gl, cl⟩
  refine wpAny_bind (wpAny_holding (wpAny_call_entry slot_list_sort ⟨_, hL, rfl⟩ entry_list_sort (sort_body4 (s := { s with heap := ((s.heap.push (seqObj "list" #[] 0)).update s.heap.objs.size (Obj.mapSeq (· ++ vs.toArray))).push (seqObj "list" vs.toArray 0) }) hL t' h64 (by have := in1_units (A := A); have := in1_units (A := A.in1); omega) fun p hP hS => ⟨_, rfl, ?_⟩) (args_list_sort _)))
  have z := h p hP hS
  unfold sortedAll at z
  refine wpAny_pure ⟨_, rfl, ?_⟩
  dsimp only
  exact z
end
/-! ### the rule -/
def rSortedP : List V → Hp → VK → Prop := fun xs H Q => ∃ a ds, xs = [.ref a] ∧ LP H a ds ∧ ds.length < 64 ∧ ∀ r vs, H r = none → Paired (P4 H) vs (srt4 ds) → Q (.ref r) (upd H r (.lst vs))
theorem Inv.in3 {X : Cx} {pins : List (Addr × Obj)} {σ : St} {H : Hp} {s : Shared} (I : Inv X pins σ H s) {x : Addr} {d : D3} (ex : H x = some (.tup (tupV d))) : In3 s.heap x d := by
  obtain ⟨_, tv, trv, tup⟩ := I.hok x _ ex
  unfold tupV at trv
  obtain ⟨u1, r1, e1, q1, trv⟩ := vals_cons trv
  obtain ⟨u2, r2, e2, q2, trv⟩ := vals_cons trv
  obtain ⟨u3, r3, e3, q3, trv⟩ := vals_cons trv
  cases trv
  obtain ⟨t1, rfl⟩ := q1
  obtain ⟨t2, rfl⟩ := q2
  obtain ⟨t3, rfl⟩ := q3
  subst e3 e2 e1
  exact ⟨t1, t2, t3, tup⟩
theorem Inv.tri4 {X : Cx} {pins : List (Addr × Obj)} {σ : St} {H : Hp} {s : Shared} (I : Inv X pins σ H s) : ∀ {vs : List V} {its : List Value} {ds : List D4}, Vals vs its → Paired (P4 H) vs ds → Tri4 s.heap its ds
  | _, _, _, .nil, .nil => .nil
  | _, _, _, .cons r1 r2, .cons p1 p2 => by
    refine .cons ?_ (Inv.tri4 I r2 p2)
    obtain ⟨z, x, e, ez, xx, rfl, ex⟩ := p1
    subst e
    have e2 := r1
    unfold RelV at e2
    subst e2
    obtain ⟨_, tv, trv, tup⟩ := I.hok z _ ez
    obtain ⟨u1, r1, e1, q1, trv⟩ := vals_cons trv
    obtain ⟨u2, r2, e2, q2, trv⟩ := vals_cons trv
    cases trv
    obtain ⟨t2, rfl⟩ := q2
    have q1' : u1 = Value.ref xx := q1
    subst q1' e2 e1
    exact ⟨z, xx, t2, rfl, tup, I.in3 ex⟩
theorem call_sortedP {X : Cx} (hu : X.A.units + 64 < cLine) : CallR X (.builtin "sorted") rSortedP := by
  intro pins s σ H xs us Q I r h
  obtain ⟨a, ds, rfl, ⟨vs, ha, pr⟩, h64, q⟩ := h
  obtain ⟨u, rfl, ru⟩ := vals1 r
  have ru' : u = Value.ref a := ru
  subst ru'
  obtain ⟨hz, its, n, rv, hlen, g⟩ := I.lstM ha
  have hl0 := Paired.length pr
  refine call_sorted4 (ds := ds) (vs := its) ⟨_, g, rfl, _, rfl⟩ (I.tri4 rv pr) (by omega) (by omega) fun p hP hS => ?_
  have e2 : ∀ i ∈ p.toList, i < vs.length := fun i hi => by
    have := (Array.Perm.mem_iff hP).mp (Array.mem_toList_iff.mp hi)
    have : i < its.length := by simpa using this
    omega
  have pv := pick_paired pr V.non ((0, 0, 0), 0) p.toList e2
  have pu := pick_paired rv V.non Value.none p.toList e2
  have es : (p.toList.map fun i => ds.getD i ((0, 0, 0), 0)) = srt4 ds := by
    refine srt4_uniq (pick_perm hP ds _ (by omega)) ?_
    rw [List.pairwise_map, List.pairwise_iff_getElem]
    intro i j hi hj hij
    have hs := hP.size
    have hi' : i < p.size := by simpa using hi
    have hj' : j < p.size := by simpa using hj
    have ei : p.toList[i] = p.getD i 0 := by simp [Array.getD, hi']
    have ej : p.toList[j] = p.getD j 0 := by simp [Array.getD, hj']
    rw [ei, ej]
    exact hS i j (Nat.le_of_lt hij) (by omega)
  rw [es] at pv
  generalize hvs : (p.toList.map fun i => vs.getD i V.non) = vs' at pv pu
  generalize hits : (p.toList.map fun i => its.getD i Value.none) = its' at pu ⊢
  obtain ⟨e, ge⟩ := sortedAll_at s.heap its its'.toArray
  have hlen' : vs'.length ≤ sizeLine := by rw [Paired.length pv, srt4_length]; omega
  have J : Inv X pins σ (upd H (s.heap.objs.size + 1) (.lst vs')) { s with heap := sortedAll s.heap its its'.toArray, toks := s.toks } :=
    I.laid (h' := sortedAll s.heap its its'.toArray) (fun b o q => sortedAll_old q) (Nat.le_succ _) ⟨hlen', its', e, pu, ge⟩
  exact ⟨.ref (s.heap.objs.size + 1), _, J, rfl, q _ _ (I.hok.fresh (Nat.le_succ _)) pv⟩
end L2

end

section
namespace L2
open PySem PySem.Spec PyProof.Rows
/-! ### alike diaries do the same -/
theorem bit_test {n : Int} (h : 0 ≤ n) (k : Nat) : bit n k = n.toNat.testBit k := by
  obtain ⟨m, rfl⟩ := Int.eq_ofNat_of_zero_le h
  unfold bit
  rw [Int.toNat_natCast, Nat.testBit_eq_decide_div_mod_eq, decide_eq_decide]
  have e : ((m : Int) / 2 ^ k % 2) = ((m / 2 ^ k % 2 : Nat) : Int) := by
    rw [Int.natCast_emod, Int.natCast_ediv]
    simp
  rw [e]
  omega
theorem dist_bits {d e : D3} (hd : okD d) (he : okD e) (h : distB d e = false) (k : Nat) : chD d k = true → lkD e k = false ∧ chD e k = false := by
  intro hc
  have h0 : Builtin.bitAnd d.2.2 (Builtin.bitOr e.2.1 e.2.2) = 0 := by
    unfold distB at h
    have := of_decide_eq_true (Bool.not_eq_false' .. ▸ h : decide (V.int (Builtin.bitAnd d.2.2 (Builtin.bitOr e.2.1 e.2.2)) = V.int 0) = true)
    injection this
  rw [bitOr_pp he.1.1 he.2.1, bitAnd_pp hd.2.1 (Int.natCast_nonneg _)] at h0
  have h1 : d.2.2.toNat &&& (e.2.1.toNat ||| e.2.2.toNat) = 0 := by
    rw [Int.toNat_natCast] at h0
    omega
  have h2 : (d.2.2.toNat &&& (e.2.1.toNat ||| e.2.2.toNat)).testBit k = false := by rw [h1]; exact Nat.zero_testBit k
  rw [Nat.testBit_and, Nat.testBit_or] at h2
  unfold chD at hc ⊢
  unfold lkD
  rw [bit_test hd.2.1] at hc
  rw [bit_test he.1.1, bit_test he.2.1]
  rw [hc, Bool.true_and, Bool.or_eq_false_iff] at h2
  exact h2
theorem nc_of {d e : D3} (hd : okD d) (he : okD e) (h : clashB d e = false) : Nc lkD chD d e := by
  unfold clashB at h
  rw [Bool.or_eq_false_iff] at h
  exact fun k => ⟨dist_bits hd he h.1 k, fun z => (dist_bits he hd h.2 k z).1⟩
theorem lk_done {n : Nat} : ∀ {xs ys : List D3}, Lk clashB xs ys → (∀ d ∈ xs, okD d) → ∀ σ, finD n xs σ = finD n ys σ ∧ (xs.zip (wdsD n xs σ)).Perm (ys.zip (wdsD n ys σ)) := by
  intro xs ys h
  induction h with
  | nil => intro _ σ; exact ⟨rfl, .refl _⟩
  | @cons l1 l2 ys b _ hcl _ ih =>
    intro ok σ
    have okb := ok b (by simp)
    have hb : ∀ a ∈ l1, Nc lkD chD a b := fun a ha => nc_of (ok a (by simp [ha])) okb (hcl a ha)
    obtain ⟨w1, wb, w2, e1, e2, e3, e4⟩ := bring_wds (nm := nmD) (n := n) (l2 := l2) σ hb
    have e2' : wdsD n (b :: (l1 ++ l2)) σ = sayD n b σ :: wdsD n (l1 ++ l2) (stpD n b σ) := rfl
    have e2'' : sayD n b σ :: wdsD n (l1 ++ l2) (stpD n b σ) = wb :: (w1 ++ w2) := e2'.symm.trans e2
    injection e2'' with q1 q2
    obtain ⟨i1, i2⟩ := ih (fun d hd => ok d (by
      rcases List.mem_append.mp hd with hd | hd
      · simp [hd]
      · simp [hd])) (stpD n b σ)
    refine ⟨?_, ?_⟩
    · show fin nmD lkD chD n (l1 ++ b :: l2) σ = fin nmD lkD chD n ys (stpD n b σ)
      rw [e4]
      exact i1
    · have z1 : (l1 ++ b :: l2).zip (wdsD n (l1 ++ b :: l2) σ) = l1.zip w1 ++ (b, wb) :: l2.zip w2 := by
        show (l1 ++ b :: l2).zip (wds nmD lkD chD n (l1 ++ b :: l2) σ) = _
        rw [e1, List.zip_append e3.symm]
        rfl
      have z2 : (b :: ys).zip (wdsD n (b :: ys) σ) = (b, wb) :: ys.zip (wdsD n ys (stpD n b σ)) := by
        show (b :: ys).zip (sayD n b σ :: wdsD n ys (stpD n b σ)) = _
        rw [q1]
        rfl
      rw [z1, z2]
      refine List.perm_middle.trans (.cons _ ?_)
      rw [← List.zip_append e3.symm, ← q2]
      exact i2
theorem rows_lk {ds : List D3} {rs : List (List D3)} (R : RowsOk clashB ds rs) : Lk clashB ds rs.flatten := by
  have P := rows_perm clashB clash_comm R
  have Q : ds.Perm rs.flatten := by
    have := P.map (·.1)
    have e : ∀ l : List D3, (hp clashB l).map (·.1) = l := fun l => hp_fst clashB l
    rwa [e, e] at this
  obtain ⟨f, M⟩ := mate_ex (xs := ds) (ys := rs.flatten) fun a => Nat.le_of_eq (@List.Perm.count_eq D3 instBEqOfDecidableEq _ _ Q a)
  exact Kept.lk clashB M Q.length_eq (perm_kept clashB clash_comm P M)
/-- the deeds of ps, each with the place that it had in ds, do the same -/
structure PQ (n : Nat) (σ : Nat → Int) (ds : List D3) (ps : List D4) : Prop where
  fn : finD n (ps.map (·.1)) σ = finD n ds σ
  wd : wdsD n (ps.map (·.1)) σ = ps.map fun p => (wdsD n ds σ).getD p.2.toNat 0
  len : ps.length = ds.length
  ok : ∀ p ∈ ps, okD p.1 ∧ There n p.1 ∧ 0 ≤ p.2 ∧ p.2 < ds.length
theorem PQ.pass {n : Nat} {σ : Nat → Int} {ds : List D3} {p0 p1 p2 : List D4} {b : D4} (P : PQ n σ ds (p0 ++ b :: (p1 ++ p2))) (h : ∀ a ∈ p1, clashB b.1 a.1 = false) : PQ n σ ds (p0 ++ (p1 ++ b :: p2)) := by
  have okb := (P.ok b (by simp)).1
  have hb : ∀ a ∈ p1.map (·.1), Nc lkD chD a b.1 := fun a ha => by
    obtain ⟨q, hq, rfl⟩ := List.mem_map.mp ha
    exact (nc_of okb (P.ok q (by simp [hq])).1 (h q hq)).symm
  obtain ⟨w0, w1, wb, w2, e1, e2, l0, l1, e3⟩ := pass_on (nm := nmD) (n := n) (l0 := p0.map (·.1)) (l2 := p2.map (·.1)) σ hb
  have m1 : (p0 ++ b :: (p1 ++ p2)).map (·.1) = p0.map (·.1) ++ b.1 :: (p1.map (·.1) ++ p2.map (·.1)) := by simp
  have m2 : (p0 ++ (p1 ++ b :: p2)).map (·.1) = p0.map (·.1) ++ (p1.map (·.1) ++ b.1 :: p2.map (·.1)) := by simp
  have mem : ∀ p, p ∈ p0 ++ (p1 ++ b :: p2) → p ∈ p0 ++ b :: (p1 ++ p2) := fun p hp => by
    simp only [List.mem_append, List.mem_cons] at hp ⊢
    rcases hp with h | h | h | h
    · exact .inl h
    · exact .inr (.inr (.inl h))
    · exact .inr (.inl h)
    · exact .inr (.inr (.inr h))
  refine ⟨?_, ?_, ?_, fun p hp => P.ok p (mem p hp)⟩
  · rw [m2]
    have := P.fn
    rw [m1] at this
    exact e3.symm.trans this
  · have q := P.wd
    rw [m1] at q
    have q' := (show wds nmD lkD chD n (p0.map (·.1) ++ b.1 :: (p1.map (·.1) ++ p2.map (·.1))) σ = _ from q)
    rw [e1, List.map_append, List.map_cons, List.map_append] at q'
    obtain ⟨a1, a2⟩ := List.append_inj q' (by rw [l0, List.length_map, List.length_map])
    injection a2 with a3 a4
    obtain ⟨a5, a6⟩ := List.append_inj a4 (by rw [l1, List.length_map, List.length_map])
    rw [m2]
    refine (show wds nmD lkD chD n (p0.map (·.1) ++ (p1.map (·.1) ++ b.1 :: p2.map (·.1))) σ = _ from ?_)
    rw [e2, a1, a3, a5, a6, List.map_append, List.map_append, List.map_cons]
  · rw [← P.len]
    simp only [List.length_append, List.length_cons]
    omega
end L2

end

open PySem L2
local macro_rules | `(tactic| walk_at "hp") => `(tactic| first | assumption | exact upd_same | (apply new_at; (focus assumption); walk_at "hp") | (apply Same.at; (focus assumption); walk_at "hp"))
local macro_rules | `(tactic| walk_at "cond") => `(tactic| first | decide | omega | assumption | (show (0 : Int) < _; first | decide | omega) | exact ⟨by decide, by decide⟩ | exact ⟨by decide, by decide, by decide⟩ | exact ⟨by omega, by omega, by decide⟩ | exact Or.inl ⟨by decide, by decide⟩ | exact Or.inr ⟨by decide, by decide⟩)
local macro_rules | `(tactic| walk_at "rd") => `(tactic| first
  | refine iteT ?_
  | refine iteF ?_
  | refine ⟨_, rfl, ?_⟩
  | refine ⟨_, _, rfl, rfl, ?_⟩
  | refine ⟨rfl, ?_⟩
  | (refine And.intro ?_ ?_; (focus (walk_at "cond")); skip)
  | refine ⟨_, _, _, _, rfl, rfl, SqT.of (by walk_at "hp"), (by first | exact at_l0 | exact at_l1 | exact at_l2 | exact at_l3 | exact at_l4 | exact at_l5 | exact at_l6 | exact at_l7), ?_⟩
  | refine ⟨_, _, _, _, rfl, rfl, SqL.of (by walk_at "hp"), (by first | exact at_l0 | exact at_l1 | exact at_l2 | exact at_l3 | exact at_l4 | exact at_l5 | exact at_l6 | exact at_l7), ?_⟩
  | refine ⟨_, _, rfl, .inl (SqL.of (by walk_at "hp")), ?_⟩)
local macro_rules | `(tactic| walk_at "rds") => `(tactic| repeat (walk_at "rd"))

namespace K10
open PySem L2
def top (i : Nat) : Stmt := PySem.Challenge.pw_passby_k10_whole_alike_do_the_same.main.body.getD i (.Pass ⟨0, 0, 0, 0⟩)
abbrev s_disturbs : Stmt := top 8
abbrev s_clash : Stmt := top 9
theorem sc_disturbs : FnScope ["one", "other"] ["one", "other"] (defScope s_disturbs) := ⟨rfl, rfl, rfl, by decide +kernel, rfl, by decide +kernel, by decide +kernel⟩
theorem sc_clash : FnScope ["one", "other"] ["one", "other"] (defScope s_clash) := ⟨rfl, rfl, rfl, by decide +kernel, rfl, by decide +kernel, by decide +kernel⟩
section
variable {P : Program} {w : World} {K : PySem.W.Frag} {mg : Str → Option Value} {base : Heap} {f : Addr} {fd : FuncData}
theorem ok_disturbs (F : Fun K "disturbs" "disturbs" s_disturbs f fd) : FnOk P w K mg base CX0 1 f fd ["one", "other"] spDisturbs := by
  have sc := sc_disturbs
  refine F.ok sc (fun vs H Q E h => ?_) (fun cdv A outer s H vs Q E hr h => ?_)
  · obtain ⟨x, y, d, e, rfl, _⟩ := h
    rfl
  obtain ⟨x, y, d, e, rfl, ⟨a, rfl, ha⟩, ⟨b, rfl, hb⟩, q⟩ := h
  refine ⟨_, (pss_one (ps_ret (pe_cmpR op_ne (pe_op op_and (pe_ix (ixT K) (pv 0) pe_int (fun _ _ => rfl)) (pe_op op_or (pe_ix (ixT K) (pv 1) pe_int (fun _ _ => rfl)) (pe_ix (ixT K) (pv 1) pe_int (fun _ _ => rfl)))) pe_int (nomark _)))), ?_⟩
  walk_at "rds"
  exact q
theorem ok_clash (F : Fun K "clash" "clash" s_clash f fd) (D_disturbs : Df P w K mg base "disturbs" 1 ["one", "other"] spDisturbs) : FnOk P w K mg base CX0 2 f fd ["one", "other"] spClash := by
  have sc := sc_clash
  refine F.ok sc (fun vs H Q E h => ?_) (fun cdv A outer s H vs Q E hr h => ?_)
  · obtain ⟨x, y, d, e, rfl, _⟩ := h
    rfl
  obtain ⟨x, y, d, e, rfl, ha, hb, q⟩ := h
  refine ⟨_, (pss_one (ps_ret (pe_or (pe_callD D_disturbs (hr.mono (by decide)) rfl (pa_cons (pv 0) (pa_cons (pv 1) pa_nil))) (pe_one (pe_callD D_disturbs (hr.mono (by decide)) rfl (pa_cons (pv 1) (pa_cons (pv 0) pa_nil))))))), ?_⟩
  walk_at "rds"
  refine ⟨_, _, d, e, rfl, ha, hb, _, rfl, ?_⟩
  have q' : Q (.bl (distB d e || distB e d)) H := q
  refine ite2 (fun c => ?_) (fun c => ?_)
  · rw [c] at q'
    exact q'
  · walk_at "rds"
    refine ⟨_, _, e, d, rfl, hb, ha, ?_⟩
    rw [Bool.eq_false_iff.mpr c] at q'
    exact q'
end
end K10

namespace K10
open PySem L2
abbrev s_boxes : Stmt := top 4
abbrev s_saying : Stmt := top 5
abbrev s_done : Stmt := top 6
theorem sc_boxes : FnScope ["number"] ["number"] (defScope s_boxes) := ⟨rfl, rfl, rfl, by decide +kernel, rfl, by decide +kernel, by decide +kernel⟩
theorem sc_saying : FnScope ["deed", "contents"] ["deed", "contents"] (defScope s_saying) := ⟨rfl, rfl, rfl, by decide +kernel, rfl, by decide +kernel, by decide +kernel⟩
theorem sc_done : FnScope ["diary", "contents", "said", "left", "deed", "number", "box"] ["diary", "contents"] (defScope s_done) := ⟨rfl, rfl, rfl, by decide +kernel, rfl, by decide +kernel, by decide +kernel⟩
section
variable {P : Program} {w : World} {K : PySem.W.Frag} {mg : Str → Option Value} {base : Heap} {f : Addr} {fd : FuncData}
seal PySem.eval PySem.spliced in
theorem ok_boxes (F : Fun K "boxes_of" "boxes_of" s_boxes f fd) (m_range : mg "range" = none) : FnOk P w K mg base CX0 1 f fd ["number"] spBoxes := by
  have sc := sc_boxes
  refine F.ok sc (fun vs H Q E h => ?_) (fun cdv A outer s H vs Q E hr h => ?_)
  · obtain ⟨n, rfl, _⟩ := h
    rfl
  obtain ⟨n, rfl, h0, h60, q⟩ := h
  refine ⟨_, (pss_one (ps_ret (pe_comp ["box"] [0] rfl (comp_scope sc) (pi_range1 rfl m_range (pa_cons (pe_bm0K K PySem.F.plainAttrs_int PySem.F.slot_int_bit_length PySem.F.type_int_bit_length mt_bitlen (pv 0)) pa_nil)) (fun _ _ _ _ _ => ⟨(pg_name (i := 0) (nd_c sc (by decide +kernel)) rfl (Or.inl rfl)), (pts_one (pt_cmpR op_eq (pe_op op_and (pe_op op_shr (pv 1) (pv 0)) pe_int) pe_int (nomark _))), (pv 0)⟩)))), ?_⟩
  have hb : Builtin.Int.intBits n ≤ 60 := (bitlen_le h0 60).mpr h60
  refine ⟨_, rfl, rfl, n, rfl, rfl, _, rfl, by omega, by omega, ?_⟩
  rw [Int.toNat_natCast]
  refine comp_range (k := Builtin.Int.intBits n) (fun D i ys H' => Same H H' ∧ H' D = some (.lst ys) ∧ ys = ((bxs n i).map fun (k : Nat) => (k : Int)).map V.int) (small1000 (by omega)) (fun D hD => ⟨same_new hD _, upd_same, rfl⟩) ?_ ?_ ?_
  · rintro D i ys H' hD hi ⟨S, hl, rfl⟩
    exact ⟨hl, by rw [List.length_map, List.length_map]; exact bxs_length _ _⟩
  · rintro D i ys H' hD hi ⟨S, hl, rfl⟩
    have no : bit n i = false → bxs n (i + 1) = bxs n i := fun z => by rw [bxs_succ, if_neg (by rw [z]; exact Bool.false_ne_true), List.append_nil]
    refine ⟨rfl, ?_⟩
    refine ⟨_, rfl, _, rfl, _, _, rfl, rfl, (show (0 : Int) ≤ 0 + (i : Int) by omega), _, _, rfl, rfl, rfl, _, rfl, ?_⟩
    refine iteI (fun c => ?_) (fun c => ?_)
    · have hb1 : bit n i = true := bit_at.mp c
      refine ⟨_, rfl, hl, S.wr hD _, upd_same, ?_⟩
      rw [bxs_succ, if_pos hb1, List.map_append, List.map_append, Int.zero_add]
      rfl
    · exact ⟨S, hl, by rw [no (bit_no c)]⟩
  · rintro D ys H' hD ⟨S, hl, rfl⟩
    exact q D H' S hD hl
seal PySem.eval PySem.spliced in
theorem ok_saying (F : Fun K "saying" "saying" s_saying f fd) (D_boxes_of : Df P w K mg base "boxes_of" 1 ["number"] spBoxes) (m_sum : mg "sum" = none) : FnOk P w K mg base CX0 2 f fd ["deed", "contents"] spSaying := by
  have sc := sc_saying
  refine F.ok sc (fun vs H Q E h => ?_) (fun cdv A outer s H vs Q E hr h => ?_)
  · obtain ⟨x, c, d, n, σ, rfl, _⟩ := h
    rfl
  obtain ⟨x, c, d, n, σ, rfl, ⟨a, rfl, ha⟩, ok, hn, th, hc, q⟩ := h
  refine ⟨_, (pss_one (ps_ret (pe_op op_add (pe_ix (ixT K) (pv 0) pe_int (fun _ _ => rfl)) (pe_callB (sumQ K rfl) rfl m_sum bt_sum (pa_cons (pe_comp ["box"] [1] rfl (comp_scope sc) (piL K (pe_callD D_boxes_of (hr.mono (by decide)) rfl (pa_cons (pe_ix (ixT K) (pv 0) pe_int (fun _ _ => rfl)) pa_nil))) (fun _ _ _ _ _ => ⟨(pg_name (i := 0) (nd_c sc (by decide +kernel)) rfl (Or.inl rfl)), pts_nil, (pe_op op_mul (pe_op op_add (pv 0) pe_int) (pe_ix (ixL K) (pv 1) (pv 0) (fun _ _ => rfl)))⟩)) pa_nil))))), ?_⟩
  have hor := bitOr_lt ok.1.1 ok.2.1 n
  have hlt := (hor.2.mp th).1
  have hb := bxs_any ok.1.1 hlt
  refine ⟨_, rfl, _, _, _, _, rfl, rfl, SqT.of ha, at_l0, ?_⟩
  refine ⟨_, rfl, _, _, _, _, rfl, rfl, SqT.of ha, at_l1, d.2.1, rfl, ok.1.1, ok.1.2, fun r H2 S2 hr er => ?_⟩
  rw [hb] at er
  refine ⟨r, rfl, ⟨_, SqL.of er⟩, comp_list (xs := ((bxs d.2.1 n).map fun (k : Nat) => (k : Int)).map V.int) (fun D i ys H' => Same H2 H' ∧ H' D = some (.lst ys) ∧ ys = (((bxs d.2.1 n).take i).map fun (k : Nat) => ((k : Int) + 1) * σ k).map V.int) ?_ (fun D hD => ⟨same_new hD _, upd_same, rfl⟩) ?_ ?_ ?_⟩
  · have := bxs_length d.2.1 n
    rw [List.length_map, List.length_map]
    exact small1000 (by omega)
  · rintro D i ys H' hD hi ⟨S, hl, rfl⟩
    exact ⟨SqL.of (S _ _ er), hl, by rw [List.length_map, List.length_map, List.length_take]; omega⟩
  · rintro D i x ys H' hD hx ⟨S, hl, rfl⟩
    obtain ⟨_, g, rfl⟩ := ints_get hx
    rw [List.getElem?_map] at g
    obtain ⟨k, gk, rfl⟩ := Option.map_eq_some_iff.mp g
    have hkm := mem_bxs.mp (List.mem_of_getElem? gk)
    have ek : atI ((cvec n σ).map V.int) (k : Int) = some (.int (σ k)) := atI_nat (by rw [List.getElem?_map, cvec_get hkm.1]; rfl)
    refine ⟨rfl, _, rfl, _, _, rfl, rfl, _, rfl, _, rfl, _, _, _, _, rfl, rfl, SqL.of (S _ _ (S2 _ _ hc)), ek, _, _, rfl, rfl, .inl ⟨by omega, by omega⟩, hl, S.wr hD _, upd_same, ?_⟩
    rw [List.take_add_one, gk, List.map_append, List.map_append]
    rfl
  · rintro D ys H' hD ⟨S, hl, rfl⟩
    rw [List.length_map, List.length_map, List.take_length] at hl
    refine ⟨D, _, rfl, SqL.of hl, _, _, rfl, rfl, ?_⟩
    rw [lkSum_bxs]
    exact q H' (S2.trans S)
seal PySem.eval PySem.spliced in
theorem ok_done {C : Addr} {B newId initId : String} {bm : List Value} (F : Fun K "done" "done" s_done f fd) (D_boxes_of : Df P w K mg base "boxes_of" 1 ["number"] spBoxes) (D_saying : Df P w K mg base "saying" 2 ["deed", "contents"] spSaying) (m_list : mg "list" = none) (m_len : mg "len" = none)
    (O_NoBox : PyProof.Rows.OwnCls "NoBox" C bm newId mg base) (FB : ExcBaseFacts B newId initId bm) :
    FnOk P w K mg base (CX1 P w) 3 f fd ["diary", "contents"] (spDone C) := by
  have sc := sc_done
  refine F.ok1 sc (fun vs H Q E h => ?_) (fun cdv A outer s H vs Q E hr h => ?_)
  · obtain ⟨a, c, ds, cs, rfl, _⟩ := h
    rfl
  obtain ⟨a, c, ds, cs, rfl, La, nn, hz1, hz2, hc, q⟩ := h
  refine ⟨_, (pss_cons (ps_set (i := 2) sc.nd rfl (Or.inl rfl) (pe_lst pa_nil))
    (pss_cons (ps_set (i := 3) sc.nd rfl (Or.inl rfl) (pe_callTy (listOf K) rfl m_list bt_list (pa_cons (pv 1) pa_nil)))
    (pss_cons (ps_for PassesOwn.leaving rfl (piL K (pv 0)) (pg_name (i := 4) sc.nd rfl (Or.inl rfl)) (pss_cons (ps_if (pt_cmpR op_gt (pe_bm0K K PySem.F.plainAttrs_int PySem.F.slot_int_bit_length PySem.F.type_int_bit_length mt_bitlen (pe_op op_or (pe_ix (ixT K) (pv 4) pe_int (fun _ _ => rfl)) (pe_ix (ixT K) (pv 4) pe_int (fun _ _ => rfl)))) (pe_callB (lenQ K) rfl m_len bt_len (pa_cons (pv 3) pa_nil)) (nomark _)) (pss_one (ps_raise thrown_of rfl rfl O_NoBox FB (pa_cons pe_str pa_nil))) pss_nil)
    (pss_cons (ps_set (i := 5) sc.nd rfl (Or.inl rfl) (pe_callD D_saying (hr.mono (by decide)) rfl (pa_cons (pv 4) (pa_cons (pv 3) pa_nil))))
    (pss_cons (ps_expr (pe_bmK K PySem.F.plainAttrs_list PySem.F.slot_list_append PySem.F.type_list_append mt_append (pv 2) (pa_cons (pv 5) pa_nil)))
    (pss_one (ps_for PassesOwn.leaving rfl (piL K (pe_callD D_boxes_of (hr.mono (by decide)) rfl (pa_cons (pe_ix (ixT K) (pv 4) pe_int (fun _ _ => rfl)) pa_nil))) (pg_name (i := 6) sc.nd rfl (Or.inl rfl)) (pss_one (ps_asg (pe_op op_add (pv 5) (pv 6)) (pg_sub (pv 3) (pv 6) set_list)))))))))
    (pss_one (ps_ret (pe_tup (pa_cons (pv 2) (pa_cons (pv 3) pa_nil)))))))), ?_⟩
  obtain ⟨vs, ha, pr⟩ := id La
  have hl0 := Paired.length pr
  refine ⟨(by decide : 0 ≤ sizeLine), fun sd hsd => ?_⟩
  refine ⟨_, rfl, c, _, rfl, .inl (SqL.of (new_at hsd hc)), fun lf hlf => ?_⟩
  have S0 : Same H (upd (upd H sd (.lst [])) lf (.lst (cs.map V.int))) := (same_new hsd _).new hlf _
  have f1 : H lf = none := (same_new hsd _).free hlf
  have ne1 : sd ≠ lf := ne_of_none upd_same hlf
  refine ⟨_, rfl, a, rfl, ⟨_, SqL.of (S0 _ _ ha)⟩, for_list (xs := vs) (fun i σ H' => ∃ z4 z5 z6, σ = [some (.ref a), some (.ref c), some (.ref sd), some (.ref lf), z4, z5, z6] ∧ Same H H' ∧ H' sd = some (.lst ((wdsD cs.length (ds.take i) (atD cs)).map V.int)) ∧ H' lf = some (.lst ((cvec cs.length (finD cs.length (ds.take i) (atD cs))).map V.int)) ∧ ∀ d ∈ ds.take i, There cs.length d)
    ⟨none, none, none, rfl, S0, new_at hlf upd_same, ?_, fun _ z => nomatch z⟩ ?_ ?_ ?_⟩
  · show upd (upd H sd (.lst [])) lf (.lst (cs.map V.int)) lf = some (.lst ((cvec cs.length (atD cs)).map V.int))
    rw [show cvec cs.length (atD cs) = cs from cvec_of cs]
    exact upd_same
  · rintro i σ H' _ ⟨z4, z5, z6, rfl, S, _⟩
    exact SqL.of (S _ _ ha)
  · rintro i x σ H' hx ⟨z4, z5, z6, rfl, S, hs', hl', hth⟩
    obtain ⟨d, gd, ⟨ta, rfl, tx⟩⟩ := Paired.getL pr hx
    have hi : i < ds.length := (List.getElem?_eq_some_iff.mp gd).1
    have okd := nn d (List.mem_of_getElem? gd)
    have htx := S _ _ tx
    have hor := bitOr_lt okd.1.1 okd.2.1 cs.length
    refine ⟨_, rfl, _, _, _, _, rfl, rfl, SqT.of htx, at_l1, _, rfl, _, _, _, _, rfl, rfl, SqT.of htx, at_l2, _, _, rfl, rfl, rfl, _, rfl, rfl, _, rfl, lf, _, rfl, .inl (SqL.of hl'), _, _, rfl, rfl, _, rfl, iteD (fun c1 => ⟨by decide, ?_⟩) (fun c1 => ?_)⟩
    · rw [List.length_map, cvec_length] at c1
      rcases q with ⟨hall, _⟩ | ⟨_, z⟩
      · have := (bitlen_le hor.1 cs.length).mpr (hall d (List.mem_of_getElem? gd))
        omega
      · exact z H' S
    rw [List.length_map, cvec_length] at c1
    have th : There cs.length d := (bitlen_le hor.1 cs.length).mp (by omega)
    have hlt := (hor.2.mp th).2
    have hb := bxs_any okd.2.1 hlt
    refine ⟨_, rfl, _, rfl, _, lf, d, cs.length, _, rfl, ⟨ta, rfl, htx⟩, okd, hz2, th, hl', fun H2 S2 => ?_⟩
    have hs2 := S2 _ _ hs'
    have hl2 := S2 _ _ hl'
    refine ⟨_, rfl, .inl ⟨rfl, _, SqL.of hs2⟩, _, rfl, sd, _, _, rfl, rfl, hs2, ?_, ?_⟩
    · rw [List.length_map, wds_length, List.length_take]; exact small1000 (by omega)
    have S3 : Same H (upd H2 sd (.lst ((wdsD cs.length (ds.take i) (atD cs)).map V.int ++ [.int (sayD cs.length d (finD cs.length (ds.take i) (atD cs)))]))) := (S.trans S2).wr hsd _
    have hl3 : upd H2 sd (.lst ((wdsD cs.length (ds.take i) (atD cs)).map V.int ++ [.int (sayD cs.length d (finD cs.length (ds.take i) (atD cs)))])) lf = some (.lst ((cvec cs.length (finD cs.length (ds.take i) (atD cs))).map V.int)) := by rw [upd_ne (Ne.symm ne1)]; exact hl2
    refine ⟨_, rfl, _, _, _, _, rfl, rfl, SqT.of (S3 _ _ tx), at_l2, d.2.2, rfl, okd.2.1, okd.2.2, fun r H4 S4 hr4 er => ?_⟩
    rw [hb] at er
    have nrs : sd ≠ r := ne_of_none upd_same hr4
    have nrl : lf ≠ r := ne_of_none hl3 hr4
    refine ⟨r, rfl, ⟨_, SqL.of er⟩, for_list (xs := ((bxs d.2.2 cs.length).map fun (k : Nat) => (k : Int)).map V.int) (fun j σ H5 => ∃ z6, σ = [some (.ref a), some (.ref c), some (.ref sd), some (.ref lf), some (.ref ta), some (.int (sayD cs.length d (finD cs.length (ds.take i) (atD cs)))), z6] ∧ Same H H5 ∧ H5 r = some (.lst (((bxs d.2.2 cs.length).map fun (k : Nat) => (k : Int)).map V.int)) ∧
      H5 sd = some (.lst ((wdsD cs.length (ds.take i) (atD cs)).map V.int ++ [.int (sayD cs.length d (finD cs.length (ds.take i) (atD cs)))])) ∧ H5 lf = some (.lst ((cvec cs.length fun k => if k ∈ (bxs d.2.2 cs.length).take j then sayD cs.length d (finD cs.length (ds.take i) (atD cs)) + k else finD cs.length (ds.take i) (atD cs) k).map V.int)))
      ⟨z6, rfl, S3.trans S4, er, S4 _ _ upd_same, ?_⟩ ?_ ?_ ?_⟩
    · have := S4 _ _ hl3
      simpa using this
    · rintro j σ H5 _ ⟨z6, rfl, S5, er5, _⟩
      exact SqL.of er5
    · rintro j x σ H5 hx ⟨z6, rfl, S5, er5, hs5, hl5⟩
      obtain ⟨_, g, rfl⟩ := ints_get hx
      rw [List.getElem?_map] at g
      obtain ⟨k, gk, rfl⟩ := Option.map_eq_some_iff.mp g
      have hkm := mem_bxs.mp (List.mem_of_getElem? gk)
      refine ⟨_, rfl, _, rfl, _, _, rfl, rfl, _, rfl, _, rfl, lf, _, _, k, rfl, rfl, hl5, ?_, ?_⟩
      · rw [List.length_map, cvec_length]
        exact ixN_nat hkm.1
      refine ⟨_, rfl, S5.wr f1 _, by rw [upd_ne (Ne.symm nrl)]; exact er5, by rw [upd_ne ne1]; exact hs5, ?_⟩
      rw [upd_same, ← List.map_set, cvec_set]
      congr 3
      refine cvec_congr fun m hm => ?_
      rw [List.take_add_one, gk]
      by_cases e : m = k
      · subst e
        simp
      · simp [e]
    · rintro σ H5 ⟨z6, rfl, S5, er5, hs5, hl5⟩
      rw [List.length_map, List.length_map, List.take_length] at hl5
      have et : ds.take (i + 1) = ds.take i ++ [d] := by rw [List.take_add_one, gd]; rfl
      refine ⟨_, _, _, rfl, S5, ?_, ?_, ?_⟩
      · rw [et, wds_snoc, List.map_append]; exact hs5
      · rw [et, fin_snoc, hl5]
        congr 3
        refine cvec_congr fun m hm => ?_
        show _ = if chD d m = true then _ else _
        by_cases e : bit d.2.2 m = true
        · rw [if_pos (mem_bxs.mpr ⟨hm, e⟩), if_pos (show chD d m = true from e)]
        · rw [if_neg (fun z => e (mem_bxs.mp z).2), if_neg (show ¬ chD d m = true from e)]
      · rw [et]
        intro d' hd'
        rcases List.mem_append.mp hd' with z | z
        · exact hth d' z
        · rw [List.mem_singleton.mp z]; exact th
  · rintro σ H' ⟨z4, z5, z6, rfl, S, hs', hl', hth⟩
    rw [hl0, List.take_length] at hs' hl' hth
    refine ⟨_, rfl, _, rfl, sm rfl, fun r hr => ?_⟩
    rcases q with ⟨_, z⟩ | ⟨⟨d, hd, hn⟩, _⟩
    · exact z r sd lf _ (S.new hr _) (S.free hr) hsd f1 ne1 upd_same (new_at hr hs') (new_at hr hl')
    · exact absurd (hth d hd) hn
end
end K10

namespace K10
open PySem L2
abbrev s_behind : Stmt := top 11
theorem sc_behind : FnScope ["ahead", "told", "deed"] ["ahead", "told", "deed"] (defScope s_behind) := ⟨rfl, rfl, rfl, by decide +kernel, rfl, by decide +kernel, by decide +kernel⟩
section
variable {P : Program} {w : World} {K : PySem.W.Frag} {mg : Str → Option Value} {base : Heap} {f : Addr} {fd : FuncData}
theorem ok_behind (F : Fun K "height_behind" "height_behind" s_behind f fd) (D_clash : Df P w K mg base "clash" 2 ["one", "other"] spClash) (m_max : mg "max" = none) (m_zip : mg "zip" = none) : FnOk P w K mg base CX0 3 f fd ["ahead", "told", "deed"] spBehind := by
  have sc := sc_behind
  refine F.ok sc (fun vs H Q E h => ?_) (fun cdv A outer s H vs Q E hr h => ?_)
  · obtain ⟨a, b, x, ds, hs, d, rfl, _⟩ := h
    rfl
  obtain ⟨a, b, x, ds, hs, d, rfl, ⟨vs, ha, pr⟩, hz, hb, hx, q⟩ := h
  refine ⟨_, (pss_one (ps_ret (pe_maxD K rfl rfl m_max (pa_cons (pe_comp ["earlier", "height"] [2] rfl (comp_scope sc) (piZ K rfl m_zip (pa_cons (pv 0) (pa_cons (pv 1) pa_nil))) (fun _ _ _ _ _ => ⟨(pgT K (n := 2) rfl (pgs_cons (pg_name (i := 0) (nd_c sc (by decide +kernel)) rfl (Or.inl rfl)) (pgs_cons (pg_name (i := 1) (nd_c sc (by decide +kernel)) rfl (Or.inl rfl)) pgs_nil))), (pts_one (pt_val (pe_callD D_clash (hr.mono (by decide)) rfl (pa_cons (pv 0) (pa_cons (pv 2) pa_nil))))), (pe_op op_add (pv 1) pe_int)⟩)) pa_nil) (pk_cons pe_int pk_nil)))), ?_⟩
  have hl0 := Paired.length pr
  refine ⟨_, rfl, _, rfl, a, b, _, _, rfl, SqL.of ha, SqL.of hb, ?_⟩
  refine comp_zip (k := kL) (xs := vs) (ys := hs.map V.int) (fun D i zs H' => Same H H' ∧ H' D = some (.lst zs) ∧ zs = ((((ds.zip hs).take i).filter fun p => clashB p.1 d).map fun p => p.2 + 1).map V.int) (by omega) (fun D hD => ⟨same_new hD _, upd_same, rfl⟩) ?_ ?_ ?_
  · rintro D i zs H' hD hi ⟨S, hl, rfl⟩
    refine ⟨⟨SqL.of (S _ _ ha), SqL.of (S _ _ hb)⟩, hl, ?_⟩
    rw [List.length_map, List.length_map]
    exact Nat.le_trans (List.length_filter_le _ _) (by rw [List.length_take]; omega)
  · rintro D i x' y' p zs H' hD hx' hy' hp ⟨S, hl, rfl⟩
    obtain ⟨d1, g1, t1⟩ := Paired.getL pr hx'
    obtain ⟨h, g2, rfl⟩ := ints_get hy'
    have S' := S.new hp (.tup [x', .int h])
    have g3 : (ds.zip hs)[i]? = some (d1, h) := List.getElem?_zip_eq_some.mpr ⟨g1, g2⟩
    refine ⟨p, _, rfl, SqT.of upd_same, rfl, _, _, rfl, _, _, rfl, rfl, rfl, ?_⟩
    refine ⟨_, rfl, _, rfl, _, _, d1, d, rfl, t1.same S', hx.same S', _, rfl, ?_⟩
    refine ite2 (fun c => ?_) (fun c => ?_)
    · refine ⟨_, rfl, _, _, rfl, rfl, new_at hp hl, S'.wr hD _, upd_same, ?_⟩
      rw [List.take_add_one, g3, List.filter_append, List.map_append, List.map_append]
      simp [c]
    · refine ⟨S', new_at hp hl, ?_⟩
      rw [List.take_add_one, g3, List.filter_append, List.map_append, List.map_append]
      simp [c]
  · rintro D zs H' hD ⟨S, hl, rfl⟩
    refine ⟨D, _, 0, rfl, rfl, SqL.of hl, ?_⟩
    rw [List.take_of_length_le (by rw [List.length_zip, List.length_map]; omega)]
    exact q H' S
end
end K10

namespace K10
open PySem L2
abbrev s_heights : Stmt := top 12
theorem sc_heights : FnScope ["diary", "told", "deed"] ["diary"] (defScope s_heights) := ⟨rfl, rfl, rfl, by decide +kernel, rfl, by decide +kernel, by decide +kernel⟩
section
variable {P : Program} {w : World} {K : PySem.W.Frag} {mg : Str → Option Value} {base : Heap} {f : Addr} {fd : FuncData}
theorem ok_heights (F : Fun K "heights" "heights" s_heights f fd) (D_height_behind : Df P w K mg base "height_behind" 3 ["ahead", "told", "deed"] spBehind) : FnOk P w K mg base CX0 4 f fd ["diary"] spHeights := by
  have sc := sc_heights
  refine F.ok sc (fun vs H Q E h => ?_) (fun cdv A outer s H vs Q E hr h => ?_)
  · obtain ⟨a, ds, rfl, _⟩ := h
    rfl
  obtain ⟨a, ds, rfl, ⟨vs, ha, pr⟩, hz, q⟩ := h
  have hl0 := Paired.length pr
  refine ⟨_, (pss_cons (ps_set (i := 1) sc.nd rfl (Or.inl rfl) (pe_lst pa_nil))
    (pss_cons (ps_for PassesOwn.never rfl (piL K (pv 0)) (pg_name (i := 2) sc.nd rfl (Or.inl rfl)) (pss_one (ps_expr (pe_bmK K PySem.F.plainAttrs_list PySem.F.slot_list_append PySem.F.type_list_append mt_append (pv 1) (pa_cons (pe_callD D_height_behind (hr.mono (by decide)) rfl (pa_cons (pv 0) (pa_cons (pv 1) (pa_cons (pv 2) pa_nil)))) pa_nil)))))
    (pss_one (ps_ret (pv 1))))), ?_⟩
  refine ⟨(by decide : 0 ≤ sizeLine), fun l hl => ?_⟩
  refine ⟨_, rfl, a, rfl, ⟨_, SqL.of (new_at hl ha)⟩, for_list (xs := vs) (fun i σ H' => ∃ z, σ = [some (.ref a), some (.ref l), z] ∧ Same H H' ∧ H' l = some (.lst ((hts clashB (ds.take i)).map V.int))) ⟨none, rfl, same_new hl _, upd_same⟩ ?_ ?_ ?_⟩
  · rintro i σ H' _ ⟨z, rfl, S, _⟩
    exact SqL.of (S _ _ ha)
  · rintro i x σ H' hx ⟨z, rfl, S, hl'⟩
    obtain ⟨d, g, t⟩ := Paired.getL pr hx
    have hi : i < ds.length := (List.getElem?_eq_some_iff.mp g).1
    refine ⟨_, rfl, .inl ⟨rfl, _, SqL.of hl'⟩, _, rfl, _, rfl, _, rfl, a, l, x, ds, hts clashB (ds.take i), d, rfl, ⟨vs, S _ _ ha, stab_T3.list S pr⟩, hz, hl', t.same S, fun H2 S2 => ?_⟩
    refine ⟨l, _, _, rfl, rfl, S2 _ _ hl', ?_, ?_⟩
    · rw [List.length_map, hts_length, List.length_take]; omega
    · refine ⟨_, rfl, (S.trans S2).wr hl _, ?_⟩
      rw [zip_hts clashB ds (Nat.le_of_lt hi), List.take_add_one, g]
      show upd H2 l _ l = some (.lst ((hts clashB (ds.take i ++ [d])).map V.int))
      rw [hts_snoc, List.map_append]
      exact upd_same
  · rintro σ H' ⟨z, rfl, S, hl'⟩
    rw [hl0, List.take_of_length_le (Nat.le_refl _)] at hl'
    exact ⟨_, rfl, q l H' S hl hl'⟩
end
end K10

namespace K10
open PySem L2
abbrev s_laid : Stmt := top 13
theorem sc_laid : FnScope ["diary", "told", "rows", "deed", "height"] ["diary", "told"] (defScope s_laid) := ⟨rfl, rfl, rfl, by decide +kernel, rfl, by decide +kernel, by decide +kernel⟩
def spLaid : Sp := fun vs H Q _ => ∃ (a t : Addr) (ds : List D3), vs = [.ref a, .ref t] ∧ LD H a ds ∧ ds.length < 64 ∧ H t = some (.lst ((hts clashB ds).map V.int)) ∧
  ∀ r bs H', Same H H' → H r = none → H' r = some (.lst (bs.map V.ref)) → Rows H' bs (layF ds) → (∀ b ∈ bs, H b = none ∧ b ≠ r) → Q (.ref r) H'
section
variable {P : Program} {w : World} {K : PySem.W.Frag} {mg : Str → Option Value} {base : Heap} {f : Addr} {fd : FuncData}
seal PySem.eval PySem.spliced in
theorem ok_laid (F : Fun K "laid" "laid" s_laid f fd) (m_range : mg "range" = none) (m_max : mg "max" = none) (m_zip : mg "zip" = none) (m_sorted : mg "sorted" = none) :
    FnOk P w K mg base CX0 4 f fd ["diary", "told"] spLaid := by
  have sc := sc_laid
  refine F.ok sc (fun vs H Q E h => ?_) (fun cdv A outer s H vs Q E hr h => ?_)
  · obtain ⟨a, t, ds, rfl, _⟩ := h
    rfl
  obtain ⟨a, t, ds, rfl, La, h64, et, q⟩ := h
  obtain ⟨vs, ha, pr⟩ := id La
  have hl0 := Paired.length pr
  have hl1 := hts_length clashB ds
  have hnl := nL_le ds
  have hnc := nL_cast clashB ds
  refine ⟨_, (pss_cons (ps_setC (i := 2) ["height"] [] rfl sc.nd rfl rfl (comp_scope sc) (pi_range1 rfl m_range (pa_cons (pe_op op_add (pe_maxD K rfl rfl m_max (pa_cons (pv 1) pa_nil) (pk_cons (pe_un un_neg pe_int) pk_nil)) pe_int) pa_nil)) (fun _ _ _ _ _ => ⟨(pg_name (i := 0) (nd_c sc (by decide +kernel)) rfl (Or.inl rfl)), pts_nil, (pe_lst pa_nil)⟩))
    (pss_cons (ps_for PassesOwn.never rfl (piZ K rfl m_zip (pa_cons (pv 0) (pa_cons (pv 1) pa_nil))) (pgT K (n := 2) rfl (pgs_cons (pg_name (i := 3) sc.nd rfl (Or.inl rfl)) (pgs_cons (pg_name (i := 4) sc.nd rfl (Or.inl rfl)) pgs_nil))) (pss_one (ps_expr (pe_bmK K PySem.F.plainAttrs_list PySem.F.slot_list_append PySem.F.type_list_append mt_append (pe_ix (ixL K) (pv 2) (pv 4) (fun _ _ => rfl)) (pa_cons (pv 3) pa_nil)))))
    (pss_one (ps_ret (pe_comp ["row"] [] rfl (comp_scope sc) (piL K (pv 2)) (fun _ _ _ _ _ => ⟨(pg_name (i := 0) (nd_c sc (by decide +kernel)) rfl (Or.inl rfl)), pts_nil, (pe_callB call_sorted rfl m_sorted bt_sorted (pa_cons (pv 0) pa_nil))⟩)))))), ?_⟩
  refine ⟨_, rfl, _, rfl, t, hts clashB ds, -1, rfl, rfl, SqL.of et, _, _, rfl, rfl, _, rfl, by omega, by omega, ?_⟩
  rw [show (maxD (-1) (hts clashB ds) + 1).toNat = nL clashB ds by omega]
  refine comp_empties (nL clashB ds) (small1000 (by omega)) fun rw' bs H2 S2 hrw erw Rw fr nd => ?_
  have S02 := S2
  have t2 : H2 t = some (.lst ((hts clashB ds).map V.int)) := S2 _ _ et
  have a2 : H2 a = some (.lst vs) := S02 _ _ ha
  have nt : t ∉ bs := fun z => by have := (fr t z).1; rw [et] at this; cases this
  have na : a ∉ bs := fun z => by have := (fr a z).1; rw [ha] at this; cases this
  have nr : rw' ∉ bs := fun z => (fr rw' z).2 rfl
  have fr0 : ∀ b ∈ bs, H b = none := fun b hb => (fr b hb).1
  refine ⟨_, rfl, _, rfl, a, t, _, _, rfl, SqL.of a2, SqL.of t2, ?_⟩
  refine for_zip (k := kL) (xs := vs) (ys := (hts clashB ds).map V.int) (fun i σ H' => ∃ z3 z4, σ = [some (.ref a), some (.ref t), some (.ref rw'), z3, z4] ∧ Same H H' ∧ H' t = some (.lst ((hts clashB ds).map V.int)) ∧ H' rw' = some (.lst (bs.map V.ref)) ∧ Rows H' bs (rowsOf ((hp clashB ds).take i) (nL clashB ds)))
    ⟨none, none, rfl, S02, t2, erw, ?_⟩ ?_ ?_ ?_
  · have e : rowsOf ((hp clashB ds).take 0) (nL clashB ds) = List.replicate (nL clashB ds) [] := by
      apply List.ext_getElem?
      intro j
      unfold rowsOf
      rw [List.getElem?_map, List.getElem?_replicate]
      by_cases hj : j < nL clashB ds
      · rw [List.getElem?_range hj, if_pos hj]; rfl
      · rw [List.getElem?_eq_none (by rw [List.length_range]; omega), if_neg hj]; rfl
    rw [e]; exact Rw
  · rintro i σ H' _ ⟨z3, z4, rfl, S, t', _⟩
    exact ⟨SqL.of (S _ _ ha), SqL.of t'⟩
  · rintro i x y p σ H' hx hy hp0 ⟨z3, z4, rfl, S, t', r', R'⟩
    obtain ⟨d, gd, td⟩ := Paired.getL pr hx
    obtain ⟨hh, gh, rfl⟩ := ints_get hy
    have gp := hp_get clashB gd
    have ehh : hh = hOf clashB ((hp clashB ds).take i) d := by
      have := hts_get clashB gd
      rw [gh] at this
      exact Option.some.inj this
    obtain ⟨_, _, hh0, hhn⟩ := hp_ds clashB gp
    rw [← ehh] at gp hh0 hhn
    have hk : hh.toNat < nL clashB ds := by omega
    obtain ⟨b, gb, Lb⟩ := Paired.getR R' (rowsOf_get (l := (hp clashB ds).take i) hk)
    obtain ⟨ws, eb, pb⟩ := id Lb
    have S' := same_new hp0 (.tup [x, .int hh])
    have bm := List.mem_of_getElem? gb
    have bl : atI (bs.map V.ref) hh = some (.ref b) := by
      have e : hh = ((hh.toNat : Nat) : Int) := by omega
      rw [e]
      exact atI_nat (by rw [List.getElem?_map, gb]; rfl)
    refine ⟨p, _, rfl, SqT.of upd_same, rfl, _, _, rfl, _, _, rfl, rfl, ?_⟩
    refine ⟨_, rfl, _, rfl, _, _, _, _, rfl, rfl, SqL.of (new_at hp0 r'), bl, .inl ⟨rfl, _, SqL.of (new_at hp0 eb)⟩, _, rfl, b, ws, x, rfl, rfl, new_at hp0 eb, ?_, ?_⟩
    · rw [Paired.length pb]
      exact small1000 (by have := row_length ((hp clashB ds).take i) hh.toNat; rw [List.length_take, hp_length] at this; omega)
    refine ⟨_, _, rfl, (S.trans S').wr (fr0 b bm) _, ?_, ?_, ?_⟩
    · rw [upd_ne fun z => nt (by rw [z]; exact bm)]; exact new_at hp0 t'
    · rw [upd_ne fun z => nr (by rw [z]; exact bm)]; exact new_at hp0 r'
    · have e : (hp clashB ds).take (i + 1) = (hp clashB ds).take i ++ [(d, ((hh.toNat : Nat) : Int))] := by
        rw [List.take_add_one, gp, show ((hh.toNat : Nat) : Int) = hh by omega]; rfl
      rw [e, rowsOf_set _ _ _ _ hk]
      refine Rows.set (new_at hp0 eb) ⟨ws ++ [x], upd_same, ?_⟩ nd gb (Rows.same S' R')
      refine Paired.mapP (Paired.app (stab_T3.list S' pb) (.cons (td.same (S.trans S')) .nil)) fun _ _ z => z.wr (new_at hp0 eb)
  · rintro σ H3 ⟨z3, z4, rfl, S, t', r', R'⟩
    rw [List.length_map, hl0, hl1, Nat.min_self, List.take_of_length_le (by rw [hp_length]; exact Nat.le_refl _)] at R'
    refine ⟨_, rfl, rw', rfl, ⟨_, SqL.of r'⟩, comp_rows (bs.map V.ref) (layF ds) ?_ ?_ (fun H' S' => SqL.of (S' _ _ r')) ?_ ?_⟩
    · rw [List.length_map, Paired.length R', layF_length, rowsOf_length]
    · rw [List.length_map, Paired.length R', rowsOf_length]; exact small1000 (by omega)
    · rintro i x r hx hr' H' Q' S' q'
      have hi : i < nL clashB ds := by
        have := (List.getElem?_eq_some_iff.mp hr').1
        rwa [layF_length] at this
      rw [layF_get hi] at hr'
      have hr2 : srt (rowOf (hp clashB ds) i) = r := Option.some.inj hr'
      obtain ⟨b, gb, Lb⟩ := Paired.getR R' (rowsOf_get (l := hp clashB ds) hi)
      rw [List.getElem?_map, gb] at hx
      have ex : V.ref b = x := Option.some.inj hx
      subst ex
      refine ⟨_, rfl, b, rowOf (hp clashB ds) i, rfl, Lb.same S', ?_, fun r2 ws2 hr2' pw => q' r2 ws2 hr2' (by rw [← hr2]; exact pw)⟩
      have := row_length (hp clashB ds) i
      rw [hp_length] at this
      omega
    · intro D cs H4 S4 hD eD Rc frc ndc
      exact q D cs H4 (S.trans S4) (S.free hD) eD Rc fun b hb => ⟨S.free (frc b hb).1, (frc b hb).2⟩
end
end K10

namespace K10
open PySem L2
abbrev s_layers : Stmt := top 14
theorem sc_layers : FnScope ["diary"] ["diary"] (defScope s_layers) := ⟨rfl, rfl, rfl, by decide +kernel, rfl, by decide +kernel, by decide +kernel⟩
section
variable {P : Program} {w : World} {K : PySem.W.Frag} {mg : Str → Option Value} {base : Heap} {f : Addr} {fd : FuncData}
seal PySem.eval PySem.spliced in
theorem ok_layers (F : Fun K "layers" "layers" s_layers f fd) (D_heights : Df P w K mg base "heights" 4 ["diary"] spHeights) (D_laid : Df P w K mg base "laid" 4 ["diary", "told"] spLaid) :
    FnOk P w K mg base CX0 5 f fd ["diary"] spLayers := by
  have sc := sc_layers
  refine F.ok sc (fun vs H Q E h => ?_) (fun cdv A outer s H vs Q E hr h => ?_)
  · obtain ⟨a, ds, rfl, _⟩ := h
    rfl
  obtain ⟨a, ds, rfl, La, h64, q⟩ := h
  refine ⟨_, (pss_one (ps_ret (pe_callD D_laid (hr.mono (by decide)) rfl (pa_cons (pv 0) (pa_cons (pe_callD D_heights (hr.mono (by decide)) rfl (pa_cons (pv 0) pa_nil)) pa_nil))))), ?_⟩
  refine ⟨_, rfl, _, rfl, a, ds, rfl, La, small1000 (by omega), fun t H1 S1 ht et => ?_⟩
  exact ⟨a, t, ds, rfl, La.same S1, h64, et, fun r bs H2 S2 hr er R fr => q r bs H2 (S1.trans S2) (S1.free hr) er R fun b hb => ⟨S1.free (fr b hb).1, (fr b hb).2⟩⟩
end
end K10


namespace K10
open PySem L2
abbrev s_cell : Stmt := top 16
abbrev s_whole : Stmt := top 17
abbrev s_power : Stmt := top 18
abbrev s_wide : Stmt := top 19
abbrev s_deed : Stmt := top 20
theorem sc_cell : FnScope ["_law_script", "_law_k"] ["_law_script", "_law_k"] (defScope s_cell) := ⟨rfl, rfl, rfl, by decide +kernel, rfl, by decide +kernel, by decide +kernel⟩
theorem sc_whole : FnScope ["_law_found"] ["_law_found"] (defScope s_whole) := ⟨rfl, rfl, rfl, by decide +kernel, rfl, by decide +kernel, by decide +kernel⟩
theorem sc_power : FnScope ["_law_k", "_law_found", "_law_step"] ["_law_k"] (defScope s_power) := ⟨rfl, rfl, rfl, by decide +kernel, rfl, by decide +kernel, by decide +kernel⟩
theorem sc_wide : FnScope ["_law_cell", "_law_factor"] ["_law_cell", "_law_factor"] (defScope s_wide) := ⟨rfl, rfl, rfl, by decide +kernel, rfl, by decide +kernel, by decide +kernel⟩
theorem sc_deed : FnScope ["_law_cell", "_law_lift", "_law_rest", "_law_looks", "_law_changes"] ["_law_cell", "_law_lift"] (defScope s_deed) := ⟨rfl, rfl, rfl, by decide +kernel, rfl, by decide +kernel, by decide +kernel⟩
def spWholeI : Sp := fun vs H Q _ => ∃ n : Int, vs = [.int n] ∧ Q (.bl true) H
def spPower : Sp := fun vs H Q _ => ∃ k : Int, vs = [.int k] ∧ 0 ≤ k ∧ k ≤ 1000 ∧ Q (.int (2 ^ k.toNat)) H
def spWide : Sp := fun vs H Q _ => ∃ c g : Int, vs = [.int c, .int g] ∧ (0 ≤ g ∧ g < 1000000) ∧ ∀ n, R60 n → Q (.int n) H
def spDeedW : Sp := fun vs H Q _ => ∃ c l : Int, vs = [.int c, .int l] ∧ 0 ≤ l ∧ l ≤ 2 ^ 55 ∧ ∀ x d H', Same H H' → T3 H' x d → okD d → Q x H'
section
variable {P : Program} {w : World} {K : PySem.W.Frag} {mg : Str → Option Value} {base : Heap} {f : Addr} {fd : FuncData}
theorem ok_cell (F : Fun K "_law_cell_at" "_law_cell_at" s_cell f fd) (m_len : mg "len" = none) : FnOk P w K mg base CX0 1 f fd ["_law_script", "_law_k"] (spCell K) := by
  have sc := sc_cell
  refine F.ok sc (fun vs H Q E h => ?_) (fun cdv A outer s H vs Q E hr h => ?_)
  · obtain ⟨a, ns, k, rfl, _⟩ := h
    rfl
  obtain ⟨a, ns, k, rfl, hS, h0, q⟩ := h
  refine ⟨_, (pss_cons (ps_if (pt_cmpR op_lt (pv 1) (pe_callB (lenQ K) rfl m_len bt_len (pa_cons (pv 0) pa_nil)) (nomark _)) (pss_one (ps_ret (pe_ix (ixL K) (pv 0) (pv 1) (fun _ _ => rfl)))) pss_nil)
    (pss_one (ps_ret pe_int))), ?_⟩
  have hl : (ns.map V.int).length = ns.length := List.length_map _
  refine ⟨_, rfl, _, rfl, a, _, rfl, .inl hS, _, _, rfl, rfl, _, rfl, ?_⟩
  refine iteD (fun c => ?_) (fun c => ?_)
  · rw [hl] at c
    exact ⟨_, rfl, _, rfl, _, _, _, _, rfl, rfl, hS, at_ints h0 c, q⟩
  · rw [hl] at c
    have e : ns.getD k.toNat 0 = 0 := by rw [List.getD_eq_getElem?_getD, List.getElem?_eq_none (by omega)]; rfl
    rw [e] at q
    exact q
theorem ok_whole (F : Fun K "_law_whole" "_law_whole" s_whole f fd) (m_isinstance : mg "isinstance" = none) (m_int : mg "int" = none) (m_bool : mg "bool" = none) : FnOk P w K mg base CX0 1 f fd ["_law_found"] spWholeI := by
  have sc := sc_whole
  refine F.ok sc (fun vs H Q E h => ?_) (fun cdv A outer s H vs Q E hr h => ?_)
  · obtain ⟨n, rfl, _⟩ := h
    rfl
  obtain ⟨n, rfl, q⟩ := h
  refine ⟨_, (pss_one (ps_ret (pe_and (pe_callB (isI K) rfl m_isinstance bt_isinstance (pa_cons (pv 0) (pa_cons (pe_type rfl m_int bt_int) pa_nil))) (pe_one (pe_not (pe_callB (isI K) rfl m_isinstance bt_isinstance (pa_cons (pv 0) (pa_cons (pe_type rfl m_bool bt_bool) pa_nil)))))))), ?_⟩
  exact ⟨_, rfl, _, _, _, _, true, rfl, rfl, .int _, kit_same, true, rfl, iteT ⟨_, rfl, _, _, _, _, false, rfl, rfl, .int _, kit_int_bool, false, rfl, q⟩⟩
theorem ok_power (F : Fun K "_law_power" "_law_power" s_power f fd) (m_range : mg "range" = none) : FnOk P w K mg base CX0 1 f fd ["_law_k"] spPower := by
  have sc := sc_power
  refine F.ok sc (fun vs H Q E h => ?_) (fun cdv A outer s H vs Q E hr h => ?_)
  · obtain ⟨k, rfl, _⟩ := h
    rfl
  obtain ⟨k', rfl, hk0, hk, q⟩ := h
  obtain ⟨k, rfl⟩ := Int.eq_ofNat_of_zero_le hk0
  rw [Int.toNat_natCast] at q
  refine ⟨_, (pss_cons (ps_set (i := 1) sc.nd rfl (Or.inl rfl) pe_int)
    (pss_cons (ps_for PassesOwn.never rfl (pi_range1 rfl m_range (pa_cons (pv 0) pa_nil)) (pg_name (i := 2) sc.nd rfl (Or.inl rfl)) (pss_one (ps_set (i := 1) sc.nd rfl (Or.inl rfl) (pe_op op_mul (pv 1) pe_int))))
    (pss_one (ps_ret (pv 1))))), ?_⟩
  refine ⟨_, rfl, _, rfl, by omega, by omega, ?_⟩
  rw [Int.toNat_natCast]
  refine for_range (n := k) (fun i σ H' => ∃ z, σ = [some (.int k), some (.int (2 ^ i)), z] ∧ H' = H) ⟨none, rfl, rfl⟩ ?_ ?_
  · rintro i σ H' hi ⟨z, rfl, rfl⟩
    refine ⟨_, rfl, _, _, rfl, rfl, .inr ⟨by decide, by decide⟩, ?_⟩
    exact ⟨_, by rw [Int.pow_succ]; rfl, rfl⟩
  · rintro σ H' ⟨z, rfl, rfl⟩
    exact ⟨_, rfl, q⟩
theorem ok_wide (F : Fun K "_law_wide" "_law_wide" s_wide f fd) : FnOk P w K mg base CX0 1 f fd ["_law_cell", "_law_factor"] spWide := by
  have sc := sc_wide
  refine F.ok sc (fun vs H Q E h => ?_) (fun cdv A outer s H vs Q E hr h => ?_)
  · obtain ⟨c, g, rfl, _⟩ := h
    rfl
  obtain ⟨c, g, rfl, hg, q⟩ := h
  refine ⟨_, (pss_one (ps_ret (pe_op op_mod (pe_op op_mod (pe_op op_mul (pe_op op_mod (pv 0) (pe_op op_sub (pe_op op_pow pe_int pe_int) pe_int)) (pv 1)) (pe_op op_sub (pe_op op_pow pe_int pe_int) pe_int)) (pe_op op_pow pe_int pe_int)))), ?_⟩
  refine ⟨_, rfl, _, _, rfl, rfl, ⟨by decide, by decide, by decide⟩, _, _, rfl, rfl, _, _, rfl, rfl, (show (0 : Int) < _ by decide), ?_⟩
  refine ⟨_, rfl, _, _, rfl, rfl, .inr ⟨by omega, by omega⟩, ?_⟩
  refine ⟨_, _, rfl, rfl, ⟨by decide, by decide, by decide⟩, _, _, rfl, rfl, _, _, rfl, rfl, (show (0 : Int) < _ by decide), ?_⟩
  exact ⟨_, _, rfl, rfl, ⟨by decide, by decide, by decide⟩, _, _, rfl, rfl, (show (0 : Int) < _ by decide), q _ (m60 _)⟩
seal PySem.eval PySem.spliced in
theorem ok_deed (F : Fun K "_law_deed" "_law_deed" s_deed f fd) (D__law_wide : Df P w K mg base "_law_wide" 1 ["_law_cell", "_law_factor"] spWide) : FnOk P w K mg base CX0 2 f fd ["_law_cell", "_law_lift"] spDeedW := by
  have sc := sc_deed
  refine F.ok sc (fun vs H Q E h => ?_) (fun cdv A outer s H vs Q E hr h => ?_)
  · obtain ⟨c, l, rfl, _⟩ := h
    rfl
  obtain ⟨c, l, rfl, l0, l1, q⟩ := h
  refine ⟨_, (pss_cons (ps_set (i := 2) sc.nd rfl (Or.inl rfl) (pe_op op_fdiv (pv 0) pe_int))
    (pss_cons (ps_if (pt_cmpR op_eq (pe_op op_mod (pv 0) pe_int) pe_int (nomark _)) (pss_one (ps_ret (pe_tup (pa_cons (pe_op op_mod (pe_op op_fdivB (pe_op op_fdivB (pv 2) (pe_op op_pow pe_int pe_int)) (pe_op op_pow pe_int pe_int)) (pe_op op_pow pe_int pe_int)) (pa_cons (pe_op op_mod (pv 2) (pe_op op_pow pe_int pe_int)) (pa_cons (pe_op op_mod (pe_op op_fdivB (pv 2) (pe_op op_pow pe_int pe_int)) (pe_op op_pow pe_int pe_int)) pa_nil)))))) pss_nil)
    (pss_cons (ps_if (pt_cmpR op_eq (pe_op op_mod (pv 0) pe_int) pe_int (nomark _)) (pss_cons (ps_set (i := 3) sc.nd rfl (Or.inl rfl) (pe_op op_and (pe_op op_and (pe_callD D__law_wide (hr.mono (by decide)) rfl (pa_cons (pv 0) (pa_cons pe_int pa_nil))) (pe_callD D__law_wide (hr.mono (by decide)) rfl (pa_cons (pv 0) (pa_cons pe_int pa_nil)))) (pe_callD D__law_wide (hr.mono (by decide)) rfl (pa_cons (pv 0) (pa_cons pe_int pa_nil)))))
    (pss_cons (ps_set (i := 4) sc.nd rfl (Or.inl rfl) (pe_op op_and (pe_op op_and (pe_callD D__law_wide (hr.mono (by decide)) rfl (pa_cons (pv 0) (pa_cons pe_int pa_nil))) (pe_callD D__law_wide (hr.mono (by decide)) rfl (pa_cons (pv 0) (pa_cons pe_int pa_nil)))) (pe_callD D__law_wide (hr.mono (by decide)) rfl (pa_cons (pv 0) (pa_cons pe_int pa_nil)))))
    (pss_one (ps_ret (pe_tup (pa_cons (pe_op op_mod (pe_op op_mul (pv 0) pe_int) (pe_op op_pow pe_int pe_int)) (pa_cons (pv 3) (pa_cons (pe_op op_and (pv 4) (pe_callD D__law_wide (hr.mono (by decide)) rfl (pa_cons (pv 0) (pa_cons pe_int pa_nil)))) pa_nil)))))))) pss_nil)
    (pss_cons (ps_set (i := 3) sc.nd rfl (Or.inl rfl) (pe_op op_mul (pe_ix (ixL K) (pe_lst (pa_ints (ns := [0, 1, 2, 4, 8, 16, 3, 20]) rfl)) (pe_op op_mod (pe_op op_fdiv (pv 2) pe_int) pe_int) (fun _ _ => rfl)) (pv 1)))
    (pss_one (ps_ret (pe_tup (pa_cons (pe_op op_mod (pv 2) pe_int) (pa_cons (pv 3) (pa_cons (pe_op op_mul (pe_ix (ixL K) (pe_lst (pa_ints (ns := [0, 0, 1, 2, 4, 8, 16, 9]) rfl)) (pe_op op_mod (pe_op op_fdiv (pv 2) pe_int) pe_int) (fun _ _ => rfl)) (pv 1)) pa_nil)))))))))), ?_⟩
  refine ⟨_, rfl, _, _, rfl, rfl, ⟨by decide, by decide⟩, ?_⟩
  refine ⟨_, rfl, _, _, rfl, rfl, (show (0 : Int) < 4 by decide), rfl, _, rfl, iteI (fun _ => ?_) (fun _ => ?_)⟩
  · refine ⟨_, rfl, _, _, rfl, rfl, ⟨by decide, by decide, by decide⟩, _, _, rfl, rfl, ⟨by decide, by decide +kernel⟩, _, _, rfl, rfl, ⟨by decide, by decide, by decide⟩, _, _, rfl, rfl, ⟨by decide, by decide +kernel⟩, _, _, rfl, rfl, ⟨by decide, by decide, by decide⟩, _, _, rfl, rfl, (show (0 : Int) < _ by decide), ?_⟩
    refine ⟨_, rfl, _, _, rfl, rfl, ⟨by decide, by decide, by decide⟩, _, _, rfl, rfl, (show (0 : Int) < _ by decide), ?_⟩
    refine ⟨_, rfl, _, _, rfl, rfl, ⟨by decide, by decide, by decide⟩, _, _, rfl, rfl, ⟨by decide, by decide +kernel⟩, _, _, rfl, rfl, ⟨by decide, by decide, by decide⟩, _, _, rfl, rfl, (show (0 : Int) < _ by decide), ?_⟩
    exact ⟨sm rfl, fun t ht => q _ (_, _, _) _ (same_new ht _) ⟨t, rfl, upd_same⟩ (okD_of (m60 _) (m60 _))⟩
  refine ⟨_, rfl, _, _, rfl, rfl, (show (0 : Int) < 4 by decide), rfl, _, rfl, iteI (fun _ => ?_) (fun _ => ?_)⟩
  · refine ⟨_, rfl, c, _, rfl, ⟨by decide, by decide⟩, fun n1 r1 => ⟨_, rfl, c, _, rfl, ⟨by decide, by decide⟩, fun n2 r2 => ⟨_, _, rfl, rfl, _, rfl, c, _, rfl, ⟨by decide, by decide⟩, fun n3 r3 => ⟨_, _, rfl, rfl, ?_⟩⟩⟩⟩
    refine ⟨_, rfl, c, _, rfl, ⟨by decide, by decide⟩, fun m1 s1 => ⟨_, rfl, c, _, rfl, ⟨by decide, by decide⟩, fun m2 s2 => ⟨_, _, rfl, rfl, _, rfl, c, _, rfl, ⟨by decide, by decide⟩, fun m3 s3 => ⟨_, _, rfl, rfl, ?_⟩⟩⟩⟩
    refine ⟨_, rfl, _, _, rfl, rfl, .inr ⟨by decide, by decide⟩, _, _, rfl, rfl, ⟨by decide, by decide, by decide⟩, _, _, rfl, rfl, (show (0 : Int) < _ by decide), _, rfl, _, rfl, _, rfl, c, _, rfl, ⟨by decide, by decide⟩, fun m4 s4 => ⟨_, _, rfl, rfl, ?_⟩⟩
    exact ⟨sm rfl, fun t ht => q _ (_, _, _) _ (same_new ht _) ⟨t, rfl, upd_same⟩ (okD_of (and60 (and60 r1 r2) r3) (and60 (and60 (and60 s1 s2) s3) s4))⟩
  have b1 := getD_all (P := fun x => 0 ≤ x ∧ x ≤ 20) (l := [0, 1, 2, 4, 8, 16, 3, 20]) (by decide) (by decide) (c / 4 / 3 % 8).toNat
  have b2 := getD_all (P := fun x => 0 ≤ x ∧ x ≤ 20) (l := [0, 0, 1, 2, 4, 8, 16, 9]) (by decide) (by decide) (c / 4 / 24 % 8).toNat
  have g1 := at_ints (ns := [0, 1, 2, 4, 8, 16, 3, 20]) (k := c / 4 / 3 % 8) (by omega) (by show c / 4 / 3 % 8 < 8; omega)
  have g2 := at_ints (ns := [0, 0, 1, 2, 4, 8, 16, 9]) (k := c / 4 / 24 % 8) (by omega) (by show c / 4 / 24 % 8 < 8; omega)
  refine ⟨sm rfl, fun p hp => ?_⟩
  refine ⟨_, rfl, _, _, rfl, rfl, ⟨by decide, by decide⟩, _, _, rfl, rfl, (show (0 : Int) < 8 by decide), _, _, _, _, rfl, rfl, SqL.of upd_same, g1, _, rfl, _, _, rfl, rfl, .inl ⟨by omega, by omega⟩, ?_⟩
  refine ⟨_, rfl, _, _, rfl, rfl, (show (0 : Int) < 3 by decide), _, rfl, sm rfl, fun p2 hp2 => ?_⟩
  refine ⟨_, rfl, _, _, rfl, rfl, ⟨by decide, by decide⟩, _, _, rfl, rfl, (show (0 : Int) < 8 by decide), _, _, _, _, rfl, rfl, SqL.of upd_same, g2, _, rfl, _, _, rfl, rfl, .inl ⟨by omega, by omega⟩, ?_⟩
  exact ⟨sm rfl, fun t ht => q _ (_, _, _) _ (((same_new hp _).new hp2 _).new ht _) ⟨t, rfl, upd_same⟩ (okD_of (mul60 b1 l0 l1) (mul60 b2 l0 l1))⟩
end
end K10

namespace K10
open PySem L2
abbrev s_contents : Stmt := top 22
theorem sc_contents : FnScope ["_law_script", "_law_many", "_law_found", "_law_k"] ["_law_script", "_law_many"] (defScope s_contents) := ⟨rfl, rfl, rfl, by decide +kernel, rfl, by decide +kernel, by decide +kernel⟩
def spContents (K : PySem.W.Frag) : Sp := fun vs H Q _ => ∃ (a : Addr) (ns : List Int) (m : Int), vs = [.ref a, .int m] ∧ SqL K H a (ns.map V.int) ∧ 0 ≤ m ∧ m ≤ 60 ∧ ∀ (r : Addr) (H' : Hp) (cs : List Int), Same H H' → H r = none → H' r = some (.lst (cs.map V.int)) → cs.length = m.toNat → Q (.ref r) H'
section
variable {P : Program} {w : World} {K : PySem.W.Frag} {mg : Str → Option Value} {base : Heap} {f : Addr} {fd : FuncData}
seal PySem.eval PySem.spliced in
theorem ok_contents (F : Fun K "_law_contents" "_law_contents" s_contents f fd) (D__law_cell_at : Df P w K mg base "_law_cell_at" 1 ["_law_script", "_law_k"] (spCell K)) (m_range : mg "range" = none) : FnOk P w K mg base CX0 2 f fd ["_law_script", "_law_many"] (spContents K) := by
  have sc := sc_contents
  refine F.ok sc (fun vs H Q E h => ?_) (fun cdv A outer s H vs Q E hr h => ?_)
  · obtain ⟨a, ns, m, rfl, _⟩ := h
    rfl
  obtain ⟨a, ns, m, rfl, hS, h0, h60, q⟩ := h
  refine ⟨_, (pss_cons (ps_set (i := 2) sc.nd rfl (Or.inl rfl) (pe_lst pa_nil))
    (pss_cons (ps_for PassesOwn.never rfl (pi_range1 rfl m_range (pa_cons (pv 1) pa_nil)) (pg_name (i := 3) sc.nd rfl (Or.inl rfl)) (pss_one (ps_expr (pe_bmK K PySem.F.plainAttrs_list PySem.F.slot_list_append PySem.F.type_list_append mt_append (pv 2) (pa_cons (pe_op op_sub (pe_op op_mod (pe_op op_mul (pe_callD D__law_cell_at (hr.mono (by decide)) rfl (pa_cons (pv 0) (pa_cons (pv 3) pa_nil))) (pe_op op_add pe_int (pe_op op_mul pe_int (pv 3)))) (pe_op op_sub (pe_op op_mul pe_int (pe_op op_pow pe_int pe_int)) pe_int)) (pe_op op_sub (pe_op op_pow pe_int pe_int) pe_int)) pa_nil)))))
    (pss_one (ps_ret (pv 2))))), ?_⟩
  refine ⟨(by decide : 0 ≤ sizeLine), fun l hl => ?_⟩
  refine ⟨_, rfl, _, rfl, by omega, by omega, for_range (fun i σ H' => ∃ z cs, σ = [some (.ref a), some (.int m), some (.ref l), z] ∧ Same H H' ∧ H' l = some (.lst (cs.map V.int)) ∧ cs.length = i) ⟨none, [], rfl, same_new hl _, upd_same, rfl⟩ ?_ ?_⟩
  · rintro i σ H' hi ⟨z, cs, rfl, S, hl', hlen⟩
    refine ⟨_, rfl, .inl ⟨rfl, _, SqL.of hl'⟩, ?_⟩
    refine ⟨_, rfl, _, rfl, a, ns, _, rfl, S.seq hS, by omega, ?_⟩
    refine ⟨_, rfl, _, _, rfl, rfl, .inl ⟨by decide, by decide⟩, _, _, rfl, rfl, _, _, rfl, rfl, .inr ⟨by omega, by omega⟩, ?_⟩
    refine ⟨_, _, rfl, rfl, ⟨by decide, by decide, by decide⟩, _, _, rfl, rfl, .inl ⟨by decide, by decide⟩, _, _, rfl, rfl, _, _, rfl, rfl, (show (0 : Int) < _ by decide), ?_⟩
    refine ⟨_, _, rfl, rfl, ⟨by decide, by decide, by decide⟩, _, _, rfl, rfl, _, _, rfl, rfl, ?_⟩
    refine ⟨l, _, _, rfl, rfl, hl', by rw [List.length_map]; exact small1000 (by omega), ?_⟩
    exact ⟨_, cs ++ [_], rfl, S.wr hl _, by rw [List.map_append]; exact upd_same, by rw [List.length_append, hlen]; rfl⟩
  · rintro σ H' ⟨z, cs, rfl, S, hl', hlen⟩
    exact ⟨_, rfl, q l H' cs S hl hl' hlen⟩
end
end K10


namespace K10
open PySem L2
abbrev s_lclash : Stmt := top 21
abbrev s_diary : Stmt := top 23
theorem sc_lclash : FnScope ["_law_one", "_law_other"] ["_law_one", "_law_other"] (defScope s_lclash) := ⟨rfl, rfl, rfl, by decide +kernel, rfl, by decide +kernel, by decide +kernel⟩
theorem sc_diary : FnScope ["_law_script", "_law_many", "_law_top", "_law_lift", "_law_rows"] ["_law_script", "_law_many"] (defScope s_diary) := ⟨rfl, rfl, rfl, by decide +kernel, rfl, by decide +kernel, by decide +kernel⟩
/-- a deed whose boxes are all there -/
def DT (n : Nat) (H : Hp) (v : V) (_ : Unit) : Prop := ∃ d, T3 H v d ∧ okD d ∧ There n d
theorem stab_DT (n : Nat) : Stab (DT n) := ⟨fun S ⟨d, h, o⟩ => ⟨d, h.same S, o⟩, fun hl ⟨d, h, o⟩ => ⟨d, h.wr hl, o⟩⟩
theorem there_of {n : Nat} {H : Hp} : ∀ {vs : List V} {us : List Unit}, Paired (DT n H) vs us → ∃ ds : List D3, Paired (T3 H) vs ds ∧ (∀ d ∈ ds, okD d ∧ There n d) ∧ ds.length = us.length
  | _, _, .nil => ⟨[], .nil, (fun _ h => nomatch h), rfl⟩
  | _, _, .cons ⟨d, h, o⟩ t => by
    obtain ⟨ds, p, q, e⟩ := there_of t
    refine ⟨d :: ds, .cons h p, fun x hx => ?_, congrArg Nat.succ e⟩
    rcases List.mem_cons.mp hx with rfl | hx
    · exact o
    · exact q x hx
def spDiaryT (K : PySem.W.Frag) : Sp := fun vs H Q _ => ∃ (a : Addr) (ns : List Int) (m : Int), vs = [.ref a, .int m] ∧ SqL K H a (ns.map V.int) ∧ ns.length ≤ 63 ∧ 5 ≤ m ∧ m ≤ 60 ∧
  ∀ r H' ds, Same H H' → H r = none → LD H' r ds → (∀ d ∈ ds, okD d ∧ There m.toNat d) → ds.length ≤ 63 → Q (.ref r) H'
section
variable {P : Program} {w : World} {K : PySem.W.Frag} {mg : Str → Option Value} {base : Heap} {f : Addr} {fd : FuncData}
theorem ok_lclash (F : Fun K "_law_clash" "_law_clash" s_lclash f fd) : FnOk P w K mg base CX0 1 f fd ["_law_one", "_law_other"] spClashL := by
  have sc := sc_lclash
  refine F.ok sc (fun vs H Q E h => ?_) (fun cdv A outer s H vs Q E hr h => ?_)
  · obtain ⟨x, y, d, e, rfl, _⟩ := h
    rfl
  obtain ⟨x, y, d, e, rfl, ⟨a, rfl, ha⟩, ⟨b, rfl, hb⟩, q⟩ := h
  refine ⟨_, (pss_one (ps_ret (pe_or (pe_cmpR op_ne (pe_op op_and (pe_ix (ixT K) (pv 0) pe_int (fun _ _ => rfl)) (pe_op op_or (pe_ix (ixT K) (pv 1) pe_int (fun _ _ => rfl)) (pe_ix (ixT K) (pv 1) pe_int (fun _ _ => rfl)))) pe_int (nomark _)) (pe_one (pe_cmpR op_ne (pe_op op_and (pe_ix (ixT K) (pv 0) pe_int (fun _ _ => rfl)) (pe_ix (ixT K) (pv 1) pe_int (fun _ _ => rfl))) pe_int (nomark _)))))), ?_⟩
  have q' : Q (.bl (distB d e || !decide (V.int (Builtin.bitAnd d.2.1 e.2.2) = V.int 0))) H := by rw [PyProof.Rows.bitAnd_comm]; exact q
  refine ⟨_, rfl, _, _, _, _, rfl, rfl, SqT.of ha, at_l2, _, rfl, _, _, _, _, rfl, rfl, SqT.of hb, at_l1, _, rfl, _, _, _, _, rfl, rfl, SqT.of hb, at_l2, _, _, rfl, rfl, _, _, rfl, rfl, rfl, _, rfl, ite2 (fun c => ?_) (fun c => ?_)⟩
  · rw [show distB d e = true from c] at q'
    exact q'
  · rw [show distB d e = false from Bool.eq_false_iff.mpr c] at q'
    exact ⟨_, rfl, _, _, _, _, rfl, rfl, SqT.of ha, at_l1, _, rfl, _, _, _, _, rfl, rfl, SqT.of hb, at_l2, _, _, rfl, rfl, rfl, q'⟩
seal PySem.eval PySem.spliced in
theorem ok_diary (F : Fun K "_law_diary" "_law_diary" s_diary f fd) (D__law_cell_at : Df P w K mg base "_law_cell_at" 1 ["_law_script", "_law_k"] (spCell K)) (D__law_power : Df P w K mg base "_law_power" 1 ["_law_k"] spPower) (D__law_deed : Df P w K mg base "_law_deed" 2 ["_law_cell", "_law_lift"] spDeedW) :
    FnOk P w K mg base CX0 3 f fd ["_law_script", "_law_many"] (spDiaryT K) := by
  have sc := sc_diary
  refine F.ok sc (fun vs H Q E h => ?_) (fun cdv A outer s H vs Q E hr h => ?_)
  · obtain ⟨a, ns, m, rfl, _⟩ := h
    rfl
  obtain ⟨a, ns, m, rfl, hS, h63, h0, h60, q⟩ := h
  refine ⟨_, (pss_cons (ps_set (i := 2) sc.nd rfl (Or.inr rfl) (pe_callD D__law_power (hr.mono (by decide)) rfl (pa_cons (pv 1) pa_nil)))
    (pss_cons (ps_set (i := 3) sc.nd rfl (Or.inr rfl) (pe_callD D__law_power (hr.mono (by decide)) rfl (pa_cons (pe_op op_mod (pe_op op_fdiv (pe_callD D__law_cell_at (hr.mono (by decide)) rfl (pa_cons (pv 0) (pa_cons pe_int pa_nil))) pe_int) (pe_op op_sub (pv 1) pe_int)) pa_nil)))
    (pss_cons (ps_setC (i := 4) ["_law_cell"] [3] rfl sc.nd rfl rfl (comp_scope sc) (piL K (pe_slice (slL K) (pv 0) (po_some pe_int) (po_some pe_int))) (fun _ _ _ _ _ => ⟨(pg_name (i := 0) (nd_c sc (by decide +kernel)) rfl (Or.inl rfl)), pts_nil, (pe_callD D__law_deed (hr.mono (by decide)) rfl (pa_cons (pv 0) (pa_cons (pv 1) pa_nil)))⟩))
    (pss_one (ps_ret (pe_comp ["_law_row"] [2] rfl (comp_scope sc) (piL K (pv 4)) (fun _ _ _ _ _ => ⟨(pg_name (i := 0) (nd_c sc (by decide +kernel)) rfl (Or.inl rfl)), pts_nil, (pe_tup (pa_cons (pe_ix (ixT K) (pv 0) pe_int (fun _ _ => rfl)) (pa_cons (pe_op op_mod (pe_ix (ixT K) (pv 0) pe_int (fun _ _ => rfl)) (pv 1)) (pa_cons (pe_op op_mod (pe_ix (ixT K) (pv 0) pe_int (fun _ _ => rfl)) (pv 1)) pa_nil))))⟩))))))), ?_⟩
  have tp0 : (0 : Int) < 2 ^ m.toNat := Int.pow_pos (by decide)
  have tp1 : (2 : Int) ^ m.toNat ≤ 2 ^ 60 := pow_le_pow (by omega)
  refine ⟨_, rfl, _, rfl, by omega, by omega, ?_⟩
  have hm0 := Int.emod_nonneg (ns.getD (0 : Int).toNat 0 / 56) (show m - 4 ≠ 0 by omega)
  have hm1 := Int.emod_lt_of_pos (ns.getD (0 : Int).toNat 0 / 56) (show 0 < m - 4 by omega)
  refine ⟨_, rfl, a, ns, 0, rfl, hS, by decide, _, _, rfl, rfl, ⟨by decide, by decide⟩, _, rfl, _, _, rfl, rfl, _, _, rfl, rfl, (show (0 : Int) < m - 4 by omega), _, rfl, hm0, by omega, ?_⟩
  have hlf : (2 : Int) ^ (ns.getD (0 : Int).toNat 0 / 56 % (m - 4)).toNat ≤ 2 ^ 55 := pow_le_pow (by omega)
  have hlf0 : (0 : Int) < 2 ^ (ns.getD (0 : Int).toNat 0 / 56 % (m - 4)).toNat := Int.pow_pos (by decide)
  obtain ⟨ms, hms, hml⟩ := cut_ints ns (some 2) (some 62)
  refine ⟨_, rfl, _, rfl, _, rfl, a, _, rfl, hS, fun p hp => ?_⟩
  rw [hms]
  have S0 := same_new hp (.lst (ms.map V.int))
  refine ⟨p, rfl, ⟨_, SqL.of upd_same⟩, comp_grow stab_DP (ms.map V.int) (List.replicate ms.length ()) (by rw [List.length_map, List.length_replicate]) (small1000 (by rw [List.length_map]; omega)) (fun H' S' => SqL.of (S' _ _ upd_same)) ?_ ?_⟩
  · rintro i v _ hv _ H' Q' S' q'
    obtain ⟨cc, _, rfl⟩ := ints_get hv
    exact ⟨_, rfl, _, rfl, cc, _, rfl, by omega, hlf, fun x d H3 S3 t3 o3 => q' x H3 S3 ⟨d, t3, o3⟩⟩
  intro r1 ys H2 S2 hr1 e1 p1
  have l1 := Paired.length p1
  rw [List.length_replicate] at l1
  refine ⟨_, rfl, r1, rfl, ⟨_, SqL.of e1⟩, comp_grow (stab_DT m.toNat) ys (List.replicate ms.length ()) (by rw [l1, List.length_replicate]) (small1000 (by omega)) (fun H' S' => SqL.of (S' _ _ e1)) ?_ ?_⟩
  · rintro i v _ hv _ H' Q' S' q'
    obtain ⟨_, _, d, ⟨ta, rfl, tx⟩, okd⟩ := Paired.getL p1 hv
    have htx := S' _ _ tx
    refine ⟨_, rfl, _, _, _, _, rfl, rfl, SqT.of htx, at_l0, _, rfl, _, _, _, _, rfl, rfl, SqT.of htx, at_l1, _, rfl, _, _, rfl, rfl, tp0, _, rfl, _, _, _, _, rfl, rfl, SqT.of htx, at_l2, _, rfl, _, _, rfl, rfl, tp0, sm rfl, fun t ht => ?_⟩
    have k1 := Int.emod_nonneg d.2.1 (Int.ne_of_gt tp0)
    have k2 := Int.emod_nonneg d.2.2 (Int.ne_of_gt tp0)
    refine q' _ _ (same_new ht _) ⟨(d.1, d.2.1 % 2 ^ m.toNat, d.2.2 % 2 ^ m.toNat), ⟨t, rfl, upd_same⟩, okD_of (mod60 tp0 tp1) (mod60 tp0 tp1), ?_⟩
    exact ((bitOr_lt k1 k2 m.toNat).2).mpr ⟨Int.emod_lt_of_pos _ tp0, Int.emod_lt_of_pos _ tp0⟩
  intro r2 zs H3 S3 hr2 e2 p2
  obtain ⟨ds, pd, okds, hlen⟩ := there_of p2
  rw [List.length_replicate] at hlen
  exact q r2 H3 ds ((S0.trans S2).trans S3) ((S0.trans S2).free hr2) ⟨zs, e2, pd⟩ okds (by omega)
end
end K10

namespace K10
open PySem L2
abbrev s_passed : Stmt := top 24
theorem sc_passed : FnScope ["_law_rows", "_law_cells", "_law_now", "_law_cell", "_law_at", "_law_goal", "_law_far", "_law_moved"] ["_law_rows", "_law_cells"] (defScope s_passed) := ⟨rfl, rfl, rfl, by decide +kernel, rfl, by decide +kernel, by decide +kernel⟩
def idx (ds : List D3) : List D4 := (List.range ds.length).map fun k => (ds.getD k (0, 0, 0), (k : Int))
theorem idx_length (ds : List D3) : (idx ds).length = ds.length := by unfold idx; rw [List.length_map, List.length_range]
theorem idx_get {ds : List D3} {i : Nat} {p : D4} (h : (idx ds)[i]? = some p) : ds[i]? = some p.1 ∧ p.2 = (i : Int) := by
  have hi : i < ds.length := by have := (List.getElem?_eq_some_iff.mp h).1; rwa [idx_length] at this
  unfold idx at h
  rw [List.getElem?_map, List.getElem?_range hi] at h
  have e := Option.some.inj h
  subst e
  refine ⟨?_, rfl⟩
  show ds[i]? = some (ds.getD i (0, 0, 0))
  rw [List.getD_eq_getElem?_getD, List.getElem?_eq_getElem hi]; rfl
theorem idx_PQ {n : Nat} {σ : Nat → Int} {ds : List D3} (h : ∀ d ∈ ds, okD d ∧ There n d) : PQ n σ ds (idx ds) := by
  have e : (idx ds).map (·.1) = ds := by
    apply List.ext_getElem?
    intro i
    unfold idx
    rw [List.getElem?_map, List.getElem?_map]
    by_cases hi : i < ds.length
    · rw [List.getElem?_range hi, List.getElem?_eq_getElem hi, Option.map_some, Option.map_some, List.getD_eq_getElem?_getD, List.getElem?_eq_getElem hi]; rfl
    · rw [List.getElem?_eq_none (by rw [List.length_range]; omega), List.getElem?_eq_none (by omega)]; rfl
  refine ⟨by rw [e], ?_, idx_length ds, fun p hp => ?_⟩
  · rw [e]
    have lw : (wdsD n ds σ).length = ds.length := wds_length ds σ
    generalize wdsD n ds σ = ws at lw
    apply List.ext_getElem?
    intro i
    unfold idx
    rw [List.map_map, List.getElem?_map]
    by_cases hi : i < ds.length
    · rw [List.getElem?_range hi, List.getElem?_eq_getElem (by omega : i < ws.length)]
      show _ = some (ws.getD (i : Int).toNat 0)
      rw [Int.toNat_natCast, List.getD_eq_getElem?_getD, List.getElem?_eq_getElem (by omega : i < ws.length)]; rfl
    · rw [List.getElem?_eq_none (by omega), List.getElem?_eq_none (by rw [List.length_range]; omega)]; rfl
  · obtain ⟨i, hi, e1⟩ := List.getElem_of_mem hp
    obtain ⟨g1, g2⟩ := idx_get (i := i) (p := p) (by rw [← e1]; exact List.getElem?_eq_getElem hi)
    have := h p.1 (List.mem_of_getElem? g1)
    rw [idx_length] at hi
    exact ⟨this.1, this.2, by omega, by omega⟩
def spPassedOn : Sp := fun vs H Q _ => ∃ (a c : Addr) (ds : List D3) (ms : List Int) (n : Nat) (τ : Nat → Int), vs = [.ref a, .ref c] ∧ LD H a ds ∧ (∀ d ∈ ds, okD d ∧ There n d) ∧ ds.length ≤ 63 ∧ H c = some (.lst (ms.map V.int)) ∧ ms.length ≤ 63 ∧
  ∀ r ps H', Same H H' → LP H' r ps → PQ n τ ds ps → Q (.ref r) H'
/-- ahead of the inner loop, and behind it -/
def tGo (D : Ends) (σ : St) (H : Hp) : Prop := ∃ (a c nw : Addr) (vs : List V) (ps : List D4) (cell far : Int) (k : Nat) (z : Option V), σ = [some (.ref a), some (.ref c), some (.ref nw), some (.int cell), some (.int (k : Int)), some (.int (k : Int)), some (.int far), z] ∧
  H nw = some (.lst vs) ∧ Paired (P4 H) vs ps ∧ (∀ p ∈ ps, okD p.1) ∧ (k < ps.length ∨ ps = []) ∧ far < (k : Int) + 100 ∧
  ∀ g : Nat, k ≤ g → (g < ps.length ∨ ps = []) → (∀ j b a, k < j → j ≤ g → ps[k]? = some b → ps[j]? = some a → clashB b.1 a.1 = false) → D.nx [some (.ref a), some (.ref c), some (.ref nw), some (.int cell), some (.int (k : Int)), some (.int (g : Int)), some (.int far), z] H
section
variable {P : Program} {w : World} {K : PySem.W.Frag} {mg : Str → Option Value} {base : Heap} {f : Addr} {fd : FuncData}
seal PySem.eval PySem.spliced in
theorem ok_passed (F : Fun K "_law_passed_on" "_law_passed_on" s_passed f fd) (D__law_clash : Df P w K mg base "_law_clash" 1 ["_law_one", "_law_other"] spClashL) (m_range : mg "range" = none) (m_len : mg "len" = none) (m_max : mg "max" = none) :
    FnOk P w K mg base CX0 2 f fd ["_law_rows", "_law_cells"] spPassedOn := by
  have sc := sc_passed
  refine F.ok sc (fun vs H Q E h => ?_) (fun cdv A outer s H vs Q E hr h => ?_)
  · obtain ⟨a, c, ds, ms, n, τ, rfl, _⟩ := h
    rfl
  obtain ⟨a, c, ds, ms, n, τ, rfl, La, okd, hz, hc, hz2, q⟩ := h
  refine ⟨_, (pss_cons (ps_setC (i := 2) ["_law_k"] [0] rfl sc.nd rfl rfl (comp_scope sc) (pi_range1 rfl m_range (pa_cons (pe_callB (lenQ K) rfl m_len bt_len (pa_cons (pv 0) pa_nil)) pa_nil)) (fun _ _ _ _ _ => ⟨(pg_name (i := 0) (nd_c sc (by decide +kernel)) rfl (Or.inl rfl)), pts_nil, (pe_tup (pa_cons (pe_ix (ixL K) (pv 1) (pv 0) (fun _ _ => rfl)) (pa_cons (pv 0) pa_nil)))⟩))
    (pss_cons (ps_for PassesOwn.never rfl (piL K (pv 1)) (pg_name (i := 3) sc.nd rfl (Or.inl rfl)) (pss_cons (ps_set (i := 4) sc.nd rfl (Or.inl rfl) (pe_op op_mod (pe_op op_mod (pe_op op_mul (pe_op op_mod (pv 3) pe_int) pe_int) pe_int) (pe_callB (call_max2 rfl) rfl m_max bt_max (pa_cons pe_int (pa_cons (pe_callB (lenQ K) rfl m_len bt_len (pa_cons (pv 2) pa_nil)) pa_nil)))))
    (pss_cons (ps_set (i := 5) sc.nd rfl (Or.inl rfl) (pv 4))
    (pss_cons (ps_set (i := 6) sc.nd rfl (Or.inl rfl) (pe_op op_add (pv 4) (pe_op op_mod (pe_op op_mod (pv 3) pe_int) pe_int)))
    (pss_cons (PS.cut tGo  (ps_while PassesOwn.never (PW.pt (pw_and (pt_cmpR op_lt (pv 5) (pv 6) (nomark _)) (pw_and (pt_cmpR op_lt (pe_op op_add (pv 5) pe_int) (pe_callB (lenQ K) rfl m_len bt_len (pa_cons (pv 2) pa_nil)) (nomark _)) (pw_and1 (pt_not (pt_val (pe_callD D__law_clash (hr.mono (by decide)) rfl (pa_cons (pe_ix (ixT K) (pe_ix (ixL K) (pv 2) (pv 4) (fun _ _ => rfl)) pe_int (fun _ _ => rfl)) (pa_cons (pe_ix (ixT K) (pe_ix (ixL K) (pv 2) (pe_op op_add (pv 5) pe_int) (fun _ _ => rfl)) pe_int (fun _ _ => rfl)) pa_nil))))))))) (pss_one (ps_set (i := 5) sc.nd rfl (Or.inl rfl) (pe_op op_add (pv 5) pe_int))))  (fun D σ H h => by 
    obtain ⟨a, c, nw, vs, ps, cell, far, k, z, rfl, hn, pr, okp, hk, hfar, q⟩ := h
    have hl0 := Paired.length pr
    refine ⟨fun m σ H' => ∃ g : Nat, m = (far - (g : Int)).toNat ∧ σ = [some (.ref a), some (.ref c), some (.ref nw), some (.int cell), some (.int (k : Int)), some (.int (g : Int)), some (.int far), z] ∧ H' = H ∧ k ≤ g ∧ (g < ps.length ∨ ps = []) ∧ (∀ j b a, k < j → j ≤ g → ps[k]? = some b → ps[j]? = some a → clashB b.1 a.1 = false),
      ⟨_, k, rfl, rfl, rfl, Nat.le_refl _, hk, fun j b a h1 h2 => absurd h2 (by omega)⟩, ?_⟩
    rintro m σ H' ⟨g, rfl, rfl, rfl, hkg, hg, hcl⟩
    have ex := q g hkg hg hcl
    refine ⟨_, rfl, _, rfl, _, _, rfl, rfl, _, rfl, iteD (fun c1 => ?_) (fun c1 => iteF ex)⟩
    refine ⟨_, rfl, _, _, rfl, rfl, _, rfl, nw, vs, rfl, .inl (SqL.of hn), _, _, rfl, rfl, _, rfl, iteD (fun c2 => ?_) (fun c2 => iteF ex)⟩
    have hlt : g + 1 < ps.length := by omega
    have gb : ps[k]? = some ps[k] := List.getElem?_eq_getElem (by omega)
    have ga : ps[g + 1]? = some ps[g + 1] := List.getElem?_eq_getElem hlt
    obtain ⟨vb, gvb, qb, xb, rfl, eb, tb⟩ := Paired.getR pr gb
    obtain ⟨va, gva, qa, xa, rfl, ea, ta⟩ := Paired.getR pr ga
    have a1 : atI vs ((g : Int) + 1) = some (.ref qa) := by rw [show ((g : Int) + 1) = ((g + 1 : Nat) : Int) by omega]; exact atI_nat gva
    refine ⟨_, rfl, _, rfl, _, _, _, _, rfl, rfl, SqL.of hn, atI_nat gvb, _, _, _, _, rfl, rfl, SqT.of eb, at_l0, _, rfl, _, rfl, _, _, rfl, rfl, _, _, _, _, rfl, rfl, SqL.of hn, a1, _, _, _, _, rfl, rfl, SqT.of ea, at_l0, _, _, ps[k].1, ps[g + 1].1, rfl, tb, ta, _, rfl, iteB (fun _ => ex) (fun c3 => ?_)⟩
    have hc : clashB ps[k].1 ps[g + 1].1 = false := by
      rw [← clashL_eq (okp _ (List.getElem_mem _)) (okp _ (List.getElem_mem _))]
      exact c3
    refine ⟨fun σ' H'' => ∃ m', m' < (far - (g : Int)).toNat ∧ ∃ g : Nat, m' = (far - (g : Int)).toNat ∧ σ' = [some (.ref a), some (.ref c), some (.ref nw), some (.int cell), some (.int (k : Int)), some (.int (g : Int)), some (.int far), z] ∧ H'' = H' ∧ k ≤ g ∧ (g < ps.length ∨ ps = []) ∧ (∀ j b a, k < j → j ≤ g → ps[k]? = some b → ps[j]? = some a → clashB b.1 a.1 = false), fun _ _ h => h, ?_⟩
    refine ⟨_, rfl, _, _, rfl, rfl, (far - ((g + 1 : Nat) : Int)).toNat, by omega, g + 1, rfl, rfl, rfl, by omega, .inl hlt, fun j b' a' h1 h2 e1 e2 => ?_⟩
    by_cases ej : j = g + 1
    · subst ej
      rw [gb] at e1; cases e1
      rw [ga] at e2; cases e2
      exact hc
    · exact hcl j b' a' h1 (by omega) e1 e2
    ))
    (pss_cons (ps_set (i := 7) sc.nd rfl (Or.inl rfl) (pe_slice (slL K) (pv 2) (po_some (pv 4)) (po_some (pe_op op_add (pv 4) pe_int))))
    (pss_one (ps_set (i := 2) sc.nd rfl (Or.inl rfl) (pe_op op_cat (pe_op op_cat (pe_op op_cat (pe_slice (slL K) (pv 2) po_none (po_some (pv 4))) (pe_slice (slL K) (pv 2) (po_some (pe_op op_add (pv 4) pe_int)) (po_some (pe_op op_add (pv 5) pe_int)))) (pv 7)) (pe_slice (slL K) (pv 2) (po_some (pe_op op_add (pv 5) pe_int)) po_none))))))))))
    (pss_one (ps_ret (pv 2))))), ?_⟩
  obtain ⟨vs, ha, pr⟩ := id La
  have hl0 := Paired.length pr
  refine ⟨_, rfl, a, vs, rfl, .inl (SqL.of ha), _, rfl, by omega, by omega, ?_⟩
  rw [show ((vs.length : Int)).toNat = (idx ds).length by rw [Int.toNat_natCast, idx_length]; exact hl0]
  refine comp_growR (lo := 0) stab_P4 (idx ds) (small1000 (by rw [idx_length]; omega)) ?_ ?_
  · rintro i b hb H' Q' S' q'
    obtain ⟨g1, g2⟩ := idx_get hb
    obtain ⟨x, gx, tx⟩ := Paired.getR pr g1
    refine ⟨_, rfl, _, rfl, _, _, _, _, rfl, rfl, SqL.of (S' _ _ ha), at0 gx, _, rfl, sm rfl, fun t ht => q' _ _ (same_new ht _) ⟨t, x, rfl, ?_, (tx.same S').same (same_new ht _)⟩⟩
    rw [show b.2 = 0 + (i : Int) by rw [g2, Int.zero_add]]
    exact upd_same
  intro nw0 us H1 S1 hnw0 enw0 pn0
  refine ⟨_, rfl, c, rfl, ⟨_, SqL.of (S1 _ _ hc)⟩, for_list (xs := ms.map V.int) (fun i σ H' => ∃ nw ps z3 z4 z5 z6 z7, σ = [some (.ref a), some (.ref c), some (.ref nw), z3, z4, z5, z6, z7] ∧ Same H H' ∧ LP H' nw ps ∧ PQ n τ ds ps)
    ⟨nw0, idx ds, none, none, none, none, none, rfl, S1, ⟨us, enw0, pn0⟩, idx_PQ okd⟩ ?_ ?_ ?_⟩
  · rintro i σ H' _ ⟨nw, ps, z3, z4, z5, z6, z7, rfl, S, _⟩
    exact SqL.of (S _ _ hc)
  · rintro i x σ H' hx ⟨nw, ps, z3, z4, z5, z6, z7, rfl, S, ⟨us, en, pn⟩, PP⟩
    obtain ⟨cc, _, rfl⟩ := ints_get hx
    have hlu := Paired.length pn
    have hlp := PP.len
    have hmx : (0 : Int) < (if (us.length : Int) > 1 then (us.length : Int) else 1) := by split <;> omega
    refine ⟨_, rfl, _, _, rfl, rfl, (show (0 : Int) < _ by decide), _, _, rfl, rfl, .inr ⟨by decide, by decide⟩, _, _, rfl, rfl, (show (0 : Int) < _ by decide), _, rfl, nw, us, rfl, .inl (SqL.of en), _, _, rfl, _, _, rfl, rfl, hmx, ?_⟩
    have hk0 := Int.emod_nonneg (cc % 2147483647 * 48271 % 2147483629) (Int.ne_of_gt hmx)
    have hk1 := Int.emod_lt_of_pos (cc % 2147483647 * 48271 % 2147483629) hmx
    obtain ⟨k, hk⟩ := Int.eq_ofNat_of_zero_le hk0
    rw [hk] at hk1
    have hkl : k < ps.length ∨ ps = [] := by
      by_cases e : ps = []
      · exact .inr e
      · have : 0 < ps.length := List.length_pos_iff.mpr e
        left
        split at hk1 <;> omega
    refine ⟨_, rfl, ?_⟩
    refine ⟨_, rfl, _, rfl, _, _, rfl, rfl, (show (0 : Int) < _ by decide), _, _, rfl, rfl, (show (0 : Int) < 61 by decide), _, _, rfl, rfl, ?_⟩
    refine ⟨a, c, nw, us, ps, cc, (k : Int) + cc % 2147483629 % 61, k, z7, by rw [← hk]; rfl, en, pn, fun p hp => (PP.ok p hp).1, hkl, by omega, fun g hkg hg hcl => ?_⟩
    refine ⟨_, rfl, _, rfl, (k : Int), rfl, _, rfl, _, _, rfl, rfl, (k : Int) + 1, rfl, nw, us, rfl, SqL.of en, fun pm hpm => ?_⟩
    have S1 := same_new hpm (.lst (cutV us (some (k : Int)) (some ((k : Int) + 1))))
    refine ⟨_, rfl, _, rfl, (k : Int), rfl, nw, us, rfl, SqL.of (S1 _ _ en), fun p1 hp1 => ?_⟩
    have S2 := S1.new hp1 (.lst (cutV us none (some (k : Int))))
    refine ⟨_, rfl, _, rfl, _, _, rfl, rfl, (k : Int) + 1, rfl, _, rfl, _, _, rfl, rfl, (g : Int) + 1, rfl, nw, us, rfl, SqL.of (S2 _ _ en), fun p2 hp2 => ?_⟩
    have S3 := S2.new hp2 (.lst (cutV us (some ((k : Int) + 1)) (some ((g : Int) + 1))))
    have b1 := cutV_length us (some (k : Int)) (some ((k : Int) + 1))
    have b2 := cutV_length us none (some (k : Int))
    have b3 := cutV_length us (some ((k : Int) + 1)) (some ((g : Int) + 1))
    have b4 := cutV_length us (some ((g : Int) + 1)) none
    refine ⟨p1, p2, _, _, rfl, rfl, new_at hp2 upd_same, upd_same, Nat.le_of_lt (small1000 (by omega)), fun p3 hp3 => ?_⟩
    have S4 := S3.new hp3 (.lst (cutV us none (some (k : Int)) ++ cutV us (some ((k : Int) + 1)) (some ((g : Int) + 1))))
    refine ⟨_, rfl, p3, pm, _, _, rfl, rfl, upd_same, new_at hp3 (new_at hp2 (new_at hp1 upd_same)), Nat.le_of_lt (small1000 (by rw [List.length_append]; omega)), fun p4 hp4 => ?_⟩
    have S5 := S4.new hp4 (.lst (cutV us none (some (k : Int)) ++ cutV us (some ((k : Int) + 1)) (some ((g : Int) + 1)) ++ cutV us (some (k : Int)) (some ((k : Int) + 1))))
    refine ⟨_, rfl, _, rfl, _, _, rfl, rfl, (g : Int) + 1, rfl, nw, us, rfl, SqL.of (S5 _ _ en), fun p5 hp5 => ?_⟩
    have S6 := S5.new hp5 (.lst (cutV us (some ((g : Int) + 1)) none))
    refine ⟨p4, p5, _, _, rfl, rfl, new_at hp5 upd_same, upd_same, Nat.le_of_lt (small1000 (by rw [List.length_append, List.length_append]; omega)), fun p6 hp6 => ?_⟩
    have S7 := S6.new hp6 (.lst (cutV us none (some (k : Int)) ++ cutV us (some ((k : Int) + 1)) (some ((g : Int) + 1)) ++ cutV us (some (k : Int)) (some ((k : Int) + 1)) ++ cutV us (some ((g : Int) + 1)) none))
    by_cases e0 : ps = []
    · have eu : us = [] := List.length_eq_zero_iff.mp (by rw [hlu, e0]; rfl)
      have z : ∀ lo hi, cutV us lo hi = [] := fun lo hi => List.length_eq_zero_iff.mp (by have := cutV_length us lo hi; rw [eu] at this ⊢; simpa using this)
      refine ⟨p6, ps, _, _, _, _, _, rfl, S.trans S7, ⟨_, upd_same, ?_⟩, PP⟩
      rw [z, z, z, z, e0]
      exact .nil
    · have hk' : k < ps.length := hkl.resolve_right e0
      have hg' : g < ps.length := hg.resolve_right e0
      have e1 : cutV us none (some (k : Int)) = us.take k := by rw [cut_to (by omega), Int.toNat_natCast]
      have e2 : cutV us (some ((k : Int) + 1)) (some ((g : Int) + 1)) = (us.drop (k + 1)).take (g - k) := by
        rw [cut_mid (by omega) (by omega) (by omega), show ((k : Int) + 1).toNat = k + 1 by omega, show ((g : Int) + 1).toNat = g + 1 by omega, show g + 1 - (k + 1) = g - k by omega]
      have e3 : cutV us (some (k : Int)) (some ((k : Int) + 1)) = (us.drop k).take 1 := by
        rw [cut_mid (by omega) (by omega) (by omega), show ((k : Int) + 1).toNat = k + 1 by omega, Int.toNat_natCast, show k + 1 - k = 1 by omega]
      have e4 : cutV us (some ((g : Int) + 1)) none = us.drop (g + 1) := by
        rw [cut_from (by omega) (by omega), show ((g : Int) + 1).toNat = g + 1 by omega]
      have d1 : (ps.drop k).take 1 = [ps[k]] := by rw [List.drop_eq_getElem_cons hk']; rfl
      have spl : ps = ps.take k ++ ps[k] :: ((ps.drop (k + 1)).take (g - k) ++ ps.drop (g + 1)) := by
        have h1 : ps.drop (g + 1) = (ps.drop (k + 1)).drop (g - k) := by rw [List.drop_drop, show k + 1 + (g - k) = g + 1 by omega]
        rw [h1, List.take_append_drop, ← List.drop_eq_getElem_cons hk', List.take_append_drop]
      have PP' := PP
      rw [spl] at PP'
      have PN := PP'.pass fun x hx => by
        obtain ⟨j, hj, ej⟩ := List.getElem_of_mem hx
        have hj' : j < g - k := by rw [List.length_take] at hj; omega
        have gj : ps[k + 1 + j]? = some x := by
          rw [← ej, List.getElem_take, List.getElem_drop]
          exact List.getElem?_eq_getElem (by omega)
        exact hcl (k + 1 + j) ps[k] x (by omega) (by omega) (List.getElem?_eq_getElem hk') gj
      refine ⟨p6, ps.take k ++ ((ps.drop (k + 1)).take (g - k) ++ ps[k] :: ps.drop (g + 1)), _, _, _, _, _, rfl, S.trans S7, ⟨_, upd_same, ?_⟩, PN⟩
      have pl : ∀ HX : Hp, Paired (P4 HX) us ps → Paired (P4 HX) (cutV us none (some (k : Int)) ++ cutV us (some ((k : Int) + 1)) (some ((g : Int) + 1)) ++ cutV us (some (k : Int)) (some ((k : Int) + 1)) ++ cutV us (some ((g : Int) + 1)) none) (ps.take k ++ ((ps.drop (k + 1)).take (g - k) ++ ps[k] :: ps.drop (g + 1))) := fun HX pq => by
        rw [e1, e2, e3, e4, show ps.take k ++ ((ps.drop (k + 1)).take (g - k) ++ ps[k] :: ps.drop (g + 1)) = ps.take k ++ (ps.drop (k + 1)).take (g - k) ++ (ps.drop k).take 1 ++ ps.drop (g + 1) by rw [d1]; simp]
        exact Paired.app (Paired.app (Paired.app (Paired.tk _ pq) (Paired.tk _ (Paired.dp _ pq))) (Paired.tk _ (Paired.dp _ pq))) (Paired.dp _ pq)
      exact pl _ (stab_P4.list S7 pn)
  · rintro σ H' ⟨nw, ps, z3, z4, z5, z6, z7, rfl, S, L, PP⟩
    exact ⟨_, rfl, q nw ps H' S L PP⟩
end
end K10

namespace K10
open PySem L2
abbrev s_told : Stmt := top 25
abbrev s_pairs : Stmt := top 26
theorem sc_told : FnScope ["_law_found", "_law_many", "_law_boxes"] ["_law_found", "_law_many", "_law_boxes"] (defScope s_told) := ⟨rfl, rfl, rfl, by decide +kernel, rfl, by decide +kernel, by decide +kernel⟩
theorem sc_pairs : FnScope ["_law_rows", "_law_said"] ["_law_rows", "_law_said"] (defScope s_pairs) := ⟨rfl, rfl, rfl, by decide +kernel, rfl, by decide +kernel, by decide +kernel⟩
def spTold : Sp := fun vs H Q _ => ∃ (a p q : Addr) (ws cs : List Int) (n m : Int), vs = [.ref a, .int n, .int m] ∧ H a = some (.tup [.ref p, .ref q]) ∧ H p = some (.lst (ws.map V.int)) ∧ H q = some (.lst (cs.map V.int)) ∧ ws.length ≤ 400 ∧ cs.length ≤ 400 ∧ (ws.length : Int) = n ∧ (cs.length : Int) = m ∧ ∀ H', Same H H' → Q (.bl true) H'
def spPairs : Sp := fun vs H Q _ => ∃ (a b : Addr) (ds : List D3) (ws : List Int), vs = [.ref a, .ref b] ∧ LD H a ds ∧ H b = some (.lst (ws.map V.int)) ∧ ds.length < 64 ∧ ∀ r H', Same H H' → LP H' r (srt4 (ds.zip ws)) → Q (.ref r) H'
section
variable {P : Program} {w : World} {K : PySem.W.Frag} {mg : Str → Option Value} {base : Heap} {f : Addr} {fd : FuncData}
seal PySem.eval PySem.spliced in
theorem ok_told (F : Fun K "_law_told" "_law_told" s_told f fd) (D__law_whole : Df P w K mg base "_law_whole" 1 ["_law_found"] spWholeI) (m_isinstance : mg "isinstance" = none) (m_tuple : mg "tuple" = none) (m_list : mg "list" = none) (m_len : mg "len" = none) : FnOk P w K mg base CX0 2 f fd ["_law_found", "_law_many", "_law_boxes"] spTold := by
  have sc := sc_told
  refine F.ok sc (fun vs H Q E h => ?_) (fun cdv A outer s H vs Q E hr h => ?_)
  · obtain ⟨a, p, q, ws, cs, n, m, rfl, _⟩ := h
    rfl
  obtain ⟨a, p, q, ws, cs, n, m, rfl, ha, hp, hq, hz1, hz2, hn, hm, qq⟩ := h
  refine ⟨_, (pss_cons (ps_if (PW.pt (pw_or (pt_not (pt_val (pe_callB (isI K) rfl m_isinstance bt_isinstance (pa_cons (pv 0) (pa_cons (pe_type rfl m_tuple bt_tuple) pa_nil))))) (pw_or1 (pt_cmpR op_ne (pe_callB (lenQ K) rfl m_len bt_len (pa_cons (pv 0) pa_nil)) pe_int (nomark _))))) (pss_one (ps_ret pe_bl)) pss_nil)
    (pss_cons (ps_if (PW.pt (pw_or (pt_not (pt_val (pe_callB (isI K) rfl m_isinstance bt_isinstance (pa_cons (pe_ix (ixT K) (pv 0) pe_int (fun _ _ => rfl)) (pa_cons (pe_type rfl m_list bt_list) pa_nil))))) (pw_or1 (pt_not (pt_val (pe_callB (isI K) rfl m_isinstance bt_isinstance (pa_cons (pe_ix (ixT K) (pv 0) pe_int (fun _ _ => rfl)) (pa_cons (pe_type rfl m_list bt_list) pa_nil)))))))) (pss_one (ps_ret pe_bl)) pss_nil)
    (pss_cons (ps_if (pt_cmpR (op_neD hr.units) (pe_comp ["_law_number"] [] rfl (comp_scope sc) (piL K (pe_op op_cat (pe_ix (ixT K) (pv 0) pe_int (fun _ _ => rfl)) (pe_ix (ixT K) (pv 0) pe_int (fun _ _ => rfl)))) (fun _ _ _ _ _ => ⟨(pg_name (i := 0) (nd_c sc (by decide +kernel)) rfl (Or.inl rfl)), (pts_one (pt_not (pt_val (pe_callD D__law_whole (hr.mono (by decide)) rfl (pa_cons (pv 0) pa_nil))))), (pv 0)⟩)) (pe_lst pa_nil) (nomark _)) (pss_one (ps_ret pe_bl)) pss_nil)
    (pss_one (ps_ret (pe_and (pe_cmpR op_eq (pe_callB (lenQ K) rfl m_len bt_len (pa_cons (pe_ix (ixT K) (pv 0) pe_int (fun _ _ => rfl)) pa_nil)) (pv 1) (nomark _)) (pe_one (pe_cmpR op_eq (pe_callB (lenQ K) rfl m_len bt_len (pa_cons (pe_ix (ixT K) (pv 0) pe_int (fun _ _ => rfl)) pa_nil)) (pv 2) (nomark _))))))))), ?_⟩
  refine ⟨_, rfl, _, _, _, _, true, rfl, rfl, .tup ha, kit_same, true, rfl, iteF ?_⟩
  refine ⟨_, rfl, a, _, rfl, .inr (SqT.of ha), rfl, _, rfl, iteF ?_⟩
  refine ⟨_, rfl, _, _, _, _, rfl, rfl, SqT.of ha, at_l0, _, _, _, _, true, rfl, rfl, .lst hp, kit_same, true, rfl, iteF ?_⟩
  refine ⟨_, rfl, _, _, _, _, rfl, rfl, SqT.of ha, at_l1, _, _, _, _, true, rfl, rfl, .lst hq, kit_same, true, rfl, iteF ?_⟩
  refine ⟨_, rfl, _, _, _, _, rfl, rfl, SqT.of ha, at_l0, _, rfl, _, _, _, _, rfl, rfl, SqT.of ha, at_l1, p, q, _, _, rfl, rfl, hp, hq, ?_, fun cc hcc => ?_⟩
  · rw [List.length_map, List.length_map]; exact Nat.le_of_lt (small1000 (by omega))
  have S1 := same_new hcc (.lst (ws.map V.int ++ cs.map V.int))
  refine ⟨cc, rfl, ⟨_, SqL.of upd_same⟩, comp_list (xs := ws.map V.int ++ cs.map V.int) (fun D i ys H' => Same (upd H cc (.lst (ws.map V.int ++ cs.map V.int))) H' ∧ H' D = some (.lst []) ∧ ys = []) ?_ (fun D hD => ⟨same_new hD _, upd_same, rfl⟩) ?_ ?_ ?_⟩
  · rw [List.length_append, List.length_map, List.length_map]; exact small1000 (by omega)
  · rintro D i ys H' hD hi ⟨S, hl, rfl⟩
    exact ⟨SqL.of (S _ _ upd_same), hl, Nat.zero_le _⟩
  · rintro D i x ys H' hD hx ⟨S, hl, rfl⟩
    rw [← List.map_append] at hx
    obtain ⟨nn, _, rfl⟩ := ints_get hx
    exact ⟨rfl, _, rfl, nn, rfl, true, rfl, S, hl, rfl⟩
  · rintro D ys H' hD ⟨S, hl, rfl⟩
    refine ⟨(by decide : 0 ≤ sizeLine), fun e he => ?_⟩
    have S3 := (S1.trans S).new he (.lst [])
    refine ⟨dL [], dL [], .lst (new_at he hl) .nil, .lst upd_same .nil, by decide, ?_⟩
    rw [enc_dL.dec]
    refine ⟨_, rfl, iteNS rfl ?_⟩
    refine ⟨_, rfl, _, _, _, _, rfl, rfl, SqT.of (S3 _ _ ha), at_l0, p, _, rfl, .inl (SqL.of (S3 _ _ hp)), _, rfl, rfl, _, rfl, iteI (fun _ => ?_) (fun c => absurd (by rw [List.length_map]; exact hn) c)⟩
    refine ⟨_, rfl, _, _, _, _, rfl, rfl, SqT.of (S3 _ _ ha), at_l1, q, _, rfl, .inl (SqL.of (S3 _ _ hq)), _, rfl, rfl, ?_⟩
    rw [List.length_map, hm, decide_eq_true rfl]
    exact qq _ S3
seal PySem.eval PySem.spliced in
theorem ok_pairs (F : Fun K "_law_pairs" "_law_pairs" s_pairs f fd) (m_zip : mg "zip" = none) (m_sorted : mg "sorted" = none) : FnOk P w K mg base CX0 2 f fd ["_law_rows", "_law_said"] spPairs := by
  have sc := sc_pairs
  refine F.ok sc (fun vs H Q E h => ?_) (fun cdv A outer s H vs Q E hr h => ?_)
  · obtain ⟨a, b, ds, ws, rfl, _⟩ := h
    rfl
  obtain ⟨a, b, ds, ws, rfl, ⟨vs, ha, pr⟩, hb, hz, q⟩ := h
  refine ⟨_, (pss_one (ps_ret (pe_callB (call_sortedP hr.units) rfl m_sorted bt_sorted (pa_cons (pe_comp ["_law_row", "_law_word"] [] rfl (comp_scope sc) (piZ K rfl m_zip (pa_cons (pv 0) (pa_cons (pv 1) pa_nil))) (fun _ _ _ _ _ => ⟨(pgT K (n := 2) rfl (pgs_cons (pg_name (i := 0) (nd_c sc (by decide +kernel)) rfl (Or.inl rfl)) (pgs_cons (pg_name (i := 1) (nd_c sc (by decide +kernel)) rfl (Or.inl rfl)) pgs_nil))), pts_nil, (pe_tup (pa_cons (pv 0) (pa_cons (pv 1) pa_nil)))⟩)) pa_nil)))), ?_⟩
  have hl0 := Paired.length pr
  refine ⟨_, rfl, _, rfl, a, b, _, _, rfl, SqL.of ha, SqL.of hb, ?_⟩
  refine comp_zip (k := kL) (xs := vs) (ys := ws.map V.int) (fun D i zs H' => Same H H' ∧ H' D = some (.lst zs) ∧ Paired (P4 H') zs ((ds.zip ws).take i)) ?_ (fun D hD => ⟨same_new hD _, upd_same, .nil⟩) ?_ ?_ ?_
  · have := small1000 (n := vs.length) (by omega); omega
  · rintro D i zs H' hD hi ⟨S, hl, p⟩
    refine ⟨⟨SqL.of (S _ _ ha), SqL.of (S _ _ hb)⟩, hl, ?_⟩
    rw [Paired.length p, List.length_take]; omega
  · rintro D i x' y' p zs H' hD hx' hy' hp ⟨S, hl, pz⟩
    obtain ⟨d1, g1, t1⟩ := Paired.getL pr hx'
    obtain ⟨h, g2, rfl⟩ := ints_get hy'
    have S' := same_new hp (.tup [x', .int h])
    have g3 : (ds.zip ws)[i]? = some (d1, h) := List.getElem?_zip_eq_some.mpr ⟨g1, g2⟩
    refine ⟨p, _, rfl, SqT.of upd_same, rfl, _, _, rfl, _, _, rfl, rfl, rfl, ?_⟩
    refine ⟨_, rfl, _, rfl, sm rfl, fun t ht => ⟨new_at ht (new_at hp hl), ?_⟩⟩
    have S2 := S'.new ht (.tup [x', .int h])
    refine ⟨(S.trans S2).wr hD _, upd_same, ?_⟩
    rw [List.take_add_one, g3]
    exact Paired.app (stab_P4.listW (S2 _ _ hl) (stab_P4.list S2 pz)) (.cons (stab_P4.wr (S2 _ _ hl) ⟨t, x', rfl, upd_same, t1.same (S.trans S2)⟩) .nil)
  · rintro D zs H' hD ⟨S, hl, pz⟩
    rw [List.take_of_length_le (by rw [List.length_zip, List.length_map]; omega)] at pz
    refine ⟨D, ds.zip ws, rfl, ⟨zs, hl, pz⟩, by rw [List.length_zip]; omega, fun r vs' hr' pv => ?_⟩
    have S2 := same_new hr' (.lst vs')
    exact q r _ (S.trans S2) ⟨vs', upd_same, stab_P4.list S2 pv⟩
end
end K10

namespace K10
open PySem L2
abbrev s_law : Stmt := top 27
theorem sc_law : FnScope ["_law_script", "_law_many", "_law_contents_here", "_law_one", "_law_moved", "_law_other", "_law_third", "_law_level", "_law_first", "_law_found", "_law_last", "_law_told_here"] ["_law_script"] (defScope s_law) := ⟨rfl, rfl, rfl, by decide +kernel, rfl, by decide +kernel, by decide +kernel⟩
theorem Paired.rev {α β : Type} {F : α → β → Prop} : ∀ {l₁ : List α} {l₂ : List β}, Paired F l₁ l₂ → Paired F l₁.reverse l₂.reverse
  | _, _, .nil => .nil
  | _, _, .cons h t => by
    rw [List.reverse_cons, List.reverse_cons]
    exact L2.Paired.app (Paired.rev t) (.cons h .nil)
/-- a layer, turned about or not -/
def gg (b : Bool) (x : List D3) : List D3 := if b = true then x.reverse else x
theorem gg_perm (b : Bool) (x : List D3) : (gg b x).Perm x := by
  unfold gg
  cases b with
  | true => exact List.reverse_perm x
  | false => exact .refl _
theorem rows_gg (b : Bool) (ds : List D3) : RowsOk clashB ds ((layF ds).map (gg b)) := by
  refine ⟨by rw [List.length_map, layF_length], fun k r h => ?_⟩
  rw [List.getElem?_map] at h
  obtain ⟨x, hx, rfl⟩ := Option.map_eq_some_iff.mp h
  have hk : k < nL clashB ds := by
    have := (List.getElem?_eq_some_iff.mp hx).1
    rwa [layF_length] at this
  rw [layF_get hk] at hx
  have e := Option.some.inj hx
  subst e
  exact (gg_perm b _).trans (srt_perm _)
theorem part_le (rs : List (List D3)) (i : Nat) : (rs.take i).flatten.length ≤ rs.flatten.length := by
  have e : rs.flatten = (rs.take i).flatten ++ (rs.drop i).flatten := by rw [← List.flatten_append, List.take_append_drop]
  rw [e, List.length_append]
  omega
section
variable {P : Program} {w : World} {K : PySem.W.Frag} {mg : Str → Option Value} {base : Heap} {f : Addr} {fd : FuncData}
seal PySem.eval PySem.spliced in
theorem ok_law {C : Addr} (F : Fun K "law" "law" s_law f fd) (D__law_cell_at : Df P w K mg base "_law_cell_at" 1 ["_law_script", "_law_k"] (spCell K)) (D__law_contents : Df P w K mg base "_law_contents" 2 ["_law_script", "_law_many"] (spContents K)) (D__law_diary : Df P w K mg base "_law_diary" 3 ["_law_script", "_law_many"] (spDiaryT K))
    (D__law_passed_on : Df P w K mg base "_law_passed_on" 2 ["_law_rows", "_law_cells"] spPassedOn) (D_layers : Df P w K mg base "layers" 5 ["diary"] spLayers) (D_done : DfX P w K mg base "done" 3 ["diary", "contents"] (spDone C)) (D__law_told : Df P w K mg base "_law_told" 2 ["_law_found", "_law_many", "_law_boxes"] spTold) (D__law_pairs : Df P w K mg base "_law_pairs" 2 ["_law_rows", "_law_said"] spPairs)
    (m_list : mg "list" = none) (m_len : mg "len" = none) (m_reversed : mg "reversed" = none) : FnOk P w K mg base CX0 6 f fd ["_law_script"] (spLaw K) := by
  have sc := sc_law
  refine F.ok sc (fun vs H Q E h => ?_) (fun cdv A outer s H vs Q E hr h => ?_)
  · obtain ⟨a, ns, rfl, _⟩ := h
    rfl
  obtain ⟨a, ns, rfl, hS, h63, q⟩ := h
  refine ⟨_, (pss_cons (ps_set (i := 1) sc.nd rfl (Or.inl rfl) (pe_op op_add pe_int (pe_op op_mod (pe_callD D__law_cell_at (hr.mono (by decide)) rfl (pa_cons (pv 0) (pa_cons pe_int pa_nil))) pe_int)))
    (pss_cons (ps_set (i := 2) sc.nd rfl (Or.inl rfl) (pe_callD D__law_contents (hr.mono (by decide)) rfl (pa_cons (pv 0) (pa_cons (pv 1) pa_nil))))
    (pss_cons (ps_set (i := 3) sc.nd rfl (Or.inl rfl) (pe_callD D__law_diary (hr.mono (by decide)) rfl (pa_cons (pv 0) (pa_cons (pv 1) pa_nil))))
    (pss_cons (ps_set (i := 4) sc.nd rfl (Or.inl rfl) (pe_callD D__law_passed_on (hr.mono (by decide)) rfl (pa_cons (pv 3) (pa_cons (pe_slice (slL K) (pv 0) (po_some pe_int) (po_some pe_int)) pa_nil))))
    (pss_cons (ps_setC (i := 5) ["_law_row", "_law_place"] [] rfl sc.nd rfl rfl (comp_scope sc) (piL K (pv 4)) (fun _ _ _ _ _ => ⟨(pgT K (n := 2) rfl (pgs_cons (pg_name (i := 0) (nd_c sc (by decide +kernel)) rfl (Or.inl rfl)) (pgs_cons (pg_name (i := 1) (nd_c sc (by decide +kernel)) rfl (Or.inl rfl)) pgs_nil))), pts_nil, (pv 0)⟩))
    (pss_cons (ps_set (i := 6) sc.nd rfl (Or.inl rfl) (pe_lst pa_nil))
    (pss_cons (ps_for PassesOwn.never rfl (piL K (pe_callD D_layers (hr.mono (by decide)) rfl (pa_cons (pe_callTy (listOf K) rfl m_list bt_list (pa_cons (pv 3) pa_nil)) pa_nil))) (pg_name (i := 7) sc.nd rfl (Or.inl rfl)) (pss_cons (ps_if (pt_cmpR op_eq (pe_op op_mod (pe_callD D__law_cell_at (hr.mono (by decide)) rfl (pa_cons (pv 0) (pa_cons pe_int pa_nil))) pe_int) pe_int (nomark _)) (pss_one (ps_set (i := 7) sc.nd rfl (Or.inl rfl) (pe_listrev K rfl (pv 7) rfl m_list rfl m_reversed))) pss_nil)
    (pss_one (ps_set (i := 6) sc.nd rfl (Or.inl rfl) (pe_op op_cat (pv 6) (pv 7))))))
    (pss_cons (ps_set (i := 8) sc.nd rfl (Or.inr rfl) (pe_callX D_done (hr.mono (by decide)) rfl (pa_cons (pe_callTy (listOf K) rfl m_list bt_list (pa_cons (pv 3) pa_nil)) (pa_cons (pe_callTy (listOf K) rfl m_list bt_list (pa_cons (pv 2) pa_nil)) pa_nil))))
    (pss_cons (ps_set (i := 9) sc.nd rfl (Or.inl rfl) (pe_callX D_done (hr.mono (by decide)) rfl (pa_cons (pe_callTy (listOf K) rfl m_list bt_list (pa_cons (pv 5) pa_nil)) (pa_cons (pe_callTy (listOf K) rfl m_list bt_list (pa_cons (pv 2) pa_nil)) pa_nil))))
    (pss_cons (ps_set (i := 10) sc.nd rfl (Or.inl rfl) (pe_callX D_done (hr.mono (by decide)) rfl (pa_cons (pe_callTy (listOf K) rfl m_list bt_list (pa_cons (pv 6) pa_nil)) (pa_cons (pe_callTy (listOf K) rfl m_list bt_list (pa_cons (pv 2) pa_nil)) pa_nil))))
    (pss_cons (ps_for PassesOwn.never rfl (piL K (pe_lst (pa_cons (pv 8) (pa_cons (pv 9) (pa_cons (pv 10) pa_nil))))) (pg_name (i := 11) sc.nd rfl (Or.inl rfl)) (pss_one (ps_if (pt_not (pt_val (pe_callD D__law_told (hr.mono (by decide)) rfl (pa_cons (pv 11) (pa_cons (pe_callB (lenQ K) rfl m_len bt_len (pa_cons (pv 3) pa_nil)) (pa_cons (pv 1) pa_nil)))))) (pss_one (ps_ret pe_bl)) pss_nil)))
    (pss_cons (ps_if (PW.pt (pw_or (pt_cmpR (op_neD hr.units) (pe_ix (ixT K) (pv 9) pe_int (fun _ _ => rfl)) (pe_ix (ixT K) (pv 8) pe_int (fun _ _ => rfl)) (nomark _)) (pw_or1 (pt_cmpR (op_neD hr.units) (pe_ix (ixT K) (pv 10) pe_int (fun _ _ => rfl)) (pe_ix (ixT K) (pv 8) pe_int (fun _ _ => rfl)) (nomark _))))) (pss_one (ps_ret pe_bl)) pss_nil)
    (pss_cons (ps_if (pt_cmpR (op_neD hr.units) (pe_ix (ixT K) (pv 9) pe_int (fun _ _ => rfl)) (pe_comp ["_law_row", "_law_place"] [8] rfl (comp_scope sc) (piL K (pv 4)) (fun _ _ _ _ _ => ⟨(pgT K (n := 2) rfl (pgs_cons (pg_name (i := 0) (nd_c sc (by decide +kernel)) rfl (Or.inl rfl)) (pgs_cons (pg_name (i := 1) (nd_c sc (by decide +kernel)) rfl (Or.inl rfl)) pgs_nil))), pts_nil, (pe_ix (ixL K) (pe_ix (ixT K) (pv 2) pe_int (fun _ _ => rfl)) (pv 1) (fun _ _ => rfl))⟩)) (nomark _)) (pss_one (ps_ret pe_bl)) pss_nil)
    (pss_one (ps_ret (pe_cmpR (op_eqD hr.units) (pe_callD D__law_pairs (hr.mono (by decide)) rfl (pa_cons (pv 6) (pa_cons (pe_ix (ixT K) (pv 10) pe_int (fun _ _ => rfl)) pa_nil))) (pe_callD D__law_pairs (hr.mono (by decide)) rfl (pa_cons (pv 3) (pa_cons (pe_ix (ixT K) (pv 8) pe_int (fun _ _ => rfl)) pa_nil))) (nomark _))))))))))))))))), ?_⟩
  refine ⟨_, rfl, a, ns, 0, rfl, hS, by decide, _, _, rfl, rfl, (show (0 : Int) < 56 by decide), _, _, rfl, rfl, ?_⟩
  have hm : 5 ≤ (5 + ns.getD (0 : Int).toNat 0 % 56) ∧ (5 + ns.getD (0 : Int).toNat 0 % 56) ≤ 60 := by omega
  refine ⟨_, rfl, _, rfl, a, ns, (5 + ns.getD (0 : Int).toNat 0 % 56), rfl, hS, by omega, hm.2, fun c H1 cs S1 hc1 ec1 lc => ?_⟩
  refine ⟨_, rfl, _, rfl, a, ns, (5 + ns.getD (0 : Int).toNat 0 % 56), rfl, S1.seq hS, h63, hm.1, hm.2, fun r H2 ds S2 hr2 L2' okd len => ?_⟩
  have ec2 := S2 _ _ ec1
  have hth : ∀ d ∈ ds, okD d ∧ There cs.length d := by rw [lc]; exact okd
  have hS2 := (S1.trans S2).seq hS
  obtain ⟨ms, hms, hml⟩ := cut_ints ns (some 2) (some 62)
  refine ⟨_, rfl, _, rfl, _, rfl, _, rfl, a, _, rfl, hS2, fun p hp => ?_⟩
  rw [hms]
  have S3 := same_new hp (.lst (ms.map V.int))
  refine ⟨r, p, ds, ms, cs.length, atD cs, rfl, L2'.same S3, hth, len, upd_same, by omega, fun mv ps H4 S4 Lm PP => ?_⟩
  have S24 := S3.trans S4
  obtain ⟨us, em, pm⟩ := id Lm
  have hlu := Paired.length pm
  have hlp := PP.len
  have othT : ∀ d ∈ ps.map (·.1), okD d ∧ There cs.length d := fun d hd => by
    obtain ⟨x, hx, rfl⟩ := List.mem_map.mp hd
    exact ⟨(PP.ok x hx).1, (PP.ok x hx).2.1⟩
  -- the other one
  refine ⟨_, rfl, mv, rfl, ⟨_, SqL.of em⟩, comp_list (xs := us) (fun D i ys H' => Same H4 H' ∧ H' D = some (.lst ys) ∧ Paired (T3 H') ys ((ps.take i).map (·.1))) (small1000 (by omega)) (fun D hD => ⟨same_new hD _, upd_same, .nil⟩) ?_ ?_ ?_⟩
  · rintro D i ys H' hD hi ⟨S, hl, p⟩
    exact ⟨SqL.of (S _ _ em), hl, by rw [Paired.length p, List.length_map, List.length_take]; omega⟩
  · rintro D i x ys H' hD hx ⟨S, hl, p⟩
    obtain ⟨pp, gp, qq, xx, rfl, g, t⟩ := Paired.getL pm hx
    refine ⟨qq, _, rfl, SqT.of (S _ _ g), rfl, _, _, rfl, _, _, rfl, rfl, rfl, _, rfl, hl, S.wr hD _, upd_same, ?_⟩
    rw [List.take_add_one, gp, List.map_append]
    exact L2.Paired.app (stab_T3.listW hl p) (.cons ((t.same S).wr hl) .nil)
  rintro ot ys H5 hot ⟨S5, eo, po⟩
  rw [List.take_of_length_le (by omega)] at po
  have Lo : LD H5 ot (ps.map (·.1)) := ⟨ys, eo, po⟩
  have S25 := S24.trans S5
  -- the third one
  refine ⟨(by decide : 0 ≤ sizeLine), fun th0 hth0 => ?_⟩
  have S6 := same_new hth0 (.lst [])
  have S26 := S25.trans S6
  obtain ⟨lv0, el0, pl0⟩ := id (L2'.same S26)
  refine ⟨_, rfl, r, _, rfl, .inl (SqL.of el0), fun hh hhh => ?_⟩
  have S7 := same_new hhh (.lst lv0)
  refine ⟨hh, ds, rfl, ⟨lv0, upd_same, stab_T3.list S7 pl0⟩, by omega, fun L bs H8 S8 hL eL RL frL => ?_⟩
  have S28 := (S26.trans S7).trans S8
  have hS8 := S28.seq hS2
  have hlb : bs.length = (layF ds).length := Paired.length RL
  have hnl := nL_le ds
  have tot : ((layF ds).map (gg (decide (ns.getD (1 : Int).toNat 0 % 2 = 1)))).flatten.length = ds.length := ((rows_lk (rows_gg (decide (ns.getD (1 : Int).toNat 0 % 2 = 1)) ds)).perm).length_eq.symm
  refine ⟨L, rfl, ⟨_, SqL.of eL⟩, for_list (xs := bs.map V.ref) (fun i σ H' => ∃ z7 th, σ = [some (.ref a), some (.int (5 + ns.getD (0 : Int).toNat 0 % 56)), some (.ref c), some (.ref r), some (.ref mv), some (.ref ot), some (.ref th), z7, none, none, none, none] ∧ Same H8 H' ∧ LD H' th ((((layF ds).map (gg (decide (ns.getD (1 : Int).toNat 0 % 2 = 1)))).take i).flatten))
    ⟨none, th0, rfl, Same.refl _, ⟨[], S8 _ _ (S7 _ _ upd_same), .nil⟩⟩ ?_ ?_ ?_⟩
  · rintro i σ H' _ ⟨z7, th, rfl, S, _⟩
    exact SqL.of (S _ _ eL)
  · rintro i x σ H' hx ⟨z7, th, rfl, S, tv, eth, pth⟩
    rw [List.getElem?_map] at hx
    obtain ⟨b, gb, rfl⟩ := Option.map_eq_some_iff.mp hx
    obtain ⟨row, grow, lv, eb, pb⟩ := Paired.getL RL gb
    have gr : ((layF ds).map (gg (decide (ns.getD (1 : Int).toNat 0 % 2 = 1))))[i]? = some (gg (decide (ns.getD (1 : Int).toNat 0 % 2 = 1)) row) := by rw [List.getElem?_map, grow]; rfl
    have pl := part_le ((layF ds).map (gg (decide (ns.getD (1 : Int).toNat 0 % 2 = 1)))) (i + 1)
    have fl : (((layF ds).map (gg (decide (ns.getD (1 : Int).toNat 0 % 2 = 1)))).take (i + 1)).flatten = (((layF ds).map (gg (decide (ns.getD (1 : Int).toNat 0 % 2 = 1)))).take i).flatten ++ gg (decide (ns.getD (1 : Int).toNat 0 % 2 = 1)) row := by
      rw [List.take_add_one, gr, List.flatten_append]
      simp
    rw [fl, tot, List.length_append, (gg_perm _ row).length_eq] at pl
    have l1 := Paired.length pth
    have l2 := Paired.length pb
    refine ⟨_, rfl, a, ns, 1, rfl, S.seq hS8, by decide, _, _, rfl, rfl, (show (0 : Int) < 2 by decide), rfl, _, rfl, iteI (fun c1 => ?_) (fun c1 => ?_)⟩
    · refine ⟨_, rfl, b, lv, rfl, SqL.of (S _ _ eb), fun l hl => ?_⟩
      have Sl := same_new hl (.lst lv.reverse)
      refine ⟨_, rfl, _, rfl, th, l, _, _, rfl, rfl, Sl _ _ eth, upd_same, Nat.le_of_lt (small1000 (by rw [List.length_reverse]; omega)), fun p2 hp2 => ?_⟩
      have Sm := Sl.new hp2 (.lst (tv ++ lv.reverse))
      refine ⟨_, p2, rfl, S.trans Sm, _, upd_same, ?_⟩
      rw [fl, show gg (decide (ns.getD (1 : Int).toNat 0 % 2 = 1)) row = row.reverse by unfold gg; rw [if_pos (decide_eq_true c1)]]
      exact L2.Paired.app (stab_T3.list Sm pth) (Paired.rev (stab_T3.list (S.trans Sm) pb))
    · refine ⟨_, rfl, _, rfl, th, b, _, _, rfl, rfl, eth, S _ _ eb, Nat.le_of_lt (small1000 (by omega)), fun p2 hp2 => ?_⟩
      have Sm := same_new hp2 (.lst (tv ++ lv))
      refine ⟨_, p2, rfl, S.trans Sm, _, upd_same, ?_⟩
      rw [fl, show gg (decide (ns.getD (1 : Int).toNat 0 % 2 = 1)) row = row by unfold gg; rw [if_neg (by simpa using c1)]]
      exact L2.Paired.app (stab_T3.list Sm pth) (stab_T3.list (S.trans Sm) pb)
  rintro σ H9 ⟨z7, th, rfl, S9, Lth⟩
  rw [List.take_of_length_le (by rw [List.length_map, List.length_map]; omega)] at Lth
  have LK := rows_lk (rows_gg (decide (ns.getD (1 : Int).toNat 0 % 2 = 1)) ds)
  generalize ((layF ds).map (gg (decide (ns.getD (1 : Int).toNat 0 % 2 = 1)))).flatten = td at Lth LK tot
  have thdT : ∀ d ∈ td, okD d ∧ There cs.length d := fun d hd => hth d (LK.perm.mem_iff.mpr hd)
  obtain ⟨kf, kp⟩ := lk_done (n := cs.length) LK (fun d hd => (hth d hd).1) (atD cs)
  have S29 := S28.trans S9
  have S59 := ((S6.trans S7).trans S8).trans S9
  have lc60 : cs.length ≤ 60 := by omega
  have lp : (ps.map (·.1)).length ≤ 63 := by rw [List.length_map]; omega
  -- the three are done
  obtain ⟨lv1, el1, pl1⟩ := id (L2'.same S29)
  refine ⟨_, rfl, r, _, rfl, .inl (SqL.of el1), fun ha1 hha1 => ⟨_, rfl, c, _, rfl, .inl (SqL.of (new_at hha1 (S29 _ _ ec2))), fun hb1 hhb1 => ?_⟩⟩
  have Sa1 := (same_new hha1 (.lst lv1)).new hhb1 (.lst (cs.map V.int))
  refine ⟨ha1, hb1, ds, cs, rfl, ⟨lv1, new_at hhb1 upd_same, stab_T3.list Sa1 pl1⟩, fun d hd => (hth d hd).1, by omega, by omega, upd_same, .inl ⟨fun d hd => (hth d hd).2, fun t1 p1 q1 HA Sb1 _ _ _ _ et1 ep1 eq1 => ?_⟩⟩
  have Sc1 := Sa1.trans Sb1
  obtain ⟨lv2, el2, pl2⟩ := id ((Lo.same S59).same Sc1)
  refine ⟨_, rfl, ot, _, rfl, .inl (SqL.of el2), fun ha2 hha2 => ⟨_, rfl, c, _, rfl, .inl (SqL.of (new_at hha2 (Sc1 _ _ (S29 _ _ ec2)))), fun hb2 hhb2 => ?_⟩⟩
  have Sa2 := (same_new hha2 (.lst lv2)).new hhb2 (.lst (cs.map V.int))
  refine ⟨ha2, hb2, (ps.map (·.1)), cs, rfl, ⟨lv2, new_at hhb2 upd_same, stab_T3.list Sa2 pl2⟩, fun d hd => (othT d hd).1, by omega, by omega, upd_same, .inl ⟨fun d hd => (othT d hd).2, fun t2 p2 q2 HB Sb2 _ _ _ _ et2 ep2 eq2 => ?_⟩⟩
  have Sc2 := Sa2.trans Sb2
  have Sd2 := Sc1.trans Sc2
  obtain ⟨lv3, el3, pl3⟩ := id (Lth.same Sd2)
  refine ⟨_, rfl, th, _, rfl, .inl (SqL.of el3), fun ha3 hha3 => ⟨_, rfl, c, _, rfl, .inl (SqL.of (new_at hha3 (Sd2 _ _ (S29 _ _ ec2)))), fun hb3 hhb3 => ?_⟩⟩
  have Sa3 := (same_new hha3 (.lst lv3)).new hhb3 (.lst (cs.map V.int))
  refine ⟨ha3, hb3, td, cs, rfl, ⟨lv3, new_at hhb3 upd_same, stab_T3.list Sa3 pl3⟩, fun d hd => (thdT d hd).1, by omega, by omega, upd_same, .inl ⟨fun d hd => (thdT d hd).2, fun t3 p3 q3 HC Sb3 _ _ _ _ et3 ep3 eq3 => ?_⟩⟩
  have Sc3 := Sa3.trans Sb3
  have Sd3 := Sd2.trans Sc3
  have S2C := S29.trans Sd3
  have Sb13 := Sc2.trans Sc3
  have Et1 := Sb13 _ _ et1
  have Ep1 := Sb13 _ _ ep1
  have Eq1 := Sb13 _ _ eq1
  have Et2 := Sc3 _ _ et2
  have Ep2 := Sc3 _ _ ep2
  have Eq2 := Sc3 _ _ eq2
  have LrC := L2'.same S2C
  have LthC := Lth.same Sd3
  have LmC := Lm.same ((S5.trans S59).trans Sd3)
  have lw1 : (wdsD cs.length ds (atD cs)).length = ds.length := wds_length _ _
  have lw2 : (wdsD cs.length (ps.map (·.1)) (atD cs)).length = ds.length := by rw [wds_length, List.length_map]; exact hlp
  have lw3 : (wdsD cs.length td (atD cs)).length = ds.length := by rw [wds_length]; exact tot
  refine ⟨_, rfl, _, rfl, _, rfl, sm rfl, fun tl htl => ?_⟩
  have St := same_new htl (.lst [.ref t1, .ref t2, .ref t3])
  obtain ⟨lvC, elC, plC⟩ := id LrC
  have llC := Paired.length plC
  refine ⟨tl, rfl, ⟨_, SqL.of upd_same⟩, for_list (xs := [V.ref t1, .ref t2, .ref t3]) (fun i σ H' => ∃ z11, σ = [some (.ref a), some (.int (5 + ns.getD (0 : Int).toNat 0 % 56)), some (.ref c), some (.ref r), some (.ref mv), some (.ref ot), some (.ref th), z7, some (.ref t1), some (.ref t2), some (.ref t3), z11] ∧ Same (upd HC tl (.lst [.ref t1, .ref t2, .ref t3])) H') ⟨none, rfl, Same.refl _⟩ ?_ ?_ ?_⟩
  · rintro i σ H' _ ⟨z11, rfl, S⟩
    exact SqL.of (S _ _ upd_same)
  · rintro i x σ H' hx ⟨z11, rfl, S⟩
    have hi : i < 3 := (List.getElem?_eq_some_iff.mp hx).1
    obtain ⟨t, pp, qq, ws, cs', rfl, g1, g2, g3, g4, g5⟩ : ∃ (t pp qq : Addr) (ws cs' : List Int), x = V.ref t ∧ HC t = some (.tup [.ref pp, .ref qq]) ∧ HC pp = some (.lst (ws.map V.int)) ∧ HC qq = some (.lst (cs'.map V.int)) ∧ ws.length = ds.length ∧ cs'.length = cs.length := by
      have : i = 0 ∨ i = 1 ∨ i = 2 := by omega
      rcases this with rfl | rfl | rfl
      · cases hx; exact ⟨_, _, _, _, _, rfl, Et1, Ep1, Eq1, lw1, cvec_length _ _⟩
      · cases hx; exact ⟨_, _, _, _, _, rfl, Et2, Ep2, Eq2, lw2, cvec_length _ _⟩
      · cases hx; exact ⟨_, _, _, _, _, rfl, et3, ep3, eq3, lw3, cvec_length _ _⟩
    have S' := St.trans S
    exact ⟨_, rfl, _, rfl, r, _, rfl, .inl (SqL.of (S' _ _ elC)), _, rfl, t, pp, qq, ws, cs', _, _, rfl, S' _ _ g1, S' _ _ g2, S' _ _ g3, by omega, by omega, by omega, by omega, fun H2' S2' => ⟨_, rfl, iteF ⟨_, rfl, S.trans S2'⟩⟩⟩
  rintro σ HD ⟨z11, rfl, SD⟩
  have SD' := St.trans SD
  have Ft1 := SD' _ _ Et1
  have Fp1 := SD' _ _ Ep1
  have Ft2 := SD' _ _ Et2
  have Ft3 := SD' _ _ et3
  have fe2 : cvec cs.length (finD cs.length (ps.map (·.1)) (atD cs)) = cvec cs.length (finD cs.length ds (atD cs)) := by rw [PP.fn]
  have fe3 : cvec cs.length (finD cs.length td (atD cs)) = cvec cs.length (finD cs.length ds (atD cs)) := by rw [kf]
  refine ⟨_, rfl, _, _, _, _, rfl, rfl, SqT.of Ft2, at_l1, _, rfl, _, _, _, _, rfl, rfl, SqT.of Ft1, at_l1, _, _, dat_ints (SD' _ _ Eq2), dat_ints (SD' _ _ Eq1), Nat.le_trans (enc_dI.dep _) (by decide), ?_⟩
  rw [enc_dI.dec]
  refine ⟨_, rfl, iteNS fe2 ?_⟩
  refine ⟨_, rfl, _, _, _, _, rfl, rfl, SqT.of Ft3, at_l1, _, rfl, _, _, _, _, rfl, rfl, SqT.of Ft1, at_l1, _, _, dat_ints (SD' _ _ eq3), dat_ints (SD' _ _ Eq1), Nat.le_trans (enc_dI.dep _) (by decide), ?_⟩
  rw [enc_dI.dec]
  refine ⟨_, rfl, iteNS fe3 ?_⟩
  obtain ⟨uD, emD, pmD⟩ := id (LmC.same SD')
  have hluD := Paired.length pmD
  refine ⟨_, rfl, _, _, _, _, rfl, rfl, SqT.of Ft2, at_l0, _, rfl, mv, rfl, ⟨_, SqL.of emD⟩, comp_list (xs := uD) (fun D i ys H' => Same HD H' ∧ H' D = some (.lst ys) ∧ ys = ((ps.take i).map fun p => (wdsD cs.length ds (atD cs)).getD p.2.toNat 0).map V.int) (small1000 (by omega)) (fun D hD => ⟨same_new hD _, upd_same, rfl⟩) ?_ ?_ ?_⟩
  · rintro D i ys H' hD hi ⟨S, hl, rfl⟩
    exact ⟨SqL.of (S _ _ emD), hl, by rw [List.length_map, List.length_map, List.length_take]; omega⟩
  · rintro D i x ys H' hD hx ⟨S, hl, rfl⟩
    obtain ⟨pp, gp, qq, xx, rfl, g, t⟩ := Paired.getL pmD hx
    have ok := (PP.ok pp (List.mem_of_getElem? gp)).2.2
    have ga := at_ints (ns := wdsD cs.length ds (atD cs)) (k := pp.2) ok.1 (by rw [lw1]; exact ok.2)
    refine ⟨qq, _, rfl, SqT.of (S _ _ g), rfl, _, _, rfl, _, _, rfl, rfl, rfl, _, rfl, _, _, _, _, rfl, rfl, SqT.of (S _ _ Ft1), at_l0, _, rfl, _, _, _, _, rfl, rfl, SqL.of (S _ _ Fp1), ga, hl, S.wr hD _, upd_same, ?_⟩
    rw [List.take_add_one, gp, List.map_append, List.map_append]
    rfl
  rintro sd ys HE hsd ⟨SE, esd, rfl⟩
  rw [List.take_of_length_le (by omega)] at esd
  have SDE := SD'.trans SE
  refine ⟨_, _, dat_ints (SDE _ _ Ep2), dat_ints esd, Nat.le_trans (enc_dI.dep _) (by decide), ?_⟩
  rw [enc_dI.dec]
  refine ⟨_, rfl, iteNS PP.wd ?_⟩
  refine ⟨_, rfl, _, rfl, _, _, _, _, rfl, rfl, SqT.of (SDE _ _ et3), at_l0, th, p3, td, _, rfl, LthC.same SDE, SDE _ _ ep3, by omega, fun x1 HF SF LF => ?_⟩
  have SDF := SDE.trans SF
  refine ⟨_, rfl, _, rfl, _, _, _, _, rfl, rfl, SqT.of (SDF _ _ Et1), at_l0, r, p1, ds, _, rfl, LrC.same SDF, SDF _ _ Ep1, by omega, fun x2 HG SG LG => ?_⟩
  refine ⟨_, _, LP.dat (LP.same SG LF), LP.dat LG, Nat.le_trans (enc_dLP.dep _) (by decide), ?_⟩
  rw [enc_dLP.dec, decide_eq_true (srt4_of_perm kp).symm]
  exact q _
end
end K10

namespace K10
open PySem L2
theorem all_mk {l : PySem.W.OpenLaw} {w : World} {K : PySem.W.Frag} {h : Heap} {mg : Str → Option Value} {fa f0 f1 f2 f3 f4 f5 f6 f7 f8 f9 f10 f11 f12 f13 f14 f15 f16 f17 f18 f19 f20 : Addr} (X : K.In h) (G : h.Ns mainGlobals mg) (hfa : mg "law" = some (.ref fa))
    {od0 an0 od1 an1 od2 an2 od3 an3 od4 an4 od5 an5 od6 an6 od7 an7 od8 an8 od9 an9 od10 an10 od11 an11 od12 an12 od13 an13 od14 an14 od15 an15 od16 an16 od17 an17 od18 an18 od19 an19 od20 an20 : Option Addr} {sl0 sl1 sl2 sl3 sl4 sl5 sl6 sl7 sl8 sl9 sl10 sl11 sl12 sl13 sl14 sl15 sl16 sl17 sl18 sl19 sl20 : Array (Option Value)} {oc0 kV0 dc0 pm0 cd0 ct0 oc1 kV1 dc1 pm1 cd1 ct1 oc2 kV2 dc2 pm2 cd2 ct2 oc3 kV3 dc3 pm3 cd3 ct3 oc4 kV4 dc4 pm4 cd4 ct4 oc5 kV5 dc5 pm5 cd5 ct5 oc6 kV6 dc6 pm6 cd6 ct6 oc7 kV7 dc7 pm7 cd7 ct7 oc8 kV8 dc8 pm8 cd8 ct8 oc9 kV9 dc9 pm9 cd9 ct9 oc10 kV10 dc10 pm10 cd10 ct10 oc11 kV11 dc11 pm11 cd11 ct11 oc12 kV12 dc12 pm12 cd12 ct12 oc13 kV13 dc13 pm13 cd13 ct13 oc14 kV14 dc14 pm14 cd14 ct14 oc15 kV15 dc15 pm15 cd15 ct15 oc16 kV16 dc16 pm16 cd16 ct16 oc17 kV17 dc17 pm17 cd17 ct17 oc18 kV18 dc18 pm18 cd18 ct18 oc19 kV19 dc19 pm19 cd19 ct19 oc20 kV20 dc20 pm20 cd20 ct20 : Value}
    (a0 : PySem.W.nsIn K mainGlobals "boxes_of" = some (some (.ref f0))) (l0 : K.lookup f0 = some ⟨oc0, od0, .func (PySem.W.fnOf "boxes_of" "boxes_of" (defArgs s_boxes) (defBody s_boxes) (defScope s_boxes) .none kV0 dc0 pm0 an0 cd0 ct0), sl0⟩) (c0 : PySem.W.codeIn K cd0 "boxes_of" = true) (k0 : PySem.W.keepIn K (.ref f0) = true)
    (a1 : PySem.W.nsIn K mainGlobals "saying" = some (some (.ref f1))) (l1 : K.lookup f1 = some ⟨oc1, od1, .func (PySem.W.fnOf "saying" "saying" (defArgs s_saying) (defBody s_saying) (defScope s_saying) .none kV1 dc1 pm1 an1 cd1 ct1), sl1⟩) (c1 : PySem.W.codeIn K cd1 "saying" = true) (k1 : PySem.W.keepIn K (.ref f1) = true)
    (a2 : PySem.W.nsIn K mainGlobals "done" = some (some (.ref f2))) (l2 : K.lookup f2 = some ⟨oc2, od2, .func (PySem.W.fnOf "done" "done" (defArgs s_done) (defBody s_done) (defScope s_done) .none kV2 dc2 pm2 an2 cd2 ct2), sl2⟩) (c2 : PySem.W.codeIn K cd2 "done" = true) (k2 : PySem.W.keepIn K (.ref f2) = true)
    (a3 : PySem.W.nsIn K mainGlobals "disturbs" = some (some (.ref f3))) (l3 : K.lookup f3 = some ⟨oc3, od3, .func (PySem.W.fnOf "disturbs" "disturbs" (defArgs s_disturbs) (defBody s_disturbs) (defScope s_disturbs) .none kV3 dc3 pm3 an3 cd3 ct3), sl3⟩) (c3 : PySem.W.codeIn K cd3 "disturbs" = true) (k3 : PySem.W.keepIn K (.ref f3) = true)
    (a4 : PySem.W.nsIn K mainGlobals "clash" = some (some (.ref f4))) (l4 : K.lookup f4 = some ⟨oc4, od4, .func (PySem.W.fnOf "clash" "clash" (defArgs s_clash) (defBody s_clash) (defScope s_clash) .none kV4 dc4 pm4 an4 cd4 ct4), sl4⟩) (c4 : PySem.W.codeIn K cd4 "clash" = true) (k4 : PySem.W.keepIn K (.ref f4) = true)
    (a5 : PySem.W.nsIn K mainGlobals "height_behind" = some (some (.ref f5))) (l5 : K.lookup f5 = some ⟨oc5, od5, .func (PySem.W.fnOf "height_behind" "height_behind" (defArgs s_behind) (defBody s_behind) (defScope s_behind) .none kV5 dc5 pm5 an5 cd5 ct5), sl5⟩) (c5 : PySem.W.codeIn K cd5 "height_behind" = true) (k5 : PySem.W.keepIn K (.ref f5) = true)
    (a6 : PySem.W.nsIn K mainGlobals "heights" = some (some (.ref f6))) (l6 : K.lookup f6 = some ⟨oc6, od6, .func (PySem.W.fnOf "heights" "heights" (defArgs s_heights) (defBody s_heights) (defScope s_heights) .none kV6 dc6 pm6 an6 cd6 ct6), sl6⟩) (c6 : PySem.W.codeIn K cd6 "heights" = true) (k6 : PySem.W.keepIn K (.ref f6) = true)
    (a7 : PySem.W.nsIn K mainGlobals "laid" = some (some (.ref f7))) (l7 : K.lookup f7 = some ⟨oc7, od7, .func (PySem.W.fnOf "laid" "laid" (defArgs s_laid) (defBody s_laid) (defScope s_laid) .none kV7 dc7 pm7 an7 cd7 ct7), sl7⟩) (c7 : PySem.W.codeIn K cd7 "laid" = true) (k7 : PySem.W.keepIn K (.ref f7) = true)
    (a8 : PySem.W.nsIn K mainGlobals "layers" = some (some (.ref f8))) (l8 : K.lookup f8 = some ⟨oc8, od8, .func (PySem.W.fnOf "layers" "layers" (defArgs s_layers) (defBody s_layers) (defScope s_layers) .none kV8 dc8 pm8 an8 cd8 ct8), sl8⟩) (c8 : PySem.W.codeIn K cd8 "layers" = true) (k8 : PySem.W.keepIn K (.ref f8) = true)
    (a9 : PySem.W.nsIn K mainGlobals "_law_cell_at" = some (some (.ref f9))) (l9 : K.lookup f9 = some ⟨oc9, od9, .func (PySem.W.fnOf "_law_cell_at" "_law_cell_at" (defArgs s_cell) (defBody s_cell) (defScope s_cell) .none kV9 dc9 pm9 an9 cd9 ct9), sl9⟩) (c9 : PySem.W.codeIn K cd9 "_law_cell_at" = true) (k9 : PySem.W.keepIn K (.ref f9) = true)
    (a10 : PySem.W.nsIn K mainGlobals "_law_whole" = some (some (.ref f10))) (l10 : K.lookup f10 = some ⟨oc10, od10, .func (PySem.W.fnOf "_law_whole" "_law_whole" (defArgs s_whole) (defBody s_whole) (defScope s_whole) .none kV10 dc10 pm10 an10 cd10 ct10), sl10⟩) (c10 : PySem.W.codeIn K cd10 "_law_whole" = true) (k10 : PySem.W.keepIn K (.ref f10) = true)
    (a11 : PySem.W.nsIn K mainGlobals "_law_power" = some (some (.ref f11))) (l11 : K.lookup f11 = some ⟨oc11, od11, .func (PySem.W.fnOf "_law_power" "_law_power" (defArgs s_power) (defBody s_power) (defScope s_power) .none kV11 dc11 pm11 an11 cd11 ct11), sl11⟩) (c11 : PySem.W.codeIn K cd11 "_law_power" = true) (k11 : PySem.W.keepIn K (.ref f11) = true)
    (a12 : PySem.W.nsIn K mainGlobals "_law_wide" = some (some (.ref f12))) (l12 : K.lookup f12 = some ⟨oc12, od12, .func (PySem.W.fnOf "_law_wide" "_law_wide" (defArgs s_wide) (defBody s_wide) (defScope s_wide) .none kV12 dc12 pm12 an12 cd12 ct12), sl12⟩) (c12 : PySem.W.codeIn K cd12 "_law_wide" = true) (k12 : PySem.W.keepIn K (.ref f12) = true)
    (a13 : PySem.W.nsIn K mainGlobals "_law_deed" = some (some (.ref f13))) (l13 : K.lookup f13 = some ⟨oc13, od13, .func (PySem.W.fnOf "_law_deed" "_law_deed" (defArgs s_deed) (defBody s_deed) (defScope s_deed) .none kV13 dc13 pm13 an13 cd13 ct13), sl13⟩) (c13 : PySem.W.codeIn K cd13 "_law_deed" = true) (k13 : PySem.W.keepIn K (.ref f13) = true)
    (a14 : PySem.W.nsIn K mainGlobals "_law_clash" = some (some (.ref f14))) (l14 : K.lookup f14 = some ⟨oc14, od14, .func (PySem.W.fnOf "_law_clash" "_law_clash" (defArgs s_lclash) (defBody s_lclash) (defScope s_lclash) .none kV14 dc14 pm14 an14 cd14 ct14), sl14⟩) (c14 : PySem.W.codeIn K cd14 "_law_clash" = true) (k14 : PySem.W.keepIn K (.ref f14) = true)
    (a15 : PySem.W.nsIn K mainGlobals "_law_contents" = some (some (.ref f15))) (l15 : K.lookup f15 = some ⟨oc15, od15, .func (PySem.W.fnOf "_law_contents" "_law_contents" (defArgs s_contents) (defBody s_contents) (defScope s_contents) .none kV15 dc15 pm15 an15 cd15 ct15), sl15⟩) (c15 : PySem.W.codeIn K cd15 "_law_contents" = true) (k15 : PySem.W.keepIn K (.ref f15) = true)
    (a16 : PySem.W.nsIn K mainGlobals "_law_diary" = some (some (.ref f16))) (l16 : K.lookup f16 = some ⟨oc16, od16, .func (PySem.W.fnOf "_law_diary" "_law_diary" (defArgs s_diary) (defBody s_diary) (defScope s_diary) .none kV16 dc16 pm16 an16 cd16 ct16), sl16⟩) (c16 : PySem.W.codeIn K cd16 "_law_diary" = true) (k16 : PySem.W.keepIn K (.ref f16) = true)
    (a17 : PySem.W.nsIn K mainGlobals "_law_passed_on" = some (some (.ref f17))) (l17 : K.lookup f17 = some ⟨oc17, od17, .func (PySem.W.fnOf "_law_passed_on" "_law_passed_on" (defArgs s_passed) (defBody s_passed) (defScope s_passed) .none kV17 dc17 pm17 an17 cd17 ct17), sl17⟩) (c17 : PySem.W.codeIn K cd17 "_law_passed_on" = true) (k17 : PySem.W.keepIn K (.ref f17) = true)
    (a18 : PySem.W.nsIn K mainGlobals "_law_told" = some (some (.ref f18))) (l18 : K.lookup f18 = some ⟨oc18, od18, .func (PySem.W.fnOf "_law_told" "_law_told" (defArgs s_told) (defBody s_told) (defScope s_told) .none kV18 dc18 pm18 an18 cd18 ct18), sl18⟩) (c18 : PySem.W.codeIn K cd18 "_law_told" = true) (k18 : PySem.W.keepIn K (.ref f18) = true)
    (a19 : PySem.W.nsIn K mainGlobals "_law_pairs" = some (some (.ref f19))) (l19 : K.lookup f19 = some ⟨oc19, od19, .func (PySem.W.fnOf "_law_pairs" "_law_pairs" (defArgs s_pairs) (defBody s_pairs) (defScope s_pairs) .none kV19 dc19 pm19 an19 cd19 ct19), sl19⟩) (c19 : PySem.W.codeIn K cd19 "_law_pairs" = true) (k19 : PySem.W.keepIn K (.ref f19) = true)
    (a20 : PySem.W.nsIn K mainGlobals "law" = some (some (.ref f20))) (l20 : K.lookup f20 = some ⟨oc20, od20, .func (PySem.W.fnOf "law" "law" (defArgs s_law) (defBody s_law) (defScope s_law) .none kV20 dc20 pm20 an20 cd20 ct20), sl20⟩) (c20 : PySem.W.codeIn K cd20 "law" = true) (k20 : PySem.W.keepIn K (.ref f20) = true)
    {C_NoBox : Addr} (q_NoBox : PySem.W.nsIn K mainGlobals "NoBox" = some (some (.ref C_NoBox)))
    (x1 : PySem.W.excIn K C_NoBox [.type "ValueError", .type "Exception", .type "BaseException", .type "object"] "ValueError.__new__" = true)
    (z_len : PySem.W.nsIn K mainGlobals "len" = some none) (z_range : PySem.W.nsIn K mainGlobals "range" = some none) (z_isinstance : PySem.W.nsIn K mainGlobals "isinstance" = some none) (z_int : PySem.W.nsIn K mainGlobals "int" = some none) (z_bool : PySem.W.nsIn K mainGlobals "bool" = some none) (z_tuple : PySem.W.nsIn K mainGlobals "tuple" = some none) (z_list : PySem.W.nsIn K mainGlobals "list" = some none) (z_zip : PySem.W.nsIn K mainGlobals "zip" = some none) (z_max : PySem.W.nsIn K mainGlobals "max" = some none) (z_sorted : PySem.W.nsIn K mainGlobals "sorted" = some none) (z_sum : PySem.W.nsIn K mainGlobals "sum" = some none) (z_reversed : PySem.W.nsIn K mainGlobals "reversed" = some none) :
    ∃ fd : FuncData, (∀ (s : Shared) (v : Value), BindsTo s fd ⟨[v], []⟩ [("_law_script", v)]) ∧ ∀ base : Heap, K.In base → base.Ns mainGlobals mg → FnOk l.prog w K mg base CX0 6 fa fd ["_law_script"] (spLaw K) := by
  have e := hfa.symm.trans (PySem.W.mg_of X G a20)
  cases e
  have m_len := PySem.W.mg_none_of X G z_len
  have m_range := PySem.W.mg_none_of X G z_range
  have m_isinstance := PySem.W.mg_none_of X G z_isinstance
  have m_int := PySem.W.mg_none_of X G z_int
  have m_bool := PySem.W.mg_none_of X G z_bool
  have m_tuple := PySem.W.mg_none_of X G z_tuple
  have m_list := PySem.W.mg_none_of X G z_list
  have m_zip := PySem.W.mg_none_of X G z_zip
  have m_max := PySem.W.mg_none_of X G z_max
  have m_sorted := PySem.W.mg_none_of X G z_sorted
  have m_sum := PySem.W.mg_none_of X G z_sum
  have m_reversed := PySem.W.mg_none_of X G z_reversed
  have g_NoBox := PySem.W.mg_of X G q_NoBox
  have F0 := fun_mk (st := s_boxes) l0 c0 k0
  have b0 := F0.binds (ps := ["number"]) fun _ _ _ _ _ _ us hl => match us, hl with | [_], _ => rfl
  have F1 := fun_mk (st := s_saying) l1 c1 k1
  have b1 := F1.binds (ps := ["deed", "contents"]) fun _ _ _ _ _ _ us hl => match us, hl with | [_, _], _ => rfl
  have F2 := fun_mk (st := s_done) l2 c2 k2
  have b2 := F2.binds (ps := ["diary", "contents"]) fun _ _ _ _ _ _ us hl => match us, hl with | [_, _], _ => rfl
  have F3 := fun_mk (st := s_disturbs) l3 c3 k3
  have b3 := F3.binds (ps := ["one", "other"]) fun _ _ _ _ _ _ us hl => match us, hl with | [_, _], _ => rfl
  have F4 := fun_mk (st := s_clash) l4 c4 k4
  have b4 := F4.binds (ps := ["one", "other"]) fun _ _ _ _ _ _ us hl => match us, hl with | [_, _], _ => rfl
  have F5 := fun_mk (st := s_behind) l5 c5 k5
  have b5 := F5.binds (ps := ["ahead", "told", "deed"]) fun _ _ _ _ _ _ us hl => match us, hl with | [_, _, _], _ => rfl
  have F6 := fun_mk (st := s_heights) l6 c6 k6
  have b6 := F6.binds (ps := ["diary"]) fun _ _ _ _ _ _ us hl => match us, hl with | [_], _ => rfl
  have F7 := fun_mk (st := s_laid) l7 c7 k7
  have b7 := F7.binds (ps := ["diary", "told"]) fun _ _ _ _ _ _ us hl => match us, hl with | [_, _], _ => rfl
  have F8 := fun_mk (st := s_layers) l8 c8 k8
  have b8 := F8.binds (ps := ["diary"]) fun _ _ _ _ _ _ us hl => match us, hl with | [_], _ => rfl
  have F9 := fun_mk (st := s_cell) l9 c9 k9
  have b9 := F9.binds (ps := ["_law_script", "_law_k"]) fun _ _ _ _ _ _ us hl => match us, hl with | [_, _], _ => rfl
  have F10 := fun_mk (st := s_whole) l10 c10 k10
  have b10 := F10.binds (ps := ["_law_found"]) fun _ _ _ _ _ _ us hl => match us, hl with | [_], _ => rfl
  have F11 := fun_mk (st := s_power) l11 c11 k11
  have b11 := F11.binds (ps := ["_law_k"]) fun _ _ _ _ _ _ us hl => match us, hl with | [_], _ => rfl
  have F12 := fun_mk (st := s_wide) l12 c12 k12
  have b12 := F12.binds (ps := ["_law_cell", "_law_factor"]) fun _ _ _ _ _ _ us hl => match us, hl with | [_, _], _ => rfl
  have F13 := fun_mk (st := s_deed) l13 c13 k13
  have b13 := F13.binds (ps := ["_law_cell", "_law_lift"]) fun _ _ _ _ _ _ us hl => match us, hl with | [_, _], _ => rfl
  have F14 := fun_mk (st := s_lclash) l14 c14 k14
  have b14 := F14.binds (ps := ["_law_one", "_law_other"]) fun _ _ _ _ _ _ us hl => match us, hl with | [_, _], _ => rfl
  have F15 := fun_mk (st := s_contents) l15 c15 k15
  have b15 := F15.binds (ps := ["_law_script", "_law_many"]) fun _ _ _ _ _ _ us hl => match us, hl with | [_, _], _ => rfl
  have F16 := fun_mk (st := s_diary) l16 c16 k16
  have b16 := F16.binds (ps := ["_law_script", "_law_many"]) fun _ _ _ _ _ _ us hl => match us, hl with | [_, _], _ => rfl
  have F17 := fun_mk (st := s_passed) l17 c17 k17
  have b17 := F17.binds (ps := ["_law_rows", "_law_cells"]) fun _ _ _ _ _ _ us hl => match us, hl with | [_, _], _ => rfl
  have F18 := fun_mk (st := s_told) l18 c18 k18
  have b18 := F18.binds (ps := ["_law_found", "_law_many", "_law_boxes"]) fun _ _ _ _ _ _ us hl => match us, hl with | [_, _, _], _ => rfl
  have F19 := fun_mk (st := s_pairs) l19 c19 k19
  have b19 := F19.binds (ps := ["_law_rows", "_law_said"]) fun _ _ _ _ _ _ us hl => match us, hl with | [_, _], _ => rfl
  have F20 := fun_mk (st := s_law) l20 c20 k20
  refine ⟨PySem.W.fnOf "law" "law" (defArgs s_law) (defBody s_law) (defScope s_law) .none kV20 dc20 pm20 an20 cd20 ct20, fun s v => .of_eq rfl, fun base XB _ => ?_⟩
  have D0 := Df.mk' (P := l.prog) (w := w) (mg := mg) (base := base) (x := "boxes_of") (ok_boxes F0 m_range) b0 k0 (PySem.W.mg_of X G a0)
  have D1 := Df.mk' (P := l.prog) (w := w) (mg := mg) (base := base) (x := "saying") (ok_saying F1 D0 m_sum) b1 k1 (PySem.W.mg_of X G a1)
  have D2 := (⟨_, _, ok_done F2 D0 D1 m_list m_len (own_at XB g_NoBox x1) PySem.F.excBase_ValueError, b2, k2, PySem.W.mg_of X G a2⟩ : DfX l.prog w K mg base "done" 3 _ _)
  have D3 := Df.mk' (P := l.prog) (w := w) (mg := mg) (base := base) (x := "disturbs") (ok_disturbs F3) b3 k3 (PySem.W.mg_of X G a3)
  have D4 := Df.mk' (P := l.prog) (w := w) (mg := mg) (base := base) (x := "clash") (ok_clash F4 D3) b4 k4 (PySem.W.mg_of X G a4)
  have D5 := Df.mk' (P := l.prog) (w := w) (mg := mg) (base := base) (x := "height_behind") (ok_behind F5 D4 m_max m_zip) b5 k5 (PySem.W.mg_of X G a5)
  have D6 := Df.mk' (P := l.prog) (w := w) (mg := mg) (base := base) (x := "heights") (ok_heights F6 D5) b6 k6 (PySem.W.mg_of X G a6)
  have D7 := Df.mk' (P := l.prog) (w := w) (mg := mg) (base := base) (x := "laid") (ok_laid F7 m_range m_max m_zip m_sorted) b7 k7 (PySem.W.mg_of X G a7)
  have D8 := Df.mk' (P := l.prog) (w := w) (mg := mg) (base := base) (x := "layers") (ok_layers F8 D6 D7) b8 k8 (PySem.W.mg_of X G a8)
  have D9 := Df.mk' (P := l.prog) (w := w) (mg := mg) (base := base) (x := "_law_cell_at") (ok_cell F9 m_len) b9 k9 (PySem.W.mg_of X G a9)
  have D10 := Df.mk' (P := l.prog) (w := w) (mg := mg) (base := base) (x := "_law_whole") (ok_whole F10 m_isinstance m_int m_bool) b10 k10 (PySem.W.mg_of X G a10)
  have D11 := Df.mk' (P := l.prog) (w := w) (mg := mg) (base := base) (x := "_law_power") (ok_power F11 m_range) b11 k11 (PySem.W.mg_of X G a11)
  have D12 := Df.mk' (P := l.prog) (w := w) (mg := mg) (base := base) (x := "_law_wide") (ok_wide F12) b12 k12 (PySem.W.mg_of X G a12)
  have D13 := Df.mk' (P := l.prog) (w := w) (mg := mg) (base := base) (x := "_law_deed") (ok_deed F13 D12) b13 k13 (PySem.W.mg_of X G a13)
  have D14 := Df.mk' (P := l.prog) (w := w) (mg := mg) (base := base) (x := "_law_clash") (ok_lclash F14) b14 k14 (PySem.W.mg_of X G a14)
  have D15 := Df.mk' (P := l.prog) (w := w) (mg := mg) (base := base) (x := "_law_contents") (ok_contents F15 D9 m_range) b15 k15 (PySem.W.mg_of X G a15)
  have D16 := Df.mk' (P := l.prog) (w := w) (mg := mg) (base := base) (x := "_law_diary") (ok_diary F16 D9 D11 D13) b16 k16 (PySem.W.mg_of X G a16)
  have D17 := Df.mk' (P := l.prog) (w := w) (mg := mg) (base := base) (x := "_law_passed_on") (ok_passed F17 D14 m_range m_len m_max) b17 k17 (PySem.W.mg_of X G a17)
  have D18 := Df.mk' (P := l.prog) (w := w) (mg := mg) (base := base) (x := "_law_told") (ok_told F18 D10 m_isinstance m_tuple m_list m_len) b18 k18 (PySem.W.mg_of X G a18)
  have D19 := Df.mk' (P := l.prog) (w := w) (mg := mg) (base := base) (x := "_law_pairs") (ok_pairs F19 m_zip m_sorted) b19 k19 (PySem.W.mg_of X G a19)
  exact ok_law F20 D9 D15 D16 D17 D8 D2 D18 D19 m_list m_len m_reversed
theorem walk {l : PySem.W.OpenLaw} {q : Program} {loose : List Str} {XP : (Str → Option Value) → Heap → Prop} {YP : World → Heap → Prop} {d : DefRec} {K : Params → PySem.W.Frag} (hn : l.most = some 63) (hdf : d.params.defaults = [])
    (hY : ∀ (w : World) (h : Heap), YP w h → (K w.params).In h)
    (F : ∀ (w : World) (mg : Str → Option Value) (fa : Addr) (h : Heap), (K w.params).In h → h.Ns mainGlobals mg → mg d.name = some (.ref fa) →
      ∃ fd : FuncData, (∀ (s : Shared) (u : Value), BindsTo s fd ⟨[u], []⟩ [("_law_script", u)]) ∧ ∀ base : Heap, (K w.params).In base → base.Ns mainGlobals mg → FnOk l.prog w (K w.params) mg base CX0 6 fa fd ["_law_script"] (spLaw (K w.params))) :
    PySem.W.WalkO q loose XP YP l.row.toRowW d [] (fun f vs => PySem.call f vs) :=
  L2.walk_of (n := 63) (k := 6) (x := "_law_script") (CX := fun _ => CX0) (sp := fun w => spLaw (K w.params)) hn (by decide) hdf ⟨rfl, by decide, by decide⟩ hY F (fun _ _ a ns hl _ hS => ⟨a, ns, rfl, hS, hl, fun _ => rfl⟩) fun _ _ _ _ _ z => z
end K10
open PySem PySem.W PyProof.Rows
set_option maxRecDepth 100000 in
set_option maxHeartbeats 0 in
theorem PySem.Challenge.cw_passby_k10_whole_alike_do_the_same_holds : PySem.Challenge.rw_passby_k10_whole_alike_do_the_same.Holds := by
  w_on; o_law; k_head; (case hw => w_witness2)
  k_fill
  refine K10.walk (l := PySem.Challenge.rw_passby_k10_whole_alike_do_the_same) rfl rfl (fun w h Y => PySem.W.kIn_of Y) ?F
  case F =>
    intro w mg fa h KX G hmg
    refine' K10.all_mk KX G hmg ?a0 ?l0 ?c0 ?k0 ?a1 ?l1 ?c1 ?k1 ?a2 ?l2 ?c2 ?k2 ?a3 ?l3 ?c3 ?k3 ?a4 ?l4 ?c4 ?k4 ?a5 ?l5 ?c5 ?k5 ?a6 ?l6 ?c6 ?k6 ?a7 ?l7 ?c7 ?k7 ?a8 ?l8 ?c8 ?k8 ?a9 ?l9 ?c9 ?k9 ?a10 ?l10 ?c10 ?k10 ?a11 ?l11 ?c11 ?k11 ?a12 ?l12 ?c12 ?k12 ?a13 ?l13 ?c13 ?k13 ?a14 ?l14 ?c14 ?k14 ?a15 ?l15 ?c15 ?k15 ?a16 ?l16 ?c16 ?k16 ?a17 ?l17 ?c17 ?k17 ?a18 ?l18 ?c18 ?k18 ?a19 ?l19 ?c19 ?k19 ?a20 ?l20 ?c20 ?k20 ?q_NoBox  ?x1  ?z_len ?z_range ?z_isinstance ?z_int ?z_bool ?z_tuple ?z_list ?z_zip ?z_max ?z_sorted ?z_sum ?z_reversed
    (case a0 => k_is); (case l0 => k_is); (case c0 => k_is); (case k0 => k_is)
    (case a1 => k_is); (case l1 => k_is); (case c1 => k_is); (case k1 => k_is)
    (case a2 => k_is); (case l2 => k_is); (case c2 => k_is); (case k2 => k_is)
    (case a3 => k_is); (case l3 => k_is); (case c3 => k_is); (case k3 => k_is)
    (case a4 => k_is); (case l4 => k_is); (case c4 => k_is); (case k4 => k_is)
    (case a5 => k_is); (case l5 => k_is); (case c5 => k_is); (case k5 => k_is)
    (case a6 => k_is); (case l6 => k_is); (case c6 => k_is); (case k6 => k_is)
    (case a7 => k_is); (case l7 => k_is); (case c7 => k_is); (case k7 => k_is)
    (case a8 => k_is); (case l8 => k_is); (case c8 => k_is); (case k8 => k_is)
    (case a9 => k_is); (case l9 => k_is); (case c9 => k_is); (case k9 => k_is)
    (case a10 => k_is); (case l10 => k_is); (case c10 => k_is); (case k10 => k_is)
    (case a11 => k_is); (case l11 => k_is); (case c11 => k_is); (case k11 => k_is)
    (case a12 => k_is); (case l12 => k_is); (case c12 => k_is); (case k12 => k_is)
    (case a13 => k_is); (case l13 => k_is); (case c13 => k_is); (case k13 => k_is)
    (case a14 => k_is); (case l14 => k_is); (case c14 => k_is); (case k14 => k_is)
    (case a15 => k_is); (case l15 => k_is); (case c15 => k_is); (case k15 => k_is)
    (case a16 => k_is); (case l16 => k_is); (case c16 => k_is); (case k16 => k_is)
    (case a17 => k_is); (case l17 => k_is); (case c17 => k_is); (case k17 => k_is)
    (case a18 => k_is); (case l18 => k_is); (case c18 => k_is); (case k18 => k_is)
    (case a19 => k_is); (case l19 => k_is); (case c19 => k_is); (case k19 => k_is)
    (case a20 => k_is); (case l20 => k_is); (case c20 => k_is); (case k20 => k_is)
    (case q_NoBox => k_is)
    (case x1 => k_exc)
    (case z_len => k_is)
    (case z_range => k_is)
    (case z_isinstance => k_is)
    (case z_int => k_is)
    (case z_bool => k_is)
    (case z_tuple => k_is)
    (case z_list => k_is)
    (case z_zip => k_is)
    (case z_max => k_is)
    (case z_sorted => k_is)
    (case z_sum => k_is)
    (case z_reversed => k_is)
#print axioms PySem.Challenge.cw_passby_k10_whole_alike_do_the_same_holds

