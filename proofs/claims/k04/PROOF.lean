import PyProof.Rows.All
import Wide.All
import OpenK.AllK
import Wide.FinOn
import Lean
import PyProof.EqAt
import PyProof.EqKinds
import PyProof.TupleCall
import PyProof.P3Eq
import PyProof.NeData
import PySem.Challenge.RW_openhouses_k04_how_far
-- CHANGE: your row's module here, as the last of these rows
set_option Elab.async false
set_option linter.all false
set_option maxRecDepth 100000
/-! THE HAND LAYER, for ints, bools, texts, own classes, LISTS and tuples (index, slices, in, append, pop ..), calls, loops. Paste it whole ahead of your own text; what your proof does not reach may be deleted. -/
namespace L2
open PySem PySem.Spec PyProof.Rows

/-- a key: an int or a str -/
abbrev Key := Sum Int Str
def keyIs : Key → Value → Bool
  | .inl k, v => Value.isInt k v
  | .inr x, v => Value.isStrOf x v
def keyH (w : World) : Key → Int
  | .inl k => hashInt k
  | .inr x => hashStr w x
theorem keyIs_shape : ∀ {k : Key} {v : Value}, keyIs k v = true → (∃ i t, k = Sum.inl i ∧ v = Value.int i t) ∨ (∃ x t, k = Sum.inr x ∧ v = Value.str x t)
  | .inl i, v, h => by
    obtain ⟨t, e⟩ := Value.isInt_shape (k := i) (v := v) h
    exact .inl ⟨i, t, rfl, e⟩
  | .inr x, v, h => by
    obtain ⟨t, e⟩ := Value.isStrOf_shape (x := x) (v := v) h
    exact .inr ⟨x, t, rfl, e⟩
theorem keyIs_int (i : Int) (t : Tok) : keyIs (.inl i) (.int i t) = true := by simp [keyIs, Value.isInt]
theorem keyIs_str (x : Str) (t : Tok) : keyIs (.inr x) (.str x t) = true := by simp [keyIs, Value.isStrOf]
theorem key_ll (a b : Int) : decide ((Sum.inl a : Key) = Sum.inl b) = (a == b) := by
  by_cases e : a = b
  · subst e; simp
  · have h : ¬ (Sum.inl a : Key) = Sum.inl b := fun q => e (Sum.inl.inj q)
    rw [decide_eq_false h]
    exact (beq_eq_false_iff_ne.mpr e).symm
theorem key_rr (a b : Str) : decide ((Sum.inr a : Key) = Sum.inr b) = decide (a = b) := by
  by_cases e : a = b
  · subst e; simp
  · have h : ¬ (Sum.inr a : Key) = Sum.inr b := fun q => e (Sum.inr.inj q)
    rw [decide_eq_false h, decide_eq_false e]
theorem key_lr (a : Int) (b : Str) : decide ((Sum.inl a : Key) = Sum.inr b) = false := decide_eq_false (fun q => nomatch q)
theorem key_rl (a : Str) (b : Int) : decide ((Sum.inr a : Key) = Sum.inl b) = false := decide_eq_false (fun q => nomatch q)

def mixKind (prog : Program) (w : World) : PySem.KeyKind prog w Key where
  is := keyIs
  hash := keyH w
  inj := fun v a b ha hb => by
    rcases keyIs_shape ha with ⟨i, t, rfl, rfl⟩ | ⟨x, t, rfl, rfl⟩
    · rcases keyIs_shape hb with ⟨j, u, rfl, e⟩ | ⟨y, u, rfl, e⟩
      · injection e with e1 _; rw [e1]
      · exact nomatch e
    · rcases keyIs_shape hb with ⟨j, u, rfl, e⟩ | ⟨y, u, rfl, e⟩
      · exact nomatch e
      · injection e with e1 _; rw [e1]
  byValue := fun k v h => by
    rcases keyIs_shape h with ⟨i, t, rfl, rfl⟩ | ⟨x, t, rfl, rfl⟩ <;> rfl
  pyHash := fun hv h => by
    rcases keyIs_shape hv with ⟨i, t, rfl, rfl⟩ | ⟨x, t, rfl, rfl⟩
    · exact wpAny_pyHash_int h
    · exact wpAny_pyHash_str h
  eqBool := fun hu hv h => by
    rcases keyIs_shape hu with ⟨i, t, rfl, rfl⟩ | ⟨x, t, rfl, rfl⟩
    · rcases keyIs_shape hv with ⟨j, u, rfl, rfl⟩ | ⟨y, u, rfl, rfl⟩
      · rw [key_ll] at h; exact wpAny_eqBool_int h
      · rw [key_lr] at h; exact SeqAt.EqAt.int_str i t y u _ _ _ _ h
    · rcases keyIs_shape hv with ⟨j, u, rfl, rfl⟩ | ⟨y, u, rfl, rfl⟩
      · rw [key_rl] at h; exact SeqAt.EqAt.str_int x t j u _ _ _ _ h
      · rw [key_rr] at h; exact wpAny_eqBool_str h
  «strs» := fun k x t v h => by
    rcases keyIs_shape h with ⟨i, u, rfl, e⟩ | ⟨y, u, rfl, e⟩
    · exact nomatch e
    · injection e with e1 _
      subst e1
      cases v <;> rfl

theorem mixKind_is (prog : Program) (w : World) (k : Key) (v : Value) : (mixKind prog w).is k v = keyIs k v := rfl
theorem mixKind_int (prog : Program) (w : World) (i : Int) (t : Tok) : (mixKind prog w).is (.inl i) (.int i t) = true := keyIs_int i t
theorem mixKind_str (prog : Program) (w : World) (x : Str) (t : Tok) : (mixKind prog w).is (.inr x) (.str x t) = true := keyIs_str x t
end L2

namespace L2
open PySem PySem.Spec PyProof.Rows

/-- a value, without the heap -/
inductive V where
  | non | bl (b : Bool) | int (i : Int) | str (x : Str) | byt (b : Array UInt8) | flt (b : UInt64) | ref (a : Addr) | ty (n : String)
  deriving DecidableEq

def RelV : V → Value → Prop
  | .non, u => u = Value.none
  | .bl b, u => u = Value.bool b
  | .int i, u => ∃ t, u = Value.int i t
  | .str x, u => ∃ t, u = Value.str x t
  | .byt b, u => ∃ t, u = Value.bytes b t
  | .flt b, u => ∃ t, u = Value.float b t
  | .ref a, u => u = Value.ref a
  | .ty n, u => u = Value.type n

abbrev Vals : List V → List Value → Prop := Paired RelV
theorem Vals.length {xs : List V} {us : List Value} (r : Vals xs us) : xs.length = us.length := Paired.length r
theorem Vals.get : ∀ {xs : List V} {us : List Value} {i : Nat} {x : V}, Vals xs us → xs[i]? = some x → ∃ u, us[i]? = some u ∧ RelV x u
  | _, _, _, _, .nil, e => by simp at e
  | _, _, 0, _, .cons r _, e => by simp at e; subst e; exact ⟨_, rfl, r⟩
  | _, _, i + 1, x, .cons _ t, e => by
    obtain ⟨u, h1, h2⟩ := Vals.get (i := i) (x := x) t (by simpa using e)
    exact ⟨u, by simpa using h1, h2⟩
theorem Vals.set {x : V} {u : Value} (r : RelV x u) : ∀ {xs : List V} {us : List Value} (i : Nat), Vals xs us → Vals (xs.set i x) (us.set i u)
  | _, _, _, .nil => .nil
  | _, _, 0, .cons _ t => .cons r t
  | _, _, i + 1, .cons q t => .cons q (Vals.set r i t)
theorem Vals.append : ∀ {xs ys : List V} {us ws : List Value}, Vals xs us → Vals ys ws → Vals (xs ++ ys) (us ++ ws)
  | _, _, _, _, .nil, s => s
  | _, _, _, _, .cons r t, s => .cons r (Vals.append t s)
theorem Vals.take : ∀ {xs : List V} {us : List Value} (n : Nat), Vals xs us → Vals (xs.take n) (us.take n)
  | _, _, 0, _ => .nil
  | _, _, _ + 1, .nil => .nil
  | _, _, n + 1, .cons r t => .cons r (Vals.take n t)
theorem Vals.drop : ∀ {xs : List V} {us : List Value} (n : Nat), Vals xs us → Vals (xs.drop n) (us.drop n)
  | _, _, 0, r => r
  | _, _, _ + 1, .nil => .nil
  | _, _, n + 1, .cons _ t => Vals.drop n t
theorem Vals.none_of : ∀ {xs : List V} {us : List Value} {i : Nat}, Vals xs us → xs[i]? = none → us[i]? = none := fun {xs us i} r e => by
  have h1 := r.length
  have h2 : xs.length ≤ i := List.getElem?_eq_none_iff.mp e
  exact List.getElem?_eq_none_iff.mpr (by omega)

def RelO : Option V → Option Value → Prop
  | some v, some u => RelV v u
  | none, none => True
  | _, _ => False
def KV {κ : Type} : List (κ × V) → List (κ × Value) → Prop := Paired fun (p : κ × V) (q : κ × Value) => p.1 = q.1 ∧ RelV p.2 q.2

/-- a key of a dict (00_mix): an int or a text -/
def kV : Key → V
  | .inl i => .int i
  | .inr x => .str x

/-- what stands at a tracked address -/
inductive HO where
  /-- a list -/
  | lst (xs : List V)
  /-- a tuple (never changes) -/
  | tup (xs : List V)
  /-- a dict whose keys are ints and texts; one whose keys are tuples of ints and texts (the empty one is both) -/
  | dK (kvs : List (Key × V)) | dT (kvs : List (List Key × V))
  /-- a set of ints: its members, its size -/
  | set (S : Int → Bool) (n : Nat)
  /-- an instance of the class at C, its dict at dx, its attributes -/
  | ins (C dx : Addr) (fs : List (Str × V))
  /-- the dict of the instance at x -/
  | own (x : Addr)
  /-- the dict of an exception -/
  | xd (fs : List (Str × V))
  /-- a bound method, f of x -/
  | met (f x : Addr)
  /-- a range object lo, lo + 1, .. below hi -/
  | rng (lo hi : Int)
  /-- a thing that is known to the object (the script; a dict while a loop walks it): read, never written while it is so -/
  | frz (o : Obj) (u : HO)
  /-- a code object's table -/
  | tbl (ps : Array Value)
  /-- any other thing, by what is true of its one object (a def of one's own: SetO a S n := HO.ext fun h => ..) -/
  | ext (φ : Heap → Prop)

abbrev Hp := Addr → Option HO
def upd (H : Hp) (a : Addr) (o : HO) : Hp := fun b => if b = a then some o else H b
theorem upd_same {H : Hp} {a : Addr} {o : HO} : upd H a o a = some o := by unfold upd; rw [if_pos rfl]
theorem upd_ne {H : Hp} {a b : Addr} {o : HO} (h : b ≠ a) : upd H a o b = H b := by unfold upd; rw [if_neg h]
theorem upd_upd {H : Hp} {a : Addr} {o u : HO} : upd (upd H a o) a u = upd H a u := by
  funext b; unfold upd; split <;> rfl
/-- two objects of different content stand apart -/
theorem ne_of {H : Hp} {a b : Addr} {o u : HO} (h : H a = some o) (h' : H b = some u) (d : o ≠ u) : a ≠ b := by
  intro e; subst e; rw [h] at h'; exact d (Option.some.inj h')
theorem ne_of_none {H : Hp} {a b : Addr} {o : HO} (h : H a = some o) (h' : H b = none) : a ≠ b := by
  intro e; subst e; rw [h] at h'; cases h'

section
variable (P : Program) (w : World)
def ObjOk (H : Hp) (h : Heap) (a : Addr) : HO → Prop
  | .lst xs => xs.length ≤ sizeLine ∧ ∃ (its : List Value) (n : Nat), Vals xs its ∧ h.get? a = some { cls := .type "list", data := .seq its.toArray n }
  | .tup xs => xs.length ≤ sizeLine ∧ ∃ its : List Value, Vals xs its ∧ IsTup h a its.toArray
  | .dK kvs => kvs.length ≤ sizeLine ∧ (a == sysModules) = false ∧ ∃ vs, KV kvs vs ∧ h.DictOf (mixKind P w) a vs
  | .dT kvs => kvs.length ≤ sizeLine ∧ (a == sysModules) = false ∧ ∃ xs : List (List Key × Addr × Value),
      Paired (fun (p : List Key × V) (q : List Key × Addr × Value) => p.1 = q.1 ∧ H q.2.1 = some (.tup (p.1.map kV)) ∧ RelV p.2 q.2.2) kvs xs ∧
      ∃ o es ep, h.get? a = some o ∧ o.ExactDict ∧ o.data = .dict es ep ∧ es.toList = xs.map (entryOfKey (tupleKind (mixKind P w))) ∧ (xs.map (·.1)).Nodup
  | .set S n => h.SetOf (intKind P w) a S n
  | .ins C dx fs => H dx = some (.own a) ∧ fs.length ≤ 1000 ∧ dx ≠ a ∧ h.get? a = some (PySem.W.instObj C dx) ∧
      ∃ mA, h.Ns1 dx mA ∧ (∀ f, RelO (fs.lookup f) (mA f)) ∧ PySem.Within mA (fs.map (·.1))
  | .own _ => ∃ o, h.get? a = some o
  | .xd fs => ∃ mA, h.Ns1 a mA ∧ ∀ f, RelO (fs.lookup f) (mA f)
  | .rng lo hi => ∃ t u v, h.get? a = some { cls := .type "range", data := .fields #[.int lo t, .int hi u, .int 1 v] }
  | .frz o u => h.get? a = some o ∧ ObjOk H h a u
  | .tbl ps => h.get? a = some { cls := .none, data := .fields ps }
  | .met f x => h.get? a = some (PySem.W.methodObj (.ref f) (.ref x))
  | .ext φ => φ h ∧ (∃ o, h.get? a = some o) ∧ ∀ h1 h2 : Heap, φ h1 → (∀ o, h1.get? a = some o → h2.get? a = some o) → φ h2
/-- the abstract heap is held -/
def HOk (H : Hp) (h : Heap) : Prop := ∀ a o, H a = some o → ObjOk P w H h a o
end

section
variable {P : Program} {w : World} {H H' : Hp} {h h' : Heap} {a : Addr} {o : HO}
theorem ObjOk.lt (x : ObjOk P w H h a o) : a < h.objs.size := by
  cases o with
  | lst xs => obtain ⟨_, _, _, _, e⟩ := x; exact Heap.lt_size e
  | tup xs => obtain ⟨_, _, _, p⟩ := x; exact p.lt
  | dK kvs => obtain ⟨_, _, _, _, o, _, _, e, _⟩ := x; exact Heap.lt_size e
  | dT kvs => obtain ⟨_, _, _, _, o, _, _, e, _⟩ := x; exact Heap.lt_size e
  | set S n => obtain ⟨o, _, _, _, e, _⟩ := x; exact Heap.lt_size e
  | ins C dx fs => obtain ⟨_, _, _, e, _⟩ := x; exact Heap.lt_size e
  | own y => obtain ⟨_, e⟩ := x; exact Heap.lt_size e
  | xd fs => obtain ⟨_, ⟨_, _, _, e, _⟩, _⟩ := x; exact Heap.lt_size e
  | rng lo hi => obtain ⟨_, _, _, e⟩ := x; exact Heap.lt_size e
  | frz ob u => obtain ⟨e, _⟩ := x; exact Heap.lt_size e
  | tbl ps => exact Heap.lt_size (show h.get? a = some _ from x)
  | met f y => exact Heap.lt_size (show h.get? a = some _ from x)
  | ext φ => obtain ⟨_, ⟨_, e⟩, _⟩ := x; exact Heap.lt_size e
theorem Paired.mapP {α β : Type} {F G : α → β → Prop} : ∀ {l₁ : List α} {l₂ : List β}, Paired F l₁ l₂ → (∀ a b, F a b → G a b) → Paired G l₁ l₂
  | _, _, .nil, _ => .nil
  | _, _, .cons r t, f => .cons (f _ _ r) (Paired.mapP t f)
theorem Paired.imp' {α β : Type} {F G : α → β → Prop} (f : ∀ a b, F a b → G a b) {l₁ : List α} {l₂ : List β} (r : Paired F l₁ l₂) : Paired G l₁ l₂ := Paired.mapP r f
/-- what an object's description leans on: its own object, its own dict, the tuples -/
theorem ObjOk.stay (x : ObjOk P w H h a o) (k : ∀ b u, (b = a ∨ H b = some (.own a)) → h.get? b = some u → h'.get? b = some u)
    (ho : ∀ b, H b = some (.own a) → H' b = some (.own a)) (ht : ∀ b xs, H b = some (.tup xs) → H' b = some (.tup xs)) : ObjOk P w H' h' a o := by
  induction o with
  | lst xs => obtain ⟨z, its, n, r, e⟩ := x; exact ⟨z, its, n, r, k _ _ (.inl rfl) e⟩
  | tup xs => obtain ⟨z, its, r, ob, e, c⟩ := x; exact ⟨z, its, r, ob, k _ _ (.inl rfl) e, c⟩
  | dK kvs => obtain ⟨z, y, vs, r, ob, es, ep, e, c⟩ := x; exact ⟨z, y, vs, r, ob, es, ep, k _ _ (.inl rfl) e, c⟩
  | dT kvs =>
    obtain ⟨z, y, xs, r, ob, es, ep, e, c⟩ := x
    exact ⟨z, y, xs, Paired.mapP r fun p q z => ⟨z.1, ht _ _ z.2.1, z.2.2⟩, ob, es, ep, k _ _ (.inl rfl) e, c⟩
  | set S n => obtain ⟨ob, es, ep, t, e, c⟩ := x; exact ⟨ob, es, ep, t, k _ _ (.inl rfl) e, c⟩
  | ins C dx fs =>
    obtain ⟨d, z, ne, e, mA, ⟨od, es, ep, e2, c⟩, r⟩ := x
    exact ⟨ho _ d, z, ne, k _ _ (.inl rfl) e, mA, ⟨od, es, ep, k _ _ (.inr d) e2, c⟩, r⟩
  | own y => obtain ⟨ob, e⟩ := x; exact ⟨ob, k _ _ (.inl rfl) e⟩
  | xd fs => obtain ⟨mA, ⟨od, es, ep, e, c⟩, r⟩ := x; exact ⟨mA, ⟨od, es, ep, k _ _ (.inl rfl) e, c⟩, r⟩
  | rng lo hi => obtain ⟨t, u, v, e⟩ := x; exact ⟨t, u, v, k _ _ (.inl rfl) e⟩
  | frz ob u ih => obtain ⟨e, q⟩ := x; exact ⟨k _ _ (.inl rfl) e, ih q⟩
  | tbl ps =>
    have e : h.get? a = some { cls := .none, data := .fields ps } := x
    show h'.get? a = some { cls := .none, data := .fields ps }
    exact k a _ (.inl rfl) e
  | met f y =>
    have e : h.get? a = some (PySem.W.methodObj (.ref f) (.ref y)) := x
    show h'.get? a = some (PySem.W.methodObj (.ref f) (.ref y))
    exact k a _ (.inl rfl) e
  | ext φ => obtain ⟨p, ⟨o, e⟩, st⟩ := x; exact ⟨st _ _ p fun o q => k _ _ (.inl rfl) q, ⟨o, k _ _ (.inl rfl) e⟩, st⟩
theorem HOk.lt (x : HOk P w H h) (e : H a = some o) : a < h.objs.size := (x a o e).lt
theorem HOk.fresh (x : HOk P w H h) (e : h.objs.size ≤ a) : H a = none := by
  cases q : H a with
  | none => rfl
  | some u => exact absurd (Nat.lt_of_lt_of_le (x.lt q) e) (Nat.lt_irrefl _)
/-- every object of the heap is kept -/
theorem HOk.kept (x : HOk P w H h) (k : ∀ b u, h.get? b = some u → h'.get? b = some u) : HOk P w H h' := fun a o e =>
  (x a o e).stay (fun b u _ q => k b u q) (fun _ q => q) fun _ _ q => q
/-- a new object is laid and tracked -/
theorem HOk.laid (x : HOk P w H h) (k : ∀ b u, h.get? b = some u → h'.get? b = some u) (hp : h.objs.size ≤ a) (new : ObjOk P w (upd H a o) h' a o) : HOk P w (upd H a o) h' := fun b u e => by
  have hn := x.fresh hp
  by_cases hb : b = a
  · subst hb; rw [upd_same] at e; cases e; exact new
  · rw [upd_ne hb] at e
    exact (x b u e).stay (fun c v _ q => k c v q) (fun c q => by rw [upd_ne (ne_of_none q hn)]; exact q) fun c xs q => by rw [upd_ne (ne_of_none q hn)]; exact q
end

/-- what may be read as u: it is u, or a known u -/
def Rd (H : Hp) (a : Addr) (u : HO) : Prop := H a = some u ∨ ∃ o, H a = some (.frz o u)
theorem Rd.of {H : Hp} {a : Addr} {u : HO} (h : H a = some u) : Rd H a u := .inl h
theorem Rd.ok {P : Program} {w : World} {H : Hp} {h : Heap} {a : Addr} {u : HO} (r : Rd H a u) (x : HOk P w H h) : ObjOk P w H h a u := by
  rcases r with r | ⟨o, r⟩
  · exact x a u r
  · obtain ⟨_, q⟩ := x a _ r
    exact q
/-- what may be written -/
def Mut : Option HO → Prop
  | some (.lst _) => True
  | some (.dK _) => True
  | some (.dT _) => True
  | some (.set _ _) => True
  | some (.ins _ _ _) => True
  | some (.ext _) => True
  | _ => False
section
variable {P : Program} {w : World} {H : Hp} {h h' : Heap} {x e : Addr} {o' : HO}
/-- the object at e is changed: x itself, or the dict of the instance x -/
theorem HOk.write (ok : HOk P w H h) (mu : Mut (H x)) (he : e = x ∨ H e = some (.own x)) (k : ∀ b u, b ≠ e → h.get? b = some u → h'.get? b = some u) (heo : ∃ u, h'.get? e = some u)
    (new : ObjOk P w (upd H x o') h' x o') : HOk P w (upd H x o') h' := fun b u q => by
  have nown : ∀ c y, H c = some (.own y) → c ≠ x := fun c y r z => by subst z; rw [r] at mu; exact mu
  have ntup : ∀ c xs, H c = some (.tup xs) → c ≠ x := fun c xs r z => by subst z; rw [r] at mu; exact mu
  by_cases hb : b = x
  · subst hb; rw [upd_same] at q; cases q; exact new
  · rw [upd_ne hb] at q
    by_cases hbe : b = e
    · have q' : H b = some (.own x) := by
        rcases he with z | z
        · exact absurd (hbe.trans z) hb
        · rw [hbe]; exact z
      rw [q] at q'; cases q'
      obtain ⟨v, hv⟩ := heo
      exact ⟨v, by rw [hbe]; exact hv⟩
    · refine (ok b u q).stay (fun c v hc r => k c v ?_ r) (fun c r => by rw [upd_ne (nown c b r)]; exact r) fun c xs r => by rw [upd_ne (ntup c xs r)]; exact r
      rcases hc with rfl | hc
      · exact hbe
      · rintro rfl
        rcases he with z | z
        · exact nown c b hc z
        · rw [hc] at z; cases z; exact hb rfl
end

/-! ### kept unless tracked; of the frames at fs (the callers') the slots may change (an exception that passes writes there); of the records at ex (iterators) nothing is said -/
structure Un (fs ex : List Addr) (H H' : Hp) (h h' : Heap) : Prop where
  keep : ∀ b o, h.get? b = some o → H b = none → b ∉ fs → b ∉ ex → h'.get? b = some o
  slot : ∀ b o, h.get? b = some o → H b = none → b ∈ fs → b ∉ ex → ∃ sl, h'.get? b = some { o with slots := sl }
  free : ∀ b o, h.get? b = some o → H b = none → b ∉ ex → H' b = none
  there : ∀ b o, h.get? b = some o → b ∉ ex → ∃ o', h'.get? b = some o'
  tups : ∀ b xs, H b = some (.tup xs) → H' b = some (.tup xs)
  frzs : ∀ b o u, H b = some (.frz o u) → H' b = some (.frz o u)
  tbls : ∀ b ps, H b = some (.tbl ps) → ∃ more, H' b = some (.tbl (ps ++ more))
section
variable {fs fs' ex ex' : List Addr} {H H1 H2 : Hp} {h h1 h2 h' : Heap} {a x e : Addr} {o : HO}
theorem Un.any (u : Un fs ex H H1 h h1) {b : Addr} {ob : Obj} (q : h.get? b = some ob) (n : H b = none) (hx : b ∉ ex) : ∃ sl, h1.get? b = some { ob with slots := sl } := by
  by_cases hb : b ∈ fs
  · exact u.slot b ob q n hb hx
  · exact ⟨ob.slots, u.keep b ob q n hb hx⟩
theorem Un.trans (a : Un fs ex H H1 h h1) (b : Un fs ex H1 H2 h1 h2) : Un fs ex H H2 h h2 where
  keep := fun c ob q n hc hx => b.keep c ob (a.keep c ob q n hc hx) (a.free c ob q n hx) hc hx
  slot := fun c ob q n hc hx => by
    obtain ⟨sl, e1⟩ := a.slot c ob q n hc hx
    obtain ⟨sl', e2⟩ := b.slot c _ e1 (a.free c ob q n hx) hc hx
    exact ⟨sl', e2⟩
  free := fun c ob q n hx => by
    obtain ⟨o', e1⟩ := a.there c ob q hx
    exact b.free c o' e1 (a.free c ob q n hx) hx
  there := fun c ob q hx => by
    obtain ⟨o', e1⟩ := a.there c ob q hx
    exact b.there c o' e1 hx
  tups := fun c xs q => b.tups c xs (a.tups c xs q)
  frzs := fun c ob xs q => b.frzs c ob xs (a.frzs c ob xs q)
  tbls := fun c ps q => by
    obtain ⟨m1, e1⟩ := a.tbls c ps q
    obtain ⟨m2, e2⟩ := b.tbls c _ e1
    exact ⟨m1 ++ m2, by rw [e2, Array.append_assoc]⟩
theorem Un.kept (k : ∀ b u, h.get? b = some u → h'.get? b = some u) : Un fs ex H H h h' :=
  ⟨fun b ob q _ _ _ => k b ob q, fun b ob q _ _ _ => ⟨ob.slots, k b ob q⟩, fun _ _ _ n _ => n, fun b ob q _ => ⟨ob, k b ob q⟩, fun _ _ q => q, fun _ _ _ q => q, fun _ ps q => ⟨#[], by rw [q]; simp⟩⟩
theorem Un.refl : Un fs ex H H h h := Un.kept fun _ _ q => q
theorem Un.laid (k : ∀ b u, h.get? b = some u → h'.get? b = some u) (hp : h.objs.size ≤ a) (hn : H a = none) : Un fs ex H (upd H a o) h h' where
  keep := fun b u q _ _ _ => k b u q
  slot := fun b u q _ _ _ => ⟨u.slots, k b u q⟩
  free := fun b u q n _ => by rw [upd_ne (Nat.ne_of_lt (Nat.lt_of_lt_of_le (Heap.lt_size q) hp))]; exact n
  there := fun b u q _ => ⟨u, k b u q⟩
  tups := fun b xs q => by rw [upd_ne (ne_of_none q hn)]; exact q
  frzs := fun b u xs q => by rw [upd_ne (ne_of_none q hn)]; exact q
  tbls := fun b ps q => ⟨#[], by rw [upd_ne (ne_of_none q hn), q]; simp⟩
theorem Un.write (mu : Mut (H x)) (he : e = x ∨ H e = some (.own x)) (k : ∀ b u, b ≠ e → h.get? b = some u → h'.get? b = some u) (heo : ∃ u, h'.get? e = some u) : Un fs ex H (upd H x o) h h' := by
  have hx : ∀ b, H b = none → b ≠ x := fun b n z => by subst z; rw [n] at mu; exact mu
  have hb : ∀ b, H b = none → b ≠ e := fun b n z => by
    subst z
    rcases he with r | r
    · exact hx b n r
    · rw [n] at r; cases r
  have hm : ∀ b u, H b = some u → ¬ Mut (some u) → b ≠ x := fun b u q nm z => by subst z; rw [q] at mu; exact nm mu
  refine ⟨fun b u q n _ _ => k b u (hb b n) q, fun b u q n _ _ => ⟨u.slots, k b u (hb b n) q⟩, fun b u q n _ => by rw [upd_ne (hx b n)]; exact n, fun b u q _ => ?_,
    fun b xs q => by rw [upd_ne (hm b _ q fun z => z)]; exact q, fun b u xs q => by rw [upd_ne (hm b _ q fun z => z)]; exact q, fun b ps q => ⟨#[], by rw [upd_ne (hm b _ q fun z => z), q]; simp⟩⟩
  by_cases hbe : b = e
  · subst hbe; exact heo
  · exact ⟨u, k b u hbe q⟩
theorem Un.mono (u : Un fs ex H H1 h h1) (hs : ∀ b ∈ fs, b ∈ fs') (hx : ∀ b ∈ ex, b ∈ ex') : Un fs' ex' H H1 h h1 :=
  ⟨fun b ob q n hb he => u.keep b ob q n (fun z => hb (hs b z)) fun z => he (hx b z), fun _ _ q n _ he => u.any q n fun z => he (hx _ z), fun b ob q n he => u.free b ob q n fun z => he (hx b z), fun b ob q he => u.there b ob q fun z => he (hx b z), u.tups, u.frzs, u.tbls⟩
end

/-! ### the heap without what is tracked -/
def trk (h : Heap) (H : Hp) : List Addr := (List.range h.objs.size).filter fun a => (H a).isSome
def hidT (h : Heap) (H : Hp) : Heap := PySem.W.hideAll h (trk h H)
theorem hidT_size (h : Heap) (H : Hp) : (hidT h H).objs.size = h.objs.size := PySem.W.hideAll_size _ _
theorem hidT_get {h : Heap} {H : Hp} {b : Addr} {o : Obj} (e : h.get? b = some o) (n : H b = none) : (hidT h H).get? b = some o :=
  PySem.W.hideAll_get _ e fun hm => by
    have q : (H b).isSome = true := (List.mem_filter.mp hm).2
    rw [n] at q; simp at q
theorem of_hidT {h : Heap} {H : Hp} {b : Addr} {o : Obj} (e : (hidT h H).get? b = some o) : h.get? b = some o ∧ H b = none := by
  have e' : h.get? b = some o := PySem.W.of_hideAll (trk h H) e
  refine ⟨e', ?_⟩
  cases q : H b with
  | none => rfl
  | some x =>
    have hm : b ∈ trk h H := List.mem_filter.mpr ⟨List.mem_range.mpr (Heap.lt_size e'), by simp [q]⟩
    have z : (hidT h H).get? b = none := PySem.W.hideAll_none (trk h H) hm
    rw [z] at e; cases e

/-! ### OpenK's ledger, filled with every new object but one -/
def allNews (g h : Heap) (L : Addr) : List (Addr × Obj) := (List.range h.objs.size).filterMap fun a => if a = L ∨ (g.get? a).isSome = true then none else (h.get? a).map fun o => (a, o)
theorem mem_allNews {g h : Heap} {L a : Addr} {o : Obj} (h1 : a ≠ L) (h2 : g.get? a = none) (h3 : h.get? a = some o) : (a, o) ∈ allNews g h L :=
  List.mem_filterMap.mpr ⟨a, List.mem_range.mpr (Heap.lt_size h3), by simp [h1, h2, h3]⟩
theorem of_mem_allNews {g h : Heap} {L : Addr} {p : Addr × Obj} (hp : p ∈ allNews g h L) : p.1 ≠ L ∧ g.get? p.1 = none ∧ h.get? p.1 = some p.2 := by
  obtain ⟨b, _, e⟩ := List.mem_filterMap.mp hp
  split at e
  · cases e
  · rename_i hn
    cases q : h.get? b with
    | none => rw [q] at e; simp at e
    | some u =>
      rw [q] at e
      simp only [Option.map_some, Option.some.injEq] at e
      subst e
      refine ⟨fun z => hn (.inl z), ?_, q⟩
      show g.get? b = none
      cases r : g.get? b with
      | none => rfl
      | some v => exact (hn (.inr (by simp [r]))).elim
def rest (g h : Heap) (L d : Addr) : List (Addr × Obj) := (allNews g h L).filter fun p => decide (p.1 ≠ d)
theorem rest_ne {g h : Heap} {L d : Addr} : ∀ p ∈ rest g h L d, p.1 ≠ d := fun p hp => of_decide_eq_true (List.mem_filter.mp hp).2
theorem mem_rest {g h : Heap} {L d a : Addr} {o : Obj} (h1 : a ≠ L) (h2 : g.get? a = none) (h3 : h.get? a = some o) (h4 : a ≠ d) : (a, o) ∈ rest g h L d :=
  List.mem_filter.mpr ⟨mem_allNews h1 h2 h3, decide_eq_true h4⟩
theorem news_all {g h : Heap} {L : Addr} : News g L h (allNews g h L) := fun p hp => let ⟨a, b, c⟩ := of_mem_allNews hp; ⟨c, a, b⟩
theorem news_at {g h : Heap} {L d : Addr} {o : Obj} (h1 : d ≠ L) (h2 : g.get? d = none) (h3 : h.get? d = some o) : News g L h ((d, o) :: rest g h L d) := fun p hp => by
  rcases List.mem_cons.mp hp with rfl | hp
  · exact ⟨h3, h1, h2⟩
  · exact news_all p (List.mem_filter.mp hp).1
/-- behind a rule that changed d alone: all else but the frame is kept -/
theorem kept_of_news {g h h' : Heap} {L d : Addr} {m : Str → Option Value} (k : ∀ b o, g.get? b = some o → h.get? b = some o) (F : Fr g L h' m) (N : News g L h' (rest g h L d)) :
    ∀ b o, b ≠ L → b ≠ d → h.get? b = some o → h'.get? b = some o := fun b o h1 h2 e => by
  cases q : g.get? b with
  | some u =>
    have := k b u q
    rw [e] at this; cases this
    exact F.keep b _ q
  | none => exact (N (b, o) (mem_rest h1 q e h2)).1
end L2

namespace L2
open PySem PySem.Spec PyProof.Rows

/-- the module's facts, over the base: the heap at the law's entry without what is tracked there -/
structure Mod (K : PySem.W.Frag) (mg : Str → Option Value) (base : Heap) : Prop where
  kin : K.In base
  glob : base.Ns mainGlobals mg
  blt : ∃ mb, base.Ns builtinsNs mb ∧ ∀ x : Str, x ≠ "__name__" → mb x = bootBuiltins x
  nolimit : base.NoLimit

/-- the context: a def's body (or a comprehension's block) running. base: fixed through the whole law; s₀, H₀: the entry; outer: the frames whose slots others may change (a def's callers); stack: all frames that run;
   ex: iterators that were made ahead of the entry and are walked here (a comprehension's); fn: the names whose cells were made at the entry (a def: all; a comprehension's block: its own); calm: not within an except suite; pn: pins that every state bears; xe: what is wanted of an exception that leaves the code -/
structure Cx where
  prog : Program
  w : World
  K : PySem.W.Frag
  mg : Str → Option Value
  base : Heap
  A : Around
  N : List Str
  s₀ : Shared
  H₀ : Hp
  env : Env
  outer : List Env
  stack : List Env
  ex : List Addr
  fn : Str → Bool
  calm : Bool
  pn : List (Addr × Obj)
  xe : Value → Shared → Prop
/-- the callers' frames -/
def frs (l : List Env) : List Addr := l.filterMap (·.frame)
abbrev Cx.fs (X : Cx) : List Addr := frs X.outer

def Vis (sc : Scope) (x : Str) : Prop := sc.names.lookup x = some .local ∨ sc.names.lookup x = some .cell ∨ sc.names.lookup x = some .free
def Loc (sc : Scope) (x : Str) : Prop := sc.names.lookup x = some .local ∨ sc.names.lookup x = some .cell
def Look (env : Env) (h : Heap) (m : Str → Option Value) (x : Str) (u : Value) : Prop :=
  (env.kindOf x = some .local ∧ m x = some u) ∨ ((env.kindOf x = some .cell ∨ env.kindOf x = some .free) ∧ ∃ c, env.cells.lookup x = some c ∧ h.IsCell c (some u))

structure Cx.Ok (X : Cx) : Prop where
  mod : Mod X.K X.mg X.base
  kind : X.env.scope.kind = .function
  glob : X.env.globals = mainGlobals
  blt : X.env.builtins = builtinsNs
  above : X.s₀.heap.objs.size ≤ X.env.locals
  inj : ∀ x y c, X.env.cells.lookup x = some c → X.env.cells.lookup y = some c → x = y
  has : ∀ x, (X.env.kindOf x = some .cell ∨ X.env.kindOf x = some .free) → ∃ c, X.env.cells.lookup x = some c
  cab : ∀ x c, X.fn x = true → X.env.cells.lookup x = some c → X.s₀.heap.objs.size ≤ c
  hd : X.calm = true → X.A.handled = none
  frames : X.A.frames = some X.stack
  stk : X.stack = X.outer ∨ (X.stack = X.env :: X.outer ∧ X.env.frame = some X.env.locals)
  exf : ∀ b ∈ X.ex, b ≠ X.env.locals ∧ ∀ x c, X.env.cells.lookup x = some c → c ≠ b
  bs : ∀ b o, X.base.get? b = some o → X.s₀.heap.get? b = some o ∧ X.H₀ b = none
  bsz : X.base.objs.size ≤ X.s₀.heap.objs.size
  noex : ∀ b o, X.base.get? b = some o → b ∉ X.ex
  exfs : ∀ b ∈ X.ex, b ∉ X.fs
  funs : X.s₀.heap.FunFrames X.base X.outer
  frf : ∀ b ∈ X.fs, X.H₀ b = none

structure Inv (X : Cx) (pins : List (Addr × Obj)) (σ : List (Option V)) (H : Hp) (s : Shared) : Prop where
  ok : X.Ok
  os : s.os = X.s₀.os
  bare : AllBare s.gens
  base : Un X.fs X.ex X.H₀ H X.s₀.heap s.heap
  loc : ∃ m, s.heap.Ns X.env.locals m ∧ ∀ (i : Nat) (x : Str) (v : V), X.N[i]? = some x → σ[i]? = some (some v) → Vis X.env.scope x → ∃ u, RelV v u ∧ Look X.env s.heap m x u
  cell : ∀ x c, X.env.cells.lookup x = some c → ∃ v, s.heap.IsCell c v
  free : H X.env.locals = none
  freeC : ∀ x c, X.env.cells.lookup x = some c → H c = none
  pin : ∀ p ∈ X.pn ++ pins, s.heap.get? p.1 = some p.2 ∧ H p.1 = none ∧ p.1 ≠ X.env.locals ∧ p.1 ∉ X.fs ∧ ∀ v, p.2.data ≠ .cell v
  hok : HOk X.prog X.w H s.heap
  len : σ.length = X.N.length

section
variable {X : Cx} {pins : List (Addr × Obj)} {σ : List (Option V)} {H H' : Hp} {s : Shared} {h' : Heap}

theorem Cx.Ok.nofr (ok : X.Ok) {b : Addr} {o : Obj} (e : X.base.get? b = some o) : b ∉ X.fs := fun hb => by
  have := (ok.funs.mem hb).1
  rw [e] at this; cases this
theorem Inv.bs (I : Inv X pins σ H s) : ∀ b o, X.base.get? b = some o → s.heap.get? b = some o ∧ H b = none := fun b o e =>
  ⟨I.base.keep b o (I.ok.bs b o e).1 (I.ok.bs b o e).2 (I.ok.nofr e) (I.ok.noex b o e), I.base.free b o (I.ok.bs b o e).1 (I.ok.bs b o e).2 (I.ok.noex b o e)⟩
theorem Inv.bk (I : Inv X pins σ H s) : ∀ b o, X.base.get? b = some o → s.heap.get? b = some o := fun b o e => (I.bs b o e).1
theorem Inv.mod (I : Inv X pins σ H s) : Mod X.K X.mg X.base := I.ok.mod
theorem Inv.kIn (I : Inv X pins σ H s) : X.K.In s.heap := I.ok.mod.kin.keeps I.bk
theorem Inv.nolimit (I : Inv X pins σ H s) : s.heap.NoLimit := I.ok.mod.nolimit.keeps I.bk
/-- the frame over the base: for OpenK's rules (K.In X.base is I.mod.kin) -/
theorem Inv.fr (I : Inv X pins σ H s) : ∃ m, Fr X.base X.env.locals s.heap m :=
  let ⟨m, hn, _⟩ := I.loc
  ⟨m, hn, I.bk, Nat.le_trans I.ok.bsz I.ok.above⟩
theorem Inv.lt (I : Inv X pins σ H s) : X.env.locals < s.heap.objs.size := let ⟨_, hn, _⟩ := I.loc; hn.lt
theorem Inv.sz (I : Inv X pins σ H s) : X.s₀.heap.objs.size ≤ s.heap.objs.size := Nat.le_trans I.ok.above (Nat.le_of_lt I.lt)
theorem Inv.nofs (I : Inv X pins σ H s) {a : Addr} (h : s.heap.objs.size ≤ a) : a ∉ X.fs := fun hb => by
  obtain ⟨_, o, ho, _⟩ := I.ok.funs.mem hb
  exact absurd (Nat.lt_of_lt_of_le (Heap.lt_size ho) (Nat.le_trans I.sz h)) (Nat.lt_irrefl _)
theorem Inv.cne (I : Inv X pins σ H s) : ∀ x c, X.env.cells.lookup x = some c → c ≠ X.env.locals := fun x c e z => by
  obtain ⟨v, o, ho, hd⟩ := I.cell x c e
  obtain ⟨m, ⟨o', es, ep, ho', hd', _⟩, _⟩ := I.loc
  rw [z, ho'] at ho; cases ho; rw [hd'] at hd; cases hd
theorem Inv.funs (I : Inv X pins σ H s) : s.heap.FunFrames X.base X.outer := by
  have all : ∀ (l : List Env), (∀ b ∈ frs l, b ∈ X.fs) → X.s₀.heap.FunFrames X.base l → s.heap.FunFrames X.base l := by
    intro l
    induction l with
    | nil => intro _ _; trivial
    | cons env r ih =>
      intro hs hl
      obtain ⟨hk, ⟨L, o, hf, hn, ho, hd⟩, hr⟩ := hl
      have hL : L ∈ X.fs := hs L (by unfold frs; rw [List.filterMap_cons, hf]; exact List.mem_cons_self)
      obtain ⟨sl, e⟩ := I.base.slot L o ho (I.ok.frf L hL) hL fun z => I.ok.exfs L z hL
      exact ⟨hk, ⟨L, _, hf, hn, e, hd⟩, ih (fun b hb => hs b (by unfold frs; rw [List.filterMap_cons, hf]; exact List.mem_cons_of_mem _ hb)) hr⟩
  exact all X.outer (fun _ hb => hb) I.ok.funs

/-- the frames that run, for a call -/
theorem Inv.stack (I : Inv X pins σ H s) : s.heap.FunFrames X.base X.stack := by
  rcases I.ok.stk with e | ⟨e, hf⟩
  · rw [e]; exact I.funs
  · rw [e]
    obtain ⟨m, hn, _⟩ := I.loc
    refine .cons (by rw [I.ok.kind]; decide) hf hn ?_ I.funs
    exact Heap.get?_none_of_le (Nat.le_trans I.ok.bsz I.ok.above)
theorem Inv.stkSub (I : Inv X pins σ H s) : ∀ b ∈ frs X.stack, b ∈ X.env.locals :: X.fs := fun b hb => by
  rcases I.ok.stk with e | ⟨e, hf⟩
  · rw [e] at hb; exact List.mem_cons_of_mem _ hb
  · rw [e] at hb
    unfold frs at hb
    rw [List.filterMap_cons, hf] at hb
    exact hb
theorem Inv.stkFree (I : Inv X pins σ H s) : ∀ b ∈ frs X.stack, H b = none := fun b hb => by
  rcases List.mem_cons.mp (I.stkSub b hb) with e | hb
  · rw [e]; exact I.free
  · obtain ⟨_, o, ho, _⟩ := I.ok.funs.mem hb
    exact I.base.free b o ho (I.ok.frf b hb) fun z => I.ok.exfs b z hb

/-- THE STEP: the untracked objects but the frame and the records at ch are kept (the callers' frames up to slots), the frame's map is kept, the new abstract heap is held -/
theorem Inv.step {g' : Array GenState} {t' : Nat} {d' : Drawn} {ch : List Addr} (I : Inv X pins σ H s)
    (hch : ∀ b ∈ ch, (b ∈ X.ex ∨ X.s₀.heap.objs.size ≤ b) ∧ b ≠ X.env.locals ∧ (∀ x c, X.env.cells.lookup x = some c → c ≠ b) ∧ ∀ p ∈ X.pn ++ pins, p.1 ≠ b)
    (keep : ∀ b o, b ≠ X.env.locals → b ∉ X.fs → b ∉ ch → s.heap.get? b = some o → H b = none → h'.get? b = some o)
    (slot : ∀ b o, b ≠ X.env.locals → b ∈ X.fs → b ∉ ch → s.heap.get? b = some o → H b = none → ∃ sl, h'.get? b = some { o with slots := sl }) (free : ∀ b o, b ∉ ch → s.heap.get? b = some o → H b = none → H' b = none)
    (there : ∀ b o, b ∉ ch → s.heap.get? b = some o → ∃ o', h'.get? b = some o')
    (tups : ∀ b xs, H b = some (.tup xs) → H' b = some (.tup xs)) (frzs : ∀ b o u, H b = some (.frz o u) → H' b = some (.frz o u)) (tbls : ∀ b ps, H b = some (.tbl ps) → ∃ more, H' b = some (.tbl (ps ++ more)))
    (ns : ∀ m, s.heap.Ns X.env.locals m → h'.Ns X.env.locals m) (hok : HOk X.prog X.w H' h') (hg : AllBare g') :
    Inv X pins σ H' { s with heap := h', gens := g', drawn := d', toks := t' } := by
  have neL : ∀ b o, X.s₀.heap.get? b = some o → b ≠ X.env.locals := fun b o e => Nat.ne_of_lt (Nat.lt_of_lt_of_le (Heap.lt_size e) I.ok.above)
  have neC : ∀ b o, X.s₀.heap.get? b = some o → b ∉ X.ex → b ∉ ch := fun b o e hx hb => by
    rcases (hch b hb).1 with z | z
    · exact hx z
    · exact absurd (Nat.lt_of_lt_of_le (Heap.lt_size e) z) (Nat.lt_irrefl _)
  have cellK : ∀ x c, X.env.cells.lookup x = some c → ∀ v, s.heap.IsCell c v → h'.IsCell c v := fun x c e v ⟨o, ho, hd⟩ => by
    have nch : c ∉ ch := fun z => (hch c z).2.2.1 x c e rfl
    by_cases hc : c ∈ X.fs
    · obtain ⟨sl, q⟩ := slot c o (I.cne x c e) hc nch ho (I.freeC x c e)
      exact ⟨_, q, hd⟩
    · exact ⟨o, keep c o (I.cne x c e) hc nch ho (I.freeC x c e), hd⟩
  refine ⟨I.ok, I.os, hg, ⟨fun b o e n hb hx => ?_, fun b o e n hb hx => ?_, fun b o e n hx => ?_, fun b o e hx => ?_, fun b xs e => tups b xs (I.base.tups b xs e), fun b o xs e => frzs b o xs (I.base.frzs b o xs e), fun b ps e => ?_⟩, ?_, fun x c e => ?_, ?_, fun x c e => ?_, fun p hp => ?_, hok, I.len⟩
  · exact keep b o (neL b o e) hb (neC b o e hx) (I.base.keep b o e n hb hx) (I.base.free b o e n hx)
  · obtain ⟨sl, e1⟩ := I.base.slot b o e n hb hx
    obtain ⟨sl', e2⟩ := slot b _ (neL b o e) hb (neC b o e hx) e1 (I.base.free b o e n hx)
    exact ⟨sl', e2⟩
  · obtain ⟨o', e1⟩ := I.base.there b o e hx
    exact free b o' (neC b o e hx) e1 (I.base.free b o e n hx)
  · obtain ⟨o', e1⟩ := I.base.there b o e hx
    exact there b o' (neC b o e hx) e1
  · obtain ⟨m1, e1⟩ := I.base.tbls b ps e
    obtain ⟨m2, e2⟩ := tbls b _ e1
    exact ⟨m1 ++ m2, by rw [e2, Array.append_assoc]⟩
  · obtain ⟨m, hn, hl⟩ := I.loc
    refine ⟨m, ns m hn, fun i x v e1 e2 e3 => ?_⟩
    obtain ⟨u, r, l⟩ := hl i x v e1 e2 e3
    refine ⟨u, r, ?_⟩
    rcases l with l | ⟨k, c, e, z⟩
    · exact .inl l
    · exact .inr ⟨k, c, e, cellK x c e _ z⟩
  · obtain ⟨v, z⟩ := I.cell x c e
    exact ⟨v, cellK x c e v z⟩
  · obtain ⟨m, ⟨o, _, _, ho, _⟩, _⟩ := I.loc
    exact free _ o (fun z => (hch _ z).2.1 rfl) ho I.free
  · obtain ⟨v, o, ho, hd⟩ := I.cell x c e
    exact free c o (fun z => (hch c z).2.2.1 x c e rfl) ho (I.freeC x c e)
  · obtain ⟨e, n, ne, nf, d⟩ := I.pin p hp
    have nch : p.1 ∉ ch := fun z => (hch p.1 z).2.2.2 p hp rfl
    exact ⟨keep p.1 p.2 ne nf nch e n, free p.1 p.2 nch e n, ne, nf, d⟩
/-- .. where the frame's own object is kept too -/
theorem Inv.un {t' : Nat} (I : Inv X pins σ H s) (u : Un X.fs [] H H' s.heap h') (hok : HOk X.prog X.w H' h') : Inv X pins σ H' { s with heap := h', toks := t' } := by
  obtain ⟨m, ⟨o, es, ep, ho, r⟩, _⟩ := id I.loc
  obtain ⟨sl, hL⟩ := u.any ho I.free (by simp)
  exact I.step (g' := s.gens) (d' := s.drawn) (ch := []) (fun _ z => nomatch z) (fun b o _ hb _ e n => u.keep b o e n hb (by simp)) (fun b o _ hb _ e n => u.slot b o e n hb (by simp)) (fun b o _ e n => u.free b o e n (by simp)) (fun b o _ e => u.there b o e (by simp)) u.tups u.frzs u.tbls (fun m' hm => by
    obtain ⟨o', es', ep', ho', r'⟩ := hm
    rw [ho] at ho'; cases ho'
    exact ⟨_, es', ep', hL, r'⟩) hok I.bare
/-- behind a call (or a comprehension's block): the slots of this frame may have changed too, the records at ch may have turned -/
theorem Inv.call {g' : Array GenState} {t' : Nat} {d' : Drawn} {ch : List Addr} (I : Inv X pins σ H s) (u : Un (frs X.stack) ch H H' s.heap h') (hok : HOk X.prog X.w H' h') (hg : AllBare g')
    (hch : ∀ b ∈ ch, (b ∈ X.ex ∨ X.s₀.heap.objs.size ≤ b) ∧ b ≠ X.env.locals ∧ (∀ x c, X.env.cells.lookup x = some c → c ≠ b) ∧ ∀ p ∈ X.pn ++ pins, p.1 ≠ b) :
    Inv X pins σ H' { s with heap := h', gens := g', drawn := d', toks := t' } := by
  obtain ⟨m, ⟨o, es, ep, ho, r⟩, _⟩ := id I.loc
  obtain ⟨sl, hL⟩ := u.any ho I.free fun z => (hch _ z).2.1 rfl
  exact I.step (ch := ch) hch (fun b o hL hb hc e n => u.keep b o e n (fun z => (List.mem_cons.mp (I.stkSub b z)).elim hL hb) hc) (fun b o _ _ hc e n => u.any e n hc) (fun b o hc e n => u.free b o e n hc) (fun b o hc e => u.there b o e hc) u.tups u.frzs u.tbls (fun m' hm => by
    obtain ⟨o', es', ep', ho', r'⟩ := hm
    rw [ho] at ho'; cases ho'
    exact ⟨_, es', ep', hL, r'⟩) hok hg
/-- an untracked record of ours (an iterator) has turned -/
theorem Inv.turned {t' : Nat} {it : Addr} (I : Inv X pins σ H s) (k : ∀ b o, b ≠ it → s.heap.get? b = some o → h'.get? b = some o) (hn : H it = none) (hL : it ≠ X.env.locals)
    (h1 : it ∈ X.ex ∨ X.s₀.heap.objs.size ≤ it) (h2 : ∀ x c, X.env.cells.lookup x = some c → c ≠ it) (h3 : ∀ p ∈ X.pn ++ pins, p.1 ≠ it) : Inv X pins σ H { s with heap := h', toks := t' } := by
  have nit : ∀ b u, H b = some u → b ≠ it := fun b u e z => by rw [z, hn] at e; cases e
  refine I.step (g' := s.gens) (d' := s.drawn) (ch := [it]) (fun b hb => ?_) (fun b o _ _ hc e _ => k b o (fun z => hc (by simp [z])) e) (fun b o _ _ hc e _ => ⟨o.slots, k b o (fun z => hc (by simp [z])) e⟩) (fun _ _ _ _ n => n)
    (fun b o hc e => ⟨o, k b o (fun z => hc (by simp [z])) e⟩) (fun _ _ e => e) (fun _ _ _ e => e) (fun b ps e => ⟨#[], by rw [e]; simp⟩) (fun m hm => ?_) (fun b u e => ?_) I.bare
  · have e : b = it := by simpa using hb
    subst e
    exact ⟨h1, hL, h2, h3⟩
  · obtain ⟨o, es, ep, ho, r⟩ := hm
    exact ⟨o, es, ep, k _ o (Ne.symm hL) ho, r⟩
  · refine (I.hok b u e).stay (fun c v hc q => k c v ?_ q) (fun _ q => q) fun _ _ q => q
    rcases hc with z | z
    · rw [z]; exact nit b u e
    · exact nit c _ z
theorem Inv.tok (I : Inv X pins σ H s) (t : Nat) : Inv X pins σ H { s with toks := t } := I.un (h' := s.heap) (t' := t) Un.refl I.hok
/-- all objects kept -/
theorem Inv.kept {t' : Nat} (I : Inv X pins σ H s) (k : ∀ b u, s.heap.get? b = some u → h'.get? b = some u) : Inv X pins σ H { s with heap := h', toks := t' } := I.un (Un.kept k) (I.hok.kept k)
/-- a new object laid and tracked -/
theorem Inv.laid {a : Addr} {o : HO} {t' : Nat} (I : Inv X pins σ H s) (k : ∀ b u, s.heap.get? b = some u → h'.get? b = some u) (hp : s.heap.objs.size ≤ a) (new : ObjOk X.prog X.w (upd H a o) h' a o) :
    Inv X pins σ (upd H a o) { s with heap := h', toks := t' } := I.un (Un.laid k hp (I.hok.fresh hp)) (I.hok.laid k hp new)
/-- an object written -/
theorem Inv.write {x e : Addr} {o : HO} {t' : Nat} (I : Inv X pins σ H s) (mu : Mut (H x)) (he : e = x ∨ H e = some (.own x)) (k : ∀ b u, b ≠ e → s.heap.get? b = some u → h'.get? b = some u) (heo : ∃ u, h'.get? e = some u)
    (new : ObjOk X.prog X.w (upd H x o) h' x o) : Inv X pins σ (upd H x o) { s with heap := h', toks := t' } := I.un (Un.write mu he k heo) (I.hok.write mu he k heo new)
/-- forgetting slots, pins -/
theorem Inv.weak {σ' : List (Option V)} (I : Inv X pins σ H s) (hl : σ'.length = σ.length) (w : ∀ (i : Nat) v, σ'[i]? = some (some v) → σ[i]? = some (some v)) : Inv X pins σ' H s :=
  ⟨I.ok, I.os, I.bare, I.base, let ⟨m, hn, hl'⟩ := I.loc; ⟨m, hn, fun i x v e1 e2 e3 => hl' i x v e1 (w i v e2) e3⟩, I.cell, I.free, I.freeC, I.pin, I.hok, hl.trans I.len⟩
theorem Inv.pins_of {pins' : List (Addr × Obj)} (I : Inv X pins σ H s) (h : ∀ p ∈ pins', s.heap.get? p.1 = some p.2 ∧ H p.1 = none ∧ p.1 ≠ X.env.locals ∧ p.1 ∉ X.fs ∧ ∀ v, p.2.data ≠ .cell v) : Inv X pins' σ H s :=
  ⟨I.ok, I.os, I.bare, I.base, I.loc, I.cell, I.free, I.freeC, fun p hp => (List.mem_append.mp hp).elim (fun z => I.pin p (List.mem_append_left _ z)) (h p), I.hok, I.len⟩

theorem nodup_ix {N : List Str} (hN : N.Nodup) {i j : Nat} {x : Str} (a : N[i]? = some x) (b : N[j]? = some x) : i = j := by
  obtain ⟨h1, e1⟩ := List.getElem?_eq_some_iff.mp a
  obtain ⟨h2, e2⟩ := List.getElem?_eq_some_iff.mp b
  exact (List.getElem_inj hN).mp (e1.trans e2.symm)

/-- a name is stored; what changed -/
theorem store_ok2 {M : Model} {A : Around} {E : Value → Shared → Prop} {i : Nat} {x : Str} {v : V} {u : Value} {Q : Unit → Shared → Prop} (I : Inv X pins σ H s) (hN : X.N.Nodup) (hi : X.N[i]? = some x) (hx : Loc X.env.scope x) (r : RelV v u)
    (h : ∀ s', Inv X pins (σ.set i (some v)) H s' → (∃ a, Heap.SameBut a s.heap s'.heap ∧ (a = X.env.locals ∨ X.env.cells.lookup x = some a)) → Q () s') (hf : X.fn x = true ∨ X.env.scope.names.lookup x = some .local := by first | exact .inl rfl | exact .inr rfl | assumption) : wpAny M A (storeName X.env x u) Q E s := by
  obtain ⟨m, hn, hl⟩ := id I.loc
  have hcls : (X.env.scope.kind == .class || (X.env.scope.kind == .module && X.env.locals != X.env.globals)) = false := by rw [I.ok.kind]; rfl
  have hiσ : i < σ.length := by rw [I.len]; exact (List.getElem?_eq_some_iff.mp hi).1
  have cne := I.cne
  have tracked : ∀ {a : Addr} {h' : Heap}, (∃ o, s.heap.get? a = some o ∧ H a = none) → Heap.SameBut a s.heap h' → HOk X.prog X.w H h' := fun {a h'} ha hs b ob e => by
    obtain ⟨_, _, hfree⟩ := ha
    refine (I.hok b ob e).stay (fun c w' hc q => (hs.2 c ?_).trans q) (fun _ q => q) fun _ _ q => q
    rintro rfl
    rcases hc with rfl | hc
    · rw [hfree] at e; cases e
    · rw [hfree] at hc; cases hc
  rcases hx with hk | hk
  · refine wpAny_storeName_local hk hn (fun h' hn' hs => ?_) hcls
    obtain ⟨oL, _, _, hoL, _⟩ := id hn
    refine h _ ⟨I.ok, I.os, I.bare, ⟨fun b o e n hb hx => ?_, fun b o e n hb hx => ?_, I.base.free, fun b o e hx => ?_, I.base.tups, I.base.frzs, I.base.tbls⟩, ⟨_, hn', fun j y v' e1 e2 e3 => ?_⟩, fun y c e => ?_, I.free, I.freeC, fun p hp => ?_, tracked ⟨oL, hoL, I.free⟩ hs, by simpa using I.len⟩ ⟨_, hs, .inl rfl⟩
    · exact (hs.2 b (Nat.ne_of_lt (Nat.lt_of_lt_of_le (Heap.lt_size e) I.ok.above))).trans (I.base.keep b o e n hb hx)
    · obtain ⟨sl, e1⟩ := I.base.slot b o e n hb hx
      exact ⟨sl, (hs.2 b (Nat.ne_of_lt (Nat.lt_of_lt_of_le (Heap.lt_size e) I.ok.above))).trans e1⟩
    · obtain ⟨o', e1⟩ := I.base.there b o e hx
      exact ⟨o', (hs.2 b (Nat.ne_of_lt (Nat.lt_of_lt_of_le (Heap.lt_size e) I.ok.above))).trans e1⟩
    · by_cases hj : j = i
      · subst hj
        rw [hi] at e1; cases e1
        rw [List.getElem?_set_self hiσ] at e2
        cases e2
        exact ⟨u, r, .inl ⟨hk, by simp⟩⟩
      · rw [List.getElem?_set_ne (Ne.symm hj)] at e2
        obtain ⟨u', r', q⟩ := hl j y v' e1 e2 e3
        refine ⟨u', r', ?_⟩
        rcases q with ⟨k, e⟩ | ⟨k, c, e, z⟩
        · refine .inl ⟨k, ?_⟩
          have : y ≠ x := fun e => hj (nodup_ix hN e1 (e ▸ hi))
          simp [this, e]
        · exact .inr ⟨k, c, e, z.sameBut hs (cne y c e)⟩
    · obtain ⟨w', z⟩ := I.cell y c e
      exact ⟨w', z.sameBut hs (cne y c e)⟩
    · obtain ⟨e, n, ne, nf, d⟩ := I.pin p hp
      exact ⟨(hs.2 p.1 ne).trans e, n, ne, nf, d⟩
  · have hfn : X.fn x = true := by
      rcases hf with z | z
      · exact z
      · rw [z] at hk; cases hk
    obtain ⟨c, hc⟩ := I.ok.has x (.inl hk)
    obtain ⟨w', z⟩ := I.cell x c hc
    refine wpAny_storeName_cell I.ok.kind hk hc z (fun h' hc' hs => ?_)
    obtain ⟨oc, hoc, hocd⟩ := id z
    refine h { s with heap := h' } ⟨I.ok, I.os, I.bare, ⟨fun b o e n hb hx => ?_, fun b o e n hb hx => ?_, I.base.free, fun b o e hx => ?_, I.base.tups, I.base.frzs, I.base.tbls⟩, ⟨m, hn.sameBut hs (Ne.symm (cne x c hc)), fun j y v' e1 e2 e3 => ?_⟩, fun y c' e => ?_, I.free, I.freeC, fun p hp => ?_, tracked ⟨oc, hoc, I.freeC x c hc⟩ hs, by simpa using I.len⟩ ⟨c, hs, .inr hc⟩
    · exact (hs.2 b (Nat.ne_of_lt (Nat.lt_of_lt_of_le (Heap.lt_size e) (I.ok.cab x c hfn hc)))).trans (I.base.keep b o e n hb hx)
    · obtain ⟨sl, e1⟩ := I.base.slot b o e n hb hx
      exact ⟨sl, (hs.2 b (Nat.ne_of_lt (Nat.lt_of_lt_of_le (Heap.lt_size e) (I.ok.cab x c hfn hc)))).trans e1⟩
    · obtain ⟨o', e1⟩ := I.base.there b o e hx
      exact ⟨o', (hs.2 b (Nat.ne_of_lt (Nat.lt_of_lt_of_le (Heap.lt_size e) (I.ok.cab x c hfn hc)))).trans e1⟩
    · by_cases hj : j = i
      · subst hj
        rw [hi] at e1; cases e1
        rw [List.getElem?_set_self hiσ] at e2
        cases e2
        exact ⟨u, r, .inr ⟨.inl hk, c, hc, hc'⟩⟩
      · rw [List.getElem?_set_ne (Ne.symm hj)] at e2
        obtain ⟨u', r', q⟩ := hl j y v' e1 e2 e3
        refine ⟨u', r', ?_⟩
        rcases q with q | ⟨k, c', e, z'⟩
        · exact .inl q
        · refine .inr ⟨k, c', e, z'.sameBut hs ?_⟩
          rintro rfl
          exact hj (nodup_ix hN e1 (I.ok.inj _ _ _ e hc ▸ hi))
    · by_cases hcc : c' = c
      · subst hcc; exact ⟨_, hc'⟩
      · obtain ⟨w2, z2⟩ := I.cell y c' e
        exact ⟨w2, z2.sameBut hs hcc⟩
    · obtain ⟨e, n, ne, nf, d⟩ := I.pin p hp
      refine ⟨(hs.2 p.1 ?_).trans e, n, ne, nf, d⟩
      intro q
      rw [q, hoc] at e
      have q' : oc = p.2 := Option.some.inj e
      exact d w' (by rw [← q']; exact hocd)
theorem store_ok {M : Model} {A : Around} {E : Value → Shared → Prop} {i : Nat} {x : Str} {v : V} {u : Value} {Q : Unit → Shared → Prop} (I : Inv X pins σ H s) (hN : X.N.Nodup) (hi : X.N[i]? = some x) (hx : Loc X.env.scope x) (r : RelV v u)
    (h : ∀ s', Inv X pins (σ.set i (some v)) H s' → Q () s') (hf : X.fn x = true ∨ X.env.scope.names.lookup x = some .local := by first | exact .inl rfl | exact .inr rfl | assumption) : wpAny M A (storeName X.env x u) Q E s :=
  store_ok2 I hN hi hx r (fun s' I' _ => h s' I') hf
/-- behind a call or a block, the state as it is -/
theorem Inv.call' {s' : Shared} {ch : List Addr} (I : Inv X pins σ H s) (ho : s'.os = s.os) (u : Un (frs X.stack) ch H H' s.heap s'.heap) (hok : HOk X.prog X.w H' s'.heap) (hg : AllBare s'.gens)
    (hch : ∀ b ∈ ch, (b ∈ X.ex ∨ X.s₀.heap.objs.size ≤ b) ∧ b ≠ X.env.locals ∧ (∀ x c, X.env.cells.lookup x = some c → c ≠ b) ∧ ∀ p ∈ X.pn ++ pins, p.1 ≠ b) : Inv X pins σ H' s' := by
  obtain ⟨h', g', d', t', o'⟩ := s'
  have e : o' = s.os := ho
  subst e
  exact I.call (g' := g') (t' := t') (d' := d') u hok hg hch
end

/-! ### the judgements -/
/-- an exception: its class, its own dict's address (where it has one), the abstract heap behind it -/
abbrev XK := Value → Option Addr → Hp → Prop
abbrev St := List (Option V)
abbrev VK := V → Hp → Prop
/-- an expression's reading; a test's; an argument list's -/
abbrev TE := St → Hp → VK → Prop
abbrev TT := St → Hp → (Bool → Hp → Prop) → Prop
abbrev TA := St → Hp → (List V → Hp → Prop) → Prop
/-- what is wanted behind a statement -/
structure Ends where
  nx : St → Hp → Prop
  rt : VK
  bk : St → Hp → Prop := fun _ _ => False
  ct : St → Hp → Prop := fun _ _ => False
abbrev TS := Ends → St → Hp → Prop

def EP (X : Cx) (pins : List (Addr × Obj)) (σ : St) (Q : VK) (u : Value) (s' : Shared) : Prop := ∃ v H', Inv X pins σ H' s' ∧ RelV v u ∧ Q v H'
def TP (X : Cx) (pins : List (Addr × Obj)) (σ : St) (Q : Bool → Hp → Prop) (b : Bool) (s' : Shared) : Prop := ∃ H', Inv X pins σ H' s' ∧ Q b H'
def AP (X : Cx) (pins : List (Addr × Obj)) (σ : St) (Q : List V → Hp → Prop) (us : List Value) (s' : Shared) : Prop := ∃ vs H', Inv X pins σ H' s' ∧ Vals vs us ∧ Q vs H'
def SP (X : Cx) (pins : List (Addr × Obj)) (D : Ends) (f : Flow) (s' : Shared) : Prop :=
  match f with
  | .next => ∃ σ' H', Inv X pins σ' H' s' ∧ D.nx σ' H'
  | .brk => ∃ σ' H', Inv X pins σ' H' s' ∧ D.bk σ' H'
  | .cont => ∃ σ' H', Inv X pins σ' H' s' ∧ D.ct σ' H'
  | .ret u => ∃ v σ' H', Inv X pins σ' H' s' ∧ RelV v u ∧ D.rt v H'

def PE (X : Cx) (e : Expr) (t : TE) : Prop :=
  ∀ (pins : List (Addr × Obj)) (s : Shared) (σ : St) (H : Hp) (Q : VK), Inv X pins σ H s → t σ H Q → wpAny (model X.prog X.w) X.A (eval e X.env) (EP X pins σ Q) X.xe s
def PT (X : Cx) (e : Expr) (t : TT) : Prop :=
  ∀ (pins : List (Addr × Obj)) (s : Shared) (σ : St) (H : Hp) (Q : Bool → Hp → Prop), Inv X pins σ H s → t σ H Q → wpAny (model X.prog X.w) X.A (isTrue e X.env (eval e X.env)) (TP X pins σ Q) X.xe s
/-- a test whatever its 'whole' is (and, or) -/
def PW (X : Cx) (e : Expr) (t : TT) : Prop :=
  ∀ (whole : Sem Value) (pins : List (Addr × Obj)) (s : Shared) (σ : St) (H : Hp) (Q : Bool → Hp → Prop), Inv X pins σ H s → t σ H Q → wpAny (model X.prog X.w) X.A (isTrue e X.env whole) (TP X pins σ Q) X.xe s
theorem PW.pt {X : Cx} {e : Expr} {t : TT} (h : PW X e t) : PT X e t := h _
/-- an argument list (no star), from the left -/
def PA (X : Cx) (es : List Expr) (t : TA) : Prop :=
  ∀ (pos : Pos) (pins : List (Addr × Obj)) (s : Shared) (σ : St) (H : Hp) (Q : List V → Hp → Prop), Inv X pins σ H s → t σ H Q → wpAny (model X.prog X.w) X.A (spliced (backTo pos (starEach es X.env))) (AP X pins σ Q) X.xe s
def PS (X : Cx) (st : Stmt) (t : TS) : Prop :=
  ∀ (pins : List (Addr × Obj)) (s : Shared) (σ : St) (H : Hp) (D : Ends), Inv X pins σ H s → t D σ H → wpAny (model X.prog X.w) X.A (exec st X.env) (SP X pins D) X.xe s
def PSs (X : Cx) (st : List Stmt) (t : TS) : Prop :=
  ∀ (pins : List (Addr × Obj)) (s : Shared) (σ : St) (H : Hp) (D : Ends), Inv X pins σ H s → t D σ H → wpAny (model X.prog X.w) X.A (execs st X.env) (SP X pins D) X.xe s
/-- weaken the end -/
theorem thn {α : Type} {t : Sem α} {Q Q' : α → Shared → Prop} {M : Model} {A : Around} {E : Value → Shared → Prop} {s : Shared} (h : wpAny M A t Q E s) (hQ : ∀ a s, Q a s → Q' a s) : wpAny M A t Q' E s := wpAny_mono h hQ fun _ _ x => x
end L2

namespace L2
open PySem PySem.Spec PyProof.Rows
section
variable {X : Cx}

/-- two expressions in a row -/
theorem bin {a b : Expr} {ta tb : TE} (ha : PE X a ta) (hb : PE X b tb) {pins : List (Addr × Obj)} {s : Shared} {σ : St} {H : Hp} {R : V → V → Hp → Prop} (I : Inv X pins σ H s) (h : ta σ H fun x H1 => tb σ H1 fun y H2 => R x y H2)
    {α : Type} {Q : α → Shared → Prop} {f : Value → Value → Sem α}
    (hf : ∀ v u s2 x y H2, Inv X pins σ H2 s2 → RelV x v → RelV y u → R x y H2 → wpAny (model X.prog X.w) X.A (f v u) Q X.xe s2) :
    wpAny (model X.prog X.w) X.A (eval a X.env) (fun v s₁ => wpAny (model X.prog X.w) X.A (eval b X.env) (fun u s₂ => wpAny (model X.prog X.w) X.A (f v u) Q X.xe s₂) X.xe s₁) X.xe s := by
  refine thn (ha pins s σ H _ I h) fun v s1 ⟨x, H1, I1, r1, q1⟩ => ?_
  refine thn (hb pins s1 σ H1 _ I1 q1) fun u s2 ⟨y, H2, I2, r2, q2⟩ => ?_
  exact hf v u s2 x y H2 I2 r1 r2 q2

/-! ### names and constants -/
def tVar (i : Nat) : TE := fun σ H Q => ∃ v, σ[i]? = some (some v) ∧ Q v H
def tC (v : V) : TE := fun _ H Q => Q v H
theorem pe_var {i : Nat} {x : Str} {pos : Pos} (hN : X.N[i]? = some x) (hv : Vis X.env.scope x) (hd : (x == ("__debug__" : Str)) = false := by decide) (hcd : (x == ("__classdict__" : Str)) = false := by decide) : PE X (.Name x pos) (tVar i) := by
  intro pins s σ H Q I h
  obtain ⟨v, e, h⟩ := h
  obtain ⟨m, hn, hl⟩ := I.loc
  obtain ⟨u, r, l⟩ := hl i x v hN e hv
  have fin : EP X pins σ Q u s := ⟨v, H, I, r, h⟩
  rcases l with ⟨hk, hm⟩ | ⟨hk, c, hc, hcell⟩
  · exact wpAny_Name (wpAny_loadName_local I.ok.kind hk hn hm fin) hd
  · rcases hk with hk | hk
    · exact wpAny_Name (wpAny_loadName_cell I.ok.kind hk hc hcell fin) hd
    · exact wpAny_Name (wpAny_loadName_free I.ok.kind hk hc hcell fin hcd) hd
theorem pe_int {i j pos} : PE X (.Constant (.int i) j pos) (tC (.int i)) := fun _ _ _ H _ I h => wpAny_Constant_int ⟨.int i, H, I.tok _, ⟨_, rfl⟩, h⟩
theorem pe_bl {b j pos} : PE X (.Constant (.bool b) j pos) (tC (.bl b)) := fun _ _ _ H _ I h => Constant_bool ⟨.bl b, H, I, rfl, h⟩
theorem pe_non {j pos} : PE X (.Constant .none j pos) (tC .non) := fun _ _ _ H _ I h => Constant_none ⟨.non, H, I, rfl, h⟩
theorem pe_str {x j pos} : PE X (.Constant (.str x) j pos) (tC (.str x)) := fun _ _ _ H _ I h => Calls.Constant_str ⟨.str x, H, I.tok _, ⟨_, rfl⟩, h⟩

/-- a global name of the def -/
def Gl (X : Cx) (x : Str) : Prop := X.env.kindOf x = some .globalImplicit
theorem ld_glob {E : Value → Shared → Prop} {pins : List (Addr × Obj)} {s : Shared} {σ : St} {H : Hp} {x : Str} {u : Value} {pos : Pos} {Q : Value → Shared → Prop} (I : Inv X pins σ H s) (hg : Gl X x) (hm : X.mg x = some u) (h : Q u s)
    (hd : (x == ("__debug__" : Str)) = false := by decide) : wpAny (model X.prog X.w) X.A (eval (.Name x pos) X.env) Q E s :=
  Calls.Name_function_global I.ok.kind hg (Calls.loadGlobal_global (by rw [I.ok.glob]; exact I.mod.glob.keeps I.bk) hm h) hd
theorem ld_blt {E : Value → Shared → Prop} {pins : List (Addr × Obj)} {s : Shared} {σ : St} {H : Hp} {x : Str} {u : Value} {pos : Pos} {Q : Value → Shared → Prop} (I : Inv X pins σ H s) (hg : Gl X x) (hm : X.mg x = none) (hv : bootBuiltins x = some u) (h : Q u s)
    (hn : x ≠ "__name__" := by decide) (hd : (x == ("__debug__" : Str)) = false := by decide) : wpAny (model X.prog X.w) X.A (eval (.Name x pos) X.env) Q E s := by
  obtain ⟨mb, h1, h2⟩ := I.mod.blt
  exact Calls.Name_function_global I.ok.kind hg (Calls.loadGlobal_builtin (by rw [I.ok.glob]; exact I.mod.glob.keeps I.bk) hm (by rw [I.ok.blt]; exact h1.keeps I.bk) ((h2 x hn).trans hv) h) hd
/-- a module's constant, a class, a function, as a value -/
theorem pe_glob {x : Str} {v : V} {u : Value} {pos : Pos} (hg : Gl X x) (hm : X.mg x = some u) (r : RelV v u) (hd : (x == ("__debug__" : Str)) = false := by decide) : PE X (.Name x pos) (tC v) :=
  fun _ _ _ H _ I h => ld_glob I hg hm ⟨v, H, I, r, h⟩ hd
theorem pe_bltn {x : Str} {v : V} {u : Value} {pos : Pos} (hg : Gl X x) (hm : X.mg x = none) (hv : bootBuiltins x = some u) (r : RelV v u) (hn : x ≠ "__name__" := by decide) (hd : (x == ("__debug__" : Str)) = false := by decide) : PE X (.Name x pos) (tC v) :=
  fun _ _ _ H _ I h => ld_blt I hg hm hv ⟨v, H, I, r, h⟩ hn hd

/-! ### arithmetic -/
/-- two ints -/
def t2I (ta tb : TE) (k : Int → Int → Hp → Prop) : St → Hp → Prop := fun σ H => ta σ H fun x H1 => tb σ H1 fun y H2 => ∃ i j, x = .int i ∧ y = .int j ∧ k i j H2
def tAdd (ta tb : TE) : TE := fun σ H Q => t2I ta tb (fun i j H2 => Q (.int (i + j)) H2) σ H
def tSub (ta tb : TE) : TE := fun σ H Q => t2I ta tb (fun i j H2 => Q (.int (i - j)) H2) σ H
/-- the left factor below 2^64 -/
def tMul (ta tb : TE) : TE := fun σ H Q => t2I ta tb (fun i j H2 => (-(2 ^ 64) < i ∧ i < 2 ^ 64) ∧ Q (.int (i * j)) H2) σ H
variable {a b : Expr} {ta tb : TE} {pos : Pos}
theorem pe_add (ha : PE X a ta) (hb : PE X b tb) : PE X (.BinOp a .Add b pos) (tAdd ta tb) := by
  intro pins s σ H Q I h
  refine wpAny_BinOp (bin ha hb I h fun v u s2 x y H2 I2 rx ry q => ?_)
  obtain ⟨i, j, rfl, rfl, q⟩ := q
  obtain ⟨t, rfl⟩ := rx
  obtain ⟨t', rfl⟩ := ry
  exact add_int ⟨.int _, H2, I2.tok _, ⟨_, rfl⟩, q⟩
theorem pe_sub (ha : PE X a ta) (hb : PE X b tb) : PE X (.BinOp a .Sub b pos) (tSub ta tb) := by
  intro pins s σ H Q I h
  refine wpAny_BinOp (bin ha hb I h fun v u s2 x y H2 I2 rx ry q => ?_)
  obtain ⟨i, j, rfl, rfl, q⟩ := q
  obtain ⟨t, rfl⟩ := rx
  obtain ⟨t', rfl⟩ := ry
  exact sub_int ⟨.int _, H2, I2.tok _, ⟨_, rfl⟩, q⟩
theorem pe_mul (ha : PE X a ta) (hb : PE X b tb) : PE X (.BinOp a .Mult b pos) (tMul ta tb) := by
  intro pins s σ H Q I h
  refine wpAny_BinOp (bin ha hb I h fun v u s2 x y H2 I2 rx ry q => ?_)
  obtain ⟨i, j, rfl, rfl, ⟨q1, q2⟩, q⟩ := q
  obtain ⟨t, rfl⟩ := rx
  obtain ⟨t', rfl⟩ := ry
  exact mul_int ⟨.int _, H2, I2.tok _, ⟨_, rfl⟩, q⟩ (.of_left (intBits_le_64 q1 q2))

/-! ### comparisons -/
def PC (X : Cx) (op : CmpOp) (a b : Expr) (t : TE) : Prop :=
  ∀ (pins : List (Addr × Obj)) (s : Shared) (σ : St) (H : Hp) (Q : VK), Inv X pins σ H s → t σ H Q →
    wpAny (model X.prog X.w) X.A (eval a X.env) (fun v s₁ => wpAny (model X.prog X.w) X.A (eval b X.env) (fun u s₂ => wpAny (model X.prog X.w) X.A (compareOp op v u) (EP X pins σ Q) X.xe s₂) X.xe s₁) X.xe s
theorem nobehind (b : Expr) {op : CmpOp} (h : op ≠ .In) (h2 : op ≠ .NotIn) : behindInMarks op b = false := by
  have e1 : (op == CmpOp.In) = false := by cases op <;> first | rfl | exact absurd rfl h
  have e2 : (op == CmpOp.NotIn) = false := by cases op <;> first | rfl | exact absurd rfl h2
  cases b <;> simp [behindInMarks, e1, e2]
def tCmp (p : Int → Int → Bool) (ta tb : TE) : TE := fun σ H Q => t2I ta tb (fun i j H2 => Q (.bl (p i j)) H2) σ H
abbrev tLt : TE → TE → TE := tCmp fun i j => decide (i < j)
abbrev tLe : TE → TE → TE := tCmp fun i j => decide (i ≤ j)
abbrev tGt : TE → TE → TE := tCmp fun i j => decide (j < i)
abbrev tGe : TE → TE → TE := tCmp fun i j => decide (j ≤ i)
abbrev tEqI : TE → TE → TE := tCmp fun i j => decide (i = j)
abbrev tNeI : TE → TE → TE := tCmp fun i j => !decide (i = j)
/-- a comparison of two ints, by its rule -/
theorem pc_int {op : CmpOp} {p : Int → Int → Bool} (ha : PE X a ta) (hb : PE X b tb)
    (rule : ∀ (i j : Int) (t u : Tok) (Q : Value → Shared → Prop) (s : Shared), Q (.bool (p i j)) s → wpAny (model X.prog X.w) X.A (compareOp op (.int i t) (.int j u)) Q X.xe s) : PC X op a b (tCmp p ta tb) := by
  intro pins s σ H Q I h
  refine bin ha hb I h fun v u s2 x y H2 I2 rx ry q => ?_
  obtain ⟨i, j, rfl, rfl, q⟩ := q
  obtain ⟨t, rfl⟩ := rx
  obtain ⟨t', rfl⟩ := ry
  exact rule i j t t' _ s2 ⟨.bl _, H2, I2, rfl, q⟩
theorem pc_lt (ha : PE X a ta) (hb : PE X b tb) : PC X .Lt a b (tLt ta tb) := pc_int ha hb fun _ _ _ _ _ _ h => lt_int h
theorem pc_le (ha : PE X a ta) (hb : PE X b tb) : PC X .LtE a b (tLe ta tb) := pc_int ha hb fun _ _ _ _ _ _ h => le_int h
theorem pc_gt (ha : PE X a ta) (hb : PE X b tb) : PC X .Gt a b (tGt ta tb) := pc_int ha hb fun _ _ _ _ _ _ h => gt_int h
theorem pc_ge (ha : PE X a ta) (hb : PE X b tb) : PC X .GtE a b (tGe ta tb) := pc_int ha hb fun _ _ _ _ _ _ h => ge_int h
theorem pc_eqI (ha : PE X a ta) (hb : PE X b tb) : PC X .Eq a b (tEqI ta tb) := pc_int ha hb fun _ _ _ _ _ _ h => eq_int (by rw [Bool.beq_eq_decide_eq]; exact h)
theorem pc_neI (ha : PE X a ta) (hb : PE X b tb) : PC X .NotEq a b (tNeI ta tb) := pc_int ha hb fun _ _ _ _ _ _ h => ne_int (by rw [bne, Bool.beq_eq_decide_eq]; exact h)
/-- is None -/
def tIsN (ta : TE) : TE := fun σ H Q => ta σ H fun x H1 => Q (.bl (decide (x = .non))) H1
def tNotN (ta : TE) : TE := fun σ H Q => ta σ H fun x H1 => Q (.bl (!decide (x = .non))) H1
theorem RelV.none_iff {x : V} {v : Value} (r : RelV x v) : (v == Value.none) = decide (x = .non) := by
  cases x with
  | non => cases r; rfl
  | bl _ => cases r; rfl
  | int _ => obtain ⟨t, rfl⟩ := r; rfl
  | str _ => obtain ⟨t, rfl⟩ := r; rfl
  | byt _ => obtain ⟨t, rfl⟩ := r; rfl
  | flt _ => obtain ⟨t, rfl⟩ := r; rfl
  | ref _ => cases r; rfl
  | ty _ => cases r; rfl
theorem pc_isN {j pos'} (ha : PE X a ta) : PC X .Is a (.Constant .none j pos') (tIsN ta) := by
  intro pins s σ H Q I h
  refine thn (ha pins s σ H _ I h) fun v s1 ⟨x, H1, I1, r1, q1⟩ => ?_
  exact Constant_none (is_none_gen ⟨.bl _, H1, I1, by rw [r1.none_iff]; rfl, q1⟩)
theorem pc_notN {j pos'} (ha : PE X a ta) : PC X .IsNot a (.Constant .none j pos') (tNotN ta) := by
  intro pins s σ H Q I h
  refine thn (ha pins s σ H _ I h) fun v s1 ⟨x, H1, I1, r1, q1⟩ => ?_
  exact Constant_none (isnot_none_gen ⟨.bl _, H1, I1, by rw [r1.none_iff]; rfl, q1⟩)
/-- a comparison as a value, as a test -/
def tB (t : TE) : TT := fun σ H Q => t σ H fun x H1 => ∃ c, x = .bl c ∧ Q c H1
theorem pe_cmp {op : CmpOp} {t : TE} (h : PC X op a b t) (h1 : behindInMarks op b = false := by first | exact nobehind _ (by decide) (by decide) | rfl) : PE X (.Compare a [op] [b] pos) t := fun pins s σ H Q I hw => wpAny_Compare1 (h pins s σ H Q I hw) h1
theorem pt_cmp {op : CmpOp} {t : TE} (h : PC X op a b t) (h1 : behindInMarks op b = false := by first | exact nobehind _ (by decide) (by decide) | rfl) : PT X (.Compare a [op] [b] pos) (tB t) := by
  intro pins s σ H Q I hw
  refine wpAny_isTrue_Compare1 (thn (h pins s σ H _ I hw) fun v s1 h1 => thn h1 fun u s2 h2 => thn h2 fun c s3 ⟨x, H1, I1, r1, q1⟩ => ?_) h1
  obtain ⟨d, rfl, q⟩ := q1
  cases r1
  exact wpAny_truthy_bool ⟨H1, I1, q⟩
/-- an expression whose value is a bool, as a test -/
theorem pt_val {e : Expr} {t : TE} (h : PE X e t) (he : ∀ whole, isTrue e X.env whole = (do let v ← whole; standAt e.pos; holding [v] (truthy v)) := by intro _; rfl) : PT X e (tB t) := by
  intro pins s σ H Q I hw
  refine isTrue_plain (thn (h pins s σ H _ I hw) fun v s1 ⟨x, H1, I1, r1, q1⟩ => ?_) (he _)
  obtain ⟨d, rfl, q⟩ := q1
  cases r1
  exact wpAny_truthy_bool ⟨H1, I1, q⟩

/-! ### and, or, not -/
variable {tA tB' : TT} {rest : List Expr}
def tAnd (t u : TT) : TT := fun σ H Q => t σ H fun c H1 => if c = true then u σ H1 Q else Q false H1
def tOr (t u : TT) : TT := fun σ H Q => t σ H fun c H1 => if c = true then Q true H1 else u σ H1 Q
def tNot (t : TT) : TT := fun σ H Q => t σ H fun c H1 => Q (!c) H1
theorem pw_and1 (ha : PT X a tA) : PW X (.BoolOp .And [a] pos) tA := by
  intro wh pins s σ H Q I h
  refine isTrue_and (thn (ha pins s σ H Q I h) fun c s1 e => ?_)
  cases c with
  | true => exact isTrue_and_nil e
  | false => exact e
theorem pw_or1 (ha : PT X a tA) : PW X (.BoolOp .Or [a] pos) tA := by
  intro wh pins s σ H Q I h
  refine isTrue_or (thn (ha pins s σ H Q I h) fun c s1 e => ?_)
  cases c with
  | false => exact isTrue_or_nil e
  | true => exact e
theorem pw_and (ha : PT X a tA) (hb : PW X (.BoolOp .And (b :: rest) pos) tB') : PW X (.BoolOp .And (a :: b :: rest) pos) (tAnd tA tB') := by
  intro wh pins s σ H Q I h
  refine isTrue_and (thn (ha pins s σ H _ I h) fun c s1 ⟨H1, I1, q1⟩ => ?_)
  cases c with
  | true => exact hb wh pins s1 σ H1 Q I1 q1
  | false => exact ⟨H1, I1, q1⟩
theorem pw_or (ha : PT X a tA) (hb : PW X (.BoolOp .Or (b :: rest) pos) tB') : PW X (.BoolOp .Or (a :: b :: rest) pos) (tOr tA tB') := by
  intro wh pins s σ H Q I h
  refine isTrue_or (thn (ha pins s σ H _ I h) fun c s1 ⟨H1, I1, q1⟩ => ?_)
  cases c with
  | true => exact ⟨H1, I1, q1⟩
  | false => exact hb wh pins s1 σ H1 Q I1 q1
theorem pt_not (ha : PT X a tA) : PT X (.UnaryOp .Not a pos) (tNot tA) := by
  intro pins s σ H Q I h
  exact isTrue_not (ha pins s σ H (fun c H1 => Q (!c) H1) I h)
/-- .. as values (bools) -/
def tAndV (ta tb : TE) : TE := fun σ H Q => ta σ H fun x H1 => ∃ c, x = .bl c ∧ if c = true then tb σ H1 Q else Q (.bl false) H1
def tOrV (ta tb : TE) : TE := fun σ H Q => ta σ H fun x H1 => ∃ c, x = .bl c ∧ if c = true then Q (.bl true) H1 else tb σ H1 Q
def tNotV (ta : TE) : TE := fun σ H Q => ta σ H fun x H1 => ∃ c, x = .bl c ∧ Q (.bl (!c)) H1
theorem pe_one {op} {t : TE} (h : PE X a t) : PE X (.BoolOp op [a] pos) t := fun pins s σ H Q I hw => BoolOp_one (h pins s σ H Q I hw)
theorem pe_and (ha : PE X a ta) (hb : PE X (.BoolOp .And (b :: rest) pos) tb) : PE X (.BoolOp .And (a :: b :: rest) pos) (tAndV ta tb) := by
  intro pins s σ H Q I h
  refine BoolOp_and (thn (ha pins s σ H _ I h) fun v s1 ⟨x, H1, I1, r1, q1⟩ => ?_)
  obtain ⟨c, rfl, q1⟩ := q1
  cases r1
  refine wpAny_truthy_bool ?_
  cases c with
  | true => exact hb pins s1 σ H1 Q I1 q1
  | false => exact ⟨.bl false, H1, I1, rfl, q1⟩
theorem pe_or (ha : PE X a ta) (hb : PE X (.BoolOp .Or (b :: rest) pos) tb) : PE X (.BoolOp .Or (a :: b :: rest) pos) (tOrV ta tb) := by
  intro pins s σ H Q I h
  refine BoolOp_or (thn (ha pins s σ H _ I h) fun v s1 ⟨x, H1, I1, r1, q1⟩ => ?_)
  obtain ⟨c, rfl, q1⟩ := q1
  cases r1
  refine wpAny_truthy_bool ?_
  cases c with
  | false => exact hb pins s1 σ H1 Q I1 q1
  | true => exact ⟨.bl true, H1, I1, rfl, q1⟩
theorem pe_not (ha : PE X a ta) : PE X (.UnaryOp .Not a pos) (tNotV ta) := by
  intro pins s σ H Q I h
  refine UnaryOp_ (thn (ha pins s σ H _ I h) fun v s1 ⟨x, H1, I1, r1, q1⟩ => ?_)
  obtain ⟨c, rfl, q1⟩ := q1
  cases r1
  exact not_of (wpAny_truthy_bool ⟨.bl (!c), H1, I1, rfl, q1⟩)
/-- a if t else b -/
def tIf (t : TT) (ta tb : TE) : TE := fun σ H Q => t σ H fun c H1 => if c = true then ta σ H1 Q else tb σ H1 Q
theorem pe_ifExp {c : Expr} (hc : PT X c tA) (ha : PE X a ta) (hb : PE X b tb) : PE X (.IfExp c a b pos) (tIf tA ta tb) := by
  intro pins s σ H Q I h
  refine wpAny_IfExp (thn (hc pins s σ H _ I h) fun d s1 ⟨H1, I1, q1⟩ => ?_)
  cases d with
  | true => exact ha pins s1 σ H1 Q I1 q1
  | false => exact hb pins s1 σ H1 Q I1 q1
end
end L2

namespace L2
open PySem PySem.Spec PyProof.Rows

/-! ### a list, a tuple that is read: tracked, frozen, or an object of the module -/
def SqL (K : PySem.W.Frag) (H : Hp) (a : Addr) (xs : List V) : Prop :=
  Rd H a (.lst xs) ∨
    ∃ (o : Obj) (its : Array Value) (n : Nat), K.lookup a = some o ∧ o.cls = .type "list" ∧ o.dict = none ∧ o.data = .seq its n ∧ its.size ≤ sizeLine ∧ Vals xs its.toList
def SqT (K : PySem.W.Frag) (H : Hp) (a : Addr) (xs : List V) : Prop :=
  Rd H a (.tup xs) ∨
    ∃ (o : Obj) (its : Array Value) (n : Nat), K.lookup a = some o ∧ o.cls = .type "tuple" ∧ o.data = .seq its n ∧ its.size ≤ sizeLine ∧ Vals xs its.toList
def absV : Value → Option V
  | .none => some .non
  | .bool b => some (.bl b)
  | .int i _ => some (.int i)
  | .str x _ => some (.str x)
  | .bytes b _ => some (.byt b)
  | .float b _ => some (.flt b)
  | .ref a => some (.ref a)
  | .type n => some (.ty n)
  | _ => none
theorem RelV.abs {x : V} {u : Value} (r : RelV x u) : absV u = some x := by
  cases x with
  | non => cases r; rfl
  | bl _ => cases r; rfl
  | int _ => obtain ⟨t, rfl⟩ := r; rfl
  | str _ => obtain ⟨t, rfl⟩ := r; rfl
  | byt _ => obtain ⟨t, rfl⟩ := r; rfl
  | flt _ => obtain ⟨t, rfl⟩ := r; rfl
  | ref _ => cases r; rfl
  | ty _ => cases r; rfl
theorem RelV.inj {x y : V} {u : Value} (r : RelV x u) (q : RelV y u) : x = y := Option.some.inj (r.abs.symm.trans q.abs)
theorem Vals.inj : ∀ {xs ys : List V} {us : List Value}, Vals xs us → Vals ys us → xs = ys
  | _, _, _, .nil, .nil => rfl
  | _, _, _, .cons r t, .cons r' t' => by rw [r.inj r', Vals.inj t t']
section
variable {X : Cx} {pins : List (Addr × Obj)} {σ : St} {H : Hp} {s : Shared} {a : Addr} {xs ys : List V}
theorem SqL.of {K : PySem.W.Frag} (h : H a = some (.lst xs)) : SqL K H a xs := .inl (.inl h)
theorem SqT.of {K : PySem.W.Frag} (h : H a = some (.tup xs)) : SqT K H a xs := .inl (.inl h)
theorem Inv.list (I : Inv X pins σ H s) (h : SqL X.K H a xs) : ∃ its : List Value, Vals xs its ∧ PlainL s.heap a its.toArray ∧ xs.length ≤ sizeLine := by
  rcases h with h | ⟨o, its, n, hk, hc, hd, hs, hz, r⟩
  · obtain ⟨z, its, n, r, e⟩ := h.ok I.hok
    exact ⟨its, r, ⟨_, n, e, rfl, rfl, rfl⟩, z⟩
  · refine ⟨its.toList, r, ⟨o, n, I.kIn a o hk, hc, hd, by simpa using hs⟩, ?_⟩
    have e := r.length
    simp only [Array.length_toList] at e
    omega
theorem Inv.tuple (I : Inv X pins σ H s) (h : SqT X.K H a xs) : ∃ its : List Value, Vals xs its ∧ IsTup s.heap a its.toArray ∧ xs.length ≤ sizeLine := by
  rcases h with h | ⟨o, its, n, hk, hc, hs, hz, r⟩
  · obtain ⟨z, its, r, p⟩ := h.ok I.hok
    exact ⟨its, r, p, z⟩
  · refine ⟨its.toList, r, ⟨o, I.kIn a o hk, hc, n, by simpa using hs⟩, ?_⟩
    have e := r.length
    simp only [Array.length_toList] at e
    omega
theorem Inv.list_inj (I : Inv X pins σ H s) (h : SqL X.K H a xs) (h' : SqL X.K H a ys) : xs = ys := by
  obtain ⟨its, r, ⟨o, n, e, _, _, d⟩, _⟩ := I.list h
  obtain ⟨its', r', ⟨o', n', e', _, _, d'⟩, _⟩ := I.list h'
  rw [e] at e'; cases e'
  rw [d] at d'
  injection d' with d1 _
  have : its = its' := by simpa using congrArg Array.toList d1
  subst this
  exact r.inj r'
theorem Inv.tuple_inj (I : Inv X pins σ H s) (h : SqT X.K H a xs) (h' : SqT X.K H a ys) : xs = ys := by
  obtain ⟨its, r, ⟨o, e, _, n, d⟩, _⟩ := I.tuple h
  obtain ⟨its', r', ⟨o', e', _, n', d'⟩, _⟩ := I.tuple h'
  rw [e] at e'; cases e'
  rw [d] at d'
  injection d' with d1 _
  have : its = its' := by simpa using congrArg Array.toList d1
  subst this
  exact r.inj r'
end

/-! ### another wish about exceptions -/
abbrev Cx.wish (X : Cx) (E : Value → Shared → Prop) : Cx := { X with xe := E }
/-- no exception leaves -/
abbrev Cx.nox (X : Cx) : Cx := X.wish fun _ _ => False
theorem Cx.Ok.wish {X : Cx} (ok : X.Ok) (E : Value → Shared → Prop) : (X.wish E).Ok :=
  ⟨ok.mod, ok.kind, ok.glob, ok.blt, ok.above, ok.inj, ok.has, ok.cab, ok.hd, ok.frames, ok.stk, ok.exf, ok.bs, ok.bsz, ok.noex, ok.exfs, ok.funs, ok.frf⟩
theorem Cx.Ok.unwish {X : Cx} {E : Value → Shared → Prop} (ok : (X.wish E).Ok) : X.Ok :=
  ⟨ok.mod, ok.kind, ok.glob, ok.blt, ok.above, ok.inj, ok.has, ok.cab, ok.hd, ok.frames, ok.stk, ok.exf, ok.bs, ok.bsz, ok.noex, ok.exfs, ok.funs, ok.frf⟩
section
variable {X : Cx} {pins : List (Addr × Obj)} {σ : St} {H : Hp} {s : Shared} {E : Value → Shared → Prop}
theorem Inv.wish (I : Inv X pins σ H s) (E : Value → Shared → Prop) : Inv (X.wish E) pins σ H s := ⟨I.ok.wish E, I.os, I.bare, I.base, I.loc, I.cell, I.free, I.freeC, I.pin, I.hok, I.len⟩
theorem Inv.unwish (I : Inv (X.wish E) pins σ H s) : Inv X pins σ H s := ⟨I.ok.unwish, I.os, I.bare, I.base, I.loc, I.cell, I.free, I.freeC, I.pin, I.hok, I.len⟩
theorem SP.unwish {D : Ends} {f : Flow} {s' : Shared} (h : SP (X.wish E) pins D f s') : SP X pins D f s' := by
  cases f with
  | next => obtain ⟨σ', H', I, q⟩ := h; exact ⟨σ', H', I.unwish, q⟩
  | brk => obtain ⟨σ', H', I, q⟩ := h; exact ⟨σ', H', I.unwish, q⟩
  | cont => obtain ⟨σ', H', I, q⟩ := h; exact ⟨σ', H', I.unwish, q⟩
  | ret u => obtain ⟨v, σ', H', I, r, q⟩ := h; exact ⟨v, σ', H', I.unwish, r, q⟩
theorem PE.nox {e : Expr} {t : TE} (h : PE X.nox e t) : PE X e t := fun pins s σ H Q I hw =>
  wpAny_mono (h pins s σ H Q (I.wish _) hw) (fun _ _ ⟨v, H', I', r, q⟩ => ⟨v, H', I'.unwish, r, q⟩) fun _ _ z => False.elim z
theorem PT.nox {e : Expr} {t : TT} (h : PT X.nox e t) : PT X e t := fun pins s σ H Q I hw =>
  wpAny_mono (h pins s σ H Q (I.wish _) hw) (fun _ _ ⟨H', I', q⟩ => ⟨H', I'.unwish, q⟩) fun _ _ z => False.elim z
theorem PSs.nox {st : List Stmt} {t : TS} (h : PSs X.nox st t) : PSs X st t := fun pins s σ H D I hw =>
  wpAny_mono (h pins s σ H D (I.wish _) hw) (fun _ _ q => q.unwish) fun _ _ z => False.elim z
end

/-! ### blocks and small statements -/
section
variable {X : Cx} {st : Stmt} {rest : List Stmt} {t u : TS} {e : Expr} {te : TE} {pos : Pos}
def tNext : TS := fun D σ H => D.nx σ H
def tSeq (t u : TS) : TS := fun D σ H => t { D with nx := u D } σ H
theorem pss_nil : PSs X [] tNext := fun _ _ σ H _ I h => wpAny_execs_nil ⟨σ, H, I, h⟩
theorem pss_cons (h1 : PS X st t) (h2 : PSs X rest u) : PSs X (st :: rest) (tSeq t u) := by
  intro pins s σ H D I h
  refine wpAny_execs_cons (thn (h1 pins s σ H { D with nx := u D } I h) fun f s1 q => ?_)
  cases f with
  | next =>
    obtain ⟨σ', H', I', q⟩ := q
    exact h2 pins s1 σ' H' D I' q
  | ret v => exact q
  | brk => exact q
  | cont => exact q
theorem pss_one (h1 : PS X st t) : PSs X [st] t := by
  intro pins s σ H D I h
  refine wpAny_execs_cons (thn (h1 pins s σ H D I h) fun f s1 q => ?_)
  cases f with
  | next => exact wpAny_execs_nil q
  | ret v => exact q
  | brk => exact q
  | cont => exact q
def tBreak : TS := fun D σ H => D.bk σ H
def tCont : TS := fun D σ H => D.ct σ H
theorem ps_pass : PS X (.Pass pos) tNext := fun _ _ σ H _ I h => wpAny_Pass ⟨σ, H, I, h⟩
theorem ps_break : PS X (.Break pos) tBreak := fun _ _ σ H _ I h => wpAny_Break ⟨σ, H, I, h⟩
theorem ps_continue : PS X (.Continue pos) tCont := fun _ _ σ H _ I h => wpAny_Continue ⟨σ, H, I, h⟩
/-- in a def's body nothing is shown -/
theorem Inv.quiet {pins : List (Addr × Obj)} {σ : St} {H : Hp} {s : Shared} (I : Inv X pins σ H s) : interactive X.env = false := by simp [interactive, I.ok.kind]
/-- a docstring -/
theorem ps_doc {x j pos pos'} : PS X (.Expr (.Constant (.str x) j pos) pos') tNext := fun _ s σ H _ I h => wpAny_Expr (Calls.Constant_str (show SP X _ _ .next { s with toks := s.toks + 1 } from ⟨σ, H, I.tok _, h⟩)) I.quiet
/-- an expression whose value is dropped -/
def tDrop (te : TE) : TS := fun D σ H => te σ H fun _ H1 => D.nx σ H1
theorem ps_expr (he : PE X e te) (hs : swapsWith e none pos.line X.env = pure false := by rfl) : PS X (.Expr e pos) (tDrop te) := by
  intro pins s σ H D I h
  exact wpAny_Expr_any (thn (he pins s σ H _ I h) fun v s1 ⟨x, H1, I1, r1, q1⟩ => ⟨σ, H1, I1, q1⟩) I.quiet hs
def tRet (te : TE) : TS := fun D σ H => te σ H D.rt
theorem ps_ret (he : PE X e te) : PS X (.Return (some e) pos) (tRet te) := by
  intro pins s σ H D I h
  exact wpAny_Return_some (thn (he pins s σ H _ I h) fun v s1 ⟨x, H1, I1, r1, q1⟩ => ⟨x, σ, H1, I1, r1, q1⟩)
def tRetN : TS := fun D _ H => D.rt .non H
theorem ps_retN : PS X (.Return none pos) tRetN := fun _ _ σ H _ I h => wpAny_Return_none ⟨.non, σ, H, I, rfl, h⟩
def tIfS (c : TT) (t u : TS) : TS := fun D σ H => c σ H fun b H1 => if b = true then t D σ H1 else u D σ H1
theorem ps_if {c : Expr} {a b : List Stmt} {tc : TT} (hc : PT X c tc) (ha : PSs X a t) (hb : PSs X b u) : PS X (.If c a b pos) (tIfS tc t u) := by
  intro pins s σ H D I h
  refine wpAny_If (thn (hc pins s σ H _ I h) fun d s1 ⟨H1, I1, q1⟩ => ?_)
  cases d with
  | true => exact ha pins s1 σ H1 D I1 q1
  | false => exact hb pins s1 σ H1 D I1 q1
/-- code that the proof never comes to -/
def tNever : TS := fun _ _ _ => False
theorem ps_never : PS X st tNever := fun _ _ _ _ _ _ h => h.elim
theorem pss_never {sts : List Stmt} : PSs X sts tNever := fun _ _ _ _ _ _ h => h.elim
end

/-! ### targets -/
abbrev TG := V → St → Hp → (St → Hp → Prop) → Prop
abbrev TGs := List V → St → Hp → (St → Hp → Prop) → Prop
def PG (X : Cx) (target : Expr) (t : TG) : Prop :=
  ∀ (pins : List (Addr × Obj)) (s : Shared) (σ : St) (H : Hp) (v : V) (u : Value) (Q : St → Hp → Prop), Inv X pins σ H s → RelV v u → t v σ H Q →
    wpAny (model X.prog X.w) X.A (assign target X.env u) (fun _ s' => ∃ σ' H', Inv X pins σ' H' s' ∧ Q σ' H') X.xe s
/-- several targets, one after another -/
def PGs (X : Cx) (ts : List Expr) (t : TGs) : Prop :=
  ∀ (pins : List (Addr × Obj)) (s : Shared) (σ : St) (H : Hp) (vs : List V) (us : List Value) (Q : St → Hp → Prop), Inv X pins σ H s → Vals vs us → t vs σ H Q →
    wpAny (model X.prog X.w) X.A (assignInOrder ((assignEach ts X.env).map (·.2)) us) (fun _ s' => ∃ σ' H', Inv X pins σ' H' s' ∧ Q σ' H') X.xe s
/-- o[i] = v, by values -/
abbrev TSet := V → V → V → Hp → (Hp → Prop) → Prop
def PSet (X : Cx) (t : TSet) : Prop :=
  ∀ (pins : List (Addr × Obj)) (s : Shared) (σ : St) (H : Hp) (o i v : V) (ov iv u : Value) (Q : Hp → Prop), Inv X pins σ H s → RelV o ov → RelV i iv → RelV v u → t o i v H Q →
    wpAny (model X.prog X.w) X.A (setItem ov iv u) (fun _ s' => ∃ H', Inv X pins σ H' s' ∧ Q H') X.xe s
/-- a op= b, by values -/
abbrev TIp := V → V → Hp → VK → Prop
def PIp (X : Cx) (op : Operator) (t : TIp) : Prop :=
  ∀ (pins : List (Addr × Obj)) (s : Shared) (σ : St) (H : Hp) (x y : V) (v u : Value) (Q : VK), Inv X pins σ H s → RelV x v → RelV y u → t x y H Q →
    wpAny (model X.prog X.w) X.A (inplaceOp op v u) (EP X pins σ Q) X.xe s
section
variable {X : Cx} {pos : Pos}
def gName (i : Nat) : TG := fun v σ H Q => Q (σ.set i (some v)) H
theorem pg_name {i : Nat} {x : Str} (hN : X.N.Nodup) (hi : X.N[i]? = some x) (hx : Loc X.env.scope x) (hf : X.fn x = true ∨ X.env.scope.names.lookup x = some .local := by first | exact .inl rfl | exact .inr rfl | assumption) : PG X (.Name x pos) (gName i) := by
  intro pins s σ H v u Q I r h
  exact wpAny_assign_Name (store_ok I hN hi hx r (fun s' I' => ⟨_, H, I', h⟩) hf)
def gNil : TGs := fun vs σ H Q => vs = [] ∧ Q σ H
def gCons (t : TG) (u : TGs) : TGs := fun vs σ H Q => ∃ v r, vs = v :: r ∧ t v σ H fun σ' H' => u r σ' H' Q
theorem pgs_nil : PGs X [] gNil := by
  intro pins s σ H vs us Q I r h
  obtain ⟨e, h⟩ := h
  subst e
  cases r
  exact assignInOrder_nil ⟨σ, H, I, h⟩
theorem pgs_cons {e : Expr} {es : List Expr} {t : TG} {u : TGs} (h1 : PG X e t) (h2 : PGs X es u)
    (hs : (assignEach (e :: es) X.env).map (·.2) = assign e X.env :: (assignEach es X.env).map (·.2) := by rfl) : PGs X (e :: es) (gCons t u) := by
  intro pins s σ H vs us Q I r h
  obtain ⟨v, vr, e1, h⟩ := h
  subst e1
  cases r with
  | cons r rr =>
    rw [hs]
    refine assignInOrder_cons (thn (h1 pins s σ H _ _ _ I r h) fun _ s1 ⟨σ1, H1, I1, q1⟩ => ?_)
    exact h2 pins s1 σ1 H1 _ _ Q I1 rr q1
/-- (a, b, ..) = a tuple of that length -/
def gTup (K : PySem.W.Frag) (n : Nat) (t : TGs) : TG := fun v σ H Q => ∃ a xs, v = .ref a ∧ SqT K H a xs ∧ xs.length = n ∧ t xs σ H Q
theorem pg_tup {es : List Expr} {k : Nat} {t : TGs} {n : Nat} (hc : X.calm = true) (h : PGs X es t)
    (hn : (assignEach es X.env).length = n := by rfl) (hst : (assignEach es X.env).findIdx? (·.1) = none := by rfl) : PG X (.Tuple es k pos) (gTup X.K n t) := by
  intro pins s σ H v u Q I r hw
  obtain ⟨a, xs, e1, hq, hl, hw⟩ := hw
  subst e1
  cases r
  obtain ⟨its, rv, ht, hz⟩ := I.tuple hq
  refine assign_Tuple_tuple (I.ok.hd hc) ht (by simp [hn, ← hl, rv.length]) hst fun h' hx => ?_
  have I1 : Inv X pins σ H { s with heap := h' } := I.kept (t' := s.toks) fun b o e => hx b o (Nat.ne_of_lt (Heap.lt_size e)) e
  exact h pins _ σ H xs _ Q I1 (by simpa using rv) hw
/-- o[i] = .. -/
def gSub (to ti : TE) (t : TSet) : TG := fun v σ H Q => to σ H fun o H1 => ti σ H1 fun i H2 => t o i v H2 fun H3 => Q σ H3
theorem pg_sub {o i : Expr} {to ti : TE} {t : TSet} (ho : PE X o to) (hi : PE X i ti) (hs : PSet X t)
    (ha : ∀ v, assign (.Subscript o i pos) X.env v = (do
      let ov ← holding [v] (eval o X.env)
      let iv ← holding [v, ov] (eval i X.env)
      standAt pos
      holding [v, ov, iv] (setItem ov iv v)
      release [v, ov, iv] []) := by intro _; rfl) : PG X (.Subscript o i pos) (gSub to ti t) := by
  intro pins s σ H v u Q I r h
  rw [ha]
  refine wpAny_bind (wpAny_holding (thn (ho pins s σ H _ I h) fun ov s1 ⟨x, H1, I1, r1, q1⟩ => ?_))
  refine wpAny_bind (wpAny_holding (thn (hi pins s1 σ H1 _ I1 q1) fun iv s2 ⟨y, H2, I2, r2, q2⟩ => ?_))
  refine wpAny_bind (wpAny_standAt (wpAny_bind (wpAny_holding (thn (hs pins s2 σ H2 x y v ov iv u _ I2 r1 r2 r q2) fun _ s3 ⟨H3, I3, q3⟩ => ?_))))
  exact wpAny_release ⟨σ, H3, I3, q3⟩
/-- target = value -/
def tAsg (te : TE) (g : TG) : TS := fun D σ H => te σ H fun x H1 => g x σ H1 D.nx
theorem ps_asg {tg e : Expr} {te : TE} {g : TG} (he : PE X e te) (hg : PG X tg g) (hs : swapsWithSole [tg] e pos.line X.env = pure false := by rfl) (hw : swappedStores [tg] e X.env = pure none := by rfl)
    (h1 : (assignEach [tg] X.env).map (·.2) = [assign tg X.env] := by rfl) : PS X (.Assign [tg] e pos) (tAsg te g) := by
  intro pins s σ H D I h
  refine wpAny_Assign_stores (thn (he pins s σ H _ I h) fun v s1 ⟨x, H1, I1, r1, q1⟩ => ?_) hs hw
  rw [h1]
  exact thn (hg pins s1 σ H1 x v _ I1 r1 q1) fun _ s2 q => q
/-- name = value -/
theorem ps_set {i : Nat} {x : Str} {e : Expr} {te : TE} {pos' : Pos} (hN : X.N.Nodup) (hi : X.N[i]? = some x) (hx : Loc X.env.scope x) (he : PE X e te) (hs : swapsWith e (some (.Name x pos')) pos.line X.env = pure false := by rfl) (hf : X.fn x = true ∨ X.env.scope.names.lookup x = some .local := by first | exact .inl rfl | exact .inr rfl | assumption) :
    PS X (.Assign [.Name x pos'] e pos) (tAsg te (gName i)) := by
  intro pins s σ H D I h
  refine wpAny_Assign_Name (thn (he pins s σ H _ I h) fun v s1 ⟨y, H1, I1, r1, q1⟩ => ?_) hs
  exact store_ok I1 hN hi hx r1 (fun s2 I2 => ⟨_, H1, I2, q1⟩) hf
/-- a, b = x, y with plain local names: stored from the right; the pair itself is not tracked (the opening rows as in PyProof/Rows/TupAssign.lean:23) -/
def tPar (i j : Nat) (ta : TA) : TS := fun D σ H => ta σ H fun vs H1 => ∃ v w, vs = [v, w] ∧ D.nx ((σ.set i (some v)).set j (some w)) H1
theorem ps_par {i j : Nat} {x y : Str} {a b : Expr} {ta : TA} {px py pt : Pos} {kt k2 pt2} (hc : X.calm = true) (hN : X.N.Nodup) (hi : X.N[i]? = some x) (hj : X.N[j]? = some y) (hij : i ≠ j)
    (hx : X.env.scope.names.lookup x = some .local) (hy : X.env.scope.names.lookup y = some .local) (ha : PA X [a, b] ta)
    (hw : swappedStores [.Tuple [.Name x px, .Name y py] kt pt] (.Tuple [a, b] k2 pt2) X.env = pure (some [x, y]))
    (hs : swapsWithSole [.Tuple [.Name x px, .Name y py] kt pt] (.Tuple [a, b] k2 pt2) pos.line X.env = pure false := by rfl) :
    PS X (.Assign [.Tuple [.Name x px, .Name y py] kt pt] (.Tuple [a, b] k2 pt2) pos) (tPar i j ta) := by
  intro pins s σ H D I h
  rw [exec_Assign_arm]
  refine wpAny_bind (wpAny_standAt ?_)
  rw [hs]
  refine wpAny_bind (wpAny_pure ?_)
  rw [if_neg (by decide)]
  refine wpAny_bind (Tuple_ (thn (ha _ pins s σ H _ I h) fun us s1 ⟨vs, H1, I1, r1, q1⟩ => ?_))
  obtain ⟨v, w, e1, q1⟩ := q1
  subst e1
  obtain ⟨u1, u2, rfl, rv, rw'⟩ : ∃ u1 u2, us = [u1, u2] ∧ RelV v u1 ∧ RelV w u2 := by
    cases r1 with
    | cons p q =>
      cases q with
      | cons p' q' =>
        cases q'
        exact ⟨_, _, rfl, p, p'⟩
  refine wpAny_newObj_type ?_ (by show 2 ≤ sizeLine; decide)
  have I2 : Inv X pins σ H1 { s1 with heap := s1.heap.push { cls := .type "tuple", data := .seq [u1, u2].toArray } } := I1.kept (t' := s1.toks) fun b o e => Heap.get?_push_of_some _ e
  rw [hw]
  refine wpAny_bind (wpAny_pure ?_)
  show wpAny (model X.prog X.w) X.A (do rule "assign.swapped-stores"; let items ← unpackItems (.ref s1.heap.objs.size) 2 none; assignInOrder [fun v => bindName X.env y v, fun v => bindName X.env x v] items.reverse; pure Flow.next) _ _ _
  refine wpAny_bind (wpAny_rule (wpAny_bind (unpackItems_tuple (items := #[u1, u2]) (I.ok.hd hc) (IsTup.new s1.heap _) fun h' hx' => ?_)))
  have I3 := I2.kept (h' := h') (t' := s1.toks) fun b o e => hx' b o (Nat.ne_of_lt (Heap.lt_size e)) e
  show wpAny _ _ (assignInOrder [fun v => bindName X.env y v, fun v => bindName X.env x v] [u2, u1] >>= fun _ => pure Flow.next) _ _ _
  refine wpAny_bind (assignInOrder_cons (wpAny_bindName (store_ok I3 hN hj (.inl hy) rw' (fun s2 I4 => ?_) (.inr hy))))
  refine assignInOrder_cons (wpAny_bindName (store_ok I4 hN hi (.inl hx) rv (fun s3 I5 => assignInOrder_nil (wpAny_pure ?_)) (.inr hx)))
  rw [List.set_comm _ _ (Ne.symm hij)] at I5
  exact ⟨_, H1, I5, q1⟩
/-- name op= e -/
def tAug (i : Nat) (te : TE) (ti : TIp) : TS := fun D σ H => ∃ x, σ[i]? = some (some x) ∧ te σ H fun y H1 => ti x y H1 fun z H2 => D.nx (σ.set i (some z)) H2
theorem ps_aug {i : Nat} {x : Str} {e : Expr} {te : TE} {op : Operator} {ti : TIp} {pos' : Pos} (hN : X.N.Nodup) (hi : X.N[i]? = some x) (hx : Loc X.env.scope x) (he : PE X e te) (ho : PIp X op ti) (hf : X.fn x = true ∨ X.env.scope.names.lookup x = some .local := by first | exact .inl rfl | exact .inr rfl | assumption) :
    PS X (.AugAssign (.Name x pos') op e pos) (tAug i te ti) := by
  intro pins s σ H D I h
  obtain ⟨v, e1, h⟩ := h
  obtain ⟨m, hn, hl⟩ := I.loc
  have vis : Vis X.env.scope x := by rcases hx with k | k; exact .inl k; exact .inr (.inl k)
  obtain ⟨u, r, l⟩ := hl i x v hi e1 vis
  refine wpAny_AugAssign_Name ?_
  have go : wpAny (model X.prog X.w) X.A (eval e X.env) (fun w s₂ => wpAny (model X.prog X.w) X.A (inplaceOp op u w) (fun r s₃ => wpAny (model X.prog X.w) X.A (storeName X.env x r) (fun _ => SP X pins D .next) X.xe s₃) X.xe s₂) X.xe s := by
    refine thn (he pins s σ H _ I h) fun w s1 ⟨y, H1, I1, r1, q1⟩ => ?_
    refine thn (ho pins s1 σ H1 v y u w _ I1 r r1 q1) fun z s2 ⟨zv, H2, I2, r2, q2⟩ => ?_
    exact store_ok I2 hN hi hx r2 (fun s3 I3 => ⟨_, H2, I3, q2⟩) hf
  rcases l with ⟨hk, hm⟩ | ⟨hk, c, hc, hcell⟩
  · exact wpAny_loadName_local I.ok.kind hk hn hm go
  · rcases hk with hk | hk
    · exact wpAny_loadName_cell I.ok.kind hk hc hcell go
    · rcases hx with k | k
      · have : X.env.scope.names.lookup x = some .free := hk
        rw [k] at this; cases this
      · have : X.env.scope.names.lookup x = some .free := hk
        rw [k] at this; cases this
/-- o[i] op= e -/
def tAugS (to ti te : TE) (tget : V → V → Hp → VK → Prop) (tip : TIp) (tset : TSet) : TS := fun D σ H => to σ H fun o H1 => ti σ H1 fun i H2 => tget o i H2 fun x H3 => te σ H3 fun y H4 => tip x y H4 fun z H5 => tset o i z H5 fun H6 => D.nx σ H6
/-- o[i], by values -/
def PGet (X : Cx) (t : V → V → Hp → VK → Prop) : Prop :=
  ∀ (pins : List (Addr × Obj)) (s : Shared) (σ : St) (H : Hp) (o i : V) (ov iv : Value) (Q : VK), Inv X pins σ H s → RelV o ov → RelV i iv → t o i H Q →
    wpAny (model X.prog X.w) X.A (getItem ov iv) (EP X pins σ Q) X.xe s
theorem ps_augS {o i e : Expr} {to ti te : TE} {tget : V → V → Hp → VK → Prop} {tip : TIp} {tset : TSet} {op : Operator} {tpos : Pos} (ho : PE X o to) (hi : PE X i ti) (hg : PGet X tget) (he : PE X e te) (hp : PIp X op tip) (hs : PSet X tset)
    (ha : ∀ ov iv new, augStore i ov iv new = (do holding [new, ov, iv] (setItem ov iv new); release [new, ov, iv] []; pure .next) := by intros; rfl) : PS X (.AugAssign (.Subscript o i tpos) op e pos) (tAugS to ti te tget tip tset) := by
  intro pins s σ H D I h
  refine wpAny_AugAssign_SubscriptAny (thn (ho pins s σ H _ I h) fun ov s1 ⟨x1, H1, I1, r1, q1⟩ => ?_) ha
  refine thn (hi pins s1 σ H1 _ I1 q1) fun iv s2 ⟨x2, H2, I2, r2, q2⟩ => ?_
  refine thn (hg pins s2 σ H2 x1 x2 ov iv _ I2 r1 r2 q2) fun old s3 ⟨x3, H3, I3, r3, q3⟩ => ?_
  refine thn (he pins s3 σ H3 _ I3 q3) fun v s4 ⟨x4, H4, I4, r4, q4⟩ => ?_
  refine thn (hp pins s4 σ H4 x3 x4 old v _ I4 r3 r4 q4) fun new s5 ⟨x5, H5, I5, r5, q5⟩ => ?_
  exact thn (hs pins s5 σ H5 x1 x2 x5 ov iv new _ I5 r1 r2 r5 q5) fun _ s6 ⟨H6, I6, q6⟩ => ⟨σ, H6, I6, q6⟩
/-- ints -/
def ipI (f : Int → Int → Int) : TIp := fun x y H Q => ∃ i j, x = .int i ∧ y = .int j ∧ Q (.int (f i j)) H
theorem ip_add : PIp X .Add (ipI fun i j => i + j) := by
  intro pins s σ H x y v u Q I r1 r2 h
  obtain ⟨i, j, e1, e2, q⟩ := h
  subst e1; subst e2
  obtain ⟨t, rfl⟩ := r1
  obtain ⟨t', rfl⟩ := r2
  exact iadd_int ⟨.int _, H, I.tok _, ⟨_, rfl⟩, q⟩
theorem ip_sub : PIp X .Sub (ipI fun i j => i - j) := by
  intro pins s σ H x y v u Q I r1 r2 h
  obtain ⟨i, j, e1, e2, q⟩ := h
  subst e1; subst e2
  obtain ⟨t, rfl⟩ := r1
  obtain ⟨t', rfl⟩ := r2
  exact isub_int ⟨.int _, H, I.tok _, ⟨_, rfl⟩, q⟩
end

/-! ### while -/
section
variable {X : Cx} {pos : Pos}
/-- the invariant W with its measure -/
def tWhile (c : TT) (tb : TS) : TS := fun D σ H => ∃ W : Nat → St → Hp → Prop, (∃ m, W m σ H) ∧ ∀ m σ H, W m σ H →
  c σ H fun b H1 => if b = true then ∃ N : St → Hp → Prop, (∀ σ' H', N σ' H' → ∃ m', m' < m ∧ W m' σ' H') ∧ tb { D with nx := N, ct := N, bk := D.nx } σ H1 else D.nx σ H1
theorem ps_while {c : Expr} {body : List Stmt} {tc : TT} {tb : TS} (hp : PassesOwn (model X.prog X.w) X.A X.env X.xe) (hc : PT X c tc) (hb : PSs X body tb) : PS X (.While c body [] pos) (tWhile tc tb) := by
  intro pins s σ H D I h
  obtain ⟨W, ⟨m0, w0⟩, turn⟩ := h
  refine wpAny_While (codeAny_whileLoop (fun n s' => ∃ σ' H', Inv X pins σ' H' s' ∧ W n σ' H') ?_ m0 ⟨σ, H, I, w0⟩)
  rintro n s1 ⟨σ1, H1, I1, w1⟩
  refine wpAny_passesOwn hp (thn (hc pins s1 σ1 H1 _ I1 (turn n σ1 H1 w1)) fun b s2 ⟨H2, I2, q2⟩ => ?_)
  cases b with
  | true =>
    obtain ⟨N, hN, q2⟩ := q2
    rw [if_pos rfl]
    refine wpAny_passesOwn hp (thn (hb pins s2 σ1 H2 _ I2 q2) fun f s3 q3 => ?_)
    cases f with
    | next =>
      obtain ⟨σ3, H3, I3, n3⟩ := q3
      obtain ⟨m', hm, w3⟩ := hN σ3 H3 n3
      exact ⟨m', hm, σ3, H3, I3, w3⟩
    | cont =>
      obtain ⟨σ3, H3, I3, n3⟩ := q3
      obtain ⟨m', hm, w3⟩ := hN σ3 H3 n3
      exact ⟨m', hm, σ3, H3, I3, w3⟩
    | brk => exact q3
    | ret v => exact q3
  | false =>
    rw [if_neg Bool.false_ne_true]
    exact wpAny_execs_nil ⟨σ1, H2, I2, q2⟩
end

/-! ### what a loop or a comprehension walks -/
/-- at turn i: it yields x (the heap may grow), or it stops -/
structure It where
  go : Nat → Hp → Prop
  yld : Nat → Hp → V → Hp → Prop
  stop : Nat → Hp → Prop
/-- the iterator's own objects may turn: they are not the frame's, not pinned, younger than the entry (or a comprehension's own) -/
def FpOk (X : Cx) (pins : List (Addr × Obj)) (H : Hp) (b : Addr) : Prop :=
  H b = none ∧ b ≠ X.env.locals ∧ b ∉ X.fs ∧ (b ∈ X.ex ∨ X.s₀.heap.objs.size ≤ b) ∧ (∀ x c, X.env.cells.lookup x = some c → c ≠ b) ∧ ∀ p ∈ X.pn ++ pins, p.1 ≠ b
theorem Inv.fpOk {X : Cx} {pins : List (Addr × Obj)} {σ : St} {H H' : Hp} {s : Shared} {b : Addr} (I : Inv X pins σ H s) (hb : s.heap.objs.size ≤ b) (hn : H' b = none) : FpOk X pins H' b := by
  refine ⟨hn, Nat.ne_of_gt (Nat.lt_of_lt_of_le I.lt hb), I.nofs hb, .inr (Nat.le_trans I.sz hb), fun x c e z => ?_, fun p hp z => ?_⟩
  · obtain ⟨v, q⟩ := I.cell x c e
    exact absurd (Nat.lt_of_lt_of_le q.lt (by rw [z]; exact hb)) (Nat.lt_irrefl _)
  · exact absurd (Nat.lt_of_lt_of_le (Heap.lt_size (I.pin p hp).1) (by rw [z]; exact hb)) (Nat.lt_irrefl _)
structure Turn (P : Program) (w : World) (K : PySem.W.Frag) (tg : Expr) (J : It) (fp : List Addr) (it : Addr) (tn : Nat → Heap → Prop) : Prop where
  mem : it ∈ fp
  obj : ∀ i h, tn i h → ∀ b ∈ fp, ∃ o, h.get? b = some o ∧ ∀ v, o.data ≠ .cell v
  keep : ∀ i h h', tn i h → (∀ b ∈ fp, ∀ o, h.get? b = some o → h'.get? b = some o) → tn i h'
  item : ∀ (X : Cx), X.prog = P → X.w = w → X.K = K → X.calm = true → ∀ (i : Nat) (pins : List (Addr × Obj)) (s : Shared) (σ : St) (H : Hp) (E : Value → Shared → Prop), Inv X pins σ H s → (∀ b ∈ fp, FpOk X pins H b) → tn i s.heap → J.go i H →
    wpAny (model P w) X.A (pyNext (.ref it)) (fun r s1 => ∃ u, r = some u ∧
      wpAny (model P w) X.A (letOwnedTupleGo tg (.ref it) u) (fun _ s2 => ∃ x H', Inv X pins σ H' s2 ∧ RelV x u ∧ J.yld i H x H' ∧ tn (i + 1) s2.heap ∧ ∀ b ∈ fp, H' b = none) E s1) E s
  done : ∀ (X : Cx), X.prog = P → X.w = w → X.K = K → X.calm = true → ∀ (i : Nat) (pins : List (Addr × Obj)) (s : Shared) (σ : St) (H : Hp) (E : Value → Shared → Prop), Inv X pins σ H s → (∀ b ∈ fp, FpOk X pins H b) → tn i s.heap → J.stop i H →
    wpAny (model P w) X.A (pyNext (.ref it)) (fun r s1 => r = none ∧ Inv X pins σ H s1) E s
  self : ∀ (A : Around) (i : Nat) (s : Shared) (Q : Value → Shared → Prop) (E : Value → Shared → Prop), tn i s.heap → Q (.ref it) s → wpAny (model P w) A (pyIter (.ref it)) Q E s
abbrev TI := St → Hp → (It → Hp → Prop) → Prop
/-- an iterator has come -/
def PIE (X : Cx) (pins : List (Addr × Obj)) (σ : St) (tg : Expr) (R : It → Hp → Prop) (itv : Value) (s2 : Shared) : Prop :=
  ∃ (it : Addr) (fp : List Addr) (tn : Nat → Heap → Prop) (J : It) (H' : Hp), itv = .ref it ∧ Inv X pins σ H' s2 ∧ Turn X.prog X.w X.K tg J fp it tn ∧ tn 0 s2.heap ∧ (∀ b ∈ fp, FpOk X pins H' b) ∧ R J H'
def PI (X : Cx) (tg iter : Expr) (wi : TI) : Prop :=
  ∀ (pins : List (Addr × Obj)) (s : Shared) (σ : St) (H : Hp) (R : It → Hp → Prop), Inv X pins σ H s → wi σ H R →
    wpAny (model X.prog X.w) X.A (eval iter X.env) (fun v s1 => wpAny (model X.prog X.w) X.A (pyIter v) (PIE X pins σ tg R) X.xe s1) X.xe s

/-- the step ahead of the store is nothing for an iterator that keeps no tuple -/
theorem go_of {M : Model} {A : Around} {E : Value → Shared → Prop} {s : Shared} {tg : Expr} {it : Addr} {u : Value} {o : Obj} {n : String} {vs : Array Value} {Q : Unit → Shared → Prop} (ho : s.heap.get? it = some o) (hc : o.cls = .type n) (hd : o.data = .fields vs)
    (hn : ["enumerate", "zip", "dict_itemiterator", "dict_reverseitemiterator", "odict_iterator", "itertools.zip_longest", "itertools.pairwise"].contains n = false) (hQ : Q () s) : wpAny M A (letOwnedTupleGo tg (.ref it) u) Q E s := by
  unfold letOwnedTupleGo
  cases tg <;> first
    | exact wpAny_pure hQ
    | (cases u <;> first
        | exact wpAny_pure hQ
        | (refine wpAny_bind (wpAny_load ho ?_)
           rw [hc, hd]
           show wpAny M A (if (["enumerate", "zip", "dict_itemiterator", "dict_reverseitemiterator", "odict_iterator", "itertools.zip_longest", "itertools.pairwise"].contains n && vs[0]? == some (rawInt _)) = true then _ else _) Q E s
           rw [if_neg (by intro h; rw [hn, Bool.false_and] at h; cases h)]
           exact wpAny_pure hQ))

/-- the list at a, as it stands at each turn (a loop may append to it) -/
def Itl (K : PySem.W.Frag) (a : Addr) : It :=
  ⟨fun i H => ∃ xs x, SqL K H a xs ∧ xs[i]? = some x, fun i H x H' => H' = H ∧ ∀ xs, SqL K H a xs → xs[i]? = some x, fun i H => ∃ xs, SqL K H a xs ∧ xs.length ≤ i⟩
def Itt (K : PySem.W.Frag) (a : Addr) : It :=
  ⟨fun i H => ∃ xs x, SqT K H a xs ∧ xs[i]? = some x, fun i H x H' => H' = H ∧ ∀ xs, SqT K H a xs → xs[i]? = some x, fun i H => ∃ xs, SqT K H a xs ∧ xs.length ≤ i⟩
/-- lo, lo + 1, .. (n of them) -/
def Itr (lo : Int) (n : Nat) : It := ⟨fun i _ => i < n, fun i H x H' => H' = H ∧ x = .int (lo + i), fun i _ => n ≤ i⟩
theorem turn_list {P : Program} {w : World} {K : PySem.W.Frag} {tg : Expr} (a it : Addr) : Turn P w K tg (Itl K a) [it] it (fun i h => h.IsListIter it a i) where
  mem := by simp
  obj := fun i h st b hb => by
    have e : b = it := by simpa using hb
    subst e
    obtain ⟨o, e, c, d⟩ := st
    exact ⟨o, e, fun v z => by rw [d] at z; cases z⟩
  keep := fun i h h' st k => st.at fun o e => k it (by simp) o e
  item := by
    intro X hP hw hK hc i pins s σ H E I hf st hg
    subst hP hw hK
    obtain ⟨xs, x, hq, hx⟩ := hg
    obtain ⟨its, rv, p, hz⟩ := I.list hq
    obtain ⟨u, hu, ru⟩ := rv.get hx
    obtain ⟨f0, f1, f2, f3, f4, f5⟩ := hf it (by simp)
    refine wpAny_pyNext_list_item st p.isList (x := u) (by simpa using hu) fun h' st' sb => ?_
    have I1 : Inv X pins σ H { s with heap := h' } := I.turned (t' := s.toks) (fun b o hb e => (sb.2 b hb).trans e) f0 f1 f3 f4 f5
    obtain ⟨o, e, c, d⟩ := id st'
    exact ⟨u, rfl, go_of (s := { s with heap := h' }) e c d (by decide) ⟨x, H, I1, ru, ⟨rfl, fun ys hy => by rw [I.list_inj hy hq]; exact hx⟩, st', fun b hb => (hf b hb).1⟩⟩
  done := by
    intro X hP hw hK hc i pins s σ H E I hf st hg
    subst hP hw hK
    obtain ⟨xs, hq, hx⟩ := hg
    obtain ⟨its, rv, p, hz⟩ := I.list hq
    obtain ⟨f0, f1, f2, f3, f4, f5⟩ := hf it (by simp)
    have hl := rv.length
    exact wpAny_pyNext_list_end (I.ok.hd hc) st p.isList (by simp; omega) fun h' eb => ⟨rfl, I.turned (t' := s.toks) (fun b o hb e => eb b o hb e) f0 f1 f3 f4 f5⟩
  self := fun _ _ _ _ _ st h => wpAny_pyIter_listiter st h
theorem turn_tuple {P : Program} {w : World} {K : PySem.W.Frag} {tg : Expr} (a it : Addr) : Turn P w K tg (Itt K a) [it] it (fun i h => h.IsTupleIter it a i) where
  mem := by simp
  obj := fun i h st b hb => by
    have e : b = it := by simpa using hb
    subst e
    obtain ⟨o, e, c, d⟩ := st
    exact ⟨o, e, fun v z => by rw [d] at z; cases z⟩
  keep := fun i h h' st k => st.at fun o e => k it (by simp) o e
  item := by
    intro X hP hw hK hc i pins s σ H E I hf st hg
    subst hP hw hK
    obtain ⟨xs, x, hq, hx⟩ := hg
    obtain ⟨its, rv, p, hz⟩ := I.tuple hq
    obtain ⟨u, hu, ru⟩ := rv.get hx
    obtain ⟨f0, f1, f2, f3, f4, f5⟩ := hf it (by simp)
    refine wpAny_pyNext_tuple_item st (show s.heap.IsTuple a its.toArray from p) (x := u) (by simpa using hu) fun h' st' sb => ?_
    have I1 : Inv X pins σ H { s with heap := h' } := I.turned (t' := s.toks) (fun b o hb e => (sb.2 b hb).trans e) f0 f1 f3 f4 f5
    obtain ⟨o, e, c, d⟩ := id st'
    exact ⟨u, rfl, go_of (s := { s with heap := h' }) e c d (by decide) ⟨x, H, I1, ru, ⟨rfl, fun ys hy => by rw [I.tuple_inj hy hq]; exact hx⟩, st', fun b hb => (hf b hb).1⟩⟩
  done := by
    intro X hP hw hK hc i pins s σ H E I hf st hg
    subst hP hw hK
    obtain ⟨xs, hq, hx⟩ := hg
    obtain ⟨its, rv, p, hz⟩ := I.tuple hq
    obtain ⟨f0, f1, f2, f3, f4, f5⟩ := hf it (by simp)
    have hl := rv.length
    exact wpAny_pyNext_tuple_end (I.ok.hd hc) st (show s.heap.IsTuple a its.toArray from p) (by simp; omega) fun h' eb => ⟨rfl, I.turned (t' := s.toks) (fun b o hb e => eb b o hb e) f0 f1 f3 f4 f5⟩
  self := fun _ _ _ _ _ st h => wpAny_pyIter_tupleiter st h
theorem turn_range {P : Program} {w : World} {K : PySem.W.Frag} {tg : Expr} (it : Addr) (lo : Int) (n : Nat) : Turn P w K tg (Itr lo n) [it] it (fun i h => IsRangeIter h it (lo + (i : Nat) * 1) ((n : Int) - (i : Nat)) 1) where
  mem := by simp
  obj := fun i h st b hb => by
    have e : b = it := by simpa using hb
    subst e
    exact ⟨_, st, fun v z => by
      have z' : Data.fields _ = Data.cell v := z
      cases z'⟩
  keep := fun i h h' st k => k it (by simp) _ st
  item := by
    intro X hP hw hK hc i pins s σ H E I hf st hg
    subst hP hw hK
    obtain ⟨f0, f1, f2, f3, f4, f5⟩ := hf it (by simp)
    have W := Walks.range (prog := X.prog) (w := X.w) (I.ok.hd hc) it lo 1 n
    refine W.item i s _ _ hg st fun v h' tk hv st' kk => ?_
    obtain ⟨t, rfl⟩ := hv
    have I1 : Inv X pins σ H { s with heap := h', toks := tk } := I.turned (fun b o hb e => kk b o (by simpa using hb) e) f0 f1 f3 f4 f5
    refine ⟨_, rfl, go_of (s := { s with heap := h', toks := tk }) (n := "range_iterator") st' rfl rfl (by decide) ⟨.int (lo + i), H, I1, ⟨t, ?_⟩, ⟨rfl, rfl⟩, st', fun b hb => (hf b hb).1⟩⟩
    rw [Int.mul_one]
  done := by
    intro X hP hw hK hc i pins s σ H E I hf st hg
    subst hP hw hK
    obtain ⟨f0, f1, f2, f3, f4, f5⟩ := hf it (by simp)
    exact wpAny_pyNext_range_end (I.ok.hd hc) st (by have : n ≤ i := hg; omega) fun h' eb => ⟨rfl, I.turned (t' := s.toks) (fun b o hb e => eb b o hb e) f0 f1 f3 f4 f5⟩
  self := fun _ _ _ _ _ st h => wpAny_pyIter_rangeiter st h
end L2

namespace L2
open PySem PySem.Spec PyProof.Rows
section
variable {X : Cx} {tg : Expr}
def iList (K : PySem.W.Frag) (tl : TE) : TI := fun σ H R => tl σ H fun x H1 => ∃ a, x = .ref a ∧ (∃ xs, SqL K H1 a xs) ∧ R (Itl K a) H1
def iTup (K : PySem.W.Frag) (tl : TE) : TI := fun σ H R => tl σ H fun x H1 => ∃ a, x = .ref a ∧ (∃ xs, SqT K H1 a xs) ∧ R (Itt K a) H1
theorem pi_list {l : Expr} {tl : TE} (hl : PE X l tl) : PI X tg l (iList X.K tl) := by
  intro pins s σ H R I h
  refine thn (hl pins s σ H _ I h) fun v s1 ⟨x, H1, I1, r1, q1⟩ => ?_
  obtain ⟨a, e, ⟨xs, hq⟩, q⟩ := q1
  subst e
  cases r1
  obtain ⟨its, rv, p, hz⟩ := I1.list hq
  refine wpAny_pyIter_list p.isList ?_
  refine ⟨s1.heap.objs.size, [s1.heap.objs.size], _, _, H1, rfl, I1.kept (t' := s1.toks) fun b o e => Heap.get?_push_of_some _ e, turn_list a _, ⟨_, Heap.get?_push_size _ rfl, rfl, rfl⟩, fun b hb => ?_, q⟩
  have e : b = s1.heap.objs.size := by simpa using hb
  subst e
  exact I1.fpOk (Nat.le_refl _) (I1.hok.fresh (Nat.le_refl _))
theorem pi_tup {l : Expr} {tl : TE} (hl : PE X l tl) : PI X tg l (iTup X.K tl) := by
  intro pins s σ H R I h
  refine thn (hl pins s σ H _ I h) fun v s1 ⟨x, H1, I1, r1, q1⟩ => ?_
  obtain ⟨a, e, ⟨xs, hq⟩, q⟩ := q1
  subst e
  cases r1
  obtain ⟨its, rv, p, hz⟩ := I1.tuple hq
  refine wpAny_pyIter_tuple (show s1.heap.IsTuple a its.toArray from p) ?_
  refine ⟨s1.heap.objs.size, [s1.heap.objs.size], _, _, H1, rfl, I1.kept (t' := s1.toks) fun b o e => Heap.get?_push_of_some _ e, turn_tuple a _, ⟨_, Heap.get?_push_size _ rfl, rfl, rfl⟩, fun b hb => ?_, q⟩
  have e : b = s1.heap.objs.size := by simpa using hb
  subst e
  exact I1.fpOk (Nat.le_refl _) (I1.hok.fresh (Nat.le_refl _))
/-- a range object just made, walked -/
theorem range_it {pins : List (Addr × Obj)} {σ : St} {H : Hp} {s : Shared} {R : It → Hp → Prop} {E : Value → Shared → Prop} {lo hi : Int} {t u v : Tok} {tk : Nat} (I : Inv X pins σ H s) (h1 : -(2 ^ 62) ≤ lo) (h2 : lo < 2 ^ 62) (h3 : -(2 ^ 62) ≤ hi) (h4 : hi < 2 ^ 62)
    (q : R (Itr lo (hi - lo).toNat) H) : wpAny (model X.prog X.w) X.A (pyIter (.ref s.heap.objs.size)) (PIE X pins σ tg R) E { s with heap := s.heap.push { cls := .type "range", data := .fields #[.int lo t, .int hi u, .int 1 v] }, toks := tk } := by
  refine wpAny_pyIter_range (IsRange.new ..) (small_one h1 h2 h3 h4) ?_
  have I1 : Inv X pins σ H { s with heap := s.heap.push { cls := .type "range", data := .fields #[.int lo t, .int hi u, .int 1 v] }, toks := tk } := I.kept fun b o e => Heap.get?_push_of_some _ e
  refine ⟨(s.heap.push { cls := .type "range", data := .fields #[.int lo t, .int hi u, .int 1 v] }).objs.size, [(s.heap.push { cls := .type "range", data := .fields #[.int lo t, .int hi u, .int 1 v] }).objs.size], _, _, H, rfl,
    I1.kept (t' := tk) fun b o e => Heap.get?_push_of_some _ e, turn_range _ lo (hi - lo).toNat, ?_, fun b hb => ?_, q⟩
  · have e1 : lo + ((0 : Nat) : Int) * 1 = lo := by simp
    have e2 : (((hi - lo).toNat : Nat) : Int) - ((0 : Nat) : Int) = Builtin.Range.rangeSize lo hi 1 := by rw [rangeSize_one]; split <;> omega
    show IsRangeIter _ _ (lo + ((0 : Nat) : Int) * 1) ((((hi - lo).toNat : Nat) : Int) - ((0 : Nat) : Int)) 1
    rw [e1, e2]
    exact Heap.get?_push_size _ rfl
  · have e : b = (s.heap.push { cls := .type "range", data := .fields #[.int lo t, .int hi u, .int 1 v] }).objs.size := by simpa using hb
    subst e
    exact I1.fpOk (Nat.le_refl _) (I1.hok.fresh (Nat.le_refl _))
def iRng1 (ta : TA) : TI := fun σ H R => ta σ H fun vs H1 => ∃ j : Int, vs = [.int j] ∧ -(2 ^ 62) ≤ j ∧ j < 2 ^ 62 ∧ R (Itr 0 j.toNat) H1
def iRng2 (ta : TA) : TI := fun σ H R => ta σ H fun vs H1 => ∃ i j : Int, vs = [.int i, .int j] ∧ (-(2 ^ 62) ≤ i ∧ i < 2 ^ 62 ∧ -(2 ^ 62) ≤ j ∧ j < 2 ^ 62) ∧ R (Itr i (j - i).toNat) H1
theorem pi_range1 {a : Expr} {ta : TA} {p pos : Pos} (hg : Gl X "range") (hm : X.mg "range" = none) (ha : PA X [a] ta) (hs : starEach [a] X.env = [(false, eval a X.env)] := by rfl) : PI X tg (.Call (.Name "range" p) [a] [] pos) (iRng1 ta) := by
  intro pins s σ H R I h
  refine Call_ (ld_blt I hg hm boot_range (PyProof.Rows.callWith_type1 (thn (ha pos pins s σ H _ I h) fun us s1 ⟨vs, H1, I1, r1, q1⟩ => ?_) hs rfl))
  obtain ⟨j, e, q1, q2, q⟩ := q1
  subst e
  cases r1 with
  | cons r rr =>
    cases rr
    obtain ⟨t, rfl⟩ := r
    exact call_range_1 (range_it I1 (by omega) (by omega) q1 q2 (by simpa using q))
theorem pi_range2 {a b : Expr} {ta : TA} {p pos : Pos} (hg : Gl X "range") (hm : X.mg "range" = none) (ha : PA X [a, b] ta) (hs : starEach [a, b] X.env = [(false, eval a X.env), (false, eval b X.env)] := by rfl) (hs2 : starEach [b] X.env = [(false, eval b X.env)] := by rfl) :
    PI X tg (.Call (.Name "range" p) [a, b] [] pos) (iRng2 ta) := by
  intro pins s σ H R I h
  refine Call_ (ld_blt I hg hm boot_range (PyProof.Rows.callWith_type1 (thn (ha pos pins s σ H _ I h) fun us s1 ⟨vs, H1, I1, r1, q1⟩ => ?_) (by rw [hs, hs2]) (by rw [hs2]; rfl)))
  obtain ⟨i, j, e, ⟨q1, q2, q3, q4⟩, q⟩ := q1
  subst e
  cases r1 with
  | cons r rr =>
    cases rr with
    | cons r' rr =>
      cases rr
      obtain ⟨t, rfl⟩ := r
      obtain ⟨t', rfl⟩ := r'
      exact call_range_2 (range_it I1 q1 q2 q3 q4 q)

/-! ### for -/
/-- W: the invariant by the turn and a measure; N: what the body is to reach -/
def tFor (wi : TI) (g : TG) (tb : TS) : TS := fun D σ H => wi σ H fun J H1 => ∃ W : Nat → Nat → St → Hp → Prop, (∃ m, W 0 m σ H1) ∧ ∀ i m σ H, W i m σ H →
  (J.stop i H ∧ D.nx σ H) ∨ (J.go i H ∧ ∃ N : St → Hp → Prop, (∀ σ' H', N σ' H' → ∃ m', m' < m ∧ W (i + 1) m' σ' H') ∧ ∀ x H', J.yld i H x H' → g x σ H' fun σ2 H2 => tb { D with nx := N, ct := N, bk := D.nx } σ2 H2)
/-- the records at fp as they stand -/
def pinsAt (fp : List Addr) (h : Heap) : List (Addr × Obj) := fp.filterMap fun b => (h.get? b).map fun o => (b, o)
theorem mem_pinsAt {fp : List Addr} {h : Heap} {b : Addr} {o : Obj} (hb : b ∈ fp) (e : h.get? b = some o) : (b, o) ∈ pinsAt fp h := List.mem_filterMap.mpr ⟨b, hb, by rw [e]; rfl⟩
theorem of_pinsAt {fp : List Addr} {h : Heap} {p : Addr × Obj} (hp : p ∈ pinsAt fp h) : p.1 ∈ fp ∧ h.get? p.1 = some p.2 := by
  obtain ⟨b, hb, e⟩ := List.mem_filterMap.mp hp
  cases q : h.get? b with
  | none => rw [q] at e; cases e
  | some o =>
    rw [q] at e
    have e' : (b, o) = p := Option.some.inj e
    subst e'
    exact ⟨hb, q⟩
theorem Inv.pinned {pins : List (Addr × Obj)} {σ : St} {H : Hp} {s : Shared} {fp : List Addr} (I : Inv X pins σ H s) (hf : ∀ b ∈ fp, FpOk X pins H b) (ho : ∀ b ∈ fp, ∃ o, s.heap.get? b = some o ∧ ∀ v, o.data ≠ .cell v) : Inv X (pins ++ pinsAt fp s.heap) σ H s :=
  I.pins_of fun p hp => (List.mem_append.mp hp).elim (fun z => I.pin p (List.mem_append_right _ z)) fun z => by
    obtain ⟨hb, e⟩ := of_pinsAt z
    obtain ⟨f0, f1, f2, _⟩ := hf p.1 hb
    obtain ⟨o, e', d⟩ := ho p.1 hb
    rw [e] at e'; cases e'
    exact ⟨e, f0, f1, f2, d⟩
theorem Inv.unpinned {pins pl : List (Addr × Obj)} {σ : St} {H : Hp} {s : Shared} (I : Inv X (pins ++ pl) σ H s) : Inv X pins σ H s := I.pins_of fun p hp => I.pin p (List.mem_append_right _ (List.mem_append_left _ hp))
theorem ps_for {iter : Expr} {body : List Stmt} {wi : TI} {g : TG} {tb : TS} {pos : Pos} (hp : PassesOwn (model X.prog X.w) X.A X.env X.xe) (hc : X.calm = true) (hi : PI X tg iter wi) (hg : PG X tg g) (hb : PSs X body tb)
    (hs : ∀ x, foldedSetIterable iter X.env x = pure x := by intro _; rfl) : PS X (.For tg iter body [] pos) (tFor wi g tb) := by
  intro pins s σ H D I h
  refine wpAny_For (thn (hi pins s σ H _ I h) fun v s1 h1 => thn h1 fun itv s2 h2 => ?_) hs
  obtain ⟨it, fp, tn, J, H2, e, I2, T, st2, f2, W, ⟨m0, w0⟩, turn⟩ := h2
  subst e
  -- what stays true of the iterator's objects through the loop
  have stat : ∀ {H' : Hp}, (∀ b ∈ fp, H' b = none) → ∀ b ∈ fp, FpOk X pins H' b := fun hn b hb => ⟨hn b hb, (f2 b hb).2⟩
  refine codeAny_forLoop_any (fun n s' => ∃ i σ' H', Inv X pins σ' H' s' ∧ tn i s'.heap ∧ (∀ b ∈ fp, H' b = none) ∧ W i n σ' H') ?_ m0 ⟨0, σ, H2, I2, st2, fun b hb => (f2 b hb).1, w0⟩
  rintro n s3 ⟨i, σ3, H3, I3, st3, fr3, w3⟩
  rcases turn i n σ3 H3 w3 with ⟨stop, qn⟩ | ⟨go, N, hN, step⟩
  · refine wpAny_passesOwn hp (thn (T.done X rfl rfl rfl hc i pins s3 σ3 H3 X.xe I3 (stat fr3) st3 stop) fun r s4 ⟨hr, I4⟩ => ?_)
    subst hr
    exact wpAny_execs_nil ⟨σ3, H3, I4, qn⟩
  · refine wpAny_passesOwn hp (thn (T.item X rfl rfl rfl hc i pins s3 σ3 H3 X.xe I3 (stat fr3) st3 go) fun r s4 ⟨u, hr, h4⟩ => ?_)
    subst hr
    refine wpAny_passesOwn hp (thn h4 fun _ s5 ⟨x, H5, I5, r5, y5, st5, fr5⟩ => ?_)
    have I5' := I5.pinned (stat fr5) (T.obj _ _ st5)
    refine wpAny_passesOwn hp (thn (hg _ s5 σ3 H5 x u _ I5' r5 (step x H5 y5)) fun _ s6 ⟨σ6, H6, I6, q6⟩ => ?_)
    refine wpAny_passesOwn hp (thn (hb _ s6 σ6 H6 _ I6 q6) fun f s7 q7 => ?_)
    have again : ∀ {σ7 : St} {H7 : Hp}, Inv X (pins ++ pinsAt fp s5.heap) σ7 H7 s7 → N σ7 H7 → ∃ m, m < n ∧ ∃ i σ' H', Inv X pins σ' H' s7 ∧ tn i s7.heap ∧ (∀ b ∈ fp, H' b = none) ∧ W i m σ' H' := fun {σ7 H7} I7 n7 => by
      obtain ⟨m', hm, w7⟩ := hN σ7 H7 n7
      refine ⟨m', hm, i + 1, σ7, H7, I7.unpinned, T.keep _ _ _ st5 fun b hb o e => (I7.pin (b, o) (List.mem_append_right _ (List.mem_append_right _ (mem_pinsAt hb e)))).1, fun b hb => ?_, w7⟩
      obtain ⟨o, e, d⟩ := T.obj _ _ st5 b hb
      exact (I7.pin (b, o) (List.mem_append_right _ (List.mem_append_right _ (mem_pinsAt hb e)))).2.1
    cases f with
    | next => obtain ⟨σ7, H7, I7, n7⟩ := q7; exact again I7 n7
    | cont => obtain ⟨σ7, H7, I7, n7⟩ := q7; exact again I7 n7
    | brk => obtain ⟨σ7, H7, I7, q7⟩ := q7; exact ⟨σ7, H7, I7.unpinned, q7⟩
    | ret v => obtain ⟨x7, σ7, H7, I7, r7, q7⟩ := q7; exact ⟨x7, σ7, H7, I7.unpinned, r7, q7⟩
end

/-! ### the forms one uses -/
/-- over a list that the body leaves as it is -/
theorem for_list {K : PySem.W.Frag} {a : Addr} {xs : List V} {g : TG} {tb : TS} {D : Ends} {σ : St} {H : Hp} (Pv : Nat → St → Hp → Prop) (h0 : Pv 0 σ H) (hl : ∀ i σ H, i ≤ xs.length → Pv i σ H → SqL K H a xs)
    (hs : ∀ i x σ H, xs[i]? = some x → Pv i σ H → g x σ H fun σ2 H2 => tb { D with nx := Pv (i + 1), ct := Pv (i + 1), bk := D.nx } σ2 H2) (hd : ∀ σ H, Pv xs.length σ H → D.nx σ H) :
    ∃ W : Nat → Nat → St → Hp → Prop, (∃ m, W 0 m σ H) ∧ ∀ i m σ H, W i m σ H →
      ((Itl K a).stop i H ∧ D.nx σ H) ∨ ((Itl K a).go i H ∧ ∃ N : St → Hp → Prop, (∀ σ' H', N σ' H' → ∃ m', m' < m ∧ W (i + 1) m' σ' H') ∧ ∀ x H', (Itl K a).yld i H x H' → g x σ H' fun σ2 H2 => tb { D with nx := N, ct := N, bk := D.nx } σ2 H2) := by
  refine ⟨fun i m σ H => m = xs.length - i ∧ i ≤ xs.length ∧ Pv i σ H, ⟨xs.length, by simp, Nat.zero_le _, h0⟩, ?_⟩
  rintro i m σ H ⟨rfl, hi, p⟩
  have q := hl i σ H hi p
  by_cases hlt : i < xs.length
  · refine .inr ⟨⟨xs, xs[i], q, by simp [hlt]⟩, Pv (i + 1), fun σ' H' p' => ⟨xs.length - (i + 1), by omega, rfl, hlt, p'⟩, fun x H' y => ?_⟩
    obtain ⟨e, y⟩ := y
    subst e
    exact hs i x σ _ (y xs q) p
  · have e : i = xs.length := by omega
    subst e
    exact .inl ⟨⟨xs, q, Nat.le_refl _⟩, hd σ H p⟩
theorem for_tup {K : PySem.W.Frag} {a : Addr} {xs : List V} {g : TG} {tb : TS} {D : Ends} {σ : St} {H : Hp} (Pv : Nat → St → Hp → Prop) (h0 : Pv 0 σ H) (hl : ∀ i σ H, i ≤ xs.length → Pv i σ H → SqT K H a xs)
    (hs : ∀ i x σ H, xs[i]? = some x → Pv i σ H → g x σ H fun σ2 H2 => tb { D with nx := Pv (i + 1), ct := Pv (i + 1), bk := D.nx } σ2 H2) (hd : ∀ σ H, Pv xs.length σ H → D.nx σ H) :
    ∃ W : Nat → Nat → St → Hp → Prop, (∃ m, W 0 m σ H) ∧ ∀ i m σ H, W i m σ H →
      ((Itt K a).stop i H ∧ D.nx σ H) ∨ ((Itt K a).go i H ∧ ∃ N : St → Hp → Prop, (∀ σ' H', N σ' H' → ∃ m', m' < m ∧ W (i + 1) m' σ' H') ∧ ∀ x H', (Itt K a).yld i H x H' → g x σ H' fun σ2 H2 => tb { D with nx := N, ct := N, bk := D.nx } σ2 H2) := by
  refine ⟨fun i m σ H => m = xs.length - i ∧ i ≤ xs.length ∧ Pv i σ H, ⟨xs.length, by simp, Nat.zero_le _, h0⟩, ?_⟩
  rintro i m σ H ⟨rfl, hi, p⟩
  have q := hl i σ H hi p
  by_cases hlt : i < xs.length
  · refine .inr ⟨⟨xs, xs[i], q, by simp [hlt]⟩, Pv (i + 1), fun σ' H' p' => ⟨xs.length - (i + 1), by omega, rfl, hlt, p'⟩, fun x H' y => ?_⟩
    obtain ⟨e, y⟩ := y
    subst e
    exact hs i x σ _ (y xs q) p
  · have e : i = xs.length := by omega
    subst e
    exact .inl ⟨⟨xs, q, Nat.le_refl _⟩, hd σ H p⟩
theorem for_range {lo : Int} {n : Nat} {g : TG} {tb : TS} {D : Ends} {σ : St} {H : Hp} (Pv : Nat → St → Hp → Prop) (h0 : Pv 0 σ H)
    (hs : ∀ i σ H, i < n → Pv i σ H → g (.int (lo + i)) σ H fun σ2 H2 => tb { D with nx := Pv (i + 1), ct := Pv (i + 1), bk := D.nx } σ2 H2) (hd : ∀ σ H, Pv n σ H → D.nx σ H) :
    ∃ W : Nat → Nat → St → Hp → Prop, (∃ m, W 0 m σ H) ∧ ∀ i m σ H, W i m σ H →
      ((Itr lo n).stop i H ∧ D.nx σ H) ∨ ((Itr lo n).go i H ∧ ∃ N : St → Hp → Prop, (∀ σ' H', N σ' H' → ∃ m', m' < m ∧ W (i + 1) m' σ' H') ∧ ∀ x H', (Itr lo n).yld i H x H' → g x σ H' fun σ2 H2 => tb { D with nx := N, ct := N, bk := D.nx } σ2 H2) := by
  refine ⟨fun i m σ H => m = n - i ∧ i ≤ n ∧ Pv i σ H, ⟨n, by simp, Nat.zero_le _, h0⟩, ?_⟩
  rintro i m σ H ⟨rfl, hi, p⟩
  by_cases hlt : i < n
  · refine .inr ⟨hlt, Pv (i + 1), fun σ' H' p' => ⟨n - (i + 1), by omega, rfl, hlt, p'⟩, fun x H' y => ?_⟩
    obtain ⟨e, y⟩ := y
    subst e y
    exact hs i σ _ hlt p
  · have e : i = n := by omega
    subst e
    exact .inl ⟨Nat.le_refl _, hd σ H p⟩
/-- while, by a word and a measure of the state -/
theorem while_by {c : TT} {tb : TS} {D : Ends} {σ : St} {H : Hp} (Pv : St → Hp → Prop) (μ : St → Hp → Nat) (h0 : Pv σ H)
    (hs : ∀ σ H, Pv σ H → c σ H fun b H1 => if b = true then tb { D with nx := fun σ' H' => Pv σ' H' ∧ μ σ' H' < μ σ H, ct := fun σ' H' => Pv σ' H' ∧ μ σ' H' < μ σ H, bk := D.nx } σ H1 else D.nx σ H1)
    (mono : ∀ σ H Q Q', (∀ b H1, Q b H1 → Q' b H1) → c σ H Q → c σ H Q') : tWhile c tb D σ H := by
  refine ⟨fun m σ H => m = μ σ H ∧ Pv σ H, ⟨_, rfl, h0⟩, ?_⟩
  rintro m σ H ⟨rfl, p⟩
  refine mono σ H _ _ (fun b H1 q => ?_) (hs σ H p)
  cases b with
  | true => exact ⟨_, fun σ' H' ⟨p', l⟩ => ⟨_, l, rfl, p'⟩, q⟩
  | false => exact q
end L2

namespace L2
open PySem PySem.Spec PyProof.Rows

abbrev R2 := V → V → Hp → VK → Prop
/-- a two-place operation on values: f is binaryOp op, inplaceOp op or compareOp op -/
def OpR (X : Cx) (f : Value → Value → Sem Value) (r : R2) : Prop :=
  ∀ (pins : List (Addr × Obj)) (s : Shared) (σ : St) (H : Hp) (x y : V) (v u : Value) (Q : VK), Inv X pins σ H s → RelV x v → RelV y u → r x y H Q →
    wpAny (model X.prog X.w) X.A (f v u) (EP X pins σ Q) X.xe s
/-- a one-place operation -/
def UnR (X : Cx) (f : Value → Sem Value) (r : V → Hp → VK → Prop) : Prop :=
  ∀ (pins : List (Addr × Obj)) (s : Shared) (σ : St) (H : Hp) (x : V) (v : Value) (Q : VK), Inv X pins σ H s → RelV x v → r x H Q →
    wpAny (model X.prog X.w) X.A (f v) (EP X pins σ Q) X.xe s
/-- a call of a value that is known (a builtin, a type) with values -/
def CallR (X : Cx) (f : Value) (r : List V → Hp → VK → Prop) : Prop :=
  ∀ (pins : List (Addr × Obj)) (s : Shared) (σ : St) (H : Hp) (xs : List V) (us : List Value) (Q : VK), Inv X pins σ H s → Vals xs us → r xs H Q →
    wpAny (model X.prog X.w) X.A (call f us) (EP X pins σ Q) X.xe s
/-- a value's truth -/
def TruR (X : Cx) (r : V → Hp → (Bool → Hp → Prop) → Prop) : Prop :=
  ∀ (pins : List (Addr × Obj)) (s : Shared) (σ : St) (H : Hp) (x : V) (v : Value) (Q : Bool → Hp → Prop), Inv X pins σ H s → RelV x v → r x H Q →
    wpAny (model X.prog X.w) X.A (truthy v) (TP X pins σ Q) X.xe s

def tOp (r : R2) (ta tb : TE) : TE := fun σ H Q => ta σ H fun x H1 => tb σ H1 fun y H2 => r x y H2 Q
def tUn (r : V → Hp → VK → Prop) (ta : TE) : TE := fun σ H Q => ta σ H fun x H1 => r x H1 Q
/-- ints in, under C, and a value out -/
def rI (C : Int → Int → Prop) (g : Int → Int → V) : R2 := fun x y H Q => ∃ i j, x = .int i ∧ y = .int j ∧ C i j ∧ Q (g i j) H
def rI0 (g : Int → Int → V) : R2 := fun x y H Q => ∃ i j, x = .int i ∧ y = .int j ∧ Q (g i j) H
def rU (g : Int → V) : V → Hp → VK → Prop := fun x H Q => ∃ i, x = .int i ∧ Q (g i) H

section
variable {X : Cx} {a b c : Expr} {ta tb tc : TE} {pos : Pos}

theorem binT (ha : PE X a ta) (hb : PE X b tb) {pins : List (Addr × Obj)} {s : Shared} {σ : St} {H : Hp} {R : V → V → Hp → Prop} (I : Inv X pins σ H s)
    (h : ta σ H fun x H1 => tb σ H1 fun y H2 => R x y H2) {Q : Value → Shared → Prop} {f : Value → Value → Sem Value}
    (hf : ∀ v u s2 x y H2, Inv X pins σ H2 s2 → RelV x v → RelV y u → R x y H2 → wpAny (model X.prog X.w) X.A (f v u) Q X.xe s2) :
    wpAny (model X.prog X.w) X.A (eval a X.env) (fun v s₁ => wpAny (model X.prog X.w) X.A (eval b X.env) (fun u s₂ => wpAny (model X.prog X.w) X.A (f v u) Q X.xe s₂) X.xe s₁) X.xe s := by
  refine thn (ha pins s σ H _ I h) fun v s1 ⟨x, H1, I1, r1, q1⟩ => ?_
  refine thn (hb pins s1 σ H1 _ I1 q1) fun u s2 ⟨y, H2, I2, r2, q2⟩ => ?_
  exact hf v u s2 x y H2 I2 r1 r2 q2

theorem pe_op {op : Operator} {r : R2} (ho : OpR X (binaryOp op) r) (ha : PE X a ta) (hb : PE X b tb) : PE X (.BinOp a op b pos) (tOp r ta tb) := by
  intro pins s σ H Q I h
  exact wpAny_BinOp (binT ha hb I h fun v u s2 x y H2 I2 rx ry q => ho pins s2 σ H2 x y v u Q I2 rx ry q)
theorem pe_un {op : UnaryOp} {r : V → Hp → VK → Prop} (ho : UnR X (unaryOp op) r) (ha : PE X a ta) : PE X (.UnaryOp op a pos) (tUn r ta) := by
  intro pins s σ H Q I h
  exact UnaryOp_ (thn (ha pins s σ H _ I h) fun v s1 ⟨x, H1, I1, r1, q1⟩ => ho pins s1 σ H1 x v Q I1 r1 q1)
/-- a op= e at a name: the name's slot i -/
theorem augR {op : Operator} {r : R2} (ho : OpR X (inplaceOp op) r) {pins : List (Addr × Obj)} {s : Shared} {σ : St} {H : Hp} {x y : V} {v u : Value} {Q : VK} (I : Inv X pins σ H s)
    (rx : RelV x v) (ry : RelV y u) (q : r x y H Q) : wpAny (model X.prog X.w) X.A (inplaceOp op v u) (EP X pins σ Q) X.xe s := ho pins s σ H x y v u Q I rx ry q

/-! ### ints -/
theorem opI {f : Value → Value → Sem Value} {C : Int → Int → Prop} {g : Int → Int → Int}
    (rule : ∀ (i j : Int) (t u : Tok) (s : Shared) (Q : Value → Shared → Prop) (E : Value → Shared → Prop), C i j → Q (.int (g i j) s.toks) { s with toks := s.toks + 1 } → wpAny (model X.prog X.w) X.A (f (.int i t) (.int j u)) Q E s) :
    OpR X f (rI C fun i j => .int (g i j)) := by
  intro pins s σ H x y v u Q I rx ry h
  obtain ⟨i, j, rfl, rfl, hc, q⟩ := h
  obtain ⟨t, rfl⟩ := rx
  obtain ⟨t', rfl⟩ := ry
  exact rule i j t t' s _ _ hc ⟨.int (g i j), H, I.tok _, ⟨_, rfl⟩, q⟩
theorem opI0 {f : Value → Value → Sem Value} {g : Int → Int → Int}
    (rule : ∀ (i j : Int) (t u : Tok) (s : Shared) (Q : Value → Shared → Prop) (E : Value → Shared → Prop), Q (.int (g i j) s.toks) { s with toks := s.toks + 1 } → wpAny (model X.prog X.w) X.A (f (.int i t) (.int j u)) Q E s) :
    OpR X f (rI0 fun i j => .int (g i j)) := by
  intro pins s σ H x y v u Q I rx ry h
  obtain ⟨i, j, rfl, rfl, q⟩ := h
  obtain ⟨t, rfl⟩ := rx
  obtain ⟨t', rfl⟩ := ry
  exact rule i j t t' s _ _ ⟨.int (g i j), H, I.tok _, ⟨_, rfl⟩, q⟩
theorem opB0 {f : Value → Value → Sem Value} {g : Int → Int → Bool}
    (rule : ∀ (i j : Int) (t u : Tok) (s : Shared) (Q : Value → Shared → Prop) (E : Value → Shared → Prop), Q (.bool (g i j)) s → wpAny (model X.prog X.w) X.A (f (.int i t) (.int j u)) Q E s) :
    OpR X f (rI0 fun i j => .bl (g i j)) := by
  intro pins s σ H x y v u Q I rx ry h
  obtain ⟨i, j, rfl, rfl, q⟩ := h
  obtain ⟨t, rfl⟩ := rx
  obtain ⟨t', rfl⟩ := ry
  exact rule i j t t' s _ _ ⟨.bl (g i j), H, I, rfl, q⟩

def CDiv (i j : Int) : Prop := 0 < j ∧ j < 1073741824
def CDivN (i j : Int) : Prop := j ≠ 0 ∧ j.natAbs < 1073741824
def CPow (i j : Int) : Prop := 0 ≤ j ∧ j ≤ 1000000 ∧ i.natAbs < 2 ^ 64
def CMul (i j : Int) : Prop := (-(2 ^ 64) < i ∧ i < 2 ^ 64) ∨ (-(2 ^ 64) < j ∧ j < 2 ^ 64)
theorem CMul.ok {i j : Int} (h : CMul i j) : IntMulOk i j := by
  rcases h with ⟨h1, h2⟩ | ⟨h1, h2⟩
  · exact .of_left (intBits_le_64 h1 h2)
  · exact .of_right (intBits_le_64 h1 h2)
theorem two_pow_nn (k : Nat) : (0 : Int) ≤ 2 ^ k := by
  rw [two_pow_cast]
  exact Int.natCast_nonneg _

theorem op_add : OpR X (binaryOp .Add) (rI0 fun i j => .int (i + j)) := opI0 fun _ _ _ _ _ _ _ q => add_int q
theorem op_sub : OpR X (binaryOp .Sub) (rI0 fun i j => .int (i - j)) := opI0 fun _ _ _ _ _ _ _ q => sub_int q
theorem op_mul : OpR X (binaryOp .Mult) (rI CMul fun i j => .int (i * j)) := opI fun _ _ _ _ _ _ _ hc q => mul_int q hc.ok
/-- // by a positive divisor -/
theorem op_fdiv : OpR X (binaryOp .FloorDiv) (rI CDiv fun i j => .int (i / j)) := opI fun i j _ _ _ _ _ hc q => by
  have h1 : (0 : Int) < j := hc.1
  have h2 : j < 1073741824 := hc.2
  exact floordiv_int (by omega) (by rw [Int.fdiv_eq_ediv_of_nonneg i (by omega)]; exact q) (.inl (PyProof.noPylong_small (by omega)))
theorem op_fdivN : OpR X (binaryOp .FloorDiv) (rI CDivN fun i j => .int (i.fdiv j)) := opI fun _ _ _ _ _ _ _ hc q => floordiv_int hc.1 q (.inl (PyProof.noPylong_small hc.2))
/-- % by a positive divisor of any size -/
theorem op_mod : OpR X (binaryOp .Mod) (rI (fun _ j => 0 < j) fun i j => .int (i % j)) := opI fun i j _ _ _ _ _ hc q => by
  have h1 : (0 : Int) < j := hc
  exact mod_int' (by omega) (by rw [Int.fmod_eq_emod_of_nonneg i (by omega)]; exact q)
theorem op_modN : OpR X (binaryOp .Mod) (rI (fun _ j => j ≠ 0) fun i j => .int (i.fmod j)) := opI fun _ _ _ _ _ _ _ hc q => mod_int' hc q
theorem op_pow : OpR X (binaryOp .Pow) (rI CPow fun i j => .int (i ^ j.toNat)) := opI fun _ _ _ _ _ _ _ hc q => pow_int_small hc.1 hc.2.1 hc.2.2 q
theorem op_shl : OpR X (binaryOp .LShift) (rI CPow fun i j => .int (i * 2 ^ j.toNat)) := opI fun _ _ _ _ _ _ _ hc q => lshift_int_small hc.1 hc.2.1 hc.2.2 q
theorem op_shr : OpR X (binaryOp .RShift) (rI (fun _ j => 0 ≤ j) fun i j => .int (i / 2 ^ j.toNat)) := opI fun i j _ _ _ _ _ hc q =>
  rshift_int hc (by rw [Int.fdiv_eq_ediv_of_nonneg i (two_pow_nn _)]; exact q)
theorem op_and : OpR X (binaryOp .BitAnd) (rI0 fun i j => .int (Builtin.bitAnd i j)) := opI0 fun _ _ _ _ _ _ _ q => and_int q
theorem op_or : OpR X (binaryOp .BitOr) (rI0 fun i j => .int (Builtin.bitOr i j)) := opI0 fun _ _ _ _ _ _ _ q => or_int q
theorem op_xor : OpR X (binaryOp .BitXor) (rI0 fun i j => .int (Builtin.bitXor i j)) := opI0 fun _ _ _ _ _ _ _ q => xor_int q

theorem iop_add : OpR X (inplaceOp .Add) (rI0 fun i j => .int (i + j)) := opI0 fun _ _ _ _ _ _ _ q => iadd_int q
theorem iop_sub : OpR X (inplaceOp .Sub) (rI0 fun i j => .int (i - j)) := opI0 fun _ _ _ _ _ _ _ q => isub_int q
theorem iop_mul : OpR X (inplaceOp .Mult) (rI CMul fun i j => .int (i * j)) := opI fun _ _ _ _ _ _ _ hc q => imul_int q hc.ok
theorem iop_fdiv : OpR X (inplaceOp .FloorDiv) (rI CDiv fun i j => .int (i / j)) := opI fun i j _ _ _ _ _ hc q => by
  have h1 : (0 : Int) < j := hc.1
  have h2 : j < 1073741824 := hc.2
  exact ifloordiv_int (by omega) (by rw [Int.fdiv_eq_ediv_of_nonneg i (by omega)]; exact q) (.inl (PyProof.noPylong_small (by omega)))
theorem iop_mod : OpR X (inplaceOp .Mod) (rI (fun _ j => 0 < j) fun i j => .int (i % j)) := opI fun i j _ _ _ _ _ hc q => by
  have h1 : (0 : Int) < j := hc
  exact imod_int (by omega) (by rw [Int.fmod_eq_emod_of_nonneg i (by omega)]; exact q)
theorem iop_shl : OpR X (inplaceOp .LShift) (rI CPow fun i j => .int (i * 2 ^ j.toNat)) := opI fun _ _ _ _ _ _ _ hc q => ilshift_int_small hc.1 hc.2.1 hc.2.2 q
theorem iop_shr : OpR X (inplaceOp .RShift) (rI (fun _ j => 0 ≤ j) fun i j => .int (i / 2 ^ j.toNat)) := opI fun i j _ _ _ _ _ hc q =>
  irshift_int hc (by rw [Int.fdiv_eq_ediv_of_nonneg i (two_pow_nn _)]; exact q)
theorem iop_and : OpR X (inplaceOp .BitAnd) (rI0 fun i j => .int (Builtin.bitAnd i j)) := opI0 fun _ _ _ _ _ _ _ q => iand_int q
theorem iop_or : OpR X (inplaceOp .BitOr) (rI0 fun i j => .int (Builtin.bitOr i j)) := opI0 fun _ _ _ _ _ _ _ q => ior_int q
theorem iop_xor : OpR X (inplaceOp .BitXor) (rI0 fun i j => .int (Builtin.bitXor i j)) := opI0 fun _ _ _ _ _ _ _ q => ixor_int q

theorem unI {f : Value → Sem Value} {g : Int → Int}
    (rule : ∀ (i : Int) (t : Tok) (s : Shared) (Q : Value → Shared → Prop) (E : Value → Shared → Prop), Q (.int (g i) s.toks) { s with toks := s.toks + 1 } → wpAny (model X.prog X.w) X.A (f (.int i t)) Q E s) :
    UnR X f (rU fun i => .int (g i)) := by
  intro pins s σ H x v Q I rx h
  obtain ⟨i, rfl, q⟩ := h
  obtain ⟨t, rfl⟩ := rx
  exact rule i t s _ _ ⟨.int (g i), H, I.tok _, ⟨_, rfl⟩, q⟩
theorem un_neg : UnR X (unaryOp .USub) (rU fun i => .int (-i)) := unI fun _ _ _ _ _ q => neg_int q
theorem un_inv : UnR X (unaryOp .Invert) (rU fun i => .int (Builtin.bitNot i)) := unI fun _ _ _ _ _ q => invert_int q

/-! ### bools among ints: n += (a < b) -/
theorem op_add_ib : OpR X (binaryOp .Add) (fun x y H Q => ∃ i k, x = .int i ∧ y = .bl k ∧ Q (.int (i + b2i k)) H) := by
  intro pins s σ H x y v u Q I rx ry h
  obtain ⟨i, k, rfl, rfl, q⟩ := h
  obtain ⟨t, rfl⟩ := rx
  cases ry
  exact add_int_bool ⟨.int (i + b2i k), H, I.tok _, ⟨_, rfl⟩, q⟩
end

/-! ### comparisons -/
/-- the scalars that == tells apart as data does -/
def scal : V → V → Bool
  | .non, .non => true | .non, .int _ => true | .int _, .non => true | .non, .bl _ => true | .bl _, .non => true | .non, .str _ => true | .str _, .non => true
  | .int _, .int _ => true | .bl _, .bl _ => true | .str _, .str _ => true | .byt _, .byt _ => true
  | .int _, .str _ => true | .str _, .int _ => true | .bl _, .str _ => true | .str _, .bl _ => true
  | _, _ => false
def rEq : R2 := fun x y H Q => scal x y = true ∧ Q (.bl (decide (x = y))) H
def rNe : R2 := fun x y H Q => scal x y = true ∧ Q (.bl (!decide (x = y))) H

theorem dec_int {i j : Int} : decide (V.int i = V.int j) = (i == j) := by
  rw [Bool.eq_iff_iff]
  simp
theorem dec_bl {i j : Bool} : decide (V.bl i = V.bl j) = (i == j) := by
  rw [Bool.eq_iff_iff]
  simp
theorem dec_str {i j : Str} : decide (V.str i = V.str j) = (i == j) := by
  rw [Bool.eq_iff_iff]
  simp
theorem dec_byt {i j : Array UInt8} : decide (V.byt i = V.byt j) = (i.toList == j.toList) := by
  rw [Bool.eq_iff_iff]
  cases i
  cases j
  simp

section
variable {X : Cx} {a b c : Expr} {ta tb tc : TE} {pos : Pos}
theorem fin_bl {pins : List (Addr × Obj)} {σ : St} {H : Hp} {s : Shared} {Q : VK} {k k' : Bool} (I : Inv X pins σ H s) (q : Q (.bl k) H) (e : k = k') : EP X pins σ Q (.bool k') s := by
  subst e
  exact ⟨.bl k, H, I, rfl, q⟩
theorem op_eq : OpR X (compareOp .Eq) rEq := by
  intro pins s σ H x y v u Q I rx ry h
  obtain ⟨hs, q⟩ := h
  cases x with
  | non =>
    cases rx
    cases y with
    | non => cases ry; exact PySem.EqNone.eq_none_none (fin_bl I q (by simp))
    | bl j => cases ry; exact PySem.EqNone.eq_none_bool (fin_bl I q (by simp))
    | int j => obtain ⟨t', rfl⟩ := ry; exact PySem.EqNone.eq_none_int (fin_bl I q (by simp))
    | str j => obtain ⟨t', rfl⟩ := ry; exact PySem.EqNone.eq_none_str (fin_bl I q (by simp))
    | _ => exact absurd (show false = true from hs) Bool.false_ne_true
  | bl i =>
    cases rx
    cases y with
    | non => cases ry; exact PySem.EqNone.eq_bool_none (fin_bl I q (by simp))
    | bl j => cases ry; exact eq_bool (fin_bl I q dec_bl)
    | str j => obtain ⟨t', rfl⟩ := ry; exact PySem.EqMixed.eq_bool_str (fin_bl I q (by simp))
    | _ => exact absurd (show false = true from hs) Bool.false_ne_true
  | int i =>
    obtain ⟨t, rfl⟩ := rx
    cases y with
    | non => cases ry; exact PySem.EqNone.eq_int_none (fin_bl I q (by simp))
    | int j => obtain ⟨t', rfl⟩ := ry; exact eq_int (fin_bl I q dec_int)
    | str j => obtain ⟨t', rfl⟩ := ry; exact PySem.EqMixed.eq_int_str (fin_bl I q (by simp))
    | _ => exact absurd (show false = true from hs) Bool.false_ne_true
  | str i =>
    obtain ⟨t, rfl⟩ := rx
    cases y with
    | non => cases ry; exact PySem.EqNone.eq_str_none (fin_bl I q (by simp))
    | bl j => cases ry; exact PySem.EqMixed.eq_str_bool (fin_bl I q (by simp))
    | int j => obtain ⟨t', rfl⟩ := ry; exact PySem.EqMixed.eq_str_int (fin_bl I q (by simp))
    | str j => obtain ⟨t', rfl⟩ := ry; exact eq_str (fin_bl I q dec_str)
    | _ => exact absurd (show false = true from hs) Bool.false_ne_true
  | byt i =>
    obtain ⟨t, rfl⟩ := rx
    cases y with
    | byt j => obtain ⟨t', rfl⟩ := ry; exact PySem.W.eq_bytes (fin_bl I q dec_byt)
    | _ => exact absurd (show false = true from hs) Bool.false_ne_true
  | _ => cases y <;> exact absurd (show false = true from hs) Bool.false_ne_true
theorem op_ne : OpR X (compareOp .NotEq) rNe := by
  intro pins s σ H x y v u Q I rx ry h
  obtain ⟨hs, q⟩ := h
  cases x with
  | non =>
    cases rx
    cases y with
    | non => cases ry; exact PySem.EqNone.ne_none_none (fin_bl I q (by simp))
    | bl j => cases ry; exact PySem.EqNone.ne_none_bool (fin_bl I q (by simp))
    | int j => obtain ⟨t', rfl⟩ := ry; exact PySem.EqNone.ne_none_int (fin_bl I q (by simp))
    | str j => obtain ⟨t', rfl⟩ := ry; exact PySem.EqNone.ne_none_str (fin_bl I q (by simp))
    | _ => exact absurd (show false = true from hs) Bool.false_ne_true
  | bl i =>
    cases rx
    cases y with
    | non => cases ry; exact PySem.EqNone.ne_bool_none (fin_bl I q (by simp))
    | bl j => cases ry; exact ne_bool (fin_bl I q (congrArg not dec_bl))
    | str j => obtain ⟨t', rfl⟩ := ry; exact PySem.EqMixed.ne_bool_str (fin_bl I q (by simp))
    | _ => exact absurd (show false = true from hs) Bool.false_ne_true
  | int i =>
    obtain ⟨t, rfl⟩ := rx
    cases y with
    | non => cases ry; exact PySem.EqNone.ne_int_none (fin_bl I q (by simp))
    | int j => obtain ⟨t', rfl⟩ := ry; exact ne_int (fin_bl I q (congrArg not dec_int))
    | str j => obtain ⟨t', rfl⟩ := ry; exact PySem.EqMixed.ne_int_str (fin_bl I q (by simp))
    | _ => exact absurd (show false = true from hs) Bool.false_ne_true
  | str i =>
    obtain ⟨t, rfl⟩ := rx
    cases y with
    | non => cases ry; exact PySem.EqNone.ne_str_none (fin_bl I q (by simp))
    | bl j => cases ry; exact PySem.EqMixed.ne_str_bool (fin_bl I q (by simp))
    | int j => obtain ⟨t', rfl⟩ := ry; exact PySem.EqMixed.ne_str_int (fin_bl I q (by simp))
    | str j => obtain ⟨t', rfl⟩ := ry; exact ne_str (fin_bl I q (congrArg not dec_str))
    | _ => exact absurd (show false = true from hs) Bool.false_ne_true
  | byt i =>
    obtain ⟨t, rfl⟩ := rx
    cases y with
    | byt j => obtain ⟨t', rfl⟩ := ry; exact PySem.W.ne_bytes (fin_bl I q (congrArg not dec_byt))
    | _ => exact absurd (show false = true from hs) Bool.false_ne_true
  | _ => cases y <;> exact absurd (show false = true from hs) Bool.false_ne_true

theorem op_lt : OpR X (compareOp .Lt) (rI0 fun i j => .bl (decide (i < j))) := opB0 fun _ _ _ _ _ _ _ q => lt_int q
theorem op_le : OpR X (compareOp .LtE) (rI0 fun i j => .bl (decide (i ≤ j))) := opB0 fun _ _ _ _ _ _ _ q => le_int q
theorem op_gt : OpR X (compareOp .Gt) (rI0 fun i j => .bl (decide (j < i))) := opB0 fun _ _ _ _ _ _ _ q => gt_int q
theorem op_ge : OpR X (compareOp .GtE) (rI0 fun i j => .bl (decide (j ≤ i))) := opB0 fun _ _ _ _ _ _ _ q => ge_int q
theorem op_lt_str : OpR X (compareOp .Lt) (fun x y H Q => ∃ i j, x = .str i ∧ y = .str j ∧ Q (.bl (decide (i.cps.toList < j.cps.toList))) H) := by
  intro pins s σ H x y v u Q I rx ry h
  obtain ⟨i, j, rfl, rfl, q⟩ := h
  obtain ⟨t, rfl⟩ := rx
  obtain ⟨t', rfl⟩ := ry
  exact lt_str (fin_bl I q rfl)
/-- the one string within the other -/
theorem op_in_str : OpR X (compareOp .In) (fun x y H Q => ∃ i j, x = .str i ∧ y = .str j ∧ Q (.bl (!(Builtin.Str.occurrences j i 0 j.length 1).isEmpty)) H) := by
  intro pins s σ H x y v u Q I rx ry h
  obtain ⟨i, j, rfl, rfl, q⟩ := h
  obtain ⟨t, rfl⟩ := rx
  obtain ⟨t', rfl⟩ := ry
  exact in_str (fin_bl I q rfl)

/-- is None, is not None: the right side a value none -/
theorem op_isN : OpR X (compareOp .Is) (fun x y H Q => y = .non ∧ Q (.bl (decide (x = .non))) H) := by
  intro pins s σ H x y v u Q I rx ry h
  obtain ⟨rfl, q⟩ := h
  cases ry
  refine is_none_gen (fin_bl I q ?_)
  cases x <;> first
    | (cases rx; rfl)
    | (obtain ⟨t, rfl⟩ := rx; rfl)
theorem op_notN : OpR X (compareOp .IsNot) (fun x y H Q => y = .non ∧ Q (.bl (!decide (x = .non))) H) := by
  intro pins s σ H x y v u Q I rx ry h
  obtain ⟨rfl, q⟩ := h
  cases ry
  refine isnot_none_gen (fin_bl I q ?_)
  cases x <;> first
    | (cases rx; rfl)
    | (obtain ⟨t, rfl⟩ := rx; rfl)

theorem op_notin_str : OpR X (compareOp .NotIn) (fun x y H Q => ∃ i j, x = .str i ∧ y = .str j ∧ Q (.bl (!(!(Builtin.Str.occurrences j i 0 j.length 1).isEmpty))) H) := by
  intro pins s σ H x y v u Q I rx ry h
  obtain ⟨i, j, rfl, rfl, q⟩ := h
  obtain ⟨t, rfl⟩ := rx
  obtain ⟨t', rfl⟩ := ry
  exact notIn_str (fin_bl I q rfl)
/-- is, is not of two objects that are tracked lists or instances -/
def isObj : HO → Bool
  | .lst _ => true
  | .ins _ _ _ => true
  | _ => false
theorem obj_there {pins : List (Addr × Obj)} {s : Shared} {σ : St} {H : Hp} {a : Addr} {o : HO} (I : Inv X pins σ H s) (h : H a = some o) (p : isObj o = true) : ∃ ob, s.heap.get? a = some ob ∧ ob.cls ≠ .type "tuple" := by
  cases o with
  | lst xs =>
    obtain ⟨_, its, n, _, e⟩ : xs.length ≤ sizeLine ∧ ∃ (its : List Value) (n : Nat), Vals xs its ∧ s.heap.get? a = some { cls := .type "list", data := .seq its.toArray n } := I.hok a _ h
    exact ⟨_, e, (by show Value.type "list" ≠ .type "tuple"; decide +kernel)⟩
  | ins C dx fs =>
    have x := I.hok a _ h
    obtain ⟨_, _, _, e, _⟩ := x
    exact ⟨_, e, (by show Value.ref C ≠ .type "tuple"; exact fun z => by cases z)⟩
  | _ => exact absurd (show false = true from p) Bool.false_ne_true
theorem op_is_ref : OpR X (compareOp .Is) (fun x y H Q => ∃ a b oa ob, x = .ref a ∧ y = .ref b ∧ H a = some oa ∧ isObj oa = true ∧ H b = some ob ∧ isObj ob = true ∧ Q (.bl (decide (a = b))) H) := by
  intro pins s σ H x y v u Q I rx ry h
  obtain ⟨a, b, oa, ob, rfl, rfl, ha, pa, hb, pb, q⟩ := h
  cases rx
  cases ry
  obtain ⟨o1, e1, n1⟩ := obj_there I ha pa
  obtain ⟨o2, e2, _⟩ := obj_there I hb pb
  by_cases z : a = b
  · subst z
    exact wpAny_is_ref_self (fin_bl I q (by simp))
  · exact wpAny_is_ref_other z e1 e2 n1 (fin_bl I q (by simp [z]))
theorem op_isnot_ref : OpR X (compareOp .IsNot) (fun x y H Q => ∃ a b oa ob, x = .ref a ∧ y = .ref b ∧ H a = some oa ∧ isObj oa = true ∧ H b = some ob ∧ isObj ob = true ∧ Q (.bl (!decide (a = b))) H) := by
  intro pins s σ H x y v u Q I rx ry h
  obtain ⟨a, b, oa, ob, rfl, rfl, ha, pa, hb, pb, q⟩ := h
  cases rx
  cases ry
  obtain ⟨o1, e1, n1⟩ := obj_there I ha pa
  obtain ⟨o2, e2, _⟩ := obj_there I hb pb
  by_cases z : a = b
  · subst z
    exact wpAny_isNot_ref_self (fin_bl I q (by simp))
  · exact wpAny_isNot_ref_other z e1 e2 n1 (fin_bl I q (by simp [z]))

/-- two rules for one operation: by cases -/
theorem OpR.or {f : Value → Value → Sem Value} {r r' : R2} (h : OpR X f r) (h' : OpR X f r') : OpR X f (fun x y H Q => r x y H Q ∨ r' x y H Q) := by
  intro pins s σ H x y v u Q I rx ry q
  rcases q with q | q
  · exact h pins s σ H x y v u Q I rx ry q
  · exact h' pins s σ H x y v u Q I rx ry q

theorem nomark (b : Expr) {op : CmpOp} (h : op ≠ .In := by decide) (h2 : op ≠ .NotIn := by decide) : behindInMarks op b = false := by
  have e1 : (op == CmpOp.In) = false := by cases op <;> first | rfl | exact absurd rfl h
  have e2 : (op == CmpOp.NotIn) = false := by cases op <;> first | rfl | exact absurd rfl h2
  cases b <;> simp [behindInMarks, e1, e2]
/-- a comparison as a value; hm: nomark b, or (for in, not in) by with_unfolding_all rfl -/
theorem pe_cmpR {op : CmpOp} {r : R2} (ho : OpR X (compareOp op) r) (ha : PE X a ta) (hb : PE X b tb) (hm : behindInMarks op b = false) : PE X (.Compare a [op] [b] pos) (tOp r ta tb) := by
  intro pins s σ H Q I h
  exact wpAny_Compare1 (binT ha hb I h fun v u s2 x y H2 I2 rx ry q => ho pins s2 σ H2 x y v u Q I2 rx ry q) hm
/-- a reading of a value as a test -/
def tTest (t : TE) : TT := fun σ H Q => t σ H fun x H' => ∃ k, x = .bl k ∧ Q k H'
theorem pt_cmpR {op : CmpOp} {r : R2} (ho : OpR X (compareOp op) r) (ha : PE X a ta) (hb : PE X b tb) (hm : behindInMarks op b = false) : PT X (.Compare a [op] [b] pos) (tTest (tOp r ta tb)) := by
  intro pins s σ H Q I h
  refine wpAny_isTrue_Compare1 (thn (ha pins s σ H _ I h) fun v s1 ⟨x, H1, I1, r1, q1⟩ => thn (hb pins s1 σ H1 _ I1 q1) fun u s2 ⟨y, H2, I2, r2, q2⟩ =>
    thn (ho pins s2 σ H2 x y v u _ I2 r1 r2 q2) fun c s3 ⟨z, H3, I3, r3, k, e, q3⟩ => ?_) hm
  subst e
  cases r3
  exact wpAny_truthy_bool ⟨H3, I3, q3⟩
/-- a op1 b op2 c -/
def tChain (r r' : R2) (ta tb tc : TE) : TE := fun σ H Q => ta σ H fun x H1 => tb σ H1 fun y H2 => r x y H2 fun z H3 => ∃ k, z = .bl k ∧
  (if k = true then tc σ H3 fun w' H4 => r' y w' H4 Q else Q (.bl false) H3)
theorem pe_chain {op op' : CmpOp} {r r' : R2} (ho : OpR X (compareOp op) r) (ho' : OpR X (compareOp op') r') (ha : PE X a ta) (hb : PE X b tb) (hc : PE X c tc)
    (hm : lastMarks [op, op'] [b, c] = false := by with_unfolding_all rfl) : PE X (.Compare a [op, op'] [b, c] pos) (tChain r r' ta tb tc) := by
  intro pins s σ H Q I h
  refine Compare_chain (thn (ha pins s σ H _ I h) fun v s1 ⟨x, H1, I1, r1, q1⟩ => chain_link (thn (hb pins s1 σ H1 _ I1 q1) fun u s2 ⟨y, H2, I2, r2, q2⟩ =>
    thn (ho pins s2 σ H2 x y v u _ I2 r1 r2 q2) fun d s3 ⟨z, H3, I3, r3, k, e, q3⟩ => ?_)) hm
  subst e
  cases r3
  refine wpAny_truthy_bool ?_
  cases k with
  | false => exact ite_ff ⟨.bl false, H3, I3, rfl, q3⟩
  | true => exact ite_tt (chain_last (thn (hc pins s3 σ H3 _ I3 q3) fun w' s4 ⟨z', H4, I4, r4, q4⟩ => ho' pins s4 σ H4 y z' u w' Q I4 r2 r4 q4))
theorem pt_chain {op op' : CmpOp} {r r' : R2} (ho : OpR X (compareOp op) r) (ho' : OpR X (compareOp op') r') (ha : PE X a ta) (hb : PE X b tb) (hc : PE X c tc)
    (hm : lastMarks [op, op'] [b, c] = false := by with_unfolding_all rfl) : PT X (.Compare a [op, op'] [b, c] pos) (tTest (tChain r r' ta tb tc)) := by
  intro pins s σ H Q I h
  refine isTrue_chain (thn (ha pins s σ H _ I h) fun v s1 ⟨x, H1, I1, r1, q1⟩ => test_link (thn (hb pins s1 σ H1 _ I1 q1) fun u s2 ⟨y, H2, I2, r2, q2⟩ =>
    thn (ho pins s2 σ H2 x y v u _ I2 r1 r2 q2) fun d s3 ⟨z, H3, I3, r3, k, e, q3⟩ => ?_)) hm
  subst e
  cases r3
  refine wpAny_truthy_bool ?_
  cases k with
  | false =>
    obtain ⟨k', e', q'⟩ := q3
    cases e'
    exact ite_ff ⟨H3, I3, q'⟩
  | true =>
    refine ite_tt (test_last (thn (hc pins s3 σ H3 _ I3 q3) fun w' s4 ⟨z', H4, I4, r4, q4⟩ => thn (ho' pins s4 σ H4 y z' u w' _ I4 r2 r4 q4) fun d' s5 ⟨z2, H5, I5, r5, k2, e2, q5⟩ => ?_))
    subst e2
    cases r5
    exact wpAny_truthy_bool ⟨H5, I5, q5⟩

/-! ### truth -/
/-- a value's truth by the abstract heap -/
def TruV (K : PySem.W.Frag) (x : V) (H : Hp) (k : Bool) : Prop :=
  match x with
  | .non => k = false
  | .bl b => k = b
  | .int i => k = (i != 0)
  | .str y => y.length ≤ sizeLine ∧ k = ((y.length : Int) != 0)
  | .byt y => y.size ≤ sizeLine ∧ k = ((y.size : Int) != 0)
  | .ref p => (∃ xs, SqL K H p xs ∧ k = !xs.isEmpty) ∨ (∃ xs, SqT K H p xs ∧ k = !xs.isEmpty) ∨ ∃ kvs, H p = some (.dK kvs) ∧ k = !kvs.isEmpty
  | _ => False
theorem isEmpty_kv {κ : Type} {kvs : List (κ × V)} {vs : List (κ × Value)} (r : KV kvs vs) : (!vs.isEmpty) = !kvs.isEmpty := by
  cases r <;> rfl
theorem isEmpty_of {xs : List V} {its : List Value} (r : Vals xs its) : (!its.toArray.isEmpty) = !xs.isEmpty := by
  cases r <;> simp
theorem line63 : (sizeLine : Nat) < 2 ^ 63 := by rw [sizeLine_eq]; decide
theorem tru_ok : TruR X (fun x H Q => ∃ k, TruV X.K x H k ∧ Q k H) := by
  intro pins s σ H x v Q I rx h
  obtain ⟨k, e, q⟩ := h
  have hl := line63
  have hs : sizeLine = 16777216 := sizeLine_eq
  cases x with
  | non =>
    cases rx
    have e' : k = false := e
    subst e'
    exact truthy_none ⟨H, I, q⟩
  | bl b =>
    cases rx
    have e' : k = b := e
    subst e'
    exact wpAny_truthy_bool ⟨H, I, q⟩
  | int i =>
    obtain ⟨t, rfl⟩ := rx
    have e' : k = (i != 0) := e
    subst e'
    exact PySem.P.truthy_int ⟨H, I, q⟩
  | str y =>
    obtain ⟨t, rfl⟩ := rx
    obtain ⟨hy, e'⟩ : y.length ≤ sizeLine ∧ k = ((y.length : Int) != 0) := e
    subst e'
    exact PySem.P.truthy_str (by omega) ⟨H, I.tok _, q⟩
  | byt y =>
    obtain ⟨t, rfl⟩ := rx
    obtain ⟨hy, e'⟩ : y.size ≤ sizeLine ∧ k = ((y.size : Int) != 0) := e
    subst e'
    exact PySem.W.truthy_bytes (by omega) ⟨H, I.tok _, q⟩
  | ref p =>
    cases rx
    have e' : (∃ xs, SqL X.K H p xs ∧ k = !xs.isEmpty) ∨ (∃ xs, SqT X.K H p xs ∧ k = !xs.isEmpty) ∨ ∃ kvs, H p = some (.dK kvs) ∧ k = !kvs.isEmpty := e
    rcases e' with ⟨xs, hx, e'⟩ | ⟨xs, hx, e'⟩ | ⟨kvs, hx, e'⟩
    · subst e'
      obtain ⟨its, r, pl, hz⟩ := I.list hx
      have hlen := r.length
      exact wpAny_truthy_list pl.isList (by simp only [List.size_toArray]; omega) ⟨H, I.tok _, by rw [isEmpty_of r]; exact q⟩
    · subst e'
      obtain ⟨its, r, pl, hz⟩ := I.tuple hx
      have hlen := r.length
      exact truthy_tuple pl (by simp only [List.size_toArray]; omega) ⟨H, I.tok _, by rw [isEmpty_of r]; exact q⟩
    · subst e'
      obtain ⟨hz, hS, vs, r, m⟩ : kvs.length ≤ sizeLine ∧ (p == sysModules) = false ∧ ∃ vs, KV kvs vs ∧ s.heap.DictOf (mixKind X.prog X.w) p vs := I.hok p _ hx
      have hlen : kvs.length = vs.length := Paired.length r
      exact wpAny_truthy_dict hS m (by omega) ⟨H, I.tok _, by rw [isEmpty_kv r]; exact q⟩
  | _ => exact (show False from e).elim
/-- any expression whose test is its value's truth (a name, a call, a subscript, a field ..: he by fun _ => rfl) -/
theorem pt_truth (ha : PE X a ta) (he : ∀ whole, isTrue a X.env whole = (do let v ← whole; standAt a.pos; holding [v] (truthy v))) :
    PT X a (fun σ H Q => ta σ H fun x H' => ∃ k, TruV X.K x H' k ∧ Q k H') := by
  intro pins s σ H Q I h
  exact isTrue_plain (thn (ha pins s σ H _ I h) fun v s1 ⟨x, H1, I1, r1, q1⟩ => tru_ok pins s1 σ H1 x v Q I1 r1 q1) (he _)

/-! ### strs and bytes -/
theorem pe_byt {x : List UInt8} {k : Nat} : PE X (.Constant (.bytes x) k pos) (fun _ H Q => Q (.byt x.toArray) H) := fun _ _ _ H _ I h => PySem.W.Constant_bytes ⟨.byt x.toArray, H, I.tok _, ⟨_, rfl⟩, h⟩
theorem op_add_str : OpR X (binaryOp .Add) (fun x y H Q => ∃ i j, x = .str i ∧ y = .str j ∧ i.length + j.length ≤ sizeLine ∧ Q (.str (i ++ j)) H) := by
  intro pins s σ H x y v u Q I rx ry h
  obtain ⟨i, j, rfl, rfl, hz, q⟩ := h
  obtain ⟨t, rfl⟩ := rx
  obtain ⟨t', rfl⟩ := ry
  exact add_str (fun t' tk => ⟨.str (i ++ j), H, I.tok _, ⟨_, rfl⟩, q⟩) hz
theorem iop_add_str : OpR X (inplaceOp .Add) (fun x y H Q => ∃ i j, x = .str i ∧ y = .str j ∧ i.length + j.length ≤ sizeLine ∧ Q (.str (i ++ j)) H) := by
  intro pins s σ H x y v u Q I rx ry h
  obtain ⟨i, j, rfl, rfl, hz, q⟩ := h
  obtain ⟨t, rfl⟩ := rx
  obtain ⟨t', rfl⟩ := ry
  exact iadd_str (fun t' tk => ⟨.str (i ++ j), H, I.tok _, ⟨_, rfl⟩, q⟩) hz
theorem op_add_byt : OpR X (binaryOp .Add) (fun x y H Q => ∃ i j, x = .byt i ∧ y = .byt j ∧ i.size + j.size ≤ 16777216 ∧ Q (.byt (i ++ j)) H) := by
  intro pins s σ H x y v u Q I rx ry h
  obtain ⟨i, j, rfl, rfl, hz, q⟩ := h
  obtain ⟨t, rfl⟩ := rx
  obtain ⟨t', rfl⟩ := ry
  exact PySem.W.KBy.add_bytes hz (fun t' tk => ⟨.byt (i ++ j), H, I.tok _, ⟨_, rfl⟩, q⟩)

def PlainIxT (b : Expr) : Prop := ∀ o i, subscripted b false o i = operate [o, i] (getItem o i)
/-- s[i], 0 ≤ i < len -/
theorem pe_item_str (ha : PE X a ta) (hb : PE X b tb) (hs : PlainIxT b) :
    PE X (.Subscript a b pos) (tOp (fun x y H Q => ∃ z i c, x = .str z ∧ y = .int i ∧ 0 ≤ i ∧ i < 2 ^ 63 ∧ i < z.length ∧ z.cps[i.toNat]? = some c ∧ Q (.str ⟨#[c]⟩) H) ta tb) := by
  intro pins s σ H Q I h
  refine Subscript_ (binT ha hb I h fun v u s2 x y H2 I2 rx ry q => ?_)
  obtain ⟨z, i, c, rfl, rfl, h0, h63, h1, hc, q⟩ := q
  obtain ⟨t, rfl⟩ := rx
  obtain ⟨t', rfl⟩ := ry
  have e : seqIndex? i z.length = some i.toNat := PySem.StrLaws.seqIndex_nonneg h0 h1
  exact tail_any (typeIs_str s2 z t) slot_str_getitem.lookup (getItem_str (c := c) (by
    have e1 : decide (i < -(2 ^ 63 : Int)) = false := decide_eq_false (by omega)
    have e2 : decide (i ≥ 2 ^ 63) = false := decide_eq_false (by omega)
    rw [e1, e2] <;> rfl) (by rw [e]; exact hc) ⟨.str ⟨#[c]⟩, H2, I2.tok _, ⟨_, rfl⟩, q⟩) (hs _ _)
/-- b[i], 0 ≤ i < len -/
theorem pe_item_byt (ha : PE X a ta) (hb : PE X b tb) (hs : PlainIxT b) :
    PE X (.Subscript a b pos) (tOp (fun x y H Q => ∃ (z : List UInt8) (i : Int), x = .byt z.toArray ∧ y = .int i ∧ z.length ≤ sizeLine ∧ 0 ≤ i ∧ i < z.length ∧ Q (.int ((z.getD i.toNat 0).toNat : Nat)) H) ta tb) := by
  intro pins s σ H Q I h
  refine Subscript_ (binT ha hb I h fun v u s2 x y H2 I2 rx ry q => ?_)
  obtain ⟨z, i, rfl, rfl, hz, h0, h1, q⟩ := q
  obtain ⟨t, rfl⟩ := rx
  obtain ⟨t', rfl⟩ := ry
  have hl : sizeLine = 16777216 := sizeLine_eq
  exact tail_any (PySem.W.typeIs_bytes s2 z.toArray t) PySem.W.FB.slot_bytes_getitem.lookup (PySem.W.getItem_bytes (by omega) h0 h1 ⟨.int ((z.getD i.toNat 0).toNat : Nat), H2, I2.tok _, ⟨_, rfl⟩, q⟩) (hs _ _)

/-! ### scalar builtins, by CallR -/
theorem vals1 {x : V} {us : List Value} (r : Vals [x] us) : ∃ u, us = [u] ∧ RelV x u := by
  cases r with
  | cons r1 r2 => cases r2; exact ⟨_, rfl, r1⟩
theorem vals2 {x y : V} {us : List Value} (r : Vals [x, y] us) : ∃ u w', us = [u, w'] ∧ RelV x u ∧ RelV y w' := by
  cases r with
  | cons r1 r2 =>
    cases r2 with
    | cons r3 r4 => cases r4; exact ⟨_, _, rfl, r1, r3⟩
theorem call_abs : CallR X (.builtin "abs") (fun xs H Q => ∃ i, xs = [.int i] ∧ Q (.int (if i < 0 then -i else i)) H) := by
  intro pins s σ H xs us Q I r h
  obtain ⟨i, rfl, q⟩ := h
  obtain ⟨u, rfl, t, rfl⟩ := vals1 r
  exact call_abs_int fun u tk => ⟨.int (if i < 0 then -i else i), H, I.tok _, ⟨_, rfl⟩, q⟩
theorem call_max2 (hc : X.calm = true) : CallR X (.builtin "max") (fun xs H Q => ∃ i j, xs = [.int i, .int j] ∧ Q (.int (if j > i then j else i)) H) := by
  intro pins s σ H xs us Q I r h
  obtain ⟨i, j, rfl, q⟩ := h
  obtain ⟨u, w', rfl, ⟨t, rfl⟩, ⟨t', rfl⟩⟩ := vals2 r
  refine max_two_ints (I.ok.hd hc) fun h' tk k => ⟨_, H, I.kept k, ?_, q⟩
  by_cases hj : j > i
  · rw [if_pos hj, if_pos hj]; exact ⟨_, rfl⟩
  · rw [if_neg hj, if_neg hj]; exact ⟨_, rfl⟩
theorem call_min2 (hc : X.calm = true) : CallR X (.builtin "min") (fun xs H Q => ∃ i j, xs = [.int i, .int j] ∧ Q (.int (if j < i then j else i)) H) := by
  intro pins s σ H xs us Q I r h
  obtain ⟨i, j, rfl, q⟩ := h
  obtain ⟨u, w', rfl, ⟨t, rfl⟩, ⟨t', rfl⟩⟩ := vals2 r
  refine min_two_ints (I.ok.hd hc) fun h' tk k => ⟨_, H, I.kept k, ?_, q⟩
  by_cases hj : j < i
  · rw [if_pos hj, if_pos hj]; exact ⟨_, rfl⟩
  · rw [if_neg hj, if_neg hj]; exact ⟨_, rfl⟩
theorem call_int1 : CallR X (.type "int") (fun xs H Q => (∃ i, xs = [.int i] ∧ Q (.int i) H) ∨ ∃ k, xs = [.bl k] ∧ Q (.int (if k then 1 else 0)) H) := by
  intro pins s σ H xs us Q I r h
  rcases h with ⟨i, rfl, q⟩ | ⟨k, rfl, q⟩
  · obtain ⟨u, rfl, t, rfl⟩ := vals1 r
    exact call_int_int ⟨.int i, H, I, ⟨_, rfl⟩, q⟩
  · obtain ⟨u, rfl, r1⟩ := vals1 r
    cases r1
    exact call_int_bool ⟨.int (if k then 1 else 0), H, I.tok _, ⟨_, rfl⟩, q⟩
theorem call_bool1 : CallR X (.type "bool") (fun xs H Q => (∃ i, xs = [.int i] ∧ Q (.bl (i != 0)) H) ∨ ∃ k, xs = [.bl k] ∧ Q (.bl k) H) := by
  intro pins s σ H xs us Q I r h
  rcases h with ⟨i, rfl, q⟩ | ⟨k, rfl, q⟩
  · obtain ⟨u, rfl, t, rfl⟩ := vals1 r
    exact call_bool_int ⟨.bl (i != 0), H, I, rfl, q⟩
  · obtain ⟨u, rfl, r1⟩ := vals1 r
    cases r1
    exact call_bool_bool ⟨.bl k, H, I, rfl, q⟩
theorem call_str_int : CallR X (.type "str") (fun xs H Q => ∃ i, xs = [.int i] ∧ i.natAbs.log2 < 1920 ∧ Q (.str (toString i)) H) := by
  intro pins s σ H xs us Q I r h
  obtain ⟨i, rfl, hz, q⟩ := h
  obtain ⟨u, rfl, t, rfl⟩ := vals1 r
  exact PySem.P.str_of_int hz ⟨.str _, H, I.tok _, ⟨_, rfl⟩, q⟩
theorem call_ord : CallR X (.builtin "ord") (fun xs H Q => ∃ x, xs = [.str x] ∧ x.length = 1 ∧ Q (.int (x.cps.getD 0 0 : Nat)) H) := by
  intro pins s σ H xs us Q I r h
  obtain ⟨x, rfl, hz, q⟩ := h
  obtain ⟨u, rfl, t, rfl⟩ := vals1 r
  exact ord_of_one hz ⟨.int _, H, I.tok _, ⟨_, rfl⟩, q⟩
theorem call_chr : CallR X (.builtin "chr") (fun xs H Q => ∃ i, xs = [.int i] ∧ 0 ≤ i ∧ i ≤ 1114111 ∧ Q (.str ⟨#[i.toNat]⟩) H) := by
  intro pins s σ H xs us Q I r h
  obtain ⟨i, rfl, h0, h1, q⟩ := h
  obtain ⟨u, rfl, t, rfl⟩ := vals1 r
  exact chr_of_range h0 h1 ⟨.str _, H, I.tok _, ⟨_, rfl⟩, q⟩
/-- len of a str, a bytes, a list, a tuple -/
def LenV (K : PySem.W.Frag) (x : V) (H : Hp) (n : Nat) : Prop :=
  match x with
  | .str y => y.length ≤ sizeLine ∧ n = y.length
  | .byt y => y.size ≤ sizeLine ∧ n = y.size
  | .ref p => (∃ xs, SqL K H p xs ∧ n = xs.length) ∨ ∃ xs, SqT K H p xs ∧ n = xs.length
  | _ => False
theorem call_len : CallR X (.builtin "len") (fun xs H Q => ∃ x n, xs = [x] ∧ LenV X.K x H n ∧ Q (.int n) H) := by
  intro pins s σ H xs us Q I r h
  obtain ⟨x, n, rfl, e, q⟩ := h
  obtain ⟨u, rfl, rx⟩ := vals1 r
  have hl := line63
  have hs : sizeLine = 16777216 := sizeLine_eq
  cases x with
  | str y =>
    obtain ⟨t, rfl⟩ := rx
    obtain ⟨hy, e'⟩ : y.length ≤ sizeLine ∧ n = y.length := e
    subst e'
    exact len_str (by omega) ⟨.int _, H, I.tok _, ⟨_, rfl⟩, q⟩
  | byt y =>
    obtain ⟨t, rfl⟩ := rx
    obtain ⟨hy, e'⟩ : y.size ≤ sizeLine ∧ n = y.size := e
    subst e'
    exact PySem.W.len_bytes (by omega) ⟨.int _, H, I.tok _, ⟨_, rfl⟩, q⟩
  | ref p =>
    cases rx
    have e' : (∃ xs, SqL X.K H p xs ∧ n = xs.length) ∨ ∃ xs, SqT X.K H p xs ∧ n = xs.length := e
    rcases e' with ⟨xs, hx, e'⟩ | ⟨xs, hx, e'⟩
    · subst e'
      obtain ⟨its, r', pl, hz⟩ := I.list hx
      have hlen := r'.length
      exact Calls.call_len_list pl.isList (by simp only [List.size_toArray]; omega) ⟨.int xs.length, H, I.tok _, ⟨_, by simp only [List.size_toArray]; rw [hlen]⟩, q⟩
    · subst e'
      obtain ⟨its, r', pl, hz⟩ := I.tuple hx
      have hlen := r'.length
      exact len_tuple pl (by simp only [List.size_toArray]; omega) ⟨.int xs.length, H, I.tok _, ⟨_, by simp only [List.size_toArray]; rw [hlen]⟩, q⟩
  | _ => exact (show False from e).elim
/-- divmod: a new tuple -/
theorem call_divmod : CallR X (.builtin "divmod") (fun xs H Q => ∃ i j, xs = [.int i, .int j] ∧ CDiv i j ∧ ∀ p, H p = none → Q (.ref p) (upd H p (.tup [.int (i / j), .int (i % j)]))) := by
  intro pins s σ H xs us Q I r h
  obtain ⟨i, j, rfl, ⟨h1, h2⟩, q⟩ := h
  obtain ⟨u, w', rfl, ⟨t, rfl⟩, ⟨t', rfl⟩⟩ := vals2 r
  refine divmod_int (by omega) ?_ (.inl (PyProof.noPylong_small (by omega)))
  rw [Int.fdiv_eq_ediv_of_nonneg i (by omega), Int.fmod_eq_emod_of_nonneg i (by omega)]
  have hn : H s.heap.objs.size = none := I.hok.fresh (Nat.le_refl _)
  refine ⟨.ref s.heap.objs.size, _, ?_, rfl, q _ hn⟩
  refine I.laid (fun b o e => Heap.get?_push_of_some _ e) (Nat.le_refl _) ⟨by simp only [List.length_cons, List.length_nil]; rw [sizeLine_eq]; decide, [.int (i / j) s.toks, .int (i % j) (s.toks + 1)], .cons ⟨_, rfl⟩ (.cons ⟨_, rfl⟩ .nil), ?_⟩
  exact ⟨_, Heap.get?_push_size s.heap rfl, rfl, 0, rfl⟩
end
end L2

namespace L2
open PySem PySem.Spec PyProof.Rows

/-! ### an instance, its attributes a map -/
structure ObjM (h : Heap) (x dx C : Addr) (mA : Str → Option Value) : Prop where
  obj : h.get? x = some (PySem.W.instObj C dx)
  ns : h.Ns1 dx mA
  ne : dx ≠ x

theorem lookIn_ns {h : Heap} {dx : Addr} {mA : Str → Option Value} (n : h.Ns1 dx mA) : ∃ od, h.get? dx = some od ∧ ∀ name, PySem.W.lookIn name od = some (mA name) := by
  obtain ⟨o, es, ep, ho, hd, hk, _, hm⟩ := n
  refine ⟨o, ho, fun name => ?_⟩
  have e := hm name
  unfold nsFind findBy at e
  rw [← Array.find?_toList] at e
  unfold PySem.W.lookIn
  rw [hd]
  dsimp only
  split
  · rename_i y q
    rw [q] at e
    exact congrArg some e
  · rename_i q
    rw [q] at e
    have a : es.toList.any (·.refKey) = false := by
      rw [List.any_eq_false]
      intro y hy
      obtain ⟨z, t, hkey⟩ := hk y (Array.mem_toList_iff.mp hy)
      simp [DictEntry.refKey, hkey]
    have a' : ¬ es.toList.any (·.refKey) = true := by rw [a]; exact Bool.false_ne_true
    rw [if_neg a']
    exact congrArg some e

theorem ObjM.look {h : Heap} {x dx C : Addr} {mA : Str → Option Value} (I : ObjM h x dx C mA) : ∃ od, PySem.W.InstAt h x (PySem.W.instObj C dx) C (some od) ∧ ∀ name, PySem.W.lookIn name od = some (mA name) :=
  let ⟨od, ho, hl⟩ := lookIn_ns I.ns
  ⟨od, ⟨I.obj, rfl, rfl, ho⟩, hl⟩

section
variable {prog : Program} {w : World} {A : Around} {E : Value → Shared → Prop} {s : Shared} {K : PySem.W.Frag} {x dx C f : Addr} {mA : Str → Option Value} {name : Str} {v : Value}

theorem get_map {expr : Bool} {Q : Value → Shared → Prop} (X : K.In s.heap) (I : ObjM s.heap x dx C mA) (hg : PySem.W.plainGet K C name = true) (hh : PySem.W.hasDictIn K C = true)
    (ha : PySem.W.findIn K (.ref C) name = some none) (hv : mA name = some v) (hv' : PySem.W.handedIn v = true) (h : Q v { s with toks := s.toks + 1 }) :
    wpAny (model prog w) A (getAttr (.ref x) name expr) Q E s := by
  obtain ⟨od, J, hl⟩ := I.look
  exact PySem.W.get_value X J (PySem.W.plainGet_of hg).1 (PySem.W.findObj_own hh ha rfl (by rw [hl, hv])) hv' h

theorem get_const {expr : Bool} {a : Value} {Q : Value → Shared → Prop} (X : K.In s.heap) (I : ObjM s.heap x dx C mA) (hg : PySem.W.plainGet K C name = true) (hh : PySem.W.hasDictIn K C = true)
    (ha : PySem.W.findIn K (.ref C) name = some (some a)) (hn : PySem.W.specialIn K a "__get__" = some none) (hc : PySem.W.copiedNames.contains name = false) (hv : mA name = none) (hv' : PySem.W.handedIn a = true)
    (h : Q a { s with toks := s.toks + 1 }) : wpAny (model prog w) A (getAttr (.ref x) name expr) Q E s := by
  obtain ⟨od, J, hl⟩ := I.look
  exact PySem.W.get_value X J (PySem.W.plainGet_of hg).1 (PySem.W.findObj_cls hh ha hn hv' hc (by rw [hl, hv])) hv' h

theorem get_meth {pl : Sem Bool} {Q : Value × List Value → Shared → Prop} (X : K.In s.heap) (I : ObjM s.heap x dx C mA) (hg : PySem.W.plainGet K C name = true)
    (hf : PySem.W.findIn K (.ref C) name = some (some (.ref f))) (ht : PySem.W.isFn K (.ref f) = true) (hv : mA name = none) (h : Q (.ref f, [.ref x]) s) :
    wpAny (model prog w) A (getMethod (.ref x) name pl) Q E s := by
  obtain ⟨od, J, hl⟩ := I.look
  exact PySem.W.method_fn X J (PySem.W.plainGet_of hg).1 (PySem.W.plainGet_of hg).2 hf (beq_iff_eq.mp ht) (by show (PySem.W.lookIn name od).map (·.isSome) = some false; rw [hl, hv]; rfl) h

theorem set_map {ns : List Str} {Q : Unit → Shared → Prop} (X : K.In s.heap) (I : ObjM s.heap x dx C mA)
    (hs : PySem.W.findIn K (.ref C) "__setattr__" = some (some (.builtin "object.__setattr__"))) (hp : PySem.W.plainOver K C = true) (ht : PySem.W.takerIn K C name = some none) (hh : PySem.W.hasDictIn K C = true)
    (hw : PySem.Within mA ns) (hsz : ns.length ≤ sizeLine)
    (h : ∀ h', ObjM h' x dx C (fun y => if y = name then some v else mA y) → Heap.SameBut dx s.heap h' → Q () { s with heap := h', toks := s.toks + 2 }) :
    wpAny (model prog w) A (setAttr (.ref x) name v) Q E s := by
  obtain ⟨od, J, hl⟩ := I.look
  refine PySem.W.set_plain X J hs (PySem.W.osa_open (s := { s with toks := s.toks + 1 }) (r := none) X J hp ht fun b => ?_)
  obtain ⟨cd, hc, hd'⟩ := PySem.W.any_some hh
  have hx : s.heap.get? x = some ⟨.ref C, some dx, .plain, #[]⟩ := I.obj
  refine wpAny_bind (wpAny_pure (wpAny_bind (wpAny_bind (wpAny_loadPart hx (wpAny_bind (PySem.W.Looks.here (s := { s with toks := s.toks + 1 }) (PySem.W.looks_clsIn X hc) ?_))))))
  rw [hd']
  refine wpAny_pure (a := some dx) (wpAny_bind (wpAny_pure (wpAny_bind ?_)))
  refine wpAny_nsSet1 (s := { s with toks := s.toks + 1 }) I.ns fun h' hn2 hs2 => ?_
  obtain ⟨oD, esD, epD, hoD, hdD, hcD⟩ := hn2.count (PySem.Within.cons name v hw)
  refine wpAny_bind (wpAny_lookBehind hoD (by rw [hdD]; exact pastItsLine_dict (Nat.le_trans hcD (by rw [List.length_cons]; omega))) ?_)
  exact wpAny_pure (h _ ⟨(hs2.2 _ (Ne.symm I.ne)).trans I.obj, hn2, I.ne⟩ hs2)

/-- C(..): the dict at the heap's end, the instance behind it; then its __init__ -/
theorem make_map {R : Result → Shared → Prop} {vs : List Value} {kw : List (Str × Value)} (X : K.In s.heap) (hm : PySem.W.makesIn K C = true)
    (hi : PySem.W.findIn K (.ref C) "__init__" = some (some (.ref f))) (hf : PySem.W.typeIn K (.ref f) = some (.type "function"))
    (h : codeAny (model prog w) (A.under (.builtin "type.__call__" ⟨.ref C :: vs, kw⟩)) (.call (.ref f) ⟨.ref (s.heap.objs.size + 1) :: vs, kw⟩) (PySem.W.InitBack (s.heap.objs.size + 1) R)
      { s with heap := (s.heap.push PySem.W.emptyDict).push (PySem.W.instObj C s.heap.objs.size) }) :
    codeAny (model prog w) A (.call (.ref C) ⟨vs, kw⟩) R s := by
  obtain ⟨hh, g, d, t, os⟩ := s
  exact PySem.W.make_core (PySem.W.makes_of X hm) (PySem.W.looks_findIn X hi) (fun self => PySem.W.bind_fn X self hf) (.inl rfl) h
/-- C() where there is no __init__ but object's -/
theorem make_map0 {R : Result → Shared → Prop} (X : K.In s.heap) (hm : PySem.W.makesIn K C = true)
    (hi : PySem.W.findIn K (.ref C) "__init__" = some (some (.builtin "object.__init__")))
    (hb : ∀ self, PySem.W.Looks (model prog w) s.heap (bindSpecial (.builtin "object.__init__") self) (.builtin "object.__init__", [self]))
    (h : codeAny (model prog w) (A.under (.builtin "type.__call__" ⟨[.ref C], []⟩)) (.call (.builtin "object.__init__") ⟨[.ref (s.heap.objs.size + 1)], []⟩) (PySem.W.InitBack (s.heap.objs.size + 1) R)
      { s with heap := (s.heap.push PySem.W.emptyDict).push (PySem.W.instObj C s.heap.objs.size) }) :
    codeAny (model prog w) A (.call (.ref C) ⟨[], []⟩) R s := by
  obtain ⟨hh, g, d, t, os⟩ := s
  exact PySem.W.make_core (PySem.W.makes_of X hm) (PySem.W.looks_findIn X hi) hb (.inr ⟨rfl, rfl⟩) h
end

/-! ### the attributes as a list of pairs -/
def putF (f : Str) (v : V) : List (Str × V) → List (Str × V)
  | [] => [(f, v)]
  | (g, x) :: r => if g = f then (g, v) :: r else (g, x) :: putF f v r
theorem lookup_putF (f g : Str) (v : V) : ∀ fs : List (Str × V), (putF f v fs).lookup g = if g = f then some v else fs.lookup g
  | [] => by
    show List.lookup g [(f, v)] = _
    by_cases h : g = f
    · have hb : (g == f) = true := beq_iff_eq.mpr h
      simp only [List.lookup, hb, if_pos h]
    · have hb : (g == f) = false := beq_eq_false_iff_ne.mpr h
      simp only [List.lookup, hb, if_neg h]
  | (k, x) :: r => by
    have ih := lookup_putF f g v r
    rw [show putF f v ((k, x) :: r) = (if k = f then (k, v) :: r else (k, x) :: putF f v r) from rfl]
    by_cases hk : k = f
    · rw [if_pos hk]
      by_cases h : g = k
      · have hb : (g == k) = true := beq_iff_eq.mpr h
        simp only [List.lookup, hb, if_pos (h.trans hk)]
      · have hb : (g == k) = false := beq_eq_false_iff_ne.mpr h
        simp only [List.lookup, hb, if_neg (fun e : g = f => h (e.trans hk.symm))]
    · rw [if_neg hk]
      by_cases h : g = k
      · have hb : (g == k) = true := beq_iff_eq.mpr h
        simp only [List.lookup, hb, if_neg (fun e : g = f => hk (h.symm.trans e))]
      · have hb : (g == k) = false := beq_eq_false_iff_ne.mpr h
        simp only [List.lookup, hb]
        exact ih
theorem keys_putF (f : Str) (v : V) : ∀ fs : List (Str × V), f ∈ (putF f v fs).map (·.1) ∧ ∀ g, g ∈ fs.map (·.1) → g ∈ (putF f v fs).map (·.1)
  | [] => ⟨by simp [putF], fun g h => by simp at h⟩
  | (k, x) :: r => by
    obtain ⟨i1, i2⟩ := keys_putF f v r
    rw [show putF f v ((k, x) :: r) = (if k = f then (k, v) :: r else (k, x) :: putF f v r) from rfl]
    by_cases hk : k = f
    · rw [if_pos hk]
      subst hk
      exact ⟨by simp, fun g h => by simpa using h⟩
    · rw [if_neg hk]
      refine ⟨?_, fun g h => ?_⟩
      · rw [List.map_cons]
        exact List.mem_cons_of_mem _ i1
      · rw [List.map_cons] at h ⊢
        rcases List.mem_cons.mp h with e | e
        · exact List.mem_cons.mpr (.inl e)
        · exact List.mem_cons_of_mem _ (i2 g e)
theorem length_putF (f : Str) (v : V) : ∀ fs : List (Str × V), (putF f v fs).length ≤ fs.length + 1
  | [] => by simp [putF]
  | (k, x) :: r => by
    have ih := length_putF f v r
    rw [show putF f v ((k, x) :: r) = (if k = f then (k, v) :: r else (k, x) :: putF f v r) from rfl]
    by_cases hk : k = f
    · rw [if_pos hk, List.length_cons, List.length_cons]; omega
    · rw [if_neg hk, List.length_cons, List.length_cons]; omega

theorem RelO.some_of {v : V} {o : Option Value} (r : RelO (some v) o) : ∃ u, o = some u ∧ RelV v u := by
  cases o with
  | none => exact (show False from r).elim
  | some u => exact ⟨u, rfl, r⟩
theorem RelO.none_of {o : Option Value} (r : RelO none o) : o = none := by
  cases o with
  | none => rfl
  | some u => exact (show False from r).elim
theorem handed_of {v : V} {u : Value} (r : RelV v u) : PySem.W.handedIn u = true := by
  cases v with
  | non => cases (show u = Value.none from r); rfl
  | bl b => cases (show u = Value.bool b from r); rfl
  | int i => obtain ⟨t, e⟩ := (show ∃ t, u = Value.int i t from r); cases e; rfl
  | str x => obtain ⟨t, e⟩ := (show ∃ t, u = Value.str x t from r); cases e; rfl
  | byt b => obtain ⟨t, e⟩ := (show ∃ t, u = Value.bytes b t from r); cases e; rfl
  | flt b => obtain ⟨t, e⟩ := (show ∃ t, u = Value.float b t from r); cases e; rfl
  | ref a => cases (show u = Value.ref a from r); rfl
  | ty n => cases (show u = Value.type n from r); rfl

section
variable {P : Program} {w : World} {H H' : Hp} {h h' : Heap} {a C dx : Addr} {fs fs' : List (Str × V)}
theorem ins_get (hok : HOk P w H h) (e : H a = some (.ins C dx fs)) : ∃ mA, ObjM h a dx C mA ∧ (∀ f, RelO (fs.lookup f) (mA f)) ∧ PySem.Within mA (fs.map (·.1)) ∧ fs.length ≤ 1000 ∧ H dx = some (.own a) := by
  obtain ⟨d, z, ne, ob, mA, n, r, q⟩ := (show ObjOk P w H h a (.ins C dx fs) from hok a _ e)
  exact ⟨mA, ⟨ob, n, ne⟩, r, q, z, d⟩
end

/-! ### what of the text a class must have -/
structure Cls (K : PySem.W.Frag) (C : Addr) : Prop where
  pg : PySem.W.plainGet K C Str.empty = true
  hd : PySem.W.hasDictIn K C = true
  po : PySem.W.plainOver K C = true
  sa : PySem.W.findIn K (.ref C) "__setattr__" = some (some (.builtin "object.__setattr__"))
theorem Cls.get {K : PySem.W.Frag} {C : Addr} (c : Cls K C) (f : Str) : PySem.W.plainGet K C f = true := c.pg
/-- no class of it has the name -/
def NoAttr (K : PySem.W.Frag) (C : Addr) (f : Str) : Prop := PySem.W.findIn K (.ref C) f = some none
theorem NoAttr.taker {K : PySem.W.Frag} {C : Addr} {f : Str} (n : NoAttr K C f) : PySem.W.takerIn K C f = some none := by
  unfold PySem.W.takerIn
  rw [show PySem.W.findIn K (.ref C) f = some none from n]
  rfl
/-- a constant of the class -/
structure Con (K : PySem.W.Frag) (C : Addr) (f : Str) (v : V) (u : Value) : Prop where
  at_ : PySem.W.findIn K (.ref C) f = some (some u)
  rel : RelV v u
  get : PySem.W.specialIn K u "__get__" = some none
  cp : PySem.W.copiedNames.contains f = false
/-- a method: a plain def of the class or of one above it -/
structure Meth (K : PySem.W.Frag) (C : Addr) (m : Str) (f : Addr) : Prop where
  at_ : PySem.W.findIn K (.ref C) m = some (some (.ref f))
  fn : PySem.W.isFn K (.ref f) = true
  kp : PySem.W.keepIn K (.ref f) = true

section
variable {X : Cx} {pins : List (Addr × Obj)} {σ : St} {H : Hp} {s : Shared} {a C dx : Addr} {fs : List (Str × V)} {f : Str} {v : V} {A : Around} {E : Value → Shared → Prop}

theorem getattr_ok {b : Bool} {Q : Value → Shared → Prop} (I : Inv X pins σ H s) (e : H a = some (.ins C dx fs)) (c : Cls X.K C) (n : NoAttr X.K C f) (l : fs.lookup f = some v)
    (h : ∀ u s', Inv X pins σ H s' → RelV v u → Q u s') : wpAny (model X.prog X.w) A (getAttr (.ref a) f b) Q E s := by
  obtain ⟨mA, O, r, _, _, _⟩ := ins_get I.hok e
  obtain ⟨u, hu, ru⟩ := RelO.some_of (v := v) (o := mA f) (by rw [← l]; exact r f)
  exact get_map I.kIn O (c.get f) c.hd n hu (handed_of ru) (h u _ (I.tok _) ru)

theorem getcon_ok {b : Bool} {u : Value} {Q : Value → Shared → Prop} (I : Inv X pins σ H s) (e : H a = some (.ins C dx fs)) (c : Cls X.K C) (k : Con X.K C f v u) (l : fs.lookup f = none)
    (h : ∀ s', Inv X pins σ H s' → Q u s') : wpAny (model X.prog X.w) A (getAttr (.ref a) f b) Q E s := by
  obtain ⟨mA, O, r, _, _, _⟩ := ins_get I.hok e
  have hn : mA f = none := RelO.none_of (by rw [← l]; exact r f)
  exact get_const I.kIn O (c.get f) c.hd k.at_ k.get k.cp hn (handed_of k.rel) (h _ (I.tok _))

theorem getmeth_ok {m : Str} {g : Addr} {pl : Sem Bool} {Q : Value × List Value → Shared → Prop} (I : Inv X pins σ H s) (e : H a = some (.ins C dx fs)) (c : Cls X.K C) (k : Meth X.K C m g) (l : fs.lookup m = none)
    (h : Q (.ref g, [.ref a]) s) : wpAny (model X.prog X.w) A (getMethod (.ref a) m pl) Q E s := by
  obtain ⟨mA, O, r, _, _, _⟩ := ins_get I.hok e
  have hn : mA m = none := RelO.none_of (by rw [← l]; exact r m)
  exact get_meth I.kIn O (c.get m) k.at_ k.fn hn h

theorem setattr_ok {y : V} {u : Value} {Q : Unit → Shared → Prop} (I : Inv X pins σ H s) (e : H a = some (.ins C dx fs)) (c : Cls X.K C) (n : NoAttr X.K C f) (hl : fs.length < 1000) (ry : RelV y u)
    (h : ∀ s', Inv X pins σ (upd H a (.ins C dx (putF f y fs))) s' → Q () s') : wpAny (model X.prog X.w) A (setAttr (.ref a) f u) Q E s := by
  obtain ⟨mA, O, r, wi, _, ho⟩ := ins_get I.hok e
  have hz : (fs.map (·.1)).length ≤ sizeLine := by rw [List.length_map, sizeLine_eq]; omega
  refine set_map I.kIn O c.sa c.po n.taker c.hd wi hz fun h' O' sb => h _ ?_
  have hd : ∃ o, h'.get? dx = some o := let ⟨o, _, _, e', _⟩ := O'.ns; ⟨o, e'⟩
  refine I.write (x := a) (e := dx) (by rw [e]; exact True.intro) (.inr ho) (fun b q hb z => (sb.2 b hb).trans z) hd ?_
  refine ⟨by rw [upd_ne O.ne]; exact ho, ?_, O.ne, O'.obj, _, O'.ns, fun g => ?_, fun g hg => ?_⟩
  · have := length_putF f y fs; omega
  · show RelO ((putF f y fs).lookup g) (if g = f then some u else mA g)
    rw [lookup_putF]
    by_cases q : g = f
    · rw [if_pos q, if_pos q]; exact ry
    · rw [if_neg q, if_neg q]; exact r g
  · by_cases q : g = f
    · rw [q]; exact (keys_putF f y fs).1
    · refine (keys_putF f y fs).2 g (wi g fun z => hg ?_)
      show (if g = f then some u else mA g) = none
      rw [if_neg q]; exact z

/-- a new instance, tracked, without attributes -/
theorem Inv.made (I : Inv X pins σ H s) : Inv X pins σ (upd (upd H s.heap.objs.size (.own (s.heap.objs.size + 1))) (s.heap.objs.size + 1) (.ins C s.heap.objs.size []))
    { s with heap := (s.heap.push PySem.W.emptyDict).push (PySem.W.instObj C s.heap.objs.size) } := by
  have e1 : (s.heap.push PySem.W.emptyDict).get? s.heap.objs.size = some PySem.W.emptyDict := Heap.get?_push_size s.heap rfl
  have e2 : ((s.heap.push PySem.W.emptyDict).push (PySem.W.instObj C s.heap.objs.size)).get? (s.heap.objs.size + 1) = some (PySem.W.instObj C s.heap.objs.size) := by
    have := Heap.get?_push_size (s.heap.push PySem.W.emptyDict) (o := PySem.W.instObj C s.heap.objs.size) rfl
    rwa [Heap.size_push] at this
  have e3 : (s.heap.push PySem.W.emptyDict).Ns s.heap.objs.size (fun _ => none) := ⟨PySem.W.emptyDict, #[], _, e1, rfl, (fun e he => absurd he (by simp)), fun _ => rfl⟩
  have I1 := I.laid (a := s.heap.objs.size) (o := .own (s.heap.objs.size + 1)) (h' := s.heap.push PySem.W.emptyDict) (t' := s.toks) (fun b u q => Heap.get?_push_of_some _ q) (Nat.le_refl _) ⟨_, e1⟩
  refine I1.laid (a := s.heap.objs.size + 1) (o := .ins C s.heap.objs.size []) (t' := s.toks) (fun b u q => Heap.get?_push_of_some _ q) (Nat.le_of_eq (Heap.size_push _ _)) ?_
  have ne : s.heap.objs.size ≠ s.heap.objs.size + 1 := Nat.ne_of_lt (Nat.lt_succ_self _)
  refine ⟨by rw [upd_ne ne, upd_same], Nat.zero_le _, ne, e2, fun _ => none, (Heap.Ns1.of_empty e3).at fun o q => Heap.get?_push_of_some _ q, fun _ => True.intro, fun y hy => absurd rfl hy⟩

/-- e.f where nothing but the object is asked: through attributeBase (super) and the last hold -/
theorem attr_of {prog : Program} {w : World} {env : Env} {e : Expr} {f : Str} {pos : Pos} {s : Shared} {Q : Value → Shared → Prop} (hb : attributeBase e f env (eval e env) = eval e env)
    (h : wpAny (model prog w) A (eval e env) (fun o s₁ => wpAny (model prog w) A (getAttr o f true) Q E s₁) E s) : wpAny (model prog w) A (eval (.Attribute e f pos) env) Q E s :=
  Attribute_any_ h (by rw [arm_eval_Attribute, hb])
end

/-! ### readings and rules -/
/-- e.f, an attribute of the instance -/
def tFld (K : PySem.W.Frag) (ta : TE) (f : Str) : TE := fun σ H Q => ta σ H fun x H1 => ∃ a C dx fs v, x = .ref a ∧ H1 a = some (.ins C dx fs) ∧ Cls K C ∧ NoAttr K C f ∧ fs.lookup f = some v ∧ Q v H1
/-- e.f, a constant of the class -/
def tCon (K : PySem.W.Frag) (ta : TE) (f : Str) : TE := fun σ H Q => ta σ H fun x H1 => ∃ a C dx fs v u, x = .ref a ∧ H1 a = some (.ins C dx fs) ∧ Cls K C ∧ Con K C f v u ∧ fs.lookup f = none ∧ Q v H1
/-- e.f = value -/
def sFld (K : PySem.W.Frag) (ta tv : TE) (f : Str) : TS := fun D σ H => tv σ H fun y H1 => ta σ H1 fun x H2 => ∃ a C dx fs, x = .ref a ∧ H2 a = some (.ins C dx fs) ∧ Cls K C ∧ NoAttr K C f ∧ fs.length < 1000 ∧
  D.nx σ (upd H2 a (.ins C dx (putF f y fs)))
/-- an augmented operator on two values -/
def InOp (X : Cx) (op : Operator) (rd : V → V → Hp → VK → Prop) : Prop :=
  ∀ (pins : List (Addr × Obj)) (s : Shared) (σ : St) (H : Hp) (x y : V) (u v : Value) (Q : VK), Inv X pins σ H s → RelV x u → RelV y v → rd x y H Q → wpAny (model X.prog X.w) X.A (inplaceOp op u v) (EP X pins σ Q) X.xe s
/-- e.f op= value -/
def sFldAug (K : PySem.W.Frag) (ta tv : TE) (rd : V → V → Hp → VK → Prop) (f : Str) : TS := fun D σ H => ta σ H fun x H1 => ∃ a C dx fs v, x = .ref a ∧ H1 a = some (.ins C dx fs) ∧ Cls K C ∧ NoAttr K C f ∧ fs.lookup f = some v ∧
  tv σ H1 fun y H2 => rd v y H2 fun z H3 => ∃ dx' fs', H3 a = some (.ins C dx' fs') ∧ fs'.length < 1000 ∧ D.nx σ (upd H3 a (.ins C dx' (putF f z fs')))

section
variable {X : Cx} {o e value : Expr} {f : Str} {pos pos' tpos : Pos} {ta tv : TE}
theorem pe_fld (he : PE X e ta) (hb : attributeBase e f X.env (eval e X.env) = eval e X.env) : PE X (.Attribute e f pos) (tFld X.K ta f) := by
  intro pins s σ H Q I h
  refine attr_of hb (thn (he pins s σ H _ I h) fun u s1 ⟨x, H1, I1, rx, a, C, dx, fs, v, ex, ea, c, n, l, q⟩ => ?_)
  subst ex
  obtain rfl : u = Value.ref a := rx
  exact getattr_ok I1 ea c n l fun u' s2 I2 ru => ⟨v, H1, I2, ru, q⟩
theorem pe_con (he : PE X e ta) (hb : attributeBase e f X.env (eval e X.env) = eval e X.env) : PE X (.Attribute e f pos) (tCon X.K ta f) := by
  intro pins s σ H Q I h
  refine attr_of hb (thn (he pins s σ H _ I h) fun u s1 ⟨x, H1, I1, rx, a, C, dx, fs, v, u0, ex, ea, c, k, l, q⟩ => ?_)
  subst ex
  obtain rfl : u = Value.ref a := rx
  exact getcon_ok I1 ea c k l fun s2 I2 => ⟨v, H1, I2, k.rel, q⟩
theorem ps_fld (ha : PE X o ta) (hv : PE X value tv) (hs : swapsWith value (some (.Attribute o f pos')) pos.line X.env = pure false) : PS X (.Assign [.Attribute o f pos'] value pos) (sFld X.K ta tv f) := by
  intro pins s σ H D I h
  refine plainObj_wpAny_Assign_Attribute (thn (hv pins s σ H _ I h) fun u s1 ⟨y, H1, I1, ry, q⟩ => thn (ha pins s1 σ H1 _ I1 q) fun ov s2 ⟨x, H2, I2, rx, a, C, dx, fs, ex, ea, c, n, l, q2⟩ => ?_) hs
  subst ex
  obtain rfl : ov = Value.ref a := rx
  exact setattr_ok I2 ea c n l ry fun s3 I3 => ⟨σ, _, I3, q2⟩
theorem ps_fldaug {op : Operator} {rd : V → V → Hp → VK → Prop} (ha : PE X o ta) (hv : PE X value tv) (hop : InOp X op rd) : PS X (.AugAssign (.Attribute o f tpos) op value pos) (sFldAug X.K ta tv rd f) := by
  intro pins s σ H D I h
  refine wpAny_AugAssign_AttributeAny (thn (ha pins s σ H _ I h) fun ov s1 ⟨x, H1, I1, rx, a, C, dx, fs, v, ex, ea, c, n, l, q⟩ => ?_)
  subst ex
  obtain rfl : ov = Value.ref a := rx
  refine getattr_ok I1 ea c n l fun u s2 I2 ru => thn (hv pins s2 σ H1 _ I2 q) fun w3 s3 ⟨y, H2, I3, ry, q3⟩ => thn (hop pins s3 σ H2 v y u w3 _ I3 ru ry q3) fun w4 s4 ⟨z, H3, I4, rz, dx', fs', ea', l', q4⟩ => ?_
  exact setattr_ok I4 ea' c n l' rz fun s5 I5 => ⟨σ, _, I5, q4⟩
def rAdd : V → V → Hp → VK → Prop := fun x y H Q => ∃ i j, x = .int i ∧ y = .int j ∧ Q (.int (i + j)) H
def rSub : V → V → Hp → VK → Prop := fun x y H Q => ∃ i j, x = .int i ∧ y = .int j ∧ Q (.int (i - j)) H
theorem in_add : InOp X .Add rAdd := by
  rintro pins s σ H x y u v Q I rx ry ⟨i, j, rfl, rfl, q⟩
  obtain ⟨t, rfl⟩ := (show ∃ t, u = Value.int i t from rx)
  obtain ⟨t', rfl⟩ := (show ∃ t', v = Value.int j t' from ry)
  exact PyProof.Rows.iadd_int ⟨.int (i + j), H, I.tok _, ⟨_, rfl⟩, q⟩
theorem in_sub : InOp X .Sub rSub := by
  rintro pins s σ H x y u v Q I rx ry ⟨i, j, rfl, rfl, q⟩
  obtain ⟨t, rfl⟩ := (show ∃ t, u = Value.int i t from rx)
  obtain ⟨t', rfl⟩ := (show ∃ t', v = Value.int j t' from ry)
  exact PyProof.Rows.isub_int ⟨.int (i - j), H, I.tok _, ⟨_, rfl⟩, q⟩

/-- what is between an instance and its method: the tree of a method call -/
theorem methcall_of {pl : Sem Bool} {m : Str} {apos : Pos} {args : List Expr} {pins : List (Addr × Obj)} {s : Shared} {σ : St} {H : Hp} {Q : Value → Shared → Prop} {te : TE} (he : PE X e te) (I : Inv X pins σ H s)
    (h : te σ H fun x H1 => ∃ a C dx fs g, x = .ref a ∧ H1 a = some (.ins C dx fs) ∧ Cls X.K C ∧ Meth X.K C m g ∧ fs.lookup m = none ∧
      ∀ s1, Inv X pins σ H1 s1 → wpAny (model X.prog X.w) X.A (callWith pos (.ref g) [.ref a] (backTo pos (starEach args X.env)) (backToKw pos (keywordEach [] X.env))) Q X.xe s1)
    (ht : eval (.Call (.Attribute e m apos) args [] pos) X.env = (do
      let ov ← eval e X.env
      standAt apos.atName
      let (f, first) ← holding [ov] (getMethod ov m pl)
      callWith pos f first (backTo pos (starEach args X.env)) (backToKw pos (keywordEach [] X.env)))) :
    wpAny (model X.prog X.w) X.A (eval (.Call (.Attribute e m apos) args [] pos) X.env) Q X.xe s := by
  refine PySem.W.methodCall_KW (pl := pl) (thn (he pins s σ H _ I h) fun u s1 ⟨x, H1, I1, rx, a, C, dx, fs, g, ex, ea, c, k, l, q⟩ => ?_) ht
  subst ex
  obtain rfl : u = Value.ref a := rx
  exact getmeth_ok I1 ea c k l (q s1 I1)
end

/-! ### isinstance -/
section
variable {X : Cx} {pins : List (Addr × Obj)} {σ : St} {H : Hp} {s : Shared} {A : Around} {E : Value → Shared → Prop} {Q : Value → Shared → Prop} {c : Value} {b : Bool}
/-- the type of a value, as the fragment's deciders take it; for an instance its class -/
inductive TyOf (K : PySem.W.Frag) (H : Hp) : V → Value → Prop where
  | non : TyOf K H .non (.type "NoneType")
  | bl (x : Bool) : TyOf K H (.bl x) (.type "bool")
  | int (i : Int) : TyOf K H (.int i) (.type "int")
  | str (x : Str) : TyOf K H (.str x) (.type "str")
  | flt (x : UInt64) : TyOf K H (.flt x) (.type "float")
  | lst {a : Addr} {xs : List V} (e : H a = some (.lst xs)) : TyOf K H (.ref a) (.type "list")
  | frz {a : Addr} {o : Obj} {xs : List V} (e : H a = some (.frz o (.lst xs))) : TyOf K H (.ref a) (.type "list")
  | tup {a : Addr} {xs : List V} (e : H a = some (.tup xs)) : TyOf K H (.ref a) (.type "tuple")
  | dK {a : Addr} {kvs : List (Key × V)} (e : H a = some (.dK kvs)) : TyOf K H (.ref a) (.type "dict")
  | dT {a : Addr} {kvs : List (List Key × V)} (e : H a = some (.dT kvs)) : TyOf K H (.ref a) (.type "dict")
  | ins {a C dx : Addr} {fs : List (Str × V)} (e : H a = some (.ins C dx fs)) (cl : Cls K C) (ha : PySem.W.findIn K (.ref C) "__class__" = some (some (.builtin "object.__class__")))
      (hn : PySem.W.specialIn K (.builtin "object.__class__") "__get__" = some (some (.builtin "getset_descriptor.__get__"))) (htk : PySem.W.takesIn K (.builtin "object.__class__") = some true)
      (hm : PySem.W.mroIn K C (.type "object") = some true) : TyOf K H (.ref a) (.ref C)
/-- isinstance(x, c) for one class c, a built-in or an own one: kitOne's answer -/
theorem isinst_ok {x : V} {u t : Value} (I : Inv X pins σ H s) (rx : RelV x u) (ty : TyOf X.K H x t) (e : PySem.W.kitOne X.K t c = some b) (h : ∀ tk, Q (.bool b) { s with toks := tk }) :
    wpAny (model X.prog X.w) A (call (.builtin "isinstance") [u, c]) Q E s := by
  cases ty with
  | non => cases (show u = Value.none from rx); exact PySem.W.kia_one PySem.W.kitx_none I.kIn True.intro e (fun z => nomatch z) h
  | bl y => cases (show u = Value.bool y from rx); exact PySem.W.kia_one PySem.W.kitx_bool I.kIn True.intro e (fun z => nomatch z) h
  | int i => obtain ⟨t, q⟩ := (show ∃ t, u = Value.int i t from rx); cases q; exact PySem.W.kia_one PySem.W.kitx_int I.kIn True.intro e (fun z => nomatch z) h
  | str y => obtain ⟨t, q⟩ := (show ∃ t, u = Value.str y t from rx); cases q; exact PySem.W.kia_one PySem.W.kitx_str I.kIn True.intro e (fun z => nomatch z) h
  | flt y => obtain ⟨t, q⟩ := (show ∃ t, u = Value.float y t from rx); cases q; exact PySem.W.kia_one PySem.W.kitx_float I.kIn True.intro e (fun z => nomatch z) h
  | @lst a xs ea =>
    cases (show u = Value.ref a from rx)
    obtain ⟨_, _, n, _, h1⟩ := (show ObjOk X.prog X.w H s.heap a (.lst xs) from I.hok a _ ea)
    exact PySem.W.kia_one PySem.W.kitx_list I.kIn ⟨_, h1, rfl⟩ e (fun z => nomatch z) h
  | @frz a ob xs ea =>
    cases (show u = Value.ref a from rx)
    obtain ⟨_, _, _, n, _, h1⟩ := (show ObjOk X.prog X.w H s.heap a (.frz ob (.lst xs)) from I.hok a _ ea)
    exact PySem.W.kia_one PySem.W.kitx_list I.kIn ⟨_, h1, rfl⟩ e (fun z => nomatch z) h
  | @tup a xs ea =>
    cases (show u = Value.ref a from rx)
    obtain ⟨_, _, _, p⟩ := (show ObjOk X.prog X.w H s.heap a (.tup xs) from I.hok a _ ea)
    obtain ⟨o, h1, h2, _⟩ := p
    exact PySem.W.kia_one PySem.W.kitx_tuple I.kIn ⟨o, h1, h2⟩ e (fun z => nomatch z) h
  | @dK a kvs ea =>
    cases (show u = Value.ref a from rx)
    obtain ⟨_, _, vs, _, p⟩ := (show ObjOk X.prog X.w H s.heap a (.dK kvs) from I.hok a _ ea)
    obtain ⟨o, es, ep, h1, h2, _⟩ := p
    exact PySem.W.kia_one PySem.W.kitx_dict I.kIn ⟨o, h1, h2.1⟩ e (fun z => nomatch z) h
  | @dT a kvs ea =>
    cases (show u = Value.ref a from rx)
    obtain ⟨_, _, xs, _, o, es, ep, h1, h2, _⟩ := (show ObjOk X.prog X.w H s.heap a (.dT kvs) from I.hok a _ ea)
    exact PySem.W.kia_one PySem.W.kitx_dict I.kIn ⟨o, h1, h2.1⟩ e (fun z => nomatch z) h
  | @ins a C dx fs ea cl ha hn htk hm =>
    cases (show u = Value.ref a from rx)
    obtain ⟨mA, O, _⟩ := ins_get I.hok ea
    obtain ⟨od, J, _⟩ := O.look
    exact PySem.W.kia_one (PySem.W.kitx_own (cl.get _) cl.hd ha hn htk hm) I.kIn J e (fun z => nomatch z) h
end
end L2

namespace L2
open PySem PySem.Spec PyProof.Rows

/-! ### room -/
structure Room (k : Nat) (A : Around) : Prop where
  hd : A.handled = none
  dp : A.depth + 3 * k + 5 < recursionLimit
  un : A.units + 16 * k + 200 < cLine
theorem Room.mono {j k : Nat} {A : Around} (r : Room k A) (h : j ≤ k) : Room j A := ⟨r.hd, by have := r.dp; omega, by have := r.un; omega⟩
theorem Room.deeper {k : Nat} {A : Around} (r : Room (k + 1) A) (env : Env) : Room k (A.deeper env) :=
  ⟨r.hd, by have := r.dp; show A.depth + 1 + 3 * k + 5 < _; omega, by have := r.un; show A.units + 3 + 16 * k + 200 < _; omega⟩
theorem Room.in1 {k : Nat} {A : Around} (r : Room (k + 1) A) : Room k A.in1 :=
  ⟨r.hd, by have := r.dp; show A.depth + 3 * k + 5 < _; omega, by have := r.un; show A.units + 1 + 16 * k + 200 < _; omega⟩
theorem make_depth {A : Around} {C : Addr} {us : List Value} {kw : List (Str × Value)} : (A.under (.builtin "type.__call__" ⟨.ref C :: us, kw⟩)).depth = A.depth + 1 := by
  first | rfl | simp [Around.under, Code.weight, Code.isCreation, Code.isGuard, Code.isCaller, Code.frames, Code.isFrame, guardIds]
theorem make_units {A : Around} {C : Addr} {us : List Value} {kw : List (Str × Value)} : (A.under (.builtin "type.__call__" ⟨.ref C :: us, kw⟩)).units = A.units + 1 := by
  first | rfl | simp [Around.under, Code.cUnits, Code.frames, Code.isFrame]
theorem Room.make {k : Nat} {A : Around} (r : Room (k + 1) A) (C : Addr) (us : List Value) (kw : List (Str × Value)) : Room k (A.under (.builtin "type.__call__" ⟨.ref C :: us, kw⟩)) :=
  ⟨r.hd, by have := r.dp; rw [make_depth]; omega, by have := r.un; rw [make_units]; omega⟩
theorem Room.depth {k : Nat} {A : Around} (r : Room k A) : A.depth < recursionLimit := by have := r.dp; omega
theorem Room.units {k : Nat} {A : Around} (r : Room k A) : A.units + 64 < cLine := by have := r.un; omega
theorem Room.units0 {k : Nat} {A : Around} (r : Room k A) : A.units < cLine := by have := r.un; omega

/-! ### argument lists and displays -/
def tNil : TA := fun _ H Q => Q [] H
def tCons (ta : TE) (tr : TA) : TA := fun σ H Q => ta σ H fun x H1 => tr σ H1 fun xs H2 => Q (x :: xs) H2
section
variable {X : Cx} {e : Expr} {es : List Expr} {te : TE} {t : TA} {pos : Pos}
theorem pa_nil : PA X [] tNil := fun _ _ _ _ H Q I h => Calls.spliced_nil ⟨[], H, I, .nil, h⟩
theorem pa_cons (ha : PE X e te) (hr : PA X es t) (hs : starEach (e :: es) X.env = (false, eval e X.env) :: starEach es X.env := by rfl) : PA X (e :: es) (tCons te t) := by
  intro pos pins s σ H Q I h
  rw [hs]
  show wpAny _ _ (spliced ((false, eval e X.env) :: backTo pos (starEach es X.env))) _ _ s
  refine Calls.spliced_cons (thn (ha pins s σ H _ I h) fun u s1 ⟨x, H1, I1, r1, q1⟩ => ?_)
  exact thn (hr pos pins s1 σ H1 _ I1 q1) fun us s2 ⟨xs, H2, I2, r2, q2⟩ => ⟨x :: xs, H2, I2, .cons r1 r2, q2⟩

/-- a tuple, a list of written items -/
def tTup (t : TA) : TE := fun σ H Q => t σ H fun xs H1 => xs.length ≤ sizeLine ∧ ∀ p, H1 p = none → Q (.ref p) (upd H1 p (.tup xs))
def tLst (t : TA) : TE := fun σ H Q => t σ H fun xs H1 => xs.length ≤ sizeLine ∧ ∀ p, H1 p = none → Q (.ref p) (upd H1 p (.lst xs))
theorem pe_tup {x1} (h : PA X es t) : PE X (.Tuple es x1 pos) (tTup t) := by
  intro pins s σ H Q I hq
  refine wpAny_Tuple_spliced (thn (h pos pins s σ H _ I hq) fun us s1 ⟨xs, H1, I1, r, z, q⟩ => ⟨by rw [← r.length]; exact z, ?_⟩)
  have hf : H1 s1.heap.objs.size = none := I1.hok.fresh (Nat.le_refl _)
  refine ⟨.ref s1.heap.objs.size, upd H1 s1.heap.objs.size (.tup xs), I1.laid (t' := s1.toks) (fun b u e => Heap.get?_push_of_some _ e) (Nat.le_refl _) ?_, rfl, q _ hf⟩
  exact ⟨z, us, r, ⟨_, Heap.get?_push_size _ rfl, rfl, _, rfl⟩⟩
theorem pe_lst (h : PA X es t) : PE X (.List es pos) (tLst t) := by
  intro pins s σ H Q I hq
  refine wpAny_List_spliced (thn (h pos pins s σ H _ I hq) fun us s1 ⟨xs, H1, I1, r, z, q⟩ => ⟨by rw [← r.length]; exact z, ?_⟩)
  have hf : H1 s1.heap.objs.size = none := I1.hok.fresh (Nat.le_refl _)
  refine ⟨.ref s1.heap.objs.size, upd H1 s1.heap.objs.size (.lst xs), I1.laid (t' := s1.toks) (fun b u e => Heap.get?_push_of_some _ e) (Nat.le_refl _) ?_, rfl, q _ hf⟩
  exact ⟨z, us, 0, r, Heap.get?_push_size _ rfl⟩
end

/-! ### what a def promises -/
/-- a def's promise: the bound arguments in the parameters' order, the heap, the wanted end, the wanted exception -/
abbrev Sp := List V → Hp → VK → XK → Prop
/-- how an exception lies behind a call (file 08 gives it): the callers' frames, abstract heap and state ahead of the call, the wish, the exception, the state -/
abbrev CXT := List Env → Hp → Shared → XK → Value → Shared → Prop

/-- the state at a call -/
structure Env0 (P : Program) (w : World) (K : PySem.W.Frag) (mg : Str → Option Value) (base : Heap) (A : Around) (outer : List Env) (s : Shared) (H : Hp) : Prop where
  frames : A.frames = some outer
  mod : Mod K mg base
  bs : ∀ b o, base.get? b = some o → s.heap.get? b = some o ∧ H b = none
  bsz : base.objs.size ≤ s.heap.objs.size
  funs : s.heap.FunFrames base outer
  frf : ∀ b ∈ frs outer, H b = none
  hok : HOk P w H s.heap
  bare : AllBare s.gens
/-- a call's end -/
def CE (outer : List Env) (P : Program) (w : World) (H : Hp) (s : Shared) (Q : VK) (u : Value) (s' : Shared) : Prop :=
  ∃ v H', s'.os = s.os ∧ AllBare s'.gens ∧ Un (frs outer) [] H H' s.heap s'.heap ∧ HOk P w H' s'.heap ∧ RelV v u ∧ Q v H'
def CR (CX : CXT) (outer : List Env) (P : Program) (w : World) (H : Hp) (s : Shared) (Q : VK) (E : XK) (r : Result) (s' : Shared) : Prop :=
  match r with
  | .ok (.ret u) => CE outer P w H s Q u s'
  | .ok _ => False
  | .error e => CX outer H s E e s'
structure FnOk (P : Program) (w : World) (K : PySem.W.Frag) (mg : Str → Option Value) (base : Heap) (CX : CXT) (k : Nat) (f : Addr) (fd : FuncData) (ps : List Str) (sp : Sp) : Prop where
  len : ∀ vs H Q E, sp vs H Q E → vs.length = ps.length
  run : ∀ (A : Around) (outer : List Env) (s : Shared) (H : Hp) (args : Args) (us : List Value) (vs : List V) (Q : VK) (E : XK), Room k A → Env0 P w K mg base A outer s H → BindsTo s fd args (ps.zip us) → Vals vs us → sp vs H Q E →
    codeAny (model P w) A (.call (.ref f) args) (CR CX outer P w H s Q E) s
theorem FnOk.mono {P : Program} {w : World} {K : PySem.W.Frag} {mg : Str → Option Value} {base : Heap} {CX : CXT} {j k : Nat} {f : Addr} {fd : FuncData} {ps : List Str} {sp : Sp} (F : FnOk P w K mg base CX j f fd ps sp) (h : j ≤ k) :
    FnOk P w K mg base CX k f fd ps sp := ⟨F.len, fun A outer s H args us vs Q E hr => F.run A outer s H args us vs Q E (hr.mono h)⟩
/-- a weaker promise -/
theorem FnOk.imp {P : Program} {w : World} {K : PySem.W.Frag} {mg : Str → Option Value} {base : Heap} {CX : CXT} {k : Nat} {f : Addr} {fd : FuncData} {ps : List Str} {sp sp' : Sp} (F : FnOk P w K mg base CX k f fd ps sp)
    (h : ∀ vs H Q E, sp' vs H Q E → sp vs H Q E) : FnOk P w K mg base CX k f fd ps sp' :=
  ⟨fun vs H Q E q => F.len vs H Q E (h _ _ _ _ q), fun A outer s H args us vs Q E hr he hb hv hs => F.run A outer s H args us vs Q E hr he hb hv (h _ _ _ _ hs)⟩

theorem Env0.make {P : Program} {w : World} {K : PySem.W.Frag} {mg : Str → Option Value} {base : Heap} {A : Around} {outer : List Env} {s : Shared} {H : Hp} (e : Env0 P w K mg base A outer s H) (C : Addr) (us : List Value) (kw : List (Str × Value)) :
    Env0 P w K mg base (A.under (.builtin "type.__call__" ⟨.ref C :: us, kw⟩)) outer s H := ⟨by first | exact e.frames | (simpa [Around.under, Code.envs, Code.isFrame, pushEnvs] using e.frames), e.mod, e.bs, e.bsz, e.funs, e.frf, e.hok, e.bare⟩
theorem Env0.in1 {P : Program} {w : World} {K : PySem.W.Frag} {mg : Str → Option Value} {base : Heap} {A : Around} {outer : List Env} {s : Shared} {H : Hp} (e : Env0 P w K mg base A outer s H) :
    Env0 P w K mg base A.in1 outer s H := ⟨e.frames, e.mod, e.bs, e.bsz, e.funs, e.frf, e.hok, e.bare⟩

section
variable {X : Cx} {pins : List (Addr × Obj)} {σ : St} {H : Hp} {s s' : Shared}
/-- from a body: what a callee wants -/
theorem Inv.env0 (I : Inv X pins σ H s) : Env0 X.prog X.w X.K X.mg X.base X.A X.stack s H :=
  ⟨I.ok.frames, I.ok.mod, I.bs, Nat.le_trans I.ok.bsz I.sz, I.stack, I.stkFree, I.hok, I.bare⟩
/-- behind a call -/
theorem Inv.after {Q : VK} {u : Value} (I : Inv X pins σ H s) (h : CE X.stack X.prog X.w H s Q u s') : EP X pins σ Q u s' := by
  obtain ⟨v, H', os, bare, un, hok, r, q⟩ := h
  obtain ⟨hh, g, d, t, os'⟩ := s'
  obtain rfl : os' = s.os := os
  exact ⟨v, H', I.call (h' := hh) (g' := g) (d' := d) (t' := t) (ch := []) un hok bare (fun b z => absurd z (by simp)), r, q⟩
end

/-! ### calls -/
/-- f(..): the written arguments, then the defaults dvs; E: what is wanted of an exception -/
def tCall (sp : Sp) (dvs : List V) (E : XK) (t : TA) : TE := fun σ H Q => t σ H fun vs H1 => sp (vs ++ dvs) H1 Q E
/-- o.m(..) of an instance of the class at C -/
def tMeth (C : Addr) (m : Str) (sp : Sp) (dvs : List V) (E : XK) (ta : TE) (t : TA) : TE := fun σ H Q => ta σ H fun x H1 => ∃ a dx fs, x = .ref a ∧ H1 a = some (.ins C dx fs) ∧ fs.lookup m = none ∧
  t σ H1 fun vs H2 => sp (x :: (vs ++ dvs)) H2 Q E
/-- C(..): a new instance and its dict, then __init__ -/
def tMake (C : Addr) (sp : Sp) (dvs : List V) (E : XK) (t : TA) : TE := fun σ H Q => t σ H fun vs H1 => ∀ x dx, H1 x = none → H1 dx = none → dx ≠ x →
  sp (.ref x :: (vs ++ dvs)) (upd (upd H1 dx (.own x)) x (.ins C dx [])) (fun v H2 => v = .non ∧ Q (.ref x) H2) E

/-- how the parameters are bound: us the positional arguments, kw the keywords' values by name, ds the defaults that fill up -/
def Binds (K : PySem.W.Frag) (fd : FuncData) (ps : List Str) (ds : List Value) : Prop :=
  ∀ (s : Shared) (us : List Value), K.In s.heap → (us ++ ds).length = ps.length → BindsTo s fd ⟨us, []⟩ (ps.zip (us ++ ds))
/-- every parameter is given -/
theorem Binds.all {K : PySem.W.Frag} {fd : FuncData} {ps : List Str} (h : ∀ us : List Value, us.length = ps.length → bindArgs fd ⟨us, []⟩ = pure (ps.zip us)) : Binds K fd ps [] := fun s us _ hl => by
  rw [List.append_nil] at hl ⊢
  exact .of_eq (h us hl)

/-- an exception of a callee reaches what this body wants of exceptions -/
def Passes (CX : CXT) (X : Cx) (E : XK) : Prop := ∀ (pins : List (Addr × Obj)) (σ : St) (H : Hp) (s : Shared) (e : Value) (s' : Shared), Inv X pins σ H s → CX X.stack H s E e s' → X.xe e s'

section
variable {X : Cx} {CX : CXT} {k : Nat} {f C : Addr} {fd : FuncData} {ps : List Str} {sp : Sp} {dvs : List V} {ds : List Value} {E : XK} {x m : Str} {p pos apos : Pos} {e o : Expr} {es : List Expr} {ta : TE} {t : TA}

/-- the callee runs -/
theorem run_fn {pins : List (Addr × Obj)} {σ : St} {H : Hp} {s : Shared} {Q : VK} {us : List Value} {vs : List V} (F : FnOk X.prog X.w X.K X.mg X.base CX k f fd ps sp) (hr : Room k X.A) (hb : Binds X.K fd ps ds) (hd : Vals dvs ds) (hx : Passes CX X E)
    (I : Inv X pins σ H s) (r : Vals vs us) (h : sp (vs ++ dvs) H Q E) : wpAny (model X.prog X.w) X.A (call (.ref f) us) (EP X pins σ Q) X.xe s := by
  have r2 : Vals (vs ++ dvs) (us ++ ds) := r.append hd
  have hl : (us ++ ds).length = ps.length := by rw [← r2.length]; exact F.len _ _ _ _ h
  refine wpAny_call (codeAny_mono (F.run X.A X.stack s H ⟨us, []⟩ (us ++ ds) (vs ++ dvs) Q E hr I.env0 (hb s us I.kIn hl) r2 h) fun r s' hq => ?_)
  cases r with
  | error e => exact hx pins σ H s e s' I hq
  | ok fl =>
    cases fl with
    | ret u => exact I.after hq
    | next => exact False.elim hq
    | brk => exact False.elim hq
    | cont => exact False.elim hq

theorem pe_call (F : FnOk X.prog X.w X.K X.mg X.base CX k f fd ps sp) (hr : Room k X.A) (hg : Gl X x) (hm : X.mg x = some (.ref f)) (hk : PySem.W.keepIn X.K (.ref f) = true) (hb : Binds X.K fd ps ds) (hd : Vals dvs ds) (hx : Passes CX X E)
    (ha : PA X (e :: es) t) (hdb : (x == ("__debug__" : Str)) = false := by decide) (he : starEach (e :: es) X.env = (false, eval e X.env) :: starEach es X.env := by rfl) (hpl : (backTo pos (starEach es X.env)).any (·.1) = false := by rfl) :
    PE X (.Call (.Name x p) (e :: es) [] pos) (tCall sp dvs E t) := by
  intro pins s σ H Q I h
  refine wpAny_Call_Name_kw (ld_glob I hg hm ?_ hdb)
  refine PySem.W.callWith_K (h₀ := X.base) I.ok.mod.kin hk (thn (ha pos pins s σ H _ I h) fun us s1 ⟨vs, H1, I1, r, q⟩ => ⟨I1.kIn, ?_⟩) he hpl
  exact run_fn F hr hb hd hx I1 r q
theorem pe_call0 (F : FnOk X.prog X.w X.K X.mg X.base CX k f fd ps sp) (hr : Room k X.A) (hg : Gl X x) (hm : X.mg x = some (.ref f)) (hk : PySem.W.keepIn X.K (.ref f) = true) (hb : Binds X.K fd ps ds) (hd : Vals dvs ds) (hx : Passes CX X E)
    (hdb : (x == ("__debug__" : Str)) = false := by decide) : PE X (.Call (.Name x p) [] [] pos) (tCall sp dvs E tNil) := by
  intro pins s σ H Q I h
  refine wpAny_Call_Name_kw (ld_glob I hg hm ?_ hdb)
  exact PySem.W.callWith_K0 I.kIn hk (run_fn (us := []) F hr hb hd hx I .nil h)

/-- o.m(e, ..) -/
theorem pe_meth {pl : Sem Bool} (he : PE X o ta) (c : Cls X.K C) (hm : Meth X.K C m f) (F : FnOk X.prog X.w X.K X.mg X.base CX k f fd ps sp) (hr : Room k X.A) (hb : Binds X.K fd ps ds) (hd : Vals dvs ds) (hx : Passes CX X E) (ha : PA X (e :: es) t)
    (hst : starEach (e :: es) X.env = (false, eval e X.env) :: starEach es X.env := by rfl) (hpl : (backTo pos (starEach es X.env)).any (·.1) = false := by rfl)
    (ht : eval (.Call (.Attribute o m apos) (e :: es) [] pos) X.env = (do
      let ov ← eval o X.env
      standAt apos.atName
      let (f, first) ← holding [ov] (getMethod ov m pl)
      callWith pos f first (backTo pos (starEach (e :: es) X.env)) (backToKw pos (keywordEach [] X.env))) := by rfl) :
    PE X (.Call (.Attribute o m apos) (e :: es) [] pos) (tMeth C m sp dvs E ta t) := by
  intro pins s σ H Q I h
  refine PySem.W.methodCall_KW (pl := pl) (thn (he pins s σ H _ I h) fun u s1 ⟨x, H1, I1, rx, a, dx, fs, ex, ea, l, q⟩ => ?_) ht
  subst ex
  obtain rfl : u = Value.ref a := rx
  refine getmeth_ok I1 ea c hm l ?_
  refine PySem.W.callWith_K (first := [.ref a]) (h₀ := X.base) I.ok.mod.kin hm.kp (thn (ha pos pins s1 σ H1 _ I1 q) fun us s2 ⟨vs, H2, I2, r, q2⟩ => ⟨I2.kIn, ?_⟩) hst hpl
  exact run_fn (us := .ref a :: us) (vs := .ref a :: vs) F hr hb hd hx I2 (.cons rfl r) q2
/-- o.m() -/
theorem pe_meth0 {pl : Sem Bool} (he : PE X o ta) (c : Cls X.K C) (hm : Meth X.K C m f) (F : FnOk X.prog X.w X.K X.mg X.base CX k f fd ps sp) (hr : Room k X.A) (hb : Binds X.K fd ps ds) (hd : Vals dvs ds) (hx : Passes CX X E)
    (ht : eval (.Call (.Attribute o m apos) [] [] pos) X.env = (do
      let ov ← eval o X.env
      standAt apos.atName
      let (f, first) ← holding [ov] (getMethod ov m pl)
      callWith pos f first (backTo pos (starEach [] X.env)) (backToKw pos (keywordEach [] X.env))) := by rfl) :
    PE X (.Call (.Attribute o m apos) [] [] pos) (tMeth C m sp dvs E ta tNil) := by
  intro pins s σ H Q I h
  refine PySem.W.methodCall_KW (pl := pl) (thn (he pins s σ H _ I h) fun u s1 ⟨x, H1, I1, rx, a, dx, fs, ex, ea, l, q⟩ => ?_) ht
  subst ex
  obtain rfl : u = Value.ref a := rx
  refine getmeth_ok I1 ea c hm l ?_
  exact PySem.W.callWith_K0 (first := [.ref a]) I1.kIn hm.kp (run_fn (us := [.ref a]) (vs := [.ref a]) F hr hb hd hx I1 (.cons rfl .nil) q)

/-- what a class must have to be made -/
structure Mk (K : PySem.W.Frag) (C f : Addr) : Prop where
  makes : PySem.W.makesIn K C = true
  init : PySem.W.findIn K (.ref C) "__init__" = some (some (.ref f))
  fn : PySem.W.isFn K (.ref f) = true
  kp : PySem.W.keepIn K (.ref C) = true

theorem run_make {pins : List (Addr × Obj)} {σ : St} {H : Hp} {s : Shared} {Q : VK} {us : List Value} {vs : List V} (M : Mk X.K C f) (F : FnOk X.prog X.w X.K X.mg X.base CX k f fd ps sp) (hr : Room (k + 1) X.A) (hb : Binds X.K fd ps ds) (hd : Vals dvs ds)
    (hx : Passes CX X E) (I : Inv X pins σ H s) (r : Vals vs us)
    (h : ∀ x dx, H x = none → H dx = none → dx ≠ x → sp (.ref x :: (vs ++ dvs)) (upd (upd H dx (.own x)) x (.ins C dx [])) (fun v H2 => v = .non ∧ Q (.ref x) H2) E) :
    wpAny (model X.prog X.w) X.A (call (.ref C) us) (EP X pins σ Q) X.xe s := by
  have hq := h (s.heap.objs.size + 1) s.heap.objs.size (I.hok.fresh (Nat.le_succ _)) (I.hok.fresh (Nat.le_refl _)) (Nat.ne_of_lt (Nat.lt_succ_self _))
  have I2 := Inv.made (C := C) I
  have r2 : Vals (V.ref (s.heap.objs.size + 1) :: (vs ++ dvs)) (Value.ref (s.heap.objs.size + 1) :: (us ++ ds)) := .cons rfl (r.append hd)
  have hl : (Value.ref (s.heap.objs.size + 1) :: us ++ ds).length = ps.length := by
    have e := r2.length
    rw [F.len _ _ _ _ hq] at e
    exact e.symm
  refine wpAny_call (make_map (f := f) I.kIn M.makes M.init (beq_iff_eq.mp M.fn) (codeAny_mono (F.run _ X.stack _ _ ⟨Value.ref (s.heap.objs.size + 1) :: us, []⟩ (Value.ref (s.heap.objs.size + 1) :: (us ++ ds)) _ _ E (hr.make C us [])
    (I2.env0.make C us []) (hb _ (Value.ref (s.heap.objs.size + 1) :: us) I2.kIn hl) r2 hq) fun r s' hq' => ?_))
  cases r with
  | error e => exact hx pins σ _ _ e s' I2 hq'
  | ok fl =>
    cases fl with
    | ret u =>
      obtain ⟨v, H', I3, rv, ev, q3⟩ := I2.after hq'
      subst ev
      exact ⟨rv, ⟨V.ref (s.heap.objs.size + 1), H', I3, rfl, q3⟩⟩
    | next => exact False.elim hq'
    | brk => exact False.elim hq'
    | cont => exact False.elim hq'
theorem pe_make (M : Mk X.K C f) (F : FnOk X.prog X.w X.K X.mg X.base CX k f fd ps sp) (hr : Room (k + 1) X.A) (hg : Gl X x) (hm : X.mg x = some (.ref C)) (hb : Binds X.K fd ps ds) (hd : Vals dvs ds) (hx : Passes CX X E)
    (ha : PA X (e :: es) t) (hdb : (x == ("__debug__" : Str)) = false := by decide) (he : starEach (e :: es) X.env = (false, eval e X.env) :: starEach es X.env := by rfl) (hpl : (backTo pos (starEach es X.env)).any (·.1) = false := by rfl) :
    PE X (.Call (.Name x p) (e :: es) [] pos) (tMake C sp dvs E t) := by
  intro pins s σ H Q I h
  refine wpAny_Call_Name_kw (ld_glob I hg hm ?_ hdb)
  refine PySem.W.callWith_K (h₀ := X.base) I.ok.mod.kin M.kp (thn (ha pos pins s σ H _ I h) fun us s1 ⟨vs, H1, I1, r, q⟩ => ⟨I1.kIn, ?_⟩) he hpl
  exact run_make M F hr hb hd hx I1 r q
theorem pe_make0 (M : Mk X.K C f) (F : FnOk X.prog X.w X.K X.mg X.base CX k f fd ps sp) (hr : Room (k + 1) X.A) (hg : Gl X x) (hm : X.mg x = some (.ref C)) (hb : Binds X.K fd ps ds) (hd : Vals dvs ds) (hx : Passes CX X E)
    (hdb : (x == ("__debug__" : Str)) = false := by decide) : PE X (.Call (.Name x p) [] [] pos) (tMake C sp dvs E tNil) := by
  intro pins s σ H Q I h
  refine wpAny_Call_Name_kw (ld_glob I hg hm ?_ hdb)
  exact PySem.W.callWith_K0 I.kIn M.kp (run_make (us := []) M F hr hb hd hx I .nil h)
end

/-! ### keywords -/
/-- the values of the keywords, from the left -/
def PK (X : Cx) (kws : List Keyword) (t : TA) : Prop :=
  ∀ (pos : Pos) (pins : List (Addr × Obj)) (s : Shared) (σ : St) (H : Hp) (Q : List V → Hp → Prop), Inv X pins σ H s → t σ H Q → wpAny (model X.prog X.w) X.A (evalAll ((backToKw pos (keywordEach kws X.env)).map (·.2))) (AP X pins σ Q) X.xe s
section
variable {X : Cx} {CX : CXT} {k : Nat} {f C : Addr} {fd : FuncData} {ps ks : List Str} {sp : Sp} {E : XK} {x m : Str} {p pos apos kpos : Pos} {e o : Expr} {es : List Expr} {kws : List Keyword} {te ta : TE} {t tk : TA} {nm : Option Str}
theorem pk_nil : PK X [] tNil := fun _ _ _ _ H Q I h => wpAny_evalAll_nil ⟨[], H, I, .nil, h⟩
theorem pk_cons (ha : PE X e te) (hr : PK X kws t) : PK X (⟨nm, e, kpos⟩ :: kws) (tCons te t) := by
  intro pos pins s σ H Q I h
  show wpAny _ _ (evalAll ((do let v ← eval e X.env; standAt pos; pure v) :: (backToKw pos (keywordEach kws X.env)).map (·.2))) _ _ s
  refine wpAny_evalAll_cons (wpAny_bind (thn (ha pins s σ H _ I h) fun u s1 ⟨x, H1, I1, r1, q1⟩ => wpAny_bind (wpAny_standAt (wpAny_pure ?_))))
  exact thn (hr pos pins s1 σ H1 _ I1 q1) fun us s2 ⟨xs, H2, I2, r2, q2⟩ => ⟨x :: xs, H2, I2, .cons r1 r2, q2⟩

/-- how a call with keywords binds: g puts the positional values us and the keywords' values ws (names ks) in the parameters' order, defaults among them -/
structure KBinds (K : PySem.W.Frag) (fd : FuncData) (ps ks : List Str) (g : List Value → List Value → List Value) (gV : List V → List V → List V) : Prop where
  to : ∀ (s : Shared) (us ws : List Value), K.In s.heap → (g us ws).length = ps.length → BindsTo s fd ⟨us, ks.zip ws⟩ (ps.zip (g us ws))
  rel : ∀ {vs : List V} {us : List Value} {zs : List V} {ws : List Value}, Vals vs us → Vals zs ws → Vals (gV vs zs) (g us ws)
def tCallK (sp : Sp) (gV : List V → List V → List V) (E : XK) (t tk : TA) : TE := fun σ H Q => t σ H fun vs H1 => tk σ H1 fun zs H2 => sp (gV vs zs) H2 Q E
variable {g : List Value → List Value → List Value} {gV : List V → List V → List V}
theorem run_fnk {pins : List (Addr × Obj)} {σ : St} {H : Hp} {s : Shared} {Q : VK} {us ws : List Value} {vs zs : List V} (F : FnOk X.prog X.w X.K X.mg X.base CX k f fd ps sp) (hr : Room k X.A) (hb : KBinds X.K fd ps ks g gV) (hx : Passes CX X E)
    (I : Inv X pins σ H s) (r : Vals vs us) (rz : Vals zs ws) (h : sp (gV vs zs) H Q E) : wpAny (model X.prog X.w) X.A (call (.ref f) us (ks.zip ws)) (EP X pins σ Q) X.xe s := by
  have r2 := hb.rel r rz
  have hl : (g us ws).length = ps.length := by rw [← r2.length]; exact F.len _ _ _ _ h
  refine wpAny_call (codeAny_mono (F.run X.A X.stack s H ⟨us, ks.zip ws⟩ (g us ws) (gV vs zs) Q E hr I.env0 (hb.to s us ws I.kIn hl) r2 h) fun r s' hq => ?_)
  cases r with
  | error e => exact hx pins σ H s e s' I hq
  | ok fl =>
    cases fl with
    | ret u => exact I.after hq
    | next => exact False.elim hq
    | brk => exact False.elim hq
    | cont => exact False.elim hq
/-- f(e, .., k = v, ..) -/
theorem pe_callK (F : FnOk X.prog X.w X.K X.mg X.base CX k f fd ps sp) (hr : Room k X.A) (hg : Gl X x) (hm : X.mg x = some (.ref f)) (hk : PySem.W.keepIn X.K (.ref f) = true) (hb : KBinds X.K fd ps ks g gV) (hx : Passes CX X E)
    (ha : PA X (e :: es) t) (hkw : PK X kws tk) (hall : (backToKw pos (keywordEach kws X.env)).all (·.1.isSome) = true := by rfl) (hks : (backToKw pos (keywordEach kws X.env)).filterMap (·.1) = ks := by rfl)
    (hdb : (x == ("__debug__" : Str)) = false := by decide) (he : starEach (e :: es) X.env = (false, eval e X.env) :: starEach es X.env := by rfl)
    (hpl : ((backTo pos (starEach (e :: es) X.env)).any (·.1) || (backToKw pos (keywordEach kws X.env)).any (·.1.isNone)) = false := by rfl) :
    PE X (.Call (.Name x p) (e :: es) kws pos) (tCallK sp gV E t tk) := by
  intro pins s σ H Q I h
  refine wpAny_Call_Name_kw (ld_glob I hg hm ?_ hdb)
  refine PySem.W.callWith_KW (h₀ := X.base) I.ok.mod.kin hk hall (thn (ha pos pins s σ H _ I h) fun us s1 ⟨vs, H1, I1, r, q⟩ => ?_) hpl he
  refine thn (hkw pos pins s1 σ H1 _ I1 q) fun ws s2 ⟨zs, H2, I2, rz, q2⟩ => ⟨I2.kIn, ?_⟩
  rw [hks]
  exact run_fnk F hr hb hx I2 r rz q2
end

/-! ### a def's body keeps its promise -/
/-- names: the parameters first -/
structure FnScope (N P : List Str) (sc : Scope) : Prop where
  kind : sc.kind = .function
  co : sc.isCoroutine = false
  gen : sc.isGenerator = false
  nd : N.Nodup
  pre : N.take P.length = P
  par : ∀ x ∈ P, sc.names.lookup x = some .local ∨ sc.names.lookup x = some .cell
  nofree : ∀ y ∈ sc.names, y.2 ≠ .free

theorem bindL_out {kindOf : Str → Option NameKind} {x : Str} : ∀ {binds : List (Str × Value)} {m : Str → Option Value}, (∀ v, (x, v) ∉ binds) → bindL kindOf binds m x = m x
  | [], _, _ => rfl
  | (n, v) :: r, m, h => by
    unfold bindL
    rw [bindL_out fun w hw => h w (List.mem_cons_of_mem _ hw)]
    split
    · have : x ≠ n := by rintro rfl; exact h v List.mem_cons_self
      simp [this]
    · rfl
theorem bindC_out {kindOf : Str → Option NameKind} {x : Str} : ∀ {binds : List (Str × Value)} {m : Str → Option Value}, (∀ v, (x, v) ∉ binds) → bindC kindOf binds m x = m x
  | [], _, _ => rfl
  | (n, v) :: r, m, h => by
    unfold bindC
    rw [bindC_out fun w hw => h w (List.mem_cons_of_mem _ hw)]
    split
    · rfl
    · have : x ≠ n := by rintro rfl; exact h v List.mem_cons_self
      simp [this]
theorem bindL_get {kindOf : Str → Option NameKind} {x : Str} {v : Value} : ∀ {P : List Str} {vs : List Value} {i : Nat} {m : Str → Option Value}, P.Nodup → P[i]? = some x → vs[i]? = some v → kindOf x = some .local →
    bindL kindOf (P.zip vs) m x = some v
  | [], _, _, _, _, h, _, _ => by simp at h
  | _ :: _, [], _, _, _, _, h, _ => by simp at h
  | p :: P, w :: vs, 0, m, nd, h1, h2, hk => by
    simp at h1 h2; subst h1; subst h2
    show bindL kindOf ((p, w) :: P.zip vs) m p = _
    unfold bindL
    rw [bindL_out fun v hv => (List.nodup_cons.mp nd).1 (List.of_mem_zip hv).1, if_pos hk]
    simp
  | p :: P, w :: vs, i + 1, m, nd, h1, h2, hk => by
    show bindL kindOf ((p, w) :: P.zip vs) m x = _
    unfold bindL
    exact bindL_get (i := i) (List.nodup_cons.mp nd).2 (by simpa using h1) (by simpa using h2) hk
theorem bindC_get {kindOf : Str → Option NameKind} {x : Str} {v : Value} : ∀ {P : List Str} {vs : List Value} {i : Nat} {m : Str → Option Value}, P.Nodup → P[i]? = some x → vs[i]? = some v → kindOf x ≠ some .local →
    bindC kindOf (P.zip vs) m x = some v
  | [], _, _, _, _, h, _, _ => by simp at h
  | _ :: _, [], _, _, _, _, h, _ => by simp at h
  | p :: P, w :: vs, 0, m, nd, h1, h2, hk => by
    simp at h1 h2; subst h1; subst h2
    show bindC kindOf ((p, w) :: P.zip vs) m p = _
    unfold bindC
    rw [bindC_out fun v hv => (List.nodup_cons.mp nd).1 (List.of_mem_zip hv).1, if_neg hk]
    simp
  | p :: P, w :: vs, i + 1, m, nd, h1, h2, hk => by
    show bindC kindOf ((p, w) :: P.zip vs) m x = _
    unfold bindC
    exact bindC_get (i := i) (List.nodup_cons.mp nd).2 (by simpa using h1) (by simpa using h2) hk

/-- the names' values at the entry -/
def start (N : List Str) (vs : List V) : St := vs.map some ++ List.replicate (N.length - vs.length) none

/-- the context of a def's body, at its entry; an exception leaves the frame, then lies as CX says -/
def cxOf (CX : CXT) (P : Program) (w : World) (K : PySem.W.Frag) (mg : Str → Option Value) (base : Heap) (N : List Str) (qual : Str) (scope : Scope) (f : Addr) (cd : Value) (A : Around) (outer : List Env) (s : Shared) (H : Hp) (E : XK) : Cx where
  prog := P
  w := w
  K := K
  mg := mg
  base := base
  A := A.deeper (envOfC qual scope s.heap.objs.size f cd)
  N := N
  s₀ := s
  H₀ := H
  env := envOfC qual scope s.heap.objs.size f cd
  outer := outer
  stack := envOfC qual scope s.heap.objs.size f cd :: outer
  ex := []
  calm := true
  fn := fun _ => true
  pn := []
  xe := fun e s' => wpAny (model P w) (A.deeper (envOfC qual scope s.heap.objs.size f cd)) (leaving (envOfC qual scope s.heap.objs.size f cd) e) (fun _ s'' => CX outer H s E e s'') (fun e' s'' => CX outer H s E e' s'') s'

theorem cell_has {sc : Scope} {n : Nat} {x : Str} (h : sc.names.lookup x = some .cell) : ∃ c, (cellsFrom n sc.names []).lookup x = some c := by
  have q := PySem.W.cellsFrom_some sc.names n [] (.inl h)
  exact Option.isSome_iff_exists.mp q

theorem inv_start {CX : CXT} {P : Program} {w : World} {K : PySem.W.Frag} {mg : Str → Option Value} {base : Heap} {N ps : List Str} {qual : Str} {scope : Scope} {f : Addr} {cd : Value} {A : Around} {outer : List Env} {s s1 : Shared} {H : Hp} {E : XK} {us : List Value} {vs : List V}
    (S : FnScope N ps scope) (hd : A.handled = none) (e0 : Env0 P w K mg base A outer s H) (hl : vs.length = ps.length) (r : Vals vs us)
    (x : InCallC s s.heap.objs.size (bindL (envOfC qual scope s.heap.objs.size f cd).kindOf (ps.zip us) fun _ => none) (cellsFrom (s.heap.objs.size + 1) scope.names []) (bindC (envOfC qual scope s.heap.objs.size f cd).kindOf (ps.zip us) fun _ => none) s1) :
    Inv (cxOf CX P w K mg base N qual scope f cd A outer s H E) [] (start N vs) H s1 := by
  have hpl : ps.length ≤ N.length := by have := congrArg List.length S.pre; rw [List.length_take] at this; omega
  obtain ⟨h1, tk, rfl, hk⟩ := x.done
  have noA : ∀ b : Addr, b ∉ (cxOf CX P w K mg base N qual scope f cd A outer s H E).ex := fun b z => absurd (show b ∈ ([] : List Addr) from z) (by simp)
  refine ⟨⟨e0.mod, S.kind, rfl, rfl, Nat.le_refl _, fun y z c h1 h2 => ?_, fun y hy => ?_, fun y c _ h => ?_, fun _ => hd, Around.frames_deeper e0.frames, .inr ⟨rfl, rfl⟩, fun b z => absurd z (noA b), e0.bs, e0.bsz, fun b _ _ => noA b, fun b z => absurd z (noA b), e0.funs, e0.frf⟩,
    rfl, e0.bare, Un.kept hk, ⟨_, x.toInCall.ns, fun i y v h1 h2 h3 => ?_⟩, fun y c h => ⟨_, x.cell y c h⟩, e0.hok.fresh (Nat.le_refl _), fun y c h => ?_, fun p hp => absurd (show p ∈ ([] : List (Addr × Obj)) from hp) (by simp), e0.hok.kept hk, ?_⟩
  · exact name_of_addr x.apart (PySem.mem_of_lookup h1) (PySem.mem_of_lookup h2)
  · have hy : scope.names.lookup y = some .cell ∨ scope.names.lookup y = some .free := hy
    rcases hy with hy | hy
    · exact cell_has hy
    · exact absurd rfl (S.nofree _ (PySem.mem_of_lookup hy))
  · exact Nat.le_of_lt (x.above y c (PySem.mem_of_lookup h))
  · have hi : i < vs.length := by
      unfold start at h2
      by_cases hi : i < vs.length
      · exact hi
      · rw [List.getElem?_append_right (by simpa using hi)] at h2
        rw [List.getElem?_replicate] at h2
        split at h2 <;> cases h2
    have ha : vs[i]? = some v := by
      unfold start at h2
      rw [List.getElem?_append_left (by simpa using hi), List.getElem?_map] at h2
      cases e : vs[i]? with
      | none => rw [e] at h2; cases h2
      | some a => rw [e] at h2; cases h2; rfl
    obtain ⟨u, hu, rv⟩ := r.get ha
    have hp : ps[i]? = some y := by
      rw [← S.pre, List.getElem?_take_of_lt (by omega)]; exact h1
    have ndP : ps.Nodup := by rw [← S.pre]; exact S.nd.sublist (List.take_sublist _ _)
    refine ⟨u, rv, ?_⟩
    rcases S.par y (List.mem_of_getElem? hp) with k | k
    · exact .inl ⟨k, bindL_get ndP hp hu k⟩
    · obtain ⟨c, e⟩ := cell_has (n := s.heap.objs.size + 1) k
      refine .inr ⟨.inl k, c, e, ?_⟩
      have q := x.cell y c e
      rw [bindC_get ndP hp hu (by show scope.names.lookup y ≠ _; rw [k]; decide)] at q
      exact q
  · exact e0.hok.fresh (Nat.le_of_lt (x.above y c (PySem.mem_of_lookup h)))
  · unfold start
    show _ = N.length
    rw [List.length_append, List.length_map, List.length_replicate]
    omega

/-- THE RULE: a def (or a method) of the text, by its body. The body's reading t is chosen for each entry; it is run at the parameters' values -/
theorem fn_of {CX : CXT} {P : Program} {w : World} {K : PySem.W.Frag} {mg : Str → Option Value} {base : Heap} {k : Nat} {f : Addr} {name qual : Str} {params : Arguments} {body : List Stmt} {scope : Scope} {dV kV doc pm cdv ct oc : Value} {an od : Option Addr}
    {osl : Array (Option Value)} {N ps : List Str} {sp : Sp} (lk : K.lookup f = some ⟨oc, od, .func (PySem.W.fnOf name qual params body scope dV kV doc pm an cdv ct), osl⟩) (hcd : PySem.W.codeIn K cdv qual = true) (S : FnScope N ps scope)
    (len : ∀ vs H Q E, sp vs H Q E → vs.length = ps.length)
    (hbody : ∀ (A : Around) (outer : List Env) (s : Shared) (H : Hp) (vs : List V) (Q : VK) (E : XK), Room k (A.deeper (envOfC qual scope s.heap.objs.size f cdv)) → sp vs H Q E →
      ∃ t, PSs (cxOf CX P w K mg base N qual scope f cdv A outer s H E) body t ∧ t { nx := fun _ H' => Q .non H', rt := Q } (start N vs) H) :
    FnOk P w K mg base CX (k + 1) f (PySem.W.fnOf name qual params body scope dV kV doc pm an cdv ct) ps sp := by
  refine ⟨len, fun A outer s H args us vs Q E hr e0 hb r hsp => ?_⟩
  have hl := len _ _ _ _ hsp
  have KX : K.In s.heap := e0.mod.kin.keeps fun b o e => (e0.bs b o e).1
  have lim : s.heap.NoLimit := e0.mod.nolimit.keeps fun b o e => (e0.bs b o e).1
  have hkind : ∀ y ∈ ps.zip us, scope.names.lookup y.1 = some .local ∨ (scope.names.lookup y.1 = some .cell ∧ ((cellsFrom (s.heap.objs.size + 1) scope.names []).lookup y.1).isSome = true) := fun ⟨n, v⟩ hy => by
    rcases S.par n (List.of_mem_zip hy).1 with q | q
    · exact .inl q
    · exact .inr ⟨q, PySem.W.cellsFrom_some _ _ _ (.inl q)⟩
  refine codeAny_call_function hr.depth (KX _ _ lk) rfl S.co S.gen rfl (PySem.W.codeRec_of KX hcd) (hb _ _ _ _ ?_)
  refine wpAny_newFunctionEnv_cells S.kind hkind fun env he s1 x => ?_
  subst he
  refine ⟨lim.keeps x.toInCall.keep, codeAny_func ?_⟩
  obtain ⟨t, ht, hq⟩ := hbody A outer s H vs Q E (hr.deeper _) hsp
  have I : Inv (cxOf CX P w K mg base N qual scope f cdv A outer s H E) [] (start N vs) H s1 := inv_start S hr.hd e0 hl r x
  refine wpAny_mono (ht [] s1 (start N vs) H _ I hq) (fun fl s' hs => ?_) fun e s' hs => hs
  have fin : ∀ {σ' : St} {H' : Hp} {v : V} {u : Value}, Inv (cxOf CX P w K mg base N qual scope f cdv A outer s H E) [] σ' H' s' → RelV v u → Q v H' → CE outer P w H s Q u s' :=
    fun {σ' H' v u} J rv q => ⟨v, H', J.os, J.bare, J.base, J.hok, rv, q⟩
  cases fl with
  | ret u =>
    obtain ⟨v, σ', H', J, rv, q⟩ := hs
    exact fin J rv q
  | next =>
    obtain ⟨σ', H', J, q⟩ := hs
    exact fin (v := V.non) (u := Value.none) J rfl q
  | brk =>
    obtain ⟨_, _, _, q⟩ := hs
    exact False.elim q
  | cont =>
    obtain ⟨_, _, _, q⟩ := hs
    exact False.elim q
end L2

namespace L2
open PySem PySem.Spec PyProof.Rows
section
variable {X : Cx} {x : Str} {p pos : Pos} {e : Expr} {es : List Expr} {t : TA} {id T : String} {r : List V → Hp → VK → Prop}

def tCB (r : List V → Hp → VK → Prop) (t : TA) : TE := fun σ H Q => t σ H fun vs H1 => r vs H1 Q
/-- f(e, ..), f a built-in function -/
theorem pe_callB (hc : CallR X (.builtin id) r) (hg : Gl X x) (hm : X.mg x = none) (hv : bootBuiltins x = some (.builtin id)) (ha : PA X (e :: es) t) (hn : x ≠ "__name__" := by decide) (hdb : (x == ("__debug__" : Str)) = false := by decide)
    (he : starEach (e :: es) X.env = (false, eval e X.env) :: starEach es X.env := by rfl) (hpl : (backTo pos (starEach es X.env)).any (·.1) = false := by rfl) : PE X (.Call (.Name x p) (e :: es) [] pos) (tCB r t) := by
  intro pins s σ H Q I h
  refine wpAny_Call_Name_kw (ld_blt I hg hm hv ?_ hn hdb)
  exact PyProof.Rows.callWith_builtin1 (thn (ha pos pins s σ H _ I h) fun us s1 ⟨vs, H1, I1, r1, q1⟩ => hc pins s1 σ H1 vs us Q I1 r1 q1) he hpl
/-- T(e, ..), T a built-in type -/
theorem pe_callTy (hc : CallR X (.type T) r) (hg : Gl X x) (hm : X.mg x = none) (hv : bootBuiltins x = some (.type T)) (ha : PA X (e :: es) t) (hn : x ≠ "__name__" := by decide) (hdb : (x == ("__debug__" : Str)) = false := by decide)
    (he : starEach (e :: es) X.env = (false, eval e X.env) :: starEach es X.env := by rfl) (hpl : (backTo pos (starEach es X.env)).any (·.1) = false := by rfl) : PE X (.Call (.Name x p) (e :: es) [] pos) (tCB r t) := by
  intro pins s σ H Q I h
  refine wpAny_Call_Name_kw (ld_blt I hg hm hv ?_ hn hdb)
  exact PyProof.Rows.callWith_type1 (thn (ha pos pins s σ H _ I h) fun us s1 ⟨vs, H1, I1, r1, q1⟩ => hc pins s1 σ H1 vs us Q I1 r1 q1) he hpl
/-- T() -/
theorem pe_callTy0 (hc : CallR X (.type T) r) (hg : Gl X x) (hm : X.mg x = none) (hv : bootBuiltins x = some (.type T)) (hn : x ≠ "__name__" := by decide) (hdb : (x == ("__debug__" : Str)) = false := by decide) :
    PE X (.Call (.Name x p) [] [] pos) (tCB r tNil) := by
  intro pins s σ H Q I h
  refine wpAny_Call_Name_kw (ld_blt I hg hm hv ?_ hn hdb)
  exact PyProof.Rows.callWith_type0 (hc pins s σ H [] [] Q I .nil h)
end
end L2

namespace HT
open PySem PyProof.Rows

/-- t < u of tuples of ints -/
def lexLt : List Int → List Int → Bool
  | [], [] => false
  | [], _ :: _ => true
  | _ :: _, [] => false
  | x :: xs, y :: ys => if x = y then lexLt xs ys else decide (x < y)
theorem lexLt_cons (x y : Int) (xs ys : List Int) : lexLt (x :: xs) (y :: ys) = if x = y then lexLt xs ys else decide (x < y) := rfl
theorem lexLt_nil_nil : lexLt [] [] = false := rfl
theorem lexLt_nil_cons (y : Int) (ys : List Int) : lexLt [] (y :: ys) = true := rfl
theorem lexLt_cons_nil (x : Int) (xs : List Int) : lexLt (x :: xs) [] = false := rfl

theorem eqAt_int (A : Around) (s : Shared) (a : Int) (t : Tok) (c : Int) (u : Tok) : ∃ e, SeqAt.EqAt A s (.int a t) (.int c u) e ∧ (e = true ↔ a = c) :=
  ⟨(a == c), SeqAt.EqAt.int_int a t c u, by simp⟩
theorem rcLt_int (A : Around) (s : Shared) (a : Int) (t : Tok) (c : Int) (u : Tok) (prog : Program) (w : World) (E : Value → Shared → Prop) (Q : Value → Shared → Prop) (h : Q (.bool (decide (a < c))) s) :
    wpAny (model prog w) A (richCompare .Lt (.int a t) (.int c u)) Q E s :=
  (PyProof.Rows.lt_int h : wpAny (model prog w) A (compareOp .Lt (.int a t) (.int c u)) Q E s)

section
open PySem.SeqAt
open PySem.AutoSeq1 (wpAny_loadPart')
open PySem.MeetsSeq PySem.MeetsSeq2 PySem.MeetsSeq3

theorem tuple_lt_ints (l b : Addr) (items items2 : Array Value) (n n2 : Nat) (dd dd2 : Option Addr) (sl sl2 : Array (Option Value)) (ns ms : List Int) (hi : IntsAre items.toList ns) (hj : IntsAre items2.toList ms) :
    Meets (Builtin.«tuple.__lt__» ⟨[.ref l, .ref b], []⟩)
      (fun _ R s => s.heap.get? l = some { cls := .type "tuple", dict := dd, data := .seq items n, slots := sl } ∧ s.heap.get? b = some { cls := .type "tuple", dict := dd2, data := .seq items2 n2, slots := sl2 } ∧
        R (.ok (.ret (.bool (lexLt ns ms)))) s) :=
  .of_wp fun prog w A R s h => by
    obtain ⟨hp, g, d, tk, os⟩ := s; obtain ⟨hl, hb, h⟩ := h
    have f2 := AutoSeq1.sub_tuple_tuple
    have z1 : items.size = ns.length := by rw [← hi.length]; simp
    have z2 : items2.size = ms.length := by rw [← hj.length]; simp
    wp_walk using wpAny_loadPart' hl, wpAny_loadPart' hb, wpAny_forIn_list _ (fun rest b s' => b.1 = none ∧ s' = ⟨hp, g, d, tk, os⟩ ∧ ∃ (vs ws : List Value) (ns' ms' : List Int), rest = vs.zip ws ∧
      IntsAre vs ns' ∧ IntsAre ws ms' ∧ ns'.length + items2.size = ms'.length + items.size ∧ R (.ok (.ret (.bool (lexLt ns' ms')))) ⟨hp, g, d, tk, os⟩) _
    case turn =>
      rintro ⟨y, x⟩ rest b s' ⟨hb', rfl, vs, ws, ns', ms', hz, hvi, hwi, hlen, hR⟩
      cases hvi with
      | nil => rw [List.zip_nil_left] at hz; cases hz
      | cons a t hvi' =>
        cases hwi with
        | nil => rw [List.zip_nil_right] at hz; cases hz
        | cons c u hwi' =>
          rw [List.zip_cons_cons] at hz
          injection hz with hyx hrest
          injection hyx with hy hx
          subst hy hx
          rw [lexLt_cons] at hR
          simp only [List.length_cons] at hlen
          obtain ⟨e, he, hiff⟩ := eqAt_int A.in1 ⟨hp, g, d, tk, os⟩ a t c u
          refine wpAny_bind (he prog w _ _ ?_)
          cases e with
          | true =>
            rw [if_pos (hiff.mp rfl)] at hR
            wp_walk
            exact ⟨rfl, rfl, _, _, _, _, hrest, hvi', hwi', by omega, hR⟩
          | false =>
            rw [if_neg (fun q => absurd (hiff.mpr q) Bool.false_ne_true)] at hR
            have hri := rcLt_int A.in1 ⟨hp, g, d, tk, os⟩ a t c u prog w
            wp_walk using hri
            exact ⟨_, rfl, by simpa using hR⟩
    case fin =>
      rintro ⟨b1, b2⟩ s' ⟨hb', rfl, vs, ws, ns', ms', hz, hvi, hwi, hlen, hR⟩
      simp only at hb'
      subst hb'
      have hv : lexLt ns' ms' = decide (items.size < items2.size) := by
        cases hvi with
        | nil =>
          cases hwi with
          | nil =>
            simp only [List.length_nil] at hlen
            rw [lexLt_nil_nil]
            exact (decide_eq_false (by omega)).symm
          | cons c u hw =>
            simp only [List.length_nil, List.length_cons] at hlen
            rw [lexLt_nil_cons]
            exact (decide_eq_true (by omega)).symm
        | cons a t hv =>
          cases hwi with
          | nil =>
            simp only [List.length_nil, List.length_cons] at hlen
            rw [lexLt_cons_nil]
            exact (decide_eq_false (by omega)).symm
          | cons c u hw =>
            rw [List.zip_cons_cons] at hz
            cases hz
      rw [hv] at hR
      wp_walk
      exact ⟨_, rfl, by simpa [Builtin.Tuple.tupleCompareSizes] using hR⟩
    case h =>
      exact ⟨rfl, rfl, items.toList, items2.toList, ns, ms, rfl, hi, hj, by omega, h⟩
end

section
variable {prog : Program} {w : World} {A : Around} {E : Value → Shared → Prop} {s : Shared}

theorem lt_tupInts {l b : Addr} {items items2 : Array Value} {ns ms : List Int} {Q : Value → Shared → Prop} (hl : IsTup s.heap l items) (hb : IsTup s.heap b items2) (hi : IntsAre items.toList ns) (hj : IntsAre items2.toList ms)
    (hu : A.units < cLine) (h : Q (.bool (lexLt ns ms)) s) : wpAny (model prog w) A (compareOp .Lt (.ref l) (.ref b)) Q E s := by
  obtain ⟨⟨cls, dd, data, sl⟩, ho, hc, n, hd⟩ := id hl
  obtain ⟨⟨cls2, dd2, data2, sl2⟩, ho2, hc2, n2, hd2⟩ := id hb
  simp only at hc hd hc2 hd2
  subst hc hd hc2 hd2
  exact richCompare_meets_room (op := .Lt) ⟨_, ho, rfl⟩ ⟨_, ho2, rfl⟩ PySem.F.slot_tuple_lt PySem.F.entry_tuple_lt (PySem.F.args_tuple_lt_2 _ _) (tuple_lt_ints l b items items2 n n2 dd dd2 sl sl2 ns ms hi hj)
    ⟨ho, ho2, show Value.bool (lexLt ns ms) ≠ Value.notImplemented ∧ Q (.bool (lexLt ns ms)) s from ⟨(fun x => nomatch x), h⟩⟩ hu

/-- t + u, t not empty -/
theorem cat_tup {t b : Addr} {vs ws : List Value} {Q : Value → Shared → Prop} (ht : IsTup s.heap t vs.toArray) (hb : IsTup s.heap b ws.toArray) (hv : vs ≠ [])
    (h1 : ws = [] → Q (.ref t) s) (h2 : ws ≠ [] → Q (.ref s.heap.objs.size) { s with heap := s.heap.push { cls := .type "tuple", data := .seq (vs ++ ws).toArray } })
    (hsz : vs.length + ws.length ≤ sizeLine) : wpAny (model prog w) A (binaryOp .Add (.ref t) (.ref b)) Q E s := by
  obtain ⟨⟨cls, dd, data, sl⟩, ho, hc, n, hd⟩ := id ht
  obtain ⟨⟨cls2, dd2, data2, sl2⟩, ho2, hc2, n2, hd2⟩ := id hb
  simp only at hc hd hc2 hd2
  subst hc hd hc2 hd2
  have e : vs.toArray ++ ws.toArray = (vs ++ ws).toArray := by simp
  by_cases hw : ws = []
  · exact concat_meets ⟨_, ho, rfl⟩ ⟨_, ho2, rfl⟩ noFill_tuple_add seq_tuple_add PySem.F.slot_tuple_add PySem.F.entry_tuple_add (PySem.F.args_tuple_add_2 _ _)
      (tuple_addW1 t b vs.toArray ws.toArray n n2 dd dd2 sl sl2 (by simpa using hv) (by simp [hw])) ⟨ho, ho2, h1 hw⟩
  · refine concat_meets ⟨_, ho, rfl⟩ ⟨_, ho2, rfl⟩ noFill_tuple_add seq_tuple_add PySem.F.slot_tuple_add PySem.F.entry_tuple_add (PySem.F.args_tuple_add_2 _ _)
      (tuple_addW2 t b vs.toArray ws.toArray n n2 dd dd2 sl sl2 (by simpa using hv) (by simpa using hw) (by rw [List.size_toArray, List.size_toArray]; exact hsz)) ⟨ho, ho2, ?_⟩
    rw [e]
    exact h2 hw

/-! ### t[a:b], not the whole -/
/-- a slice's bound as a place among n (d where it is left out) -/
def sIx (n d : Nat) : Option Int → Nat
  | none => d
  | some v => if v < 0 then (v + (n : Int)).toNat else min v.toNat n
theorem sIx_none (n d : Nat) : sIx n d none = d := rfl
theorem sIx_nat (n d k : Nat) : sIx n d (some (k : Int)) = min k n := by
  show (if (k : Int) < 0 then ((k : Int) + (n : Int)).toNat else min (k : Int).toNat n) = min k n
  rw [if_neg (by omega), Int.toNat_natCast]
theorem sIx_le (n d : Nat) (hd : d ≤ n) (o : Option Int) : sIx n d o ≤ n := by
  cases o with
  | none => exact hd
  | some v =>
    show (if v < 0 then (v + (n : Int)).toNat else min v.toNat n) ≤ n
    by_cases hv : v < 0
    · rw [if_pos hv]; omega
    · rw [if_neg hv]; exact Nat.min_le_right _ _
theorem clip_eq (v : Int) (n d : Nat) : (if v < 0 then max (v + (n : Int)) 0 else min v (n : Int)) = ((sIx n d (some v) : Nat) : Int) := by
  show (if v < 0 then max (v + (n : Int)) 0 else min v (n : Int)) = (((if v < 0 then (v + (n : Int)).toNat else min v.toNat n) : Nat) : Int)
  by_cases hv : v < 0
  · simp only [if_pos hv]; omega
  · simp only [if_neg hv]; omega
theorem adjust_gen (lo hi : Option Int) (n : Nat) : Builtin.Slice.sliceAdjust lo hi 1 (n : Int) = (((sIx n 0 lo : Nat) : Int), ((sIx n n hi : Nat) : Int)) := by
  have h1 : ¬ ((1 : Int) < 0) := by omega
  unfold Builtin.Slice.sliceAdjust
  simp only [h1, if_false]
  refine Prod.ext ?_ ?_
  · cases lo with
    | none => rfl
    | some v => exact clip_eq v n 0
  · cases hi with
    | none => rfl
    | some v => exact clip_eq v n n
theorem places_gen (i j : Nat) : Builtin.Slice.slicePlaces (i : Int) (j : Int) 1 = j - i := by
  unfold Builtin.Slice.slicePlaces
  have h1 : (1 : Int) > 0 := by omega
  simp only [h1, if_true, Int.ediv_one]
  split <;> omega
theorem slicePart_ {v : Value} {o : Option Int} {Q : Option Int → Shared → Prop} (p : IsPart v o) (h : Q o s) : wpAny (model prog w) A (Builtin.Slice.slicePartIndex v) Q E s := by
  cases p with
  | none => exact slicePart_none h
  | int i t => exact slicePart_int h
theorem sliceApplied_gen {sl : Addr} {vl vu : Value} {lo hi : Option Int} {n : Nat} {Q : Int × Int × Nat → Shared → Prop} (hs : s.heap.IsSliceOf sl vl vu .none) (pl : IsPart vl lo) (pu : IsPart vu hi)
    (h : Q (((sIx n 0 lo : Nat) : Int), 1, sIx n n hi - sIx n 0 lo) s) : wpAny (model prog w) A (Builtin.Slice.sliceApplied (.ref sl) (pure (n : Int))) Q E s := by
  obtain ⟨os, hos, hcs, hds⟩ := id hs
  unfold Builtin.Slice.sliceApplied Builtin.Slice.sliceFields
  refine wpAny_bind (wpAny_bind (wpAny_field hos hds (x := vl) rfl (wpAny_bind (wpAny_field hos hds (x := vu) rfl (wpAny_bind (wpAny_field hos hds (x := .none) rfl (wpAny_pure ?_)))))))
  refine wpAny_bind (slicePart_none ?_)
  show wpAny _ _ (if ((1 : Int) == 0) = true then _ else _) _ _ s
  rw [if_neg (by decide)]
  refine wpAny_bind (slicePart_ pl (wpAny_bind (slicePart_ pu (wpAny_bind (wpAny_pure ?_)))))
  show wpAny _ _ (match Builtin.Slice.sliceAdjust lo hi 1 (n : Int) with | (lo, hi) => pure (lo, (1 : Int), Builtin.Slice.slicePlaces lo hi 1)) _ _ s
  rw [adjust_gen lo hi n]
  show wpAny _ _ (pure (((sIx n 0 lo : Nat) : Int), (1 : Int), Builtin.Slice.slicePlaces ((sIx n 0 lo : Nat) : Int) ((sIx n n hi : Nat) : Int) 1)) _ _ s
  rw [places_gen]
  exact wpAny_pure h
theorem pick_gen (xs : Array Value) (i k : Nat) : ((List.range k).filterMap fun (m : Nat) => xs[((i : Int) + (m : Int) * 1).toNat]?).toArray = ((xs.toList.drop i).take k).toArray := by
  have e : (fun (m : Nat) => xs[((i : Int) + (m : Int) * 1).toNat]?) = fun m => xs[i + m]? := by
    funext m
    have : ((i : Int) + (m : Int) * 1).toNat = i + m := by omega
    rw [this]
  rw [e]
  have := pick_run xs i k
  rw [List.filterMap_map] at this
  have e2 : ((fun x => xs[x]?) ∘ fun x => i + x) = fun m => xs[i + m]? := rfl
  rw [e2] at this
  rw [this]

theorem getItem_tuple_cut {t sl : Addr} {items : Array Value} {vl vu : Value} {lo hi : Option Int} {Q : Value → Shared → Prop} (ht : IsTup s.heap t items) (hs : s.heap.IsSliceOf sl vl vu .none) (pl : IsPart vl lo) (pu : IsPart vu hi)
    (hw : ¬ (sIx items.size 0 lo = 0 ∧ sIx items.size items.size hi = items.size))
    (h : Q (.ref s.heap.objs.size) { s with heap := s.heap.push { cls := .type "tuple", data := .seq ((items.toList.drop (sIx items.size 0 lo)).take (sIx items.size items.size hi - sIx items.size 0 lo)).toArray } })
    (hsz : items.size ≤ sizeLine) : wpAny (model prog w) A (getItem (.ref t) (.ref sl)) Q E s := by
  have htake : sizeOk (.seq ((items.toList.drop (sIx items.size 0 lo)).take (sIx items.size items.size hi - sIx items.size 0 lo)).toArray) := by
    show ((items.toList.drop (sIx items.size 0 lo)).take (sIx items.size items.size hi - sIx items.size 0 lo)).toArray.size ≤ sizeLine
    rw [List.size_toArray, List.length_take, List.length_drop, Array.length_toList]
    omega
  have hj : sIx items.size items.size hi ≤ items.size := sIx_le _ _ (Nat.le_refl _) hi
  obtain ⟨os, hos, hcs, hds⟩ := id hs
  have hTs : s.TypeIs (.ref sl) "slice" := ⟨os, hos, hcs⟩
  unfold getItem
  try with_reducible refine wpAny_holding ?_
  first | refine wpAny_bind (wpAny_pure ?_) | skip
  refine wpAny_bind (wpAny_sequenceKey ht.typeIs (by decide) ?_)
  refine wpAny_bind (wpAny_callSpecial?_slot (name := Str.ofString "__getitem__") ht.typeIs PyProof.Rows.slot_tuple_getitem
    (wpAny_call_entry PyProof.Rows.slot_tuple_getitem ht.typeIs entry_tuple_getitem ?_ (args_tuple_getitem _ _)))
  show wpAny _ _ (Builtin.Tuple.tupleItemsOf (.ref t) >>= _) _ _ s
  refine wpAny_bind (tupleItemsOf_ ht ?_)
  refine wpAny_bind (wpAny_typeOf hTs ?_)
  rw [if_pos (by decide)]
  refine wpAny_bind (sliceApplied_gen hs pl pu ?_)
  have hno : ¬ ((((sIx items.size 0 lo : Nat) : Int) == 0 && (1 : Int) == 1 && (sIx items.size items.size hi - sIx items.size 0 lo) == items.size) = true) := by
    intro q
    rw [Bool.and_eq_true, Bool.and_eq_true] at q
    have q1 : ((sIx items.size 0 lo : Nat) : Int) = 0 := eq_of_beq q.1.1
    have q2 : sIx items.size items.size hi - sIx items.size 0 lo = items.size := eq_of_beq q.2
    exact hw ⟨by omega, by omega⟩
  show wpAny _ _ (if (((sIx items.size 0 lo : Nat) : Int) == 0 && (1 : Int) == 1 && (sIx items.size items.size hi - sIx items.size 0 lo) == items.size) = true then _ else _) _ _ s
  rw [if_neg hno, pick_gen]
  first
    | exact wpAny_bind (m := Builtin.Tuple.tupleExact _) (wpAny_newObj_type (wpAny_pure ⟨_, rfl, wpAny_pure h⟩) htake)
    | exact wpAny_bind (m := Builtin.Tuple.tupleExact _) (wpAny_newObj_type (wpAny_bind (wpAny_pure (wpAny_pure ⟨_, rfl, wpAny_pure h⟩))) htake)
    | exact wpAny_bind (wpAny_bind (m := Builtin.Tuple.tupleExact _) (wpAny_newObj_type (wpAny_pure (wpAny_pure ⟨_, rfl, wpAny_pure h⟩)) htake))
    | exact wpAny_bind (wpAny_bind (m := Builtin.Tuple.tupleExact _) (wpAny_newObj_type (wpAny_pure ⟨_, rfl, wpAny_pure h⟩) htake))
end
end HT

namespace L2
open PySem PySem.Spec PyProof.Rows

/-! ### the parts of a slice -/
abbrev TO := St → Hp → (Option Int → Hp → Prop) → Prop
/-- a slice's part (left out, or an int) -/
def PO (X : Cx) (e : Option Expr) (t : TO) : Prop :=
  ∀ (pins : List (Addr × Obj)) (s : Shared) (σ : St) (H : Hp) (Q : Option Int → Hp → Prop), Inv X pins σ H s → t σ H Q →
    wpAny (model X.prog X.w) X.A (evalPart e X.env) (fun u s' => ∃ o H', Inv X pins σ H' s' ∧ IsPart u o ∧ Q o H') X.xe s
def tNoPart : TO := fun _ H Q => Q none H
def tPart (t : TE) : TO := fun σ H Q => t σ H fun x H1 => ∃ i, x = .int i ∧ Q (some i) H1

theorem intsAre_of {ns : List Int} : ∀ {us : List Value}, Vals (ns.map V.int) us → IntsAre us ns := by
  induction ns with
  | nil => intro us r; rw [List.map_nil] at r; cases r; exact .nil
  | cons n ns ih =>
    intro us r
    rw [List.map_cons] at r
    cases r with
    | cons r1 r2 =>
      obtain ⟨t, e⟩ := r1
      subst e
      exact .cons n t (ih r2)

section
variable {X : Cx} {e : Expr} {te : TE} {lo hi : Option Expr} {tl th : TO} {pos p2 : Pos}

theorem po_none : PO X none tNoPart := by
  intro pins s σ H Q I h
  rw [evalPart_none]
  exact wpAny_pure ⟨none, H, I, .none, h⟩
theorem po_some (h : PE X e te) : PO X (some e) (tPart te) := by
  intro pins s σ H Q I hw
  rw [evalPart_some]
  refine thn (h pins s σ H _ I hw) fun u s1 ⟨x, H1, I1, r1, q1⟩ => ?_
  obtain ⟨i, rfl, q⟩ := q1
  obtain ⟨t, rfl⟩ := r1
  exact ⟨some i, H1, I1, .int i t, q⟩

/-- what a slice of a value is, by values: the slice object stands at sl -/
def SlR (X : Cx) (r : V → Option Int → Option Int → Hp → VK → Prop) : Prop :=
  ∀ (pins : List (Addr × Obj)) (s : Shared) (σ : St) (H : Hp) (x : V) (v vl vu : Value) (lo hi : Option Int) (sl : Addr) (Q : VK), Inv X pins σ H s → RelV x v → s.heap.IsSliceOf sl vl vu .none → IsPart vl lo → IsPart vu hi → r x lo hi H Q →
    ∃ T id, typeLookup (.type T) "__getitem__" = pure (some (.builtin id)) ∧ s.TypeIs v T ∧ wpAny (model X.prog X.w) X.A (getItem v (.ref sl)) (EP X pins σ Q) X.xe s
theorem SlR.or {r r' : V → Option Int → Option Int → Hp → VK → Prop} (h : SlR X r) (h' : SlR X r') : SlR X (fun x lo hi H Q => r x lo hi H Q ∨ r' x lo hi H Q) := by
  intro pins s σ H x v vl vu lo hi sl Q I rx hs pl pu q
  rcases q with q | q
  · exact h pins s σ H x v vl vu lo hi sl Q I rx hs pl pu q
  · exact h' pins s σ H x v vl vu lo hi sl Q I rx hs pl pu q
def tSl (r : V → Option Int → Option Int → Hp → VK → Prop) (te : TE) (tl th : TO) : TE := fun σ H Q => te σ H fun x H1 => tl σ H1 fun l H2 => th σ H2 fun u H3 => r x l u H3 Q
/-- a[lo:hi], any a -/
theorem pe_slice {r : V → Option Int → Option Int → Hp → VK → Prop} (hr : SlR X r) (he : PE X e te) (hl : PO X lo tl) (hu : PO X hi th) : PE X (.Subscript e (.Slice lo hi none p2) pos) (tSl r te tl th) := by
  intro pins s σ H Q I h
  refine Subscript_ (thn (he pins s σ H _ I h) fun v s1 ⟨x, H1, I1, r1, q1⟩ => ?_)
  refine wpAny_Slice (thn (hl pins s1 σ H1 _ I1 q1) fun vl s2 ⟨l, H2, I2, pl, q2⟩ => thn (hu pins s2 σ H2 _ I2 q2) fun vu s3 ⟨u, H3, I3, pu, q3⟩ => ?_)
  rw [evalPart_none]
  refine wpAny_pure ?_
  have I4 : Inv X pins σ H3 { s3 with heap := s3.heap.push { cls := .type "slice", data := .fields #[vl, vu, .none] } } := I3.kept (t' := s3.toks) fun b ob q => Heap.get?_push_of_some _ q
  obtain ⟨T, id, hT, ht, hg⟩ := hr pins { s3 with heap := s3.heap.push { cls := .type "slice", data := .fields #[vl, vu, .none] } } σ H3 x v vl vu l u s3.heap.objs.size Q I4 r1 (Heap.IsSliceOf.new ..) pl pu q3
  show wpAny (model X.prog X.w) X.A (subscriptTail e (.Slice lo hi none p2) v (.ref s3.heap.objs.size)) (EP X pins σ Q) X.xe { s3 with heap := s3.heap.push { cls := .type "slice", data := .fields #[vl, vu, .none] } }
  exact tail_any (ops := [.ref s3.heap.objs.size, v]) ht hT hg (by with_unfolding_all rfl)

/-- the items of xs[lo:hi] -/
def cutV (xs : List V) (lo hi : Option Int) : List V := (xs.drop (HT.sIx xs.length 0 lo)).take (HT.sIx xs.length xs.length hi - HT.sIx xs.length 0 lo)
theorem cutV_length (xs : List V) (lo hi : Option Int) : (cutV xs lo hi).length ≤ xs.length := by
  unfold cutV
  rw [List.length_take, List.length_drop]
  omega
/-- t[lo:hi], not the whole of it (the whole would be t itself) -/
def rSlT (K : PySem.W.Frag) : V → Option Int → Option Int → Hp → VK → Prop := fun x lo hi H Q => ∃ a xs, x = .ref a ∧ SqT K H a xs ∧
  ¬ (HT.sIx xs.length 0 lo = 0 ∧ HT.sIx xs.length xs.length hi = xs.length) ∧ ∀ p, H p = none → Q (.ref p) (upd H p (.tup (cutV xs lo hi)))
theorem sl_tup : SlR X (rSlT X.K) := by
  intro pins s σ H x v vl vu lo hi sl Q I rx hs pl pu h
  obtain ⟨a, xs, rfl, hx, hw, q⟩ := h
  cases rx
  obtain ⟨its, r, ht, hz⟩ := I.tuple hx
  have hlen : its.toArray.size = xs.length := by rw [List.size_toArray]; exact r.length.symm
  refine ⟨"tuple", _, PyProof.Rows.slot_tuple_getitem.lookup, ht.typeIs, ?_⟩
  refine HT.getItem_tuple_cut ht hs pl pu (by rw [hlen]; exact hw) ?_ (by rw [hlen]; exact hz)
  rw [hlen]
  refine ⟨.ref s.heap.objs.size, _, I.laid (t' := s.toks) (o := .tup (cutV xs lo hi)) (fun b ob q => Heap.get?_push_of_some _ q) (Nat.le_refl _) ?_, rfl, q _ (I.hok.fresh (Nat.le_refl _))⟩
  exact ⟨Nat.le_trans (cutV_length xs lo hi) hz, _, (r.drop (HT.sIx xs.length 0 lo)).take (HT.sIx xs.length xs.length hi - HT.sIx xs.length 0 lo), IsTup.new _ _⟩

/-! ### t < u, t + u -/
def rLtT (K : PySem.W.Frag) : R2 := fun x y H Q => ∃ a b ns ms, x = .ref a ∧ y = .ref b ∧ SqT K H a (ns.map V.int) ∧ SqT K H b (ms.map V.int) ∧ Q (.bl (HT.lexLt ns ms)) H
theorem op_ltT (hu : X.A.units < cLine) : OpR X (compareOp .Lt) (rLtT X.K) := by
  intro pins s σ H x y v u Q I rx ry h
  obtain ⟨a, b, ns, ms, rfl, rfl, ha, hb, q⟩ := h
  cases rx
  cases ry
  obtain ⟨its, r1, p1, _⟩ := I.tuple ha
  obtain ⟨its2, r2, p2, _⟩ := I.tuple hb
  have i1 : IntsAre its.toArray.toList ns := intsAre_of r1
  have i2 : IntsAre its2.toArray.toList ms := intsAre_of r2
  exact HT.lt_tupInts p1 p2 i1 i2 hu ⟨.bl (HT.lexLt ns ms), H, I, rfl, q⟩
/-- t + u, t not empty: u empty gives t itself -/
def rCatT (K : PySem.W.Frag) : R2 := fun x y H Q => ∃ a b xs ys, x = .ref a ∧ y = .ref b ∧ SqT K H a xs ∧ SqT K H b ys ∧ xs ≠ [] ∧ xs.length + ys.length ≤ sizeLine ∧
  (ys = [] → Q (.ref a) H) ∧ (ys ≠ [] → ∀ p, H p = none → Q (.ref p) (upd H p (.tup (xs ++ ys))))
theorem Vals.nil_iff {xs : List V} {us : List Value} (r : Vals xs us) : us = [] ↔ xs = [] := by
  cases r with
  | nil => simp
  | cons _ _ => simp
theorem op_catT : OpR X (binaryOp .Add) (rCatT X.K) := by
  intro pins s σ H x y v u Q I rx ry h
  obtain ⟨a, b, xs, ys, rfl, rfl, ha, hb, hx, hz, q1, q2⟩ := h
  cases rx
  cases ry
  obtain ⟨its, r1, p1, _⟩ := I.tuple ha
  obtain ⟨its2, r2, p2, _⟩ := I.tuple hb
  refine HT.cat_tup p1 p2 (fun z => hx (r1.nil_iff.mp z)) (fun z => ⟨.ref a, H, I, rfl, q1 (r2.nil_iff.mp z)⟩) (fun z => ?_) (by rw [← r1.length, ← r2.length]; exact hz)
  refine ⟨.ref s.heap.objs.size, _, I.laid (t' := s.toks) (o := .tup (xs ++ ys)) (fun b ob q => Heap.get?_push_of_some _ q) (Nat.le_refl _) ?_, rfl, q2 (fun w => z (r2.nil_iff.mpr w)) _ (I.hok.fresh (Nat.le_refl _))⟩
  exact ⟨by rw [List.length_append]; exact hz, _, r1.append r2, IsTup.new _ _⟩
/-- tuple(t) -/
theorem call_tupleT : CallR X (.type "tuple") (fun xs H Q => ∃ a ys, xs = [.ref a] ∧ SqT X.K H a ys ∧ Q (.ref a) H) := by
  intro pins s σ H xs us Q I r h
  obtain ⟨a, ys, rfl, ha, q⟩ := h
  obtain ⟨u, rfl, ru⟩ := vals1 r
  cases ru
  obtain ⟨its, _, p1, _⟩ := I.tuple ha
  exact call_tuple_same (items := its.toArray) p1 ⟨.ref a, H, I, rfl, q⟩
end
end L2

namespace L2
open PySem PySem.Spec PyProof.Rows

/-! ### places -/
/-- the place that an index of any sign means -/
def ixN (n : Nat) (i : Int) : Option Nat := if 0 ≤ i then (if i < n then some i.toNat else none) else if -(n : Int) ≤ i then some (i + n).toNat else none
def atI {α : Type} (xs : List α) (i : Int) : Option α := (ixN xs.length i).bind fun j => xs[j]?
theorem ixN_seq {n : Nat} {i : Int} {j : Nat} (h : ixN n i = some j) : seqIndex? i n = some j ∧ j < n ∧ -(n : Int) ≤ i ∧ i < n := by
  unfold ixN at h
  by_cases h0 : 0 ≤ i
  · rw [if_pos h0] at h
    by_cases h1 : i < n
    · rw [if_pos h1] at h
      have e : i.toNat = j := Option.some.inj h
      exact ⟨by rw [seqIndex_of h0 h1, e], by omega, by omega, h1⟩
    · rw [if_neg h1] at h; cases h
  · rw [if_neg h0] at h
    by_cases h1 : -(n : Int) ≤ i
    · rw [if_pos h1] at h
      have e : (i + n).toNat = j := Option.some.inj h
      exact ⟨by rw [seqIndex_neg (by omega) h1, e], by omega, h1, by omega⟩
    · rw [if_neg h1] at h; cases h
theorem atI_get {α : Type} {xs : List α} {i : Int} {v : α} (h : atI xs i = some v) : ∃ j, seqIndex? i xs.length = some j ∧ xs[j]? = some v ∧ j < xs.length ∧ -(xs.length : Int) ≤ i ∧ i < xs.length := by
  unfold atI at h
  cases e : ixN xs.length i with
  | none => rw [e] at h; cases h
  | some j =>
    rw [e] at h
    obtain ⟨h1, h2, h3, h4⟩ := ixN_seq e
    exact ⟨j, h1, h, h2, h3, h4⟩
theorem atI_nat {α : Type} {xs : List α} {j : Nat} {v : α} (h : xs[j]? = some v) : atI xs (j : Int) = some v := by
  have hj : j < xs.length := (List.getElem?_eq_some_iff.mp h).1
  have e : ixN xs.length (j : Int) = some j := by
    unfold ixN
    rw [if_pos (by omega), if_pos (by omega)]; simp
  unfold atI; rw [e]; exact h
theorem atI_last {α : Type} (xs : List α) (v : α) : atI (xs ++ [v]) (-1) = some v := by
  have hl : (xs ++ [v]).length = xs.length + 1 := by simp
  have e : ixN (xs ++ [v]).length (-1) = some xs.length := by
    unfold ixN
    rw [hl, if_neg (by decide), if_pos (by omega)]
    congr 1
    omega
  unfold atI
  rw [e]
  show (xs ++ [v])[xs.length]? = some v
  simp

/-! ### what may be subscripted -/
/-- what stands as an index of a plain subscript -/
def PlainIx (b : Expr) : Prop := ∀ o i, subscripted b false o i = operate [o, i] (getItem o i)
/-- a subscript by values -/
def IxR (X : Cx) (r : R2) : Prop :=
  ∀ (value slice : Expr) (pins : List (Addr × Obj)) (s : Shared) (σ : St) (H : Hp) (x y : V) (v u : Value) (Q : VK), Inv X pins σ H s → RelV x v → RelV y u → r x y H Q →
    subscripted slice false v u = operate [v, u] (getItem v u) → wpAny (model X.prog X.w) X.A (subscriptTail value slice v u) (EP X pins σ Q) X.xe s
/-- a call of a builtin's method by values: the receiver, the arguments -/
def MtR (X : Cx) (id : String) (r : V → List V → Hp → VK → Prop) : Prop :=
  ∀ (pins : List (Addr × Obj)) (s : Shared) (σ : St) (H : Hp) (x : V) (xs : List V) (v : Value) (us : List Value) (Q : VK), Inv X pins σ H s → RelV x v → Vals xs us → r x xs H Q →
    wpAny (model X.prog X.w) X.A (call (.builtin id) (v :: us)) (EP X pins σ Q) X.xe s
section
variable {X : Cx} {a b : Expr} {ta tb : TE} {pos : Pos}
theorem IxR.or {r r' : R2} (h : IxR X r) (h' : IxR X r') : IxR X (fun x y H Q => r x y H Q ∨ r' x y H Q) := by
  intro value slice pins s σ H x y v u Q I rx ry q hs
  rcases q with q | q
  · exact h value slice pins s σ H x y v u Q I rx ry q hs
  · exact h' value slice pins s σ H x y v u Q I rx ry q hs
theorem MtR.or {id : String} {r r' : V → List V → Hp → VK → Prop} (h : MtR X id r) (h' : MtR X id r') : MtR X id (fun x xs H Q => r x xs H Q ∨ r' x xs H Q) := by
  intro pins s σ H x xs v us Q I rx rs q
  rcases q with q | q
  · exact h pins s σ H x xs v us Q I rx rs q
  · exact h' pins s σ H x xs v us Q I rx rs q
/-- a[b] -/
theorem pe_ix {r : R2} (hr : IxR X r) (ha : PE X a ta) (hb : PE X b tb) (hs : PlainIx b) : PE X (.Subscript a b pos) (tOp r ta tb) := by
  intro pins s σ H Q I h
  exact Subscript_ (binT ha hb I h fun v u s2 x y H2 I2 rx ry q => hr a b pins s2 σ H2 x y v u Q I2 rx ry q (hs _ _))

def rIxL (K : PySem.W.Frag) : R2 := fun x y H Q => ∃ p xs i v, x = .ref p ∧ y = .int i ∧ SqL K H p xs ∧ atI xs i = some v ∧ Q v H
def rIxT (K : PySem.W.Frag) : R2 := fun x y H Q => ∃ p xs i v, x = .ref p ∧ y = .int i ∧ SqT K H p xs ∧ atI xs i = some v ∧ Q v H
def rIxS : R2 := fun x y H Q => ∃ z i c, x = .str z ∧ y = .int i ∧ z.length ≤ sizeLine ∧ atI z.cps.toList i = some c ∧ Q (.str ⟨#[c]⟩) H
theorem ix_list : IxR X (rIxL X.K) := by
  intro value slice pins s σ H x y v u Q I rx ry h hs
  obtain ⟨p, xs, i, z, rfl, rfl, hq, he, q⟩ := h
  cases rx
  obtain ⟨t, rfl⟩ := ry
  obtain ⟨its, r, pl, hz⟩ := I.list hq
  obtain ⟨j, h1, h2, h3, h4, h5⟩ := atI_get he
  obtain ⟨w, ew, rw'⟩ := r.get h2
  have hl := r.length
  have hn := line63
  have fin : EP X pins σ Q w s := ⟨z, H, I, rw', q⟩
  by_cases h0 : 0 ≤ i
  · have hj : i.toNat = j := by
      rw [seqIndex_of h0 h5] at h1
      exact Option.some.inj h1
    exact item_listR pl.isList h0 (by omega) (by rw [hj]; simpa using ew) fin hs
  · have hj : (i + (its.toArray.size : Int)).toNat = j := by
      rw [seqIndex_neg (by omega) h4] at h1
      rw [List.size_toArray, ← hl]
      exact Option.some.inj h1
    exact subscriptTail_builtinR (x := w) pl.isList.typeIs slot_list_getitem.lookup
      (wpAny_getItem_list_neg (Q := fun r s' => r = w ∧ EP X pins σ Q r s') pl.isList (by omega) (by rw [List.size_toArray] <;> omega) (by omega) (by rw [hj]; simpa using ew) ⟨rfl, fin⟩) hs
theorem ix_tup : IxR X (rIxT X.K) := by
  intro value slice pins s σ H x y v u Q I rx ry h hs
  obtain ⟨p, xs, i, z, rfl, rfl, hq, he, q⟩ := h
  cases rx
  obtain ⟨t, rfl⟩ := ry
  obtain ⟨its, r, pl, hz⟩ := I.tuple hq
  obtain ⟨j, h1, h2, h3, h4, h5⟩ := atI_get he
  obtain ⟨w, ew, rw'⟩ := r.get h2
  have hl := r.length
  have hn := line63
  have fin : EP X pins σ Q w s := ⟨z, H, I, rw', q⟩
  exact subscriptTail_builtinR (x := w) pl.typeIs slot_tuple_getitem.lookup
    (getItem_tuple (j := j) (Q := fun r s' => r = w ∧ EP X pins σ Q r s') pl (by omega) (by omega) (by rw [List.size_toArray, ← hl]; exact h1) (by simpa using ew) ⟨rfl, fin⟩) hs
theorem ix_str : IxR X rIxS := by
  intro value slice pins s σ H x y v u Q I rx ry h hs
  obtain ⟨z, i, c, rfl, rfl, hz, he, q⟩ := h
  obtain ⟨t, rfl⟩ := rx
  obtain ⟨t', rfl⟩ := ry
  obtain ⟨j, h1, h2, h3, h4, h5⟩ := atI_get he
  have hl : z.cps.toList.length = z.length := by simp [Str.length]
  rw [hl] at h1 h4 h5
  have hn := line63
  exact tail_any (typeIs_str s z t) slot_str_getitem.lookup (getItem_str (c := c) (by
    have e1 : decide (i < -(2 ^ 63 : Int)) = false := decide_eq_false (by omega)
    have e2 : decide (i ≥ 2 ^ 63) = false := decide_eq_false (by omega)
    rw [e1, e2, Bool.or_false]) (by rw [h1]; simpa using h2) ⟨.str ⟨#[c]⟩, H, I.tok _, ⟨_, rfl⟩, q⟩) hs
/-- list, tuple or str -/
def rIx (K : PySem.W.Frag) : R2 := fun x y H Q => rIxL K x y H Q ∨ rIxT K x y H Q ∨ rIxS x y H Q
theorem ix_seq : IxR X (rIx X.K) := ix_list.or (ix_tup.or ix_str)

/-! ### xs[i] = v, any sign -/
/-- the list's object behind a store -/
theorem mapSeq_set (its : List Value) (n j : Nat) (u : Value) : Obj.mapSeq (·.setIfInBounds j u) { cls := .type "list", data := .seq its.toArray n } = { cls := .type "list", data := .seq (its.set j u).toArray n } := by
  simp [Obj.mapSeq]
theorem Inv.lst {pins : List (Addr × Obj)} {σ : St} {H : Hp} {s : Shared} {p : Addr} {xs : List V} (I : Inv X pins σ H s) (h : H p = some (.lst xs)) :
    ∃ (its : List Value) (n : Nat), Vals xs its ∧ s.heap.get? p = some { cls := .type "list", data := .seq its.toArray n } ∧ xs.length ≤ sizeLine := by
  obtain ⟨z, its, n, r, e⟩ := I.hok p _ h
  exact ⟨its, n, r, e, z⟩
/-- the list at p is written by an update of its object -/
theorem Inv.lstUpd {pins : List (Addr × Obj)} {σ : St} {H : Hp} {s : Shared} {p : Addr} {xs ys : List V} {its its' : List Value} {n n' : Nat} {f : Obj → Obj} (I : Inv X pins σ H s) (h : H p = some (.lst xs))
    (ho : s.heap.get? p = some { cls := .type "list", data := .seq its.toArray n }) (hf : f { cls := .type "list", data := .seq its.toArray n } = { cls := .type "list", data := .seq its'.toArray n' }) (r : Vals ys its') (hz : ys.length ≤ sizeLine) (t : Nat) :
    Inv X pins σ (upd H p (.lst ys)) { s with heap := s.heap.update p f, toks := t } := by
  have e : (s.heap.update p f).get? p = some { cls := .type "list", data := .seq its'.toArray n' } := by
    rw [Heap.get?_update_self f ho (by rw [hf] <;> rfl), hf]
  refine I.write (x := p) (e := p) (by rw [h]; trivial) (.inl rfl) (fun b u hb q => (Heap.get?_update_other _ _ (Ne.symm hb)).trans q) ⟨_, e⟩ ?_
  exact ⟨hz, its', n', r, e⟩
def rSetL : V → V → V → Hp → (Hp → Prop) → Prop := fun o i v H Q => ∃ p xs k j, o = .ref p ∧ i = .int k ∧ H p = some (.lst xs) ∧ ixN xs.length k = some j ∧ Q (upd H p (.lst (xs.set j v)))
theorem set_list : PSet X rSetL := by
  intro pins s σ H o i v ov iv u Q I ro ri rv h
  obtain ⟨p, xs, k, j, rfl, rfl, hp, hj, q⟩ := h
  cases ro
  obtain ⟨t, rfl⟩ := ri
  obtain ⟨its, n, r, ho, hz⟩ := I.lst hp
  obtain ⟨h1, h2, h3, h4⟩ := ixN_seq hj
  have hl := r.length
  have hn := line63
  have I' : Inv X pins σ (upd H p (.lst (xs.set j v))) { s with heap := s.heap.update p (Obj.mapSeq (·.setIfInBounds j u)) } :=
    I.lstUpd hp ho (mapSeq_set its n j u) (r.set rv j) (by rw [List.length_set]; exact hz) s.toks
  by_cases h0 : 0 ≤ k
  · have hk : k.toNat = j := by
      rw [seqIndex_of h0 h4] at h1
      exact Option.some.inj h1
    exact PySem.W.ki_setAt ho h0 (by omega) (by rw [List.size_toArray, ← hl]; exact h4) (by rw [hk]; exact ⟨_, I', q⟩)
  · have hk : (k + (its.toArray.size : Int)).toNat = j := by
      rw [seqIndex_neg (by omega) h3] at h1
      rw [List.size_toArray, ← hl]
      exact Option.some.inj h1
    exact PySem.W.ki_setBack ho (by omega) (by rw [List.size_toArray, ← hl]; exact h3) (by omega) (by rw [hk]; exact ⟨_, I', q⟩)

/-! ### slices -/
theorem slice_bounds (lo hi : Option Int) (n : Nat) : (sliceBounds lo hi none n).1 = ((HT.sIx n 0 lo : Nat) : Int) ∧ (sliceBounds lo hi none n).2.1 = ((HT.sIx n n hi : Nat) : Int) ∧ (sliceBounds lo hi none n).2.2 = 1 := by
  refine ⟨?_, ?_, rfl⟩
  · cases lo with
    | none => simp [sliceBounds, HT.sIx]
    | some i =>
      simp only [sliceBounds, HT.sIx, Option.getD_none, show (1 : Int) > 0 by decide, if_true]
      by_cases h : i < 0
      · simp only [h, if_true] <;> omega
      · simp only [h, if_false] <;> omega
  · cases hi with
    | none => simp [sliceBounds, HT.sIx]
    | some i =>
      simp only [sliceBounds, HT.sIx, Option.getD_none, show (1 : Int) > 0 by decide, if_true]
      by_cases h : i < 0
      · simp only [h, if_true] <;> omega
      · simp only [h, if_false] <;> omega
theorem slicePick_cut (its : List Value) (lo hi : Option Int) : slicePick its.toArray lo hi none = ((its.drop (HT.sIx its.length 0 lo)).take (HT.sIx its.length its.length hi - HT.sIx its.length 0 lo)).toArray := by
  obtain ⟨h1, h2, h3⟩ := slice_bounds lo hi its.toArray.size
  unfold slicePick
  rw [h1, h2, h3]
  simp only [sliceRange_one, pick_run, List.size_toArray] <;> rfl
/-- xs[lo:hi] of a list: a new list -/
def rSlL (K : PySem.W.Frag) : V → Option Int → Option Int → Hp → VK → Prop := fun x lo hi H Q => ∃ a xs, x = .ref a ∧ SqL K H a xs ∧ ∀ p, H p = none → Q (.ref p) (upd H p (.lst (cutV xs lo hi)))
theorem sl_list : SlR X (rSlL X.K) := by
  intro pins s σ H x v vl vu lo hi sl Q I rx hs pl pu h
  obtain ⟨a, xs, rfl, hx, q⟩ := h
  cases rx
  obtain ⟨its, r, ht, hz⟩ := I.list hx
  have hlen := r.length
  refine ⟨"list", _, slot_list_getitem.lookup, ht.isList.typeIs, ?_⟩
  refine wpAny_getItem_list_slice ht.isList hs pl pu .none (by simp) ?_ (by rw [List.size_toArray] <;> omega)
  rw [slicePick_cut, ← hlen]
  refine ⟨.ref s.heap.objs.size, _, I.laid (t' := s.toks) (o := .lst (cutV xs lo hi)) (fun b ob q => Heap.get?_push_of_some _ q) (Nat.le_refl _) ?_, rfl, q _ (I.hok.fresh (Nat.le_refl _))⟩
  exact ⟨Nat.le_trans (cutV_length xs lo hi) hz, _, 0, (r.drop (HT.sIx xs.length 0 lo)).take (HT.sIx xs.length xs.length hi - HT.sIx xs.length 0 lo), Heap.get?_push_size _ rfl⟩

/-! ### in, not in: flat items -/
def flatV : V → Bool
  | .non => true
  | .bl _ => true
  | .int _ => true
  | .str _ => true
  | _ => false
/-- == of flat values -/
def eqV : V → V → Bool
  | .non, .non => true
  | .bl a, .bl b => a == b
  | .bl a, .int b => (if a then 1 else 0) == b
  | .int a, .bl b => a == (if b then 1 else 0)
  | .int a, .int b => a == b
  | .str a, .str b => a == b
  | _, _ => false
theorem eqAt_V {A : Around} {s : Shared} {y x : V} {u v : Value} (ry : RelV y u) (rx : RelV x v) (fy : flatV y = true) (fx : flatV x = true) : SeqAt.EqAt A s u v (eqV y x) := by
  cases y with
  | non =>
    cases ry
    cases x with
    | non => cases rx; exact SeqAt.EqAt.same _
    | bl b => cases rx; exact SeqAt.EqAt.none_bool b
    | int b => obtain ⟨t, rfl⟩ := rx; exact SeqAt.EqAt.none_int b t
    | str b => obtain ⟨t, rfl⟩ := rx; exact SeqAt.EqAt.none_str b t
    | _ => exact absurd (show false = true from fx) Bool.false_ne_true
  | bl a =>
    cases ry
    cases x with
    | non => cases rx; exact SeqAt.EqAt.bool_none a
    | bl b => cases rx; exact SeqAt.EqAt.bool_bool a b
    | int b => obtain ⟨t, rfl⟩ := rx; exact SeqAt.EqAt.bool_int a b t
    | str b => obtain ⟨t, rfl⟩ := rx; exact SeqAt.EqAt.bool_str a b t
    | _ => exact absurd (show false = true from fx) Bool.false_ne_true
  | int a =>
    obtain ⟨t', rfl⟩ := ry
    cases x with
    | non => cases rx; exact SeqAt.EqAt.int_none a t'
    | bl b => cases rx; exact SeqAt.EqAt.int_bool a t' b
    | int b => obtain ⟨t, rfl⟩ := rx; exact SeqAt.EqAt.int_int a t' b t
    | str b => obtain ⟨t, rfl⟩ := rx; exact SeqAt.EqAt.int_str a t' b t
    | _ => exact absurd (show false = true from fx) Bool.false_ne_true
  | str a =>
    obtain ⟨t', rfl⟩ := ry
    cases x with
    | non => cases rx; exact SeqAt.EqAt.str_none a t'
    | bl b => cases rx; exact SeqAt.EqAt.str_bool a t' b
    | int b => obtain ⟨t, rfl⟩ := rx; exact SeqAt.EqAt.str_int a t' b t
    | str b => obtain ⟨t, rfl⟩ := rx; exact SeqAt.EqAt.str_str a t' b t
    | _ => exact absurd (show false = true from fx) Bool.false_ne_true
  | _ => exact absurd (show false = true from fy) Bool.false_ne_true
/-- the items' answers, read off the values (a value's own answer does not lean on its token) -/
def eqU (x : V) (u : Value) : Bool := match u with
  | .none => eqV .non x
  | .bool b => eqV (.bl b) x
  | .int i _ => eqV (.int i) x
  | .str z _ => eqV (.str z) x
  | _ => false
theorem eqU_of {x y : V} {u : Value} (r : RelV y u) (f : flatV y = true) : eqU x u = eqV y x := by
  cases y with
  | non => cases r; rfl
  | bl b => cases r; rfl
  | int i => obtain ⟨t, rfl⟩ := r; rfl
  | str z => obtain ⟨t, rfl⟩ := r; rfl
  | _ => exact absurd (show false = true from f) Bool.false_ne_true
theorem any_eqU {x : V} : ∀ {xs : List V} {us : List Value}, Vals xs us → xs.all flatV = true → us.any (eqU x) = xs.any fun y => eqV y x
  | _, _, .nil, _ => rfl
  | y :: xs, u :: us, .cons r t, f => by
    rw [List.all_cons, Bool.and_eq_true] at f
    rw [List.any_cons, List.any_cons, eqU_of r f.1, any_eqU t f.2]
theorem mem_eqAt {A : Around} {s : Shared} {x : V} {v : Value} (rx : RelV x v) (fx : flatV x = true) : ∀ {xs : List V} {us : List Value}, Vals xs us → xs.all flatV = true → ∀ u ∈ us, SeqAt.EqAt A s u v (eqU x u)
  | _, _, .nil, _ => fun u hu => by cases hu
  | y :: xs, u :: us, .cons r t, f => fun u' hu => by
    rw [List.all_cons, Bool.and_eq_true] at f
    rcases List.mem_cons.mp hu with rfl | hu
    · rw [eqU_of r f.1]; exact eqAt_V r rx f.1 fx
    · exact mem_eqAt rx fx t f.2 u' hu
def inV (x : V) (xs : List V) : Bool := xs.any fun y => eqV y x
/-- x in a list or tuple of flat items -/
def rIn (K : PySem.W.Frag) (neg : Bool) : R2 := fun x y H Q => ∃ p xs, y = .ref p ∧ (SqL K H p xs ∨ SqT K H p xs) ∧ flatV x = true ∧ xs.all flatV = true ∧ Q (.bl (if neg then !inV x xs else inV x xs)) H
theorem op_in_seq : OpR X (compareOp .In) (rIn X.K false) := by
  intro pins s σ H x y v u Q I rx ry h
  obtain ⟨p, xs, rfl, hq, fx, fs, q⟩ := h
  cases ry
  rcases hq with hq | hq
  · obtain ⟨its, r, pl, hz⟩ := I.list hq
    refine SeqAt.in_listAt (eqU x) pl.isList (fun w hw => mem_eqAt rx fx r fs w (by simpa using hw)) ⟨.bl _, H, I, rfl, ?_⟩
    rw [show its.toArray.any (eqU x) = its.any (eqU x) by simp, any_eqU r fs]
    exact q
  · obtain ⟨its, r, pl, hz⟩ := I.tuple hq
    refine SeqAt.in_tupleAt (eqU x) pl (fun w hw => mem_eqAt rx fx r fs w (by simpa using hw)) ⟨.bl _, H, I, rfl, ?_⟩
    rw [show its.toArray.any (eqU x) = its.any (eqU x) by simp, any_eqU r fs]
    exact q
theorem op_notIn_seq : OpR X (compareOp .NotIn) (rIn X.K true) := by
  intro pins s σ H x y v u Q I rx ry h
  obtain ⟨p, xs, rfl, hq, fx, fs, q⟩ := h
  cases ry
  rcases hq with hq | hq
  · obtain ⟨its, r, pl, hz⟩ := I.list hq
    refine SeqAt.notIn_listAt (eqU x) pl.isList (fun w hw => mem_eqAt rx fx r fs w (by simpa using hw)) ⟨.bl _, H, I, rfl, ?_⟩
    rw [show its.toArray.any (eqU x) = its.any (eqU x) by simp, any_eqU r fs]
    exact q
  · obtain ⟨its, r, pl, hz⟩ := I.tuple hq
    refine SeqAt.notIn_tupleAt (eqU x) pl (fun w hw => mem_eqAt rx fx r fs w (by simpa using hw)) ⟨.bl _, H, I, rfl, ?_⟩
    rw [show its.toArray.any (eqU x) = its.any (eqU x) by simp, any_eqU r fs]
    exact q
theorem op_notIn_str : OpR X (compareOp .NotIn) (fun x y H Q => ∃ i j, x = .str i ∧ y = .str j ∧ Q (.bl (!(!(Builtin.Str.occurrences j i 0 j.length 1).isEmpty))) H) := by
  intro pins s σ H x y v u Q I rx ry h
  obtain ⟨i, j, rfl, rfl, q⟩ := h
  obtain ⟨t, rfl⟩ := rx
  obtain ⟨t', rfl⟩ := ry
  exact notIn_str ⟨.bl _, H, I, rfl, q⟩

/-! ### len, list(x), tuple(x) of any list or tuple that is read -/
theorem call_len_seq : CallR X (.builtin "len") (fun xs H Q => ∃ p ys, xs = [.ref p] ∧ (SqL X.K H p ys ∨ SqT X.K H p ys) ∧ Q (.int ys.length) H) := by
  intro pins s σ H xs us Q I r h
  obtain ⟨p, ys, rfl, hq, q⟩ := h
  obtain ⟨u, rfl, rx⟩ := vals1 r
  cases rx
  have hn := line63
  rcases hq with hq | hq
  · obtain ⟨its, r', pl, hz⟩ := I.list hq
    have hlen := r'.length
    exact Calls.call_len_list pl.isList (by simp only [List.size_toArray] <;> omega) ⟨.int ys.length, H, I.tok _, ⟨s.toks + 1, by rw [List.size_toArray, hlen]⟩, q⟩
  · obtain ⟨its, r', pl, hz⟩ := I.tuple hq
    have hlen := r'.length
    exact len_tuple pl (by simp only [List.size_toArray] <;> omega) ⟨.int ys.length, H, I.tok _, ⟨s.toks + 1, by rw [List.size_toArray, hlen]⟩, q⟩
theorem call_len_str : CallR X (.builtin "len") (fun xs H Q => ∃ z, xs = [.str z] ∧ z.length ≤ sizeLine ∧ Q (.int z.length) H) := by
  intro pins s σ H xs us Q I r h
  obtain ⟨z, rfl, hz, q⟩ := h
  obtain ⟨u, rfl, t, rfl⟩ := vals1 r
  have hn := line63
  exact len_str (by omega) ⟨.int z.length, H, I.tok _, ⟨_, rfl⟩, q⟩
theorem CallR.or {f : Value} {r r' : List V → Hp → VK → Prop} (h : CallR X f r) (h' : CallR X f r') : CallR X f (fun xs H Q => r xs H Q ∨ r' xs H Q) := by
  intro pins s σ H xs us Q I rs q
  rcases q with q | q
  · exact h pins s σ H xs us Q I rs q
  · exact h' pins s σ H xs us Q I rs q
theorem call_list_of : CallR X (.type "list") (fun xs H Q => ∃ p ys, xs = [.ref p] ∧ (SqL X.K H p ys ∨ SqT X.K H p ys) ∧ ∀ l, H l = none → Q (.ref l) (upd H l (.lst ys))) := by
  intro pins s σ H xs us Q I r h
  obtain ⟨p, ys, rfl, hq, q⟩ := h
  obtain ⟨u, rfl, rx⟩ := vals1 r
  cases rx
  have fin : ∀ (its : List Value), Vals ys its → ys.length ≤ sizeLine → ∀ (h' : Heap) (c' : Nat), (∀ b o', s.heap.get? b = some o' → h'.get? b = some o') →
      h'.get? s.heap.objs.size = some { cls := .type "list", dict := none, data := .seq its.toArray c', slots := #[] } → EP X pins σ Q (.ref s.heap.objs.size) { s with heap := h' } := fun its r' hz h' c' kp e =>
    ⟨.ref s.heap.objs.size, _, I.laid (t' := s.toks) kp (Nat.le_refl _) (show ObjOk X.prog X.w _ h' _ (.lst ys) from ⟨hz, its, c', r', e⟩), rfl, q _ (I.hok.fresh (Nat.le_refl _))⟩
  rcases hq with hq | hq
  · obtain ⟨its, r', pl, hz⟩ := I.list hq
    have hlen := r'.length
    obtain ⟨o, ho, hc, n, hd⟩ := pl.isList
    exact call_list_seq p (.inl rfl) ho hc hd (fun h' c' kp e => fin its r' hz h' c' kp e) (by simp only [List.size_toArray] <;> omega)
  · obtain ⟨its, r', pl, hz⟩ := I.tuple hq
    have hlen := r'.length
    obtain ⟨o, ho, hc, n, hd⟩ := pl
    exact call_list_seq p (.inr rfl) ho hc hd (fun h' c' kp e => fin its r' hz h' c' kp e) (by simp only [List.size_toArray] <;> omega)
theorem call_tuple_of : CallR X (.type "tuple") (fun xs H Q => ∃ p ys, xs = [.ref p] ∧ ((SqL X.K H p ys ∧ ∀ l, H l = none → Q (.ref l) (upd H l (.tup ys))) ∨ (SqT X.K H p ys ∧ Q (.ref p) H))) := by
  intro pins s σ H xs us Q I r h
  obtain ⟨p, ys, rfl, h⟩ := h
  obtain ⟨u, rfl, rx⟩ := vals1 r
  cases rx
  rcases h with ⟨hq, q⟩ | ⟨hq, q⟩
  · obtain ⟨its, r', pl, hz⟩ := I.list hq
    have hlen := r'.length
    refine call_tuple_list pl.isList (fun h' kp => ?_) (by simp only [List.size_toArray] <;> omega)
    have I1 : Inv X pins σ H { s with heap := h' } := I.kept (t' := s.toks) kp
    have I2 : Inv X pins σ (upd H h'.objs.size (.tup ys)) { s with heap := h'.push { cls := .type "tuple", data := .seq its.toArray } } :=
      I1.laid (t' := s.toks) (fun b o e => Heap.get?_push_of_some _ e) (Nat.le_refl _) (show ObjOk X.prog X.w _ _ _ (.tup ys) from ⟨hz, its, r', IsTup.new _ _⟩)
    exact ⟨.ref h'.objs.size, _, I2, rfl, q _ (I1.hok.fresh (Nat.le_refl _))⟩
  · obtain ⟨its, r', pl, hz⟩ := I.tuple hq
    exact call_tuple_same pl ⟨.ref p, H, I, rfl, q⟩

/-! ### the call of a builtin's method: o.m(..) -/
/-- the value is of that builtin type -/
def tyV (K : PySem.W.Frag) (T : String) (x : V) (H : Hp) : Prop := match x with
  | .str _ => T = "str"
  | .int _ => T = "int"
  | .ref p => (T = "list" ∧ ∃ xs, SqL K H p xs) ∨ (T = "tuple" ∧ ∃ o, K.lookup p = some o ∧ o.cls = .type "tuple" ∧ o.dict = none) ∨
      (T = "dict" ∧ ((∃ kvs, H p = some (.dK kvs)) ∨ ∃ kvs, H p = some (.dT kvs))) ∨ (T = "set" ∧ ∃ S n, H p = some (.set S n))
  | _ => False
theorem tyV_is {pins : List (Addr × Obj)} {σ : St} {H : Hp} {s : Shared} {T : String} {x : V} {v : Value} (I : Inv X pins σ H s) (r : RelV x v) (ty : tyV X.K T x H) :
    s.TypeIs v T ∧ ∀ a, v = .ref a → ∃ ob, s.heap.get? a = some ob ∧ ob.dict = none := by
  cases x with
  | str z =>
    obtain ⟨t, rfl⟩ := r
    cases (show T = "str" from ty)
    exact ⟨typeIs_str s z t, fun _ e => nomatch e⟩
  | int i =>
    obtain ⟨t, rfl⟩ := r
    cases (show T = "int" from ty)
    exact ⟨typeIs_int s i t, fun _ e => nomatch e⟩
  | ref p =>
    cases r
    rcases ty with ⟨rfl, xs, hq⟩ | ⟨rfl, o, hk, hc, hd⟩ | ⟨rfl, hk⟩ | ⟨rfl, S, n, hk⟩
    · obtain ⟨its, _, pl, _⟩ := I.list hq
      refine ⟨pl.isList.typeIs, fun a e => ?_⟩
      cases e
      obtain ⟨o, n, e, c, hd, _⟩ := pl
      exact ⟨o, e, hd⟩
    · refine ⟨⟨o, I.kIn p o hk, hc⟩, fun a e => ?_⟩
      cases e
      exact ⟨o, I.kIn _ o hk, hd⟩
    · have z : ∃ o, s.heap.get? p = some o ∧ o.ExactDict := by
        rcases hk with ⟨kvs, hk⟩ | ⟨kvs, hk⟩
        · obtain ⟨_, _, _, _, o, _, _, e, ex, _⟩ := I.hok p _ hk
          exact ⟨o, e, ex⟩
        · obtain ⟨_, _, _, _, o, _, _, e, ex, _⟩ := I.hok p _ hk
          exact ⟨o, e, ex⟩
      obtain ⟨o, e, ex⟩ := z
      refine ⟨⟨o, e, ex.1⟩, fun a e2 => ?_⟩
      cases e2
      exact ⟨o, e, ex.2.1⟩
    · obtain ⟨o, _, _, _, e, ex, _⟩ := I.hok p _ hk
      refine ⟨⟨o, e, ex.1⟩, fun a e2 => ?_⟩
      cases e2
      exact ⟨o, e, ex.2.1⟩
  | _ => exact False.elim ty
def tBM0 (K : PySem.W.Frag) (T : String) (r : V → List V → Hp → VK → Prop) (to : TE) : TE := fun σ H Q => to σ H fun x H1 => tyV K T x H1 ∧ r x [] H1 Q
def tBM (K : PySem.W.Frag) (T : String) (r : V → List V → Hp → VK → Prop) (to : TE) (t : TA) : TE := fun σ H Q => to σ H fun x H1 => tyV K T x H1 ∧ t σ H1 fun xs H2 => r x xs H2 Q
variable {o e : Expr} {es : List Expr} {to : TE} {t : TA} {name : Str} {apos cpos : Pos} {T id : String} {r : V → List V → Hp → VK → Prop}
theorem pe_bm0 (pa : PlainAttrs T) (slot : Slot T name id) (hty : typeOf (.builtin id) = pure (.type "method_descriptor")) (hm : MtR X id r) (ho : PE X o to)
    (hbase : attributeBase o name X.env (eval o X.env) = eval o X.env := by rfl) (hline : (apos.endLine == cpos.line) = true := by rfl) : PE X (.Call (.Attribute o name apos) [] [] cpos) (tBM0 X.K T r to) := by
  intro pins s σ H Q I h
  refine wpAny_Call_method0_late hbase hline (thn (ho pins s σ H _ I h) fun v s1 ⟨x, H1, I1, r1, ty, q1⟩ => ?_)
  obtain ⟨h1, h2⟩ := tyV_is I1 r1 ty
  exact ⟨T, id, pa, slot, hty, h1, h2, Calls.callWith_builtin rfl (PySem.evalArgs_none (hm pins s1 σ H1 x [] v [] Q I1 r1 .nil q1))⟩
theorem pe_bm (pa : PlainAttrs T) (slot : Slot T name id) (hty : typeOf (.builtin id) = pure (.type "method_descriptor")) (hm : MtR X id r) (ho : PE X o to) (ha : PA X (e :: es) t)
    (hbase : attributeBase o name X.env (eval o X.env) = eval o X.env := by rfl)
    (hfew : ((backTo cpos (starEach (e :: es) X.env)).all (fun x => !x.1) && (backToKw cpos (keywordEach [] X.env)).all (fun x => x.1.isSome)
      && decide ((e :: es).length + ([] : List Keyword).length + (if ([] : List Keyword).isEmpty then 0 else 1) < 30)) = true := by rfl)
    (hline : (apos.endLine == cpos.line) = true := by rfl) (hs : starEach (e :: es) X.env = (false, eval e X.env) :: starEach es X.env := by rfl) (hplain : (backTo cpos (starEach es X.env)).any (·.1) = false := by rfl) :
    PE X (.Call (.Attribute o name apos) (e :: es) [] cpos) (tBM X.K T r to t) := by
  intro pins s σ H Q I h
  refine wpAny_Call_method_late hbase hfew hline rfl (thn (ho pins s σ H _ I h) fun v s1 ⟨x, H1, I1, r1, ty, q1⟩ => ?_)
  obtain ⟨h1, h2⟩ := tyV_is I1 r1 ty
  refine ⟨T, id, pa, slot, hty, h1, h2, ?_⟩
  have hA := ha cpos pins s1 σ H1 _ I1 q1
  rw [hs] at hA ⊢
  refine Calls.callWith_builtin (by show (false || (backTo cpos (starEach es X.env)).any (·.1)) = false; rw [hplain] <;> rfl) (Calls.evalArgs_plain ?_)
  exact thn hA fun us s2 ⟨vs, H2, I2, r2, q2⟩ => hm pins s2 σ H2 x vs v us Q I2 r1 r2 q2
/- xs.append(e), list.index on a module's tuple .. are MtR facts of 06m -/
end
end L2

namespace L2
open PySem PySem.Spec PyProof.Rows

def MtM (X : Cx) (id : String) (r : V → List V → Hp → VK → Prop) : Prop :=
  ∀ (pins : List (Addr × Obj)) (s : Shared) (σ : St) (H : Hp) (x : V) (xs : List V) (v : Value) (us : List Value) (Q : VK), Inv X pins σ H s → RelV x v → Vals xs us → r x xs H Q →
    wpAny (model X.prog X.w) X.A (call (.builtin id) (v :: us)) (EP X pins σ Q) X.xe s

/-! ### lists of values -/
theorem Vals.one : ∀ {x : V} {us : List Value}, Vals [x] us → ∃ u, us = [u] ∧ RelV x u
  | _, _, .cons r .nil => ⟨_, rfl, r⟩
theorem Vals.two : ∀ {x y : V} {us : List Value}, Vals [x, y] us → ∃ u v, us = [u, v] ∧ RelV x u ∧ RelV y v
  | _, _, _, .cons r (.cons q .nil) => ⟨_, _, rfl, r, q⟩
theorem Vals.zero : ∀ {us : List Value}, Vals [] us → us = []
  | _, .nil => rfl
theorem Vals.dropLast {xs : List V} {us : List Value} (h : Vals xs us) : Vals xs.dropLast us.dropLast := by
  induction h with
  | nil => exact .nil
  | cons r t ih =>
    cases t with
    | nil => exact .nil
    | cons q t' => exact .cons r ih
theorem Vals.eraseIdx : ∀ {xs : List V} {us : List Value} (i : Nat), Vals xs us → Vals (xs.eraseIdx i) (us.eraseIdx i)
  | _, _, _, .nil => .nil
  | _, _, 0, .cons _ t => t
  | _, _, i + 1, .cons r t => .cons r (Vals.eraseIdx i t)
theorem Vals.reverse {xs : List V} {us : List Value} (h : Vals xs us) : Vals xs.reverse us.reverse := by
  induction h with
  | nil => exact .nil
  | cons r t ih => rw [List.reverse_cons, List.reverse_cons]; exact Vals.append ih (.cons r .nil)
theorem Vals.rep {xs : List V} {us : List Value} (h : Vals xs us) : ∀ k : Nat, Vals (List.replicate k xs).flatten (List.replicate k us).flatten
  | 0 => .nil
  | k + 1 => by
    rw [List.replicate_succ, List.replicate_succ, List.flatten_cons, List.flatten_cons]
    exact Vals.append h (Vals.rep h k)
theorem erase_last {α : Type} (l : List α) : l.eraseIdx (l.length - 1) = l.dropLast := by
  induction l with
  | nil => rfl
  | cons a r ih =>
    cases r with
    | nil => rfl
    | cons b r =>
      have e : (a :: b :: r).length - 1 = ((b :: r).length - 1) + 1 := by
        have h1 : (a :: b :: r).length = r.length + 2 := rfl
        have h2 : (b :: r).length = r.length + 1 := rfl
        omega
      rw [e, List.eraseIdx_cons_succ, ih]
      all_goals rfl
theorem len_erase {α : Type} : ∀ (l : List α) (i : Nat), (l.eraseIdx i).length ≤ l.length
  | [], _ => Nat.le_refl _
  | _ :: _, 0 => Nat.le_succ _
  | _ :: r, i + 1 => Nat.succ_le_succ (len_erase r i)
theorem foldl_rep (its : List Value) : ∀ (k : Nat) (acc : List Value),
    List.foldl (fun x1 x2 => x1 ++ x2) acc.toArray (List.replicate k its.toArray) = (acc ++ (List.replicate k its).flatten).toArray
  | 0, acc => by simp
  | k + 1, acc => by
    have e : acc.toArray ++ its.toArray = (acc ++ its).toArray := by simp
    have e2 : (acc ++ its) ++ (List.replicate k its).flatten = acc ++ (List.replicate (k + 1) its).flatten := by
      rw [List.replicate_succ, List.flatten_cons, List.append_assoc]
    rw [← e2, ← foldl_rep its k (acc ++ its), ← e, List.replicate_succ, List.foldl_cons]

section
variable {X : Cx} {pins : List (Addr × Obj)} {σ : St} {H : Hp} {s : Shared} {l b : Addr} {xs ys zs : List V}

/-! ### the two steps: a tracked list is rewritten, a new list is laid -/
theorem Inv.lset {its its' : List Value} {n : Nat} {f : Array Value → Array Value} {t' : Nat} (I : Inv X pins σ H s) (hH : H l = some (.lst xs))
    (e : s.heap.get? l = some { cls := .type "list", data := .seq its.toArray n }) (hf : f its.toArray = its'.toArray) (hv : Vals ys its') (hz : ys.length ≤ sizeLine) :
    Inv X pins σ (upd H l (.lst ys)) { s with heap := s.heap.update l (Obj.mapSeq f), toks := t' } := by
  have q := PySem.IsL.update e f
  rw [hf] at q
  refine I.write (x := l) (e := l) (by rw [hH]; exact trivial) (.inl rfl) (fun b' u hb hu => (Heap.get?_update_other s.heap (Obj.mapSeq f) (Ne.symm hb)).trans hu) ⟨_, q⟩ ?_
  exact ⟨hz, its', _, hv, q⟩
theorem Inv.lnew {its : List Value} {t' : Nat} (I : Inv X pins σ H s) (hv : Vals ys its) (hz : ys.length ≤ sizeLine) :
    Inv X pins σ (upd H s.heap.objs.size (.lst ys)) { s with heap := s.heap.push { cls := .type "list", data := .seq its.toArray }, toks := t' } :=
  I.laid (fun _ _ q => Heap.get?_push_of_some _ q) (Nat.le_refl _) ⟨hz, its, 0, hv, Heap.get?_push_size _ rfl⟩
theorem Inv.fresh (I : Inv X pins σ H s) : H s.heap.objs.size = none := I.hok.fresh (Nat.le_refl _)
theorem Inv.lstM (I : Inv X pins σ H s) (hH : H l = some (.lst xs)) : xs.length ≤ sizeLine ∧ ∃ (its : List Value) (n : Nat), Vals xs its ∧ xs.length = its.length ∧ s.heap.get? l = some { cls := .type "list", data := .seq its.toArray n } := by
  obtain ⟨z, its, n, r, e⟩ := I.hok l _ hH
  exact ⟨z, its, n, r, r.length, e⟩

theorem notLongL {n : Nat} (h : n ≤ sizeLine) : Builtin.List.listTooLong n = false := by
  unfold Builtin.List.listTooLong
  exact decide_eq_false (by omega)
end

section
variable {X : Cx}

/-! ### methods -/
def rAppend : V → List V → Hp → VK → Prop := fun x vs H Q => ∃ l xs y, x = .ref l ∧ vs = [y] ∧ H l = some (.lst xs) ∧ xs.length < sizeLine ∧ Q .non (upd H l (.lst (xs ++ [y])))
theorem mt_append : MtM X "list.append" rAppend := by
  intro pins s σ H x vs v us Q I rx rv h
  obtain ⟨l, xs, y, rfl, rfl, hH, hz, q⟩ := h
  cases rx
  obtain ⟨u, rfl, ru⟩ := rv.one
  obtain ⟨z, its, n, r, hl, e⟩ := I.lstM hH
  refine call_meets F.slot_list_append ⟨_, e, rfl⟩ F.entry_list_append (F.args_list_append_2 _ _) (PySem.list_append l its.toArray n u (by rw [List.size_toArray]; omega)) ⟨e, ?_⟩
  refine ⟨.non, _, I.lset (its' := its ++ [u]) hH e (by simp) (r.append (.cons ru .nil)) ?_, rfl, q⟩
  rw [List.length_append, List.length_singleton]
  omega

def rExtend : V → List V → Hp → VK → Prop := fun x vs H Q => ∃ l b xs zs, x = .ref l ∧ vs = [.ref b] ∧ H l = some (.lst xs) ∧ H b = some (.lst zs) ∧ xs.length + zs.length ≤ sizeLine ∧ Q .non (upd H l (.lst (xs ++ zs)))
theorem mt_extend : MtM X "list.extend" rExtend := by
  intro pins s σ H x vs v us Q I rx rv h
  obtain ⟨l, b, xs, zs, rfl, rfl, hH, hB, hz, q⟩ := h
  cases rx
  obtain ⟨u, rfl, ru⟩ := rv.one
  cases ru
  obtain ⟨z, its, n, r, hl, e⟩ := I.lstM hH
  obtain ⟨z2, its2, n2, r2, hl2, e2⟩ := I.lstM hB
  have hsz : its.toArray.size + its2.toArray.size ≤ sizeLine := by rw [List.size_toArray, List.size_toArray]; omega
  have hlong : ¬ (!its.toArray.isEmpty && Builtin.List.listTooLong (its.toArray.size + its2.toArray.size)) = true := by
    rw [notLongL hsz, Bool.and_false]
    exact Bool.false_ne_true
  refine call_meets F.slot_list_extend ⟨_, e, rfl⟩ F.entry_list_extend (F.args_list_extend_2 _ _)
    (AutoSeq1.list_extend_list_list_0 l its.toArray n b its2.toArray n2 hlong (by rw [List.size_toArray]; omega) (by omega)) ⟨e, e2, ?_⟩
  refine ⟨.non, _, I.lset (its' := its ++ its2) hH e (by simp) (r.append r2) ?_, rfl, q⟩
  rw [List.length_append]
  omega

def rPop : V → List V → Hp → VK → Prop := fun x vs H Q => ∃ l xs y, x = .ref l ∧ vs = [] ∧ H l = some (.lst xs) ∧ xs[xs.length - 1]? = some y ∧ Q y (upd H l (.lst xs.dropLast))
theorem mt_pop : MtM X "list.pop" rPop := by
  intro pins s σ H x vs v us Q I rx rv h
  obtain ⟨l, xs, y, rfl, rfl, hH, hy, q⟩ := h
  cases rx
  have hus := rv.zero
  subst hus
  obtain ⟨z, its, n, r, hl, e⟩ := I.lstM hH
  obtain ⟨u, hu, ru⟩ := r.get hy
  have hy' : its.toArray[its.toArray.size - 1]? = some u := by
    show its.toArray[its.length - 1]? = some u
    rw [← Array.getElem?_toList, ← hl]
    exact hu
  refine call_meets F.slot_list_pop ⟨_, e, rfl⟩ F.entry_list_pop (F.args_list_pop_1 _) (MeetsSeq.list_pop_last l its.toArray n u hy' (by rw [List.size_toArray]; omega)) ⟨e, ?_⟩
  refine ⟨y, _, I.lset (its' := its.dropLast) hH e ?_ r.dropLast ?_, ru, q⟩
  · show its.toArray.eraseIdxIfInBounds (its.toArray.size - 1) = its.dropLast.toArray
    rw [List.size_toArray, List.eraseIdxIfInBounds_toArray, erase_last]
  · rw [List.length_dropLast]
    omega

def rPopAt : V → List V → Hp → VK → Prop := fun x vs H Q => ∃ l xs i k y, x = .ref l ∧ vs = [.int i] ∧ H l = some (.lst xs) ∧ -(2 ^ 63) ≤ i ∧ i < 2 ^ 63 ∧ seqIndex? i xs.length = some k ∧ xs[k]? = some y ∧ Q y (upd H l (.lst (xs.eraseIdx k)))
theorem mt_popAt : MtM X "list.pop" rPopAt := by
  intro pins s σ H x vs v us Q I rx rv h
  obtain ⟨l, xs, i, k, y, rfl, rfl, hH, h1, h2, hk, hy, q⟩ := h
  cases rx
  obtain ⟨u, rfl, ru⟩ := rv.one
  obtain ⟨t, rfl⟩ := ru
  obtain ⟨z, its, n, r, hl, e⟩ := I.lstM hH
  obtain ⟨w, hw, rw'⟩ := r.get hy
  refine call_meets F.slot_list_pop ⟨_, e, rfl⟩ F.entry_list_pop (F.args_list_pop_2 _ _)
    (MeetsSeq.list_pop_at l its.toArray n i t k w (fitsIndex_both h1 h2) (by rw [List.size_toArray, ← hl]; exact hk) (by rw [← Array.getElem?_toList]; exact hw) (by rw [List.size_toArray]; omega)) ⟨e, ?_⟩
  refine ⟨y, _, I.lset (its' := its.eraseIdx k) hH e ?_ (r.eraseIdx k) ?_, rw', q⟩
  · show its.toArray.eraseIdxIfInBounds k = (its.eraseIdx k).toArray
    rw [List.eraseIdxIfInBounds_toArray]
  · have := len_erase xs k
    omega

def rReverse : V → List V → Hp → VK → Prop := fun x vs H Q => ∃ l xs, x = .ref l ∧ vs = [] ∧ H l = some (.lst xs) ∧ Q .non (upd H l (.lst xs.reverse))
theorem mt_reverse : MtM X "list.reverse" rReverse := by
  intro pins s σ H x vs v us Q I rx rv h
  obtain ⟨l, xs, rfl, rfl, hH, q⟩ := h
  cases rx
  have hus := rv.zero
  subst hus
  obtain ⟨z, its, n, r, hl, e⟩ := I.lstM hH
  refine call_meets F.slot_list_reverse ⟨_, e, rfl⟩ F.entry_list_reverse (F.args_list_reverse_1 _) (AutoSeq1.list_reverse_list_0 l its.toArray n (by rw [List.size_toArray]; omega)) ⟨e, ?_⟩
  refine ⟨.non, _, I.lset (its' := its.reverse) hH e (by simp) r.reverse ?_, rfl, q⟩
  rw [List.length_reverse]
  omega

def rClear : V → List V → Hp → VK → Prop := fun x vs H Q => ∃ l xs, x = .ref l ∧ vs = [] ∧ H l = some (.lst xs) ∧ Q .non (upd H l (.lst []))
theorem mt_clear : MtM X "list.clear" rClear := by
  intro pins s σ H x vs v us Q I rx rv h
  obtain ⟨l, xs, rfl, rfl, hH, q⟩ := h
  cases rx
  have hus := rv.zero
  subst hus
  obtain ⟨z, its, n, r, hl, e⟩ := I.lstM hH
  refine call_meets F.slot_list_clear ⟨_, e, rfl⟩ F.entry_list_clear (F.args_list_clear_1 _) (AutoSeq1.list_clear_list_0 l its.toArray n (by rw [List.size_toArray]; omega)) ⟨e, ?_⟩
  exact ⟨.non, _, I.lset (its' := []) (ys := []) hH e rfl .nil (Nat.zero_le _), rfl, q⟩

/-! ### list + list, list += list, list * int -/
def rCat : R2 := fun x y H Q => ∃ l b xs zs, x = .ref l ∧ y = .ref b ∧ H l = some (.lst xs) ∧ H b = some (.lst zs) ∧ xs.length + zs.length ≤ sizeLine ∧ ∀ p, H p = none → Q (.ref p) (upd H p (.lst (xs ++ zs)))
theorem op_cat : OpR X (binaryOp .Add) rCat := by
  intro pins s σ H x y v u Q I rx ry h
  obtain ⟨l, b, xs, zs, rfl, rfl, hH, hB, hz, q⟩ := h
  cases rx
  cases ry
  obtain ⟨z, its, n, r, hl, e⟩ := I.lstM hH
  obtain ⟨z2, its2, n2, r2, hl2, e2⟩ := I.lstM hB
  refine PySem.P.add_list e e2 ?_ (by rw [List.size_toArray, List.size_toArray]; omega)
  have ea : its.toArray ++ its2.toArray = (its ++ its2).toArray := by simp
  rw [ea]
  exact ⟨.ref _, _, I.lnew (t' := s.toks) (r.append r2) (by rw [List.length_append]; omega), rfl, q _ I.fresh⟩
/-- a list times an int (a negative one is nothing) -/
def rRep : R2 := fun x y H Q => ∃ l k xs, x = .ref l ∧ y = .int k ∧ H l = some (.lst xs) ∧ -(2 ^ 63) ≤ k ∧ k < 2 ^ 63 ∧ xs.length * k.toNat ≤ sizeLine ∧
  ∀ p, H p = none → Q (.ref p) (upd H p (.lst (List.replicate k.toNat xs).flatten))
theorem len_rep {α : Type} (xs : List α) (k : Nat) : (List.replicate k xs).flatten.length = k * xs.length := by
  induction k with
  | zero => simp
  | succ k ih => rw [List.replicate_succ, List.flatten_cons, List.length_append, ih, Nat.succ_mul, Nat.add_comm]
theorem op_rep : OpR X (binaryOp .Mult) rRep := by
  intro pins s σ H x y v u Q I rx ry h
  obtain ⟨l, k, xs, rfl, rfl, hH, h1, h2, hz, q⟩ := h
  cases rx
  obtain ⟨t, rfl⟩ := ry
  obtain ⟨z, its, n, r, hl, e⟩ := I.lstM hH
  have hlen : its.toArray.size * k.toNat ≤ sizeLine := by rw [List.size_toArray, ← hl]; exact hz
  have hcap : ¬ its.toArray.size * k.toNat > (2 ^ 63 - 1) / 8 := by
    have : (sizeLine : Nat) ≤ (2 ^ 63 - 1) / 8 := by decide
    omega
  have hfit : ¬ (!Builtin.List.listFitsIndex k) = true := by
    rw [fitsIndex_both h1 h2]
    exact Bool.false_ne_true
  have hlong : ¬ Builtin.List.listTooLong (its.toArray.size * k.toNat) = true := by
    rw [notLongL hlen]
    exact Bool.false_ne_true
  have hnew : List.foldl (fun x1 x2 => x1 ++ x2) #[] (List.replicate (if its.toArray.isEmpty = true then 0 else k.toNat) its.toArray) = (List.replicate k.toNat its).flatten.toArray := by
    have f0 : ∀ m : Nat, List.foldl (fun x1 x2 => x1 ++ x2) #[] (List.replicate m its.toArray) = (List.replicate m its).flatten.toArray := fun m => by
      have := foldl_rep its m []
      rw [List.nil_append] at this
      exact this
    rw [f0]
    cases its with
    | nil => simp
    | cons a r' => rw [if_neg (by simp)]
  refine wpAny_binaryOp_repeat_ref (T := "list") (U := "int") (by decide) ⟨_, e, rfl⟩ (fun s' => typeIs_int s' k t) noFill_list_mul F.fills_int_mul F.slot_int_rmul repeat_list F.slot_int_index.lookup
    (call_meets F.slot_int_rmul (typeIs_int s k t) F.entry_int_rmul (F.args_int_rmul_2 _ _) (int___rmul___int_list k t l its.toArray n)
      ⟨e, rfl, ⟨_, e, rfl⟩, call_meets F.slot_list_mul ⟨_, e, rfl⟩ F.entry_list_mul (F.args_list_mul_2 _ _) (AutoListH.list___mul___list_int_3 l its.toArray n k t hfit hcap hlong) ⟨e, ?_⟩⟩)
  rw [hnew]
  exact ⟨.ref _, _, I.lnew (t' := s.toks) (r.rep k.toNat) (by rw [len_rep, Nat.mul_comm]; exact hz), rfl, q _ I.fresh⟩

/-! ### del xs[i] -/
theorem del_list {pins : List (Addr × Obj)} {s : Shared} {σ : St} {H : Hp} {l : Addr} {xs : List V} {i : Int} {t : Tok} {k : Nat} {Q : Unit → Shared → Prop} (I : Inv X pins σ H s) (hH : H l = some (.lst xs))
    (h1 : -(2 ^ 63) ≤ i) (h2 : i < 2 ^ 63) (hk : seqIndex? i xs.length = some k) (h : ∀ s', Inv X pins σ (upd H l (.lst (xs.eraseIdx k))) s' → Q () s') :
    wpAny (model X.prog X.w) X.A (delItem (.ref l) (.int i t)) Q X.xe s := by
  obtain ⟨z, its, n, r, hl, e⟩ := I.lstM hH
  refine PySem.P.delItem_list (k := k) e (fitsIndex_both h1 h2) (by rw [List.size_toArray, ← hl]; exact hk) (h _ ?_) (by rw [List.size_toArray]; omega)
  refine I.lset (its' := its.eraseIdx k) (t' := s.toks) hH e ?_ (r.eraseIdx k) ?_
  · show its.toArray.eraseIdxIfInBounds k = (its.eraseIdx k).toArray
    rw [List.eraseIdxIfInBounds_toArray]
  · have := len_erase xs k
    omega
end

/-! ### xs[a:b] = ys -/
section
variable {prog : Program} {w : World} {A : Around} {E : Value → Shared → Prop} {s : Shared}
theorem splice_eq (its its2 : List Value) (a c : Nat) : its.toArray.extract 0 a ++ its2.toArray ++ its.toArray.extract c its.toArray.size = (its.take a ++ its2 ++ its.drop c).toArray := by
  apply Array.toList_inj.mp
  first
    | (simp
       exact List.take_of_length_le (by simp))
    | simp [List.take_of_length_le]
    | simp
theorem bounds_run {a c n : Nat} (hac : a ≤ c) (hc : c ≤ n) : sliceBounds (some (a : Int)) (some (c : Int)) none n = ((a : Int), (c : Int), 1) := by
  simp only [sliceBounds, Option.getD_none]
  have h1 : ¬ ((a : Int) < 0) := by omega
  have h2 : ¬ ((c : Int) < 0) := by omega
  simp only [h1, h2, if_false, show (1 : Int) > 0 by decide, if_true]
  congr 1
  · omega
  · congr 1; omega
set_option maxRecDepth 100000 in
/-- list.__setitem__ with a slice of step one and another list -/
theorem setItem_slice {l b sl : Addr} {items new : Array Value} {n n2 : Nat} {vl vu : Value} {a c : Nat} {Q : Unit → Shared → Prop}
    (e : s.heap.get? l = some { cls := .type "list", data := .seq items n }) (e2 : s.heap.get? b = some { cls := .type "list", data := .seq new n2 }) (hne : l ≠ b)
    (hs : s.heap.IsSliceOf sl vl vu .none) (pl : IsPart vl (some (a : Int))) (pu : IsPart vu (some (c : Int))) (hac : a ≤ c) (hc : c ≤ items.size)
    (hsz : items.size + new.size ≤ sizeLine) (h : Q () { s with heap := s.heap.update l (Obj.mapSeq fun xs => xs.extract 0 a ++ new ++ xs.extract c xs.size) }) :
    wpAny (model prog w) A (setItem (.ref l) (.ref sl) (.ref b)) Q E s := by
  have hl : s.heap.IsList l items := PySem.IsL.isList e
  have hb : s.heap.IsList b new := PySem.IsL.isList e2
  obtain ⟨os, hos, hcs, hds⟩ := id hs
  have hTs : s.TypeIs (.ref sl) "slice" := ⟨os, hos, hcs⟩
  have hstep : ¬ ((rawPart none == rawInt 0) = true) := Bool.false_ne_true
  have hsame : Builtin.List.listSameRef (.ref l) (.ref b) = false := by
    unfold Builtin.List.listSameRef
    exact beq_eq_false_iff_ne.mpr hne
  have hmax : (max (a : Int) (c : Int)).toNat = c := by omega
  have hz' : ((fun xs : Array Value => xs.extract 0 a ++ new ++ xs.extract c xs.size) items).size ≤ sizeLine + 1 := by
    simp only [Array.size_append, Array.size_extract]
    omega
  unfold setItem
  try with_reducible refine wpAny_holding ?_
  first | refine wpAny_bind (wpAny_pure ?_) | skip
  refine wpAny_bind (wpAny_sequenceKey hl.typeIs (by decide) ?_)
  refine wpAny_bind (wpAny_callSpecial?_slot (name := Str.ofString "__setitem__") hl.typeIs slot_list_setitem
    (wpAny_call_entry slot_list_setitem hl.typeIs entry_list_setitem ?_ (args_list_setitem _ _ _)))
  show wpAny _ _ (Builtin.List.listSubscript? (.ref sl) >>= _) _ _ s
  refine wpAny_bind ?_
  unfold Builtin.List.listSubscript?
  refine wpAny_bind (wpAny_specialOf hTs slice_no_index ?_)
  simp only [Option.isNone_none, if_true]
  refine wpAny_pure ?_
  show wpAny _ _ (typeOf (.ref sl) >>= _) _ _ s
  refine wpAny_bind (wpAny_typeOf hTs ?_)
  first
    | rw [if_neg (by decide)]
    | refine PySem.W.KFB.if_not (by decide) ?_
  rw [listSliceParts_eq]
  refine wpAny_bind (wpAny_bind (wpAny_field hos hds (x := .none) rfl (wpAny_bind (wpAny_listPart .none ?_))))
  rw [if_neg hstep]
  refine wpAny_bind (wpAny_field hos hds (x := vl) rfl (wpAny_bind (wpAny_listPart pl ?_)))
  refine wpAny_bind (wpAny_field hos hds (x := vu) rfl (wpAny_bind (wpAny_listPart pu (wpAny_pure ?_))))
  first
    | simp only [hsame, Bool.false_eq_true, if_false]
    | refine PySem.W.KFB.if_not hsame ?_
    | (dsimp only
       rw [if_neg (by rw [hsame]; exact Bool.false_ne_true)])
  refine wpAny_bind (m := Builtin.List.listAllItems (.ref b) "must assign iterable to extended slice") ?_
  unfold Builtin.List.listAllItems
  refine wpAny_bind (wpAny_typeOf hb.typeIs ?_)
  first
    | refine PySem.W.KFB.if_so (by decide) ?_
    | rw [if_pos (by decide)]
    | simp only [beq_self_eq_true, Bool.true_or, if_true]
  unfold Builtin.List.listItems
  refine wpAny_bind (wpAny_seqItems e2 rfl (wpAny_pure ?_))
  refine wpAny_bind (wpAny_bind (wpAny_seqItems e rfl (wpAny_pure ?_)))
  refine wpAny_bind (wpAny_of_eq ((sliceIndices_raw (some (a : Int)) (some (c : Int)) none items.size (by simp)).trans (congrArg (pure : Int × Int × Int → Sem (Int × Int × Int)) (bounds_run hac hc))) ?_)
  show wpAny _ _ (if ((1 : Int) == 1) = true then _ else _) _ _ s
  rw [if_pos (by decide)]
  refine wpAny_bind (wpAny_rule ?_)
  first
    | simp only [notLongL hsz, Bool.false_eq_true, if_false]
    | refine PySem.W.KFB.if_not (notLongL hsz) ?_
  first | refine wpAny_bind (wpAny_pure ?_) | skip
  show wpAny _ _ (updateSeq l (fun xs => xs.extract 0 ((a : Int)).toNat ++ new ++ xs.extract (max (a : Int) (c : Int)).toNat xs.size) >>= _) _ _ s
  rw [hmax, Int.toNat_natCast]
  refine wpAny_bind (wpAny_updateSeq (hz := Nat.le_trans (Nat.le_add_right _ _) hsz) (_hz' := hz') e rfl ?_)
  refine wpAny_bind (wpAny_letGo ?_)
  first
    | exact wpAny_bind (wpAny_pure (wpAny_pure ⟨.none, rfl, wpAny_pure h⟩))
    | exact wpAny_pure ⟨.none, rfl, wpAny_pure h⟩
end

section
variable {X : Cx}
/-- xs[a:c] = ys of another list, at the value level: sl is the slice object that was just made -/
theorem set_slice {pins : List (Addr × Obj)} {s : Shared} {σ : St} {H : Hp} {l b sl : Addr} {xs ys : List V} {a c : Int} {vl vu : Value} {Q : Unit → Shared → Prop} (I : Inv X pins σ H s)
    (hH : H l = some (.lst xs)) (hB : H b = some (.lst ys)) (hne : l ≠ b) (hs : s.heap.IsSliceOf sl vl vu .none) (ra : RelV (.int a) vl) (rc : RelV (.int c) vu) (h0 : 0 ≤ a) (hac : a ≤ c) (hc : c ≤ xs.length)
    (hz : xs.length + ys.length ≤ sizeLine) (h : ∀ s', Inv X pins σ (upd H l (.lst (xs.take a.toNat ++ ys ++ xs.drop c.toNat))) s' → Q () s') :
    wpAny (model X.prog X.w) X.A (setItem (.ref l) (.ref sl) (.ref b)) Q X.xe s := by
  obtain ⟨ta, rfl⟩ := ra
  obtain ⟨tc, rfl⟩ := rc
  obtain ⟨z, its, n, r, hl, e⟩ := I.lstM hH
  obtain ⟨z2, its2, n2, r2, hl2, e2⟩ := I.lstM hB
  obtain ⟨a', rfl⟩ := Int.eq_ofNat_of_zero_le h0
  obtain ⟨c', rfl⟩ := Int.eq_ofNat_of_zero_le (Int.le_trans h0 hac)
  simp only [Int.toNat_natCast] at h
  refine setItem_slice (a := a') (c := c') e e2 hne hs (.int _ _) (.int _ _) (by omega) (by rw [List.size_toArray]; omega) (by rw [List.size_toArray, List.size_toArray]; omega) (h _ ?_)
  refine I.lset (its' := its.take a' ++ its2 ++ its.drop c') (t' := s.toks) hH e ?_ (Vals.append (Vals.append (r.take _) r2) (r.drop _)) ?_
  · exact splice_eq its its2 a' c'
  · rw [List.length_append, List.length_append, List.length_take, List.length_drop]
    omega
end
end L2
namespace L2
open PySem PySem.Spec PyProof.Rows

/-! ### lists of pairs as tables -/
section
variable {κ : Type} [DecidableEq κ]
def valV (kvs : List (κ × V)) (k : κ) : Option V := (kvs.find? fun kv => decide (kv.1 = k)).map (·.2)
/-- in its place, or at the end -/
def putK (kvs : List (κ × V)) (k : κ) (v : V) : List (κ × V) :=
  if (kvs.any fun kv => decide (kv.1 = k)) = true then kvs.map (fun kv => if kv.1 = k then (kv.1, v) else kv) else kvs ++ [(k, v)]
def dropK (kvs : List (κ × V)) (k : κ) : List (κ × V) := kvs.filter fun kv => decide (kv.1 ≠ k)

theorem valV_nil {k : κ} : valV ([] : List (κ × V)) k = none := rfl
theorem valV_pos {p : κ × V} {r : List (κ × V)} {k : κ} (e : p.1 = k) : valV (p :: r) k = some p.2 := by simp [valV, List.find?_cons, e]
theorem valV_neg {p : κ × V} {r : List (κ × V)} {k : κ} (e : ¬ p.1 = k) : valV (p :: r) k = valV r k := by simp [valV, List.find?_cons, e]
theorem valV_any (k : κ) : ∀ kvs : List (κ × V), (kvs.any fun kv => decide (kv.1 = k)) = (valV kvs k).isSome
  | [] => rfl
  | p :: r => by
    rw [List.any_cons]
    by_cases e : p.1 = k
    · simp only [valV_pos e, decide_eq_true e, Bool.true_or, Option.isSome_some]
    · rw [valV_neg e, decide_eq_false e, Bool.false_or]; exact valV_any k r
theorem valV_map (k j : κ) (y : V) : ∀ kvs : List (κ × V), valV (kvs.map fun kv => if kv.1 = k then (kv.1, y) else kv) j = (valV kvs j).map fun x => if j = k then y else x
  | [] => rfl
  | p :: r => by
    have ih := valV_map k j y r
    rw [List.map_cons]
    by_cases h : p.1 = k
    · rw [if_pos h]
      by_cases e : p.1 = j
      · rw [valV_pos (p := (p.1, y)) e, valV_pos e, Option.map_some, if_pos (e.symm.trans h)]
      · rw [valV_neg (p := (p.1, y)) e, valV_neg e, ih]
    · rw [if_neg h]
      by_cases e : p.1 = j
      · rw [valV_pos (p := p) e, valV_pos e, Option.map_some, if_neg (fun z => h (e.trans z))]
      · rw [valV_neg (p := p) e, valV_neg e, ih]
theorem valV_snoc (k j : κ) (y : V) : ∀ kvs : List (κ × V), valV kvs k = none → valV (kvs ++ [(k, y)]) j = if j = k then some y else valV kvs j
  | [], _ => by
    by_cases e : k = j
    · rw [if_pos e.symm]; exact valV_pos (p := (k, y)) e
    · rw [if_neg (fun z => e z.symm)]; exact valV_neg (p := (k, y)) e
  | p :: r, hn => by
    rw [List.cons_append]
    have hk : ¬ p.1 = k := fun z => by rw [valV_pos z] at hn; cases hn
    rw [valV_neg hk] at hn
    have ih := valV_snoc k j y r hn
    by_cases e : p.1 = j
    · rw [valV_pos e, valV_pos e, if_neg (fun z => hk (e.trans z))]
    · rw [valV_neg e, valV_neg e, ih]
theorem valV_put (kvs : List (κ × V)) (k j : κ) (y : V) : valV (putK kvs k y) j = if j = k then some y else valV kvs j := by
  unfold putK
  by_cases a : (kvs.any fun kv => decide (kv.1 = k)) = true
  · rw [if_pos a, valV_map]
    rw [valV_any] at a
    by_cases e : j = k
    · obtain ⟨x, hx⟩ := Option.isSome_iff_exists.mp a
      rw [if_pos e, e, hx, Option.map_some, if_pos rfl]
    · rw [if_neg e]
      cases valV kvs j with
      | none => rfl
      | some x => rw [Option.map_some, if_neg e]
  · rw [if_neg a]
    refine valV_snoc k j y kvs ?_
    rw [valV_any] at a
    cases q : valV kvs k with
    | none => rfl
    | some x => rw [q] at a; exact (a rfl).elim
theorem length_putK (kvs : List (κ × V)) (k : κ) (v : V) : (putK kvs k v).length ≤ kvs.length + 1 := by
  unfold putK
  split
  · rw [List.length_map]; omega
  · rw [List.length_append, List.length_cons, List.length_nil]; omega
theorem putK_new {kvs : List (κ × V)} {k : κ} (v : V) (h : valV kvs k = none) : putK kvs k v = kvs ++ [(k, v)] := by
  unfold putK
  rw [valV_any, h]
  exact if_neg (by decide)

theorem RelO.isSome_eq {o : Option V} {u : Option Value} (r : RelO o u) : o.isSome = u.isSome := by
  cases o with
  | none => cases u with
    | none => rfl
    | some _ => exact (show False from r).elim
  | some _ => cases u with
    | none => exact (show False from r).elim
    | some _ => rfl
theorem RelO.getD {o : Option V} {u : Option Value} {d : V} {d' : Value} (r : RelO o u) (rd : RelV d d') : RelV (o.getD d) (u.getD d') := by
  cases o with
  | none => cases u with
    | none => exact rd
    | some _ => exact (show False from r).elim
  | some _ => cases u with
    | none => exact (show False from r).elim
    | some _ => exact r

/-- raw tables of the same keys -/
theorem KV.val {kvs : List (κ × V)} {vs : List (κ × Value)} (r : KV kvs vs) (k : κ) : RelO (valV kvs k) (valueAt vs k) := by
  unfold KV at r
  induction r with
  | nil => exact True.intro
  | @cons p q ps qs h t ih =>
    obtain ⟨h1, h2⟩ := h
    by_cases e : p.1 = k
    · have e' : q.1 = k := h1.symm.trans e
      have b : valueAt (q :: qs) k = some q.2 := by simp [valueAt, List.find?_cons, e']
      rw [valV_pos e, b]; exact h2
    · have e' : ¬ q.1 = k := fun z => e (h1.trans z)
      have b : valueAt (q :: qs) k = valueAt qs k := by simp [valueAt, List.find?_cons, e']
      rw [valV_neg e, b]; exact ih
theorem KV.any {kvs : List (κ × V)} {vs : List (κ × Value)} (r : KV kvs vs) (k : κ) : (kvs.any fun kv => decide (kv.1 = k)) = vs.any fun kv => decide (kv.1 = k) := by
  unfold KV at r
  induction r with
  | nil => rfl
  | cons h t ih => rw [List.any_cons, List.any_cons, ih, h.1]
theorem KV.repl {kvs : List (κ × V)} {vs : List (κ × Value)} (r : KV kvs vs) (k : κ) {y : V} {u : Value} (ry : RelV y u) :
    KV (kvs.map fun kv => if kv.1 = k then (kv.1, y) else kv) (vs.map fun kv => if kv.1 = k then (kv.1, u) else kv) := by
  unfold KV at r ⊢
  induction r with
  | nil => exact .nil
  | @cons p q ps qs h t ih =>
    rw [List.map_cons, List.map_cons]
    refine .cons ?_ ih
    obtain ⟨h1, h2⟩ := h
    by_cases e : p.1 = k
    · rw [if_pos e, if_pos (h1.symm.trans e)]; exact ⟨h1, ry⟩
    · rw [if_neg e, if_neg (fun z => e (h1.trans z))]; exact ⟨h1, h2⟩
theorem KV.put {kvs : List (κ × V)} {vs : List (κ × Value)} (r : KV kvs vs) (k : κ) {y : V} {u : Value} (ry : RelV y u) : KV (putK kvs k y) (stored vs k u) := by
  unfold putK stored
  rw [r.any k]
  by_cases e : (vs.any fun kv => decide (kv.1 = k)) = true
  · rw [if_pos e, if_pos e]; exact r.repl k ry
  · rw [if_neg e, if_neg e]; exact Paired.snoc r ⟨rfl, ry⟩
theorem KV.drop {kvs : List (κ × V)} {vs : List (κ × Value)} (r : KV kvs vs) (k : κ) : KV (dropK kvs k) (without vs k) := by
  unfold KV at r ⊢
  unfold dropK without
  induction r with
  | nil => exact .nil
  | @cons p q ps qs h t ih =>
    obtain ⟨h1, h2⟩ := h
    rw [List.filter_cons, List.filter_cons]
    by_cases e : p.1 = k
    · have a : ¬ decide (p.1 ≠ k) = true := by simp [e]
      have b : ¬ decide (q.1 ≠ k) = true := by simp [h1.symm.trans e]
      rw [if_neg a, if_neg b]; exact ih
    · have e' : ¬ q.1 = k := fun z => e (h1.trans z)
      have a : decide (p.1 ≠ k) = true := by simp [e]
      have b : decide (q.1 ≠ k) = true := by simp [e']
      rw [if_pos a, if_pos b]; exact .cons ⟨h1, h2⟩ ih
theorem KV.keys {kvs : List (κ × V)} {vs : List (κ × Value)} (r : KV kvs vs) : kvs.map (·.1) = vs.map (·.1) := by
  unfold KV at r
  induction r with
  | nil => rfl
  | cons h t ih => rw [List.map_cons, List.map_cons, ih, h.1]
theorem KV.length {kvs : List (κ × V)} {vs : List (κ × Value)} (r : KV kvs vs) : kvs.length = vs.length := Paired.length r
theorem dropK_le (kvs : List (κ × V)) (k : κ) : (dropK kvs k).length ≤ kvs.length := List.length_filter_le _ _
end


/-! ### a tracked dict, its keys ints and texts or tuples of these -/
theorem kV_is {P : Program} {w : World} {k : Key} {u : Value} (r : RelV (kV k) u) : (mixKind P w).is k u = true := by
  cases k with
  | inl i => obtain ⟨t, e⟩ := (show ∃ t, u = Value.int i t from r); subst e; exact mixKind_int P w i t
  | inr x => obtain ⟨t, e⟩ := (show ∃ t, u = Value.str x t from r); subst e; exact mixKind_str P w x t
theorem kV_inj {a b : Key} (e : kV a = kV b) : a = b := by
  cases a with
  | inl i => cases b with
    | inl j => have e' : V.int i = V.int j := e; injection e' with e'; rw [e']
    | inr y => exact nomatch (show V.int i = V.str y from e)
  | inr x => cases b with
    | inl j => exact nomatch (show V.str x = V.int j from e)
    | inr y => have e' : V.str x = V.str y := e; injection e' with e'; rw [e']
theorem kVs_inj : ∀ {a b : List Key}, a.map kV = b.map kV → a = b
  | [], [], _ => rfl
  | [], _ :: _, e => by simp at e
  | _ :: _, [], e => by simp at e
  | x :: xs, y :: ys, e => by
    rw [List.map_cons, List.map_cons] at e
    injection e with e1 e2
    rw [kV_inj e1, kVs_inj e2]
theorem items_are {P : Program} {w : World} : ∀ {ks : List Key} {us : List Value}, Vals (ks.map kV) us → ItemsAre (mixKind P w) ks us
  | [], _, r => by rw [List.map_nil] at r; cases r; exact .nil
  | k :: ks, _, r => by
    rw [List.map_cons] at r
    cases r with
    | cons h t => exact .cons (kV_is h) (items_are t)

/-- raw entries of a dict with tuple keys -/
abbrev KT (H : Hp) : List (List Key × V) → List (List Key × Addr × Value) → Prop := Paired fun p q => p.1 = q.1 ∧ H q.2.1 = some (.tup (p.1.map kV)) ∧ RelV p.2 q.2.2
theorem KT.val {H : Hp} {kvs : List (List Key × V)} {xs : List (List Key × Addr × Value)} (r : KT H kvs xs) (k : List Key) : RelO (valV kvs k) ((atKey xs k).map (·.2)) := by
  induction r with
  | nil => exact True.intro
  | @cons p q ps qs h t ih =>
    obtain ⟨h1, _, h2⟩ := h
    by_cases e : p.1 = k
    · have e' : q.1 = k := h1.symm.trans e
      have b : atKey (q :: qs) k = some q.2 := by simp [atKey, List.find?_cons, e']
      rw [valV_pos e, b]; exact h2
    · have e' : ¬ q.1 = k := fun z => e (h1.trans z)
      have b : atKey (q :: qs) k = atKey qs k := by simp [atKey, List.find?_cons, e']
      rw [valV_neg e, b]; exact ih
theorem KT.repl {H : Hp} {kvs : List (List Key × V)} {xs : List (List Key × Addr × Value)} (r : KT H kvs xs) (k : List Key) {y : V} {u : Value} (ry : RelV y u) :
    KT H (kvs.map fun kv => if kv.1 = k then (kv.1, y) else kv) (xs.map (putAt k u)) := by
  induction r with
  | nil => exact .nil
  | @cons p q ps qs h t ih =>
    rw [List.map_cons, List.map_cons]
    refine .cons ?_ ih
    obtain ⟨h1, h2, h3⟩ := h
    unfold putAt
    by_cases e : p.1 = k
    · rw [if_pos e, if_pos (h1.symm.trans e)]; exact ⟨h1, h2, ry⟩
    · rw [if_neg e, if_neg (fun z => e (h1.trans z))]; exact ⟨h1, h2, h3⟩
theorem KT.put {H : Hp} {kvs : List (List Key × V)} {xs : List (List Key × Addr × Value)} (r : KT H kvs xs) (k : List Key) {b : Addr} {y : V} {u : Value} (hb : H b = some (.tup (k.map kV))) (ry : RelV y u) :
    KT H (putK kvs k y) (storedH xs k b u) := by
  have e : (kvs.any fun kv => decide (kv.1 = k)) = (atKey xs k).isSome := by
    rw [valV_any, (r.val k).isSome_eq, Option.isSome_map]
  unfold putK storedH
  rw [e]
  by_cases q : (atKey xs k).isSome = true
  · rw [if_pos q, if_pos q]; exact r.repl k ry
  · rw [if_neg q, if_neg q]; exact Paired.snoc r ⟨rfl, hb, ry⟩
theorem KT.keeps {H H' : Hp} {kvs : List (List Key × V)} {xs : List (List Key × Addr × Value)} (r : KT H kvs xs) (ht : ∀ b ys, H b = some (.tup ys) → H' b = some (.tup ys)) : KT H' kvs xs :=
  Paired.mapP r fun _ _ z => ⟨z.1, ht _ _ z.2.1, z.2.2⟩

section
variable {P : Program} {w : World} {H : Hp} {h : Heap} {a : Addr}
theorem rd_of {u : HO} (ok : HOk P w H h) (e : Rd H a u) : ObjOk P w H h a u := e.ok ok
theorem dk_rd {kvs : List (Key × V)} (ok : HOk P w H h) (e : Rd H a (.dK kvs)) : kvs.length ≤ sizeLine ∧ (a == sysModules) = false ∧ ∃ vs, KV kvs vs ∧ h.DictOf (mixKind P w) a vs :=
  show ObjOk P w H h a (.dK kvs) from rd_of ok e
theorem dk_of {kvs : List (Key × V)} (ok : HOk P w H h) (e : H a = some (.dK kvs)) : kvs.length ≤ sizeLine ∧ (a == sysModules) = false ∧ ∃ vs, KV kvs vs ∧ h.DictOf (mixKind P w) a vs := dk_rd ok (.inl e)
/-- a tracked tuple of ints and texts is a key -/
theorem key_of {ks : List Key} (ok : HOk P w H h) (e : H a = some (.tup (ks.map kV))) : (tupleKind (mixKind P w)).is h ks a := by
  obtain ⟨_, its, r, o, h1, h2, n, h3⟩ := (show ObjOk P w H h a (.tup (ks.map kV)) from ok a _ e)
  exact ⟨o, its.toArray, n, h1, h2, h3, by simpa using items_are r⟩
theorem dt_rd {kvs : List (List Key × V)} (ok : HOk P w H h) (e : Rd H a (.dT kvs)) : kvs.length ≤ sizeLine ∧ (a == sysModules) = false ∧
    ∃ xs, KT H kvs xs ∧ h.DictOfH (tupleKind (mixKind P w)) a xs := by
  obtain ⟨z, y, xs, r, o, es, ep, h1, h2, h3, h4, h5⟩ := (show ObjOk P w H h a (.dT kvs) from rd_of ok e)
  refine ⟨z, y, xs, r, o, es, ep, h1, h2, h3, h4, fun x hx => ?_, h5⟩
  have all : ∀ {l : List (List Key × V)} {m : List (List Key × Addr × Value)}, KT H l m → ∀ x ∈ m, (tupleKind (mixKind P w)).is h x.1 x.2.1 := by
    intro l m q
    induction q with
    | nil => intro x hx; exact nomatch hx
    | @cons p q ps qs hq t ih =>
      intro x hx
      rcases List.mem_cons.mp hx with e | hx
      · subst e
        exact key_of ok (by rw [← hq.1]; exact hq.2.1)
      · exact ih x hx
  exact all r x hx
theorem dt_of {kvs : List (List Key × V)} (ok : HOk P w H h) (e : H a = some (.dT kvs)) : kvs.length ≤ sizeLine ∧ (a == sysModules) = false ∧
    ∃ xs, KT H kvs xs ∧ h.DictOfH (tupleKind (mixKind P w)) a xs := dt_rd ok (.inl e)
end

/-- what the dict at a holds at the key y -/
def DGet (H : Hp) (a : Addr) (y : V) (r : Option V) : Prop :=
  (∃ kvs k, Rd H a (.dK kvs) ∧ y = kV k ∧ r = valV kvs k) ∨ ∃ kvs k b, Rd H a (.dT kvs) ∧ y = .ref b ∧ H b = some (.tup (k.map kV)) ∧ r = valV kvs k
/-- the heap behind a[y] = v -/
def DPut (H : Hp) (a : Addr) (y v : V) (H' : Hp) : Prop :=
  (∃ kvs k, H a = some (.dK kvs) ∧ y = kV k ∧ kvs.length < sizeLine ∧ H' = upd H a (.dK (putK kvs k v))) ∨
  ∃ kvs k b, H a = some (.dT kvs) ∧ y = .ref b ∧ H b = some (.tup (k.map kV)) ∧ kvs.length < sizeLine ∧ H' = upd H a (.dT (putK kvs k v))
theorem DGet.k {H : Hp} {a : Addr} {kvs : List (Key × V)} {k : Key} (e : H a = some (.dK kvs)) : DGet H a (kV k) (valV kvs k) := .inl ⟨kvs, k, .inl e, rfl, rfl⟩
theorem DGet.t {H : Hp} {a b : Addr} {kvs : List (List Key × V)} {k : List Key} (e : H a = some (.dT kvs)) (eb : H b = some (.tup (k.map kV))) : DGet H a (.ref b) (valV kvs k) := .inr ⟨kvs, k, b, .inl e, rfl, eb, rfl⟩
theorem DPut.k {H : Hp} {a : Addr} {kvs : List (Key × V)} {k : Key} {v : V} (e : H a = some (.dK kvs)) (hl : kvs.length < sizeLine) : DPut H a (kV k) v (upd H a (.dK (putK kvs k v))) := .inl ⟨kvs, k, e, rfl, hl, rfl⟩
theorem DPut.t {H : Hp} {a b : Addr} {kvs : List (List Key × V)} {k : List Key} {v : V} (e : H a = some (.dT kvs)) (eb : H b = some (.tup (k.map kV))) (hl : kvs.length < sizeLine) :
    DPut H a (.ref b) v (upd H a (.dT (putK kvs k v))) := .inr ⟨kvs, k, b, e, rfl, eb, hl, rfl⟩


section
variable {X : Cx} {pins : List (Addr × Obj)} {σ : St} {H : Hp} {s : Shared} {a : Addr} {y v : V} {u r : Value} {o : Option V} {A : Around} {E : Value → Shared → Prop}

theorem Inv.big (I : Inv X pins σ H s) : sysModules < s.heap.objs.size := by
  have h : mainGlobals < s.heap.objs.size := (I.mod.glob.keeps I.bk).lt
  exact Nat.lt_trans (by decide) h

/-- d[y], there -/
theorem d_getItem {Q : Value → Shared → Prop} (hu : A.units + 1 < cLine) (I : Inv X pins σ H s) (g : DGet H a y (some v)) (ry : RelV y u) (h : ∀ w' s', Inv X pins σ H s' → RelV v w' → Q w' s') :
    wpAny (model X.prog X.w) A (getItem (.ref a) u) Q E s := by
  rcases g with ⟨kvs, k, e, ey, l⟩ | ⟨kvs, k, b, e, ey, eb, l⟩
  · subst ey
    obtain ⟨z, hd, vs, rel, dd⟩ := dk_rd I.hok e
    obtain ⟨w', hw, rw'⟩ := RelO.some_of (v := v) (o := valueAt vs k) (by rw [l]; exact rel.val k)
    exact wpAny_getItem_of (kV_is ry) dd.mapOf hw (h w' _ (I.tok _) rw')
  · subst ey
    cases (show u = Value.ref b from ry)
    obtain ⟨z, hd, xs, rel, dd⟩ := dt_rd I.hok e
    obtain ⟨w', hw, rw'⟩ := RelO.some_of (v := v) (o := (atKey xs k).map (·.2)) (by rw [l]; exact rel.val k)
    obtain ⟨p, hp, hp2⟩ := Option.map_eq_some_iff.mp hw
    refine wpAny_getItem_heap (tupleKind_room_in1 hu) (key_of I.hok eb) dd hp ?_
    rw [hp2]
    exact h w' _ (I.tok _) rw'
/-- y in d -/
theorem d_in {Q : Value → Shared → Prop} (hu : A.units + 1 < cLine) (I : Inv X pins σ H s) (g : DGet H a y o) (ry : RelV y u) (h : ∀ s', Inv X pins σ H s' → Q (.bool o.isSome) s') :
    wpAny (model X.prog X.w) A (compareOp .In u (.ref a)) Q E s := by
  rcases g with ⟨kvs, k, e, ey, l⟩ | ⟨kvs, k, b, e, ey, eb, l⟩
  · subst ey
    obtain ⟨z, hd, vs, rel, dd⟩ := dk_rd I.hok e
    refine wpAny_in_of (kV_is ry) hd dd.mapOf ?_
    rw [← (rel.val k).isSome_eq, ← l]
    exact h _ (I.tok _)
  · subst ey
    cases (show u = Value.ref b from ry)
    obtain ⟨z, hd, xs, rel, dd⟩ := dt_rd I.hok e
    refine wpAny_in_heap (tupleKind_room_in1 hu) (key_of I.hok eb) hd dd ?_
    have q := (rel.val k).isSome_eq
    rw [Option.isSome_map] at q
    rw [← q, ← l]
    exact h _ (I.tok _)
theorem d_notIn {Q : Value → Shared → Prop} (hu : A.units + 1 < cLine) (I : Inv X pins σ H s) (g : DGet H a y o) (ry : RelV y u) (h : ∀ s', Inv X pins σ H s' → Q (.bool (!o.isSome)) s') :
    wpAny (model X.prog X.w) A (compareOp .NotIn u (.ref a)) Q E s := by
  rcases g with ⟨kvs, k, e, ey, l⟩ | ⟨kvs, k, b, e, ey, eb, l⟩
  · subst ey
    obtain ⟨z, hd, vs, rel, dd⟩ := dk_rd I.hok e
    refine wpAny_notIn_of (kV_is ry) hd dd.mapOf ?_
    rw [← (rel.val k).isSome_eq, ← l]
    exact h _ (I.tok _)
  · subst ey
    cases (show u = Value.ref b from ry)
    obtain ⟨z, hd, xs, rel, dd⟩ := dt_rd I.hok e
    refine wpAny_notIn_heap (tupleKind_room_in1 hu) (key_of I.hok eb) hd dd ?_
    have q := (rel.val k).isSome_eq
    rw [Option.isSome_map] at q
    rw [← q, ← l]
    exact h _ (I.tok _)
/-- a dict's object is replaced -/
theorem d_write {h' : Heap} {t' : Nat} {ob : HO} (I : Inv X pins σ H s) (mu : Mut (H a)) (hs : Heap.SameBut a s.heap h') (he : ∃ q, h'.get? a = some q) (new : ObjOk X.prog X.w (upd H a ob) h' a ob) :
    Inv X pins σ (upd H a ob) { s with heap := h', toks := t' } :=
  I.write (x := a) (e := a) mu (.inl rfl) (fun b q hb z => (hs.2 b hb).trans z) he new
theorem dk_new {P : Program} {w : World} {H' : Hp} {h' : Heap} {kvs : List (Key × V)} {vs : List (Key × Value)} (z : kvs.length ≤ sizeLine) (hd : (a == sysModules) = false) (rel : KV kvs vs) (dd : h'.DictOf (mixKind P w) a vs) :
    ObjOk P w H' h' a (.dK kvs) := ⟨z, hd, vs, rel, dd⟩
/-- d[y] = v -/
theorem d_setItem {H' : Hp} {Q : Unit → Shared → Prop} (hu : A.units + 1 < cLine) (I : Inv X pins σ H s) (g : DPut H a y v H') (ry : RelV y u) (rv : RelV v r) (h : ∀ s', Inv X pins σ H' s' → Q () s') :
    wpAny (model X.prog X.w) A (setItem (.ref a) u r) Q E s := by
  rcases g with ⟨kvs, k, e, ey, l, eH⟩ | ⟨kvs, k, b, e, ey, eb, l, eH⟩
  · subst ey eH
    obtain ⟨z, hd, vs, rel, dd⟩ := dk_of I.hok e
    have hz : vs.length ≤ sizeLine := by rw [← rel.length]; exact z
    have hl : (putK kvs k v).length ≤ sizeLine := by have := length_putK kvs k v; omega
    refine wpAny_setItem_pairs (hsz := hz) (kV_is ry) dd fun h' dd' hs => h _ ?_
    have he : ∃ q, h'.get? a = some q := let ⟨q, _, _, hq, _⟩ := dd'; ⟨q, hq⟩
    exact d_write I (by rw [e]; exact True.intro) hs he (dk_new hl hd (rel.put k rv) dd')
  · subst ey eH
    cases (show u = Value.ref b from ry)
    obtain ⟨z, hd, xs, rel, dd⟩ := dt_of I.hok e
    have hz : xs.length ≤ sizeLine := by rw [← Paired.length rel]; exact z
    have hl : (putK kvs k v).length ≤ sizeLine := by have := length_putK kvs k v; omega
    refine wpAny_setItem_heap (hsz := hz) (tupleKind_room_in1 hu) (key_of I.hok eb) dd fun h' dd' hs => h _ ?_
    obtain ⟨q, es, ep, hq, h2, h3, h4, _, h5⟩ := dd'
    refine d_write I (by rw [e]; exact True.intro) hs ⟨q, hq⟩ ⟨hl, hd, _, (rel.put k eb rv).keeps fun c ys ec => ?_, q, es, ep, hq, h2, h3, h4, h5⟩
    rw [upd_ne (ne_of ec e (fun z => nomatch z))]
    exact ec
end

section
variable {X : Cx} {pins : List (Addr × Obj)} {σ : St} {H : Hp} {s : Shared} {a : Addr} {kvs : List (Key × V)} {k : Key} {u : Value} {A : Around} {E : Value → Shared → Prop}
/-- del d[k] -/
theorem d_delItem {Q : Unit → Shared → Prop} (I : Inv X pins σ H s) (e : H a = some (.dK kvs)) (ry : RelV (kV k) u) (l : (valV kvs k).isSome = true) (h : ∀ s', Inv X pins σ (upd H a (.dK (dropK kvs k))) s' → Q () s') :
    wpAny (model X.prog X.w) A (delItem (.ref a) u) Q E s := by
  obtain ⟨z, hd, vs, rel, dd⟩ := dk_of I.hok e
  refine wpAny_delItem_slot dd.typeIs (by decide) PySem.F.slot_dict_delitem
    (call_meetsIn PySem.F.slot_dict_delitem dd.typeIs PySem.F.entry_dict_delitem (PySem.F.args_dict_delitem_2 _ _) (meets_dict_delitem_pairs (mixKind X.prog X.w) a (kV_is ry)) ⟨vs, dd, by rw [← rel.length]; exact z, by rw [← (rel.val k).isSome_eq]; exact l, fun h' dd' hs => h _ ?_⟩)
  have he : ∃ q, h'.get? a = some q := let ⟨q, _, _, hq, _⟩ := dd'; ⟨q, hq⟩
  exact d_write I (by rw [e]; exact True.intro) hs he (dk_new (Nat.le_trans (dropK_le kvs k) z) hd (rel.drop k) dd')
/-- d.pop(k[, x]), there -/
theorem d_pop {v : V} {more : List Value} {Q : Value → Shared → Prop} (I : Inv X pins σ H s) (e : H a = some (.dK kvs)) (ry : RelV (kV k) u) (l : valV kvs k = some v) (hm : more = [] ∨ ∃ x, more = [x])
    (h : ∀ w' s', Inv X pins σ (upd H a (.dK (dropK kvs k))) s' → RelV v w' → Q w' s') : wpAny (model X.prog X.w) A (call (.builtin "dict.pop") (.ref a :: u :: more)) Q E s := by
  obtain ⟨z, hd, vs, rel, dd⟩ := dk_of I.hok e
  obtain ⟨w', hw, rw'⟩ := RelO.some_of (v := v) (o := valueAt vs k) (by rw [← l]; exact rel.val k)
  have hp : (keyPart u).isSome = true := by
    cases k with
    | inl i => obtain ⟨t, q⟩ := (show ∃ t, u = Value.int i t from ry); subst q; rfl
    | inr x => obtain ⟨t, q⟩ := (show ∃ t, u = Value.str x t from ry); subst q; rfl
  have ha : argsOk "dict.pop" ⟨.ref a :: u :: more, []⟩ := by
    rcases hm with q | ⟨x, q⟩
    · subst q; exact PySem.F.args_dict_pop_2 _ _
    · subst q; exact PySem.F.args_dict_pop_3 _ _ _
  refine call_meetsIn PySem.F.slot_dict_pop dd.typeIs PySem.F.entry_dict_pop ha (meets_dict_pop_there (mixKind X.prog X.w) a (kV_is ry) more hm hp)
    ⟨vs, w', dd, by rw [← rel.length]; exact z, hw, fun h' dd' hs => h w' _ ?_ rw'⟩
  have he : ∃ q, h'.get? a = some q := let ⟨q, _, _, hq, _⟩ := dd'; ⟨q, hq⟩
  exact d_write I (by rw [e]; exact True.intro) hs he (dk_new (Nat.le_trans (dropK_le kvs k) z) hd (rel.drop k) dd')
/-- d.pop(k, x), not there -/
theorem d_popD {r : Value} {Q : Value → Shared → Prop} (I : Inv X pins σ H s) (e : H a = some (.dK kvs)) (ry : RelV (kV k) u) (l : valV kvs k = none) (h : ∀ s', Inv X pins σ H s' → Q r s') :
    wpAny (model X.prog X.w) A (call (.builtin "dict.pop") [.ref a, u, r]) Q E s := by
  obtain ⟨z, hd, vs, rel, dd⟩ := dk_of I.hok e
  have hn : valueAt vs k = none := RelO.none_of (by rw [← l]; exact rel.val k)
  have hp : (keyPart u).isSome = true := by
    cases k with
    | inl i => obtain ⟨t, q⟩ := (show ∃ t, u = Value.int i t from ry); subst q; rfl
    | inr x => obtain ⟨t, q⟩ := (show ∃ t, u = Value.str x t from ry); subst q; rfl
  exact call_meetsIn PySem.F.slot_dict_pop dd.typeIs PySem.F.entry_dict_pop (PySem.F.args_dict_pop_3 _ _ _) (meets_dict_pop_default (mixKind X.prog X.w) a (kV_is ry) hd hp r) ⟨vs, dd, hn, h _ (I.tok _)⟩
/-- d.clear() -/
theorem d_clear {Q : Value → Shared → Prop} (I : Inv X pins σ H s) (e : H a = some (.dK kvs)) (h : ∀ s', Inv X pins σ (upd H a (.dK [])) s' → Q .none s') : wpAny (model X.prog X.w) A (call (.builtin "dict.clear") [.ref a]) Q E s := by
  obtain ⟨z, hd, vs, rel, dd⟩ := dk_of I.hok e
  refine call_meetsIn PySem.F.slot_dict_clear dd.typeIs PySem.F.entry_dict_clear (PySem.F.args_dict_clear_1 _) (meets_dict_clear (mixKind X.prog X.w) a) ⟨vs, dd, by rw [← rel.length]; exact z, fun h' dd' hs => h _ ?_⟩
  have he : ∃ q, h'.get? a = some q := let ⟨q, _, _, hq, _⟩ := dd'; ⟨q, hq⟩
  exact d_write (t' := s.toks) I (by rw [e]; exact True.intro) hs he (dk_new (Nat.zero_le _) hd .nil dd')
/-- len(d) -/
theorem d_len {Q : Value → Shared → Prop} (I : Inv X pins σ H s) (e : Rd H a (.dK kvs)) (h : ∀ t s', Inv X pins σ H s' → Q (.int kvs.length t) s') : wpAny (model X.prog X.w) A (call (.builtin "len") [.ref a]) Q E s := by
  obtain ⟨z, hd, vs, rel, dd⟩ := dk_rd I.hok e
  refine call_len_dict hd dd (by rw [← rel.length]; rw [sizeLine_eq] at z; omega) ?_
  rw [← rel.length]
  exact h _ _ (I.tok _)
/-- if d -/
theorem d_truth {Q : Bool → Shared → Prop} (I : Inv X pins σ H s) (e : Rd H a (.dK kvs)) (h : ∀ s', Inv X pins σ H s' → Q (!kvs.isEmpty) s') : wpAny (model X.prog X.w) A (truthy (.ref a)) Q E s := by
  obtain ⟨z, hd, vs, rel, dd⟩ := dk_rd I.hok e
  refine wpAny_truthy_dict hd dd (by rw [← rel.length]; rw [sizeLine_eq] at z; omega) ?_
  have q : kvs.isEmpty = vs.isEmpty := by cases rel <;> rfl
  rw [← q]
  exact h _ (I.tok _)
end


/-! ### readings and rules -/
/-- the element of a subscription, not a slice -/
def NoSl (i : Expr) : Prop := ∀ ov iv, subscripted i false ov iv = operate [ov, iv] (getItem ov iv)
theorem subD_of {prog : Program} {w : World} {A : Around} {E : Value → Shared → Prop} {s : Shared} {env : Env} {value slice : Expr} {pos : Pos} {T id : String} {Q : Value → Shared → Prop}
    (hl : typeLookup (.type T) "__getitem__" = pure (some (.builtin id))) (hs : NoSl slice)
    (h : wpAny (model prog w) A (eval value env) (fun o s₁ => wpAny (model prog w) A (eval slice env) (fun i s₂ => s₂.TypeIs o T ∧ wpAny (model prog w) A (getItem o i) Q E s₂) E s₁) E s) :
    wpAny (model prog w) A (eval (.Subscript value slice pos) env) Q E s := by
  refine Subscript_ (wpAny_mono h (fun o s₁ h₁ => wpAny_mono h₁ (fun i s₂ h₂ => ?_) fun _ _ x => x) fun _ _ x => x)
  obtain ⟨hT, h₂⟩ := h₂
  unfold subscriptTail
  refine wpAny_bind ?_
  rw [getitemInPython_of_ne hT.not_modules]
  refine wpAny_bind (wpAny_specialOf hT hl ?_)
  have fin : wpAny (model prog w) A (subscripted slice false o i) (fun r s₃ => wpAny (model prog w) A (letTemporaryGo value o r >>= fun _ => pure r) Q E s₃) E s₂ := by
    rw [hs o i]
    exact wpAny_operating (wpAny_mono h₂ (fun r s₃ h₃ => wpAny_bind (wpAny_letTemporaryGo (wpAny_pure h₃))) fun _ _ x => x)
  first
    | exact wpAny_pure (wpAny_bind fin)
    | exact wpAny_bind (wpAny_pure (wpAny_bind fin))
    | exact wpAny_bind fin

theorem dict_typeIs {X : Cx} {pins : List (Addr × Obj)} {σ : St} {H : Hp} {s : Shared} {a : Addr} {y : V} {o : Option V} (I : Inv X pins σ H s) (g : DGet H a y o) : s.TypeIs (.ref a) "dict" := by
  rcases g with ⟨kvs, k, e, _, _⟩ | ⟨kvs, k, b, e, _, _, _⟩
  · obtain ⟨_, _, vs, _, dd⟩ := dk_rd I.hok e
    exact dd.typeIs
  · obtain ⟨_, _, xs, _, dd⟩ := dt_rd I.hok e
    exact dd.typeIs
theorem dict_noDict {X : Cx} {pins : List (Addr × Obj)} {σ : St} {H : Hp} {s : Shared} {a : Addr} {y : V} {o : Option V} (I : Inv X pins σ H s) (g : DGet H a y o) :
    ∀ b, Value.ref a = .ref b → ∃ ob, s.heap.get? b = some ob ∧ ob.dict = none := fun b q => by
  cases q
  rcases g with ⟨kvs, k, e, _, _⟩ | ⟨kvs, k, b, e, _, _, _⟩
  · obtain ⟨_, _, vs, _, ob, _, _, h1, h2, _⟩ := dk_rd I.hok e
    exact ⟨ob, h1, h2.2.1⟩
  · obtain ⟨_, _, xs, _, ob, _, _, h1, h2, _⟩ := dt_rd I.hok e
    exact ⟨ob, h1, h2.2.1⟩

/-- d[y] -/
def tDGet (td ty : TE) : TE := fun σ H Q => td σ H fun x H1 => ty σ H1 fun y H2 => ∃ a v, x = .ref a ∧ DGet H2 a y (some v) ∧ Q v H2
/-- y in d, y not in d -/
def tDIn (ty td : TE) : TE := fun σ H Q => ty σ H fun y H1 => td σ H1 fun x H2 => ∃ a o, x = .ref a ∧ DGet H2 a y o ∧ Q (.bl o.isSome) H2
def tDNotIn (ty td : TE) : TE := fun σ H Q => ty σ H fun y H1 => td σ H1 fun x H2 => ∃ a o, x = .ref a ∧ DGet H2 a y o ∧ Q (.bl (!o.isSome)) H2
/-- d[y] = v -/
def sDPut (td ty tv : TE) : TS := fun D σ H => tv σ H fun v H1 => td σ H1 fun x H2 => ty σ H2 fun y H3 => ∃ a H4, x = .ref a ∧ DPut H3 a y v H4 ∧ D.nx σ H4
/-- d[y] op= v -/
def sDAug (td ty tv : TE) (rd : V → V → Hp → VK → Prop) : TS := fun D σ H => td σ H fun x H1 => ty σ H1 fun y H2 => ∃ a v, x = .ref a ∧ DGet H2 a y (some v) ∧
  tv σ H2 fun y2 H3 => rd v y2 H3 fun z H4 => ∃ H5, DPut H4 a y z H5 ∧ D.nx σ H5
/-- del d[y] -/
def sDDel (td ty : TE) : TS := fun D σ H => td σ H fun x H1 => ty σ H1 fun y H2 => ∃ a kvs k, x = .ref a ∧ H2 a = some (.dK kvs) ∧ y = kV k ∧ (valV kvs k).isSome = true ∧ D.nx σ (upd H2 a (.dK (dropK kvs k)))

section
variable {X : Cx} {o i e value : Expr} {pos pos' tpos : Pos} {td ty tv : TE}
theorem pe_dget (hu : X.A.units + 1 < cLine) (ho : PE X o td) (hi : PE X i ty) (hs : NoSl i) : PE X (.Subscript o i pos) (tDGet td ty) := by
  intro pins s σ H Q I h
  refine subD_of PySem.F.slot_dict_getitem.lookup hs (thn (ho pins s σ H _ I h) fun u s1 ⟨x, H1, I1, rx, q1⟩ => thn (hi pins s1 σ H1 _ I1 q1) fun iv s2 ⟨y, H2, I2, ry, a, v, ex, g, q2⟩ => ?_)
  subst ex
  obtain rfl : u = Value.ref a := rx
  exact ⟨dict_typeIs I2 g, d_getItem hu I2 g ry fun w' s3 I3 rw' => ⟨v, H2, I3, rw', q2⟩⟩
theorem pc_din (hu : X.A.units + 1 < cLine) (hi : PE X i ty) (ho : PE X o td) : PC X .In i o (tDIn ty td) := by
  intro pins s σ H Q I h
  refine thn (hi pins s σ H _ I h) fun iv s1 ⟨y, H1, I1, ry, q1⟩ => thn (ho pins s1 σ H1 _ I1 q1) fun u s2 ⟨x, H2, I2, rx, a, ov, ex, g, q2⟩ => ?_
  subst ex
  obtain rfl : u = Value.ref a := rx
  exact d_in hu I2 g ry fun s3 I3 => ⟨.bl ov.isSome, H2, I3, rfl, q2⟩
theorem pc_dnotin (hu : X.A.units + 1 < cLine) (hi : PE X i ty) (ho : PE X o td) : PC X .NotIn i o (tDNotIn ty td) := by
  intro pins s σ H Q I h
  refine thn (hi pins s σ H _ I h) fun iv s1 ⟨y, H1, I1, ry, q1⟩ => thn (ho pins s1 σ H1 _ I1 q1) fun u s2 ⟨x, H2, I2, rx, a, ov, ex, g, q2⟩ => ?_
  subst ex
  obtain rfl : u = Value.ref a := rx
  exact d_notIn hu I2 g ry fun s3 I3 => ⟨.bl (!ov.isSome), H2, I3, rfl, q2⟩
theorem ps_dput (hu : X.A.units + 1 < cLine) (ho : PE X o td) (hi : PE X i ty) (hv : PE X value tv) (hs : swapsWith value (some (.Subscript o i pos')) pos.line X.env = pure false) :
    PS X (.Assign [.Subscript o i pos'] value pos) (sDPut td ty tv) := by
  intro pins s σ H D I h
  refine wpAny_Assign_Subscript (thn (hv pins s σ H _ I h) fun r s1 ⟨v, H1, I1, rv, q1⟩ => thn (ho pins s1 σ H1 _ I1 q1) fun u s2 ⟨x, H2, I2, rx, q2⟩ => thn (hi pins s2 σ H2 _ I2 q2) fun iv s3 ⟨y, H3, I3, ry, a, H4, ex, g, q3⟩ => ?_) hs
  subst ex
  obtain rfl : u = Value.ref a := rx
  exact d_setItem hu I3 g ry rv fun s4 I4 => ⟨σ, H4, I4, q3⟩
theorem ps_daug {op : Operator} {rd : V → V → Hp → VK → Prop} (hu : X.A.units + 1 < cLine) (ho : PE X o td) (hi : PE X i ty) (hv : PE X value tv) (hop : InOp X op rd)
    (ha : ∀ ov iv new, augStore i ov iv new = (do holding [new, ov, iv] (setItem ov iv new); release [new, ov, iv] []; pure .next)) : PS X (.AugAssign (.Subscript o i tpos) op value pos) (sDAug td ty tv rd) := by
  intro pins s σ H D I h
  refine wpAny_AugAssign_SubscriptAny (thn (ho pins s σ H _ I h) fun u s1 ⟨x, H1, I1, rx, q1⟩ => thn (hi pins s1 σ H1 _ I1 q1) fun iv s2 ⟨y, H2, I2, ry, a, v, ex, g, q2⟩ => ?_) ha
  subst ex
  obtain rfl : u = Value.ref a := rx
  refine d_getItem hu I2 g ry fun w' s3 I3 rw' => thn (hv pins s3 σ H2 _ I3 q2) fun w2 s4 ⟨y2, H3, I4, ry2, q3⟩ => thn (hop pins s4 σ H3 v y2 w' w2 _ I4 rw' ry2 q3) fun w3 s5 ⟨z, H4, I5, rz, H5, g5, q4⟩ => ?_
  exact d_setItem hu I5 g5 ry rz fun s6 I6 => ⟨σ, H5, I6, q4⟩
theorem ps_ddel (ho : PE X o td) (hi : PE X i ty) : PS X (.Delete [.Subscript o i tpos] pos) (sDDel td ty) := by
  intro pins s σ H D I h
  refine wpAny_Delete (wpAny_deleteEach_cons (wpAny_delete_Subscript (thn (ho pins s σ H _ I h) fun u s1 ⟨x, H1, I1, rx, q1⟩ => thn (hi pins s1 σ H1 _ I1 q1) fun iv s2 ⟨y, H2, I2, ry, a, kvs, k, ex, e, ey, l, q2⟩ => ?_)))
  subst ex ey
  obtain rfl : u = Value.ref a := rx
  exact d_delItem I2 e ry l fun s3 I3 => wpAny_deleteEach_nil ⟨σ, _, I3, q2⟩
end


/-! ### displays -/
theorem dk_empty {P : Program} {w : World} {H : Hp} (h : Heap) (hb : sysModules < h.objs.size) : ObjOk P w H (h.push { cls := .type "dict", data := .dict #[] }) h.objs.size (.dK []) :=
  ⟨Nat.zero_le _, beq_eq_false_iff_ne.mpr (Ne.symm (Nat.ne_of_lt hb)), [], .nil, Heap.DictOf.new h⟩
theorem dt_empty {P : Program} {w : World} {H : Hp} (h : Heap) (hb : sysModules < h.objs.size) : ObjOk P w H (h.push { cls := .type "dict", data := .dict #[] }) h.objs.size (.dT []) :=
  ⟨Nat.zero_le _, beq_eq_false_iff_ne.mpr (Ne.symm (Nat.ne_of_lt hb)), [], .nil, _, #[], 0, Heap.get?_push_size _ rfl, ⟨rfl, rfl, rfl⟩, rfl, rfl, List.nodup_nil⟩
/-- {}, to be a dict of the kind that is wanted -/
def tDNewK : TE := fun _ H Q => ∀ p, H p = none → Q (.ref p) (upd H p (.dK []))
def tDNewT : TE := fun _ H Q => ∀ p, H p = none → Q (.ref p) (upd H p (.dT []))
section
variable {X : Cx} {pos : Pos}
theorem pe_dnewK : PE X (.Dict [] [] pos) tDNewK := fun pins s σ H Q I h =>
  wpAny_Dict_empty ⟨.ref s.heap.objs.size, _, I.laid (a := s.heap.objs.size) (o := .dK []) (t' := s.toks) (fun _ _ q => Heap.get?_push_of_some _ q) (Nat.le_refl _) (dk_empty s.heap I.big), rfl, h _ (I.hok.fresh (Nat.le_refl _))⟩
theorem pe_dnewT : PE X (.Dict [] [] pos) tDNewT := fun pins s σ H Q I h =>
  wpAny_Dict_empty ⟨.ref s.heap.objs.size, _, I.laid (a := s.heap.objs.size) (o := .dT []) (t' := s.toks) (fun _ _ q => Heap.get?_push_of_some _ q) (Nat.le_refl _) (dt_empty s.heap I.big), rfl, h _ (I.hok.fresh (Nat.le_refl _))⟩
end

/-- the pairs of a display, from the left -/
def tPairs : List (TE × TE) → St → Hp → (List (V × V) → Hp → Prop) → Prop
  | [], _, H, Q => Q [] H
  | (tk, tv) :: r, σ, H, Q => tk σ H fun x H1 => tv σ H1 fun y H2 => tPairs r σ H2 fun ps H3 => Q ((x, y) :: ps) H3
abbrev VV : List (V × V) → List (Value × Value) → Prop := Paired fun p q => RelV p.1 q.1 ∧ RelV p.2 q.2
def PPs (X : Cx) (pos : Pos) (keys : List (Option Expr)) (values : List Expr) (trs : List (TE × TE)) : Prop :=
  ∀ (pins : List (Addr × Obj)) (s : Shared) (σ : St) (H : Hp) (Q : List (V × V) → Hp → Prop), Inv X pins σ H s → tPairs trs σ H Q →
    wpAny (model X.prog X.w) X.A (evalPairs (pairTrees keys values X.env pos)) (fun vs s' => ∃ ps H', Inv X pins σ H' s' ∧ VV ps vs ∧ Q ps H') X.xe s
theorem pps_nil {X : Cx} {pos : Pos} : PPs X pos [] [] [] := fun pins s σ H Q I h => pairTrees_nil_walk ⟨[], H, I, .nil, h⟩
theorem pps_cons {X : Cx} {pos : Pos} {k v : Expr} {ks : List (Option Expr)} {vs : List Expr} {tk tv : TE} {trs : List (TE × TE)} (hk : PE X k tk) (hv : PE X v tv) (hr : PPs X pos ks vs trs) :
    PPs X pos (some k :: ks) (v :: vs) ((tk, tv) :: trs) := fun pins s σ H Q I h =>
  pairTrees_cons_walk (thn (hk pins s σ H _ I h) fun u s1 ⟨x, H1, I1, rx, q1⟩ => thn (hv pins s1 σ H1 _ I1 q1) fun w2 s2 ⟨y, H2, I2, ry, q2⟩ =>
    thn (hr pins s2 σ H2 _ I2 q2) fun ws s3 ⟨ps, H3, I3, rel, q3⟩ => ⟨(x, y) :: ps, H3, I3, .cons ⟨rx, ry⟩ rel, q3⟩)

def mergeK (kvs more : List (Key × V)) : List (Key × V) := more.foldl (fun acc kv => putK acc kv.1 kv.2) kvs
theorem KV.merge : ∀ {more : List (Key × V)} {rs : List (Key × Value)} {kvs : List (Key × V)} {vs : List (Key × Value)}, KV more rs → KV kvs vs → KV (mergeK kvs more) (merged vs rs) := by
  intro more rs kvs vs r
  unfold KV at r
  induction r generalizing kvs vs with
  | nil => intro q; exact q
  | @cons p q ps qs h t ih =>
    intro r0
    have e : KV (putK kvs p.1 p.2) (stored vs q.1 q.2) := by
      have := r0.put p.1 h.2
      rw [← h.1]; exact this
    exact ih e
theorem length_mergeK : ∀ (more kvs : List (Key × V)), (mergeK kvs more).length ≤ kvs.length + more.length
  | [], kvs => by show kvs.length ≤ kvs.length + 0; omega
  | p :: r, kvs => by
    have h1 := length_mergeK r (putK kvs p.1 p.2)
    have h2 := length_putK kvs p.1 p.2
    show (mergeK (putK kvs p.1 p.2) r).length ≤ _
    rw [List.length_cons]; omega
theorem carries_of {P : Program} {w : World} : ∀ {kvs : List (Key × V)} {ws : List (Value × Value)}, VV (kvs.map fun kv => (kV kv.1, kv.2)) ws → ∃ rs, Carries (mixKind P w) ws rs ∧ KV kvs rs
  | [], _, r => by rw [List.map_nil] at r; cases r; exact ⟨[], True.intro, .nil⟩
  | p :: kvs, _, r => by
    rw [List.map_cons] at r
    cases r with
    | @cons a b as bs h t =>
      obtain ⟨rs, c, q⟩ := carries_of (P := P) (w := w) t
      obtain ⟨b1, b2⟩ := b
      exact ⟨(p.1, b2) :: rs, ⟨kV_is h.1, rfl, c⟩, .cons ⟨rfl, h.2⟩ q⟩
/-- {k: v, ..} with keys ints and texts; the new dict stands empty while the pairs are made -/
def tDisp (trs : List (TE × TE)) : TE := fun σ H Q => ∀ p, H p = none → tPairs trs σ (upd H p (.dK [])) fun ps H2 => H2 p = some (.dK []) ∧ ∃ kvs : List (Key × V), ps = kvs.map (fun kv => (kV kv.1, kv.2)) ∧ kvs.length ≤ 15 ∧ Q (.ref p) (upd H2 p (.dK (mergeK [] kvs)))
theorem pe_disp {X : Cx} {pos : Pos} {keys : List (Option Expr)} {values : List Expr} {trs : List (TE × TE)} (h : PPs X pos keys values trs) (hall : keys.all (·.isSome) = true) (hl : keys.length = values.length) (h0 : keys ≠ [])
    (h15 : keys.length ≤ 15) : PE X (.Dict keys values pos) (tDisp trs) := by
  intro pins s σ H Q I q
  have hn := I.hok.fresh (Nat.le_refl s.heap.objs.size)
  have I1 := I.laid (a := s.heap.objs.size) (o := .dK []) (h' := s.heap.push { cls := .type "dict", data := .dict #[] }) (t' := s.toks) (fun _ _ q => Heap.get?_push_of_some _ q) (Nat.le_refl _) (dk_empty s.heap I.big)
  refine wpAny_Dict_walk (knd := mixKind X.prog X.w) hall hl h0 h15 (thn (h pins _ σ _ _ I1 (q _ hn)) fun ws s2 ⟨ps, H2, I2, rel, e, kvs, ep, lk, q2⟩ => ?_)
  subst ep
  obtain ⟨rs, c, rk⟩ := carries_of (P := X.prog) (w := X.w) rel
  obtain ⟨z, hd, vs0, r0, dd⟩ := dk_of I2.hok e
  cases r0
  refine ⟨rs, c, dd, fun h' dd' hs => ⟨.ref s.heap.objs.size, _, ?_, rfl, q2⟩⟩
  have hz : (mergeK [] kvs).length ≤ sizeLine := by
    have h1 := length_mergeK kvs []
    rw [List.length_nil] at h1
    rw [sizeLine_eq]; omega
  have he : ∃ q, h'.get? s.heap.objs.size = some q := let ⟨q, _, _, hq, _⟩ := dd'; ⟨q, hq⟩
  exact d_write I2 (by rw [e]; exact True.intro) hs he (dk_new hz hd (rk.merge .nil) dd')


/-! ### methods -/
/-- a method call o.m(e) of a built-in, with one argument: what must be seen of the text -/
structure M1 (X : Cx) (o : Expr) (m : Str) (apos : Pos) (e : Expr) (cpos : Pos) : Prop where
  base : attributeBase o m X.env (eval o X.env) = eval o X.env
  few : ((backTo cpos (starEach [e] X.env)).all (fun x => !x.1) && (backToKw cpos (keywordEach [] X.env)).all (fun x => x.1.isSome)
    && decide (([e] : List Expr).length + ([] : List Keyword).length + (if ([] : List Keyword).isEmpty then 0 else 1) < 30)) = true
  line : (apos.endLine == cpos.line) = true
  trees : backTo cpos (starEach [e] X.env) = [(false, eval e X.env)]
structure M2 (X : Cx) (o : Expr) (m : Str) (apos : Pos) (e f : Expr) (cpos : Pos) : Prop where
  base : attributeBase o m X.env (eval o X.env) = eval o X.env
  few : ((backTo cpos (starEach [e, f] X.env)).all (fun x => !x.1) && (backToKw cpos (keywordEach [] X.env)).all (fun x => x.1.isSome)
    && decide (([e, f] : List Expr).length + ([] : List Keyword).length + (if ([] : List Keyword).isEmpty then 0 else 1) < 30)) = true
  line : (apos.endLine == cpos.line) = true
  trees : backTo cpos (starEach [e, f] X.env) = [(false, eval e X.env), (false, eval f X.env)]

/-- a is a dict, whatever its keys -/
def IsD (H : Hp) (a : Addr) : Prop := (∃ kvs, Rd H a (.dK kvs)) ∨ ∃ kvs, Rd H a (.dT kvs)
theorem isD_at {X : Cx} {pins : List (Addr × Obj)} {σ : St} {H : Hp} {s : Shared} {a : Addr} (I : Inv X pins σ H s) (d : IsD H a) :
    s.TypeIs (.ref a) "dict" ∧ (∀ b, Value.ref a = .ref b → ∃ ob, s.heap.get? b = some ob ∧ ob.dict = none) ∧ (a == sysModules) = false := by
  rcases d with ⟨kvs, e⟩ | ⟨kvs, e⟩
  · obtain ⟨_, hd, vs, _, dd⟩ := dk_rd I.hok e
    refine ⟨dd.typeIs, fun b q => ?_, hd⟩
    cases q
    obtain ⟨ob, _, _, h1, h2, _⟩ := dd
    exact ⟨ob, h1, h2.2.1⟩
  · obtain ⟨_, hd, xs, _, dd⟩ := dt_rd I.hok e
    refine ⟨dd.typeIs, fun b q => ?_, hd⟩
    cases q
    obtain ⟨ob, _, _, h1, h2, _⟩ := dd
    exact ⟨ob, h1, h2.2.1⟩

section
variable {X : Cx} {pins : List (Addr × Obj)} {σ : St} {H : Hp} {s : Shared} {a : Addr} {y d : V} {u r : Value} {o : Option V} {A : Around} {E : Value → Shared → Prop}
/-- d.get(y) -/
theorem d_get1 {Q : Value → Shared → Prop} (hu : A.units + 1 < cLine) (I : Inv X pins σ H s) (g : DGet H a y o) (ry : RelV y u) (h : ∀ w' s', Inv X pins σ H s' → RelV (o.getD .non) w' → Q w' s') :
    wpAny (model X.prog X.w) A (call (.builtin "dict.get") [.ref a, u]) Q E s := by
  rcases g with ⟨kvs, k, e, ey, l⟩ | ⟨kvs, k, b, e, ey, eb, l⟩
  · subst ey
    obtain ⟨z, hd, vs, rel, dd⟩ := dk_rd I.hok e
    refine call_meetsIn PySem.F.slot_dict_get dd.typeIs PySem.F.entry_dict_get (PySem.F.args_dict_get_2 _ _) (meets_dict_get (mixKind X.prog X.w) a (kV_is ry) hd) ⟨_, dd.mapOf, h _ _ (I.tok _) ?_⟩
    rw [l]
    exact (rel.val k).getD rfl
  · subst ey
    cases (show u = Value.ref b from ry)
    obtain ⟨z, hd, xs, rel, dd⟩ := dt_rd I.hok e
    refine call_meetsIn PySem.F.slot_dict_get dd.typeIs PySem.F.entry_dict_get (PySem.F.args_dict_get_2 _ _) (meetsH_dict_get (tupleKind (mixKind X.prog X.w)) a b hd) ⟨tupleKind_room_in1 hu, k, xs, key_of I.hok eb, dd, h _ _ (I.tok _) ?_⟩
    rw [l]
    exact (rel.val k).getD rfl
/-- d.get(y, x) -/
theorem d_get2 {Q : Value → Shared → Prop} (hu : A.units + 1 < cLine) (I : Inv X pins σ H s) (g : DGet H a y o) (ry : RelV y u) (rd : RelV d r) (h : ∀ w' s', Inv X pins σ H s' → RelV (o.getD d) w' → Q w' s') :
    wpAny (model X.prog X.w) A (call (.builtin "dict.get") [.ref a, u, r]) Q E s := by
  rcases g with ⟨kvs, k, e, ey, l⟩ | ⟨kvs, k, b, e, ey, eb, l⟩
  · subst ey
    obtain ⟨z, hd, vs, rel, dd⟩ := dk_rd I.hok e
    refine call_meetsIn PySem.F.slot_dict_get dd.typeIs PySem.F.entry_dict_get (PySem.F.args_dict_get_3 _ _ _) (meets_dict_get_default (mixKind X.prog X.w) a (kV_is ry) hd r) ⟨_, dd.mapOf, h _ _ (I.tok _) ?_⟩
    rw [l]
    exact (rel.val k).getD rd
  · subst ey
    cases (show u = Value.ref b from ry)
    obtain ⟨z, hd, xs, rel, dd⟩ := dt_rd I.hok e
    refine call_meetsIn PySem.F.slot_dict_get dd.typeIs PySem.F.entry_dict_get (PySem.F.args_dict_get_3 _ _ _) (meetsH_dict_get_default (tupleKind (mixKind X.prog X.w)) a b hd r) ⟨tupleKind_room_in1 hu, k, xs, key_of I.hok eb, dd, h _ _ (I.tok _) ?_⟩
    rw [l]
    exact (rel.val k).getD rd
end

def tDGet1 (td ty : TE) : TE := fun σ H Q => td σ H fun x H1 => ∃ a, x = .ref a ∧ IsD H1 a ∧ ty σ H1 fun y H2 => ∃ o, DGet H2 a y o ∧ Q (o.getD .non) H2
def tDGet2 (td ty tx : TE) : TE := fun σ H Q => td σ H fun x H1 => ∃ a, x = .ref a ∧ IsD H1 a ∧ ty σ H1 fun y H2 => tx σ H2 fun z H3 => ∃ o, DGet H3 a y o ∧ Q (o.getD z) H3
/-- d.pop(k): there; d.pop(k, x): there or not -/
def tDPop1 (td ty : TE) : TE := fun σ H Q => td σ H fun x H1 => ∃ a, x = .ref a ∧ IsD H1 a ∧ ty σ H1 fun y H2 => ∃ kvs k v, H2 a = some (.dK kvs) ∧ y = kV k ∧ valV kvs k = some v ∧ Q v (upd H2 a (.dK (dropK kvs k)))
def tDPop2 (td ty tx : TE) : TE := fun σ H Q => td σ H fun x H1 => ∃ a, x = .ref a ∧ IsD H1 a ∧ ty σ H1 fun y H2 => tx σ H2 fun z H3 => ∃ kvs k, H3 a = some (.dK kvs) ∧ y = kV k ∧
  (∀ v, valV kvs k = some v → Q v (upd H3 a (.dK (dropK kvs k)))) ∧ (valV kvs k = none → Q z H3)
section
variable {X : Cx} {o e f : Expr} {apos cpos : Pos} {td ty tx : TE}
theorem pe_dget1 (hu : X.A.units + 1 < cLine) (ho : PE X o td) (he : PE X e ty) (m : M1 X o "get" apos e cpos) : PE X (.Call (.Attribute o "get" apos) [e] [] cpos) (tDGet1 td ty) := by
  intro pins s σ H Q I h
  refine wpAny_Call_method m.base m.few m.line PySem.F.plainAttrs_dict PySem.F.slot_dict_get PySem.F.type_dict_get (thn (ho pins s σ H _ I h) fun u s1 ⟨x, H1, I1, rx, a, ex, d, q1⟩ => ?_)
  subst ex
  obtain rfl : u = Value.ref a := rx
  obtain ⟨t1, t2, _⟩ := isD_at I1 d
  refine ⟨t1, t2, ?_⟩
  rw [m.trees]
  refine Calls.callWith_builtin rfl (Calls.evalArgs_plain (Calls.spliced_cons (thn (he pins s1 σ H1 _ I1 q1) fun iv s2 ⟨y, H2, I2, ry, ov, g, q2⟩ => Calls.spliced_nil ?_)))
  exact d_get1 hu I2 g ry fun w' s3 I3 rw' => ⟨_, H2, I3, rw', q2⟩
theorem pe_dget2 (hu : X.A.units + 1 < cLine) (ho : PE X o td) (he : PE X e ty) (hf : PE X f tx) (m : M2 X o "get" apos e f cpos) : PE X (.Call (.Attribute o "get" apos) [e, f] [] cpos) (tDGet2 td ty tx) := by
  intro pins s σ H Q I h
  refine wpAny_Call_method m.base m.few m.line PySem.F.plainAttrs_dict PySem.F.slot_dict_get PySem.F.type_dict_get (thn (ho pins s σ H _ I h) fun u s1 ⟨x, H1, I1, rx, a, ex, d, q1⟩ => ?_)
  subst ex
  obtain rfl : u = Value.ref a := rx
  obtain ⟨t1, t2, _⟩ := isD_at I1 d
  refine ⟨t1, t2, ?_⟩
  rw [m.trees]
  refine Calls.callWith_builtin rfl (Calls.evalArgs_plain (Calls.spliced_cons (thn (he pins s1 σ H1 _ I1 q1) fun iv s2 ⟨y, H2, I2, ry, q2⟩ =>
    Calls.spliced_cons (thn (hf pins s2 σ H2 _ I2 q2) fun fv s3 ⟨z, H3, I3, rz, ov, g, q3⟩ => Calls.spliced_nil ?_))))
  exact d_get2 hu I3 g ry rz fun w' s4 I4 rw' => ⟨_, H3, I4, rw', q3⟩
theorem pe_dpop1 (ho : PE X o td) (he : PE X e ty) (m : M1 X o "pop" apos e cpos) : PE X (.Call (.Attribute o "pop" apos) [e] [] cpos) (tDPop1 td ty) := by
  intro pins s σ H Q I h
  refine wpAny_Call_method m.base m.few m.line PySem.F.plainAttrs_dict PySem.F.slot_dict_pop PySem.F.type_dict_pop (thn (ho pins s σ H _ I h) fun u s1 ⟨x, H1, I1, rx, a, ex, d, q1⟩ => ?_)
  subst ex
  obtain rfl : u = Value.ref a := rx
  obtain ⟨t1, t2, _⟩ := isD_at I1 d
  refine ⟨t1, t2, ?_⟩
  rw [m.trees]
  refine Calls.callWith_builtin rfl (Calls.evalArgs_plain (Calls.spliced_cons (thn (he pins s1 σ H1 _ I1 q1) fun iv s2 ⟨y, H2, I2, ry, kvs, k, v, ea, ey, l, q2⟩ => Calls.spliced_nil ?_)))
  subst ey
  exact d_pop I2 ea ry l (.inl rfl) fun w' s3 I3 rw' => ⟨v, _, I3, rw', q2⟩
theorem pe_dpop2 (ho : PE X o td) (he : PE X e ty) (hf : PE X f tx) (m : M2 X o "pop" apos e f cpos) : PE X (.Call (.Attribute o "pop" apos) [e, f] [] cpos) (tDPop2 td ty tx) := by
  intro pins s σ H Q I h
  refine wpAny_Call_method m.base m.few m.line PySem.F.plainAttrs_dict PySem.F.slot_dict_pop PySem.F.type_dict_pop (thn (ho pins s σ H _ I h) fun u s1 ⟨x, H1, I1, rx, a, ex, d, q1⟩ => ?_)
  subst ex
  obtain rfl : u = Value.ref a := rx
  obtain ⟨t1, t2, _⟩ := isD_at I1 d
  refine ⟨t1, t2, ?_⟩
  rw [m.trees]
  refine Calls.callWith_builtin rfl (Calls.evalArgs_plain (Calls.spliced_cons (thn (he pins s1 σ H1 _ I1 q1) fun iv s2 ⟨y, H2, I2, ry, q2⟩ =>
    Calls.spliced_cons (thn (hf pins s2 σ H2 _ I2 q2) fun fv s3 ⟨z, H3, I3, rz, kvs, k, ea, ey, q3, q4⟩ => Calls.spliced_nil ?_))))
  subst ey
  cases l : valV kvs k with
  | some v => exact d_pop I3 ea ry l (.inr ⟨fv, rfl⟩) fun w' s4 I4 rw' => ⟨v, _, I4, rw', q3 v l⟩
  | none => exact d_popD I3 ea ry l fun s4 I4 => ⟨z, H3, I4, rz, q4 l⟩
end

/-! ### dict(d): a copy -/
section
variable {X : Cx} {pins : List (Addr × Obj)} {σ : St} {H : Hp} {s : Shared} {a : Addr} {kvs : List (Key × V)} {A : Around} {E : Value → Shared → Prop}
theorem d_copyOf {Q : Value → Shared → Prop} (I : Inv X pins σ H s) (e : Rd H a (.dK kvs)) (h : ∀ p s', H p = none → Inv X pins σ (upd H p (.dK kvs)) s' → Q (.ref p) s') : wpAny (model X.prog X.w) A (call (.type "dict") [.ref a]) Q E s := by
  obtain ⟨z, hd, vs, rel, dd⟩ := dk_rd I.hok e
  refine kt_call_dict hd dd (by rw [← rel.length]; exact z) fun h' dd' hs => ?_
  refine h _ _ (I.hok.fresh (Nat.le_refl _)) (I.laid (a := s.heap.objs.size) (o := .dK kvs) (t' := s.toks) (fun b q hq => ?_) (Nat.le_refl _) (dk_new z (beq_eq_false_iff_ne.mpr (Ne.symm (Nat.ne_of_lt I.big))) rel dd'))
  exact (hs.2 b (Nat.ne_of_lt (Heap.lt_size hq))).trans (Heap.get?_push_of_some _ hq)
end


section
variable {X : Cx} {pins : List (Addr × Obj)} {σ : St} {H : Hp} {s : Shared} {a : Addr} {y : V} {u : Value} {A : Around} {E : Value → Shared → Prop}
/-- d[y], not there: a KeyError -/
theorem d_missing {Q : Value → Shared → Prop} (hu : A.units + 1 < cLine) (hh : A.handled = none) (I : Inv X pins σ H s) (g : DGet H a y none) (ry : RelV y u)
    (h : ∀ h' e t', Heap.NewExc s.heap h' e "KeyError" → E (.ref e) { s with heap := h', toks := t' }) : wpAny (model X.prog X.w) A (getItem (.ref a) u) Q E s := by
  rcases g with ⟨kvs, k, e, ey, l⟩ | ⟨kvs, k, b, e, ey, eb, l⟩
  · subst ey
    obtain ⟨z, hd, vs, rel, dd⟩ := dk_rd I.hok e
    have hn : valueAt vs k = none := RelO.none_of (by rw [l]; exact rel.val k)
    exact wpAny_getItem_missing_of (kV_is ry) hd hh dd.mapOf hn fun h' ex ne => h h' ex _ ne
  · subst ey
    cases (show u = Value.ref b from ry)
    obtain ⟨z, hd, xs, rel, dd⟩ := dt_rd I.hok e
    have hn : (atKey xs k).map (·.2) = none := RelO.none_of (by rw [l]; exact rel.val k)
    exact wpAny_getItem_missing_heap (tupleKind_room_in1 hu) (key_of I.hok eb) hd hh dd (Option.map_eq_none_iff.mp hn) fun h' ex ne => h h' ex _ ne
end
end L2
namespace Att
open PySem PySem.W PySem.Calls PyProof.Rows

/-! ### the script -/
theorem ints_of_wellAll {P : Params} {h : Heap} : ∀ (ns : List Int) (vs : List Value), WellAll P h vs (ns.map WData.int) → IntsAre vs ns := by
  intro ns
  induction ns with
  | nil =>
    intro vs w
    rw [List.map_nil] at w
    cases w
    exact .nil
  | cons n ns ih =>
    intro vs w
    rw [List.map_cons] at w
    cases w with
    | cons a b =>
      cases a
      exact .cons _ _ (ih _ b)

theorem script_of {l : OpenLaw} {n : Nat} (hn : l.most = some n) {P : Params} {h : Heap} {args : List WData} {vals : List Value}
    (hpre : l.row.toRowW.claim.pre args = true) (hwl : WellAll P h vals args) :
    ∃ a vs ns, vals = [Value.ref a] ∧ args = [WData.list (ns.map WData.int)] ∧ h.get? a = some { cls := .type "list", data := .seq vs.toArray } ∧ IntsAre vs ns ∧ ns.length ≤ n := by
  have hsh : WShape.hasAll [] args [.list .int] = true := (pre_splitW hpre).1
  have hc : l.pre.holds [] { args := args } = true := (pre_splitW hpre).2
  obtain ⟨d, r, rfl, h1, h2⟩ := hasAllW_cons hsh
  obtain rfl := hasAllW_nil h2
  obtain ⟨xs, rfl, h3⟩ := hasW_list h1
  obtain ⟨ns, rfl⟩ := items_int h3
  have hlen : ns.length ≤ n := by
    unfold OpenLaw.pre at hc
    have h4 : (WTm.not (.lt (.lit (.int (n : Int))) (.len (.arg 0)))).holds [] { args := [.list (ns.map .int)] } = true := by
      have h4 := (holds_andW hc).1
      rw [hn] at h4
      exact h4
    have h5 := condW_of h4 (w_not (w_lt w_lit (w_len_list (w_arg rfl))))
    rw [List.length_map] at h5
    refine Nat.le_of_not_lt fun q => ?_
    have q' : (n : Int) < ((ns.length : Nat) : Int) := by omega
    first
      | (rw [decide_eq_true q'] at h5; exact absurd h5 (by decide))
      | (simp at h5; omega)
  cases hwl with
  | cons w1 w2 =>
    cases w2
    cases w1 with
    | list ho hall => exact ⟨_, _, ns, rfl, rfl, ho, ints_of_wellAll ns _ hall, hlen⟩

theorem post_true (l : OpenLaw) (args : List WData) : l.row.toRowW.claim.post args (.bool true) args = true :=
  postW_of (r := l.row.toRowW) (X := (true == true))
    (show WShape.has [] (.bool true) .bool = true by first | rfl | decide | simp [WShape.has, WShape.arms, WShape.armsAll])
    (show (WTm.eq .res (.lit (.bool true))).value [] { args := args, res := some (.bool true), after := args } = some (.bool (true == true)) from w_eq_bool (w_res rfl) w_lit) rfl

/-! ### the attachment: holds_open's last premise (the goal 'hc' behind k_head) from a wpAny of the law's body -/
theorem attach {l : OpenLaw} {n : Nat} {q : Program} {loose : List Str} {XP : (Str → Option Value) → Heap → Prop} {YP : World → Heap → Prop} {d : DefRec} {x : Str}
    (hn : l.most = some n) (hdf : d.params.defaults = [])
    (hbind : ∀ pm cd doc v : Value, bindArgs (docDef d.name d.params d.body d.scope pm cd doc) ⟨[v], []⟩ = pure [(x, v)])
    (hx : d.scope.names.lookup x = some .local ∨ d.scope.names.lookup x = some .cell)
    (hk : d.scope.kind = .function) (hco : d.scope.isCoroutine = false) (hgen : d.scope.isGenerator = false)
    (body : ∀ (w : World) (s₀ s₁ s : Shared) (mg mb : Str → Option Value) (fa : Addr) (o : Obj) (pm cd doc : Value) (a : Addr) (vs : List Value) (ns : List Int),
      Ground q loose [] XP w s₀ mg mb s₁.heap → YP w s₁.heap →
      s₁.heap.get? fa = some o → o.data = .func (docDef d.name d.params d.body d.scope pm cd doc) → s₁.heap.CodeRec cd d.name → mg d.name = some (.ref fa) →
      s₁.heap.get? a = some { cls := .type "list", data := .seq vs.toArray } → IntsAre vs ns → ns.length ≤ n →
      s.gens = #[] → s.os = s₁.os →
      Fr s₁.heap s₁.heap.objs.size s.heap (bindL (envOfC d.name d.scope s₁.heap.objs.size fa cd).kindOf [(x, .ref a)] fun _ => none) →
      Cl s₁.heap.objs.size (cellsFrom (s₁.heap.objs.size + 1) d.scope.names []) s.heap (bindC (envOfC d.name d.scope s₁.heap.objs.size fa cd).kindOf [(x, .ref a)] fun _ => none) →
      wpAny (model l.prog w) (callerA.deeper (envOfC d.name d.scope s₁.heap.objs.size fa cd)) (execs d.body (envOfC d.name d.scope s₁.heap.objs.size fa cd))
        (fun f s' => f = .ret (.bool true) ∧ OldK s₁.heap s'.heap ∧ s'.os = s₁.os ∧ AllBare s'.gens) (fun _ _ => False) s) :
    WalkO q loose XP YP l.row.toRowW d [] (fun f vs => PySem.call f vs) := by
  intro w s₀ s₁ mg mb G Y fa o pm cd doc dV kV ho hd hcd hD hmg hg args vals as hpre hlay hrd hwl hlo
  obtain rfl : dV = .none := Dflts.none hD hdf
  obtain rfl : kV = .none := Dflts.noKw hD
  obtain ⟨a, vs, ns, rfl, rfl, hobj, hints, hlen⟩ := script_of hn hpre hwl
  refine enter_call ?_
  refine call_cells_ret (o := o) (by rw [depth_caller]; decide) ho (fd_plain hd) G.T.nolimit hcd (hbind pm cd doc (.ref a)) (fun y hy => ?_) (fun h₁ tk F X => ?_) hco hgen hk
  · obtain rfl : y = (x, Value.ref a) := List.mem_singleton.mp hy
    rcases hx with e | e
    · exact .inl e
    · exact .inr ⟨e, cellsFrom_some _ _ _ (.inl e)⟩
  · refine wpAny_mono (body w s₀ s₁ { s₁ with heap := h₁, toks := tk } mg mb fa o pm cd doc a vs ns G Y ho (fd_plain hd) hcd hmg hobj hints hlen hg rfl F X) (fun f s' hq => ?_) (fun _ _ hq => hq)
    obtain ⟨rfl, h2, h3, h4⟩ := hq
    exact ⟨.inl ⟨.bool true, .bool true, [], rfl, fun _ => rfl, .bool true, post_true l _, fun _ => ⟨List.Pairwise.nil, fun _ hm => (nomatch hm)⟩⟩, h2, h3, h4⟩

/-- the same from a codeAny of the CALL (for a layer whose function contracts speak of calls) -/
theorem attach_call {l : OpenLaw} {n : Nat} {q : Program} {loose : List Str} {XP : (Str → Option Value) → Heap → Prop} {YP : World → Heap → Prop} {d : DefRec}
    (hn : l.most = some n) (hdf : d.params.defaults = [])
    (call : ∀ (w : World) (s₀ s₁ : Shared) (mg mb : Str → Option Value) (fa : Addr) (o : Obj) (pm cd doc : Value) (a : Addr) (vs : List Value) (ns : List Int),
      Ground q loose [] XP w s₀ mg mb s₁.heap → YP w s₁.heap →
      s₁.heap.get? fa = some o → o.data = .func (docDef d.name d.params d.body d.scope pm cd doc) → s₁.heap.CodeRec cd d.name → mg d.name = some (.ref fa) →
      s₁.heap.get? a = some { cls := .type "list", data := .seq vs.toArray } → IntsAre vs ns → ns.length ≤ n → s₁.gens = #[] →
      codeAny (model l.prog w) callerA (.call (.ref fa) ⟨[.ref a], []⟩) (fun r s' => r = .ok (.ret (.bool true)) ∧ OldK s₁.heap s'.heap ∧ s'.os = s₁.os ∧ AllBare s'.gens) s₁) :
    WalkO q loose XP YP l.row.toRowW d [] (fun f vs => PySem.call f vs) := by
  intro w s₀ s₁ mg mb G Y fa o pm cd doc dV kV ho hd hcd hD hmg hg args vals as hpre hlay hrd hwl hlo
  obtain rfl : dV = .none := Dflts.none hD hdf
  obtain rfl : kV = .none := Dflts.noKw hD
  obtain ⟨a, vs, ns, rfl, rfl, hobj, hints, hlen⟩ := script_of hn hpre hwl
  refine enter_call (codeAny_mono (call w s₀ s₁ mg mb fa o pm cd doc a vs ns G Y ho (fd_plain hd) hcd hmg hobj hints hlen hg) fun r s' hq => ?_)
  obtain ⟨rfl, h2, h3, h4⟩ := hq
  exact ⟨.inl ⟨.bool true, .bool true, [], rfl, fun _ => rfl, .bool true, post_true l _, fun _ => ⟨List.Pairwise.nil, fun _ hm => (nomatch hm)⟩⟩, h2, h3, h4⟩

/-- the same where the top left finished generators (o_head chose holds_openN): nothing may have changed at all and no generator may be left -/
theorem attachN {l : OpenLaw} {n : Nat} {q : Program} {loose : List Str} {XP : (Str → Option Value) → Heap → Prop} {YP : World → Heap → Prop} {d : DefRec} {x : Str}
    (hn : l.most = some n) (hdf : d.params.defaults = [])
    (hbind : ∀ pm cd doc v : Value, bindArgs (docDef d.name d.params d.body d.scope pm cd doc) ⟨[v], []⟩ = pure [(x, v)])
    (hx : d.scope.names.lookup x = some .local ∨ d.scope.names.lookup x = some .cell)
    (hk : d.scope.kind = .function) (hco : d.scope.isCoroutine = false) (hgen : d.scope.isGenerator = false)
    (body : ∀ (w : World) (s₀ s₁ s : Shared) (mg mb : Str → Option Value) (fa : Addr) (o : Obj) (pm cd doc : Value) (a : Addr) (vs : List Value) (ns : List Int),
      Ground q loose [] XP w s₀ mg mb s₁.heap → YP w s₁.heap →
      s₁.heap.get? fa = some o → o.data = .func (docDef d.name d.params d.body d.scope pm cd doc) → s₁.heap.CodeRec cd d.name → mg d.name = some (.ref fa) →
      s₁.heap.get? a = some { cls := .type "list", data := .seq vs.toArray } → IntsAre vs ns → ns.length ≤ n →
      s.gens = #[] → s.os = s₁.os →
      Fr s₁.heap s₁.heap.objs.size s.heap (bindL (envOfC d.name d.scope s₁.heap.objs.size fa cd).kindOf [(x, .ref a)] fun _ => none) →
      Cl s₁.heap.objs.size (cellsFrom (s₁.heap.objs.size + 1) d.scope.names []) s.heap (bindC (envOfC d.name d.scope s₁.heap.objs.size fa cd).kindOf [(x, .ref a)] fun _ => none) →
      wpAny (model l.prog w) (callerA.deeper (envOfC d.name d.scope s₁.heap.objs.size fa cd)) (execs d.body (envOfC d.name d.scope s₁.heap.objs.size fa cd))
        (fun f s' => f = .ret (.bool true) ∧ (∀ b o, s₁.heap.get? b = some o → s'.heap.get? b = some o) ∧ s'.os = s₁.os ∧ s'.gens = #[]) (fun _ _ => False) s) :
    WalkN q loose XP YP l.row.toRowW d [] (fun f vs => PySem.call f vs) := by
  intro w s₀ s₁ mg mb G Y fa o pm cd doc dV kV ho hd hcd hD hmg hg args vals as hpre hlay hrd hwl hlo
  obtain rfl : dV = .none := Dflts.none hD hdf
  obtain rfl : kV = .none := Dflts.noKw hD
  obtain ⟨a, vs, ns, rfl, rfl, hobj, hints, hlen⟩ := script_of hn hpre hwl
  refine enter_callW ?_
  refine call_cells_ret (o := o) (by rw [depth_caller]; decide) ho (fd_plain hd) G.T.nolimit hcd (hbind pm cd doc (.ref a)) (fun y hy => ?_) (fun h₁ tk F X => ?_) hco hgen hk
  · obtain rfl : y = (x, Value.ref a) := List.mem_singleton.mp hy
    rcases hx with e | e
    · exact .inl e
    · exact .inr ⟨e, cellsFrom_some _ _ _ (.inl e)⟩
  · refine wpAny_mono (body w s₀ s₁ { s₁ with heap := h₁, toks := tk } mg mb fa o pm cd doc a vs ns G Y ho (fd_plain hd) hcd hmg hobj hints hlen hg rfl F X) (fun f s' hq => ?_) (fun _ _ hq => hq)
    obtain ⟨rfl, h2, h3, h4⟩ := hq
    exact ⟨.inl ⟨.bool true, .bool true, [], rfl, fun _ => rfl, .bool true, post_true l _, fun _ => ⟨List.Pairwise.nil, fun _ hm => (nomatch hm)⟩⟩, h2, h3, h4⟩

/-! ### rules over ANY heap (no ledger) from facts about the written part K: the library's own take a ledger (News) for what they write -/
section
variable {prog : Program} {w : World} {A : Around} {E : Value → Shared → Prop} {s : Shared} {K : Frag}

/-- a def of the module, or a method (qual 'C.m'), entered: the frame is the next address; cells behind it -/
theorem call_fn {R : Result → Shared → Prop} {name qual : Str} {params : Arguments} {body : List Stmt} {scope : Scope} {dV kV doc pm cdv ct oc : Value} {an od : Option Addr} {osl : Array (Option Value)} {f : Addr} {args : Args} {binds : List (Str × Value)}
    (X : K.In s.heap) (hlim : s.heap.NoLimit) (ho : K.lookup f = some ⟨oc, od, .func (fnOf name qual params body scope dV kV doc pm an cdv ct), osl⟩) (hcd : codeIn K cdv qual = true) (hroom : A.depth < recursionLimit)
    (hbind : BindsTo s (fnOf name qual params body scope dV kV doc pm an cdv ct) args binds)
    (hkind : (binds.all fun y => scope.names.lookup y.1 == some .local || scope.names.lookup y.1 == some .cell) = true)
    (h : ∀ s₁, InCallC s s.heap.objs.size (bindL (envOfC qual scope s.heap.objs.size f cdv).kindOf binds fun _ => none) (cellsFrom (s.heap.objs.size + 1) scope.names [])
        (bindC (envOfC qual scope s.heap.objs.size f cdv).kindOf binds fun _ => none) s₁ →
      wpAny (model prog w) (A.deeper (envOfC qual scope s.heap.objs.size f cdv)) (execs body (envOfC qual scope s.heap.objs.size f cdv))
        (fun fl s' => R (.ok (.ret (match fl with | .ret v => v | _ => .none))) s')
        (fun e s' => wpAny (model prog w) (A.deeper (envOfC qual scope s.heap.objs.size f cdv)) (leaving (envOfC qual scope s.heap.objs.size f cdv) e) (fun _ s'' => R (.error e) s'') (fun e' s'' => R (.error e') s'') s') s₁)
    (hco : scope.isCoroutine = false) (hgen : scope.isGenerator = false) (hk : scope.kind = .function) : codeAny (model prog w) A (.call (.ref f) args) R s := by
  refine codeAny_call_function hroom (X _ _ ho) rfl hco hgen rfl (codeRec_of X hcd) (hbind _ _ _ _ ?_)
  refine wpAny_newFunctionEnv_cells hk (kindsX hkind _) fun env he s₁ x => ?_
  subst he
  exact ⟨hlim.keeps x.toInCall.keep, codeAny_func (h s₁ x)⟩

/-- C(..): dict at size, instance at size + 1, then __init__ -/
theorem make_obj {R : Result → Shared → Prop} {C fI : Addr} {rest : List Value} {kw : List (Str × Value)}
    (X : K.In s.heap) (hm : makesIn K C = true) (hi : findIn K (.ref C) "__init__" = some (some (.ref fI))) (hf : isFn K (.ref fI) = true)
    (h : codeAny (model prog w) (A.under (.builtin "type.__call__" ⟨.ref C :: rest, kw⟩)) (.call (.ref fI) ⟨.ref (s.heap.objs.size + 1) :: rest, kw⟩) (InitBack (s.heap.objs.size + 1) R)
      { s with heap := (s.heap.push emptyDict).push (instObj C s.heap.objs.size) }) : codeAny (model prog w) A (.call (.ref C) ⟨rest, kw⟩) R s := by
  obtain ⟨hh, g, d, t, os⟩ := s
  exact make_core (makes_of X hm) (looks_findIn X hi) (fun self => bind_fn X self (beq_iff_eq.mp hf)) (.inl rfl) h

/-- x.name where the instance's dict holds the name and the class does not -/
theorem get_field {x C : Addr} {ox : Obj} {es : List DictEntry} {n : Nat} {name : Str} {expr : Bool} {v : Value} {Q : Value → Shared → Prop}
    (X : K.In s.heap) (I : PySem.W.InstAt s.heap x ox C (some (dictOf es n))) (hg : plainGet K C name = true) (hh : hasDictIn K C = true) (ha : findIn K (.ref C) name = some none)
    (hl : getL name es = some (some v)) (hv : handedIn v = true) (h : Q v { s with toks := s.toks + 1 }) : wpAny (model prog w) A (getAttr (.ref x) name expr) Q E s :=
  get_value X I (plainGet_of hg).1 (findObj_own hh ha rfl hl) hv h

/-- x.m(..): the method found in the class -/
theorem get_method {x C f : Addr} {ox : Obj} {es : List DictEntry} {n : Nat} {name : Str} {pl : Sem Bool} {Q : Value × List Value → Shared → Prop}
    (X : K.In s.heap) (I : PySem.W.InstAt s.heap x ox C (some (dictOf es n))) (hg : plainGet K C name = true) (hf : findIn K (.ref C) name = some (some (.ref f))) (ht : isFn K (.ref f) = true)
    (hl : getL name es = some none) (h : Q (.ref f, [.ref x]) s) : wpAny (model prog w) A (getMethod (.ref x) name pl) Q E s :=
  method_fn X I (plainGet_of hg).1 (plainGet_of hg).2 hf (beq_iff_eq.mp ht) (by show (lookIn name (dictOf es n)).map _ = _; rw [lookIn_dict, hl]; rfl) h

/-! the whole heap as the ledger: makes every rule that writes through a ledger a rule over any heap -/
def noObjs (h : Heap) : Heap := { h with objs := #[] }
theorem noObjs_get (h : Heap) (b : Addr) : (noObjs h).get? b = none := by
  cases e : (noObjs h).get? b with
  | none => rfl
  | some o => exact absurd (Heap.lt_size e) (Nat.not_lt_zero _)
def ledger (h : Heap) (L d : Addr) : List (Addr × Obj) := (List.range h.objs.size).filterMap fun a => if a = L ∨ a = d then none else (h.get? a).map fun o => (a, o)
theorem mem_ledger {h : Heap} {L d a : Addr} {o : Obj} : (a, o) ∈ ledger h L d ↔ a ≠ L ∧ a ≠ d ∧ h.get? a = some o := by
  unfold ledger
  rw [List.mem_filterMap]
  constructor
  · rintro ⟨b, _, e⟩
    split at e
    · cases e
    · rename_i hb
      obtain ⟨o', ho, e'⟩ := Option.map_eq_some_iff.mp e
      cases e'
      exact ⟨fun q => hb (.inl q), fun q => hb (.inr q), ho⟩
  · rintro ⟨n1, n2, ho⟩
    refine ⟨a, List.mem_range.mpr (Heap.lt_size ho), ?_⟩
    rw [if_neg (show ¬ (a = L ∨ a = d) from fun q => q.elim n1 n2), ho] <;> rfl
theorem news_ledger {h : Heap} {L d : Addr} {od : Obj} (hne : d ≠ L) (ho : h.get? d = some od) : News (noObjs h) L h ([] ++ (d, od) :: ledger h L d) := by
  rintro ⟨a, o⟩ hp
  rcases List.mem_cons.mp hp with e | hp
  · cases e
    exact ⟨ho, hne, noObjs_get _ _⟩
  · obtain ⟨n1, n2, e⟩ := mem_ledger.mp hp
    exact ⟨e, n1, noObjs_get _ _⟩
theorem fr_all {h : Heap} {L : Addr} {m : Str → Option Value} (n : h.Ns L m) : Fr (noObjs h) L h m :=
  ⟨n, fun b o e => (by rw [noObjs_get] at e; cases e), Nat.zero_le _⟩
/-- Upd of the head entry (for append_K, setItem_K ..) -/
theorem upd_ledger {h : Heap} {L d : Addr} {o o' : Obj} : Upd d o o' ((d, o) :: ledger h L d) ((d, o') :: ledger h L d) :=
  .head fun ⟨_, _⟩ hp => (mem_ledger.mp hp).2.1

/-- x.name = v over any heap: L is any namespace of the heap (the frame's, say): its map stays, its object is not told; all else but the dict stays -/
theorem set_field {x C dx L : Addr} {ox : Obj} {m : Str → Option Value} {es es' : List DictEntry} {n n' : Nat} {name : Str} {v : Value} {Q : Unit → Shared → Prop}
    (X : K.In s.heap) (I : PySem.W.InstAt s.heap x ox C (some (dictOf es n))) (hd : ox.dict = some dx) (hL : s.heap.Ns L m) (hne : dx ≠ L)
    (hs : findIn K (.ref C) "__setattr__" = some (some (.builtin "object.__setattr__"))) (hp : plainOver K C = true) (ht : takerIn K C name = some none) (hh : hasDictIn K C = true) (hl : (getL name es).isSome = true)
    (e : (putL name (PyData.keyHash w.params name) (.str name (s.toks + 1)) v es, putN name es n) = (es', n')) (hz : es'.length ≤ 1000)
    (h : ∀ h' : Heap, h'.Ns L m → h'.get? dx = some (dictOf es' n') → (∀ b o, b ≠ dx → b ≠ L → s.heap.get? b = some o → h'.get? b = some o) → Q () { s with heap := h', toks := s.toks + 2 }) :
    wpAny (model prog w) A (setAttr (.ref x) name v) Q E s := by
  obtain ⟨e1, e2⟩ := Prod.mk.inj e
  have hdx : s.heap.get? dx = some (dictOf es n) := by
    have := I.dict
    rw [hd] at this
    exact this
  refine set_plain X I hs (osa_dict (s := { s with toks := s.toks + 1 }) (h₀ := noObjs s.heap) (L := L) (m := m) (od := dictOf es n) (od' := dictOf es' n') (es := es') (n := n') (pre := []) (post := ledger s.heap L dx)
    (fr_all hL) (news_ledger hne hdx) X I hd hp ht hh hl (fun _ q => nomatch q) (fun ⟨_, _⟩ q => (mem_ledger.mp q).2.1) (by rw [putName_dict, e1, e2]) rfl hz fun h' F' N' => ?_)
  exact h h' F'.ns (N'.get (List.Mem.head _)) fun b o n1 n2 ho => N'.get (List.Mem.tail _ (mem_ledger.mpr ⟨n2, n1, ho⟩))
end
end Att

namespace L2
open PySem PySem.Spec PyProof.Rows

theorem vals_ints : ∀ {vs : List Value} {ns : List Int}, IntsAre vs ns → Vals (ns.map V.int) vs
  | _, _, .nil => .nil
  | _, _, .cons n t h => .cons ⟨t, rfl⟩ (vals_ints h)

/-- nothing is tracked but the script, known to the object (or it is an object of the module) -/
def Only (H : Hp) : Prop := ∀ b, H b = none ∨ ∃ o xs, H b = some (.frz o (.lst xs))

/-- THE HEAD: the law's promise, at the heap behind the top. F, the promise of the law's def, may use that base is part of the heap (so K.In base, base.Ns mainGlobals mg stand in Mod) -/
theorem law_call {P : Program} {w : World} {K : PySem.W.Frag} {mg mb : Str → Option Value} {CX : CXT} {k : Nat} {fa a : Addr} {fd : FuncData} {x : Str} {sp : Sp} {s₁ : Shared} {vs : List Value} {ns : List Int}
    (KX : K.In s₁.heap) (hns : s₁.heap.Ns mainGlobals mg) (hb : s₁.heap.Ns builtinsNs mb) (hbb : ∀ x : Str, x ≠ "__name__" → mb x = bootBuiltins x) (hlim : s₁.heap.NoLimit) (hg : s₁.gens = #[])
    (ha : s₁.heap.get? a = some { cls := .type "list", data := .seq vs.toArray }) (hi : IntsAre vs ns) (hl : ns.length ≤ sizeLine) (hr : Room k callerA)
    (F : ∀ base : Heap, K.In base → base.Ns mainGlobals mg → FnOk P w K mg base CX k fa fd [x] sp) (hbind : ∀ (s : Shared) (u : Value), BindsTo s fd ⟨[u], []⟩ [(x, u)])
    (hsp : ∀ H : Hp, Only H → SqL K H a (ns.map V.int) → sp [.ref a] H (fun v _ => v = .bl true) fun _ _ _ => False)
    (hCX : ∀ H e s', CX [] H s₁ (fun _ _ _ => False) e s' → False) :
    codeAny (model P w) callerA (.call (.ref fa) ⟨[.ref a], []⟩) (fun r s' => r = .ok (.ret (.bool true)) ∧ OldK s₁.heap s'.heap ∧ s'.os = s₁.os ∧ AllBare s'.gens) s₁ := by
  have rv := vals_ints hi
  have lenV := hi.length
  -- from an abstract heap in which nothing but the script may be tracked
  have core : ∀ H : Hp, Only H → SqL K H a (ns.map V.int) → HOk P w H s₁.heap → (∀ b, H b ≠ none → b = a) → (H a ≠ none → K.lookup a = none) →
      codeAny (model P w) callerA (.call (.ref fa) ⟨[.ref a], []⟩) (fun r s' => r = .ok (.ret (.bool true)) ∧ OldK s₁.heap s'.heap ∧ s'.os = s₁.os ∧ AllBare s'.gens) s₁ := by
    intro H hO hS hok hA hK
    have base_of : ∀ {b : Addr} {o : Obj}, s₁.heap.get? b = some o → H b = none → (hidT s₁.heap H).get? b = some o := fun e n => hidT_get e n
    have noA : ∀ {b : Addr} {o : Obj} {es : Array DictEntry} {ep : Nat}, s₁.heap.get? b = some o → o.data = .dict es ep → H b = none := fun {b o es ep} e d => by
      cases q : H b with
      | none => rfl
      | some u =>
        have e' : b = a := hA b (by rw [q]; simp)
        subst e'
        rw [ha] at e; cases e
        have d' : Data.seq vs.toArray _ = Data.dict es ep := d
        cases d'
    have nsK : ∀ {b : Addr} {m : Str → Option Value}, s₁.heap.Ns b m → (hidT s₁.heap H).Ns b m := fun {b m} ⟨o, es, ep, e, d, r⟩ => ⟨o, es, ep, base_of e (noA e d), d, r⟩
    have hKb : K.In (hidT s₁.heap H) := fun b o e => base_of (KX b o e) (by
      cases q : H b with
      | none => rfl
      | some u =>
        have e' : b = a := hA b (by rw [q]; simp)
        subst e'
        rw [hK (by rw [q]; simp)] at e; cases e)
    have hM : Mod K mg (hidT s₁.heap H) := ⟨hKb, nsK hns, ⟨mb, nsK hb, hbb⟩, let ⟨mc, h1, h2⟩ := hlim; ⟨mc, nsK h1, h2⟩⟩
    have e0 : Env0 P w K mg (hidT s₁.heap H) callerA [] s₁ H := ⟨rfl, hM, fun b o e => of_hidT e, Nat.le_of_eq (hidT_size _ _), trivial, fun b hb => absurd (show b ∈ ([] : List Addr) from hb) (by simp), hok, .of_eq hg⟩
    refine codeAny_mono ((F _ hKb (nsK hns)).run callerA [] s₁ H ⟨[.ref a], []⟩ [.ref a] [.ref a] _ _ hr e0 (hbind s₁ (.ref a)) (.cons rfl .nil) (hsp H hO hS)) fun r s' h => ?_
    cases r with
    | error e => exact (hCX H e s' h).elim
    | ok fl =>
      cases fl with
      | next => exact False.elim h
      | brk => exact False.elim h
      | cont => exact False.elim h
      | ret u =>
        obtain ⟨v, H', os, bare, un, hok', r', q⟩ := h
        have q' : v = .bl true := q
        subst q'
        obtain rfl : u = Value.bool true := r'
        refine ⟨rfl, OldK.of_keep fun b o e => ?_, os, bare⟩
        cases q : H b with
        | none => exact un.keep b o e q (by intro z; exact absurd (show b ∈ ([] : List Addr) from z) (by simp)) (by simp)
        | some u =>
          rcases hO b with z | ⟨ob, xs, z⟩
          · rw [q] at z; cases z
          · have z2 := un.frzs b ob _ z
            obtain ⟨e1, _⟩ := hok b _ z
            obtain ⟨e2, _⟩ := hok' b _ z2
            rw [e] at e1; cases e1
            exact e2
  cases hk : K.lookup a with
  | some o =>
    -- the script is one of the module's own objects
    have e := KX a o hk
    rw [ha] at e
    cases e
    refine core (fun _ => none) (fun _ => .inl rfl) (.inr ⟨_, vs.toArray, _, hk, rfl, rfl, rfl, by rw [List.size_toArray, lenV]; exact hl, by simpa using rv⟩) (fun b u z => by have z' : (none : Option HO) = some u := z; cases z') (fun b z => absurd rfl z) fun z => absurd rfl z
  | none =>
    refine core (fun b => if b = a then some (.frz { cls := .type "list", data := .seq vs.toArray } (.lst (ns.map V.int))) else none) (fun b => ?_) (.inl (.inr ⟨{ cls := .type "list", data := .seq vs.toArray }, if_pos rfl⟩)) (fun b u z => ?_) (fun b z => ?_) fun _ => hk
    · by_cases hb : b = a
      · exact .inr ⟨_, _, if_pos hb⟩
      · exact .inl (if_neg hb)
    · by_cases hb : b = a
      · have z' := (if_pos hb).symm.trans z
        cases z'
        subst hb
        exact ⟨ha, by rw [List.length_map]; exact hl, vs, _, rv, ha⟩
      · have z' := (if_neg hb).symm.trans z
        cases z'
    · by_cases hb : b = a
      · exact hb
      · exact absurd (if_neg hb) z
end L2

namespace L2
open PySem PySem.Spec PyProof.Rows

abbrev KOf {K : PySem.W.Frag} {h : Heap} (_ : K.In h) : PySem.W.Frag := K

/-- the goal that k_head leaves (case hc), from the law's promise. F gives the function object fd (K's own) once, then the promise over every base -/
theorem walk_of {l : PySem.W.OpenLaw} {n k : Nat} {q : Program} {loose : List Str} {XP : (Str → Option Value) → Heap → Prop} {YP : World → Heap → Prop} {d : DefRec} {K : Params → PySem.W.Frag} {CX : World → CXT} {sp : World → Sp} {x : Str}
    (hn : l.most = some n) (hn2 : n ≤ sizeLine) (hdf : d.params.defaults = []) (hr : Room k callerA)
    (hY : ∀ (w : World) (h : Heap), YP w h → (K w.params).In h)
    (F : ∀ (w : World) (mg : Str → Option Value) (fa : Addr) (h : Heap), (K w.params).In h → h.Ns mainGlobals mg → mg d.name = some (.ref fa) →
      ∃ fd : FuncData, (∀ (s : Shared) (u : Value), BindsTo s fd ⟨[u], []⟩ [(x, u)]) ∧
        ∀ base : Heap, (K w.params).In base → base.Ns mainGlobals mg → FnOk l.prog w (K w.params) mg base (CX w) k fa fd [x] (sp w))
    (hsp : ∀ (w : World) (H : Hp) (a : Addr) (ns : List Int), ns.length ≤ n → Only H → SqL (K w.params) H a (ns.map V.int) → sp w [.ref a] H (fun v _ => v = .bl true) fun _ _ _ => False)
    (hCX : ∀ (w : World) (H : Hp) (s : Shared) (e : Value) (s' : Shared), CX w [] H s (fun _ _ _ => False) e s' → False) :
    PySem.W.WalkO q loose XP YP l.row.toRowW d [] (fun f vs => PySem.call f vs) := by
  refine Att.attach_call hn hdf fun w s₀ s₁ mg mb fa o pm cd doc a vs ns G Y ho hd hcd hmg hobj hints hlen hg => ?_
  have KX := hY w _ Y
  obtain ⟨fd, hb, hF⟩ := F w mg fa _ KX G.T.g hmg
  exact law_call KX G.T.g G.T.b G.T.builtins G.T.nolimit hg hobj hints (Nat.le_trans hlen hn2) hr hF hb (fun H hO hS => hsp w H a ns hlen hO hS) fun H e s' => hCX w H s₁ e s'
/-- the same where the promise hangs on the written part alone: (sp := My.sp_law), no hole under a binder -/
theorem walk_ofK {l : PySem.W.OpenLaw} {n k : Nat} {q : Program} {loose : List Str} {XP : (Str → Option Value) → Heap → Prop} {YP : World → Heap → Prop} {d : DefRec} {K : Params → PySem.W.Frag} {CX : CXT} {sp : PySem.W.Frag → Sp} {x : Str}
    (hn : l.most = some n) (hn2 : n ≤ sizeLine) (hdf : d.params.defaults = []) (hr : Room k callerA)
    (hY : ∀ (w : World) (h : Heap), YP w h → (K w.params).In h)
    (F : ∀ (w : World) (mg : Str → Option Value) (fa : Addr) (h : Heap), (K w.params).In h → h.Ns mainGlobals mg → mg d.name = some (.ref fa) →
      ∃ fd : FuncData, (∀ (s : Shared) (u : Value), BindsTo s fd ⟨[u], []⟩ [(x, u)]) ∧
        ∀ base : Heap, (K w.params).In base → base.Ns mainGlobals mg → FnOk l.prog w (K w.params) mg base CX k fa fd [x] (sp (K w.params)))
    (hsp : ∀ (K : PySem.W.Frag) (H : Hp) (a : Addr) (ns : List Int), ns.length ≤ n → Only H → SqL K H a (ns.map V.int) → sp K [.ref a] H (fun v _ => v = .bl true) fun _ _ _ => False)
    (hCX : ∀ (H : Hp) (s : Shared) (e : Value) (s' : Shared), CX [] H s (fun _ _ _ => False) e s' → False) :
    PySem.W.WalkO q loose XP YP l.row.toRowW d [] (fun f vs => PySem.call f vs) :=
  walk_of (K := K) (CX := fun _ => CX) (sp := fun w => sp (K w.params)) hn hn2 hdf hr hY F (fun w H a ns h1 h2 h3 => hsp (K w.params) H a ns h1 h2 h3) fun _ H s e s' => hCX H s e s'
end L2
namespace L2
open PySem PySem.Spec PyProof.Rows

/-! ### the text by places -/
/-- the j-th statement of a class's body -/
def inClass (s : Stmt) (j : Nat) : Stmt := match s with
  | .ClassDef _ _ _ body _ _ _ _ _ _ _ => body.getD j (.Pass ⟨0, 0, 0, 0⟩)
  | _ => .Pass ⟨0, 0, 0, 0⟩
def defArgs (s : Stmt) : Arguments := match s with
  | .FunctionDef _ a _ _ _ _ _ _ _ _ => a
  | _ => { posonlyargs := [], args := [], vararg := none, kwonlyargs := [], kw_defaults := [], kwarg := none, defaults := [] }
def defBody (s : Stmt) : List Stmt := match s with
  | .FunctionDef _ _ b _ _ _ _ _ _ _ => b
  | _ => []
def defScope (s : Stmt) : Scope := match s with
  | .FunctionDef _ _ _ _ _ _ sc _ _ _ => sc
  | _ => { kind := .function, names := [], isGenerator := false, isCoroutine := false }

/-! ### no exception leaves a def -/
abbrev CX0 : CXT := fun _ _ _ _ _ _ => False
abbrev E0 : XK := fun _ _ _ => False
theorem pass0 {X : Cx} : Passes CX0 X E0 := fun _ _ _ _ _ _ _ h => h.elim

/-! ### a def (or method) of the text as it stands behind the top -/
structure Fun (K : PySem.W.Frag) (x qual : Str) (st : Stmt) (f : Addr) (fd : FuncData) : Prop where
  ex : ∃ (oc : Value) (od : Option Addr) (kV doc pm : Value) (an : Option Addr) (cdv ct : Value) (osl : Array (Option Value)),
    fd = PySem.W.fnOf x qual (defArgs st) (defBody st) (defScope st) .none kV doc pm an cdv ct ∧ K.lookup f = some ⟨oc, od, .func fd, osl⟩ ∧ PySem.W.codeIn K cdv qual = true
  kp : PySem.W.keepIn K (.ref f) = true
section
variable {P : Program} {w : World} {K : PySem.W.Frag} {mg : Str → Option Value} {base : Heap}
/-- THE RULE for a def: its body as a term of rules, and the reading of that term -/
theorem Fun.ok {x qual : Str} {st : Stmt} {f : Addr} {fd : FuncData} {N ps : List Str} {k : Nat} {sp : Sp} (F : Fun K x qual st f fd) (S : FnScope N ps (defScope st)) (len : ∀ vs H Q E, sp vs H Q E → vs.length = ps.length)
    (hbody : ∀ (cdv : Value) (A : Around) (outer : List Env) (s : Shared) (H : Hp) (vs : List V) (Q : VK) (E : XK), Room k (A.deeper (envOfC qual (defScope st) s.heap.objs.size f cdv)) → sp vs H Q E →
      ∃ t, PSs (cxOf CX0 P w K mg base N qual (defScope st) f cdv A outer s H E).nox (defBody st) t ∧ t { nx := fun _ H' => Q .non H', rt := Q } (start N vs) H) : FnOk P w K mg base CX0 (k + 1) f fd ps sp := by
  obtain ⟨oc, od, kV, doc, pm, an, cdv, ct, osl, rfl, lk, hcd⟩ := F.ex
  refine fn_of lk hcd S len fun A outer s H vs Q E hr hsp => ?_
  obtain ⟨t, h, q⟩ := hbody cdv A outer s H vs Q E hr hsp
  exact ⟨t, h.nox, q⟩
/-- how its arguments bind (no defaults): h is «fun _ _ _ _ _ _ us hl => match us, hl with | [_, _], _ => rfl», one _ a parameter -/
theorem Fun.binds {x qual : Str} {st : Stmt} {f : Addr} {fd : FuncData} {ps : List Str} (F : Fun K x qual st f fd)
    (h : ∀ (kV doc pm : Value) (an : Option Addr) (cdv ct : Value) (us : List Value), us.length = ps.length → bindArgs (PySem.W.fnOf x qual (defArgs st) (defBody st) (defScope st) .none kV doc pm an cdv ct) ⟨us, []⟩ = pure (ps.zip us)) : Binds K fd ps [] := by
  obtain ⟨oc, od, kV, doc, pm, an, cdv, ct, osl, rfl, lk, hcd⟩ := F.ex
  exact .all (h kV doc pm an cdv ct)
theorem fun_mk {x qual : Str} {st : Stmt} {f : Addr} {oc : Value} {od an : Option Addr} {osl : Array (Option Value)} {kV doc pm cdv ct : Value} (l : K.lookup f = some ⟨oc, od, .func (PySem.W.fnOf x qual (defArgs st) (defBody st) (defScope st) .none kV doc pm an cdv ct), osl⟩)
    (c : PySem.W.codeIn K cdv qual = true) (k : PySem.W.keepIn K (.ref f) = true) : Fun K x qual st f (PySem.W.fnOf x qual (defArgs st) (defBody st) (defScope st) .none kV doc pm an cdv ct) := ⟨⟨oc, od, kV, doc, pm, an, cdv, ct, osl, rfl, l, c⟩, k⟩
end
theorem hu_of {A : Around} {k : Nat} (hr : Room k A) : A.units + 1 < cLine := Nat.lt_of_le_of_lt (Nat.add_le_add_left (by decide : 1 ≤ 64) _) hr.units
theorem small1000 {n : Nat} (h : n ≤ 1000) : n < sizeLine := Nat.lt_of_le_of_lt h (by decide)

/-! ### expressions in short: the name that stands in the i-th slot -/
section
variable {X : Cx}
theorem pv (i : Nat) {x : Str} {pos : Pos} (hN : X.N[i]? = some x := by rfl) (hv : Vis X.env.scope x := by first | exact Or.inl rfl | exact Or.inr (Or.inl rfl) | exact Or.inr (Or.inr rfl)) (hd : (x == ("__debug__" : Str)) = false := by decide)
    (hcd : (x == ("__classdict__" : Str)) = false := by decide) : PE X (.Name x pos) (tVar i) := pe_var hN hv hd hcd
/-- len of a dict -/
theorem call_lenD : CallR X (.builtin "len") (fun xs H Q => ∃ a kvs, xs = [V.ref a] ∧ H a = some (.dK kvs) ∧ Q (.int kvs.length) H) := by
  intro pins s σ H xs us Q I r h
  obtain ⟨a, kvs, rfl, ha, q⟩ := h
  obtain ⟨u, rfl, ru⟩ := vals1 r
  cases ru
  exact d_len I (.inl ha) fun t s' I' => ⟨.int kvs.length, H, I', ⟨t, rfl⟩, q⟩
end

/-! ### tests -/
theorem iteF {A B : Prop} (h : B) : if false = true then A else B := by
  rw [if_neg Bool.false_ne_true]
  exact h
theorem iteT {A B : Prop} (h : A) : if true = true then A else B := by
  rw [if_pos rfl]
  exact h
theorem ite2 {c A B : Prop} [Decidable c] (h1 : c → A) (h2 : ¬ c → B) : if c then A else B := by
  by_cases h : c
  · rw [if_pos h]
    exact h1 h
  · rw [if_neg h]
    exact h2 h
theorem iteNS {c A B : Prop} [Decidable c] (hc : c) (h : B) : if (!decide c) = true then A else B := by
  rw [decide_eq_true hc]
  exact iteF h

/-! ### heaps -/
/-- all that was tracked is as it was -/
def Same (H H' : Hp) : Prop := ∀ b o, H b = some o → H' b = some o
theorem Same.refl (H : Hp) : Same H H := fun _ _ h => h
theorem Same.trans {H H1 H2 : Hp} (a : Same H H1) (b : Same H1 H2) : Same H H2 := fun c o h => b c o (a c o h)
theorem Same.free {H H' : Hp} (e : Same H H') {l : Addr} (h : H' l = Option.none) : H l = Option.none := by
  cases q : H l with
  | none => rfl
  | some o =>
    rw [e l o q] at h
    cases h
theorem Same.seq {K : PySem.W.Frag} {H H' : Hp} {a : Addr} {xs : List V} (e : Same H H') (h : SqL K H a xs) : SqL K H' a xs := by
  rcases h with (h | ⟨o, h⟩) | h
  · exact .inl (.inl (e _ _ h))
  · exact .inl (.inr ⟨o, e _ _ h⟩)
  · exact .inr h

/-! ### a dict's pairs: keys that differ -/
section
variable {κ : Type} [DecidableEq κ]
theorem valV_not {kvs : List (κ × V)} {k : κ} (h : valV kvs k = none) : ¬ k ∈ kvs.map (·.1) := by
  intro m
  obtain ⟨p, hp, e⟩ := List.mem_map.mp m
  have q : (kvs.any fun kv => decide (kv.1 = k)) = true := List.any_eq_true.mpr ⟨p, hp, decide_eq_true e⟩
  rw [valV_any, h] at q
  exact absurd q (by simp)
theorem valV_in {kvs : List (κ × V)} {k : κ} {v : V} (h : valV kvs k = some v) : k ∈ kvs.map (·.1) := by
  have q : (kvs.any fun kv => decide (kv.1 = k)) = true := by
    rw [valV_any, h]
    all_goals rfl
  obtain ⟨p, hp, e⟩ := List.any_eq_true.mp q
  exact List.mem_map.mpr ⟨p, hp, of_decide_eq_true e⟩
theorem nd_snoc : ∀ {l : List κ} {k : κ}, l.Nodup → ¬ k ∈ l → (l ++ [k]).Nodup
  | [], k, _, _ => by simp
  | a :: r, k, h, hk => by
    obtain ⟨h1, h2⟩ := List.nodup_cons.mp h
    show (a :: (r ++ [k])).Nodup
    refine List.nodup_cons.mpr ⟨fun m => ?_, nd_snoc h2 fun m => hk (List.mem_cons.mpr (Or.inr m))⟩
    rcases List.mem_append.mp m with q | q
    · exact h1 q
    · exact hk (List.mem_cons.mpr (Or.inl (List.mem_singleton.mp q).symm))
theorem nd_putK {kvs : List (κ × V)} {k : κ} (v : V) (hn : (kvs.map (·.1)).Nodup) (h : valV kvs k = none) : ((putK kvs k v).map (·.1)).Nodup := by
  rw [putK_new v h, List.map_append]
  exact nd_snoc hn (valV_not h)
theorem dropK_pos {p : κ × V} {r : List (κ × V)} {k : κ} (e : p.1 = k) : dropK (p :: r) k = dropK r k := by
  unfold dropK
  rw [List.filter_cons, if_neg (by simp [e])]
theorem dropK_neg {p : κ × V} {r : List (κ × V)} {k : κ} (e : ¬ p.1 = k) : dropK (p :: r) k = p :: dropK r k := by
  unfold dropK
  rw [List.filter_cons, if_pos (by simp [e])]
theorem dropK_no : ∀ {kvs : List (κ × V)} {k : κ}, ¬ k ∈ kvs.map (·.1) → dropK kvs k = kvs
  | [], _, _ => rfl
  | p :: r, k, h => by
    have h' : ¬ k ∈ r.map (·.1) := fun m => by
      obtain ⟨q, hq, e⟩ := List.mem_map.mp m
      exact h (List.mem_map.mpr ⟨q, List.mem_cons.mpr (Or.inr hq), e⟩)
    rw [dropK_neg fun e => h (List.mem_map.mpr ⟨p, List.mem_cons.mpr (Or.inl rfl), e⟩), dropK_no h']
theorem dropK_mem {kvs : List (κ × V)} {k : κ} {p : κ × V} (h : p ∈ dropK kvs k) : p ∈ kvs := (List.mem_filter.mp h).1
theorem nd_dropK : ∀ {kvs : List (κ × V)} {k : κ}, (kvs.map (·.1)).Nodup → ((dropK kvs k).map (·.1)).Nodup
  | [], _, _ => List.nodup_nil
  | p :: r, k, h => by
    have h : (p.1 :: r.map (·.1)).Nodup := h
    obtain ⟨h1, h2⟩ := List.nodup_cons.mp h
    by_cases e : p.1 = k
    · rw [dropK_pos e]
      exact nd_dropK h2
    · rw [dropK_neg e]
      show (p.1 :: (dropK r k).map (·.1)).Nodup
      refine List.nodup_cons.mpr ⟨fun m => h1 ?_, nd_dropK h2⟩
      obtain ⟨q, hq, eq⟩ := List.mem_map.mp m
      exact List.mem_map.mpr ⟨q, dropK_mem hq, eq⟩
theorem dropK_len : ∀ {kvs : List (κ × V)} {k : κ}, (kvs.map (·.1)).Nodup → k ∈ kvs.map (·.1) → (dropK kvs k).length + 1 = kvs.length
  | [], _, _, m => by simp at m
  | p :: r, k, h, m => by
    have h : (p.1 :: r.map (·.1)).Nodup := h
    have m : k = p.1 ∨ k ∈ r.map (·.1) := List.mem_cons.mp m
    obtain ⟨h1, h2⟩ := List.nodup_cons.mp h
    by_cases e : p.1 = k
    · subst e
      rw [dropK_pos rfl, dropK_no h1]
      all_goals rfl
    · have m' : k ∈ r.map (·.1) := m.resolve_left fun z => e z.symm
      have q := dropK_len h2 m'
      rw [dropK_neg e, List.length_cons, List.length_cons]
      omega
end
end L2

set_option Elab.async false
set_option linter.all false
set_option maxRecDepth 100000
namespace L2
open PySem PySem.Spec PyProof.Rows

/-- the context of a comprehension's block -/
abbrev compCx (X : Cx) (scope : Scope) (cl : List (Str × Addr)) (N : List Str) (s2 : Shared) (H : Hp) (C : Addr) (fp : List Addr) : Cx where
  prog := X.prog
  w := X.w
  K := X.K
  mg := X.mg
  base := X.base
  A := X.A
  N := N
  s₀ := s2
  H₀ := H
  env := compEnvC scope cl C X.env
  outer := X.stack
  stack := X.stack
  ex := fp
  fn := fun _ => false
  calm := X.calm
  pn := []
  xe := fun _ _ => False

/-- what a comprehension's scope asks: its free names lie in the outer frame's cells -/
structure CompOk (X : Cx) (scope : Scope) (cl : List (Str × Addr)) : Prop where
  clos : closureFor scope X.env = pure cl
  cell : ∀ y ∈ scope.names, y.2 ≠ .cell
  kind : scope.kind = .function
  names : ∀ y ∈ scope.names, y.2 = .local → scope.names.lookup y.1 = some .local
  sub : ∀ x c, cl.lookup x = some c → X.env.cells.lookup x = some c
  has : ∀ x, ((relabel scope X.env).names.lookup x = some .cell ∨ (relabel scope X.env).names.lookup x = some .free) → ∃ c, cl.lookup x = some c

/-- which slots of the outer frame the block reads: N'[i] is the outer N[j], a cell there -/
def Carry (X : Cx) (cl : List (Str × Addr)) (scope : Scope) (N : List Str) (σ σ' : St) : Prop :=
  σ'.length = N.length ∧ ∀ (i : Nat) (x : Str) (v : V), N[i]? = some x → σ'[i]? = some (some v) →
    (∃ j : Nat, X.N[j]? = some x ∧ σ[j]? = some (some v)) ∧ (X.env.kindOf x = some .cell ∨ X.env.kindOf x = some .free) ∧
      ((relabel scope X.env).names.lookup x = some .cell ∨ (relabel scope X.env).names.lookup x = some .free)
theorem Carry.none (X : Cx) (cl : List (Str × Addr)) (scope : Scope) (N : List Str) (σ : St) : Carry X cl scope N σ (N.map fun _ => Option.none) := by
  refine ⟨by simp, fun i x v h1 h2 => ?_⟩
  rw [List.getElem?_map, h1] at h2
  cases h2

section
variable {X : Cx} {pins : List (Addr × Obj)} {σ σ' : St} {H H' : Hp} {s2 s' : Shared} {scope : Scope} {cl : List (Str × Addr)} {N : List Str} {fp : List Addr} {C D : Addr} {h₁ h' : Heap} {t' : Nat}

theorem comp_start (I : Inv X pins σ H s2) (hf : ∀ b ∈ fp, FpOk X pins H b) (hfo : ∀ b ∈ fp, ∃ o, s2.heap.get? b = some o) (co : CompOk X scope cl) (hσ : Carry X cl scope N σ σ')
    (k : ∀ b o, s2.heap.get? b = some o → h₁.get? b = some o) (hD : s2.heap.objs.size ≤ D) (hC : s2.heap.objs.size ≤ C) (hDC : C ≠ D)
    (new : h₁.get? D = some { cls := .type "list", data := .seq ([] : List Value).toArray 0 } ∨ ∃ n, h₁.get? D = some { cls := .type "list", data := .seq ([] : List Value).toArray n }) {m : Str → Option Value} (hn : h₁.Ns C m) :
    Inv (compCx X scope cl N s2 H C fp) [] σ' (upd H D (.lst [])) { s2 with heap := h₁, toks := t' } := by
  have fD : H D = none := I.hok.fresh hD
  have fC : H C = none := I.hok.fresh hC
  have newO : ObjOk X.prog X.w (upd H D (.lst [])) h₁ D (.lst []) := by
    refine ⟨Nat.zero_le _, [], ?_⟩
    rcases new with e | ⟨n, e⟩
    · exact ⟨0, .nil, e⟩
    · exact ⟨n, .nil, e⟩
  have lts : ∀ b ∈ fp, b < s2.heap.objs.size := fun b hb => let ⟨_, e⟩ := hfo b hb; Heap.lt_size e
  have cells_lt : ∀ x c, cl.lookup x = some c → c < s2.heap.objs.size := fun x c e => by
    obtain ⟨v, q⟩ := I.cell x c (co.sub x c e)
    exact q.lt
  have ok : Cx.Ok (compCx X scope cl N s2 H C fp) := by
    refine ⟨I.ok.mod, ?_, I.ok.glob, I.ok.blt, hC, ?_, ?_, ?_, I.ok.hd, I.ok.frames, .inl rfl, ?_, I.bs, Nat.le_trans I.ok.bsz I.sz, ?_, ?_, I.stack, I.stkFree⟩
    · exact co.kind
    · exact fun x y c e1 e2 => I.ok.inj x y c (co.sub x c e1) (co.sub y c e2)
    · exact fun x h => co.has x h
    · exact fun x c h _ => by cases h
    · intro b hb
      refine ⟨fun e => ?_, fun x c e => (hf b hb).2.2.2.2.1 x c (co.sub x c e)⟩
      have z := lts b hb
      exact absurd (Nat.lt_of_lt_of_le z hC) (by rw [show b = C from e]; exact Nat.lt_irrefl _)
    · intro b o e hb
      have hb' : b ∈ fp := hb
      rcases (hf b hb').2.2.2.1 with z | z
      · exact I.ok.noex b o e z
      · exact absurd (Nat.lt_of_lt_of_le (Heap.lt_size e) (Nat.le_trans I.ok.bsz z)) (Nat.lt_irrefl _)
    · intro b hb hz
      have hb' : b ∈ fp := hb
      obtain ⟨_, f1, f2, _⟩ := hf b hb'
      rcases List.mem_cons.mp (I.stkSub b hz) with e | e
      · exact f1 e
      · exact f2 e
  refine ⟨ok, rfl, I.bare, Un.laid k hD fD, ?_, ?_, ?_, ?_, ?_, I.hok.laid k hD newO, hσ.1⟩
  · refine ⟨m, hn, fun i x v e1 e2 _ => ?_⟩
    obtain ⟨⟨j, j1, j2⟩, kk, kr⟩ := hσ.2 i x v e1 e2
    obtain ⟨mo, _, hl⟩ := I.loc
    obtain ⟨u, r, l⟩ := hl j x v j1 j2 (by
      rcases kk with z | z
      · exact .inr (.inl z)
      · exact .inr (.inr z))
    refine ⟨u, r, .inr ⟨kr, ?_⟩⟩
    obtain ⟨c, hc⟩ := co.has x kr
    rcases l with ⟨z, _⟩ | ⟨_, c', hc', hcell⟩
    · rcases kk with q | q
      · rw [z] at q; cases q
      · rw [z] at q; cases q
    · have e3 := co.sub x c hc
      rw [hc'] at e3
      have e4 : c' = c := Option.some.inj e3
      subst e4
      obtain ⟨o, ho, hd⟩ := hcell
      exact ⟨c', hc, o, k _ o ho, hd⟩
  · intro x c e
    obtain ⟨v, o, ho, hd⟩ := I.cell x c (co.sub x c e)
    exact ⟨v, o, k _ o ho, hd⟩
  · show upd H D (.lst []) C = none
    rw [upd_ne hDC]
    exact fC
  · intro x c e
    rw [upd_ne (Nat.ne_of_lt (Nat.lt_of_lt_of_le (cells_lt x c e) hD))]
    exact I.freeC x c (co.sub x c e)
  · intro p hp
    cases hp

theorem comp_end {pl : List (Addr × Obj)} (I : Inv X pins σ H s2) (hf : ∀ b ∈ fp, FpOk X pins H b) (hC : s2.heap.objs.size ≤ C) (I2 : Inv (compCx X scope cl N s2 H C fp) pl σ' H' s')
    (hs : Heap.SameBut C s'.heap h') : Inv X pins σ H' { s' with heap := h' } := by
  have nC : ∀ b o, s2.heap.get? b = some o → b ≠ C := fun b o e => Nat.ne_of_lt (Nat.lt_of_lt_of_le (Heap.lt_size e) hC)
  have u := I2.base
  refine I.call' (s' := { s' with heap := h' }) (ch := fp) I2.os ⟨?_, ?_, u.free, ?_, u.tups, u.frzs, u.tbls⟩ ?_ I2.bare fun b hb => ?_
  · exact fun b o e n h1 h2 => (hs.2 b (nC b o e)).trans (u.keep b o e n h1 h2)
  · intro b o e n h1 h2
    obtain ⟨sl, q⟩ := u.slot b o e n h1 h2
    exact ⟨sl, (hs.2 b (nC b o e)).trans q⟩
  · intro b o e h2
    obtain ⟨o', q⟩ := u.there b o e h2
    exact ⟨o', (hs.2 b (nC b o e)).trans q⟩
  · intro b ob e
    have hfree : H' C = none := I2.free
    refine (I2.hok b ob e).stay (fun c w' hc q => (hs.2 c ?_).trans q) (fun _ q => q) fun _ _ q => q
    rintro rfl
    rcases hc with rfl | hc
    · rw [hfree] at e; cases e
    · rw [hfree] at hc; cases hc
  · obtain ⟨_, f1, _, f3, f4, f5⟩ := hf b hb
    exact ⟨f3, f1, f4, f5⟩
end

section
variable {prog : Program} {w : World} {A : Around} {R : Result → Shared → Prop} {s : Shared}
theorem codeAny_compLoop_any {elt target iter : Expr} {ifs : List Expr} {scope : Scope} {pos : Pos} {it acc : Value} {env : Env} (I : Nat → Shared → Prop)
    (turn : ∀ n s, I n s → wpAny (model prog w) A (pyNext it) (fun r s₁ => match r with
      | none => R (.ok .next) s₁
      | some v => wpAny (model prog w) A (letOwnedTupleGo target it v) (fun _ s₁' => wpAny (model prog w) A (assign target env v) (fun _ s₂ =>
          wpAny (model prog w) A (forIn ifs true fun c r => if r = true then do let ok ← isTrue c env (eval c env); pure (ForInStep.yield ok) else pure (ForInStep.yield r)) (fun ok s₃ =>
            if ok = true then wpAny (model prog w) A (eval elt env) (fun x s₄ =>
              wpAny (model prog w) A (call (.builtin "list.append") [acc, x]) (fun _ s₅ => ∃ m, m < n ∧ I m s₅) (notedBy (model prog w) A env fun e s' => R (.error e) s') s₄) (notedBy (model prog w) A env fun e s' => R (.error e) s') s₃
            else ∃ m, m < n ∧ I m s₃) (notedBy (model prog w) A env fun e s' => R (.error e) s') s₂) (notedBy (model prog w) A env fun e s' => R (.error e) s') s₁') (notedBy (model prog w) A env fun e s' => R (.error e) s') s₁) (notedBy (model prog w) A env fun e s' => R (.error e) s') s)
    (n : Nat) (h : I n s) :
    codeAny (model prog w) A (.compLoop (.ListComp elt [⟨target, iter, ifs, 0⟩] scope pos) 0 it acc env) R s := by
  refine codeAny_loop rfl I (fun n s hI => ?_) n h
  show wpAny _ A ((compTurn (.ListComp elt [⟨target, iter, ifs, 0⟩] scope pos) 0 it acc env).onRaise (fun x => do noteFrame x env; theTreesLotGoes x)) _ _ s
  refine wpAny_noted ?_
  rw [compTurn_list]
  refine wpAny_bind (wpAny_standAt (wpAny_bind (wpAny_mono (turn n s hI) (fun r s₁ h₁ => ?_) fun _ _ h' => h')))
  cases r with
  | none => exact wpAny_pure h₁
  | some v =>
    refine wpAny_bind (wpAny_mono h₁ (fun _ s₁' h₁' => ?_) fun _ _ h' => h')
    refine wpAny_bind (wpAny_mono h₁' (fun _ s₂ h₂ => wpAny_bind (wpAny_mono h₂ (fun ok s₃ h₃ => ?_) fun _ _ h' => h')) fun _ _ h' => h')
    cases ok with
    | false => exact wpAny_pure ⟨rfl, h₃⟩
    | true =>
      exact wpAny_bind (wpAny_bind (wpAny_mono h₃ (fun x s₄ h₄ => wpAny_bind (wpAny_mono h₄ (fun _ s₅ h₅ => wpAny_pure (wpAny_pure ⟨rfl, h₅⟩)) fun _ _ h' => h')) fun _ _ h' => h'))
end

/-- the tests of a clause -/
def PTs (X : Cx) (ifs : List Expr) (t : TT) : Prop :=
  ∀ (pins : List (Addr × Obj)) (s : Shared) (σ : St) (H : Hp) (Q : Bool → Hp → Prop), Inv X pins σ H s → t σ H Q →
    wpAny (model X.prog X.w) X.A (forIn ifs true fun c r => if r = true then do let ok ← isTrue c X.env (eval c X.env); pure (ForInStep.yield ok) else pure (ForInStep.yield r)) (TP X pins σ Q) X.xe s
def tYes : TT := fun _ H Q => Q true H
theorem pts_nil {X : Cx} : PTs X [] tYes := fun _ _ _ H _ I h => wpAny_tests_nil ⟨H, I, h⟩
theorem pts_one {X : Cx} {c : Expr} {t : TT} (h : PT X c t) : PTs X [c] t := fun pins s σ H Q I q => wpAny_tests_one (h pins s σ H Q I q)

/-- [elt for tg in iter if ..]: W is the invariant by turn and measure; the list that is made stands at D -/
def tComp (wi : TI) (g : TG) (tt : TT) (te : TE) (σ0 : St → St) : TE := fun σ H Q => wi σ H fun J H1 => ∀ D, H1 D = none → ∃ W : Nat → Nat → St → Hp → Prop, (∃ m, W 0 m (σ0 σ) (upd H1 D (.lst []))) ∧
  ∀ i m σ' H', W i m σ' H' → (J.stop i H' ∧ Q (.ref D) H') ∨ (J.go i H' ∧ ∀ x H2, J.yld i H' x H2 → g x σ' H2 fun σ2 H3 => tt σ2 H3 fun b H4 =>
    if b = true then te σ2 H4 (fun v H5 => ∃ acc, H5 D = some (.lst acc) ∧ acc.length < sizeLine ∧ ∃ m', m' < m ∧ W (i + 1) m' σ2 (upd H5 D (.lst (acc ++ [v])))) else ∃ m', m' < m ∧ W (i + 1) m' σ2 H4)

theorem pe_comp {X : Cx} {tg iter elt : Expr} {ifs : List Expr} {scope : Scope} {cl : List (Str × Addr)} {N : List Str} {pos : Pos} {wi : TI} {g : TG} {tt : TT} {te : TE} {σ0 : St → St} (hc : X.calm = true) (co : CompOk X scope cl)
    (hσ : ∀ σ, σ.length = X.N.length → Carry X cl scope N σ (σ0 σ)) (hi : PI X tg iter wi)
    (hb : ∀ s2 H C fp, PG (compCx X scope cl N s2 H C fp) tg g ∧ PTs (compCx X scope cl N s2 H C fp) ifs tt ∧ PE (compCx X scope cl N s2 H C fp) elt te)
    (hs : ∀ x, foldedSetIterable iter X.env x = pure x := by intro _; rfl) : PE X (.ListComp elt [⟨tg, iter, ifs, 0⟩] scope pos) (tComp wi g tt te σ0) := by
  intro pins s σ H Q I h
  rw [eval_ListComp]
  refine wpAny_comprehension_free (use := none) rfl hs co.clos co.kind co.names (wpAny_mono (hi pins s σ H _ I h) (fun xv s1 h1 => wpAny_mono h1 (fun itv s2 h2 => ?_) fun _ _ e => e) fun _ _ e => e)
  obtain ⟨it, fp, tn, J, H2, rfl, I2, T, st2, f2, hW⟩ := h2
  refine wpAny_newObj_type (wpAny_newFunctionEnv co.cell (by intro y hy; cases hy) (fun h₁ hns₁ hsb₁ => ?_) co.kind)
  dsimp only at hns₁ hsb₁ ⊢
  generalize hH2 : s2.heap.push { cls := .type "list", dict := none, data := .seq ([] : List Value).toArray } = HH at hns₁ hsb₁ ⊢
  have hCsz : HH.objs.size = s2.heap.objs.size + 1 := by rw [← hH2, Heap.size_push]
  have old : ∀ b o, s2.heap.get? b = some o → h₁.get? b = some o := fun b o e =>
    hsb₁.extBut b o (Nat.ne_of_lt (by rw [hCsz]; exact Nat.lt_succ_of_lt (Heap.lt_size e))) (Heap.get?_push_of_some _ (hH2 ▸ Heap.get?_push_of_some _ e))
  have newD : ∃ n, h₁.get? s2.heap.objs.size = some { cls := .type "list", data := .seq ([] : List Value).toArray n } :=
    ⟨_, hsb₁.extBut _ _ (Nat.ne_of_lt (by rw [hCsz]; exact Nat.lt_succ_self _)) (Heap.get?_push_of_some _ (hH2 ▸ Heap.get?_push_size _ rfl))⟩
  obtain ⟨W, ⟨m0, w0⟩, turn⟩ := hW s2.heap.objs.size I2.fresh
  have hfo : ∀ b ∈ fp, ∃ o, s2.heap.get? b = some o := fun b hb => let ⟨o, e, _⟩ := T.obj _ _ st2 b hb; ⟨o, e⟩
  have I3 : Inv (compCx X scope cl N s2 H2 HH.objs.size fp) [] (σ0 σ) (upd H2 s2.heap.objs.size (.lst [])) { s2 with heap := h₁, toks := s2.toks + ([] : List (Str × Value)).length } :=
    comp_start I2 f2 hfo co (hσ σ I.len) old (Nat.le_refl _) (by rw [hCsz]; exact Nat.le_succ _) (Nat.ne_of_gt (by rw [hCsz]; exact Nat.lt_succ_self _)) (.inr newD) hns₁
  have fC : s2.heap.objs.size ≤ HH.objs.size := by rw [hCsz]; exact Nat.le_succ _
  obtain ⟨hg, ht, he⟩ := hb s2 H2 HH.objs.size fp
  have loop : ∀ s₃ : Shared, s₃ = { s2 with heap := h₁, toks := s2.toks + ([] : List (Str × Value)).length } →
      codeAny (model X.prog X.w) X.A (.compLoop (.ListComp elt [⟨tg, iter, ifs, 0⟩] scope pos) 0 (.ref it) (.ref s2.heap.objs.size) (compEnvC scope cl HH.objs.size X.env))
        (compPost (model X.prog X.w) X.A X.xe none (EP X pins σ Q) (.ref s2.heap.objs.size) HH.objs.size) s₃ := by
    rintro s₃ rfl
    have stat : ∀ {H' : Hp} , (∀ b ∈ fp, H' b = none) → ∀ b ∈ fp, FpOk (compCx X scope cl N s2 H2 HH.objs.size fp) [] H' b := fun hn b hb => by
      refine ⟨hn b hb, ?_, ?_, .inl hb, ?_, fun p hp => by cases hp⟩
      · obtain ⟨o, e⟩ := hfo b hb
        exact Nat.ne_of_lt (show b < HH.objs.size by rw [hCsz]; exact Nat.lt_succ_of_lt (Heap.lt_size e))
      · intro hz
        obtain ⟨_, q1, q2, _⟩ := f2 b hb
        rcases List.mem_cons.mp (I2.stkSub b hz) with e | e
        · exact q1 e
        · exact q2 e
      · exact fun x c e => (f2 b hb).2.2.2.2.1 x c (co.sub x c e)
    refine codeAny_compLoop_any (fun n s' => ∃ i σ' H', Inv (compCx X scope cl N s2 H2 HH.objs.size fp) [] σ' H' s' ∧ tn i s'.heap ∧ (∀ b ∈ fp, H' b = none) ∧ W i n σ' H') ?_ m0
      ⟨0, σ0 σ, _, I3, T.keep _ _ _ st2 fun b hb o e => old b o e, fun b hb => ?_, w0⟩
    · rintro n s4 ⟨i, σ4, H4, I4, st4, fr4, w4⟩
      rcases turn i n σ4 H4 w4 with ⟨stop, qn⟩ | ⟨go, step⟩
      · refine wpAny_mono (T.done (compCx X scope cl N s2 H2 HH.objs.size fp) rfl rfl rfl hc i [] s4 σ4 H4 (fun _ _ => False) I4 (stat fr4) st4 stop) (fun r s5 ⟨hr, I5⟩ => ?_) fun _ _ z => z.elim
        subst hr
        obtain ⟨m5, hn5, _⟩ := id I5.loc
        exact ⟨m5, hn5, fun h' hs' => ⟨.ref _, H4, comp_end I2 f2 fC I5 hs', rfl, qn⟩⟩
      · refine wpAny_mono (T.item (compCx X scope cl N s2 H2 HH.objs.size fp) rfl rfl rfl hc i [] s4 σ4 H4 (fun _ _ => False) I4 (stat fr4) st4 go) (fun r s5 ⟨u, hr, h5⟩ => ?_) fun _ _ z => z.elim
        subst hr
        refine wpAny_mono h5 (fun _ s6 ⟨x, H6, I6, r6, y6, st6, fr6⟩ => ?_) fun _ _ z => z.elim
        have I6' := I6.pinned (stat fr6) (T.obj _ _ st6)
        refine wpAny_mono (hg _ s6 σ4 H6 x u _ I6' r6 (step x H6 y6)) (fun _ s7 ⟨σ7, H7, I7, q7⟩ => ?_) fun _ _ z => z.elim
        refine wpAny_mono (ht _ s7 σ7 H7 _ I7 q7) (fun ok s8 ⟨H8, I8, q8⟩ => ?_) fun _ _ z => z.elim
        have again : ∀ {s9 : Shared} {σ9 : St} {H9 : Hp} , Inv (compCx X scope cl N s2 H2 HH.objs.size fp) ([] ++ pinsAt fp s6.heap) σ9 H9 s9 → (∃ m', m' < n ∧ W (i + 1) m' σ9 H9) → ∃ m, m < n ∧ ∃ i σ' H', Inv (compCx X scope cl N s2 H2 HH.objs.size fp) [] σ' H' s9 ∧ tn i s9.heap ∧ (∀ b ∈ fp, H' b = none) ∧ W i m σ' H' := fun {s9 σ9 H9} I9 n9 => by
          obtain ⟨m', hm, w9⟩ := n9
          refine ⟨m', hm, i + 1, σ9, H9, I9.unpinned, T.keep _ _ _ st6 fun b hb o e => (I9.pin (b, o) (List.mem_append_right _ (List.mem_append_right _ (mem_pinsAt hb e)))).1, fun b hb => ?_, w9⟩
          obtain ⟨o, e, d⟩ := T.obj _ _ st6 b hb
          exact (I9.pin (b, o) (List.mem_append_right _ (List.mem_append_right _ (mem_pinsAt hb e)))).2.1
        cases ok with
        | false =>
          rw [if_neg Bool.false_ne_true] at q8 ⊢
          exact again I8 q8
        | true =>
          rw [if_pos rfl] at q8 ⊢
          refine wpAny_mono (he _ s8 σ7 H8 _ I8 q8) (fun y s9 ⟨v, H9, I9, r9, acc, hacc, hsz, q9⟩ => ?_) fun _ _ z => z.elim
          refine wpAny_mono (mt_append (X := compCx X scope cl N s2 H2 HH.objs.size fp) _ s9 σ7 H9 (.ref s2.heap.objs.size) [v] (.ref s2.heap.objs.size) [y] (fun _ H10 => ∃ m', m' < n ∧ W (i + 1) m' σ7 H10) I9 rfl (.cons r9 .nil) ⟨_, acc, v, rfl, rfl, hacc, hsz, q9⟩) (fun _ s10 ⟨_, H10, I10, _, q10⟩ => ?_) fun _ _ z => z.elim
          exact again I10 q10
    · have z := (f2 b hb).1
      obtain ⟨o, e⟩ := hfo b hb
      rw [upd_ne (Nat.ne_of_lt (Heap.lt_size e))]
      exact z
  exact codeAny_compStart_list (loop _ rfl) (T.self _ 0 _ _ _ (T.keep _ _ _ st2 fun b hb o e => old b o e) (loop _ rfl))
end L2

set_option Elab.async false
set_option linter.all false
set_option maxRecDepth 100000
namespace L2
open PySem PySem.Spec PyProof.Rows

/-! ### the signs of a text -/
def Its (x : Str) : It := ⟨fun i _ => i < x.cps.size, fun i H v H' => H' = H ∧ ∃ c, x.cps[i]? = some c ∧ v = .str ⟨#[c]⟩, fun i _ => x.cps.size ≤ i⟩
theorem turn_strA {P : Program} {w : World} {K : PySem.W.Frag} {tg : Expr} (it : Addr) (x : Str) (t : Tok) : Turn P w K tg (Its x) [it] it (fun i h => h.IsStrIter it "str_ascii_iterator" x t i) where
  mem := by simp
  obj := fun i h st b hb => by
    have e : b = it := by simpa using hb
    subst e
    obtain ⟨o, e, c, d⟩ := st
    exact ⟨o, e, fun v z => by rw [d] at z; cases z⟩
  keep := fun i h h' st k => let ⟨o, e, r⟩ := st; ⟨o, k it (by simp) o e, r⟩
  item := by
    intro X hP hw hK hc i pins s σ H E I hf st hg
    subst hP hw hK
    obtain ⟨f0, f1, f2, f3, f4, f5⟩ := hf it (by simp)
    have hg' : i < x.cps.size := hg
    refine wpAny_pyNext_ascii_item st (c := x.cps[i]) (by simp [hg']) fun h' st' sb => ?_
    have I1 : Inv X pins σ H { s with heap := h', toks := s.toks + 1 } := I.turned (fun b o hb e => (sb.2 b hb).trans e) f0 f1 f3 f4 f5
    obtain ⟨o, e, c, d⟩ := id st'
    exact ⟨_, rfl, go_of (s := { s with heap := h', toks := s.toks + 1 }) e c d (by decide) ⟨.str ⟨#[x.cps[i]]⟩, H, I1, ⟨_, rfl⟩, ⟨rfl, _, by simp [hg'], rfl⟩, st', fun b hb => (hf b hb).1⟩⟩
  done := by
    intro X hP hw hK hc i pins s σ H E I hf st hg
    subst hP hw hK
    obtain ⟨f0, f1, f2, f3, f4, f5⟩ := hf it (by simp)
    have hg' : x.cps.size ≤ i := hg
    exact wpAny_pyNext_ascii_end (I.ok.hd hc) st (by simp [hg']) fun h' eb => ⟨rfl, I.turned (t' := s.toks) (fun b o hb e => eb b o hb e) f0 f1 f3 f4 f5⟩
  self := fun _ _ _ _ _ st h => wpAny_pyIter_striter_ascii st h
theorem turn_strW {P : Program} {w : World} {K : PySem.W.Frag} {tg : Expr} (it : Addr) (x : Str) (t : Tok) : Turn P w K tg (Its x) [it] it (fun i h => h.IsStrIter it "str_iterator" x t i) where
  mem := by simp
  obj := fun i h st b hb => by
    have e : b = it := by simpa using hb
    subst e
    obtain ⟨o, e, c, d⟩ := st
    exact ⟨o, e, fun v z => by rw [d] at z; cases z⟩
  keep := fun i h h' st k => let ⟨o, e, r⟩ := st; ⟨o, k it (by simp) o e, r⟩
  item := by
    intro X hP hw hK hc i pins s σ H E I hf st hg
    subst hP hw hK
    obtain ⟨f0, f1, f2, f3, f4, f5⟩ := hf it (by simp)
    have hg' : i < x.cps.size := hg
    refine wpAny_pyNext_wide_item st (c := x.cps[i]) (by simp [hg']) fun h' st' sb => ?_
    have I1 : Inv X pins σ H { s with heap := h', toks := s.toks + 1 } := I.turned (fun b o hb e => (sb.2 b hb).trans e) f0 f1 f3 f4 f5
    obtain ⟨o, e, c, d⟩ := id st'
    exact ⟨_, rfl, go_of (s := { s with heap := h', toks := s.toks + 1 }) e c d (by decide) ⟨.str ⟨#[x.cps[i]]⟩, H, I1, ⟨_, rfl⟩, ⟨rfl, _, by simp [hg'], rfl⟩, st', fun b hb => (hf b hb).1⟩⟩
  done := by
    intro X hP hw hK hc i pins s σ H E I hf st hg
    subst hP hw hK
    obtain ⟨f0, f1, f2, f3, f4, f5⟩ := hf it (by simp)
    have hg' : x.cps.size ≤ i := hg
    exact wpAny_pyNext_wide_end (I.ok.hd hc) st (by simp [hg']) fun h' eb => ⟨rfl, I.turned (t' := s.toks) (fun b o hb e => eb b o hb e) f0 f1 f3 f4 f5⟩
  self := fun _ _ _ _ _ st h => wpAny_pyIter_striter_wide st h
def iStr (tl : TE) : TI := fun σ H R => tl σ H fun x H1 => ∃ z, x = .str z ∧ R (Its z) H1
theorem pi_str {X : Cx} {tg l : Expr} {tl : TE} (hl : PE X l tl) : PI X tg l (iStr tl) := by
  intro pins s σ H R I h
  refine thn (hl pins s σ H _ I h) fun v s1 ⟨x, H1, I1, r1, q1⟩ => ?_
  obtain ⟨z, rfl, q⟩ := q1
  obtain ⟨t, rfl⟩ := r1
  have fin : ∀ b ∈ [s1.heap.objs.size], FpOk X pins H1 b := fun b hb => by
    have e : b = s1.heap.objs.size := by simpa using hb
    subst e
    exact I1.fpOk (Nat.le_refl _) (I1.hok.fresh (Nat.le_refl _))
  cases ha : z.cps.all (· < 128)
  · exact wpAny_pyIter_wide ha ⟨s1.heap.objs.size, [s1.heap.objs.size], _, _, H1, rfl, I1.kept (t' := s1.toks) fun b o e => Heap.get?_push_of_some _ e, turn_strW _ z t, ⟨_, Heap.get?_push_size _ rfl, rfl, rfl⟩, fin, q⟩
  · exact wpAny_pyIter_ascii ha ⟨s1.heap.objs.size, [s1.heap.objs.size], _, _, H1, rfl, I1.kept (t' := s1.toks) fun b o e => Heap.get?_push_of_some _ e, turn_strA _ z t, ⟨_, Heap.get?_push_size _ rfl, rfl, rfl⟩, fin, q⟩

/-! ### all(a list of bools) -/
theorem call_all_bl {X : Cx} (hc : X.calm = true) : CallR X (.builtin "all") (fun xs H Q => ∃ (p : Addr) (bs : List Bool), xs = [.ref p] ∧ SqL X.K H p (bs.map V.bl) ∧ Q (.bl (bs.all id)) H) := by
  intro pins s σ H xs us Q I r h
  obtain ⟨p, bs, rfl, hq, q⟩ := h
  obtain ⟨u, rfl, ru⟩ := vals1 r
  cases ru
  obtain ⟨its, rv, pl, hz⟩ := I.list hq
  have hlen : its.length = bs.length := by rw [← rv.length, List.length_map]
  refine call_all_walk (wpAny_pyIter_list pl.isList ?_)
  have hne : p ≠ s.heap.objs.size := by
    obtain ⟨o, n, e, _⟩ := pl
    exact Nat.ne_of_lt (Heap.lt_size e)
  refine ⟨s.heap.objs.size, _, _, _, _, _, fun i => bs.getD i true, rfl, Walks.list (A := X.A.in1) (I.ok.hd hc) s.heap.objs.size p hne its.toArray, ⟨⟨_, Heap.get?_push_size _ rfl, rfl, rfl⟩, ?_⟩, ?_, ?_⟩
  · exact pl.isList.at fun o e => Heap.get?_push_of_some _ e
  · intro i v s1 Q1 E1 hv hQ
    have hv' : its[i]? = some v := by simpa using hv
    have hb : ∃ b, bs[i]? = some b := by
      cases e : bs[i]? with
      | some b => exact ⟨b, rfl⟩
      | none =>
        have := List.getElem?_eq_none_iff.mp e
        have := (List.getElem?_eq_some_iff.mp hv').1
        omega
    obtain ⟨b, hb⟩ := hb
    obtain ⟨u, hu, ru⟩ := rv.get (i := i) (x := V.bl b) (by rw [List.getElem?_map, hb]; rfl)
    rw [hv'] at hu
    cases hu
    cases ru
    have e : bs.getD i true = b := by rw [List.getD_eq_getElem?_getD, hb]; rfl
    have hQ' : Q1 (bs.getD i true) s1 := hQ
    rw [e] at hQ'
    exact wpAny_truthy_bool hQ'
  · intro h' tk hk
    have e : (List.range its.toArray.size).all (fun i => bs.getD i true) = bs.all id := by
      rw [List.size_toArray, hlen]
      apply Bool.eq_iff_iff.mpr
      simp only [List.all_eq_true, List.mem_range, id]
      constructor
      · intro h b hb
        obtain ⟨i, hi, e⟩ := List.getElem_of_mem hb
        have := h i hi
        rw [List.getD_eq_getElem?_getD, List.getElem?_eq_getElem hi] at this
        simpa [e] using this
      · intro h i hi
        rw [List.getD_eq_getElem?_getD, List.getElem?_eq_getElem hi]
        exact h _ (List.getElem_mem hi)
    rw [e]
    refine ⟨.bl _, H, ?_, rfl, q⟩
    have I1 : Inv X pins σ H { s with heap := s.heap.push { cls := .type "list_iterator", data := .fields #[.ref p, .int 0 0] } } := I.kept (t' := s.toks) fun b o e => Heap.get?_push_of_some _ e
    have F := I.fpOk (Nat.le_refl _) (I.hok.fresh (Nat.le_refl _))
    obtain ⟨f0, f1, f2, f3, f4, f5⟩ := F
    exact I1.turned (it := s.heap.objs.size) (fun b o hb e => hk b o (by simpa using hb) e) f0 f1 f3 f4 f5

/-! ### isinstance(x, a built-in type) -/
theorem call_isinst {X : Cx} : CallR X (.builtin "isinstance") (fun xs H Q => ∃ x c t b, xs = [x, .ty c] ∧ TyOf X.K H x t ∧ PySem.W.kitOne X.K t (.type c) = some b ∧ Q (.bl b) H) := by
  intro pins s σ H xs us Q I r h
  obtain ⟨x, c, t, b, rfl, ty, e, q⟩ := h
  obtain ⟨u, v, rfl, rx, rc⟩ := vals2 r
  cases rc
  exact isinst_ok I rx ty e fun tk => ⟨.bl b, H, I.tok tk, rfl, q⟩

/-! ### texts -/
theorem op_le_str {X : Cx} : OpR X (compareOp .LtE) (fun x y H Q => ∃ i j, x = .str i ∧ y = .str j ∧ Q (.bl (!(decide (j.cps.toList < i.cps.toList)))) H) := by
  intro pins s σ H x y v u Q I rx ry h
  obtain ⟨i, j, rfl, rfl, q⟩ := h
  obtain ⟨t, rfl⟩ := rx
  obtain ⟨t', rfl⟩ := ry
  exact PySem.P.le_str ⟨.bl _, H, I, rfl, q⟩

def tSlS (te : TE) (tl th : TO) : TE := fun σ H Q => te σ H fun x H1 => tl σ H1 fun l H2 => th σ H2 fun u H3 => ∃ z, x = .str z ∧ z.length ≤ sizeLine ∧ Q (.str (Txt.slice z l u)) H3
theorem pe_slice_str {X : Cx} {e : Expr} {te : TE} {lo hi : Option Expr} {tl th : TO} {pos p2 : Pos} (he : PE X e te) (hl : PO X lo tl) (hu : PO X hi th) : PE X (.Subscript e (.Slice lo hi none p2) pos) (tSlS te tl th) := by
  intro pins s σ H Q I h
  refine Subscript_ (thn (he pins s σ H _ I h) fun v s1 ⟨x, H1, I1, r1, q1⟩ => ?_)
  refine wpAny_Slice (thn (hl pins s1 σ H1 _ I1 q1) fun vl s2 ⟨l, H2, I2, pl, q2⟩ => thn (hu pins s2 σ H2 _ I2 q2) fun vu s3 ⟨u, H3, I3, pu, q3⟩ => ?_)
  rw [evalPart_none]
  refine wpAny_pure ?_
  obtain ⟨z, rfl, hz, q⟩ := q3
  obtain ⟨t, rfl⟩ := r1
  show wpAny (model X.prog X.w) X.A (subscriptTail e (.Slice lo hi none p2) (.str z t) (.ref s3.heap.objs.size)) (EP X pins σ Q) X.xe { s3 with heap := s3.heap.push { cls := .type "slice", data := .fields #[vl, vu, .none] } }
  have kk : KeptH (fun h => ∀ b o, s3.heap.get? b = some o → h.get? b = some o) := fun h ob hh b o e => Heap.get?_push_of_some _ (hh b o e)
  have fin : ItemOn (model X.prog X.w) X.A X.xe (.str z t) (.ref s3.heap.objs.size) (EP X pins σ Q) { s3 with heap := s3.heap.push { cls := .type "slice", data := .fields #[vl, vu, .none] } } := by
    cases pl with
    | none =>
      cases pu with
      | none => exact SBH.sliceItem_nn kk (fun _ _ e => e) (fun h' t' k kp => ⟨.str _, H3, I3.kept kp, ⟨_, rfl⟩, q⟩) hz
      | int j uj => exact SBH.sliceItem_ns kk (fun _ _ e => e) (fun h' t' k kp => ⟨.str _, H3, I3.kept kp, ⟨_, rfl⟩, q⟩) hz
    | int i ui =>
      cases pu with
      | none => exact SBH.sliceItem_sn kk (fun _ _ e => e) (fun h' t' k kp => ⟨.str _, H3, I3.kept kp, ⟨_, rfl⟩, q⟩) hz
      | int j uj => exact SBH.sliceItem_ss kk (fun _ _ e => e) (fun h' t' k kp => ⟨.str _, H3, I3.kept kp, ⟨_, rfl⟩, q⟩) hz
  obtain ⟨T, id, hT, ht, hg⟩ := fin
  exact tail_any (ops := [.ref s3.heap.objs.size, .str z t]) ht hT hg (by with_unfolding_all rfl)

/-! ### a list == [] -/
theorem op_eq_nil {X : Cx} (hu : X.A.units < cLine) : OpR X (compareOp .Eq) (fun x y H Q => ∃ a b xs, x = .ref a ∧ y = .ref b ∧ SqL X.K H a xs ∧ SqL X.K H b [] ∧ Q (.bl xs.isEmpty) H) := by
  intro pins s σ H x y v u Q I rx ry h
  obtain ⟨a, b, xs, rfl, rfl, ha, hb, q⟩ := h
  cases rx
  cases ry
  obtain ⟨its, r, p, hz⟩ := I.list ha
  obtain ⟨its2, r2, p2, hz2⟩ := I.list hb
  cases r2
  cases xs with
  | nil =>
    cases r
    refine PySem.SeqAt.eq_listAt (e := fun _ => true) p.isList p2.isList rfl hu (fun j h1 h2 => absurd h1 (Nat.not_lt_zero _)) ?_
    exact ⟨.bl true, H, I, rfl, q⟩
  | cons x xs =>
    cases r with
    | cons r1 r2 =>
      refine PySem.SeqAt.eq_list_lengthsAt p.isList p2.isList (by simp) hu ?_
      exact ⟨.bl false, H, I, rfl, q⟩
end L2

set_option Elab.async false
set_option linter.all false
set_option maxRecDepth 100000
namespace L2
open PySem PySem.Spec PyProof.Rows

theorem lookup_mem {α : Type} : ∀ {l : List (Str × α)} {x : Str} {k : α}, l.lookup x = some k → (x, k) ∈ l
  | [], _, _, h => by cases h
  | (n, v) :: r, x, k, h => by
    rw [List.lookup_cons] at h
    by_cases e : x = n
    · subst e
      simp at h
      subst h
      exact List.mem_cons_self
    · have : (x == n) = false := beq_eq_false_iff_ne.mpr e
      rw [this] at h
      exact List.mem_cons_of_mem _ (lookup_mem h)
/-- a comprehension whose block names nothing of the frame around it -/
theorem CompOk.plain {X : Cx} {scope : Scope} (hfree : ∀ x ∈ scope.names, x.2 ≠ .free) (hcell : ∀ y ∈ scope.names, y.2 ≠ .cell) (hkind : scope.kind = .function)
    (hnames : ∀ y ∈ scope.names, y.2 = .local → scope.names.lookup y.1 = some .local) : CompOk X scope [] := by
  refine ⟨closureFor_none hfree, hcell, hkind, hnames, fun x c h => (by cases h), fun x h => ?_⟩
  have key : ∀ k, (relabel scope X.env).names.lookup x = some k → ∃ y ∈ scope.names, y.2 = k := by
    intro k e
    have m := lookup_mem e
    obtain ⟨⟨n, k'⟩, hm, e'⟩ := List.mem_map.mp m
    have hf := hfree _ hm
    have : (k' == NameKind.free) = false := by
      cases k' <;> first | rfl | exact absurd rfl hf
    dsimp only at e'
    rw [this] at e'
    simp at e'
    exact ⟨_, hm, e'.2⟩
  rcases h with h | h
  · obtain ⟨y, hy, e⟩ := key _ h
    exact absurd e (hcell y hy)
  · obtain ⟨y, hy, e⟩ := key _ h
    exact absurd e (hfree y hy)

/-! ### names: small letters -/
def lowc (c : Nat) : Bool := decide (97 ≤ c) && decide (c ≤ 122)
theorem lt1 (a b : Nat) : decide (([a] : List Nat) < [b]) = decide (a < b) := by
  apply decide_eq_decide.mpr
  rw [List.cons_lt_cons_iff]
  constructor
  · rintro (h | ⟨_, h⟩)
    · exact h
    · exact absurd h (by simp)
  · exact fun h => .inl h
theorem leA (c : Nat) : (!(decide ((⟨#[c]⟩ : Str).cps.toList < (Str.ofString "a").cps.toList))) = decide (97 ≤ c) := by
  show (!(decide (([c] : List Nat) < [97]))) = _
  rw [lt1, ← decide_not]
  exact decide_eq_decide.mpr (by omega)
theorem leZ (c : Nat) : (!(decide ((Str.ofString "z").cps.toList < (⟨#[c]⟩ : Str).cps.toList))) = decide (c ≤ 122) := by
  show (!(decide (([122] : List Nat) < [c]))) = _
  rw [lt1, ← decide_not]
  exact decide_eq_decide.mpr (by omega)
def nameB (t : Str) : Bool := decide (1 ≤ t.length) && decide (t.length ≤ 6) && t.cps.toList.all lowc
/-- it is known of what kind the thing is, and it is no text -/
def NotStr (K : PySem.W.Frag) (H : Hp) (x : V) : Prop := ∃ ty, TyOf K H x ty ∧ PySem.W.kitOne K ty (.type "str") = some false
/-- is_name: of a text by its letters, of no text False; the list that it makes stays -/
def spName (K : PySem.W.Frag) : Sp := fun vs H Q _ => ∃ x, vs = [x] ∧ ((∃ t, x = .str t ∧ t.length ≤ 1000 ∧ ∀ H', Same H H' → Q (.bl (nameB t)) H') ∨ (NotStr K H x ∧ Q (.bl false) H))
theorem same_upd {H : Hp} {p : Addr} {o : HO} (h : H p = none) : Same H (upd H p o) := fun b u e => by
  rw [upd_ne (ne_of_none e h)]
  exact e
theorem take_succ_map {α β : Type} (f : α → β) (l : List α) (i : Nat) (c : α) (h : l[i]? = some c) : (l.take (i + 1)).map f = (l.take i).map f ++ [f c] := by
  rw [List.take_succ, h, List.map_append]
  rfl
end L2

set_option Elab.async false
set_option linter.all false
set_option maxRecDepth 100000
namespace L2
open PySem PySem.Spec PyProof.Rows

/-! ### nested data: lists and tuples of texts, numbers, truths, as they stand in the heap -/
mutual
inductive Dat (H : Hp) : V → PyData → Prop
  | non : Dat H .non .none
  | bl (b : Bool) : Dat H (.bl b) (.bool b)
  | int (i : Int) : Dat H (.int i) (.int i)
  | str (x : Str) : Dat H (.str x) (.str x)
  | tup {a : Addr} {vs : List V} {ds : List PyData} : H a = some (.tup vs) → Dats H vs ds → Dat H (.ref a) (.tuple ds)
  | lst {a : Addr} {vs : List V} {ds : List PyData} : H a = some (.lst vs) → Dats H vs ds → Dat H (.ref a) (.list ds)
inductive Dats (H : Hp) : List V → List PyData → Prop
  | nil : Dats H [] []
  | cons {v : V} {vs : List V} {d : PyData} {ds : List PyData} : Dat H v d → Dats H vs ds → Dats H (v :: vs) (d :: ds)
end
mutual
theorem Dat.mono {H H' : Hp} (s : ∀ a o, H a = some o → (∃ vs, o = .tup vs ∨ o = .lst vs) → H' a = some o) : ∀ {v : V} {d : PyData}, Dat H v d → Dat H' v d
  | _, _, .non => .non
  | _, _, .bl b => .bl b
  | _, _, .int i => .int i
  | _, _, .str x => .str x
  | _, _, .tup e r => .tup (s _ _ e ⟨_, .inl rfl⟩) (Dats.mono s r)
  | _, _, .lst e r => .lst (s _ _ e ⟨_, .inr rfl⟩) (Dats.mono s r)
theorem Dats.mono {H H' : Hp} (s : ∀ a o, H a = some o → (∃ vs, o = .tup vs ∨ o = .lst vs) → H' a = some o) : ∀ {vs : List V} {ds : List PyData}, Dats H vs ds → Dats H' vs ds
  | _, _, .nil => .nil
  | _, _, .cons x r => .cons (Dat.mono s x) (Dats.mono s r)
end
theorem Dat.same {H H' : Hp} {v : V} {d : PyData} (h : Dat H v d) (s : Same H H') : Dat H' v d := h.mono fun a o e _ => s a o e
mutual
theorem Dat.reads {X : Cx} {pins : List (Addr × Obj)} {σ : St} {H : Hp} {s : Shared} (I : Inv X pins σ H s) : ∀ {v : V} {d : PyData} {u : Value}, Dat H v d → RelV v u → ∃ as, Reads s.heap u d as
  | _, _, _, .non, r => by cases r; exact ⟨_, .none⟩
  | _, _, _, .bl b, r => by cases r; exact ⟨_, .bool b⟩
  | _, _, _, .int i, r => by obtain ⟨t, rfl⟩ := r; exact ⟨_, .int i t⟩
  | _, _, _, .str x, r => by obtain ⟨t, rfl⟩ := r; exact ⟨_, .str x t⟩
  | _, _, _, .tup (a := a) e m, r => by
    cases r
    obtain ⟨_, its, rv, o, ho, hc, n, hd⟩ := (show ObjOk X.prog X.w H s.heap a (.tup _) from I.hok a _ e)
    obtain ⟨as, q⟩ := Dats.reads I m rv
    exact ⟨_, .tuple ho hc hd (by simpa using q)⟩
  | _, _, _, .lst (a := a) e m, r => by
    cases r
    obtain ⟨_, its, n, rv, ho⟩ := (show ObjOk X.prog X.w H s.heap a (.lst _) from I.hok a _ e)
    obtain ⟨as, q⟩ := Dats.reads I m rv
    exact ⟨_, .list ho rfl rfl (by simpa using q)⟩
theorem Dats.reads {X : Cx} {pins : List (Addr × Obj)} {σ : St} {H : Hp} {s : Shared} (I : Inv X pins σ H s) : ∀ {vs : List V} {ds : List PyData} {us : List Value}, Dats H vs ds → Vals vs us → ∃ as, ReadsAll s.heap us ds as
  | _, _, _, .nil, r => by cases r; exact ⟨_, .nil⟩
  | _, _, _, .cons x m, r => by
    cases r with
    | cons r1 r2 =>
      obtain ⟨as, q1⟩ := Dat.reads I x r1
      obtain ⟨bs, q2⟩ := Dats.reads I m r2
      exact ⟨_, .cons q1 q2⟩
end
/-- == and != of nested data, up to sixty deep -/
theorem op_eq_dat {X : Cx} (hu : X.A.units + 64 < cLine) : OpR X (compareOp .Eq) (fun x y H Q => ∃ d e, Dat H x d ∧ Dat H y e ∧ d.canLay0 = true ∧ e.canLay0 = true ∧ d.depth ≤ 60 ∧ Q (.bl (PyData.eqv d e)) H) := by
  intro pins s σ H x y v u Q I rx ry h
  obtain ⟨d, e, h1, h2, c1, c2, hd, q⟩ := h
  obtain ⟨as, r1⟩ := h1.reads I rx
  obtain ⟨bs, r2⟩ := h2.reads I ry
  exact SeqAt.compareEq_reads r1 r2 c1 c2 (by have := Nat.min_le_left d.depth e.depth; omega) ⟨.bl _, H, I, rfl, q⟩
theorem op_ne_dat {X : Cx} (hu : X.A.units + 64 < cLine) : OpR X (compareOp .NotEq) (fun x y H Q => ∃ d e, Dat H x d ∧ Dat H y e ∧ d.canLay0 = true ∧ e.canLay0 = true ∧ d.depth ≤ 60 ∧ Q (.bl (!PyData.eqv d e)) H) := by
  intro pins s σ H x y v u Q I rx ry h
  obtain ⟨d, e, h1, h2, c1, c2, hd, q⟩ := h
  obtain ⟨as, r1⟩ := h1.reads I rx
  obtain ⟨bs, r2⟩ := h2.reads I ry
  exact SeqAt.compareNe_reads r1 r2 c1 c2 (by have := Nat.min_le_left d.depth e.depth; omega) ⟨.bl _, H, I, rfl, q⟩

/-! ### texts in a list -/
theorem inV_strs (z : Str) (xs : List Str) : inV (.str z) (xs.map V.str) = decide (z ∈ xs) := by
  unfold inV
  induction xs with
  | nil => simp
  | cons x xs ih =>
    rw [List.map_cons, List.any_cons, ih]
    have e : eqV (.str x) (.str z) = decide (z = x) := by
      show (x == z) = _
      by_cases h : z = x
      · subst h; simp
      · have h' : ¬ x = z := fun q => h q.symm
        rw [decide_eq_false h]
        exact beq_eq_false_iff_ne.mpr h'
    rw [e]
    by_cases h : z = x
    · simp [h]
    · by_cases h2 : z ∈ xs <;> simp [h, h2]
theorem flat_strs (xs : List Str) : (xs.map V.str).all flatV = true := by
  rw [List.all_map]
  exact List.all_eq_true.mpr fun _ _ => rfl
/-- the signs of a slice are signs of the text -/
theorem slice_mem {x : Str} {l u : Option Int} {c : Nat} (h : c ∈ (Txt.slice x l u).cps.toList) : c ∈ x.cps.toList := by
  unfold Txt.slice at h
  split at h
  · exact h
  · rw [show ((⟨((Builtin.Str.strSliceIndices l u 1 x.length).filterMap (x.cps[·]?)).toArray⟩ : Str).cps.toList) = (Builtin.Str.strSliceIndices l u 1 x.length).filterMap (x.cps[·]?) by simp] at h
    obtain ⟨i, _, e⟩ := List.mem_filterMap.mp h
    have := Array.mem_of_getElem? e
    simpa using this
/-- all but the pen stays -/
def Keep (p : Addr) (H H' : Hp) : Prop := ∀ b o, b ≠ p → H b = some o → H' b = some o
theorem Keep.refl (p : Addr) (H : Hp) : Keep p H H := fun _ _ _ e => e
theorem Keep.trans {p : Addr} {H H1 H2 : Hp} (a : Keep p H H1) (b : Keep p H1 H2) : Keep p H H2 := fun c o n e => b c o n (a c o n e)
theorem Keep.of_same {p : Addr} {H H' : Hp} (s : Same H H') : Keep p H H' := fun b o _ e => s b o e
theorem Keep.upd {p : Addr} {H : Hp} {o : HO} : Keep p H (L2.upd H p o) := fun b u n e => by rw [upd_ne n]; exact e
end L2

set_option Elab.async false
set_option linter.all false
set_option maxRecDepth 100000
namespace L2
open PySem PySem.Spec PyProof.Rows
/-! the pen: a dict of three keys -/
def penK (a : Addr) (i l : Int) : List (Key × V) := [(.inr "script", .ref a), (.inr "at", .int i), (.inr "left", .int l)]
theorem pen_script (a : Addr) (i l : Int) : valV (penK a i l) (.inr "script" : Key) = some (.ref a) := rfl
theorem pen_at (a : Addr) (i l : Int) : valV (penK a i l) (.inr "at" : Key) = some (.int i) := rfl
theorem pen_left (a : Addr) (i l : Int) : valV (penK a i l) (.inr "left" : Key) = some (.int l) := rfl
theorem put_at (a : Addr) (i l j : Int) : putK (penK a i l) (.inr "at" : Key) (.int j) = penK a j l := rfl
theorem put_left (a : Addr) (i l j : Int) : putK (penK a i l) (.inr "left" : Key) (.int j) = penK a i j := rfl
theorem pen_len {a : Addr} {i l : Int} : (penK a i l).length < sizeLine := by
  show 3 < sizeLine
  decide
theorem upd_id {H : Hp} {p : Addr} {o : HO} (h : H p = some o) : upd H p o = H := by
  funext b
  by_cases e : b = p
  · subst e; rw [upd_same, h]
  · rw [upd_ne e]
/-- the script: it is known, and never written -/
def Scr (K : PySem.W.Frag) (H : Hp) (a : Addr) (xs : List V) : Prop := (∃ ob, H a = some (.frz ob (.lst xs))) ∨ ∃ o its n, List.lookup a K = some o ∧ o.cls = Value.type "list" ∧ o.dict = none ∧ o.data = Data.seq its n ∧ its.size ≤ sizeLine ∧ Vals xs its.toList
theorem Scr.sq {K : PySem.W.Frag} {H : Hp} {a : Addr} {xs : List V} (h : Scr K H a xs) : SqL K H a xs := by
  rcases h with ⟨ob, h⟩ | h
  · exact .inl (.inr ⟨ob, h⟩)
  · exact .inr h
theorem Scr.other {K : PySem.W.Frag} {H : Hp} {a D : Addr} {xs : List V} {o0 o : HO} (h : Scr K H a xs) (hd : H D = some o0) (h1 : ∀ ob u, o0 ≠ .frz ob u) : Scr K (upd H D o) a xs := by
  rcases h with ⟨ob, h⟩ | h
  · exact .inl ⟨ob, by rw [upd_ne (ne_of h hd fun z => h1 _ _ z.symm)]; exact h⟩
  · exact .inr h
theorem Scr.same {K : PySem.W.Frag} {H H' : Hp} {a : Addr} {xs : List V} (h : Scr K H a xs) (s : Same H H') : Scr K H' a xs := by
  rcases h with ⟨ob, h⟩ | h
  · exact .inl ⟨ob, s _ _ h⟩
  · exact .inr h
theorem seq_upd {K : PySem.W.Frag} {H : Hp} {p a : Addr} {kvs : List (Key × V)} {o : HO} {xs : List V} (hp : H p = some (.dK kvs)) (h : Scr K H a xs) : Scr K (upd H p o) a xs := h.other hp (by intro _ _ z; cases z)
/-- a pen stands at p, over the script at a -/
structure PenAt (K : PySem.W.Frag) (H : Hp) (p a : Addr) (ns : List Int) (i l : Int) : Prop where
  dc : H p = some (.dK (penK a i l))
  sq : Scr K H a (ns.map V.int)
  ge : 0 ≤ i

def spPen (K : PySem.W.Frag) : Sp := fun vs H Q _ => ∃ (a : Addr), vs = [.ref a] ∧ ∀ (p : Addr), H p = none → Q (.ref p) (upd H p (.dK (penK a 0 0)))
def spTake (K : PySem.W.Frag) : Sp := fun vs H Q _ => ∃ (p a : Addr) (ns : List Int) (i l m : Int), vs = [.ref p, .int m] ∧ PenAt K H p a ns i l ∧ 0 < m ∧ m < 1073741824 ∧ ns.length ≤ 63 ∧
  ∀ (d i' l' : Int), 0 ≤ d → d < m → PenAt K (upd H p (.dK (penK a i' l'))) p a ns i' l' → Q (.int d) (upd H p (.dK (penK a i' l')))

theorem at_ns {ns : List Int} {i : Int} (h0 : 0 ≤ i) (h1 : i < ns.length) : ∃ c, atI (ns.map V.int) i = some (V.int c) := by
  obtain ⟨n, rfl⟩ : ∃ n : Nat, i = (n : Int) := ⟨i.toNat, by omega⟩
  have hn : n < ns.length := by omega
  exact ⟨ns[n], atI_nat (by rw [List.getElem?_map, List.getElem?_eq_getElem hn]; rfl)⟩
theorem at_some {α : Type} {l : List α} {i : Int} (h0 : 0 ≤ i) (h1 : i < l.length) : ∃ c, atI l i = some c := by
  obtain ⟨n, rfl⟩ : ∃ n : Nat, i = (n : Int) := ⟨i.toNat, by omega⟩
  have hn : n < l.length := by omega
  exact ⟨l[n], atI_nat (List.getElem?_eq_getElem hn)⟩
theorem PenAt.same {K : PySem.W.Frag} {H H' : Hp} {p a : Addr} {ns : List Int} {i l : Int} (h : PenAt K H p a ns i l) (s : Same H H') : PenAt K H' p a ns i l := ⟨s _ _ h.dc, h.sq.same s, h.ge⟩
/-- what stands at an address of another kind stays when the pen turns -/
theorem keep_pen {H : Hp} {p a : Addr} {i l i' l' : Int} {b : Addr} {o : HO} (hp : H p = some (.dK (penK a i l))) (hb : H b = some o) (ne : o ≠ .dK (penK a i l)) : (upd H p (.dK (penK a i' l'))) b = some o := by
  rw [upd_ne (ne_of hb hp ne)]
  exact hb
theorem at_mem {α : Type} {l : List α} {i : Int} {c : α} (h : atI l i = some c) : c ∈ l := by
  obtain ⟨j, _, h2, _⟩ := atI_get h
  exact List.mem_of_getElem? h2

theorem PenAt.keep {K : PySem.W.Frag} {H : Hp} {p a : Addr} {ns : List Int} {i l i' l' : Int} (h : PenAt K H p a ns i l) (h' : 0 ≤ i') : PenAt K (upd H p (.dK (penK a i' l'))) p a ns i' l' := ⟨upd_same, seq_upd h.dc h.sq, h'⟩
/-- what is no dict stays when the pen turns -/
theorem PenAt.stay {K : PySem.W.Frag} {H H' : Hp} {p a : Addr} {ns : List Int} {i l : Int} (h : PenAt K H p a ns i l) (k : Keep p H H') {b : Addr} {o : HO} (e : H b = some o) (ne : ∀ kvs, o ≠ .dK kvs) : H' b = some o :=
  k b o (by intro z; subst z; rw [h.dc] at e; exact ne _ (Option.some.inj e).symm) e
/-- a write to what is neither a pen nor known -/
theorem PenAt.other {K : PySem.W.Frag} {H : Hp} {p a D : Addr} {ns : List Int} {i l : Int} {o0 o : HO} (h : PenAt K H p a ns i l) (hd : H D = some o0) (h1 : ∀ ob u, o0 ≠ .frz ob u) (h2 : ∀ kvs, o0 ≠ .dK kvs) : PenAt K (upd H D o) p a ns i l :=
  ⟨by rw [upd_ne (ne_of h.dc hd fun z => h2 _ z.symm)]; exact h.dc, h.sq.other hd h1, h.ge⟩
theorem PenAt.fresh {K : PySem.W.Frag} {H : Hp} {p a : Addr} {ns : List Int} {i l : Int} {q : Addr} (h : PenAt K H p a ns i l) (e : H q = none) : q ≠ p := by
  intro z; subst z; rw [h.dc] at e; cases e
end L2

set_option Elab.async false
set_option linter.all false
set_option maxRecDepth 100000
namespace L2
open PySem PySem.Spec PyProof.Rows
/-! ### the law's own names -/
abbrev letters : Str := "abcdefghijklmnopqrstuvwxyz"
theorem letters_low : ∀ c ∈ letters.cps.toList, lowc c = true := by decide +kernel
theorem letter_nat : ∀ n : Nat, n < 26 → letters.cps.toList[n]? = some (97 + n) := by
  intro n h
  have : ∀ k : _root_.Fin 26, letters.cps.toList[k.val]? = some (97 + k.val) := by decide +kernel
  exact this ⟨n, h⟩
theorem letter_at {d : Int} (h0 : 0 ≤ d) (h1 : d < 26) : atI letters.cps.toList d = some (97 + d.toNat) := by
  obtain ⟨n, rfl⟩ : ∃ n : Nat, d = (n : Int) := ⟨d.toNat, by omega⟩
  exact atI_nat (letter_nat n (by omega))
def Low (z : Str) : Prop := ∀ c ∈ z.cps.toList, lowc c = true
theorem low_app {x : Str} {c : Nat} (h : Low x) (hc : lowc c = true) : Low (x ++ ⟨#[c]⟩) := by
  intro k hk
  have e : (x ++ (⟨#[c]⟩ : Str)).cps.toList = x.cps.toList ++ [c] := by
    rw [Str.cps_append]
    simp
  rw [e] at hk
  rcases List.mem_append.mp hk with h' | h'
  · exact h k h'
  · rw [List.mem_singleton.mp h']; exact hc
theorem nameB_of {z : Str} (h1 : 1 ≤ z.length) (h2 : z.length ≤ 6) (h : Low z) : nameB z = true := by
  unfold nameB
  rw [decide_eq_true h1, decide_eq_true h2, List.all_eq_true.mpr h]
  rfl
theorem low_of {z : Str} (h : nameB z = true) : 1 ≤ z.length ∧ z.length ≤ 6 ∧ Low z := by
  unfold nameB at h
  rw [Bool.and_eq_true, Bool.and_eq_true, decide_eq_true_eq, decide_eq_true_eq, List.all_eq_true] at h
  exact ⟨h.1.1, h.1.2, h.2⟩
/-- the spare names -/
def combo (m : Nat) : Str := (⟨#[97 + m / 26 % 26]⟩ : Str) ++ ⟨#[97 + m % 26]⟩
theorem combo_cps (m : Nat) : (combo m).cps.toList = [97 + m / 26 % 26, 97 + m % 26] := by
  unfold combo
  rw [Str.cps_append]
  rfl
theorem combo_inj {m n : Nat} (h1 : m < 676) (h2 : n < 676) (h : combo m = combo n) : m = n := by
  have e := congrArg (fun z : Str => z.cps.toList) h
  rw [combo_cps, combo_cps] at e
  injection e with e1 e2
  injection e2 with e2 _
  omega
theorem combo_name (m : Nat) : nameB (combo m) = true := by
  have e : (combo m).length = 2 := by
    unfold combo
    rw [Str.length_append]
    rfl
  refine nameB_of (by omega) (by omega) fun c hc => ?_
  rw [combo_cps] at hc
  unfold lowc
  rw [Bool.and_eq_true, decide_eq_true_eq, decide_eq_true_eq]
  rcases List.mem_cons.mp hc with rfl | hc
  · omega
  · rw [List.mem_singleton.mp hc]; omega
theorem len_le_of_sub {α : Type} [BEq α] [LawfulBEq α] : ∀ {l xs : List α}, l.Nodup → (∀ x ∈ l, x ∈ xs) → l.length ≤ xs.length
  | [], _, _, _ => Nat.zero_le _
  | a :: l, xs, hn, hs => by
    have ha := hs a List.mem_cons_self
    have hn' := List.nodup_cons.mp hn
    have := len_le_of_sub (l := l) (xs := xs.erase a) hn'.2 fun x hx => (List.mem_erase_of_ne (show x ≠ a from fun e => hn'.1 (by rw [← e]; exact hx))).mpr (hs x (List.mem_cons_of_mem _ hx))
    rw [List.length_erase_of_mem ha] at this
    have : 0 < xs.length := List.length_pos_of_mem ha
    rw [List.length_cons]
    omega
theorem nodup_map_range {α : Type} {f : Nat → α} : ∀ {n : Nat}, (∀ i j, i < n → j < n → f i = f j → i = j) → ((List.range n).map f).Nodup := by
  intro n h
  rw [List.Nodup, List.pairwise_map]
  refine List.Pairwise.imp_of_mem (R := fun a b => a ≠ b) (fun {a b} ha hb hne e => ?_) List.nodup_range
  exact hne (h a b (List.mem_range.mp ha) (List.mem_range.mp hb) e)
theorem combo_bound {n : Nat} {xs : List Str} (h : ∀ m, m < n → combo m ∈ xs) (hx : xs.length ≤ 30) : n ≤ 30 := by
  have h1 : ((List.range (min n 676)).map combo).Nodup := nodup_map_range fun i j hi hj e => combo_inj (by omega) (by omega) e
  have h2 := len_le_of_sub h1 (xs := xs) fun x hx => by
    obtain ⟨m, hm, rfl⟩ := List.mem_map.mp hx
    exact h m (by have := List.mem_range.mp hm; omega)
  rw [List.length_map, List.length_range] at h2
  omega
theorem eqv_nil (xs : List Str) : PyData.eqv (.list (xs.map .str)) (.list []) = xs.isEmpty := by
  cases xs <;> rfl
theorem dats_strs (H : Hp) : ∀ xs : List Str, Dats H (xs.map V.str) (xs.map .str)
  | [] => .nil
  | x :: xs => .cons (.str x) (dats_strs H xs)
theorem lay_strs : ∀ {xs : List Str}, (∀ x ∈ xs, nameB x = true) → PyData.canLayAll0 (xs.map .str) = true
  | [], _ => rfl
  | x :: xs, h => by
    show (PyData.strOk x && PyData.canLayAll0 (xs.map .str)) = true
    rw [lay_strs fun y hy => h y (List.mem_cons_of_mem _ hy), Bool.and_true]
    obtain ⟨_, _, lo⟩ := low_of (h x List.mem_cons_self)
    unfold PyData.strOk
    rw [Array.all_eq_true_iff_forall_mem]
    intro c hc
    have := lo c (by simpa using hc)
    unfold lowc at this
    rw [Bool.and_eq_true, decide_eq_true_eq, decide_eq_true_eq] at this
    rw [decide_eq_true_eq]
    omega
theorem depth_strs : ∀ xs : List Str, PyData.depthAll (xs.map .str) = 0
  | [] => rfl
  | x :: xs => by
    show max 0 (PyData.depthAll (xs.map .str)) = 0
    rw [depth_strs xs]
    rfl
def forBody : Stmt → List Stmt
  | .For _ _ b _ _ => b
  | _ => []
def ifBody : Stmt → List Stmt
  | .If _ b _ _ => b
  | _ => []
/-- the promise of the law's own names: so many, no two alike -/
def spNames (K : PySem.W.Frag) : Sp := fun vs H Q _ => ∃ (p a : Addr) (ns : List Int) (i l : Int) (n : Nat), vs = [.ref p, .int n] ∧ PenAt K H p a ns i l ∧ ns.length ≤ 63 ∧ n ≤ 30 ∧
  ∀ (H' : Hp) (D : Addr) (xs : List Str) (i' l' : Int), PenAt K H' p a ns i' l' → Keep p H H' → H D = none → H' D = some (.lst (xs.map V.str)) → xs.length = n → xs.Nodup → (∀ x ∈ xs, nameB x = true) → Q (.ref D) H'
end L2

set_option Elab.async false
set_option linter.all false
set_option maxRecDepth 100000
namespace L2
open PySem PySem.Spec PyProof.Rows
/-- a number from 1 on -/
def spLen (K : PySem.W.Frag) : Sp := fun vs H Q _ => ∃ (p a : Addr) (ns : List Int) (i l : Int), vs = [.ref p] ∧ PenAt K H p a ns i l ∧ ns.length ≤ 63 ∧
  ∀ (n i' l' : Int), 1 ≤ n → PenAt K (upd H p (.dK (penK a i' l'))) p a ns i' l' → Q (.int n) (upd H p (.dK (penK a i' l')))
/-! ### a comprehension that names things of the frame around it (cells there) -/
theorem CompOk.caught {X : Cx} {scope : Scope} {cl : List (Str × Addr)} (clos : closureFor scope X.env = pure cl) (hcell : ∀ y ∈ scope.names, y.2 ≠ .cell) (hkind : scope.kind = .function)
    (hnames : ∀ y ∈ scope.names, y.2 = .local → scope.names.lookup y.1 = some .local) (hcl : ∀ y ∈ cl, X.env.cells.lookup y.1 = some y.2)
    (hfr : ∀ y ∈ scope.names, y.2 = .free → ∃ c, cl.lookup y.1 = some c) : CompOk X scope cl := by
  refine ⟨clos, hcell, hkind, hnames, fun x c h => hcl _ (lookup_mem h), fun x h => ?_⟩
  have key : ∀ k, (relabel scope X.env).names.lookup x = some k → k = .cell ∨ k = .free → ∃ c, cl.lookup x = some c := by
    intro k e hk
    have m := lookup_mem e
    obtain ⟨⟨n, k'⟩, hm, e'⟩ := List.mem_map.mp m
    dsimp only at e'
    by_cases hf : k' = .free
    · subst hf
      have en : n = x := by
        by_cases hc : (NameKind.free == NameKind.free && X.env.scope.kind == .function && X.env.kindOf n == some .cell) = true
        · rw [if_pos hc] at e'
          injection e'
        · rw [if_neg hc] at e'
          injection e'
      subst en
      exact hfr _ hm rfl
    · have : (k' == NameKind.free) = false := by
        cases k' <;> first | rfl | exact absurd rfl hf
      rw [this] at e'
      simp at e'
      rcases hk with hk | hk
      · exact absurd (e'.2.trans hk) (hcell _ hm)
      · exact absurd (e'.2.trans hk) hf
  rcases h with h | h
  · exact key _ h (.inl rfl)
  · exact key _ h (.inr rfl)
/-- the slots that are carried: N'[i] is the outer N[js[i]] -/
theorem Carry.of {X : Cx} {cl : List (Str × Addr)} {scope : Scope} {N : List Str} {σ : St} (js : List (Option Nat)) (hl : js.length = N.length)
    (h : ∀ (i j : Nat) (x : Str), N[i]? = some x → js[i]? = some (some j) → X.N[j]? = some x ∧ (X.env.kindOf x = some .cell ∨ X.env.kindOf x = some .free) ∧ ((relabel scope X.env).names.lookup x = some .cell ∨ (relabel scope X.env).names.lookup x = some .free)) :
    Carry X cl scope N σ (js.map fun j => j.bind fun j => (σ[j]?).join) := by
  refine ⟨by rw [List.length_map, hl], fun i x v h1 h2 => ?_⟩
  rw [List.getElem?_map] at h2
  cases e : js[i]? with
  | none => rw [e] at h2; cases h2
  | some o =>
    rw [e] at h2
    cases o with
    | none => cases h2
    | some j =>
      obtain ⟨a, b, c⟩ := h i j x h1 e
      refine ⟨⟨j, a, ?_⟩, b, c⟩
      have h3 : (σ[j]?).join = some v := Option.some.inj h2
      cases e2 : σ[j]? with
      | none => rw [e2] at h3; cases h3
      | some o =>
        rw [e2] at h3
        have : o = some v := h3
        rw [this]
end L2

set_option Elab.async false
set_option linter.all false
set_option maxRecDepth 100000
namespace L2
open PySem PySem.Spec PyProof.Rows
/-! ### range(n) and list(range(n)) as values -/
theorem call_rng1 {X : Cx} : CallR X (.type "range") (fun xs H Q => ∃ j : Int, xs = [.int j] ∧ ∀ q, H q = none → Q (.ref q) (upd H q (.rng 0 j))) := by
  intro pins s σ H xs us Q I r h
  obtain ⟨j, rfl, q⟩ := h
  obtain ⟨u, rfl, ⟨t, rfl⟩⟩ := vals1 r
  refine call_range_1 ⟨.ref s.heap.objs.size, _, I.laid (o := .rng 0 j) (fun b o e => Heap.get?_push_of_some _ e) (Nat.le_refl _) ⟨_, _, _, Heap.get?_push_size _ rfl⟩, rfl, q _ I.fresh⟩
theorem vals_items {f : Nat → V} : ∀ {n : Nat} {acc : Array Value}, acc.size = n → (∀ (i : Nat) (v : Value), acc[i]? = some v → RelV (f i) v) → Vals ((List.range n).map f) acc.toList := by
  intro n acc hs h
  have go : ∀ (l : List Value) (k : Nat), (∀ (i : Nat) (v : Value), l[i]? = some v → RelV (f (k + i)) v) → Vals ((List.range l.length).map fun i => f (k + i)) l := by
    intro l
    induction l with
    | nil => intro k _; exact .nil
    | cons v l ih =>
      intro k hh
      rw [List.length_cons, List.range_succ_eq_map, List.map_cons, List.map_map]
      refine .cons (by simpa using hh 0 v rfl) ?_
      have := ih (k + 1) fun i u e => by
        have := hh (i + 1) u (by simpa using e)
        rw [show k + 1 + i = k + (i + 1) by omega]
        exact this
      have e2 : (fun i => f (k + 1 + i)) = ((fun i => f (k + i)) ∘ Nat.succ) := by
        funext i
        show f (k + 1 + i) = f (k + (i + 1))
        rw [show k + 1 + i = k + (i + 1) by omega]
      rw [e2] at this
      exact this
  have := go acc.toList 0 fun i v e => by
    rw [Nat.zero_add]
    exact h i v (by simpa using e)
  simp only [Nat.zero_add, Array.length_toList, hs] at this
  exact this
theorem call_list_rng {X : Cx} (hc : X.calm = true) : CallR X (.type "list") (fun xs H Q => ∃ (r : Addr) (n : Nat), xs = [.ref r] ∧ H r = some (.rng 0 n) ∧ n ≤ 100000 ∧ ∀ l, H l = none → Q (.ref l) (upd H l (.lst ((List.range n).map fun (i : Nat) => V.int (i : Int))))) := by
  intro pins s σ H xs us Q I r h
  obtain ⟨r0, n, rfl, hr, hn, q⟩ := h
  obtain ⟨u, rfl, rx⟩ := vals1 r
  cases rx
  obtain ⟨t, u, v, e⟩ := (show ObjOk X.prog X.w H s.heap r0 (.rng 0 n) from I.hok r0 _ hr)
  refine call_list_range (n := n) (I.ok.hd hc) (show IsRange s.heap r0 0 n 1 t u v from e) (small_one (by decide) (by decide) (by omega) (by omega)) (by rw [rangeSize_one]; split <;> omega) (by omega) fun h' tk acc' c' kp hS hacc => ?_
  refine ⟨.ref s.heap.objs.size, _, I.laid (o := .lst ((List.range n).map fun (i : Nat) => V.int (i : Int))) kp (Nat.le_refl _) ⟨?_, acc'.toList, c', ?_, by simpa using hS⟩, rfl, q _ I.fresh⟩
  · rw [List.length_map, List.length_range]
    have : 100000 < sizeLine := by decide
    omega
  · refine vals_items hacc.1 fun i v e => ?_
    obtain ⟨t, rfl⟩ := hacc.2 i v e
    exact ⟨t, by simp⟩

/-! ### ways -/
abbrev Way := Str × Str × Int
def wayD (u : Way) : PyData := .tuple [.str u.1, .str u.2.1, .int u.2.2]
/-- the two places of both are the same ones -/
def Alike (u v : Way) : Prop := (u.1 = v.1 ∧ u.2.1 = v.2.1) ∨ (u.1 = v.2.1 ∧ u.2.1 = v.1)
/-- ways between the first k of the names: to each one from one ahead of it -/
structure Tree (xs : List Str) (k : Nat) (ws : List Way) : Prop where
  of : ∀ u ∈ ws, ∃ i j : Nat, i < j ∧ j < k ∧ xs[i]? = some u.1 ∧ xs[j]? = some u.2.1 ∧ 1 ≤ u.2.2
  sep : ws.Pairwise fun u v => ¬ Alike u v
  to : ∀ j, 0 < j → j < k → ∃ u ∈ ws, ∃ i : Nat, i < j ∧ xs[i]? = some u.1 ∧ xs[j]? = some u.2.1
  len : 2 * ws.length ≤ k * (k - 1)
/-- all that is needed of the ways of a map -/
structure Ways (xs : List Str) (ws : List Way) : Prop where
  of : ∀ u ∈ ws, u.1 ∈ xs ∧ u.2.1 ∈ xs ∧ u.1 ≠ u.2.1 ∧ 1 ≤ u.2.2
  sep : ws.Pairwise fun u v => ¬ Alike u v
  to : ∀ j, 0 < j → j < xs.length → ∃ u ∈ ws, ∃ i : Nat, i < j ∧ xs[i]? = some u.1 ∧ xs[j]? = some u.2.1
  len : 2 * ws.length ≤ xs.length * (xs.length - 1) + 10
theorem nd_get {xs : List Str} (h : xs.Nodup) {i j : Nat} {x : Str} (a : xs[i]? = some x) (b : xs[j]? = some x) : i = j := nodup_ix h a b
theorem Tree.nil (xs : List Str) : Tree xs 1 [] := ⟨(fun _ h => nomatch h), List.Pairwise.nil, (fun j h1 h2 => by omega), (by decide)⟩
/-- the ways of the k-th name -/
theorem Tree.more {xs : List Str} {k : Nat} {ws us : List Way} (hn : xs.Nodup) (h : Tree xs k ws) (hk : k < xs.length) (js : List Nat) (hj : js.Nodup) (hlt : ∀ j ∈ js, j < k) (h0 : js ≠ [])
    (hl : us.length = js.length) (hu : ∀ (q : Nat) (u : Way) (j : Nat), us[q]? = some u → js[q]? = some j → xs[j]? = some u.1 ∧ xs[k]? = some u.2.1 ∧ 1 ≤ u.2.2) : Tree xs (k + 1) (ws ++ us) := by
  have at_ : ∀ u ∈ us, ∃ (q j : Nat), us[q]? = some u ∧ js[q]? = some j ∧ j < k ∧ xs[j]? = some u.1 ∧ xs[k]? = some u.2.1 ∧ 1 ≤ u.2.2 := by
    intro u hm
    obtain ⟨q, hq, e⟩ := List.getElem_of_mem hm
    have e1 : us[q]? = some u := by rw [List.getElem?_eq_getElem hq, e]
    have e2 : js[q]? = some js[q] := List.getElem?_eq_getElem (by omega)
    obtain ⟨a, b, c⟩ := hu q u _ e1 e2
    exact ⟨q, _, e1, e2, hlt _ (List.getElem_mem _), a, b, c⟩
  refine ⟨?_, ?_, ?_, ?_⟩
  · intro u hm
    rcases List.mem_append.mp hm with hm | hm
    · obtain ⟨i, j, a, b, c⟩ := h.of u hm
      exact ⟨i, j, a, by omega, c⟩
    · obtain ⟨q, j, _, _, a, b, c, d⟩ := at_ u hm
      exact ⟨j, k, a, by omega, b, c, d⟩
  · rw [List.pairwise_append]
    refine ⟨h.sep, ?_, ?_⟩
    · rw [List.pairwise_iff_getElem]
      intro q r hq hr hqr al
      have a1 := hu q us[q] js[q] (List.getElem?_eq_getElem hq) (List.getElem?_eq_getElem (by omega))
      have a2 := hu r us[r] js[r] (List.getElem?_eq_getElem hr) (List.getElem?_eq_getElem (by omega))
      have l1 := hlt js[q] (List.getElem_mem _)
      have l2 := hlt js[r] (List.getElem_mem _)
      rcases al with ⟨e1, _⟩ | ⟨e1, _⟩
      · have a3 := a1.1
        rw [e1] at a3
        have ej := nd_get hn a3 a2.1
        exact absurd ((List.getElem_inj hj).mp ej) (by omega)
      · have a3 := a1.1
        rw [e1] at a3
        have ej := nd_get hn a3 a2.2.1
        omega
    · intro u hu1 v hv al
      obtain ⟨i, j, hij, hjk, e1, e2, _⟩ := h.of u hu1
      obtain ⟨q, m, _, _, hm, e3, e4, _⟩ := at_ v hv
      rcases al with ⟨_, z⟩ | ⟨z, _⟩
      · rw [z] at e2
        have := nd_get hn e2 e4
        omega
      · rw [z] at e1
        have := nd_get hn e1 e4
        omega
  · intro j h1 h2
    by_cases e : j = k
    · subst e
      cases us with
      | nil =>
        cases js with
        | nil => exact absurd rfl h0
        | cons _ _ => cases hl
      | cons u us =>
        obtain ⟨q, m, _, _, hm, e3, e4, _⟩ := at_ u List.mem_cons_self
        exact ⟨u, List.mem_append_right _ List.mem_cons_self, m, hm, e3, e4⟩
    · obtain ⟨u, hm, i, a, b⟩ := h.to j h1 (by omega)
      exact ⟨u, List.mem_append_left _ hm, i, a, b⟩
  · have := h.len
    have hjl : js.length ≤ k := by
      have := len_le_of_sub (l := js) (xs := List.range k) hj fun j hm => List.mem_range.mpr (hlt j hm)
      rwa [List.length_range] at this
    rw [List.length_append, hl]
    show 2 * (ws.length + js.length) ≤ (k + 1) * (k + 1 - 1)
    rw [Nat.add_sub_cancel]
    have e : (k + 1) * k = k * (k - 1) + 2 * k := by
      cases k with
      | zero => rfl
      | succ k =>
        rw [Nat.add_sub_cancel]
        simp only [Nat.succ_mul, Nat.mul_succ, Nat.add_mul, Nat.mul_add]
        omega
    omega
theorem Tree.ways {xs : List Str} {ws : List Way} (hn : xs.Nodup) (h : Tree xs xs.length ws) : Ways xs ws := by
  refine ⟨fun u hm => ?_, h.sep, h.to, by have := h.len; omega⟩
  obtain ⟨i, j, a, b, c, d, e⟩ := h.of u hm
  refine ⟨List.mem_of_getElem? c, List.mem_of_getElem? d, fun z => ?_, e⟩
  rw [z] at c
  have := nd_get hn c d
  omega
/-- the same without the bound on how many -/
def WaysC (xs : List Str) (ws : List Way) : Prop := (∀ u ∈ ws, u.1 ∈ xs ∧ u.2.1 ∈ xs ∧ u.1 ≠ u.2.1 ∧ 1 ≤ u.2.2) ∧ (ws.Pairwise fun u v => ¬ Alike u v) ∧
  ∀ j, 0 < j → j < xs.length → ∃ u ∈ ws, ∃ i : Nat, i < j ∧ xs[i]? = some u.1 ∧ xs[j]? = some u.2.1
theorem Ways.c {xs : List Str} {ws : List Way} (h : Ways xs ws) : WaysC xs ws := ⟨h.of, h.sep, h.to⟩
theorem WaysC.snoc {xs : List Str} {ws : List Way} {x y : Str} {n : Int} (h : WaysC xs ws) (hx : x ∈ xs) (hy : y ∈ xs) (ne : x ≠ y) (hn : 1 ≤ n) (no : ∀ u ∈ ws, ¬ ((x = u.1 ∨ x = u.2.1) ∧ (y = u.1 ∨ y = u.2.1))) : WaysC xs (ws ++ [(x, y, n)]) := by
  refine ⟨fun u hu => ?_, ?_, fun j h1 h2 => ?_⟩
  · rcases List.mem_append.mp hu with hu | hu
    · exact h.1 u hu
    · rw [List.mem_singleton.mp hu]; exact ⟨hx, hy, ne, hn⟩
  · rw [List.pairwise_append]
    refine ⟨h.2.1, List.pairwise_singleton _ _, fun u hu v hv al => ?_⟩
    rw [List.mem_singleton.mp hv] at al
    refine no u hu ?_
    rcases al with ⟨e1, e2⟩ | ⟨e1, e2⟩
    · exact ⟨.inl e1.symm, .inr e2.symm⟩
    · exact ⟨.inr e2.symm, .inl e1.symm⟩
  · obtain ⟨u, hu, r⟩ := h.2.2 j h1 h2
    exact ⟨u, List.mem_append_left _ hu, r⟩
theorem dats_len {H : Hp} : ∀ {vs : List V} {ds : List PyData}, Dats H vs ds → vs.length = ds.length
  | _, _, .nil => rfl
  | _, _, .cons _ r => by rw [List.length_cons, List.length_cons, dats_len r]
theorem dats_way {H : Hp} : ∀ {vs : List V} {ws : List Way} {i : Nat} {x : V}, Dats H vs (ws.map wayD) → vs[i]? = some x → ∃ u t, ws[i]? = some u ∧ x = .ref t ∧ H t = some (.tup [.str u.1, .str u.2.1, .int u.2.2])
  | _, [], i, x, .nil, e => by cases e
  | _, u :: ws, 0, x, .cons (v := v) h _, e => by
    have e' : v = x := by simpa using e
    subst e'
    cases h with
    | tup ha hd =>
      refine ⟨u, _, rfl, rfl, ?_⟩
      cases hd with
      | cons h1 r1 =>
        cases r1 with
        | cons h2 r2 =>
          cases r2 with
          | cons h3 r3 =>
            cases r3
            cases h1
            cases h2
            cases h3
            exact ha
  | _, u :: ws, i + 1, x, .cons _ r, e => by
    obtain ⟨u', t, a, b⟩ := dats_way (i := i) (x := x) r (by simpa using e)
    exact ⟨u', t, by simpa using a, b⟩
theorem dats_snoc {H : Hp} : ∀ {vs : List V} {ds : List PyData} {v : V} {d : PyData}, Dats H vs ds → Dat H v d → Dats H (vs ++ [v]) (ds ++ [d])
  | _, _, _, _, .nil, h => .cons h .nil
  | _, _, _, _, .cons a r, h => .cons a (dats_snoc r h)
theorem dats_app {H : Hp} : ∀ {vs us : List V} {ds es : List PyData}, Dats H vs ds → Dats H us es → Dats H (vs ++ us) (ds ++ es)
  | _, _, _, _, .nil, h => h
  | _, _, _, _, .cons a r, h => .cons a (dats_app r h)
theorem inV_way (x a b : Str) (n : Int) : inV (.str x) [.str a, .str b, .int n] = (decide (x = a) || decide (x = b)) := by
  have e : ∀ y : Str, eqV (.str y) (.str x) = decide (x = y) := fun y => by
    show (y == x) = _
    by_cases h : x = y
    · subst h; simp
    · rw [decide_eq_false h]
      exact beq_eq_false_iff_ne.mpr fun q => h q.symm
  unfold inV
  rw [List.any_cons, List.any_cons, List.any_cons, List.any_nil, e, e, show eqV (.int n) (.str x) = false from rfl]
  simp
theorem mod_ne {j t n : Int} (h0 : 0 ≤ j) (h1 : j < n) (h2 : 0 ≤ t) (h3 : t < n - 1) : (j + 1 + t) % n ≠ j ∧ 0 ≤ (j + 1 + t) % n ∧ (j + 1 + t) % n < n := by
  have hn : 0 < n := by omega
  refine ⟨?_, Int.emod_nonneg _ (by omega), Int.emod_lt_of_pos _ hn⟩
  by_cases h : j + 1 + t < n
  · rw [Int.emod_eq_of_lt (by omega) h]
    omega
  · have e : (j + 1 + t) % n = j + 1 + t - n := by
      rw [← Int.sub_emod_right, Int.emod_eq_of_lt (by omega) (by omega)]
    rw [e]
    omega
theorem at_str {xs : List Str} {i : Int} (h0 : 0 ≤ i) (h1 : i < xs.length) : ∃ x, atI (xs.map V.str) i = some (.str x) ∧ xs[i.toNat]? = some x := by
  obtain ⟨n, rfl⟩ : ∃ n : Nat, i = (n : Int) := ⟨i.toNat, by omega⟩
  have hn : n < xs.length := by omega
  exact ⟨xs[n], atI_nat (by rw [List.getElem?_map, List.getElem?_eq_getElem hn]; rfl), List.getElem?_eq_getElem hn⟩
/-! rules whose reading does not name the context (for a comprehension's block) -/
theorem ix_listK (K : PySem.W.Frag) {X : Cx} (h : X.K = K) : IxR X (rIxL K) := by subst h; exact ix_list
theorem ix_tupK (K : PySem.W.Frag) {X : Cx} (h : X.K = K) : IxR X (rIxT K) := by subst h; exact ix_tup
theorem op_inK (K : PySem.W.Frag) {X : Cx} (h : X.K = K) : OpR X (compareOp .In) (rIn K false) := by subst h; exact op_in_seq
theorem pg_tupK (K : PySem.W.Frag) {X : Cx} (h : X.K = K) {es : List Expr} {k : Nat} {t : TGs} {n : Nat} {pos : Pos} (hc : X.calm = true) (ht : PGs X es t)
    (hn : (assignEach es X.env).length = n := by rfl) (hst : (assignEach es X.env).findIdx? (·.1) = none := by rfl) : PG X (.Tuple es k pos) (gTup K n t) := by subst h; exact pg_tup hc ht hn hst
/-- the promise of the law's own ways -/
def spWays (K : PySem.W.Frag) : Sp := fun vs H Q _ => ∃ (p a : Addr) (ns : List Int) (i l : Int) (D : Addr) (xs : List Str), vs = [.ref p, .ref D] ∧ PenAt K H p a ns i l ∧ ns.length ≤ 63 ∧ H D = some (.lst (xs.map V.str)) ∧ 1 ≤ xs.length ∧ xs.length ≤ 30 ∧ xs.Nodup ∧
  ∀ (H' : Hp) (E : Addr) (vs : List V) (ws : List Way) (i' l' : Int), PenAt K H' p a ns i' l' → Keep p H H' → H E = none → H' E = some (.lst vs) → Dats H' vs (ws.map wayD) → Ways xs ws → Q (.ref E) H'
end L2

set_option Elab.async false
set_option linter.all false
set_option maxRecDepth 100000
namespace L2
open PySem PySem.W PyProof.Rows
/-! ### sorting below 64 items: whatever the comparisons answer, what comes is the same items in some order -/
def Good {α : Type} (n : Nat) (P : α → Prop) : KasT α → Prop
  | .ret a => P a
  | .ask i j k => i < n ∧ j < n ∧ ∀ b, Good n P (k b)
theorem Good.bind {α β : Type} {n : Nat} {P : α → Prop} {R : β → Prop} {f : α → KasT β} : ∀ {t : KasT α}, Good n P t → (∀ a, P a → Good n R (f a)) → Good n R (t.bind f)
  | .ret a, h, hf => hf a h
  | .ask i j k, h, hf => ⟨h.1, h.2.1, fun b => Good.bind (h.2.2 b) hf⟩
theorem Good.wp {α : Type} {n : Nat} {P : α → Prop} {J : Shared → Prop} {cmp : Nat → Nat → (Bool → Shared → Prop) → Shared → Prop} {Q : α → Shared → Prop}
    (hc : ∀ i j (C : Bool → Shared → Prop) s, i < n → j < n → J s → (∀ b s', J s' → C b s') → cmp i j C s) (hq : ∀ a s, P a → J s → Q a s) : ∀ {t : KasT α} {s : Shared}, Good n P t → J s → t.kasWp cmp Q s
  | .ret a, s, h, hs => hq a s h hs
  | .ask i j k, s, h, hs => hc i j _ s h.1 h.2.1 hs fun b s' hs' => Good.wp hc hq (h.2.2 b) hs'
/-- an order of the first n numbers -/
def Ord (n : Nat) (p : Array Nat) : Prop := p.Perm (List.toArray (List.range n))
theorem Ord.lt {n : Nat} {p : Array Nat} (h : Ord n p) (hn : 0 < n) (i : Nat) : p.getD i 0 < n := by
  rw [Array.getD_eq_getD_getElem?]
  cases e : p[i]? with
  | none => exact hn
  | some x =>
    have m : x ∈ p := Array.mem_of_getElem? e
    have m2 : x ∈ (List.toArray (List.range n)) := (Array.Perm.mem_iff h).mp m
    have m3 : x ∈ List.range n := by simpa using m2
    exact List.mem_range.mp m3
theorem Ord.rev {n : Nat} {p : Array Nat} (h : Ord n p) (i j : Nat) : Ord n (kas_rev p i j) := (mirror_perm p i j _).trans h
section
variable {n : Nat} (hn : 0 < n)
include hn
theorem good_asc {p : Array Nat} (h : Ord n p) : ∀ (f m : Nat), Good n (fun _ => True) (kas_asc p f m)
  | 0, _ => True.intro
  | f + 1, m => ⟨h.lt hn _, h.lt hn _, fun b => by
    cases b
    · exact good_asc h f (m + 1)
    · exact True.intro⟩
theorem good_desc : ∀ (f : Nat) {p : Array Nat} (m q : Nat), Ord n p → Good n (fun r => Ord n r.1) (kas_desc f p m q)
  | 0, p, m, q, h => h
  | f + 1, p, m, q, h => ⟨h.lt hn _, h.lt hn _, fun b => by
    cases b
    · refine ⟨h.lt hn _, h.lt hn _, fun d => ?_⟩
      cases d
      · exact good_desc f _ _ h
      · exact h
    · show Good n _ (if q > 0 then _ else _)
      split
      · exact good_desc f _ _ (h.rev _ _)
      · exact good_desc f _ _ h⟩
theorem good_tail3 {p : Array Nat} (h : Ord n p) (m r : Nat) : Good n (fun x => Ord n x.2) (kas_tail3 m r p) := Good.bind (good_asc hn (h.rev _ _) _ _) fun _ _ => h.rev _ _
theorem good_descPart {p : Array Nat} (h : Ord n p) (m r : Nat) : Good n (fun x => Ord n x.2) (kas_descPart m r p) := by
  refine Good.bind (good_desc hn _ _ _ h) fun x hx => ?_
  split
  · exact good_tail3 hn (hx.rev _ _) _ _
  · exact good_tail3 hn hx _ _
theorem good_count {p : Array Nat} (h : Ord n p) (r : Nat) : Good n (fun x => Ord n x.2) (kas_count r p) := by
  refine Good.bind (good_asc hn h _ _) fun m _ => ?_
  split
  · exact h
  · split
    · refine ⟨h.lt hn _, h.lt hn _, fun b => ?_⟩
      cases b
      · exact good_descPart hn (h.rev _ _) _ _
      · exact h
    · exact good_descPart hn h _ _
theorem good_place {p : Array Nat} (h : Ord n p) (k : Nat) : ∀ (f l r : Nat), Good n (fun _ => True) (kas_place p k f l r)
  | 0, _, _ => True.intro
  | f + 1, l, r => by
    show Good n _ (if l ≥ r then _ else _)
    split
    · exact True.intro
    · refine ⟨h.lt hn _, h.lt hn _, fun b => ?_⟩
      cases b
      · exact good_place h k f _ _
      · exact good_place h k f _ _
theorem good_bin : ∀ (f : Nat) {p : Array Nat} (k : Nat), Ord n p → Good n (fun q => Ord n q) (kas_bin f p k)
  | 0, p, k, h => h
  | f + 1, p, k, h => Good.bind (good_place hn h k _ _ _) fun l _ => good_bin f (k + 1) ((bubble_perm p k (k - l)).trans h)
theorem good_sort : Good n (fun q => Ord n q) (kas_sort n) := by
  refine Good.bind (good_count hn (Array.Perm.refl _) n) fun r hr => ?_
  split
  · exact good_bin hn _ _ hr
  · exact hr
end
/-- the items in that order are the same items -/
theorem ord_perm {α : Type} {n : Nat} {p : Array Nat} (h : Ord n p) (xs : List α) (d : α) (hl : xs.length = n) : (p.toList.map fun i => xs.getD i d).Perm xs := by
  have h1 : p.toList.Perm (List.range n) := by
    have := Array.perm_iff_toList_perm.mp h
    simpa using this
  refine (h1.map _).trans (List.Perm.of_eq ?_)
  subst hl
  apply List.ext_getElem
  · simp
  · intro i h1 h2
    simp [h2]
end L2

set_option Elab.async false
set_option linter.all false
set_option maxRecDepth 100000
set_option maxHeartbeats 4000000
namespace L2
open PySem PySem.Spec PyProof.Rows PySem.W
/-- a way's tuple as it lies in the heap -/
def WayAt (h : Heap) (v : Value) : Prop := ∃ a o xs n x y k t u q, v = .ref a ∧ h.get? a = some o ∧ o.cls = .type "tuple" ∧ o.data = .seq xs n ∧ xs = #[Value.str x t, .str y u, .int k q]
theorem ways_at {X : Cx} {pins : List (Addr × Obj)} {σ : St} {H : Hp} {s : Shared} (I : Inv X pins σ H s) : ∀ {vs : List V} {ws : List Way} {us : List Value}, Dats H vs (ws.map wayD) → Vals vs us → ∀ v ∈ us, WayAt s.heap v := by
  intro vs ws
  induction ws generalizing vs with
  | nil => intro us d r v hv; cases d; cases r; cases hv
  | cons w ws ih =>
    intro us d r v hv
    cases d with
    | cons d1 d2 =>
      cases r with
      | cons r1 r2 =>
        rcases List.mem_cons.mp hv with rfl | hv
        · obtain ⟨u, t, gu, rfl, ht⟩ := dats_way (i := 0) (ws := w :: ws) (Dats.cons d1 d2) rfl
          cases gu
          cases r1
          obtain ⟨_, its, rv, o, ho, hc, n, hd⟩ := (show ObjOk X.prog X.w H s.heap t (.tup _) from I.hok t _ ht)
          cases rv with
          | cons a1 b1 =>
            cases b1 with
            | cons a2 b2 =>
              cases b2 with
              | cons a3 b3 =>
                cases b3
                obtain ⟨t1, rfl⟩ := a1
                obtain ⟨t2, rfl⟩ := a2
                obtain ⟨t3, rfl⟩ := a3
                exact ⟨t, o, _, n, _, _, _, t1, t2, t3, rfl, ho, hc, hd, rfl⟩
        · exact ih d2 r2 v hv
/-- two such tuples are compared, whatever comes -/
theorem way_lt {prog : Program} {w : World} {A : Around} {s : Shared} {u v : Value} {C : Bool → Shared → Prop} (hu : WayAt s.heap u) (hv : WayAt s.heap v) (hC : ∀ b, C b s) :
    wpAny (model prog w) A (keyLt' (tuples' true) u v) C (fun _ _ => False) s := by
  obtain ⟨a, o, xs, n, x, y, k, t1, t2, t3, rfl, ho, hc, hd, rfl⟩ := hu
  obtain ⟨a', o', xs', n', x', y', k', t1', t2', t3', rfl, ho', hc', hd', rfl⟩ := hv
  refine kat_lt ho hd ho' hd' ?_
  refine kat_cons (SeqAt.EqAt.str_str x t1 x' t1' _ _ _ _ ?_)
  refine kat_go (fun _ => kat_yes ?_) (fun _ => kat_no (oneLt_str (hC _)))
  refine kat_cons (SeqAt.EqAt.str_str y t2 y' t2' _ _ _ _ ?_)
  refine kat_go (fun _ => kat_yes ?_) (fun _ => kat_no (kat_one _ _ (PySem.P.lt_str (hC _))))
  refine kat_cons (SeqAt.EqAt.int_int k t3 k' t3' _ _ _ _ ?_)
  refine kat_go (fun _ => kat_yes (kat_nil (hC _))) (fun _ => kat_no (kat_one _ _ (lt_int (hC _))))
theorem ObjOk.there {P : Program} {w : World} {H : Hp} {h : Heap} {a : Addr} {o : HO} (x : ObjOk P w H h a o) : ∃ ob, h.get? a = some ob := by
  cases o with
  | lst xs => obtain ⟨_, _, _, _, e⟩ := x; exact ⟨_, e⟩
  | tup xs => obtain ⟨_, _, _, ob, e, _⟩ := x; exact ⟨ob, e⟩
  | dK kvs => obtain ⟨_, _, _, _, o, _, _, e, _⟩ := x; exact ⟨o, e⟩
  | dT kvs => obtain ⟨_, _, _, _, o, _, _, e, _⟩ := x; exact ⟨o, e⟩
  | set S n => obtain ⟨o, _, _, _, e, _⟩ := x; exact ⟨o, e⟩
  | ins C dx fs => obtain ⟨_, _, _, e, _⟩ := x; exact ⟨_, e⟩
  | own y => exact x
  | xd fs => obtain ⟨_, ⟨_, _, _, e, _⟩, _⟩ := x; exact ⟨_, e⟩
  | rng lo hi => obtain ⟨_, _, _, e⟩ := x; exact ⟨_, e⟩
  | frz ob u => obtain ⟨e, _⟩ := x; exact ⟨_, e⟩
  | tbl ps => exact ⟨_, (show h.get? a = some _ from x)⟩
  | met f y => exact ⟨_, (show h.get? a = some _ from x)⟩
  | ext φ => obtain ⟨_, ⟨_, e⟩, _⟩ := x; exact ⟨_, e⟩
/-- behind a rule that kept all objects but the frame's own (its names stay) and laid one at D -/
theorem Inv.laidF {X : Cx} {pins : List (Addr × Obj)} {σ : St} {H : Hp} {s : Shared} {h2 : Heap} {D : Addr} {o : HO} {m : Str → Option Value} (I : Inv X pins σ H s)
    (hl : s.heap.Ns X.env.locals m ∧ ∀ (i : Nat) (x : Str) (v : V), X.N[i]? = some x → σ[i]? = some (some v) → Vis X.env.scope x → ∃ u, RelV v u ∧ Look X.env s.heap m x u) (hn : h2.Ns X.env.locals m)
    (kp : ∀ b ob, b ≠ X.env.locals → s.heap.get? b = some ob → h2.get? b = some ob) (hD : s.heap.get? D = none) (hDL : D ≠ X.env.locals) (new : ObjOk X.prog X.w (upd H D o) h2 D o) : Inv X pins σ (upd H D o) { s with heap := h2 } := by
  have fD : H D = none := by
    cases z : H D with
    | none => rfl
    | some u =>
      obtain ⟨ob, e⟩ := ObjOk.there (I.hok D u z)
      rw [hD] at e
      cases e
  have neL : ∀ b ob, X.s₀.heap.get? b = some ob → b ≠ X.env.locals := fun b ob e => Nat.ne_of_lt (Nat.lt_of_lt_of_le (Heap.lt_size e) I.ok.above)
  have neD : ∀ b ob, s.heap.get? b = some ob → b ≠ D := fun b ob e z => by rw [z, hD] at e; cases e
  have cellK : ∀ x c, X.env.cells.lookup x = some c → ∀ v, s.heap.IsCell c v → h2.IsCell c v := fun x c e v ⟨ob, ho, hd⟩ => ⟨ob, kp c ob (I.cne x c e) ho, hd⟩
  refine ⟨I.ok, I.os, I.bare, ⟨?_, ?_, ?_, ?_, ?_, ?_, ?_⟩, ⟨m, hn, ?_⟩, ?_, ?_, ?_, ?_, ?_, I.len⟩
  · exact fun b ob e n hb hx => kp b ob (neL b ob e) (I.base.keep b ob e n hb hx)
  · intro b ob e n hb hx
    obtain ⟨sl, q⟩ := I.base.slot b ob e n hb hx
    exact ⟨sl, kp b _ (neL b ob e) q⟩
  · intro b ob e n hx
    obtain ⟨ob', q⟩ := I.base.there b ob e hx
    rw [upd_ne (neD b ob' q)]
    exact I.base.free b ob e n hx
  · intro b ob e hx
    obtain ⟨ob', q⟩ := I.base.there b ob e hx
    exact ⟨ob', kp b ob' (neL b ob e) q⟩
  · intro b xs e
    have q := I.base.tups b xs e
    rw [upd_ne (ne_of_none q fD)]
    exact q
  · intro b ob u e
    have q := I.base.frzs b ob u e
    rw [upd_ne (ne_of_none q fD)]
    exact q
  · intro b ps e
    obtain ⟨more, q⟩ := I.base.tbls b ps e
    exact ⟨more, by rw [upd_ne (ne_of_none q fD)]; exact q⟩
  · intro i x v e1 e2 e3
    obtain ⟨u, r, l⟩ := hl.2 i x v e1 e2 e3
    refine ⟨u, r, ?_⟩
    rcases l with l | ⟨k, c, e, z⟩
    · exact .inl l
    · exact .inr ⟨k, c, e, cellK x c e _ z⟩
  · intro x c e
    obtain ⟨v, z⟩ := I.cell x c e
    exact ⟨v, cellK x c e v z⟩
  · rw [upd_ne (Ne.symm hDL)]
    exact I.free
  · intro x c e
    obtain ⟨v, ob, ho, _⟩ := I.cell x c e
    rw [upd_ne (neD c ob ho)]
    exact I.freeC x c e
  · intro p hp
    obtain ⟨e, n, ne, nf, d⟩ := I.pin p hp
    exact ⟨kp _ _ ne e, by rw [upd_ne (neD _ _ e)]; exact n, ne, nf, d⟩
  · intro b u e
    by_cases hb : b = D
    · subst hb
      rw [upd_same] at e
      cases e
      exact new
    · rw [upd_ne hb] at e
      refine (I.hok b u e).stay (fun c v hc q => kp c v ?_ q) (fun c q => by rw [upd_ne (ne_of_none q fD)]; exact q) fun c xs q => by rw [upd_ne (ne_of_none q fD)]; exact q
      rintro rfl
      rcases hc with rfl | hc
      · rw [I.free] at e; cases e
      · rw [I.free] at hc; cases hc
/-- sorted(a list of ways), two of them at least, below 64: the same ones in some order -/
theorem call_sorted_ways {X : Cx} : CallR X (.builtin "sorted") (fun xs H Q => ∃ (a : Addr) (vs : List V) (ws : List Way), xs = [.ref a] ∧ H a = some (.lst vs) ∧ Dats H vs (ws.map wayD) ∧ 2 ≤ ws.length ∧ ws.length < 64 ∧
    ∀ (l : Addr) (vs' : List V), H l = none → vs'.Perm vs → Q (.ref l) (upd H l (.lst vs'))) := by
  intro pins s σ H xs us Q I r h
  obtain ⟨a, vs, ws, rfl, ha, hd, h2, h64, q⟩ := h
  obtain ⟨u, rfl, ru⟩ := vals1 r
  cases ru
  obtain ⟨its, rv, pl, hz⟩ := I.list (SqL.of ha)
  have hwl : its.length = ws.length := by rw [← rv.length, dats_len hd, List.length_map]
  obtain ⟨m, hlm⟩ := id I.loc
  have F : Fr X.base X.env.locals s.heap m := ⟨hlm.1, I.bk, Nat.le_trans I.ok.bsz I.ok.above⟩
  refine kat_sorted F (news_all (g := X.base) (h := s.heap) (L := X.env.locals)) pl.isList (by omega) (by omega) fun D e1 h' F' N' hlt => ?_
  have kp : ∀ b o, b ≠ X.env.locals → s.heap.get? b = some o → h'.get? b = some o := fun b o hb e => by
    cases z : X.base.get? b with
    | some u =>
      have := (I.bs b u z).1
      rw [e] at this
      cases this
      exact F'.keep b _ z
    | none => exact (N' (b, o) (List.mem_cons_of_mem _ (mem_allNews hb z e))).1
  have nL : ∀ b o xs n, s.heap.get? b = some o → o.data = .seq xs n → b ≠ X.env.locals := fun b o xs n e hc z => by
    obtain ⟨o', es, ep, ho', hd', _⟩ := hlm.1
    rw [z, ho'] at e
    cases e
    rw [hd'] at hc
    cases hc
  have at' : ∀ v ∈ its, WayAt h' v := fun v hv => by
    obtain ⟨a, o, xs, n, x, y, k, t, u, q, e1, e2, e3, e4, e5⟩ := ways_at I hd rv v hv
    exact ⟨a, o, xs, n, x, y, k, t, u, q, e1, kp a o (nL a o _ _ e2 e4) e2, e3, e4, e5⟩
  have tups : ∀ (l : List Value), (∀ v ∈ l, WayAt h' v) → ∃ fs : List Value, KatTups h' l fs ∧ fs.length = l.length ∧ ∀ f ∈ fs, ∃ x t, f = Value.str x t := by
    intro l
    induction l with
    | nil => intro _; exact ⟨[], KatTups.nil, rfl, fun f hf => nomatch hf⟩
    | cons v l ih =>
      intro hl
      obtain ⟨fs, k1, k2, k3⟩ := ih fun v hv => hl v (List.mem_cons_of_mem _ hv)
      obtain ⟨a, o, xs, n, x, y, k, t, u, q, rfl, e2, e3, e4, rfl⟩ := hl v List.mem_cons_self
      refine ⟨.str x t :: fs, KatTups.cons e2 e3 e4 rfl k1, by rw [List.length_cons, List.length_cons, k2], fun f hf => ?_⟩
      rcases List.mem_cons.mp hf with rfl | hf
      · exact ⟨x, t, rfl⟩
      · exact k3 f hf
  obtain ⟨fs, k1, k2, k3⟩ := tups its at'
  refine kat_kind (T := .type "str") (fs := fs) k1 (by omega) (fun v hv => ?_) rfl ?_
  · obtain ⟨x, t, rfl⟩ := k3 v hv
    exact Looks.now
  · refine Good.wp (n := its.length) (P := Ord its.length) (J := fun s' => s' = { s with heap := h' }) (fun i j C s' hi hj hs hC => ?_) (fun p s' hp hs => ?_) (good_sort (by omega)) rfl
    · subst hs
      refine way_lt ?_ ?_ fun b => hC b _ rfl
      · refine at' _ ?_
        rw [List.getD_eq_getElem?_getD, List.getElem?_eq_getElem hi]
        exact List.getElem_mem hi
      · refine at' _ ?_
        rw [List.getD_eq_getElem?_getD, List.getElem?_eq_getElem hj]
        exact List.getElem_mem hj
    · subst hs
      refine KasFin.intro F' N' (.head fun p hp => Nat.ne_of_lt (hlt p hp)) fun h2 c F2 N2 => ?_
      have hD : s.heap.get? D = none := by
        cases z : s.heap.get? D with
        | none => rfl
        | some ob =>
          have n0 := (N' _ List.mem_cons_self).2
          exact absurd (hlt (D, ob) (mem_allNews n0.1 n0.2 z)) (Nat.lt_irrefl _)
      have kp2 : ∀ b o, b ≠ X.env.locals → s.heap.get? b = some o → h2.get? b = some o := fun b o hb e => by
        cases z : X.base.get? b with
        | some u =>
          have := (I.bs b u z).1
          rw [e] at this
          cases this
          exact F2.keep b _ z
        | none => exact (N2 (b, o) (List.mem_cons_of_mem _ (mem_allNews hb z e))).1
      have fD : H D = none := by
        cases z : H D with
        | none => rfl
        | some u =>
          obtain ⟨ob, e⟩ := ObjOk.there (I.hok D u z)
          rw [hD] at e
          cases e
      have pv' : (p.toList.map fun i => vs.getD i .non).Perm vs := ord_perm hp vs .non rv.length
      have vv : ∀ l : List Nat, (∀ i ∈ l, i < its.length) → Vals (l.map fun i => vs.getD i .non) (l.map fun i => its.getD i Value.none) := by
        intro l
        induction l with
        | nil => intro _; exact .nil
        | cons i l ih =>
          intro hl
          refine .cons ?_ (ih fun j hj => hl j (List.mem_cons_of_mem _ hj))
          have hi := hl i List.mem_cons_self
          have hi' : i < vs.length := by rw [rv.length]; exact hi
          obtain ⟨u, e1, e2⟩ := rv.get (List.getElem?_eq_getElem hi')
          show RelV (vs.getD i .non) (its.getD i Value.none)
          rw [List.getD_eq_getElem?_getD, List.getD_eq_getElem?_getD, List.getElem?_eq_getElem hi', e1]
          exact e2
      have inl : ∀ i ∈ p.toList, i < its.length := fun i hi => by
        have h1 : p.toList.Perm (List.range its.length) := by
          have := Array.perm_iff_toList_perm.mp hp
          simpa using this
        exact List.mem_range.mp ((h1.mem_iff).mp hi)
      refine ⟨.ref D, _, I.laidF (o := .lst (p.toList.map fun i => vs.getD i .non)) hlm F2.ns kp2 hD (N' _ List.mem_cons_self).2.1 ⟨?_, _, c, vv p.toList inl, (N2 _ List.mem_cons_self).1⟩, rfl, q D _ fD pv'⟩
      rw [pv'.length_eq]
      exact hz
end L2

set_option Elab.async false
set_option linter.all false
set_option maxRecDepth 100000
set_option maxHeartbeats 4000000
namespace L2
open PySem PySem.Spec PyProof.Rows
/-! ### min and max of two texts -/
def codeAt (a b : Str) (i : Nat) : List Nat := if i = 0 then a.cps.toList else b.cps.toList
theorem two_at {a b : Str} {t u : Tok} {i : Nat} {v : Value} (h : (#[Value.str a t, .str b u] : Array Value)[i]? = some v) : (i = 0 ∧ v = .str a t) ∨ (i = 1 ∧ v = .str b u) := by
  match i, h with
  | 0, h => exact .inl ⟨rfl, by simpa using h.symm⟩
  | 1, h => exact .inr ⟨rfl, by simpa using h.symm⟩
  | n + 2, h => simp at h
theorem cmp_lt {prog : Program} {w : World} {A : Around} {a b : Str} {t u : Tok} : CmpOf prog w A .Lt (fun i v => (#[Value.str a t, .str b u] : Array Value)[i]? = some v) (fun i j => decide (codeAt a b i < codeAt a b j)) := by
  intro i j vi vj s Q E hi hj hQ
  rcases two_at hi with ⟨rfl, rfl⟩ | ⟨rfl, rfl⟩ <;> rcases two_at hj with ⟨rfl, rfl⟩ | ⟨rfl, rfl⟩ <;> exact PySem.P.lt_str hQ
theorem cmp_gt {prog : Program} {w : World} {A : Around} {a b : Str} {t u : Tok} : CmpOf prog w A .Gt (fun i v => (#[Value.str a t, .str b u] : Array Value)[i]? = some v) (fun i j => decide (codeAt a b j < codeAt a b i)) := by
  intro i j vi vj s Q E hi hj hQ
  rcases two_at hi with ⟨rfl, rfl⟩ | ⟨rfl, rfl⟩ <;> rcases two_at hj with ⟨rfl, rfl⟩ | ⟨rfl, rfl⟩ <;> exact PySem.P.gt_str hQ
section
variable {prog : Program} {w : World} {A : Around} {E : Value → Shared → Prop} {s : Shared}
theorem min_two_strs {a b : Str} {t u : Tok} {Q : Value → Shared → Prop} (hh : A.handled = none)
    (h : ∀ h' tk, (∀ c o, s.heap.get? c = some o → h'.get? c = some o) → Q (if b.cps.toList < a.cps.toList then .str b u else .str a t) { s with heap := h', toks := tk }) :
    wpAny (model prog w) A (call (.builtin "min") [.str a t, .str b u]) Q E s := by
  have hT : (s.heap.push { cls := .type "tuple", data := .seq #[.str a t, .str b u] }).IsTuple s.heap.objs.size #[.str a t, .str b u] := ⟨_, Heap.get?_push_size _ rfl, rfl, 0, rfl⟩
  refine call_min_two (wpAny_pyIter_tuple hT ?_)
  have hsz : (s.heap.push { cls := .type "tuple", data := .seq #[.str a t, .str b u] }).objs.size = s.heap.objs.size + 1 := Heap.size_push ..
  refine ⟨_, [_, s.heap.objs.size], [_], _, _, _, _, rfl, Walks.tuple (A := A.in1) hh _ s.heap.objs.size (by rw [hsz]; exact Nat.ne_of_lt (Nat.lt_succ_self _)) #[.str a t, .str b u],
    ⟨⟨_, Heap.get?_push_size _ rfl, rfl, rfl⟩, hT.push _⟩, fun c hc => ?_, by simp, cmp_lt, fun v h' tk hP hk => ?_⟩
  · show c < ((s.heap.push _).push _).objs.size
    rw [Heap.size_push, hsz]
    rcases List.mem_cons.mp hc with rfl | hc
    · rw [hsz]; exact Nat.lt_succ_self _
    · rcases List.mem_cons.mp hc with rfl | hc
      · exact Nat.lt_succ_of_lt (Nat.lt_succ_self _)
      · cases hc
  · have hold : ∀ c o, s.heap.get? c = some o → h'.get? c = some o := fun c o e => by
      refine hk c o (fun hm => ?_) (Heap.get?_push_of_some _ (Heap.get?_push_of_some _ e))
      rcases List.mem_cons.mp hm with e1 | hm
      · have := Heap.lt_size e; rw [e1, hsz] at this; exact Nat.lt_irrefl _ (Nat.lt_of_succ_lt this)
      · cases hm
    have hv : v = if b.cps.toList < a.cps.toList then Value.str b u else Value.str a t := by
      have hP' : (#[Value.str a t, .str b u] : Array Value)[if decide (b.cps.toList < a.cps.toList) = true then 1 else 0]? = some v := hP
      by_cases hba : b.cps.toList < a.cps.toList
      · rw [if_pos (decide_eq_true hba)] at hP'
        rw [if_pos hba]
        simpa using hP'.symm
      · rw [if_neg (by simpa using hba)] at hP'
        rw [if_neg hba]
        simpa using hP'.symm
    rw [hv]
    exact h h' tk hold
theorem max_two_strs {a b : Str} {t u : Tok} {Q : Value → Shared → Prop} (hh : A.handled = none)
    (h : ∀ h' tk, (∀ c o, s.heap.get? c = some o → h'.get? c = some o) → Q (if a.cps.toList < b.cps.toList then .str b u else .str a t) { s with heap := h', toks := tk }) :
    wpAny (model prog w) A (call (.builtin "max") [.str a t, .str b u]) Q E s := by
  have hT : (s.heap.push { cls := .type "tuple", data := .seq #[.str a t, .str b u] }).IsTuple s.heap.objs.size #[.str a t, .str b u] := ⟨_, Heap.get?_push_size _ rfl, rfl, 0, rfl⟩
  refine call_max_two (wpAny_pyIter_tuple hT ?_)
  have hsz : (s.heap.push { cls := .type "tuple", data := .seq #[.str a t, .str b u] }).objs.size = s.heap.objs.size + 1 := Heap.size_push ..
  refine ⟨_, [_, s.heap.objs.size], [_], _, _, _, _, rfl, Walks.tuple (A := A.in1) hh _ s.heap.objs.size (by rw [hsz]; exact Nat.ne_of_lt (Nat.lt_succ_self _)) #[.str a t, .str b u],
    ⟨⟨_, Heap.get?_push_size _ rfl, rfl, rfl⟩, hT.push _⟩, fun c hc => ?_, by simp, cmp_gt, fun v h' tk hP hk => ?_⟩
  · show c < ((s.heap.push _).push _).objs.size
    rw [Heap.size_push, hsz]
    rcases List.mem_cons.mp hc with rfl | hc
    · rw [hsz]; exact Nat.lt_succ_self _
    · rcases List.mem_cons.mp hc with rfl | hc
      · exact Nat.lt_succ_of_lt (Nat.lt_succ_self _)
      · cases hc
  · have hold : ∀ c o, s.heap.get? c = some o → h'.get? c = some o := fun c o e => by
      refine hk c o (fun hm => ?_) (Heap.get?_push_of_some _ (Heap.get?_push_of_some _ e))
      rcases List.mem_cons.mp hm with e1 | hm
      · have := Heap.lt_size e; rw [e1, hsz] at this; exact Nat.lt_irrefl _ (Nat.lt_of_succ_lt this)
      · cases hm
    have hv : v = if a.cps.toList < b.cps.toList then Value.str b u else Value.str a t := by
      have hP' : (#[Value.str a t, .str b u] : Array Value)[if decide (a.cps.toList < b.cps.toList) = true then 1 else 0]? = some v := hP
      by_cases hba : a.cps.toList < b.cps.toList
      · rw [if_pos (decide_eq_true hba)] at hP'
        rw [if_pos hba]
        simpa using hP'.symm
      · rw [if_neg (by simpa using hba)] at hP'
        rw [if_neg hba]
        simpa using hP'.symm
    rw [hv]
    exact h h' tk hold
end
/-- the lesser, the greater of two texts -/
def minS (a b : Str) : Str := if b.cps.toList < a.cps.toList then b else a
def maxS (a b : Str) : Str := if a.cps.toList < b.cps.toList then b else a
theorem call_min2s {X : Cx} (hc : X.calm = true) : CallR X (.builtin "min") (fun xs H Q => ∃ i j, xs = [.str i, .str j] ∧ Q (.str (minS i j)) H) := by
  intro pins s σ H xs us Q I r h
  obtain ⟨i, j, rfl, q⟩ := h
  obtain ⟨u, w', rfl, ⟨t, rfl⟩, ⟨t', rfl⟩⟩ := vals2 r
  refine min_two_strs (I.ok.hd hc) fun h' tk k => ⟨_, H, I.kept k, ?_, q⟩
  unfold minS
  by_cases hj : j.cps.toList < i.cps.toList
  · rw [if_pos hj, if_pos hj]; exact ⟨_, rfl⟩
  · rw [if_neg hj, if_neg hj]; exact ⟨_, rfl⟩
theorem call_max2s {X : Cx} (hc : X.calm = true) : CallR X (.builtin "max") (fun xs H Q => ∃ i j, xs = [.str i, .str j] ∧ Q (.str (maxS i j)) H) := by
  intro pins s σ H xs us Q I r h
  obtain ⟨i, j, rfl, q⟩ := h
  obtain ⟨u, w', rfl, ⟨t, rfl⟩, ⟨t', rfl⟩⟩ := vals2 r
  refine max_two_strs (I.ok.hd hc) fun h' tk k => ⟨_, H, I.kept k, ?_, q⟩
  unfold maxS
  by_cases hj : i.cps.toList < j.cps.toList
  · rw [if_pos hj, if_pos hj]; exact ⟨_, rfl⟩
  · rw [if_neg hj, if_neg hj]; exact ⟨_, rfl⟩
end L2

set_option Elab.async false
set_option linter.all false
set_option maxRecDepth 100000
namespace L2
open PySem PySem.Spec PyProof.Rows
theorem strs_of {ss : List Str} : ∀ {us : List Value}, Vals (ss.map V.str) us → StrsAre us ss := by
  induction ss with
  | nil => intro us r; cases r; exact .nil
  | cons x ss ih =>
    intro us r
    cases r with
    | cons r1 r2 =>
      obtain ⟨t, rfl⟩ := r1
      exact .cons x t (ih r2)
theorem of_strs : ∀ {us : List Value} {ss : List Str}, StrsAre us ss → Vals (ss.map V.str) us
  | _, _, .nil => .nil
  | _, _, .cons x t r => .cons ⟨t, rfl⟩ (of_strs r)
/-- sorted(a list of texts), below 64 -/
theorem call_sorted_strs {X : Cx} : CallR X (.builtin "sorted") (fun xs H Q => ∃ (a : Addr) (ss : List Str), xs = [.ref a] ∧ SqL X.K H a (ss.map V.str) ∧ ss.length < 64 ∧
    ∀ (l : Addr) (ss' : List Str), H l = none → ss'.Perm ss → sortedS ss' = true → Q (.ref l) (upd H l (.lst (ss'.map V.str)))) := by
  intro pins s σ H xs us Q I r h
  obtain ⟨a, ss, rfl, ha, h64, q⟩ := h
  obtain ⟨u, rfl, ru⟩ := vals1 r
  cases ru
  obtain ⟨its, rv, pl, hz⟩ := I.list ha
  have hl : its.length = ss.length := by rw [← rv.length, List.length_map]
  refine sorted_strs pl.isList (strs_of rv) (by omega) fun out ss' h1 h2 h3 => ?_
  obtain ⟨e, he⟩ := sortedAll_at s.heap its out
  refine ⟨.ref (s.heap.objs.size + 1), _, I.laid (o := .lst (ss'.map V.str)) (t' := s.toks) (fun b o z => sortedAll_old z) (Nat.le_succ _) ⟨?_, out.toList, e, of_strs h1, by simpa using he⟩, rfl, q _ ss' (I.hok.fresh (Nat.le_succ _)) h2 h3⟩
  rw [List.length_map, h2.length_eq]
  have : 100 < sizeLine := by decide
  omega
end L2

set_option Elab.async false
set_option linter.all false
set_option maxRecDepth 100000
set_option maxHeartbeats 4000000
namespace L2
open PySem PySem.Spec PyProof.Rows
section
variable {prog : Program} {w : World} {A : Around} {E : Value → Shared → Prop} {s : Shared}
/-- list.sort of fewer than two items -/
theorem sort_few {a : Addr} {vs : List Value} {n : Nat} {P : PySem.Fin → Shared → Prop} (ho : s.heap.get? a = some (seqObj "list" vs.toArray n)) (h2 : vs.length < 2)
    (h : P (.done (.ret .none)) { s with heap := sortedHeap s.heap a vs vs.toArray }) : wpAny (model prog w) A (Builtin.«list.sort» ⟨[.ref a], []⟩) P E s := by
  rw [list_sort_plain]
  have ha : a < s.heap.objs.size := Heap.lt_size ho
  refine wpAny_bind (listItems_at ho rfl ?_)
  refine wpAny_bind (listUpdate_at ho rfl ?_)
  obtain ⟨e1, ho1⟩ : ∃ e1, (s.heap.update a (Obj.mapSeq fun _ => #[])).get? a = some (seqObj "list" #[] e1) := ⟨_, get?_update_seq ho (fun _ => #[])⟩
  refine wpAny_bind (seqEpoch_at ho1 rfl ?_)
  refine wpAny_bind (wpAny_newTuple ?_)
  refine wpAny_bind (wpAny_newList ?_)
  refine wpAny_holding ?_
  have ho6 : (((s.heap.update a (Obj.mapSeq fun _ => #[])).push (seqObj "tuple" vs.toArray 0)).push (seqObj "list" #[] 0)).get? a = some (seqObj "list" #[] e1) := by
    rw [Heap.get?_push_ne _ _ _ (by rw [size_push', Heap.size_update]; exact Nat.ne_of_lt (Nat.lt_succ_of_lt ha)), Heap.get?_push_ne _ _ _ (by rw [Heap.size_update]; exact Nat.ne_of_lt ha)]
    exact ho1
  show wpAny (model prog w) A _ P E { s with heap := ((s.heap.update a (Obj.mapSeq fun _ => #[])).push (seqObj "tuple" vs.toArray 0)).push (seqObj "list" #[] 0) }
  dsimp only
  have hsz : vs.toArray.size < 2 := by simpa using h2
  rw [if_pos hsz, if_pos hsz]
  refine wpAny_bind (wpAny_pure ?_)
  rw [StateT.run_pure]
  refine wpAny_bind (wpAny_pure ?_)
  dsimp only
  refine wpAny_bind (seqEpoch_at ho6 rfl ?_)
  have hm : (vs.toArray.zip vs.toArray).map (·.2) = vs.toArray := by
    apply Array.ext'
    simp only [Array.toList_map, Array.toList_zip]
    exact List.map_snd_zip (Nat.le_refl _)
  refine wpAny_bind (listUpdate_at ho6 rfl ?_ (hsz2 := by
    show ((vs.toArray.zip vs.toArray).map (·.2)).size ≤ _
    rw [hm, sizeLine_eq, List.size_toArray]
    omega))
  simp only [bne_self_eq_false, Bool.false_eq_true, if_false]
  refine wpAny_pure ?_
  have e : P (.done (.ret .none)) { s with heap := sortedHeap s.heap a vs ((vs.toArray.zip vs.toArray).map (·.2)) } := by rw [hm]; exact h
  exact e
theorem sorted_few {l : Addr} {vs : List Value} {Q : Value → Shared → Prop} (hl : s.heap.IsList l vs.toArray) (h2 : vs.length < 2)
    (h : Q (.ref (s.heap.objs.size + 1)) { s with heap := sortedAll s.heap vs vs.toArray }) : wpAny (model prog w) A (call (.builtin "sorted") [.ref l]) Q E s := by
  refine Calls.call_function_entry kind_sorted plain_sorted entry_sorted (args_sorted1 _) ?_
  unfold Builtin.«sorted»
  refine wpAny_bind (m := checkCount "sorted" 1 1 _) (wpAny_pure ?_)
  refine wpAny_bind (collect_list hl ?_ (by rw [sizeLine_eq]; omega))
  refine wpAny_bind (wpAny_newList ?_ (by rw [sizeLine_eq]; omega))
  have hsz : ((s.heap.push (seqObj "list" #[] 0)).update s.heap.objs.size (Obj.mapSeq (· ++ vs.toArray))).objs.size = s.heap.objs.size + 1 := by
    rw [Heap.size_update, size_push']
  have hoL : (((s.heap.push (seqObj "list" #[] 0)).update s.heap.objs.size (Obj.mapSeq (· ++ vs.toArray))).push (seqObj "list" vs.toArray 0)).get? (s.heap.objs.size + 1) = some (seqObj "list" vs.toArray 0) := by
    rw [← hsz]; exact Heap.get?_push_size _ rfl
  show wpAny _ _ _ _ _ { s with heap := ((s.heap.push (seqObj "list" #[] 0)).update s.heap.objs.size (Obj.mapSeq (· ++ vs.toArray))).push (seqObj "list" vs.toArray 0) }
  rw [hsz]
  refine wpAny_bind (wpAny_holding (wpAny_call_entry slot_list_sort ⟨_, hoL, rfl⟩ entry_list_sort (sort_few hoL h2 ⟨_, rfl, ?_⟩) (args_list_sort _)))
  exact wpAny_pure ⟨_, rfl, h⟩
end
/-- sorted(a list of fewer than two things) -/
theorem call_sorted_few {X : Cx} : CallR X (.builtin "sorted") (fun xs H Q => ∃ (a : Addr) (vs : List V), xs = [.ref a] ∧ SqL X.K H a vs ∧ vs.length < 2 ∧ ∀ (l : Addr), H l = none → Q (.ref l) (upd H l (.lst vs))) := by
  intro pins s σ H xs us Q I r h
  obtain ⟨a, vs, rfl, ha, h2, q⟩ := h
  obtain ⟨u, rfl, ru⟩ := vals1 r
  cases ru
  obtain ⟨its, rv, pl, hz⟩ := I.list ha
  refine sorted_few pl.isList (by rw [← rv.length]; exact h2) ?_
  obtain ⟨e, he⟩ := sortedAll_at s.heap its its.toArray
  exact ⟨.ref (s.heap.objs.size + 1), _, I.laid (o := .lst vs) (t' := s.toks) (fun b o z => sortedAll_old z) (Nat.le_succ _) ⟨hz, its, e, rv, he⟩, rfl, q _ (I.hok.fresh (Nat.le_succ _))⟩
end L2

set_option Elab.async false
set_option linter.all false
set_option maxRecDepth 100000
namespace L2
open PySem PySem.Spec PyProof.Rows
/-- a way with its lesser place first -/
def norm (u : Way) : Way := (minS u.1 u.2.1, maxS u.1 u.2.1, u.2.2)
theorem dats_perm {H : Hp} {vs vs' : List V} (p : vs'.Perm vs) : ∀ {ws : List Way}, Dats H vs (ws.map wayD) → ∃ ws' : List Way, Dats H vs' (ws'.map wayD) ∧ ws'.Perm ws := by
  induction p with
  | nil => intro ws h; exact ⟨ws, h, .refl _⟩
  | cons x p ih =>
    intro ws h
    cases ws with
    | nil => cases h
    | cons u ws =>
      cases h with
      | cons h1 h2 =>
        obtain ⟨ws', a, b⟩ := ih h2
        exact ⟨u :: ws', .cons h1 a, b.cons u⟩
  | swap x y l =>
    intro ws h
    cases ws with
    | nil => cases h
    | cons u ws =>
      cases h with
      | cons h1 h2 =>
        cases ws with
        | nil => cases h2
        | cons v ws =>
          cases h2 with
          | cons h3 h4 => exact ⟨v :: u :: ws, .cons h3 (.cons h1 h4), .swap u v ws⟩
  | trans p1 p2 ih1 ih2 =>
    intro ws h
    obtain ⟨ws1, a1, b1⟩ := ih2 h
    obtain ⟨ws2, a2, b2⟩ := ih1 a1
    exact ⟨ws2, a2, b2.trans b1⟩
def spLaid (K : PySem.W.Frag) : Sp := fun vs H Q _ => ∃ (D E : Addr) (xs : List Str) (us : List V) (ws : List Way), vs = [.ref D, .ref E] ∧ H D = some (.lst (xs.map V.str)) ∧ xs.length < 64 ∧ H E = some (.lst us) ∧ Dats H us (ws.map wayD) ∧ ws.length < 64 ∧
  ∀ (H' : Hp) (q tp tw : Addr) (ps : List Str) (us' : List V) (ws' : List Way), Same H H' → H' q = some (.tup [.ref tp, .ref tw]) → H' tp = some (.tup (ps.map V.str)) → ps.Perm xs → sortedS ps = true → H' tw = some (.tup us') → Dats H' us' (ws'.map wayD) → ws'.Perm (ws.map norm) → Q (.ref q) H'
end L2

set_option Elab.async false
set_option linter.all false
set_option maxRecDepth 100000
namespace L2
open PySem PySem.Spec PyProof.Rows
/-- a line through all the names, in their order, then one way more from the first to a later one -/
theorem line_ways {xs : List Str} {us : List Way} {n : Nat} (hn : xs.Nodup) (hl : xs.length = n + 1) (ul : us.length = n)
    (hu : ∀ (q : Nat) (u : Way), us[q]? = some u → xs[q]? = some u.1 ∧ xs[q + 1]? = some u.2.1 ∧ 1 ≤ u.2.2) : WaysC xs us := by
  refine ⟨fun u hm => ?_, ?_, fun j h1 h2 => ?_⟩
  · obtain ⟨q, hq, e⟩ := List.getElem_of_mem hm
    obtain ⟨a, b, c⟩ := hu q u (by rw [List.getElem?_eq_getElem hq, e])
    refine ⟨List.mem_of_getElem? a, List.mem_of_getElem? b, fun z => ?_, c⟩
    rw [z] at a
    have := nd_get hn a b
    omega
  · rw [List.pairwise_iff_getElem]
    intro q r hq hr hqr al
    have a1 := hu q us[q] (List.getElem?_eq_getElem hq)
    have a2 := hu r us[r] (List.getElem?_eq_getElem hr)
    rcases al with ⟨e1, _⟩ | ⟨e1, _⟩
    · have a3 := a1.1
      rw [e1] at a3
      have := nd_get hn a3 a2.1
      omega
    · have a3 := a1.1
      rw [e1] at a3
      have := nd_get hn a3 a2.2.1
      omega
  · have hq : j - 1 < us.length := by omega
    obtain ⟨a, b, c⟩ := hu (j - 1) us[j - 1] (List.getElem?_eq_getElem hq)
    exact ⟨_, List.getElem_mem hq, j - 1, by omega, a, by rw [show j - 1 + 1 = j by omega] at b; exact b⟩
theorem line_more {xs : List Str} {us : List Way} {n j : Nat} {x y : Str} {k : Int} (hn : xs.Nodup) (hl : xs.length = n + 1) (ul : us.length = n)
    (hu : ∀ (q : Nat) (u : Way), us[q]? = some u → xs[q]? = some u.1 ∧ xs[q + 1]? = some u.2.1 ∧ 1 ≤ u.2.2) (hx : xs[0]? = some x) (hy : xs[j]? = some y) (hj : 2 ≤ j) (hk : 1 ≤ k) : WaysC xs (us ++ [(x, y, k)]) := by
  refine (line_ways hn hl ul hu).snoc (List.mem_of_getElem? hx) (List.mem_of_getElem? hy) (fun z => ?_) hk fun u hm al => ?_
  · rw [z] at hx
    have := nd_get hn hx hy
    omega
  · obtain ⟨q, hq, e⟩ := List.getElem_of_mem hm
    obtain ⟨a, b, c⟩ := hu q u (by rw [List.getElem?_eq_getElem hq, e])
    obtain ⟨e1, e2⟩ := al
    rcases e1 with e1 | e1
    · rw [← e1] at a
      have q0 := nd_get hn a hx
      rcases e2 with e2 | e2
      · rw [e1, ← e2] at hx
        have := nd_get hn hx hy
        omega
      · rw [← e2] at b
        have := nd_get hn b hy
        omega
    · rw [← e1] at b
      have := nd_get hn b hx
      omega
def spChart (K : PySem.W.Frag) : Sp := fun vs H Q _ => ∃ (p a : Addr) (ns : List Int) (i l : Int), vs = [.ref p] ∧ PenAt K H p a ns i l ∧ ns.length ≤ 63 ∧
  ∀ (H' : Hp) (q D E B : Addr) (xs bs : List Str) (us : List V) (ws : List Way) (i' l' : Int), PenAt K H' p a ns i' l' → Keep p H H' → H' q = some (.tup [.ref D, .ref E, .ref B]) → H' D = some (.lst (xs.map V.str)) → H' E = some (.lst us) → Dats H' us (ws.map wayD) →
    WaysC xs ws → ws.length < 64 → H' B = some (.lst (bs.map V.str)) → (∀ x ∈ bs, x ∈ xs) → 1 ≤ xs.length → xs.length ≤ 30 → xs.Nodup → (∀ x ∈ xs, nameB x = true) → Q (.ref q) H'
end L2

set_option Elab.async false
set_option linter.all false
set_option maxRecDepth 100000
namespace L2
open PySem PySem.Spec PyProof.Rows
/-- name = [elt for tg in iter if ..], a statement of its own -/
theorem ps_comp {X : Cx} {ix : Nat} {x : Str} {px spos : Pos} {tg iter elt : Expr} {ifs : List Expr} {scope : Scope} {cl : List (Str × Addr)} {N : List Str} {pos : Pos} {wi : TI} {g : TG} {tt : TT} {te : TE} {σ0 : St → St} (hN : X.N.Nodup) (hix : X.N[ix]? = some x) (hlx : Loc X.env.scope x) (hc : X.calm = true) (co : CompOk X scope cl)
    (hσ : ∀ σ, σ.length = X.N.length → Carry X cl scope N σ (σ0 σ)) (hi : PI X tg iter wi)
    (hb : ∀ s2 H C fp, PG (compCx X scope cl N s2 H C fp) tg g ∧ PTs (compCx X scope cl N s2 H C fp) ifs tt ∧ PE (compCx X scope cl N s2 H C fp) elt te)
    (hsw : swapsWith (.ListComp elt [⟨tg, iter, ifs, 0⟩] scope pos) (some (.Name x px)) spos.line X.env = pure true := by rfl)
    (hs : ∀ x, foldedSetIterable iter X.env x = pure x := by intro _; rfl) (hf : X.fn x = true ∨ X.env.scope.names.lookup x = some .local := by first | exact .inl rfl | exact .inr rfl | assumption) :
    PS X (.Assign [.Name x px] (.ListComp elt [⟨tg, iter, ifs, 0⟩] scope pos) spos) (tAsg (tComp wi g tt te σ0) (gName ix)) := by
  intro pins s σ H DD I h
  rw [exec_Assign_Name_used _ _ _ _ hsw]
  refine wpAny_bind (wpAny_standAt (wpAny_bind ?_))
  show wpAny _ X.A (do let _ ← comprehension (.ListComp elt [⟨tg, iter, ifs, 0⟩] scope pos) scope X.env _ (newList []) false (eval iter X.env) (some (assign (.Name x px) X.env))) _ _ s
  refine wpAny_bind (wpAny_mono (wpAny_comprehension_free (use := some (assign (.Name x px) X.env)) (Q := fun _ s' => SP X pins DD .next s') rfl hs co.clos co.kind co.names
    (wpAny_mono (hi pins s σ H _ I h) (fun xv s1 h1 => wpAny_mono h1 (fun itv s2 h2 => ?_) fun _ _ e => e) fun _ _ e => e)) (fun _ s' hq => wpAny_pure (wpAny_pure hq)) fun _ _ e => e)
  obtain ⟨it, fp, tn, J, H2, rfl, I2, T, st2, f2, hW⟩ := h2
  refine wpAny_newObj_type (wpAny_newFunctionEnv co.cell (by intro y hy; cases hy) (fun h₁ hns₁ hsb₁ => ?_) co.kind)
  dsimp only at hns₁ hsb₁ ⊢
  generalize hH2 : s2.heap.push { cls := .type "list", dict := none, data := .seq ([] : List Value).toArray } = HH at hns₁ hsb₁ ⊢
  have hCsz : HH.objs.size = s2.heap.objs.size + 1 := by rw [← hH2, Heap.size_push]
  have old : ∀ b o, s2.heap.get? b = some o → h₁.get? b = some o := fun b o e =>
    hsb₁.extBut b o (Nat.ne_of_lt (by rw [hCsz]; exact Nat.lt_succ_of_lt (Heap.lt_size e))) (Heap.get?_push_of_some _ (hH2 ▸ Heap.get?_push_of_some _ e))
  have newD : ∃ n, h₁.get? s2.heap.objs.size = some { cls := .type "list", data := .seq ([] : List Value).toArray n } :=
    ⟨_, hsb₁.extBut _ _ (Nat.ne_of_lt (by rw [hCsz]; exact Nat.lt_succ_self _)) (Heap.get?_push_of_some _ (hH2 ▸ Heap.get?_push_size _ rfl))⟩
  obtain ⟨W, ⟨m0, w0⟩, turn⟩ := hW s2.heap.objs.size I2.fresh
  have hfo : ∀ b ∈ fp, ∃ o, s2.heap.get? b = some o := fun b hb => let ⟨o, e, _⟩ := T.obj _ _ st2 b hb; ⟨o, e⟩
  have I3 : Inv (compCx X scope cl N s2 H2 HH.objs.size fp) [] (σ0 σ) (upd H2 s2.heap.objs.size (.lst [])) { s2 with heap := h₁, toks := s2.toks + ([] : List (Str × Value)).length } :=
    comp_start I2 f2 hfo co (hσ σ I.len) old (Nat.le_refl _) (by rw [hCsz]; exact Nat.le_succ _) (Nat.ne_of_gt (by rw [hCsz]; exact Nat.lt_succ_self _)) (.inr newD) hns₁
  have fC : s2.heap.objs.size ≤ HH.objs.size := by rw [hCsz]; exact Nat.le_succ _
  obtain ⟨hg, ht, he⟩ := hb s2 H2 HH.objs.size fp
  have loop : ∀ s₃ : Shared, s₃ = { s2 with heap := h₁, toks := s2.toks + ([] : List (Str × Value)).length } →
      codeAny (model X.prog X.w) X.A (.compLoop (.ListComp elt [⟨tg, iter, ifs, 0⟩] scope pos) 0 (.ref it) (.ref s2.heap.objs.size) (compEnvC scope cl HH.objs.size X.env))
        (compPost (model X.prog X.w) X.A X.xe (some (assign (.Name x px) X.env)) (fun _ s' => SP X pins DD .next s') (.ref s2.heap.objs.size) HH.objs.size) s₃ := by
    rintro s₃ rfl
    have stat : ∀ {H' : Hp} , (∀ b ∈ fp, H' b = none) → ∀ b ∈ fp, FpOk (compCx X scope cl N s2 H2 HH.objs.size fp) [] H' b := fun hn b hb => by
      refine ⟨hn b hb, ?_, ?_, .inl hb, ?_, fun p hp => by cases hp⟩
      · obtain ⟨o, e⟩ := hfo b hb
        exact Nat.ne_of_lt (show b < HH.objs.size by rw [hCsz]; exact Nat.lt_succ_of_lt (Heap.lt_size e))
      · intro hz
        obtain ⟨_, q1, q2, _⟩ := f2 b hb
        rcases List.mem_cons.mp (I2.stkSub b hz) with e | e
        · exact q1 e
        · exact q2 e
      · exact fun x c e => (f2 b hb).2.2.2.2.1 x c (co.sub x c e)
    refine codeAny_compLoop_any (fun n s' => ∃ i σ' H', Inv (compCx X scope cl N s2 H2 HH.objs.size fp) [] σ' H' s' ∧ tn i s'.heap ∧ (∀ b ∈ fp, H' b = none) ∧ W i n σ' H') ?_ m0
      ⟨0, σ0 σ, _, I3, T.keep _ _ _ st2 fun b hb o e => old b o e, fun b hb => ?_, w0⟩
    · rintro n s4 ⟨i, σ4, H4, I4, st4, fr4, w4⟩
      rcases turn i n σ4 H4 w4 with ⟨stop, qn⟩ | ⟨go, step⟩
      · refine wpAny_mono (T.done (compCx X scope cl N s2 H2 HH.objs.size fp) rfl rfl rfl hc i [] s4 σ4 H4 (fun _ _ => False) I4 (stat fr4) st4 stop) (fun r s5 ⟨hr, I5⟩ => ?_) fun _ _ z => z.elim
        subst hr
        obtain ⟨m5, hn5, _⟩ := id I5.loc
        have I6 : Inv X pins σ H4 s5 := comp_end (h' := s5.heap) I2 f2 fC I5 (Heap.SameBut.refl _ _)
        have cC : ∀ y c, X.env.cells.lookup y = some c → c ≠ HH.objs.size := fun y c e => by
          obtain ⟨v, q⟩ := I2.cell y c e
          exact Nat.ne_of_lt (Nat.lt_of_lt_of_le q.lt fC)
        have lC : X.env.locals ≠ HH.objs.size := Nat.ne_of_lt (Nat.lt_of_lt_of_le I2.lt fC)
        show wpAny _ X.A (assign (.Name x px) X.env (.ref s2.heap.objs.size)) _ X.xe s5
        refine wpAny_assign_Name (store_ok2 I6 hN hix hlx (v := .ref s2.heap.objs.size) rfl (fun s7 I7 ⟨a, sb, ha⟩ => ?_) hf)
        have aC : a ≠ HH.objs.size := by
          rcases ha with rfl | ha
          · exact lC
          · exact cC _ _ ha
        refine ⟨m5, hn5.sameBut sb (Ne.symm aC), fun h' hs' => ⟨_, H4, ?_, qn⟩⟩
        exact I7.turned (t' := s7.toks) (it := HH.objs.size) (fun b o hb e => (hs'.2 b hb).trans e) I5.free (Ne.symm lC) (.inr (Nat.le_trans I2.sz fC)) cC fun p hp z => by
          have e := (I2.pin p hp).1
          exact absurd (Nat.lt_of_lt_of_le (Heap.lt_size e) fC) (by rw [z]; exact Nat.lt_irrefl _)
      · refine wpAny_mono (T.item (compCx X scope cl N s2 H2 HH.objs.size fp) rfl rfl rfl hc i [] s4 σ4 H4 (fun _ _ => False) I4 (stat fr4) st4 go) (fun r s5 ⟨u, hr, h5⟩ => ?_) fun _ _ z => z.elim
        subst hr
        refine wpAny_mono h5 (fun _ s6 ⟨x, H6, I6, r6, y6, st6, fr6⟩ => ?_) fun _ _ z => z.elim
        have I6' := I6.pinned (stat fr6) (T.obj _ _ st6)
        refine wpAny_mono (hg _ s6 σ4 H6 x u _ I6' r6 (step x H6 y6)) (fun _ s7 ⟨σ7, H7, I7, q7⟩ => ?_) fun _ _ z => z.elim
        refine wpAny_mono (ht _ s7 σ7 H7 _ I7 q7) (fun ok s8 ⟨H8, I8, q8⟩ => ?_) fun _ _ z => z.elim
        have again : ∀ {s9 : Shared} {σ9 : St} {H9 : Hp} , Inv (compCx X scope cl N s2 H2 HH.objs.size fp) ([] ++ pinsAt fp s6.heap) σ9 H9 s9 → (∃ m', m' < n ∧ W (i + 1) m' σ9 H9) → ∃ m, m < n ∧ ∃ i σ' H', Inv (compCx X scope cl N s2 H2 HH.objs.size fp) [] σ' H' s9 ∧ tn i s9.heap ∧ (∀ b ∈ fp, H' b = none) ∧ W i m σ' H' := fun {s9 σ9 H9} I9 n9 => by
          obtain ⟨m', hm, w9⟩ := n9
          refine ⟨m', hm, i + 1, σ9, H9, I9.unpinned, T.keep _ _ _ st6 fun b hb o e => (I9.pin (b, o) (List.mem_append_right _ (List.mem_append_right _ (mem_pinsAt hb e)))).1, fun b hb => ?_, w9⟩
          obtain ⟨o, e, d⟩ := T.obj _ _ st6 b hb
          exact (I9.pin (b, o) (List.mem_append_right _ (List.mem_append_right _ (mem_pinsAt hb e)))).2.1
        cases ok with
        | false =>
          rw [if_neg Bool.false_ne_true] at q8 ⊢
          exact again I8 q8
        | true =>
          rw [if_pos rfl] at q8 ⊢
          refine wpAny_mono (he _ s8 σ7 H8 _ I8 q8) (fun y s9 ⟨v, H9, I9, r9, acc, hacc, hsz, q9⟩ => ?_) fun _ _ z => z.elim
          refine wpAny_mono (mt_append (X := compCx X scope cl N s2 H2 HH.objs.size fp) _ s9 σ7 H9 (.ref s2.heap.objs.size) [v] (.ref s2.heap.objs.size) [y] (fun _ H10 => ∃ m', m' < n ∧ W (i + 1) m' σ7 H10) I9 rfl (.cons r9 .nil) ⟨_, acc, v, rfl, rfl, hacc, hsz, q9⟩) (fun _ s10 ⟨_, H10, I10, _, q10⟩ => ?_) fun _ _ z => z.elim
          exact again I10 q10
    · have z := (f2 b hb).1
      obtain ⟨o, e⟩ := hfo b hb
      rw [upd_ne (Nat.ne_of_lt (Heap.lt_size e))]
      exact z
  exact codeAny_compStart_list (loop _ rfl) (T.self _ 0 _ _ _ (T.keep _ _ _ st2 fun b hb o e => old b o e) (loop _ rfl))
end L2

set_option Elab.async false
set_option linter.all false
set_option maxRecDepth 100000
set_option maxHeartbeats 4000000
namespace L2
open PySem PySem.Spec PyProof.Rows
/-! ### a walk over a dict's keys: the dict is frozen from then on -/
theorem Paired.at {α β : Type} {F : α → β → Prop} : ∀ {l₁ : List α} {l₂ : List β}, Paired F l₁ l₂ → ∀ {i : Nat} {a : α}, l₁[i]? = some a → ∃ b, l₂[i]? = some b ∧ F a b
  | _, _, .nil, i, a, h => by simp at h
  | _, _, .cons r t, 0, a, h => by
    simp only [List.getElem?_cons_zero, Option.some.injEq] at h
    subst h
    exact ⟨_, rfl, r⟩
  | _, _, .cons r t, i + 1, a, h => by
    simp only [List.getElem?_cons_succ] at h
    obtain ⟨b, h1, h2⟩ := Paired.at t h
    exact ⟨b, by simpa using h1, h2⟩
theorem rel_of_is {P : Program} {w : World} {k : Key} {u : Value} (h : (mixKind P w).is k u = true) : RelV (kV k) u := by
  rcases keyIs_shape (show keyIs k u = true from h) with ⟨i, t, rfl, rfl⟩ | ⟨x, t, rfl, rfl⟩
  · exact ⟨t, rfl⟩
  · exact ⟨t, rfl⟩
def Itd (a : Addr) (kvs : List (Key × V)) (o : Obj) : It :=
  ⟨fun i H => H a = some (.frz o (.dK kvs)) ∧ i < kvs.length, fun i H x H' => H' = H ∧ ∃ k v, kvs[i]? = some (k, v) ∧ x = kV k, fun i H => H a = some (.frz o (.dK kvs)) ∧ kvs.length ≤ i⟩
theorem frz_at {X : Cx} {pins : List (Addr × Obj)} {σ : St} {H : Hp} {s : Shared} {a : Addr} {o : Obj} {kvs : List (Key × V)} {es : Array DictEntry} {ep : Nat} (I : Inv X pins σ H s) (e : H a = some (.frz o (.dK kvs))) (he : o.data = .dict es ep) :
    (a == sysModules) = false ∧ ∃ vs, KV kvs vs ∧ s.heap.DictAt (mixKind X.prog X.w) a vs ep := by
  obtain ⟨ho, z, hd, vs, rel, o', es', ep', h1, h2, h3, h4⟩ := (show ObjOk X.prog X.w H s.heap a (.frz o (.dK kvs)) from I.hok a _ e)
  rw [ho] at h1
  cases h1
  rw [he] at h3
  injection h3 with h5 h6
  subst h5 h6
  exact ⟨hd, vs, rel, o, es, ho, h2, he, h4⟩
theorem turn_dict {P : Program} {w : World} {K : PySem.W.Frag} {tg : Expr} (a it : Addr) {kvs : List (Key × V)} {o : Obj} {es : Array DictEntry} {ep : Nat} (he : o.data = .dict es ep) :
    Turn P w K tg (Itd a kvs o) [it] it (fun i h => h.IsKeyIter it a i kvs.length ep) where
  mem := by simp
  obj := fun i h st b hb => by
    have e : b = it := by simpa using hb
    subst e
    obtain ⟨o, e, c, d⟩ := st
    exact ⟨o, e, fun v z => by rw [d] at z; cases z⟩
  keep := fun i h h' st k => st.at fun o e => k it (by simp) o e
  item := by
    intro X hP hw hK hc i pins s σ H E I hf st hg
    subst hP hw hK
    obtain ⟨hq, hlt⟩ := hg
    obtain ⟨hd, vs, rel, da⟩ := frz_at I hq he
    have hx : kvs[i]? = some kvs[i] := by simp [hlt]
    obtain ⟨⟨k, v⟩, hv, e1, e2⟩ := Paired.at rel hx
    have hl : kvs.length = vs.length := rel.length
    obtain ⟨f0, f1, f2, f3, f4, f5⟩ := hf it (by simp)
    rw [hl] at st
    refine wpAny_pyNext_dict_item st da hv fun key h' hkey st' sb => ?_
    have I1 : Inv X pins σ H { s with heap := h' } := I.turned (t' := s.toks) (fun b o hb e => (sb.2 b hb).trans e) f0 f1 f3 f4 f5
    rw [← hl] at st'
    obtain ⟨o', e, c, d⟩ := id st'
    refine ⟨key, rfl, go_of (s := { s with heap := h' }) e c d (by decide) ⟨kV k, H, I1, rel_of_is hkey, ⟨rfl, k, kvs[i].2, ?_, rfl⟩, st', fun b hb => (hf b hb).1⟩⟩
    have e1' : kvs[i].1 = k := e1
    rw [hx, ← e1']
  done := by
    intro X hP hw hK hc i pins s σ H E I hf st hg
    subst hP hw hK
    obtain ⟨hq, hle⟩ := hg
    obtain ⟨hd, vs, rel, da⟩ := frz_at I hq he
    have hl : kvs.length = vs.length := rel.length
    obtain ⟨f0, f1, f2, f3, f4, f5⟩ := hf it (by simp)
    rw [hl] at st
    exact wpAny_pyNext_dict_end (I.ok.hd hc) st da (by simp; omega) fun h' eb => ⟨rfl, I.turned (t' := s.toks) (fun b o hb e => eb b o hb e) f0 f1 f3 f4 f5⟩
  self := fun _ _ _ _ _ st h => wpAny_pyIter_keyiter st h
/-- the heap in which the dict at a is frozen -/
def Frozen (H : Hp) (a : Addr) (kvs : List (Key × V)) (o : Obj) (H' : Hp) : Prop := (H a = some (.dK kvs) ∧ H' = upd H a (.frz o (.dK kvs))) ∨ (H a = some (.frz o (.dK kvs)) ∧ H' = H)
theorem Frozen.at {H H' : Hp} {a : Addr} {kvs : List (Key × V)} {o : Obj} (f : Frozen H a kvs o H') : H' a = some (.frz o (.dK kvs)) := by
  rcases f with ⟨_, rfl⟩ | ⟨e, rfl⟩
  · exact upd_same
  · exact e
theorem Frozen.ne {H H' : Hp} {a b : Addr} {kvs : List (Key × V)} {o : Obj} (f : Frozen H a kvs o H') (h : b ≠ a) : H' b = H b := by
  rcases f with ⟨_, rfl⟩ | ⟨e, rfl⟩
  · exact upd_ne h
  · rfl
theorem Inv.freeze {X : Cx} {pins : List (Addr × Obj)} {σ : St} {H : Hp} {s : Shared} {a : Addr} {kvs : List (Key × V)} (I : Inv X pins σ H s) (e : Rd H a (.dK kvs)) :
    ∃ o es ep H', o.data = .dict es ep ∧ Frozen H a kvs o H' ∧ Inv X pins σ H' s := by
  rcases e with e | ⟨o, e⟩
  · obtain ⟨z, hd, vs, rel, o, es, ep, h1, h2, h3, h4⟩ := (show ObjOk X.prog X.w H s.heap a (.dK kvs) from I.hok a _ e)
    refine ⟨o, es, ep, upd H a (.frz o (.dK kvs)), h3, .inl ⟨e, rfl⟩, ?_⟩
    exact I.write (x := a) (e := a) (h' := s.heap) (t' := s.toks) (by rw [e]; exact True.intro) (.inl rfl) (fun b u _ q => q) ⟨o, h1⟩ ⟨h1, z, hd, vs, rel, o, es, ep, h1, h2, h3, h4⟩
  · obtain ⟨ho, z, hd, vs, rel, o', es, ep, h1, h2, h3, h4⟩ := (show ObjOk X.prog X.w H s.heap a (.frz o (.dK kvs)) from I.hok a _ e)
    rw [ho] at h1
    cases h1
    exact ⟨o, es, ep, H, h3, .inr ⟨e, rfl⟩, I⟩
def iDict (tl : TE) : TI := fun σ H R => tl σ H fun x H1 => ∃ a kvs, x = .ref a ∧ Rd H1 a (.dK kvs) ∧ ∀ o H2, Frozen H1 a kvs o H2 → R (Itd a kvs o) H2
theorem pi_dict {X : Cx} {tg l : Expr} {tl : TE} (hl : PE X l tl) : PI X tg l (iDict tl) := by
  intro pins s σ H R I h
  refine thn (hl pins s σ H _ I h) fun v s1 ⟨x, H1, I1, r1, q1⟩ => ?_
  obtain ⟨a, kvs, e, hr, q⟩ := q1
  subst e
  cases r1
  obtain ⟨o, es, ep, H2, he, fz, I2⟩ := I1.freeze hr
  obtain ⟨hd, vs, rel, da⟩ := frz_at I2 fz.at he
  refine wpAny_pyIter_dict hd da ?_
  refine ⟨s1.heap.objs.size, [s1.heap.objs.size], _, _, H2, rfl, I2.kept (t' := s1.toks) fun b o e => Heap.get?_push_of_some _ e, turn_dict a _ he, ⟨_, Heap.get?_push_size _ rfl, rfl, ?_⟩, fun b hb => ?_, q o H2 fz⟩
  · rw [rel.length]; rfl
  · have e : b = s1.heap.objs.size := by simpa using hb
    subst e
    exact I2.fpOk (Nat.le_refl _) (I2.hok.fresh (Nat.le_refl _))
/-- a for over a dict's keys; the body leaves the dict as it is (it is frozen) -/
theorem for_dict {a : Addr} {kvs : List (Key × V)} {o : Obj} {g : TG} {tb : TS} {D : Ends} {σ : St} {H : Hp} (Pv : Nat → St → Hp → Prop) (h0 : Pv 0 σ H) (hl : ∀ i σ H, i ≤ kvs.length → Pv i σ H → H a = some (.frz o (.dK kvs)))
    (hs : ∀ i k v σ H, kvs[i]? = some (k, v) → Pv i σ H → g (kV k) σ H fun σ2 H2 => tb { D with nx := Pv (i + 1), ct := Pv (i + 1), bk := D.nx } σ2 H2) (hd : ∀ σ H, Pv kvs.length σ H → D.nx σ H) :
    ∃ W : Nat → Nat → St → Hp → Prop, (∃ m, W 0 m σ H) ∧ ∀ i m σ H, W i m σ H →
      ((Itd a kvs o).stop i H ∧ D.nx σ H) ∨ ((Itd a kvs o).go i H ∧ ∃ N : St → Hp → Prop, (∀ σ' H', N σ' H' → ∃ m', m' < m ∧ W (i + 1) m' σ' H') ∧ ∀ x H', (Itd a kvs o).yld i H x H' → g x σ H' fun σ2 H2 => tb { D with nx := N, ct := N, bk := D.nx } σ2 H2) := by
  refine ⟨fun i m σ H => m = kvs.length - i ∧ i ≤ kvs.length ∧ Pv i σ H, ⟨kvs.length, by simp, Nat.zero_le _, h0⟩, ?_⟩
  rintro i m σ H ⟨rfl, hi, p⟩
  have q := hl i σ H hi p
  by_cases hlt : i < kvs.length
  · refine .inr ⟨⟨q, hlt⟩, Pv (i + 1), fun σ' H' p' => ⟨kvs.length - (i + 1), by omega, rfl, hlt, p'⟩, fun x H' y => ?_⟩
    obtain ⟨e, k, v, e1, e2⟩ := y
    subst e e2
    exact hs i k v σ _ e1 p
  · have e : i = kvs.length := by omega
    subst e
    exact .inl ⟨⟨q, Nat.le_refl _⟩, hd σ H p⟩

/-! ### None in a dict whose keys are ints and texts: it is not -/
def optIs : Option Key → Value → Bool
  | none, .none => true
  | none, _ => false
  | some k, v => keyIs k v
theorem optIs_shape : ∀ {k : Option Key} {v : Value}, optIs k v = true → (k = none ∧ v = Value.none) ∨ ∃ k', k = some k' ∧ keyIs k' v = true
  | none, v, h => by
    cases v <;> first
      | exact .inl ⟨rfl, rfl⟩
      | exact absurd (show false = true from h) Bool.false_ne_true
  | some k, v, h => .inr ⟨k, rfl, h⟩
theorem pyHash_none {prog : Program} {w : World} {A : Around} {E : Value → Shared → Prop} {s : Shared} {Q : Int → Shared → Prop} (h : Q 0xFCA86420 { s with toks := s.toks + 1 }) :
    wpAny (model prog w) A (pyHash .none) Q E s := by
  have hT : s.TypeIs .none "NoneType" := rfl
  unfold pyHash
  have hv : [Value.none].any Value.onHeap = false := rfl
  refine wpAny_bind ?_
  rw [cRoomFor, if_neg (by rw [hv]; exact Bool.false_ne_true)]; refine wpAny_pure ?_
  refine wpAny_bind (wpAny_specialOf hT PySem.F.slot_NoneType_hash.lookup ?_)
  show wpAny _ _ (if (some (Value.builtin "NoneType.__hash__") == some Value.none) = true then _ else _) Q E s
  rw [if_neg (by rw [beq_builtin_none]; exact Bool.false_ne_true)]
  refine wpAny_bind (wpAny_specialOf hT PySem.F.slot_NoneType_hash.lookup ?_)
  show wpAny _ _ (callSpecialIfBoundUnlessNone? .none "__hash__" _ >>= _) Q E s
  refine wpAny_bind (wpAny_callSpecialIfBoundUnlessNone?_slot hT PySem.F.slot_NoneType_hash
    (wpAny_call_entry PySem.F.slot_NoneType_hash hT PySem.F.entry_NoneType_hash
      (show wpAny _ _ (do ret (← mkInt 0xFCA86420)) _ _ s from wpAny_ret_mkInt ?_) (PySem.F.args_NoneType_hash_1 _)))
  show wpAny _ _ (if (decide (-(2 : Int) ^ 63 ≤ 0xFCA86420) && decide ((0xFCA86420 : Int) < 2 ^ 63)) = true then _ else _) Q E _
  rw [if_pos (by decide)]
  exact wpAny_pure h
def optKind (prog : Program) (w : World) : PySem.KeyKind prog w (Option Key) where
  is := optIs
  hash := fun k => match k with | none => 0xFCA86420 | some k => keyH w k
  inj := fun v a b ha hb => by
    rcases optIs_shape ha with ⟨rfl, rfl⟩ | ⟨a', rfl, ha'⟩
    · rcases optIs_shape hb with ⟨rfl, _⟩ | ⟨b', rfl, hb'⟩
      · rfl
      · rcases keyIs_shape hb' with ⟨i, t, _, e⟩ | ⟨x, t, _, e⟩ <;> exact nomatch e
    · rcases optIs_shape hb with ⟨rfl, rfl⟩ | ⟨b', rfl, hb'⟩
      · rcases keyIs_shape ha' with ⟨i, t, _, e⟩ | ⟨x, t, _, e⟩ <;> exact nomatch e
      · rw [(mixKind prog w).inj v a' b' ha' hb']
  byValue := fun k v h => by
    rcases optIs_shape h with ⟨rfl, rfl⟩ | ⟨k', rfl, h'⟩
    · rfl
    · exact (mixKind prog w).byValue k' v h'
  pyHash := fun hv h => by
    rcases optIs_shape hv with ⟨rfl, rfl⟩ | ⟨k', rfl, h'⟩
    · exact pyHash_none h
    · exact (mixKind prog w).pyHash h' h
  eqBool := fun {A E s a b u v Q} hu hv h => by
    rcases optIs_shape hu with ⟨rfl, rfl⟩ | ⟨a', rfl, hu'⟩
    · rcases optIs_shape hv with ⟨rfl, rfl⟩ | ⟨b', rfl, hv'⟩
      · rw [decide_eq_true rfl] at h
        unfold eqBool
        refine wpAny_holding ?_
        exact wpAny_ite_split (fun _ => wpAny_bind (wpAny_rule (wpAny_pure h))) (fun hn => absurd (by rfl) hn)
      · rw [decide_eq_false (fun e => nomatch e)] at h
        rcases keyIs_shape hv' with ⟨i, t, rfl, rfl⟩ | ⟨x, t, rfl, rfl⟩
        · exact SeqAt.EqAt.none_int _ _ _ _ _ _ h
        · exact SeqAt.EqAt.none_str _ _ _ _ _ _ h
    · rcases optIs_shape hv with ⟨rfl, rfl⟩ | ⟨b', rfl, hv'⟩
      · rw [decide_eq_false (fun e => nomatch e)] at h
        rcases keyIs_shape hu' with ⟨i, t, rfl, rfl⟩ | ⟨x, t, rfl, rfl⟩
        · exact SeqAt.EqAt.int_none _ _ _ _ _ _ h
        · exact SeqAt.EqAt.str_none _ _ _ _ _ _ h
      · refine (mixKind prog w).eqBool hu' hv' ?_
        have e : decide (some a' = some b') = decide (a' = b') := by
          by_cases z : a' = b'
          · subst z; simp
          · rw [decide_eq_false z, decide_eq_false fun q => z (Option.some.inj q)]
        rw [e] at h
        exact h
  «strs» := fun k x t v h => by
    rcases optIs_shape h with ⟨rfl, e⟩ | ⟨k', rfl, h'⟩
    · exact nomatch e
    · exact (mixKind prog w).strs k' x t v h'
theorem map_opt {P : Program} {w : World} {h : Heap} {a : Addr} {vs : List (Key × Value)} (dd : h.DictOf (mixKind P w) a vs) : ∃ f, h.MapOf (optKind P w) a f ∧ f none = none := by
  obtain ⟨o, es, ep, h1, h2, h3, h4, h5, h6⟩ := dd
  refine ⟨fun k => findBy (optKind P w).is es k, ⟨o, es, ep, h1, h2, h3, fun e he => ?_, fun k => rfl⟩, ?_⟩
  · obtain ⟨k, a1, a2⟩ := h4 e he
    exact ⟨some k, a1, a2⟩
  · show (es.find? fun e => optIs none e.key).map (·.val) = none
    have : (es.find? fun e => optIs none e.key) = none := by
      rw [Array.find?_eq_none]
      intro e he z
      obtain ⟨k, a1, a2⟩ := h4 e he
      rcases keyIs_shape (show keyIs k e.key = true from a1) with ⟨i, t, _, q⟩ | ⟨x, t, _, q⟩ <;> (rw [q] at z; exact absurd z Bool.false_ne_true)
    rw [this]; rfl
/-- what the dict at a holds at the key y, which may be None -/
def DGetN (H : Hp) (a : Addr) (y : V) (r : Option V) : Prop := DGet H a y r ∨ (y = .non ∧ r = none ∧ ∃ kvs, Rd H a (.dK kvs))
def tDInN (ty td : TE) : TE := fun σ H Q => ty σ H fun y H1 => td σ H1 fun x H2 => ∃ a o, x = .ref a ∧ DGetN H2 a y o ∧ Q (.bl o.isSome) H2
theorem pc_dinN {X : Cx} {i o : Expr} {ty td : TE} (hu : X.A.units + 1 < cLine) (hi : PE X i ty) (ho : PE X o td) : PC X .In i o (tDInN ty td) := by
  intro pins s σ H Q I h
  refine thn (hi pins s σ H _ I h) fun iv s1 ⟨y, H1, I1, ry, q1⟩ => thn (ho pins s1 σ H1 _ I1 q1) fun u s2 ⟨x, H2, I2, rx, a, ov, ex, g, q2⟩ => ?_
  subst ex
  obtain rfl : u = Value.ref a := rx
  rcases g with g | ⟨rfl, rfl, kvs, e⟩
  · exact d_in hu I2 g ry fun s3 I3 => ⟨.bl ov.isSome, H2, I3, rfl, q2⟩
  · obtain rfl : iv = Value.none := ry
    obtain ⟨z, hd, vs, rel, dd⟩ := dk_rd I2.hok e
    obtain ⟨f, mo, fn⟩ := map_opt dd
    refine wpAny_in_of (knd := optKind X.prog X.w) (k := none) rfl hd mo ?_
    rw [fn]
    exact ⟨.bl false, H2, I2.tok _, rfl, q2⟩
/-! ### sorted(a dict) whose keys are texts -/
section
variable {prog : Program} {w : World} {A : Around} {E : Value → Shared → Prop} {s : Shared}
theorem strs_keys {ks : List Str} : ∀ {us : List Value}, us.length = ks.length → (∀ (j : Nat) (v : Value), us[j]? = some v → ∃ x t, ks[j]? = some x ∧ v = Value.str x t) → StrsAre us ks := by
  induction ks with
  | nil => intro us h _; cases us with
    | nil => exact .nil
    | cons u us => simp at h
  | cons x ks ih =>
    intro us h g
    cases us with
    | nil => simp at h
    | cons u us =>
      obtain ⟨y, t, e1, e2⟩ := g 0 u (by simp)
      simp only [List.getElem?_cons_zero, Option.some.injEq] at e1
      subst e1 e2
      exact .cons x t (ih (by simpa using h) fun j v hv => by simpa using g (j + 1) v (by simpa using hv))
theorem sorted_dict {d : Addr} {vs : List (Key × Value)} {ks : List Str} {ep : Nat} {Q : Value → Shared → Prop} (hh : A.handled = none) (lo : (d == sysModules) = false) (hm : s.heap.DictAt (mixKind prog w) d vs ep) (hk : vs.map (·.1) = ks.map Sum.inr) (h64 : ks.length < 64)
    (h : ∀ (h' : Heap) (tk : Nat) (l : Addr) (us : List Value) (e : Nat) (ss' : List Str), (∀ b o, s.heap.get? b = some o → h'.get? b = some o) → s.heap.get? l = none → h'.get? l = some (seqObj "list" us.toArray e) → StrsAre us ss' → ss'.Perm ks → sortedS ss' = true → Q (.ref l) { s with heap := h', toks := tk }) :
    wpAny (model prog w) A (call (.builtin "sorted") [.ref d]) Q E s := by
  have hlen : vs.length = ks.length := by have := congrArg List.length hk; simpa using this
  have hsz : ks.length ≤ sizeLine := by rw [sizeLine_eq]; omega
  refine Calls.call_function_entry kind_sorted plain_sorted entry_sorted (args_sorted1 _) ?_
  unfold Builtin.«sorted»
  refine wpAny_bind (m := checkCount "sorted" 1 1 _) (wpAny_pure ?_)
  refine wpAny_bind (PySem.W.kdu_collect (A := A.in1) (PySem.W.kdl_dict (knd := mixKind prog w) (kvs := vs) (ep := ep) lo) hh hm (by rw [hlen]; exact hsz) fun h' tk acc hk' hacc => ?_)
  have hl : acc.toList.length = ks.length := by rw [Array.length_toList, ← hlen]; exact hacc.1
  have hS : StrsAre acc.toList ks := strs_keys hl fun j v e => by
    obtain ⟨k, x, e1, e2⟩ := hacc.2 j v (by rw [← Array.getElem?_toList]; exact e)
    have e3 : (vs.map (·.1))[j]? = some k := by rw [List.getElem?_map, e1]; rfl
    rw [hk, List.getElem?_map] at e3
    cases z : ks[j]? with
    | none => rw [z] at e3; cases e3
    | some y =>
      rw [z] at e3
      simp only [Option.map_some, Option.some.injEq] at e3
      subst e3
      rcases keyIs_shape (show keyIs (.inr y) v = true from e2) with ⟨i, t, q, _⟩ | ⟨y', t, q, rfl⟩
      · exact nomatch q
      · cases q
        exact ⟨y, t, rfl, rfl⟩
  refine wpAny_bind (wpAny_newList ?_ (by rw [hl]; exact hsz))
  have hoL : (h'.push (seqObj "list" acc.toList.toArray 0)).get? h'.objs.size = some (seqObj "list" acc.toList.toArray 0) := Heap.get?_push_size _ rfl
  show wpAny _ _ _ _ _ { s with heap := h'.push (seqObj "list" acc.toList.toArray 0), toks := tk }
  refine wpAny_bind (wpAny_holding (wpAny_call_entry slot_list_sort ⟨_, hoL, rfl⟩ entry_list_sort (list_sort_treeK strKind_oneLt (s := { s with heap := h'.push (seqObj "list" acc.toList.toArray 0), toks := tk }) hoL hS.keysOf (fun v₁ v₂ rest e => keyKind_strs (by rw [← e]; exact hS)) (by rw [hl]; exact h64) fun st' a1 a2 => ⟨_, rfl, ?_⟩) (args_list_sort _)))
  refine wpAny_pure ⟨_, rfl, ?_⟩
  obtain ⟨ss', b1, b2, b3⟩ := sorted_out_str hS a1 a2
  obtain ⟨e, he⟩ := sortedHeap_at (out := (arrOf st').map (·.2)) hoL
  refine h _ tk h'.objs.size ((arrOf st').map (·.2)).toList e ss' (fun b o q => ?_) ?_ (by rw [Array.toArray_toList]; exact he) b1 b2 b3
  · have q' := hk' b o q
    have lt := Heap.lt_size q'
    rw [sortedHeap_old (Nat.ne_of_lt lt) (by rw [size_push']; exact Nat.lt_succ_of_lt lt)]
    exact Heap.get?_push_of_some _ q'
  · cases z : s.heap.get? h'.objs.size with
    | none => rfl
    | some o => exact absurd (Heap.lt_size (hk' _ _ z)) (Nat.lt_irrefl _)
end
/-- sorted(a dict of fewer than 64 texts) -/
theorem call_sorted_dict {X : Cx} (hc : X.calm = true) : CallR X (.builtin "sorted") (fun xs H Q => ∃ (a : Addr) (kvs : List (Key × V)) (ks : List Str), xs = [.ref a] ∧ Rd H a (.dK kvs) ∧ kvs.map (·.1) = ks.map Sum.inr ∧ ks.length < 64 ∧
    ∀ (l : Addr) (ss' : List Str), H l = none → ss'.Perm ks → sortedS ss' = true → Q (.ref l) (upd H l (.lst (ss'.map V.str)))) := by
  intro pins s σ H xs us Q I r h
  obtain ⟨a, kvs, ks, rfl, ha, hk, h64, q⟩ := h
  obtain ⟨u, rfl, ru⟩ := vals1 r
  cases ru
  obtain ⟨z, hd, vs, rel, dd⟩ := dk_rd I.hok ha
  obtain ⟨ep, da⟩ := dd.dictAt
  refine sorted_dict (I.ok.hd hc) hd da (by rw [← rel.keys]; exact hk) h64 fun h' tk l us e ss' k1 k2 k3 k4 k5 k6 => ?_
  obtain ⟨m, hlm⟩ := id I.loc
  obtain ⟨oL, esL, epL, hoL, rL⟩ := id hlm.1
  have fl : H l = none := by
    cases z : H l with
    | none => rfl
    | some u =>
      obtain ⟨ob, e⟩ := ObjOk.there (I.hok l u z)
      rw [k2] at e
      cases e
  have I2 := I.laidF (h2 := h') (D := l) (o := .lst (ss'.map V.str)) hlm ⟨oL, esL, epL, k1 _ _ hoL, rL⟩ (fun b ob _ q => k1 b ob q) k2 (fun z => by rw [z, hoL] at k2; cases k2)
    ⟨by rw [List.length_map, k5.length_eq, sizeLine_eq]; omega, us, e, of_strs k4, k3⟩
  exact ⟨.ref l, _, I2.kept (t' := tk) fun b u q => q, rfl, q l ss' fl k5 k6⟩
/-! ### min(a list of texts) -/
theorem lt_irr (a : List Nat) : ¬ a < a := List.lt_irrefl a
theorem argBest_str (f : Nat → List Nat) : ∀ k, argBest (fun i j => decide (f i < f j)) k ≤ k ∧ ∀ j, j ≤ k → ¬ f j < f (argBest (fun i j => decide (f i < f j)) k)
  | 0 => ⟨Nat.le_refl _, fun j hj => by
    have : j = 0 := by omega
    subst this; exact lt_irr _⟩
  | k + 1 => by
    obtain ⟨h1, h2⟩ := argBest_str f k
    simp only [argBest]
    by_cases hc : f (k + 1) < f (argBest (fun i j => decide (f i < f j)) k)
    · rw [if_pos (by simpa using hc)]
      refine ⟨Nat.le_refl _, fun j hj => ?_⟩
      by_cases hj' : j ≤ k
      · exact fun z => h2 j hj' (List.lt_trans z hc)
      · have : j = k + 1 := by omega
        subst this; exact lt_irr _
    · rw [if_neg (by simpa using hc)]
      refine ⟨Nat.le_succ_of_le h1, fun j hj => ?_⟩
      by_cases hj' : j ≤ k
      · exact h2 j hj'
      · have : j = k + 1 := by omega
        subst this; exact hc
theorem cmp_strs {prog : Program} {w : World} {A : Around} {vs : List Value} {ss : List Str} (hS : StrsAre vs ss) : CmpOf prog w A .Lt (fun i v => vs.toArray[i]? = some v) (fun i j => decide ((ss.getD i ⟨#[]⟩).cps.toList < (ss.getD j ⟨#[]⟩).cps.toList)) := by
  have at' : ∀ {vs : List Value} {ss : List Str}, StrsAre vs ss → ∀ (i : Nat) (v : Value), vs[i]? = some v → ∃ x t, ss[i]? = some x ∧ v = Value.str x t := by
    intro vs ss h
    induction h with
    | nil => intro i v e; simp at e
    | cons x t r ih =>
      intro i v e
      cases i with
      | zero => simp only [List.getElem?_cons_zero, Option.some.injEq] at e; exact ⟨x, t, rfl, e.symm⟩
      | succ i => simpa using ih i v (by simpa using e)
  intro i j vi vj s Q E hi hj hQ
  obtain ⟨x, t, e1, rfl⟩ := at' hS i vi (by simpa using hi)
  obtain ⟨y, u, e2, rfl⟩ := at' hS j vj (by simpa using hj)
  dsimp only at hQ
  rw [List.getD_eq_getElem?_getD, List.getD_eq_getElem?_getD, e1, e2] at hQ
  exact PySem.P.lt_str hQ
theorem strs_at {vs : List Value} {ss : List Str} (h : StrsAre vs ss) : ∀ (i : Nat) (v : Value), vs[i]? = some v → ∃ x t, ss[i]? = some x ∧ v = Value.str x t := by
  induction h with
  | nil => intro i v e; simp at e
  | cons x t r ih =>
    intro i v e
    cases i with
    | zero => simp only [List.getElem?_cons_zero, Option.some.injEq] at e; exact ⟨x, t, rfl, e.symm⟩
    | succ i => simpa using ih i v (by simpa using e)
/-- min(a list of texts), one at least -/
theorem call_min_strs {X : Cx} (hc : X.calm = true) : CallR X (.builtin "min") (fun xs H Q => ∃ (a : Addr) (ss : List Str), xs = [.ref a] ∧ SqL X.K H a (ss.map V.str) ∧ ss ≠ [] ∧
    ∀ m, m ∈ ss → (∀ x ∈ ss, ¬ x.cps.toList < m.cps.toList) → Q (.str m) H) := by
  intro pins s σ H xs us Q I r h
  obtain ⟨a, ss, rfl, ha, hne, q⟩ := h
  obtain ⟨u, rfl, ru⟩ := vals1 r
  cases ru
  obtain ⟨its, rv, pl, hz⟩ := I.list ha
  have hS := strs_of rv
  have hl : its.length = ss.length := by rw [← rv.length, List.length_map]
  have hpos : 0 < ss.length := by cases ss with
    | nil => exact absurd rfl hne
    | cons => simp
  refine call_min_walk (wpAny_pyIter_list pl.isList ?_)
  have hai : a < s.heap.objs.size := by obtain ⟨o, ho, _⟩ := pl.isList; exact Heap.lt_size ho
  refine ⟨_, [s.heap.objs.size, a], [s.heap.objs.size], _, _, _, _, rfl, Walks.list (A := X.A.in1) (I.ok.hd hc) _ a (Nat.ne_of_lt hai) its.toArray, ⟨⟨_, Heap.get?_push_size _ rfl, rfl, rfl⟩, pl.isList.push _⟩, fun c hc => ?_, by simpa [hl] using hpos, cmp_strs hS, fun v h' tk hP hk => ?_⟩
  · show c < (s.heap.push _).objs.size
    rw [Heap.size_push]
    rcases List.mem_cons.mp hc with rfl | hc
    · exact Nat.lt_succ_self _
    · rcases List.mem_cons.mp hc with rfl | hc
      · exact Nat.lt_succ_of_lt hai
      · cases hc
  · have hold : ∀ c o, s.heap.get? c = some o → h'.get? c = some o := fun c o e => by
      refine hk c o (fun hm => ?_) (Heap.get?_push_of_some _ e)
      rcases List.mem_cons.mp hm with e1 | hm
      · have := Heap.lt_size e; rw [e1] at this; exact Nat.lt_irrefl _ this
      · cases hm
    have hP' : its[argBest (fun i j => decide ((ss.getD i ⟨#[]⟩).cps.toList < (ss.getD j ⟨#[]⟩).cps.toList)) (its.toArray.size - 1)]? = some v := by rw [← List.getElem?_toArray]; exact hP
    obtain ⟨x, t, e1, rfl⟩ := strs_at hS _ v hP'
    obtain ⟨b1, b2⟩ := argBest_str (fun i => (ss.getD i ⟨#[]⟩).cps.toList) (its.toArray.size - 1)
    refine ⟨.str x, H, I.kept hold, ⟨t, rfl⟩, q x (List.mem_of_getElem? e1) fun y hy => ?_⟩
    obtain ⟨j, hj, rfl⟩ := List.getElem_of_mem hy
    have := b2 j (by simp only [List.size_toArray]; omega)
    have e2 : ss.getD j ⟨#[]⟩ = ss[j] := by simp [hj]
    have e3 : ss.getD (argBest (fun i j => decide ((ss.getD i ⟨#[]⟩).cps.toList < (ss.getD j ⟨#[]⟩).cps.toList)) (its.toArray.size - 1)) ⟨#[]⟩ = x := by
      rw [List.getD_eq_getElem?_getD, e1]; rfl
    rw [e2, e3] at this
    exact this
end L2

set_option Elab.async false
set_option linter.all false
set_option maxRecDepth 100000
set_option maxHeartbeats 4000000
namespace L2
open PySem PySem.Spec PyProof.Rows
section
variable {X : Cx} {pins : List (Addr × Obj)} {σ σ' : St} {H H' : Hp} {s2 s' : Shared} {scope : Scope} {cl : List (Str × Addr)} {N : List Str} {fp : List Addr} {C D : Addr} {h₁ h' : Heap} {t' : Nat}

theorem comp_startG {ob : HO} (I : Inv X pins σ H s2) (hf : ∀ b ∈ fp, FpOk X pins H b) (hfo : ∀ b ∈ fp, ∃ o, s2.heap.get? b = some o) (co : CompOk X scope cl) (hσ : Carry X cl scope N σ σ')
    (k : ∀ b o, s2.heap.get? b = some o → h₁.get? b = some o) (hD : s2.heap.objs.size ≤ D) (hC : s2.heap.objs.size ≤ C) (hDC : C ≠ D)
    (newO : ObjOk X.prog X.w (upd H D ob) h₁ D ob) {m : Str → Option Value} (hn : h₁.Ns C m) :
    Inv (compCx X scope cl N s2 H C fp) [] σ' (upd H D ob) { s2 with heap := h₁, toks := t' } := by
  have fD : H D = none := I.hok.fresh hD
  have fC : H C = none := I.hok.fresh hC
  have lts : ∀ b ∈ fp, b < s2.heap.objs.size := fun b hb => let ⟨_, e⟩ := hfo b hb; Heap.lt_size e
  have cells_lt : ∀ x c, cl.lookup x = some c → c < s2.heap.objs.size := fun x c e => by
    obtain ⟨v, q⟩ := I.cell x c (co.sub x c e)
    exact q.lt
  have ok : Cx.Ok (compCx X scope cl N s2 H C fp) := by
    refine ⟨I.ok.mod, ?_, I.ok.glob, I.ok.blt, hC, ?_, ?_, ?_, I.ok.hd, I.ok.frames, .inl rfl, ?_, I.bs, Nat.le_trans I.ok.bsz I.sz, ?_, ?_, I.stack, I.stkFree⟩
    · exact co.kind
    · exact fun x y c e1 e2 => I.ok.inj x y c (co.sub x c e1) (co.sub y c e2)
    · exact fun x h => co.has x h
    · exact fun x c h _ => by cases h
    · intro b hb
      refine ⟨fun e => ?_, fun x c e => (hf b hb).2.2.2.2.1 x c (co.sub x c e)⟩
      have z := lts b hb
      exact absurd (Nat.lt_of_lt_of_le z hC) (by rw [show b = C from e]; exact Nat.lt_irrefl _)
    · intro b o e hb
      have hb' : b ∈ fp := hb
      rcases (hf b hb').2.2.2.1 with z | z
      · exact I.ok.noex b o e z
      · exact absurd (Nat.lt_of_lt_of_le (Heap.lt_size e) (Nat.le_trans I.ok.bsz z)) (Nat.lt_irrefl _)
    · intro b hb hz
      have hb' : b ∈ fp := hb
      obtain ⟨_, f1, f2, _⟩ := hf b hb'
      rcases List.mem_cons.mp (I.stkSub b hz) with e | e
      · exact f1 e
      · exact f2 e
  refine ⟨ok, rfl, I.bare, Un.laid k hD fD, ?_, ?_, ?_, ?_, ?_, I.hok.laid k hD newO, hσ.1⟩
  · refine ⟨m, hn, fun i x v e1 e2 _ => ?_⟩
    obtain ⟨⟨j, j1, j2⟩, kk, kr⟩ := hσ.2 i x v e1 e2
    obtain ⟨mo, _, hl⟩ := I.loc
    obtain ⟨u, r, l⟩ := hl j x v j1 j2 (by
      rcases kk with z | z
      · exact .inr (.inl z)
      · exact .inr (.inr z))
    refine ⟨u, r, .inr ⟨kr, ?_⟩⟩
    obtain ⟨c, hc⟩ := co.has x kr
    rcases l with ⟨z, _⟩ | ⟨_, c', hc', hcell⟩
    · rcases kk with q | q
      · rw [z] at q; cases q
      · rw [z] at q; cases q
    · have e3 := co.sub x c hc
      rw [hc'] at e3
      have e4 : c' = c := Option.some.inj e3
      subst e4
      obtain ⟨o, ho, hd⟩ := hcell
      exact ⟨c', hc, o, k _ o ho, hd⟩
  · intro x c e
    obtain ⟨v, o, ho, hd⟩ := I.cell x c (co.sub x c e)
    exact ⟨v, o, k _ o ho, hd⟩
  · show upd H D ob C = none
    rw [upd_ne hDC]
    exact fC
  · intro x c e
    rw [upd_ne (Nat.ne_of_lt (Nat.lt_of_lt_of_le (cells_lt x c e) hD))]
    exact I.freeC x c (co.sub x c e)
  · intro p hp
    cases hp

end
section
variable {prog : Program} {w : World} {A : Around} {R : Result → Shared → Prop} {s : Shared}
theorem codeAny_compLoop_anyD {kx vx target iter : Expr} {ifs : List Expr} {scope : Scope} {pos : Pos} {it : Value} {D : Addr} {env : Env} (I : Nat → Shared → Prop)
    (turn : ∀ n s, I n s → wpAny (model prog w) A (pyNext it) (fun r s₁ => match r with
      | none => R (.ok .next) s₁
      | some v => wpAny (model prog w) A (letOwnedTupleGo target it v) (fun _ s₁' => wpAny (model prog w) A (assign target env v) (fun _ s₂ =>
          wpAny (model prog w) A (forIn ifs true fun c r => if r = true then do let ok ← isTrue c env (eval c env); pure (ForInStep.yield ok) else pure (ForInStep.yield r)) (fun ok s₃ =>
            if ok = true then wpAny (model prog w) A (eval kx env) (fun kv s₄ => wpAny (model prog w) A (eval vx env) (fun vv s₅ =>
              wpAny (model prog w) A (dictSet D kv vv) (fun _ s₆ => ∃ m, m < n ∧ I m s₆) (notedBy (model prog w) A env fun e s' => R (.error e) s') s₅) (notedBy (model prog w) A env fun e s' => R (.error e) s') s₄) (notedBy (model prog w) A env fun e s' => R (.error e) s') s₃
            else ∃ m, m < n ∧ I m s₃) (notedBy (model prog w) A env fun e s' => R (.error e) s') s₂) (notedBy (model prog w) A env fun e s' => R (.error e) s') s₁') (notedBy (model prog w) A env fun e s' => R (.error e) s') s₁) (notedBy (model prog w) A env fun e s' => R (.error e) s') s)
    (n : Nat) (h : I n s) :
    codeAny (model prog w) A (.compLoop (.DictComp kx vx [⟨target, iter, ifs, 0⟩] scope pos) 0 it (.ref D) env) R s := by
  refine codeAny_loop rfl I (fun n s hI => ?_) n h
  show wpAny _ A ((compTurn (.DictComp kx vx [⟨target, iter, ifs, 0⟩] scope pos) 0 it (.ref D) env).onRaise (fun x => do noteFrame x env; theTreesLotGoes x)) _ _ s
  refine wpAny_noted ?_
  rw [compTurn_dict]
  refine wpAny_bind (wpAny_standAt (wpAny_bind (wpAny_mono (turn n s hI) (fun r s₁ h₁ => ?_) fun _ _ h' => h')))
  cases r with
  | none => exact wpAny_pure h₁
  | some v =>
    refine wpAny_bind (wpAny_mono h₁ (fun _ s₁' h₁' => ?_) fun _ _ h' => h')
    refine wpAny_bind (wpAny_mono h₁' (fun _ s₂ h₂ => wpAny_bind (wpAny_mono h₂ (fun ok s₃ h₃ => ?_) fun _ _ h' => h')) fun _ _ h' => h')
    cases ok with
    | false => exact wpAny_pure ⟨rfl, h₃⟩
    | true =>
      exact wpAny_bind (wpAny_bind (wpAny_mono h₃ (fun kv s₄ h₄ => wpAny_bind (wpAny_holding (wpAny_mono h₄ (fun vv s₅ h₅ => wpAny_bind (wpAny_standAt (wpAny_holding (wpAny_mono h₅ (fun _ s₆ h₆ => wpAny_pure ⟨rfl, h₆⟩) fun _ _ h' => h')))) fun _ _ h' => h'))) fun _ _ h' => h'))
end
/-- the store of a dict comprehension -/
theorem d_dictSet {X : Cx} {pins : List (Addr × Obj)} {σ : St} {H : Hp} {s : Shared} {a : Addr} {k : Key} {v : V} {u r : Value} {kvs : List (Key × V)} {A : Around} {E : Value → Shared → Prop} {Q : Unit → Shared → Prop} (I : Inv X pins σ H s) (e : H a = some (.dK kvs)) (l : kvs.length < sizeLine) (ry : RelV (kV k) u) (rv : RelV v r)
    (h : ∀ s', Inv X pins σ (upd H a (.dK (putK kvs k v))) s' → Q () s') : wpAny (model X.prog X.w) A (dictSet a u r) Q E s := by
  obtain ⟨z, hd, vs, rel, dd⟩ := dk_of I.hok e
  have hz : vs.length ≤ sizeLine := by rw [← rel.length]; exact z
  have hl : (putK kvs k v).length ≤ sizeLine := by have := length_putK kvs k v; omega
  refine wpAny_dictSet_pairs (hsz := hz) (kV_is ry) dd fun h' dd' hs => h _ ?_
  have he : ∃ q, h'.get? a = some q := let ⟨q, _, _, hq, _⟩ := dd'; ⟨q, hq⟩
  exact d_write I (by rw [e]; exact True.intro) hs he (dk_new hl hd (rel.put k rv) dd')
/-- {key: value for tg in iter if ..}: W is the invariant by turn and measure; the dict that is made stands at D -/
def tDComp (wi : TI) (g : TG) (tt : TT) (tk tv : TE) (σ0 : St → St) : TE := fun σ H Q => wi σ H fun J H1 => ∀ D, H1 D = none → ∃ W : Nat → Nat → St → Hp → Prop, (∃ m, W 0 m (σ0 σ) (upd H1 D (.dK []))) ∧
  ∀ i m σ' H', W i m σ' H' → (J.stop i H' ∧ Q (.ref D) H') ∨ (J.go i H' ∧ ∀ x H2, J.yld i H' x H2 → g x σ' H2 fun σ2 H3 => tt σ2 H3 fun b H4 =>
    if b = true then tk σ2 H4 (fun y H5 => tv σ2 H5 fun v H6 => ∃ kvs k, y = kV k ∧ H6 D = some (.dK kvs) ∧ kvs.length < sizeLine ∧ ∃ m', m' < m ∧ W (i + 1) m' σ2 (upd H6 D (.dK (putK kvs k v)))) else ∃ m', m' < m ∧ W (i + 1) m' σ2 H4)
theorem pe_dcomp {X : Cx} {tg iter kx vx : Expr} {ifs : List Expr} {scope : Scope} {cl : List (Str × Addr)} {N : List Str} {pos : Pos} {wi : TI} {g : TG} {tt : TT} {tk tv : TE} {σ0 : St → St} (hc : X.calm = true) (co : CompOk X scope cl)
    (hσ : ∀ σ, σ.length = X.N.length → Carry X cl scope N σ (σ0 σ)) (hi : PI X tg iter wi)
    (hb : ∀ s2 H C fp, PG (compCx X scope cl N s2 H C fp) tg g ∧ PTs (compCx X scope cl N s2 H C fp) ifs tt ∧ PE (compCx X scope cl N s2 H C fp) kx tk ∧ PE (compCx X scope cl N s2 H C fp) vx tv)
    (hs : ∀ x, foldedSetIterable iter X.env x = pure x := by intro _; rfl) : PE X (.DictComp kx vx [⟨tg, iter, ifs, 0⟩] scope pos) (tDComp wi g tt tk tv σ0) := by
  intro pins s σ H Q I h
  rw [arm_eval_DictComp]
  refine wpAny_comprehension_free (use := none) rfl hs co.clos co.kind co.names (wpAny_mono (hi pins s σ H _ I h) (fun xv s1 h1 => wpAny_mono h1 (fun itv s2 h2 => ?_) fun _ _ e => e) fun _ _ e => e)
  obtain ⟨it, fp, tn, J, H2, rfl, I2, T, st2, f2, hW⟩ := h2
  refine wpAny_newObj_type (wpAny_newFunctionEnv co.cell (by intro y hy; cases hy) (fun h₁ hns₁ hsb₁ => ?_) co.kind)
  dsimp only at hns₁ hsb₁ ⊢
  generalize hH2 : s2.heap.push { cls := .type "dict", dict := none, data := .dict #[] } = HH at hns₁ hsb₁ ⊢
  have hCsz : HH.objs.size = s2.heap.objs.size + 1 := by rw [← hH2, Heap.size_push]
  have old : ∀ b o, s2.heap.get? b = some o → h₁.get? b = some o := fun b o e =>
    hsb₁.extBut b o (Nat.ne_of_lt (by rw [hCsz]; exact Nat.lt_succ_of_lt (Heap.lt_size e))) (Heap.get?_push_of_some _ (hH2 ▸ Heap.get?_push_of_some _ e))
  have newD : ObjOk X.prog X.w (upd H2 s2.heap.objs.size (.dK [])) h₁ s2.heap.objs.size (.dK []) :=
    let ⟨z, hd, vs, rel, o, es, ep, ho, r⟩ := dk_empty (P := X.prog) (w := X.w) (H := upd H2 s2.heap.objs.size (.dK [])) s2.heap I2.big
    ⟨z, hd, vs, rel, o, es, ep, hsb₁.extBut _ _ (Nat.ne_of_lt (by rw [hCsz]; exact Nat.lt_succ_self _)) (Heap.get?_push_of_some _ (hH2 ▸ ho)), r⟩
  obtain ⟨W, ⟨m0, w0⟩, turn⟩ := hW s2.heap.objs.size I2.fresh
  have hfo : ∀ b ∈ fp, ∃ o, s2.heap.get? b = some o := fun b hb => let ⟨o, e, _⟩ := T.obj _ _ st2 b hb; ⟨o, e⟩
  have I3 : Inv (compCx X scope cl N s2 H2 HH.objs.size fp) [] (σ0 σ) (upd H2 s2.heap.objs.size (.dK [])) { s2 with heap := h₁, toks := s2.toks + ([] : List (Str × Value)).length } :=
    comp_startG I2 f2 hfo co (hσ σ I.len) old (Nat.le_refl _) (by rw [hCsz]; exact Nat.le_succ _) (Nat.ne_of_gt (by rw [hCsz]; exact Nat.lt_succ_self _)) newD hns₁
  have fC : s2.heap.objs.size ≤ HH.objs.size := by rw [hCsz]; exact Nat.le_succ _
  obtain ⟨hg, ht, hk, hv⟩ := hb s2 H2 HH.objs.size fp
  have loop : ∀ s₃ : Shared, s₃ = { s2 with heap := h₁, toks := s2.toks + ([] : List (Str × Value)).length } →
      codeAny (model X.prog X.w) X.A (.compLoop (.DictComp kx vx [⟨tg, iter, ifs, 0⟩] scope pos) 0 (.ref it) (.ref s2.heap.objs.size) (compEnvC scope cl HH.objs.size X.env))
        (compPost (model X.prog X.w) X.A X.xe none (EP X pins σ Q) (.ref s2.heap.objs.size) HH.objs.size) s₃ := by
    rintro s₃ rfl
    have stat : ∀ {H' : Hp} , (∀ b ∈ fp, H' b = none) → ∀ b ∈ fp, FpOk (compCx X scope cl N s2 H2 HH.objs.size fp) [] H' b := fun hn b hb => by
      refine ⟨hn b hb, ?_, ?_, .inl hb, ?_, fun p hp => by cases hp⟩
      · obtain ⟨o, e⟩ := hfo b hb
        exact Nat.ne_of_lt (show b < HH.objs.size by rw [hCsz]; exact Nat.lt_succ_of_lt (Heap.lt_size e))
      · intro hz
        obtain ⟨_, q1, q2, _⟩ := f2 b hb
        rcases List.mem_cons.mp (I2.stkSub b hz) with e | e
        · exact q1 e
        · exact q2 e
      · exact fun x c e => (f2 b hb).2.2.2.2.1 x c (co.sub x c e)
    refine codeAny_compLoop_anyD (fun n s' => ∃ i σ' H', Inv (compCx X scope cl N s2 H2 HH.objs.size fp) [] σ' H' s' ∧ tn i s'.heap ∧ (∀ b ∈ fp, H' b = none) ∧ W i n σ' H') ?_ m0
      ⟨0, σ0 σ, _, I3, T.keep _ _ _ st2 fun b hb o e => old b o e, fun b hb => ?_, w0⟩
    · rintro n s4 ⟨i, σ4, H4, I4, st4, fr4, w4⟩
      rcases turn i n σ4 H4 w4 with ⟨stop, qn⟩ | ⟨go, step⟩
      · refine wpAny_mono (T.done (compCx X scope cl N s2 H2 HH.objs.size fp) rfl rfl rfl hc i [] s4 σ4 H4 (fun _ _ => False) I4 (stat fr4) st4 stop) (fun r s5 ⟨hr, I5⟩ => ?_) fun _ _ z => z.elim
        subst hr
        obtain ⟨m5, hn5, _⟩ := id I5.loc
        exact ⟨m5, hn5, fun h' hs' => ⟨.ref _, H4, comp_end I2 f2 fC I5 hs', rfl, qn⟩⟩
      · refine wpAny_mono (T.item (compCx X scope cl N s2 H2 HH.objs.size fp) rfl rfl rfl hc i [] s4 σ4 H4 (fun _ _ => False) I4 (stat fr4) st4 go) (fun r s5 ⟨u, hr, h5⟩ => ?_) fun _ _ z => z.elim
        subst hr
        refine wpAny_mono h5 (fun _ s6 ⟨x, H6, I6, r6, y6, st6, fr6⟩ => ?_) fun _ _ z => z.elim
        have I6' := I6.pinned (stat fr6) (T.obj _ _ st6)
        refine wpAny_mono (hg _ s6 σ4 H6 x u _ I6' r6 (step x H6 y6)) (fun _ s7 ⟨σ7, H7, I7, q7⟩ => ?_) fun _ _ z => z.elim
        refine wpAny_mono (ht _ s7 σ7 H7 _ I7 q7) (fun ok s8 ⟨H8, I8, q8⟩ => ?_) fun _ _ z => z.elim
        have again : ∀ {s9 : Shared} {σ9 : St} {H9 : Hp} , Inv (compCx X scope cl N s2 H2 HH.objs.size fp) ([] ++ pinsAt fp s6.heap) σ9 H9 s9 → (∃ m', m' < n ∧ W (i + 1) m' σ9 H9) → ∃ m, m < n ∧ ∃ i σ' H', Inv (compCx X scope cl N s2 H2 HH.objs.size fp) [] σ' H' s9 ∧ tn i s9.heap ∧ (∀ b ∈ fp, H' b = none) ∧ W i m σ' H' := fun {s9 σ9 H9} I9 n9 => by
          obtain ⟨m', hm, w9⟩ := n9
          refine ⟨m', hm, i + 1, σ9, H9, I9.unpinned, T.keep _ _ _ st6 fun b hb o e => (I9.pin (b, o) (List.mem_append_right _ (List.mem_append_right _ (mem_pinsAt hb e)))).1, fun b hb => ?_, w9⟩
          obtain ⟨o, e, d⟩ := T.obj _ _ st6 b hb
          exact (I9.pin (b, o) (List.mem_append_right _ (List.mem_append_right _ (mem_pinsAt hb e)))).2.1
        cases ok with
        | false =>
          rw [if_neg Bool.false_ne_true] at q8 ⊢
          exact again I8 q8
        | true =>
          rw [if_pos rfl] at q8 ⊢
          refine wpAny_mono (hk _ s8 σ7 H8 _ I8 q8) (fun yk s9 ⟨k, H9, I9, r9, q9⟩ => ?_) fun _ _ z => z.elim
          refine wpAny_mono (hv _ s9 σ7 H9 _ I9 q9) (fun yv s10 ⟨v, H10, I10, r10, kvs, key, ek, hacc, hsz, q10⟩ => ?_) fun _ _ z => z.elim
          subst ek
          exact d_dictSet (X := compCx X scope cl N s2 H2 HH.objs.size fp) I10 hacc hsz r9 r10 fun s11 I11 => again I11 q10
    · have z := (f2 b hb).1
      obtain ⟨o, e⟩ := hfo b hb
      rw [upd_ne (Nat.ne_of_lt (Heap.lt_size e))]
      exact z
  exact codeAny_compStart_dict (loop _ rfl) (T.self _ 0 _ _ _ (T.keep _ _ _ st2 fun b hb o e => old b o e) (loop _ rfl))
/-- name = {key: value for tg in iter if ..}, a statement of its own -/
theorem ps_dcomp {X : Cx} {ix : Nat} {x : Str} {px spos : Pos} {tg iter kx vx : Expr} {ifs : List Expr} {scope : Scope} {cl : List (Str × Addr)} {N : List Str} {pos : Pos} {wi : TI} {g : TG} {tt : TT} {tk tv : TE} {σ0 : St → St} (hN : X.N.Nodup) (hix : X.N[ix]? = some x) (hlx : Loc X.env.scope x) (hc : X.calm = true) (co : CompOk X scope cl)
    (hσ : ∀ σ, σ.length = X.N.length → Carry X cl scope N σ (σ0 σ)) (hi : PI X tg iter wi)
    (hb : ∀ s2 H C fp, PG (compCx X scope cl N s2 H C fp) tg g ∧ PTs (compCx X scope cl N s2 H C fp) ifs tt ∧ PE (compCx X scope cl N s2 H C fp) kx tk ∧ PE (compCx X scope cl N s2 H C fp) vx tv)
    (hsw : swapsWith (.DictComp kx vx [⟨tg, iter, ifs, 0⟩] scope pos) (some (.Name x px)) spos.line X.env = pure true := by rfl)
    (hs : ∀ x, foldedSetIterable iter X.env x = pure x := by intro _; rfl) (hf : X.fn x = true ∨ X.env.scope.names.lookup x = some .local := by first | exact .inl rfl | exact .inr rfl | assumption) :
    PS X (.Assign [.Name x px] (.DictComp kx vx [⟨tg, iter, ifs, 0⟩] scope pos) spos) (tAsg (tDComp wi g tt tk tv σ0) (gName ix)) := by
  intro pins s σ H DD I h
  rw [exec_Assign_Name_used _ _ _ _ hsw]
  refine wpAny_bind (wpAny_standAt (wpAny_bind ?_))
  show wpAny _ X.A (do let _ ← comprehension (.DictComp kx vx [⟨tg, iter, ifs, 0⟩] scope pos) scope X.env _ newDict false (eval iter X.env) (some (assign (.Name x px) X.env))) _ _ s
  refine wpAny_bind (wpAny_mono (wpAny_comprehension_free (use := some (assign (.Name x px) X.env)) (Q := fun _ s' => SP X pins DD .next s') rfl hs co.clos co.kind co.names
    (wpAny_mono (hi pins s σ H _ I h) (fun xv s1 h1 => wpAny_mono h1 (fun itv s2 h2 => ?_) fun _ _ e => e) fun _ _ e => e)) (fun _ s' hq => wpAny_pure (wpAny_pure hq)) fun _ _ e => e)
  obtain ⟨it, fp, tn, J, H2, rfl, I2, T, st2, f2, hW⟩ := h2
  refine wpAny_newObj_type (wpAny_newFunctionEnv co.cell (by intro y hy; cases hy) (fun h₁ hns₁ hsb₁ => ?_) co.kind)
  dsimp only at hns₁ hsb₁ ⊢
  generalize hH2 : s2.heap.push { cls := .type "dict", dict := none, data := .dict #[] } = HH at hns₁ hsb₁ ⊢
  have hCsz : HH.objs.size = s2.heap.objs.size + 1 := by rw [← hH2, Heap.size_push]
  have old : ∀ b o, s2.heap.get? b = some o → h₁.get? b = some o := fun b o e =>
    hsb₁.extBut b o (Nat.ne_of_lt (by rw [hCsz]; exact Nat.lt_succ_of_lt (Heap.lt_size e))) (Heap.get?_push_of_some _ (hH2 ▸ Heap.get?_push_of_some _ e))
  have newD : ObjOk X.prog X.w (upd H2 s2.heap.objs.size (.dK [])) h₁ s2.heap.objs.size (.dK []) :=
    let ⟨z, hd, vs, rel, o, es, ep, ho, r⟩ := dk_empty (P := X.prog) (w := X.w) (H := upd H2 s2.heap.objs.size (.dK [])) s2.heap I2.big
    ⟨z, hd, vs, rel, o, es, ep, hsb₁.extBut _ _ (Nat.ne_of_lt (by rw [hCsz]; exact Nat.lt_succ_self _)) (Heap.get?_push_of_some _ (hH2 ▸ ho)), r⟩
  obtain ⟨W, ⟨m0, w0⟩, turn⟩ := hW s2.heap.objs.size I2.fresh
  have hfo : ∀ b ∈ fp, ∃ o, s2.heap.get? b = some o := fun b hb => let ⟨o, e, _⟩ := T.obj _ _ st2 b hb; ⟨o, e⟩
  have I3 : Inv (compCx X scope cl N s2 H2 HH.objs.size fp) [] (σ0 σ) (upd H2 s2.heap.objs.size (.dK [])) { s2 with heap := h₁, toks := s2.toks + ([] : List (Str × Value)).length } :=
    comp_startG I2 f2 hfo co (hσ σ I.len) old (Nat.le_refl _) (by rw [hCsz]; exact Nat.le_succ _) (Nat.ne_of_gt (by rw [hCsz]; exact Nat.lt_succ_self _)) newD hns₁
  have fC : s2.heap.objs.size ≤ HH.objs.size := by rw [hCsz]; exact Nat.le_succ _
  obtain ⟨hg, ht, hk, hv⟩ := hb s2 H2 HH.objs.size fp
  have loop : ∀ s₃ : Shared, s₃ = { s2 with heap := h₁, toks := s2.toks + ([] : List (Str × Value)).length } →
      codeAny (model X.prog X.w) X.A (.compLoop (.DictComp kx vx [⟨tg, iter, ifs, 0⟩] scope pos) 0 (.ref it) (.ref s2.heap.objs.size) (compEnvC scope cl HH.objs.size X.env))
        (compPost (model X.prog X.w) X.A X.xe (some (assign (.Name x px) X.env)) (fun _ s' => SP X pins DD .next s') (.ref s2.heap.objs.size) HH.objs.size) s₃ := by
    rintro s₃ rfl
    have stat : ∀ {H' : Hp} , (∀ b ∈ fp, H' b = none) → ∀ b ∈ fp, FpOk (compCx X scope cl N s2 H2 HH.objs.size fp) [] H' b := fun hn b hb => by
      refine ⟨hn b hb, ?_, ?_, .inl hb, ?_, fun p hp => by cases hp⟩
      · obtain ⟨o, e⟩ := hfo b hb
        exact Nat.ne_of_lt (show b < HH.objs.size by rw [hCsz]; exact Nat.lt_succ_of_lt (Heap.lt_size e))
      · intro hz
        obtain ⟨_, q1, q2, _⟩ := f2 b hb
        rcases List.mem_cons.mp (I2.stkSub b hz) with e | e
        · exact q1 e
        · exact q2 e
      · exact fun x c e => (f2 b hb).2.2.2.2.1 x c (co.sub x c e)
    refine codeAny_compLoop_anyD (fun n s' => ∃ i σ' H', Inv (compCx X scope cl N s2 H2 HH.objs.size fp) [] σ' H' s' ∧ tn i s'.heap ∧ (∀ b ∈ fp, H' b = none) ∧ W i n σ' H') ?_ m0
      ⟨0, σ0 σ, _, I3, T.keep _ _ _ st2 fun b hb o e => old b o e, fun b hb => ?_, w0⟩
    · rintro n s4 ⟨i, σ4, H4, I4, st4, fr4, w4⟩
      rcases turn i n σ4 H4 w4 with ⟨stop, qn⟩ | ⟨go, step⟩
      · refine wpAny_mono (T.done (compCx X scope cl N s2 H2 HH.objs.size fp) rfl rfl rfl hc i [] s4 σ4 H4 (fun _ _ => False) I4 (stat fr4) st4 stop) (fun r s5 ⟨hr, I5⟩ => ?_) fun _ _ z => z.elim
        subst hr
        obtain ⟨m5, hn5, _⟩ := id I5.loc
        have I6 : Inv X pins σ H4 s5 := comp_end (h' := s5.heap) I2 f2 fC I5 (Heap.SameBut.refl _ _)
        have cC : ∀ y c, X.env.cells.lookup y = some c → c ≠ HH.objs.size := fun y c e => by
          obtain ⟨v, q⟩ := I2.cell y c e
          exact Nat.ne_of_lt (Nat.lt_of_lt_of_le q.lt fC)
        have lC : X.env.locals ≠ HH.objs.size := Nat.ne_of_lt (Nat.lt_of_lt_of_le I2.lt fC)
        show wpAny _ X.A (assign (.Name x px) X.env (.ref s2.heap.objs.size)) _ X.xe s5
        refine wpAny_assign_Name (store_ok2 I6 hN hix hlx (v := .ref s2.heap.objs.size) rfl (fun s7 I7 ⟨a, sb, ha⟩ => ?_) hf)
        have aC : a ≠ HH.objs.size := by
          rcases ha with rfl | ha
          · exact lC
          · exact cC _ _ ha
        refine ⟨m5, hn5.sameBut sb (Ne.symm aC), fun h' hs' => ⟨_, H4, ?_, qn⟩⟩
        exact I7.turned (t' := s7.toks) (it := HH.objs.size) (fun b o hb e => (hs'.2 b hb).trans e) I5.free (Ne.symm lC) (.inr (Nat.le_trans I2.sz fC)) cC fun p hp z => by
          have e := (I2.pin p hp).1
          exact absurd (Nat.lt_of_lt_of_le (Heap.lt_size e) fC) (by rw [z]; exact Nat.lt_irrefl _)
      · refine wpAny_mono (T.item (compCx X scope cl N s2 H2 HH.objs.size fp) rfl rfl rfl hc i [] s4 σ4 H4 (fun _ _ => False) I4 (stat fr4) st4 go) (fun r s5 ⟨u, hr, h5⟩ => ?_) fun _ _ z => z.elim
        subst hr
        refine wpAny_mono h5 (fun _ s6 ⟨x, H6, I6, r6, y6, st6, fr6⟩ => ?_) fun _ _ z => z.elim
        have I6' := I6.pinned (stat fr6) (T.obj _ _ st6)
        refine wpAny_mono (hg _ s6 σ4 H6 x u _ I6' r6 (step x H6 y6)) (fun _ s7 ⟨σ7, H7, I7, q7⟩ => ?_) fun _ _ z => z.elim
        refine wpAny_mono (ht _ s7 σ7 H7 _ I7 q7) (fun ok s8 ⟨H8, I8, q8⟩ => ?_) fun _ _ z => z.elim
        have again : ∀ {s9 : Shared} {σ9 : St} {H9 : Hp} , Inv (compCx X scope cl N s2 H2 HH.objs.size fp) ([] ++ pinsAt fp s6.heap) σ9 H9 s9 → (∃ m', m' < n ∧ W (i + 1) m' σ9 H9) → ∃ m, m < n ∧ ∃ i σ' H', Inv (compCx X scope cl N s2 H2 HH.objs.size fp) [] σ' H' s9 ∧ tn i s9.heap ∧ (∀ b ∈ fp, H' b = none) ∧ W i m σ' H' := fun {s9 σ9 H9} I9 n9 => by
          obtain ⟨m', hm, w9⟩ := n9
          refine ⟨m', hm, i + 1, σ9, H9, I9.unpinned, T.keep _ _ _ st6 fun b hb o e => (I9.pin (b, o) (List.mem_append_right _ (List.mem_append_right _ (mem_pinsAt hb e)))).1, fun b hb => ?_, w9⟩
          obtain ⟨o, e, d⟩ := T.obj _ _ st6 b hb
          exact (I9.pin (b, o) (List.mem_append_right _ (List.mem_append_right _ (mem_pinsAt hb e)))).2.1
        cases ok with
        | false =>
          rw [if_neg Bool.false_ne_true] at q8 ⊢
          exact again I8 q8
        | true =>
          rw [if_pos rfl] at q8 ⊢
          refine wpAny_mono (hk _ s8 σ7 H8 _ I8 q8) (fun yk s9 ⟨k, H9, I9, r9, q9⟩ => ?_) fun _ _ z => z.elim
          refine wpAny_mono (hv _ s9 σ7 H9 _ I9 q9) (fun yv s10 ⟨v, H10, I10, r10, kvs, key, ek, hacc, hsz, q10⟩ => ?_) fun _ _ z => z.elim
          subst ek
          exact d_dictSet (X := compCx X scope cl N s2 H2 HH.objs.size fp) I10 hacc hsz r9 r10 fun s11 I11 => again I11 q10
    · have z := (f2 b hb).1
      obtain ⟨o, e⟩ := hfo b hb
      rw [upd_ne (Nat.ne_of_lt (Heap.lt_size e))]
      exact z
  exact codeAny_compStart_dict (loop _ rfl) (T.self _ 0 _ _ _ (T.keep _ _ _ st2 fun b hb o e => old b o e) (loop _ rfl))
end L2

set_option Elab.async false
set_option linter.all false
set_option maxRecDepth 100000
set_option maxHeartbeats 4000000
namespace L2
open PySem PySem.Spec PyProof.Rows
/-! ### sorted texts -/
theorem risingS_cons (p x : Str) (r : List Str) : risingS p (x :: r) = (!ltCps x.cps.toList p.cps.toList && risingS x r) := rfl
theorem rising_pw : ∀ (p : Str) (l : List Str), risingS p l = true → (p :: l).Pairwise fun a b => ¬ b.cps.toList < a.cps.toList
  | p, [], _ => List.pairwise_singleton _ _
  | p, x :: r, h => by
    rw [risingS_cons, Bool.and_eq_true, ltCps_eq] at h
    have h1 : ¬ x.cps.toList < p.cps.toList := by simpa using h.1
    have h2 := rising_pw x r h.2
    refine List.pairwise_cons.mpr ⟨fun y hy => ?_, h2⟩
    rcases List.mem_cons.mp hy with rfl | hy
    · exact h1
    · have h3 := (List.pairwise_cons.mp h2).1 y hy
      have a : p.cps.toList ≤ x.cps.toList := List.not_lt.mp h1
      have b : x.cps.toList ≤ y.cps.toList := List.not_lt.mp h3
      exact List.not_lt.mpr (List.le_trans a b)
theorem sorted_pw {l : List Str} (h : sortedS l = true) : l.Pairwise fun a b => ¬ b.cps.toList < a.cps.toList := by
  cases l with
  | nil => exact .nil
  | cons p l => exact rising_pw p l h
theorem str_anti {a b : Str} (h1 : ¬ b.cps.toList < a.cps.toList) (h2 : ¬ a.cps.toList < b.cps.toList) : a = b := by
  have e : a.cps.toList = b.cps.toList := List.le_antisymm (List.not_lt.mp h1) (List.not_lt.mp h2)
  cases a; cases b
  simp only [Str.mk.injEq]
  exact Array.toList_inj.mp e
theorem sorted_eq {l m : List Str} (hl : l.Pairwise fun a b => ¬ b.cps.toList < a.cps.toList) (hm : m.Pairwise fun a b => ¬ b.cps.toList < a.cps.toList) (p : l.Perm m) : l = m :=
  List.Perm.eq_of_pairwise (fun a b _ _ h1 h2 => str_anti h1 h2) hl hm p
theorem perm_of_mem {l m : List Str} (hl : l.Nodup) (hm : m.Nodup) (h : ∀ x, x ∈ l ↔ x ∈ m) : l.Perm m := (List.perm_ext_iff_of_nodup hl hm).mpr h
/-! ### ways between places -/
def Adj (ws : List Way) (x y : Str) : Prop := ∃ u ∈ ws, (u.1 = x ∧ u.2.1 = y) ∨ (u.1 = y ∧ u.2.1 = x)
theorem Adj.symm {ws : List Way} {x y : Str} (h : Adj ws x y) : Adj ws y x := let ⟨u, hu, h⟩ := h; ⟨u, hu, h.symm⟩
theorem norm_ends (u : Way) : (norm u).1 = u.1 ∧ (norm u).2.1 = u.2.1 ∨ (norm u).1 = u.2.1 ∧ (norm u).2.1 = u.1 := by
  unfold norm minS maxS
  by_cases h : u.2.1.cps.toList < u.1.cps.toList
  · have h' : ¬ u.1.cps.toList < u.2.1.cps.toList := List.lt_asymm h
    rw [if_pos h, if_neg h']
    exact .inr ⟨rfl, rfl⟩
  · rw [if_neg h]
    by_cases h' : u.1.cps.toList < u.2.1.cps.toList
    · rw [if_pos h']; exact .inl ⟨rfl, rfl⟩
    · rw [if_neg h']
      have e : u.1 = u.2.1 := str_anti h h'
      exact .inl ⟨rfl, e⟩
theorem adj_norm {ws ws' : List Way} (p : ws'.Perm (ws.map norm)) (x y : Str) : Adj ws' x y ↔ Adj ws x y := by
  constructor
  · rintro ⟨u, hu, h⟩
    obtain ⟨v, hv, rfl⟩ := List.mem_map.mp (p.mem_iff.mp hu)
    refine ⟨v, hv, ?_⟩
    rcases norm_ends v with ⟨e1, e2⟩ | ⟨e1, e2⟩
    · rw [e1, e2] at h; exact h
    · rw [e1, e2] at h
      rcases h with ⟨a, b⟩ | ⟨a, b⟩
      · exact .inr ⟨b, a⟩
      · exact .inl ⟨b, a⟩
  · rintro ⟨v, hv, h⟩
    refine ⟨norm v, p.mem_iff.mpr (List.mem_map.mpr ⟨v, hv, rfl⟩), ?_⟩
    rcases norm_ends v with ⟨e1, e2⟩ | ⟨e1, e2⟩
    · rw [e1, e2]; exact h
    · rw [e1, e2]
      rcases h with ⟨a, b⟩ | ⟨a, b⟩
      · exact .inr ⟨b, a⟩
      · exact .inl ⟨b, a⟩
theorem ends_norm {xs : List Str} {ws ws' : List Way} (p : ws'.Perm (ws.map norm)) (h : ∀ u ∈ ws, u.1 ∈ xs ∧ u.2.1 ∈ xs) : ∀ u ∈ ws', u.1 ∈ xs ∧ u.2.1 ∈ xs := fun u hu => by
  obtain ⟨v, hv, rfl⟩ := List.mem_map.mp (p.mem_iff.mp hu)
  obtain ⟨a, b⟩ := h v hv
  rcases norm_ends v with ⟨e1, e2⟩ | ⟨e1, e2⟩ <;> rw [e1, e2]
  · exact ⟨a, b⟩
  · exact ⟨b, a⟩
/-- each name but the first is joined to one ahead of it -/
def Joined (xs : List Str) (ws : List Way) : Prop := ∀ j, 0 < j → j < xs.length → ∃ u ∈ ws, ∃ i : Nat, i < j ∧ xs[i]? = some u.1 ∧ xs[j]? = some u.2.1
/-- what holds at a place and goes along ways holds at all places -/
theorem Joined.all {xs : List Str} {ws : List Way} (h : Joined xs ws) (S : Str → Prop) (cl : ∀ x y, Adj ws x y → S x → S y) {r : Str} (hr : r ∈ xs) (sr : S r) : ∀ x ∈ xs, S x := by
  have down : ∀ n (i : Nat), i ≤ n → ∀ x, xs[i]? = some x → S x → ∀ x0, xs[0]? = some x0 → S x0 := by
    intro n
    induction n with
    | zero =>
      intro i hi x e s x0 e0
      have : i = 0 := by omega
      subst this
      rw [e] at e0; cases e0; exact s
    | succ n ih =>
      intro i hi x e s x0 e0
      by_cases hz : i = 0
      · subst hz
        rw [e] at e0; cases e0; exact s
      · obtain ⟨u, hu, k, hk, e1, e2⟩ := h i (by omega) (List.getElem?_eq_some_iff.mp e).1
        rw [e] at e2; cases e2
        exact ih k (by omega) u.1 e1 (cl _ _ ⟨u, hu, .inr ⟨rfl, rfl⟩⟩ s) x0 e0
  have up : ∀ x0, xs[0]? = some x0 → S x0 → ∀ n (i : Nat), i ≤ n → ∀ x, xs[i]? = some x → S x := by
    intro x0 e0 s0 n
    induction n with
    | zero =>
      intro i hi x e
      have : i = 0 := by omega
      subst this
      rw [e0] at e; cases e; exact s0
    | succ n ih =>
      intro i hi x e
      by_cases hz : i = 0
      · subst hz
        rw [e0] at e; cases e; exact s0
      · obtain ⟨u, hu, k, hk, e1, e2⟩ := h i (by omega) (List.getElem?_eq_some_iff.mp e).1
        rw [e] at e2; cases e2
        exact cl _ _ ⟨u, hu, .inl ⟨rfl, rfl⟩⟩ (ih k (by omega) u.1 e1)
  intro x hx
  obtain ⟨i, hi, e⟩ := List.getElem_of_mem hr
  obtain ⟨j, hj, e'⟩ := List.getElem_of_mem hx
  have h0 : xs[0]? = some xs[0] := List.getElem?_eq_getElem (by omega)
  have s0 : S xs[0] := down i i (Nat.le_refl _) r (by rw [List.getElem?_eq_getElem hi, e]) sr _ h0
  exact up _ h0 s0 j j (Nat.le_refl _) x (by rw [List.getElem?_eq_getElem hj, e'])
/-! ### what each place is reached from -/
inductive Par (ws : List Way) (r : Str) : List (Str × Option Str) → Prop
  | root : Par ws r [(r, none)]
  | snoc {bs : List (Str × Option Str)} {x y : Str} : Par ws r bs → y ∈ bs.map (·.1) → x ∉ bs.map (·.1) → Adj ws y x → Par ws r (bs ++ [(x, some y)])
section
variable {ws : List Way} {r : Str} {bs cs : List (Str × Option Str)}
theorem Par.nodup (h : Par ws r bs) : (bs.map (·.1)).Nodup := by
  induction h with
  | root => exact List.nodup_cons.mpr ⟨by simp, .nil⟩
  | @snoc bs x y h hy hx ha ih =>
    rw [List.map_append]
    refine List.nodup_append.mpr ⟨ih, List.nodup_cons.mpr ⟨by simp, .nil⟩, fun a ha2 b hb => ?_⟩
    have e : b = x := by simpa using hb
    subst e
    rintro rfl
    exact hx ha2
theorem Par.root_mem (h : Par ws r bs) : (r, none) ∈ bs := by
  induction h with
  | root => simp
  | snoc _ _ _ _ ih => exact List.mem_append_left _ ih
theorem Par.parent (h : Par ws r bs) : ∀ {x y : Str}, (x, some y) ∈ bs → y ∈ bs.map (·.1) ∧ Adj ws y x := by
  induction h with
  | root => intro x y e; simp at e
  | @snoc bs x y h hy hx ha ih =>
    intro a b e
    rcases List.mem_append.mp e with e | e
    · obtain ⟨q1, q2⟩ := ih e
      exact ⟨by rw [List.map_append]; exact List.mem_append_left _ q1, q2⟩
    · have e' : a = x ∧ b = y := by simpa using e
      obtain ⟨rfl, rfl⟩ := e'
      exact ⟨by rw [List.map_append]; exact List.mem_append_left _ hy, ha⟩
theorem val_uniq {α β : Type} {l : List (α × β)} (h : (l.map (·.1)).Nodup) {x : α} {a b : β} (ha : (x, a) ∈ l) (hb : (x, b) ∈ l) : a = b := by
  induction l with
  | nil => cases ha
  | cons p l ih =>
    rw [List.map_cons] at h
    obtain ⟨h1, h2⟩ := List.nodup_cons.mp h
    have key : ∀ c, (x, c) ∈ l → p.1 ≠ x := fun c hc z => h1 (by rw [z]; exact List.mem_map.mpr ⟨(x, c), hc, rfl⟩)
    rcases List.mem_cons.mp ha with e | ha1
    · rcases List.mem_cons.mp hb with e' | hb1
      · rw [← e] at e'; cases e'; rfl
      · exact absurd (by rw [← e]) (key b hb1)
    · rcases List.mem_cons.mp hb with e' | hb1
      · exact absurd (by rw [← e']) (key a ha1)
      · exact ih h2 ha1 hb1
theorem Par.uniq (h : Par ws r bs) {x : Str} {a b : Option Str} (ha : (x, a) ∈ bs) (hb : (x, b) ∈ bs) : a = b := val_uniq h.nodup ha hb
theorem Par.has (h : Par ws r bs) {x : Str} (hx : x ∈ bs.map (·.1)) (ne : x ≠ r) : ∃ y, (x, some y) ∈ bs := by
  induction h with
  | root => simp at hx; exact absurd hx ne
  | @snoc bs a y h hy ha' hadj ih =>
    rw [List.map_append] at hx
    rcases List.mem_append.mp hx with hx | hx
    · obtain ⟨z, hz⟩ := ih hx
      exact ⟨z, List.mem_append_left _ hz⟩
    · have e : x = a := by simpa using hx
      subst e
      exact ⟨y, List.mem_append_right _ (by simp)⟩
/-- as many ways as places but the first are used, each one time -/
theorem Par.used (h : Par ws r bs) : ∃ us : List Way, us.Nodup ∧ (∀ u ∈ us, u ∈ ws) ∧ us.length + 1 = bs.length ∧ ∀ u ∈ us, u.1 ∈ bs.map (·.1) ∧ u.2.1 ∈ bs.map (·.1) ∧ ((u.1, some u.2.1) ∈ bs ∨ (u.2.1, some u.1) ∈ bs) := by
  induction h with
  | root => exact ⟨[], .nil, by simp, rfl, by simp⟩
  | @snoc bs x y h hy hx ha ih =>
    obtain ⟨us, a1, a2, a3, a4⟩ := ih
    obtain ⟨u, hu, e⟩ := ha
    have nu : u ∉ us := fun hm => by
      obtain ⟨q1, q2, _⟩ := a4 u hm
      rcases e with ⟨_, e⟩ | ⟨e, _⟩
      · rw [e] at q2; exact hx q2
      · rw [e] at q1; exact hx q1
    refine ⟨u :: us, List.nodup_cons.mpr ⟨nu, a1⟩, fun v hv => ?_, by simp [a3], fun v hv => ?_⟩
    · rcases List.mem_cons.mp hv with rfl | hv
      · exact hu
      · exact a2 v hv
    · have inl : ∀ {z}, z ∈ bs.map (·.1) → z ∈ (bs ++ [(x, some y)]).map (·.1) := fun hz => by rw [List.map_append]; exact List.mem_append_left _ hz
      have inx : x ∈ (bs ++ [(x, some y)]).map (·.1) := by rw [List.map_append]; exact List.mem_append_right _ (by simp)
      rcases List.mem_cons.mp hv with rfl | hv
      · rcases e with ⟨e1, e2⟩ | ⟨e1, e2⟩
        · rw [e1, e2]; exact ⟨inl hy, inx, .inr (List.mem_append_right _ (by simp))⟩
        · rw [e1, e2]; exact ⟨inx, inl hy, .inl (List.mem_append_right _ (by simp))⟩
      · obtain ⟨q1, q2, q3⟩ := a4 v hv
        exact ⟨inl q1, inl q2, q3.imp (List.mem_append_left _) (List.mem_append_left _)⟩
theorem Par.cover (h : Par ws r bs) (hl : ws.length + 1 ≤ bs.length) : ∀ u ∈ ws, (u.1, some u.2.1) ∈ bs ∨ (u.2.1, some u.1) ∈ bs := by
  obtain ⟨us, a1, a2, a3, a4⟩ := h.used
  intro u hu
  by_cases hm : u ∈ us
  · exact (a4 u hm).2.2
  · have := len_le_of_sub (l := u :: us) (xs := ws) (List.nodup_cons.mpr ⟨hm, a1⟩) fun v hv => by
      rcases List.mem_cons.mp hv with rfl | hv
      · exact hu
      · exact a2 v hv
    rw [List.length_cons] at this
    omega
/-- on a tree there is but one -/
theorem Par.sub (h : Par ws r bs) (g : Par ws r cs) (hl : ws.length + 1 ≤ cs.length) (full : ∀ x ∈ bs.map (·.1), x ∈ cs.map (·.1)) : ∀ p ∈ bs, p ∈ cs := by
  have cov := g.cover hl
  induction h with
  | root => intro p hp; have e : p = (r, none) := by simpa using hp
            subst e; exact g.root_mem
  | @snoc bs x y h hy hx ha ih =>
    have ih' := ih fun z hz => full z (by rw [List.map_append]; exact List.mem_append_left _ hz)
    intro p hp
    rcases List.mem_append.mp hp with hp | hp
    · exact ih' p hp
    · have e : p = (x, some y) := by simpa using hp
      subst e
      obtain ⟨u, hu, e⟩ := ha
      have two : (x, some y) ∈ cs ∨ (y, some x) ∈ cs := by
        rcases cov u hu with c | c
        · rcases e with ⟨e1, e2⟩ | ⟨e1, e2⟩
          · rw [e1, e2] at c; exact .inr c
          · rw [e1, e2] at c; exact .inl c
        · rcases e with ⟨e1, e2⟩ | ⟨e1, e2⟩
          · rw [e1, e2] at c; exact .inl c
          · rw [e1, e2] at c; exact .inr c
      rcases two with c | c
      · exact c
      · exfalso
        have nr : y ≠ r := by
          rintro rfl
          cases g.uniq c g.root_mem
        obtain ⟨z, hz⟩ := h.has hy nr
        have e2 := g.uniq c (ih' _ hz)
        cases e2
        exact hx (h.parent hz).1
end
/-! ### walks from the first place -/
inductive Wlk (ws : List Way) (r : Str) : List (Str × List Str) → Prop
  | root : Wlk ws r [(r, [r])]
  | snoc {wk : List (Str × List Str)} {x y : Str} {p : List Str} : Wlk ws r wk → (y, p) ∈ wk → x ∉ wk.map (·.1) → Adj ws y x → Wlk ws r (wk ++ [(x, p ++ [x])])
/-- the one ahead of the last -/
def ahead (p : List Str) : Option Str := p.dropLast.getLast?
theorem ahead_snoc (p : List Str) (x : Str) : ahead (p ++ [x]) = p.getLast? := by unfold ahead; rw [List.dropLast_concat]
section
variable {ws : List Way} {r : Str} {wk : List (Str × List Str)}
theorem Wlk.last (h : Wlk ws r wk) : ∀ {x : Str} {p : List Str}, (x, p) ∈ wk → p.getLast? = some x := by
  induction h with
  | root => intro x p e; have e' : x = r ∧ p = [r] := by simpa using e
            obtain ⟨rfl, rfl⟩ := e'; rfl
  | snoc h hy hx ha ih =>
    intro a q e
    rcases List.mem_append.mp e with e | e
    · exact ih e
    · simp only [List.mem_singleton, Prod.mk.injEq] at e
      obtain ⟨rfl, rfl⟩ := e
      simp
theorem Wlk.par (h : Wlk ws r wk) : Par ws r (wk.map fun q => (q.1, ahead q.2)) := by
  induction h with
  | root => exact .root
  | @snoc wk x y p h hy hx ha ih =>
    rw [List.map_append]
    have e : ahead (p ++ [x]) = some y := by rw [ahead_snoc]; exact h.last hy
    simp only [List.map_cons, List.map_nil, e]
    refine .snoc ih ?_ ?_ ha
    · rw [List.map_map]
      exact List.mem_map.mpr ⟨(y, p), hy, rfl⟩
    · rw [List.map_map]
      exact hx
theorem Wlk.keys (h : Wlk ws r wk) : (wk.map (·.1)).Nodup := by
  have := h.par.nodup
  rw [List.map_map] at this
  exact this
/-- the walk of a place whose place ahead is y is y's, and it -/
theorem Wlk.step (h : Wlk ws r wk) : ∀ {x : Str} {p : List Str}, (x, p) ∈ wk → (x = r ∧ p = [r]) ∨ ∃ y q, (y, q) ∈ wk ∧ p = q ++ [x] ∧ ahead p = some y := by
  induction h with
  | root => intro x p e; have e' : x = r ∧ p = [r] := by simpa using e
            exact .inl e'
  | @snoc wk a b q h hy hx ha ih =>
    intro x p e
    rcases List.mem_append.mp e with e | e
    · rcases ih e with z | ⟨y, q, h1, h2, h3⟩
      · exact .inl z
      · exact .inr ⟨y, q, List.mem_append_left _ h1, h2, h3⟩
    · simp only [List.mem_singleton, Prod.mk.injEq] at e
      obtain ⟨rfl, rfl⟩ := e
      exact .inr ⟨b, q, List.mem_append_left _ hy, rfl, by rw [ahead_snoc]; exact h.last hy⟩
end
theorem way_dats {H2 H3 : Hp} {vs : List V} {ws : List Way} (h : Dats H2 vs (ws.map wayD)) (ht : ∀ b xs, H2 b = some (.tup xs) → H3 b = some (.tup xs)) : Dats H3 vs (ws.map wayD) := by
  induction ws generalizing vs with
  | nil => cases h; exact .nil
  | cons u ws ih =>
    cases h with
    | cons h1 r =>
      refine .cons ?_ (ih r)
      cases h1 with
      | tup ha hd =>
        refine .tup (ht _ _ ha) ?_
        cases hd with
        | cons h1 r1 =>
          cases r1 with
          | cons h2 r2 =>
            cases r2 with
            | cons h3 r3 =>
              cases r3
              cases h1
              cases h2
              cases h3
              exact .cons (.str _) (.cons (.str _) (.cons (.int _) .nil))
end L2

set_option Elab.async false
set_option linter.all false
set_option maxRecDepth 100000
set_option maxHeartbeats 4000000
namespace L2
open PySem PySem.Spec PyProof.Rows
theorem nd_ix {α : Type} {l : List α} (h : l.Nodup) {i j : Nat} {x : α} (a : l[i]? = some x) (b : l[j]? = some x) : i = j :=
  (List.getElem?_inj (List.getElem?_eq_some_iff.mp a).1 h).mp (a.trans b.symm)
/-! ### dicts whose keys are texts -/
def sK (nv : List (Str × V)) : List (Key × V) := nv.map fun q => (Sum.inr q.1, q.2)
theorem sK_len (nv : List (Str × V)) : (sK nv).length = nv.length := List.length_map ..
theorem sK_keys (nv : List (Str × V)) : (sK nv).map (·.1) = (nv.map (·.1)).map Sum.inr := by unfold sK; rw [List.map_map, List.map_map]; rfl
theorem sK_app (a b : List (Str × V)) : sK (a ++ b) = sK a ++ sK b := List.map_append ..
theorem sK_none : ∀ {nv : List (Str × V)} {y : Str}, y ∉ nv.map (·.1) → valV (sK nv) (Sum.inr y : Key) = none
  | [], y, _ => rfl
  | q :: nv, y, h => by
    rw [List.map_cons, List.mem_cons, not_or] at h
    show valV ((Sum.inr q.1, q.2) :: sK nv) (Sum.inr y : Key) = none
    rw [valV_neg (fun z => h.1 (Sum.inr.inj z).symm)]
    exact sK_none h.2
theorem sK_some : ∀ {nv : List (Str × V)} {y : Str} {v : V}, (nv.map (·.1)).Nodup → (y, v) ∈ nv → valV (sK nv) (Sum.inr y : Key) = some v
  | [], y, v, _, h => nomatch h
  | q :: nv, y, v, hn, h => by
    rw [List.map_cons] at hn
    obtain ⟨h1, h2⟩ := List.nodup_cons.mp hn
    show valV ((Sum.inr q.1, q.2) :: sK nv) (Sum.inr y : Key) = some v
    rcases List.mem_cons.mp h with e | h'
    · subst e
      exact valV_pos rfl
    · rw [valV_neg (fun z => h1 (by rw [Sum.inr.inj z]; exact List.mem_map.mpr ⟨(y, v), h', rfl⟩))]
      exact sK_some h2 h'
theorem sK_is {nv : List (Str × V)} {y : Str} : (valV (sK nv) (Sum.inr y : Key)).isSome = decide (y ∈ nv.map (·.1)) := by
  by_cases h : y ∈ nv.map (·.1)
  · rw [decide_eq_true h]
    cases e : valV (sK nv) (Sum.inr y : Key) with
    | some v => rfl
    | none =>
      have := valV_not e
      rw [sK_keys] at this
      exact absurd (List.mem_map.mpr ⟨y, h, rfl⟩) this
  · rw [decide_eq_false h, sK_none h]; rfl
theorem sK_new {nv : List (Str × V)} {y : Str} {v : V} (h : y ∉ nv.map (·.1)) : putK (sK nv) (Sum.inr y : Key) v = sK (nv ++ [(y, v)]) := by
  rw [putK_new v (sK_none h), sK_app]; rfl
theorem sK_put (nv : List (Str × V)) (y : Str) (v : V) : ∃ nv', putK (sK nv) (Sum.inr y : Key) v = sK nv' ∧ nv'.length ≤ nv.length + 1 ∧ ∀ z, z ∈ nv'.map (·.1) ↔ z ∈ nv.map (·.1) ∨ z = y := by
  by_cases h : y ∈ nv.map (·.1)
  · refine ⟨nv.map fun q => if q.1 = y then (q.1, v) else q, ?_, by rw [List.length_map]; omega, fun z => ?_⟩
    · unfold putK
      have : ((sK nv).any fun kv => decide (kv.1 = (Sum.inr y : Key))) = true := by
        rw [valV_any, sK_is, decide_eq_true h]
      rw [if_pos this]
      unfold sK
      rw [List.map_map, List.map_map]
      refine List.map_congr_left fun q _ => ?_
      by_cases e : q.1 = y
      · simp [e]
      · have e' : ¬ (Sum.inr q.1 : Key) = Sum.inr y := fun z => e (Sum.inr.inj z)
        simp [e, e']
    · have e : (nv.map fun q => if q.1 = y then (q.1, v) else q).map (·.1) = nv.map (·.1) := by
        rw [List.map_map]
        refine List.map_congr_left fun q _ => ?_
        by_cases e : q.1 = y <;> simp [e]
      rw [e]
      constructor
      · exact .inl
      · rintro (q | rfl)
        · exact q
        · exact h
  · refine ⟨nv ++ [(y, v)], sK_new h, by simp, fun z => by simp⟩
theorem sK_at {nv : List (Str × V)} {i : Nat} {k : Key} {v : V} (h : (sK nv)[i]? = some (k, v)) : ∃ y, nv[i]? = some (y, v) ∧ k = .inr y := by
  unfold sK at h
  rw [List.getElem?_map] at h
  cases e : nv[i]? with
  | none => rw [e] at h; cases h
  | some q =>
    rw [e] at h
    simp only [Option.map_some, Option.some.injEq, Prod.mk.injEq] at h
    exact ⟨q.1, by rw [← h.2], h.1.symm⟩
/-! ### a map, and what lies beside each place -/
structure Web (H : Hp) (q : Addr) (ps : List Str) (ws : List Way) : Prop where
  ex : ∃ tp tw us, H q = some (.tup [.ref tp, .ref tw]) ∧ H tp = some (.tup (ps.map V.str)) ∧ H tw = some (.tup us) ∧ Dats H us (ws.map wayD)
theorem Web.same {H H' : Hp} {q : Addr} {ps : List Str} {ws : List Way} (h : Web H q ps ws) (s : ∀ b xs, H b = some (.tup xs) → H' b = some (.tup xs)) : Web H' q ps ws := by
  obtain ⟨tp, tw, us, h1, h2, h3, h4⟩ := h.ex
  exact ⟨tp, tw, us, s _ _ h1, s _ _ h2, s _ _ h3, way_dats h4 s⟩
def nbL (ps : List Str) (ds : List Addr) : List (Str × V) := (ps.zip ds).map fun q => (q.1, V.ref q.2)
theorem nbL_keys {ps : List Str} {ds : List Addr} (h : ps.length ≤ ds.length) : (nbL ps ds).map (·.1) = ps := by
  unfold nbL
  rw [List.map_map]
  have : ((fun (x : Str × V) => x.1) ∘ fun (q : Str × Addr) => (q.1, V.ref q.2)) = Prod.fst := rfl
  rw [this, List.map_fst_zip h]
theorem nbL_mem {ps : List Str} {ds : List Addr} {i : Nat} {p : Str} {d : Addr} (h1 : ps[i]? = some p) (h2 : ds[i]? = some d) : (p, V.ref d) ∈ nbL ps ds := by
  unfold nbL
  refine List.mem_map.mpr ⟨(p, d), List.mem_of_getElem? (i := i) ?_, rfl⟩
  rw [List.getElem?_zip_eq_some]
  exact ⟨h1, h2⟩
structure NB (H : Hp) (B : Addr) (ps : List Str) (ds : List Addr) (P : Str → Str → Prop) (n : Nat) : Prop where
  top : H B = some (.dK (sK (nbL ps ds)))
  len : ds.length = ps.length
  nd : ds.Nodup
  nB : B ∉ ds
  inner : ∀ (i : Nat) (p : Str) (d : Addr), ps[i]? = some p → ds[i]? = some d → ∃ nv : List (Str × V), H d = some (.dK (sK nv)) ∧ nv.length ≤ n ∧ ∀ y, y ∈ nv.map (·.1) ↔ P p y
theorem NB.get {H : Hp} {B : Addr} {ps : List Str} {ds : List Addr} {P : Str → Str → Prop} {n : Nat} (h : NB H B ps ds P n) (hn : ps.Nodup) {p : Str} (hp : p ∈ ps) :
    ∃ (i : Nat) (d : Addr) (nv : List (Str × V)), ps[i]? = some p ∧ ds[i]? = some d ∧ valV (sK (nbL ps ds)) (Sum.inr p : Key) = some (.ref d) ∧ H d = some (.dK (sK nv)) ∧ nv.length ≤ n ∧ ∀ y, y ∈ nv.map (·.1) ↔ P p y := by
  obtain ⟨i, hi, e⟩ := List.getElem_of_mem hp
  have e1 : ps[i]? = some p := by rw [List.getElem?_eq_getElem hi, e]
  have hi' : i < ds.length := by rw [h.len]; exact hi
  have e2 : ds[i]? = some ds[i] := List.getElem?_eq_getElem hi'
  obtain ⟨nv, a1, a2, a3⟩ := h.inner i p _ e1 e2
  refine ⟨i, _, nv, e1, e2, sK_some ?_ (nbL_mem e1 e2), a1, a2, a3⟩
  rw [nbL_keys (by rw [h.len]; exact Nat.le_refl _)]
  exact hn
/-- one more put into the dict of p -/
theorem NB.put {H : Hp} {B : Addr} {ps : List Str} {ds : List Addr} {P : Str → Str → Prop} {n : Nat} (h : NB H B ps ds P n) {i : Nat} {p y : Str} {d : Addr} (hn : ps.Nodup) (e1 : ps[i]? = some p) (e2 : ds[i]? = some d) {nv nv' : List (Str × V)} (hd : H d = some (.dK (sK nv)))
    (hl : nv'.length ≤ nv.length + 1) (hk : ∀ z, z ∈ nv'.map (·.1) ↔ z ∈ nv.map (·.1) ∨ z = y) (hP : ∀ z, z ∈ nv.map (·.1) ↔ P p z) (hln : nv.length ≤ n) : NB (upd H d (.dK (sK nv'))) B ps ds (fun a b => P a b ∨ (a = p ∧ b = y)) (n + 1) := by
  have dm : d ∈ ds := List.mem_of_getElem? e2
  refine ⟨by rw [upd_ne (fun z => h.nB (by rw [z]; exact dm))]; exact h.top, h.len, h.nd, h.nB, fun j q c f1 f2 => ?_⟩
  by_cases z : c = d
  · subst z
    have ij : i = j := nd_ix h.nd e2 f2
    subst ij
    rw [e1] at f1; cases f1
    refine ⟨nv', upd_same, by omega, fun z => ?_⟩
    rw [hk, hP]
    simp
  · obtain ⟨nw, b1, b2, b3⟩ := h.inner j q c f1 f2
    refine ⟨nw, by rw [upd_ne z]; exact b1, by omega, fun y' => ?_⟩
    rw [b3]
    have : q ≠ p := by
      rintro rfl
      have ij := nd_ix hn e1 f1
      subst ij
      rw [e2] at f2; cases f2
      exact z rfl
    simp [this]
theorem NB.mono {H : Hp} {B : Addr} {ps : List Str} {ds : List Addr} {P P' : Str → Str → Prop} {n m : Nat} (h : NB H B ps ds P n) (hP : ∀ a b, P a b ↔ P' a b) (hn : n ≤ m) : NB H B ps ds P' m :=
  ⟨h.top, h.len, h.nd, h.nB, fun i p d e1 e2 => let ⟨nv, a1, a2, a3⟩ := h.inner i p d e1 e2; ⟨nv, a1, by omega, fun y => (a3 y).trans (hP p y)⟩⟩
theorem NB.same {H H' : Hp} {B : Addr} {ps : List Str} {ds : List Addr} {P : Str → Str → Prop} {n : Nat} (h : NB H B ps ds P n) (s : Same H H') : NB H' B ps ds P n :=
  ⟨s _ _ h.top, h.len, h.nd, h.nB, fun i p d e1 e2 => let ⟨nv, a1, a2, a3⟩ := h.inner i p d e1 e2; ⟨nv, s _ _ a1, a2, a3⟩⟩
/-- the map that these functions are asked of -/
structure WebOk (H : Hp) (q : Addr) (ps : List Str) (ws : List Way) (r : Str) : Prop where
  web : Web H q ps ws
  nd : ps.Nodup
  l30 : ps.length ≤ 30
  l64 : ws.length < 64
  ends : ∀ u ∈ ws, u.1 ∈ ps ∧ u.2.1 ∈ ps
  first : ps[0]? = some r
  con : ∀ S : Str → Prop, S r → (∀ x y, Adj ws x y → S x → S y) → ∀ x ∈ ps, S x
theorem WebOk.same {H H' : Hp} {q : Addr} {ps : List Str} {ws : List Way} {r : Str} (h : WebOk H q ps ws r) (s : Same H H') : WebOk H' q ps ws r :=
  ⟨h.web.same fun b xs z => s _ _ z, h.nd, h.l30, h.l64, h.ends, h.first, h.con⟩
theorem adj_take {ws : List Way} {i : Nat} {u : Way} (h : ws[i]? = some u) (a b : Str) : Adj (ws.take (i + 1)) a b ↔ (Adj (ws.take i) a b ∨ (a = u.1 ∧ b = u.2.1)) ∨ (a = u.2.1 ∧ b = u.1) := by
  rw [List.take_add_one, h]
  constructor
  · rintro ⟨v, hv, e⟩
    rcases List.mem_append.mp hv with hv | hv
    · exact .inl (.inl ⟨v, hv, e⟩)
    · have : v = u := by simpa using hv
      subst this
      rcases e with ⟨e1, e2⟩ | ⟨e1, e2⟩
      · exact .inl (.inr ⟨e1.symm, e2.symm⟩)
      · exact .inr ⟨e2.symm, e1.symm⟩
  · rintro ((⟨v, hv, e⟩ | ⟨rfl, rfl⟩) | ⟨rfl, rfl⟩)
    · exact ⟨v, List.mem_append_left _ hv, e⟩
    · exact ⟨u, List.mem_append_right _ (by simp), .inl ⟨rfl, rfl⟩⟩
    · exact ⟨u, List.mem_append_right _ (by simp), .inr ⟨rfl, rfl⟩⟩
def spNbr (K : PySem.W.Frag) : Sp := fun vs H Q _ => ∃ (q : Addr) (ps : List Str) (ws : List Way) (r : Str), vs = [.ref q] ∧ WebOk H q ps ws r ∧
  ∀ (H' : Hp) (B : Addr) (ds : List Addr), Same H H' → NB H' B ps ds (Adj ws) 128 → H B = none → (∀ d ∈ ds, H d = none) → Q (.ref B) H'
def ov : Option Str → V
  | none => .non
  | some y => .str y
def parL (bs : List (Str × Option Str)) : List (Str × V) := bs.map fun q => (q.1, ov q.2)
theorem parL_keys (bs : List (Str × Option Str)) : (parL bs).map (·.1) = bs.map (·.1) := by unfold parL; rw [List.map_map]; rfl
theorem parL_mem {bs : List (Str × Option Str)} {x : Str} {o : Option Str} (h : (x, o) ∈ bs) : (x, ov o) ∈ parL bs := List.mem_map.mpr ⟨_, h, rfl⟩
theorem parL_val {ws : List Way} {r : Str} {bs : List (Str × Option Str)} (hp : Par ws r bs) {x : Str} {o : Option Str} (h : (x, o) ∈ bs) : valV (sK (parL bs)) (Sum.inr x : Key) = some (ov o) :=
  sK_some (by rw [parL_keys]; exact hp.nodup) (parL_mem h)
def spCame (K : PySem.W.Frag) : Sp := fun vs H Q _ => ∃ (q : Addr) (ps : List Str) (ws : List Way) (r : Str), vs = [.ref q] ∧ WebOk H q ps ws r ∧
  ∀ (H' : Hp) (B : Addr) (bs : List (Str × Option Str)), Same H H' → H B = none → H' B = some (.dK (sK (parL bs))) → Par ws r bs → (∀ x, x ∈ bs.map (·.1) ↔ x ∈ ps) → Q (.ref B) H'
end L2

set_option Elab.async false
set_option linter.all false
set_option maxRecDepth 100000
set_option maxHeartbeats 4000000
namespace L2
open PySem PySem.Spec PyProof.Rows
/-- what lies beside each place, perhaps walked already -/
structure NR (H : Hp) (B : Addr) (ps : List Str) (ds : List Addr) (P : Str → Str → Prop) : Prop where
  top : H B = some (.dK (sK (nbL ps ds)))
  len : ds.length = ps.length
  nd : ds.Nodup
  nB : B ∉ ds
  inner : ∀ (i : Nat) (p : Str) (d : Addr), ps[i]? = some p → ds[i]? = some d → ∃ nv : List (Str × V), Rd H d (.dK (sK nv)) ∧ ∀ y, y ∈ nv.map (·.1) ↔ P p y
theorem NB.r {H : Hp} {B : Addr} {ps : List Str} {ds : List Addr} {P : Str → Str → Prop} {n : Nat} (h : NB H B ps ds P n) : NR H B ps ds P :=
  ⟨h.top, h.len, h.nd, h.nB, fun i p d e1 e2 => let ⟨nv, a1, _, a3⟩ := h.inner i p d e1 e2; ⟨nv, .inl a1, a3⟩⟩
theorem NR.get {H : Hp} {B : Addr} {ps : List Str} {ds : List Addr} {P : Str → Str → Prop} (h : NR H B ps ds P) (hn : ps.Nodup) {p : Str} (hp : p ∈ ps) :
    ∃ (i : Nat) (d : Addr) (nv : List (Str × V)), ps[i]? = some p ∧ ds[i]? = some d ∧ valV (sK (nbL ps ds)) (Sum.inr p : Key) = some (.ref d) ∧ Rd H d (.dK (sK nv)) ∧ ∀ y, y ∈ nv.map (·.1) ↔ P p y := by
  obtain ⟨i, hi, e⟩ := List.getElem_of_mem hp
  have e1 : ps[i]? = some p := by rw [List.getElem?_eq_getElem hi, e]
  have hi' : i < ds.length := by rw [h.len]; exact hi
  have e2 : ds[i]? = some ds[i] := List.getElem?_eq_getElem hi'
  obtain ⟨nv, a1, a3⟩ := h.inner i p _ e1 e2
  refine ⟨i, _, nv, e1, e2, sK_some ?_ (nbL_mem e1 e2), a1, a3⟩
  rw [nbL_keys (by rw [h.len]; exact Nat.le_refl _)]
  exact hn
theorem Rd.ne {H : Hp} {a b : Addr} {u o : HO} (h : Rd H a u) (hb : a ≠ b) : Rd (upd H b o) a u := by
  rcases h with h | ⟨ob, h⟩
  · exact .inl (by rw [upd_ne hb]; exact h)
  · exact .inr ⟨ob, by rw [upd_ne hb]; exact h⟩
theorem Rd.fz {H H' : Hp} {a b : Addr} {u : HO} {kvs : List (Key × V)} {o : Obj} (h : Rd H a u) (f : Frozen H b kvs o H') (hb : a ≠ b) : Rd H' a u := by
  rcases h with h | ⟨ob, h⟩
  · exact .inl (by rw [f.ne hb]; exact h)
  · exact .inr ⟨ob, by rw [f.ne hb]; exact h⟩
theorem NR.other {H : Hp} {B a : Addr} {ps : List Str} {ds : List Addr} {P : Str → Str → Prop} {o : HO} (h : NR H B ps ds P) (ha : a ∉ ds) (hB : a ≠ B) : NR (upd H a o) B ps ds P :=
  ⟨by rw [upd_ne (Ne.symm hB)]; exact h.top, h.len, h.nd, h.nB, fun i p d e1 e2 => let ⟨nv, a1, a3⟩ := h.inner i p d e1 e2
    ⟨nv, a1.ne (fun z => ha (by rw [← z]; exact List.mem_of_getElem? e2)), a3⟩⟩
theorem NR.freeze {H H' : Hp} {B : Addr} {ps : List Str} {ds : List Addr} {P : Str → Str → Prop} (h : NR H B ps ds P) {i : Nat} {p : Str} {d : Addr} (e1 : ps[i]? = some p) (e2 : ds[i]? = some d) {nv : List (Str × V)} {o : Obj} (f : Frozen H d (sK nv) o H') (hP : ∀ y, y ∈ nv.map (·.1) ↔ P p y) : NR H' B ps ds P := by
  have dm : d ∈ ds := List.mem_of_getElem? e2
  refine ⟨by rw [f.ne (fun z => h.nB (by rw [z]; exact dm))]; exact h.top, h.len, h.nd, h.nB, fun j q c f1 f2 => ?_⟩
  by_cases z : c = d
  · subst z
    have ij : i = j := nd_ix h.nd e2 f2
    subst ij
    rw [e1] at f1; cases f1
    exact ⟨nv, .inr ⟨o, f.at⟩, hP⟩
  · obtain ⟨nw, b1, b3⟩ := h.inner j q c f1 f2
    exact ⟨nw, b1.fz f z, b3⟩
theorem parL_snoc (bs : List (Str × Option Str)) (x : Str) (o : Option Str) : parL (bs ++ [(x, o)]) = parL bs ++ [(x, ov o)] := List.map_append ..
/-- what holds while the places are reached -/
structure Reach (H H2 : Hp) (ps : List Str) (ws : List Way) (r : Str) (B D L : Addr) (ds : List Addr) (bs : List (Str × Option Str)) (as : List Str) : Prop where
  same : Same H H2
  nr : NR H2 B ps ds (Adj ws)
  dD : H2 D = some (.dK (sK (parL bs)))
  dL : H2 L = some (.lst (as.map V.str))
  par : Par ws r bs
  sub : ∀ x ∈ bs.map (·.1), x ∈ ps
  asb : ∀ x ∈ as, x ∈ bs.map (·.1)
  al : as.length ≤ bs.length
theorem Reach.len {H H2 : Hp} {ps : List Str} {ws : List Way} {r : Str} {B D L : Addr} {ds : List Addr} {bs : List (Str × Option Str)} {as : List Str} (h : Reach H H2 ps ws r B D L ds bs as) : bs.length ≤ ps.length := by
  have := len_le_of_sub h.par.nodup h.sub
  rwa [List.length_map] at this
theorem getLast_of {as : List Str} (h : as ≠ []) : ∃ x, (as.map V.str)[(as.map V.str).length - 1]? = some (.str x) ∧ x ∈ as ∧ ∀ z ∈ as, z ∈ as.dropLast ∨ z = x := by
  obtain ⟨x, bs, e⟩ : ∃ x bs, as = bs ++ [x] := ⟨as.getLast h, as.dropLast, (List.dropLast_concat_getLast h).symm⟩
  subst e
  refine ⟨x, by simp, by simp, fun z hz => ?_⟩
  rw [List.dropLast_concat]
  rcases List.mem_append.mp hz with q | q
  · exact .inl q
  · exact .inr (by simpa using q)
end L2

set_option Elab.async false
set_option linter.all false
set_option maxRecDepth 100000
set_option maxHeartbeats 4000000
namespace L2
open PySem PySem.Spec PyProof.Rows
/-- what is below a place -/
inductive Und (bs : List (Str × Option Str)) (a : Str) : Str → Prop
  | self : Und bs a a
  | step {x y : Str} : (x, some y) ∈ bs → Und bs a y → Und bs a x
theorem Par.before {ws : List Way} {r : Str} {bs : List (Str × Option Str)} (h : Par ws r bs) : ∀ {i : Nat} {x y : Str}, bs[i]? = some (x, some y) → ∃ (j : Nat) (o : Option Str), j < i ∧ bs[j]? = some (y, o) := by
  induction h with
  | root => intro i x y e; cases i with
    | zero => simp at e
    | succ i => simp at e
  | @snoc bs a b h hb ha hadj ih =>
    intro i x y e
    by_cases hi : i < bs.length
    · rw [List.getElem?_append_left hi] at e
      obtain ⟨j, o, h1, h2⟩ := ih e
      exact ⟨j, o, h1, by rw [List.getElem?_append_left (by omega)]; exact h2⟩
    · rw [List.getElem?_append_right (by omega)] at e
      have hi2 : i - bs.length < 1 := by
        have := (List.getElem?_eq_some_iff.mp e).1
        simpa using this
      have hi3 : i - bs.length = 0 := by omega
      rw [hi3] at e
      simp only [List.getElem?_cons_zero, Option.some.injEq, Prod.mk.injEq] at e
      obtain ⟨rfl, rfl⟩ := e
      obtain ⟨⟨y', o⟩, hm, e'⟩ := List.mem_map.mp hb
      obtain ⟨j, hj, e2⟩ := List.getElem_of_mem hm
      have e'' : y' = b := e'
      subst e''
      exact ⟨j, o, by omega, by rw [List.getElem?_append_left hj, List.getElem?_eq_getElem hj, e2]⟩
theorem sK_putN {nv nv' : List (Str × V)} {y : Str} {v : V} (e : putK (sK nv) (Sum.inr y : Key) v = sK nv') (hn : (nv.map (·.1)).Nodup) : (nv'.map (·.1)).Nodup := by
  have inj : ∀ {a b : List (Str × V)}, (sK a).map (·.1) = (sK b).map (·.1) → a.map (·.1) = b.map (·.1) := fun {a b} h => by
    rw [sK_keys, sK_keys] at h
    exact List.map_inj_right (fun x y z => Sum.inr.inj z) |>.mp h
  by_cases h : y ∈ nv.map (·.1)
  · have e2 : (putK (sK nv) (Sum.inr y : Key) v).map (·.1) = (sK nv).map (·.1) := by
      unfold putK
      have : ((sK nv).any fun kv => decide (kv.1 = (Sum.inr y : Key))) = true := by rw [valV_any, sK_is, decide_eq_true h]
      rw [if_pos this, List.map_map]
      refine List.map_congr_left fun q _ => ?_
      by_cases e : q.1 = (Sum.inr y : Key) <;> simp [e]
    rw [e] at e2
    rw [inj e2]
    exact hn
  · rw [sK_new h] at e
    have e2 : (nv ++ [(y, v)]).map (·.1) = nv'.map (·.1) := inj (by rw [e])
    rw [← e2, List.map_append]
    refine List.nodup_append.mpr ⟨hn, List.nodup_cons.mpr ⟨by simp, .nil⟩, fun a ha b hb => ?_⟩
    have e3 : b = y := by simpa using hb
    subst e3
    rintro rfl
    exact h ha
theorem take_filter {l : List Str} {i : Nat} {x : Str} (f : Str → Bool) (h : l[i]? = some x) : (l.take (i + 1)).filter f = (l.take i).filter f ++ if f x = true then [x] else [] := by
  rw [List.take_add_one, h, List.filter_append]
  cases e : f x <;> simp [e]
def spParent (K : PySem.W.Frag) : Sp := fun vs H Q _ => ∃ (q : Addr) (ps : List Str) (ws : List Way) (r x : Str), vs = [.ref q, .str x] ∧ WebOk H q ps ws r ∧ x ∈ ps ∧
  ∀ (H' : Hp) (bs : List (Str × Option Str)) (o : Option Str), Same H H' → Par ws r bs → (∀ x, x ∈ bs.map (·.1) ↔ x ∈ ps) → (x, o) ∈ bs → Q (ov o) H'
def spChildren (K : PySem.W.Frag) : Sp := fun vs H Q _ => ∃ (q : Addr) (ps : List Str) (ws : List Way) (r x : Str), vs = [.ref q, .str x] ∧ WebOk H q ps ws r ∧ x ∈ ps ∧
  ∀ (H' : Hp) (bs : List (Str × Option Str)) (l : Addr), Same H H' → Par ws r bs → (∀ x, x ∈ bs.map (·.1) ↔ x ∈ ps) → H l = none → H' l = some (.lst ((ps.filter fun z => decide ((z, some x) ∈ bs)).map V.str)) → Q (.ref l) H'
def spBelow (K : PySem.W.Frag) : Sp := fun vs H Q _ => ∃ (q : Addr) (ps : List Str) (ws : List Way) (r x : Str), vs = [.ref q, .str x] ∧ WebOk H q ps ws r ∧ x ∈ ps ∧
  ∀ (H' : Hp) (bs : List (Str × Option Str)) (l : Addr) (ss : List Str), Same H H' → Par ws r bs → (∀ x, x ∈ bs.map (·.1) ↔ x ∈ ps) → H l = none → H' l = some (.lst (ss.map V.str)) → sortedS ss = true → ss.Nodup → (∀ z, z ∈ ss ↔ Und bs x z) → Q (.ref l) H'
def spTree (K : PySem.W.Frag) : Sp := fun vs H Q _ => ∃ (p a : Addr) (ns : List Int) (i l : Int) (D : Addr) (xs : List Str), vs = [.ref p, .ref D] ∧ PenAt K H p a ns i l ∧ ns.length ≤ 63 ∧ H D = some (.lst (xs.map V.str)) ∧ 1 ≤ xs.length ∧ xs.length ≤ 30 ∧ xs.Nodup ∧
  ∀ (H' : Hp) (E : Addr) (vs : List V) (ws : List Way) (i' l' : Int), PenAt K H' p a ns i' l' → Keep p H H' → H E = none → H' E = some (.lst vs) → Dats H' vs (ws.map wayD) → Tree xs xs.length ws → ws.length + 1 = xs.length → Q (.ref E) H'
/-- the dict of walks -/
structure WK (H : Hp) (W : Addr) (wk : List (Str × List Str)) (qs : List Addr) : Prop where
  len : qs.length = wk.length
  top : Rd H W (.dK (sK (nbL (wk.map (·.1)) qs)))
  at_ : ∀ (i : Nat) (x : Str) (p : List Str) (q : Addr), wk[i]? = some (x, p) → qs[i]? = some q → H q = some (.lst (p.map V.str))
theorem WK.get {H : Hp} {W : Addr} {wk : List (Str × List Str)} {qs : List Addr} (h : WK H W wk qs) (hn : (wk.map (·.1)).Nodup) {x : Str} {p : List Str} (hx : (x, p) ∈ wk) :
    ∃ q, valV (sK (nbL (wk.map (·.1)) qs)) (Sum.inr x : Key) = some (.ref q) ∧ H q = some (.lst (p.map V.str)) := by
  obtain ⟨i, hi, e⟩ := List.getElem_of_mem hx
  have hi' : i < qs.length := by rw [h.len]; exact hi
  have e1 : wk[i]? = some (x, p) := by rw [List.getElem?_eq_getElem hi, e]
  have e2 : qs[i]? = some qs[i] := List.getElem?_eq_getElem hi'
  refine ⟨qs[i], sK_some ?_ (nbL_mem (i := i) ?_ e2), h.at_ i x p _ e1 e2⟩
  · rw [nbL_keys (by rw [h.len, List.length_map]; exact Nat.le_refl _)]; exact hn
  · rw [List.getElem?_map, e1]; rfl
theorem WK.is {H : Hp} {W : Addr} {wk : List (Str × List Str)} {qs : List Addr} (h : WK H W wk qs) (x : Str) : (valV (sK (nbL (wk.map (·.1)) qs)) (Sum.inr x : Key)).isSome = decide (x ∈ wk.map (·.1)) := by
  rw [sK_is, nbL_keys (by rw [h.len, List.length_map]; exact Nat.le_refl _)]
def spWalks (K : PySem.W.Frag) : Sp := fun vs H Q _ => ∃ (D E : Addr) (xs : List Str) (us : List V) (ws : List Way), vs = [.ref D, .ref E] ∧ H D = some (.lst (xs.map V.str)) ∧ xs ≠ [] ∧ xs.Nodup ∧ xs.length ≤ 30 ∧ H E = some (.lst us) ∧ Dats H us (ws.map wayD) ∧ ws.length < 64 ∧ (∀ u ∈ ws, u.1 ∈ xs ∧ u.2.1 ∈ xs) ∧ Joined xs ws ∧
  ∀ (H' : Hp) (W : Addr) (wk : List (Str × List Str)) (qs : List Addr) (r : Str), Same H H' → H W = none → (∀ q ∈ qs, H q = none) → (∃ kvs, H' W = some (.dK kvs)) → WK H' W wk qs → Wlk ws r wk → r ∈ xs → (∀ x ∈ xs, ¬ x.cps.toList < r.cps.toList) → (∀ x, x ∈ wk.map (·.1) ↔ x ∈ xs) → Q (.ref W) H'
end L2

set_option Elab.async false
set_option linter.all false
set_option maxRecDepth 100000
set_option maxHeartbeats 4000000
namespace L2
open PySem PySem.Spec PyProof.Rows
theorem Wlk.plen {ws : List Way} {r : Str} {wk : List (Str × List Str)} (h : Wlk ws r wk) : ∀ {x : Str} {p : List Str}, (x, p) ∈ wk → p.length ≤ wk.length := by
  induction h with
  | root => intro x p e; have e' : x = r ∧ p = [r] := by simpa using e
            obtain ⟨rfl, rfl⟩ := e'; simp
  | @snoc wk a b q h hy hx ha ih =>
    intro x p e
    rcases List.mem_append.mp e with e | e
    · have := ih e; simp; omega
    · simp only [List.mem_singleton, Prod.mk.injEq] at e
      obtain ⟨rfl, rfl⟩ := e
      have := ih hy
      simp; omega
/-- what holds while the walks are made -/
structure WS (H H2 : Hp) (W : Addr) (xs : List Str) (ws : List Way) (r : Str) (wk : List (Str × List Str)) (qs : List Addr) : Prop where
  same : Same H H2
  dW : H2 W = some (.dK (sK (nbL (wk.map (·.1)) qs)))
  wk_ : WK H2 W wk qs
  wl : Wlk ws r wk
  sub : ∀ x ∈ wk.map (·.1), x ∈ xs
  fr : ∀ q ∈ qs, H q = none
theorem WS.len {H H2 : Hp} {W : Addr} {xs : List Str} {ws : List Way} {r : Str} {wk : List (Str × List Str)} {qs : List Addr} (h : WS H H2 W xs ws r wk qs) : wk.length ≤ xs.length := by
  have := len_le_of_sub h.wl.keys h.sub
  rwa [List.length_map] at this
theorem WS.nlen {H H2 : Hp} {W : Addr} {xs : List Str} {ws : List Way} {r : Str} {wk : List (Str × List Str)} {qs : List Addr} (h : WS H H2 W xs ws r wk qs) : (sK (nbL (wk.map (·.1)) qs)).length ≤ xs.length := by
  rw [sK_len]
  unfold nbL
  rw [List.length_map, List.length_zip, List.length_map]
  have := h.len
  omega
theorem WS.add {H H2 : Hp} {W T q : Addr} {xs : List Str} {ws : List Way} {r x y : Str} {p : List Str} {wk : List (Str × List Str)} {qs : List Addr} (h : WS H H2 W xs ws r wk qs) (hW : H W = none) (hy : (y, p) ∈ wk) (hx : x ∉ wk.map (·.1)) (ha : Adj ws y x) (hxs : x ∈ xs)
    (hT : H2 T = none) (hq : (upd H2 T (.lst [.str x])) q = none) :
    WS H (upd (upd (upd H2 T (.lst [.str x])) q (.lst (p.map V.str ++ [.str x]))) W (.dK (putK (sK (nbL (wk.map (·.1)) qs)) (Sum.inr x : Key) (.ref q)))) W xs ws r (wk ++ [(x, p ++ [x])]) (qs ++ [q]) := by
  have sT := same_upd (o := .lst [.str x]) hT
  have sq := same_upd (o := .lst (p.map V.str ++ [.str x])) hq
  have all := sT.trans sq
  have hqn : H2 q = none := sT.free hq
  have eK : putK (sK (nbL (wk.map (·.1)) qs)) (Sum.inr x : Key) (.ref q) = sK (nbL ((wk ++ [(x, p ++ [x])]).map (·.1)) (qs ++ [q])) := by
    rw [sK_new (by rw [nbL_keys (by rw [h.wk_.len, List.length_map]; exact Nat.le_refl _)]; exact hx)]
    congr 1
    unfold nbL
    rw [List.map_append, List.zip_append (by rw [List.length_map, h.wk_.len]), List.map_append]
    rfl
  have nWq : q ≠ W := fun z => by rw [z, h.dW] at hqn; cases hqn
  refine ⟨fun b o z => ?_, by rw [upd_same, eK], ⟨by simp [h.wk_.len], .inl (by rw [upd_same, eK]), fun i z p' c e1 e2 => ?_⟩, .snoc h.wl hy hx ha, fun z hz => ?_, fun c hc => ?_⟩
  · rw [upd_ne (ne_of_none z hW)]
    exact all _ _ (h.same _ _ z)
  · by_cases hi : i < wk.length
    · rw [List.getElem?_append_left hi] at e1
      rw [List.getElem?_append_left (by rw [h.wk_.len]; exact hi)] at e2
      have hc := h.wk_.at_ i z p' c e1 e2
      rw [upd_ne (ne_of hc h.dW (by intro z; cases z))]
      exact all _ _ hc
    · rw [List.getElem?_append_right (by omega)] at e1
      rw [List.getElem?_append_right (by rw [h.wk_.len]; omega)] at e2
      have i0 : i - wk.length = 0 := by
        have := (List.getElem?_eq_some_iff.mp e1).1
        simp at this
        omega
      rw [h.wk_.len, i0] at e2
      rw [i0] at e1
      simp only [List.getElem?_cons_zero, Option.some.injEq, Prod.mk.injEq] at e1 e2
      obtain ⟨rfl, rfl⟩ := e1
      subst e2
      rw [upd_ne nWq, upd_same, List.map_append]
      rfl
  · rw [List.map_append] at hz
    rcases List.mem_append.mp hz with hz | hz
    · exact h.sub z hz
    · have : z = x := by simpa using hz
      rw [this]; exact hxs
  · rcases List.mem_append.mp hc with hc | hc
    · exact h.fr c hc
    · have : c = q := by simpa using hc
      rw [this]; exact h.same.free hqn
/-- both ends of each way, or none -/
def ClsW (ws : List Way) (wk : List (Str × List Str)) : Prop := ∀ u ∈ ws, u.1 ∈ wk.map (·.1) ↔ u.2.1 ∈ wk.map (·.1)
theorem key_mem {wk : List (Str × List Str)} {x : Str} (h : x ∈ wk.map (·.1)) : ∃ p, (x, p) ∈ wk := by
  obtain ⟨⟨y, p⟩, h1, h2⟩ := List.mem_map.mp h
  have e : y = x := h2
  subst e
  exact ⟨p, h1⟩
end L2

set_option Elab.async false
set_option linter.all false
set_option maxRecDepth 100000
set_option maxHeartbeats 4000000
namespace L2
open PySem PySem.Spec PyProof.Rows
theorem call_lenK (K : PySem.W.Frag) {X : Cx} (h : X.K = K) : CallR X (.builtin "len") (fun xs H Q => ∃ p ys, xs = [.ref p] ∧ (SqL K H p ys ∨ SqT K H p ys) ∧ Q (.int ys.length) H) := by subst h; exact call_len_seq
theorem atI_m2 {α : Type} (l : List α) (a b : α) : atI (l ++ [a, b]) (-2) = some a := by
  have hl : (l ++ [a, b]).length = l.length + 2 := by simp
  have e : ixN (l ++ [a, b]).length (-2) = some l.length := by
    unfold ixN
    rw [hl, if_neg (by decide), if_pos (by omega)]
    congr 1
    omega
  unfold atI
  rw [e]
  show (l ++ [a, b])[l.length]? = some a
  simp
theorem last_split {p : List Str} {x : Str} (h : p.getLast? = some x) : (p = [x] ∧ ahead p = none) ∨ ∃ q y, p = q ++ [y, x] ∧ ahead p = some y := by
  have hp : p ≠ [] := by rintro rfl; cases h
  have e : p = p.dropLast ++ [x] := by
    have := List.dropLast_concat_getLast hp
    rw [List.getLast?_eq_some_getLast hp] at h
    rw [Option.some.inj h] at this
    exact this.symm
  by_cases hq : p.dropLast = []
  · left
    rw [hq] at e
    refine ⟨e, ?_⟩
    unfold ahead
    rw [hq]; rfl
  · right
    have e2 := List.dropLast_concat_getLast hq
    refine ⟨p.dropLast.dropLast, p.dropLast.getLast hq, ?_, ?_⟩
    · rw [show p.dropLast.dropLast ++ [p.dropLast.getLast hq, x] = (p.dropLast.dropLast ++ [p.dropLast.getLast hq]) ++ [x] by simp, e2]
      exact e
    · unfold ahead
      exact List.getLast?_eq_some_getLast hq
theorem above_at {p : List Str} {x : Str} (h : p.getLast? = some x) : atI ([V.non] ++ p.map V.str) (-2) = some (ov (ahead p)) := by
  rcases last_split h with ⟨e, ea⟩ | ⟨q, y, e, ea⟩
  · rw [ea, e]
    exact atI_m2 [] V.non (V.str x)
  · rw [ea, e, List.map_append]
    exact atI_m2 ([V.non] ++ q.map V.str) (V.str y) (V.str x)
theorem next_at {p : List Str} {x : Str} (h : p.getLast? = some x) (hl : 1 < p.length) : ∃ y, ahead p = some y ∧ atI (p.map V.str) (-2) = some (.str y) := by
  rcases last_split h with ⟨e, ea⟩ | ⟨q, y, e, ea⟩
  · rw [e] at hl; simp at hl
  · refine ⟨y, ea, ?_⟩
    rw [e, List.map_append]
    exact atI_m2 (q.map V.str) (V.str y) (V.str x)
theorem next_none {p : List Str} {x : Str} (h : p.getLast? = some x) (hl : ¬ 1 < p.length) : ahead p = none := by
  rcases last_split h with ⟨e, ea⟩ | ⟨q, y, e, ea⟩
  · exact ea
  · rw [e] at hl; simp at hl
theorem Adj.of_iff {ws ws' : List Way} {r : Str} {wk : List (Str × List Str)} (h : Wlk ws r wk) (ha : ∀ x y, Adj ws' x y ↔ Adj ws x y) : Wlk ws' r wk := by
  induction h with
  | root => exact .root
  | snoc h1 h2 h3 h4 ih => exact .snoc ih h2 h3 ((ha _ _).mpr h4)
/-! ### what is told is what is due -/
section
variable {ws : List Way} {r : Str} {bs : List (Str × Option Str)} {wk : List (Str × List Str)} {ps : List Str}
structure Both (ws : List Way) (r : Str) (ps : List Str) (bs : List (Str × Option Str)) (wk : List (Str × List Str)) : Prop where
  par : Par ws r bs
  wl : Wlk ws r wk
  fb : ∀ x, x ∈ bs.map (·.1) ↔ x ∈ ps
  fw : ∀ x, x ∈ wk.map (·.1) ↔ x ∈ ps
  nd : ps.Nodup
  tree : ws.length + 1 = ps.length
theorem Both.bl (h : Both ws r ps bs wk) : bs.length = ps.length := by
  have := (perm_of_mem h.par.nodup h.nd h.fb).length_eq
  rwa [List.length_map] at this
theorem Both.wlen (h : Both ws r ps bs wk) : wk.length = ps.length := by
  have := (perm_of_mem h.wl.keys h.nd h.fw).length_eq
  rwa [List.length_map] at this
theorem Both.to (h : Both ws r ps bs wk) {x : Str} {p : List Str} (hx : (x, p) ∈ wk) : (x, ahead p) ∈ bs := by
  refine h.wl.par.sub h.par (by rw [h.bl, h.tree]; exact Nat.le_refl _) (fun z hz => ?_) _ (List.mem_map.mpr ⟨(x, p), hx, rfl⟩)
  rw [List.map_map] at hz
  exact (h.fb z).mpr ((h.fw z).mp hz)
theorem Both.from (h : Both ws r ps bs wk) {x : Str} {o : Option Str} (hx : (x, o) ∈ bs) : ∃ p, (x, p) ∈ wk ∧ o = ahead p := by
  have h1 : x ∈ wk.map (·.1) := (h.fw x).mpr ((h.fb x).mp (List.mem_map.mpr ⟨_, hx, rfl⟩))
  obtain ⟨p, hp⟩ := key_mem h1
  exact ⟨p, hp, h.par.uniq hx (h.to hp)⟩
theorem Both.under (h : Both ws r ps bs wk) {a z : Str} (ha : a ∈ ps) : Und bs a z ↔ ∃ p, (z, p) ∈ wk ∧ a ∈ p := by
  constructor
  · intro u
    induction u with
    | self =>
      obtain ⟨p, hp⟩ := key_mem ((h.fw a).mpr ha)
      exact ⟨p, hp, List.mem_of_getLast? (h.wl.last hp)⟩
    | @step x y h1 h2 ih =>
      obtain ⟨q, hq, hm⟩ := ih
      obtain ⟨p, hp, e⟩ := h.from h1
      refine ⟨p, hp, ?_⟩
      rcases h.wl.step hp with ⟨rfl, rfl⟩ | ⟨y', q', hq', e1, e2⟩
      · cases e
      · rw [e2] at e
        cases e
        have := val_uniq h.wl.keys hq hq'
        subst this
        rw [e1]
        exact List.mem_append_left _ hm
  · rintro ⟨p, hp, hm⟩
    have key : ∀ {wk' : List (Str × List Str)}, Wlk ws r wk' → (∀ e ∈ wk', e ∈ wk) → ∀ z p, (z, p) ∈ wk' → a ∈ p → Und bs a z := by
      intro wk' hw
      induction hw with
      | root =>
        intro _ z p hz ham
        have e : z = r ∧ p = [r] := by simpa using hz
        obtain ⟨rfl, rfl⟩ := e
        have : a = z := by simpa using ham
        rw [this]; exact .self
      | @snoc wk' x y q h1 hy hx hadj ih =>
        intro sub z p hz ham
        rcases List.mem_append.mp hz with hz | hz
        · exact ih (fun e he => sub e (List.mem_append_left _ he)) z p hz ham
        · simp only [List.mem_singleton, Prod.mk.injEq] at hz
          obtain ⟨rfl, rfl⟩ := hz
          rcases List.mem_append.mp ham with ham | ham
          · have hb := h.to (sub (z, q ++ [z]) (List.mem_append_right _ (by simp)))
            rw [ahead_snoc, h1.last hy] at hb
            exact .step hb (ih (fun e he => sub e (List.mem_append_left _ he)) y q hy ham)
          · have : a = z := by simpa using ham
            rw [this]; exact .self
    exact key h.wl (fun e he => he) z p hp hm
end
theorem nodup_map_filter {α : Type} {l : List (Str × α)} (h : (l.map (·.1)).Nodup) (f : Str × α → Bool) : ((l.filter f).map (·.1)).Nodup := by
  have s : List.Sublist ((l.filter f).map (·.1)) (l.map (·.1)) := List.Sublist.map _ List.filter_sublist
  exact s.nodup h
/-- the promise of the law's own judge of a place -/
def spRight (K : PySem.W.Frag) : Sp := fun vs H Q _ => ∃ (q W : Addr) (x r : Str) (ps : List Str) (ws : List Way) (wk : List (Str × List Str)) (qs : List Addr), vs = [.ref q, .ref W, .str x] ∧ WebOk H q ps ws r ∧ WK H W wk qs ∧ Wlk ws r wk ∧ (∀ z, z ∈ wk.map (·.1) ↔ z ∈ ps) ∧
  ws.length + 1 = ps.length ∧ sortedS ps = true ∧ (∀ z ∈ ps, nameB z = true) ∧ x ∈ ps ∧ ∀ (H' : Hp), Keep W H H' → WK H' W wk qs → Q (.bl true) H'
theorem WK.keep {H H' : Hp} {W : Addr} {wk : List (Str × List Str)} {qs : List Addr} (h : WK H W wk qs) (s : Same H H') : WK H' W wk qs := by
  refine ⟨h.len, ?_, fun i x p q e1 e2 => s _ _ (h.at_ i x p q e1 e2)⟩
  rcases h.top with t | ⟨o, t⟩
  · exact .inl (s _ _ t)
  · exact .inr ⟨o, s _ _ t⟩
theorem WK.froze {H H' : Hp} {W : Addr} {wk : List (Str × List Str)} {qs : List Addr} {o : Obj} (h : WK H W wk qs) (f : Frozen H W (sK (nbL (wk.map (·.1)) qs)) o H') : WK H' W wk qs := by
  refine ⟨h.len, .inr ⟨o, f.at⟩, fun i x p q e1 e2 => ?_⟩
  have e := h.at_ i x p q e1 e2
  have : q ≠ W := by
    rintro rfl
    rcases f with ⟨z, _⟩ | ⟨z, _⟩ <;> (rw [e] at z; cases z)
  rw [f.ne this]; exact e
end L2

set_option Elab.async false
set_option linter.all false
set_option maxRecDepth 100000
set_option maxHeartbeats 4000000
namespace L2
open PySem PySem.Spec PyProof.Rows
/-! ### a known dict is let go: where the frame itself made it known -/
theorem Inv.thaw {X : Cx} {pins : List (Addr × Obj)} {σ : St} {H : Hp} {s : Shared} {a : Addr} {o : Obj} {u : HO} (I : Inv X pins σ H s) (e : H a = some (.frz o u)) (h0 : ∀ ob w, X.H₀ a ≠ some (.frz ob w)) (hu : u ≠ .own a ∧ ∀ xs, u ≠ .tup xs) : Inv X pins σ (upd H a u) s := by
  obtain ⟨ho, hok⟩ := (show ObjOk X.prog X.w H s.heap a (.frz o u) from I.hok a _ e)
  have nn : ∀ b, H b = none → b ≠ a := fun b hb z => by rw [z, e] at hb; cases hb
  have own : ∀ b y, H b = some (.own y) → b ≠ a := fun b y hb z => by rw [z, e] at hb; cases hb
  have tup : ∀ b xs, H b = some (.tup xs) → b ≠ a := fun b xs hb z => by rw [z, e] at hb; cases hb
  refine ⟨I.ok, I.os, I.bare, ⟨I.base.keep, I.base.slot, fun b ob q n hx => ?_, I.base.there, fun b xs q => ?_, fun b ob w q => ?_, fun b ps q => ?_⟩, I.loc, I.cell, ?_, fun x c q => ?_, fun p hp => ?_, fun b w q => ?_, I.len⟩
  · have z := I.base.free b ob q n hx
    rw [upd_ne (nn b z)]; exact z
  · have z := I.base.tups b xs q
    rw [upd_ne (tup b xs z)]; exact z
  · have z := I.base.frzs b ob w q
    by_cases hb : b = a
    · subst hb; exact absurd q (h0 ob w)
    · rw [upd_ne hb]; exact z
  · obtain ⟨more, z⟩ := I.base.tbls b ps q
    refine ⟨more, ?_⟩
    rw [upd_ne (fun hb => by rw [hb, e] at z; cases z)]; exact z
  · rw [upd_ne (nn _ I.free)]; exact I.free
  · rw [upd_ne (nn _ (I.freeC x c q))]; exact I.freeC x c q
  · obtain ⟨z1, z2, z3⟩ := I.pin p hp
    exact ⟨z1, by rw [upd_ne (nn _ z2)]; exact z2, z3⟩
  · by_cases hb : b = a
    · subst hb
      rw [upd_same] at q
      cases q
      exact hok.stay (fun c v _ z => z) (fun c z => by rw [upd_ne (own c _ z)]; exact z) fun c xs z => by rw [upd_ne (tup c xs z)]; exact z
    · rw [upd_ne hb] at q
      exact (I.hok b w q).stay (fun c v _ z => z) (fun c z => by rw [upd_ne (own c _ z)]; exact z) fun c xs z => by rw [upd_ne (tup c xs z)]; exact z
/-- an expression behind which a known dict is let go -/
theorem pe_thaw {X : Cx} {e : Expr} {t : TE} (h : PE X e t) : PE X e (fun σ H Q => t σ H fun x H1 => ∃ a o kvs, H1 a = some (.frz o (.dK kvs)) ∧ (∀ ob w, X.H₀ a ≠ some (.frz ob w)) ∧ Q x (upd H1 a (.dK kvs))) := by
  intro pins s σ H Q I q
  refine thn (h pins s σ H _ I q) fun v s1 ⟨x, H1, I1, r1, a, o, kvs, e1, h0, q1⟩ => ?_
  exact ⟨x, _, I1.thaw e1 h0 ⟨(by intro z; cases z), (by intro xs z; cases z)⟩, r1, q1⟩
/-! ### tuples of two compared -/
def LtAt (A : Around) (s : Shared) (x y : Value) (b : Bool) : Prop := ∀ (prog : Program) (w : World) (E Q : Value → Shared → Prop), Q (.bool b) s → wpAny (model prog w) A (richCompare .Lt x y) Q E s
theorem LtAt.int (A : Around) (s : Shared) (a : Int) (t : Tok) (c : Int) (u : Tok) : LtAt A s (.int a t) (.int c u) (decide (a < c)) := fun prog w E Q h =>
  (PyProof.Rows.lt_int h : wpAny (model prog w) A (compareOp .Lt (.int a t) (.int c u)) Q E s)
theorem LtAt.str (A : Around) (s : Shared) (a : Str) (t : Tok) (c : Str) (u : Tok) : LtAt A s (.str a t) (.str c u) (decide (a.cps.toList < c.cps.toList)) := fun prog w E Q h =>
  (PySem.P.lt_str h : wpAny (model prog w) A (compareOp .Lt (.str a t) (.str c u)) Q E s)
section
open PySem.SeqAt
open PySem.AutoSeq1 (wpAny_loadPart')
open PySem.MeetsSeq PySem.MeetsSeq2 PySem.MeetsSeq3
theorem tuple_lt2 (l b : Addr) (x1 x2 y1 y2 : Value) (n n2 : Nat) (dd dd2 : Option Addr) (sl sl2 : Array (Option Value)) (e1 b1 e2 b2 : Bool) :
    Meets (Builtin.«tuple.__lt__» ⟨[.ref l, .ref b], []⟩)
      (fun A R s => s.heap.get? l = some { cls := .type "tuple", dict := dd, data := .seq #[x1, x2] n, slots := sl } ∧ s.heap.get? b = some { cls := .type "tuple", dict := dd2, data := .seq #[y1, y2] n2, slots := sl2 } ∧
        EqAt A.in1 s x1 y1 e1 ∧ (e1 = false → LtAt A.in1 s x1 y1 b1) ∧ (e1 = true → EqAt A.in1 s x2 y2 e2 ∧ (e2 = false → LtAt A.in1 s x2 y2 b2)) ∧
        R (.ok (.ret (.bool (if e1 = true then (if e2 = true then false else b2) else b1)))) s) :=
  .of_wp fun prog w A R s h => by
    obtain ⟨hp, g, d, tk, os⟩ := s; obtain ⟨hl, hb, he1, hl1, h2, h⟩ := h
    have f2 := AutoSeq1.sub_tuple_tuple
    wp_walk using wpAny_loadPart' hl, wpAny_loadPart' hb, wpAny_forIn_list _ (fun rest b s' => b.1 = none ∧ s' = ⟨hp, g, d, tk, os⟩ ∧ (rest = [(x1, y1), (x2, y2)] ∨ (rest = [(x2, y2)] ∧ e1 = true) ∨ (rest = [] ∧ e1 = true ∧ e2 = true))) _
    case turn =>
      rintro ⟨y, x⟩ rest b s' ⟨hb', rfl, hz | ⟨hz, h1⟩ | ⟨hz, _⟩⟩
      · cases hz
        refine wpAny_bind (he1 prog w _ _ ?_)
        cases ee : e1 with
        | true =>
          wp_walk
          exact ⟨rfl, rfl, .inr (.inl ⟨rfl, rfl⟩)⟩
        | false =>
          rw [ee, if_neg Bool.false_ne_true] at h
          have hri := hl1 ee prog w
          wp_walk using hri
          exact ⟨_, rfl, by simpa using h⟩
      · cases hz
        obtain ⟨he2, hl2⟩ := h2 h1
        rw [if_pos h1] at h
        refine wpAny_bind (he2 prog w _ _ ?_)
        cases ee : e2 with
        | true =>
          wp_walk
          exact ⟨rfl, rfl, .inr (.inr ⟨rfl, h1, rfl⟩)⟩
        | false =>
          rw [ee, if_neg Bool.false_ne_true] at h
          have hri := hl2 ee prog w
          wp_walk using hri
          exact ⟨_, rfl, by simpa using h⟩
      · cases hz
    case fin =>
      rintro ⟨b1', b2'⟩ s' ⟨hb', rfl, hz | ⟨hz, h1⟩ | ⟨hz, h1, h2'⟩⟩
      · cases hz
      · cases hz
      · simp only at hb'
        subst hb'
        rw [if_pos h1, if_pos h2'] at h
        wp_walk
        exact ⟨_, rfl, by simpa [Builtin.Tuple.tupleCompareSizes] using h⟩
    case h =>
      exact ⟨rfl, rfl, .inl rfl⟩
end
theorem LtAt.tup2 {A : Around} {s : Shared} {l b : Addr} {x1 x2 y1 y2 : Value} {e1 b1 e2 b2 : Bool} (hl : IsTup s.heap l #[x1, x2]) (hb : IsTup s.heap b #[y1, y2]) (hu : A.units < cLine) (h1 : SeqAt.EqAt A.in1 s x1 y1 e1) (l1 : e1 = false → LtAt A.in1 s x1 y1 b1)
    (h2 : e1 = true → SeqAt.EqAt A.in1 s x2 y2 e2 ∧ (e2 = false → LtAt A.in1 s x2 y2 b2)) : LtAt A s (.ref l) (.ref b) (if e1 = true then (if e2 = true then false else b2) else b1) := fun prog w E Q h => by
  obtain ⟨⟨cls, dd, data, sl⟩, ho, hc, n, hd⟩ := id hl
  obtain ⟨⟨cls2, dd2, data2, sl2⟩, ho2, hc2, n2, hd2⟩ := id hb
  simp only at hc hd hc2 hd2
  subst hc hd hc2 hd2
  exact richCompare_meets_room (op := .Lt) ⟨_, ho, rfl⟩ ⟨_, ho2, rfl⟩ PySem.F.slot_tuple_lt PySem.F.entry_tuple_lt (PySem.F.args_tuple_lt_2 _ _) (tuple_lt2 l b x1 x2 y1 y2 n n2 dd dd2 sl sl2 e1 b1 e2 b2)
    ⟨ho, ho2, h1, l1, h2, show Value.bool _ ≠ Value.notImplemented ∧ Q (.bool _) s from ⟨(fun x => nomatch x), h⟩⟩ hu
/-- (d, n) < (d', n') -/
def ltP (p q : Int × Str) : Bool := if (p.1 == q.1) = true then (if (p.2 == q.2) = true then false else decide (p.2.cps.toList < q.2.cps.toList)) else decide (p.1 < q.1)
/-- a pair (int, text) as it lies in the heap -/
def PairAt (h : Heap) (v : Value) (p : Int × Str) : Prop := ∃ a t u, v = .ref a ∧ IsTup h a #[.int p.1 t, .str p.2 u]
theorem PairAt.keep {h h' : Heap} {v : Value} {p : Int × Str} (x : PairAt h v p) (k : ∀ b o, h.get? b = some o → h'.get? b = some o) : PairAt h' v p := by
  obtain ⟨a, t, u, rfl, o, ho, r⟩ := x
  exact ⟨a, t, u, rfl, o, k _ _ ho, r⟩
theorem lt_pair {A : Around} {s : Shared} {v w : Value} {p q : Int × Str} (hv : PairAt s.heap v p) (hw : PairAt s.heap w q) (hu : A.units < cLine) : LtAt A s v w (ltP p q) := by
  obtain ⟨a, t, u, rfl, hl⟩ := hv
  obtain ⟨b, t', u', rfl, hb⟩ := hw
  exact LtAt.tup2 hl hb hu (SeqAt.EqAt.int_int _ _ _ _) (fun _ => LtAt.int _ _ _ _ _ _) fun _ => ⟨SeqAt.EqAt.str_str _ _ _ _, fun _ => LtAt.str _ _ _ _ _ _⟩
end L2

set_option Elab.async false
set_option linter.all false
set_option maxRecDepth 100000
set_option maxHeartbeats 4000000
namespace L2
open PySem PySem.Spec PyProof.Rows
theorem eq_pair {A : Around} {s : Shared} {v w : Value} {p q : Int × Str} (hv : PairAt s.heap v p) (hw : PairAt s.heap w q) (hu : A.units < cLine) : SeqAt.EqAt A s v w (decide (p = q)) := by
  obtain ⟨a, t, u, rfl, hl⟩ := hv
  obtain ⟨b, t', u', rfl, hb⟩ := hw
  by_cases hab : a = b
  · subst hab
    have e : p = q := by
      obtain ⟨o, ho, hc, n, hd⟩ := hl
      obtain ⟨o', ho', hc', n', hd'⟩ := hb
      rw [ho] at ho'
      cases ho'
      rw [hd] at hd'
      injection hd' with e1 e2
      have e3 := congrArg Array.toList e1
      simp only [List.cons.injEq, Value.int.injEq, Value.str.injEq] at e3
      exact Prod.ext e3.1.1 e3.2.1.1
    rw [decide_eq_true e]
    intro prog w E Q h
    unfold eqBool
    refine wpAny_holding ?_
    exact wpAny_ite_split (fun _ => wpAny_bind (wpAny_rule (wpAny_pure h))) (fun hn => absurd (by simp) hn)
  · have key := SeqAt.RcAt.tuples (A := A) (s := s) (e := fun j => if j = 0 then p.1 == q.1 else p.2 == q.2) (show s.heap.IsTuple a #[.int p.1 t, .str p.2 u] from hl) (show s.heap.IsTuple b #[.int q.1 t', .str q.2 u'] from hb) hu (fun j h1 h2 => by
      match j, h1, h2 with
      | 0, _, _ => exact SeqAt.EqAt.int_int _ _ _ _
      | 1, _, _ => exact SeqAt.EqAt.str_str _ _ _ _
      | j + 2, h1, _ => exact absurd (show j + 2 < 2 from h1) (by omega))
    have e : ((List.range (min (#[Value.int p.1 t, .str p.2 u] : Array Value).size (#[Value.int q.1 t', .str q.2 u'] : Array Value).size)).all (fun j => if j = 0 then p.1 == q.1 else p.2 == q.2) && (#[Value.int p.1 t, .str p.2 u] : Array Value).size == (#[Value.int q.1 t', .str q.2 u'] : Array Value).size) = decide (p = q) := by
      show ((List.range 2).all (fun j => if j = 0 then p.1 == q.1 else p.2 == q.2) && (2 == 2)) = decide (p = q)
      have : (List.range 2) = [0, 1] := rfl
      rw [this]
      simp only [List.all_cons, List.all_nil, Bool.and_true, beq_self_eq_true]
      rw [Bool.eq_iff_iff]
      simp [Prod.ext_iff]
    rw [e] at key
    exact SeqAt.EqAt.of_refs hab key
/-- ((d, start), name) as it lies in the heap -/
def KeyAt (h : Heap) (v : Value) (k : (Int × Str) × Str) : Prop := ∃ a l u, v = .ref a ∧ IsTup h a #[.ref l, .str k.2 u] ∧ PairAt h (.ref l) k.1
theorem KeyAt.keep {h h' : Heap} {v : Value} {p : (Int × Str) × Str} (x : KeyAt h v p) (k : ∀ b o, h.get? b = some o → h'.get? b = some o) : KeyAt h' v p := by
  obtain ⟨a, l, u, rfl, ⟨o, ho, r⟩, z⟩ := x
  exact ⟨a, l, u, rfl, ⟨o, k _ _ ho, r⟩, z.keep k⟩
def ltK (p q : (Int × Str) × Str) : Bool := if decide (p.1 = q.1) = true then (if (p.2 == q.2) = true then false else decide (p.2.cps.toList < q.2.cps.toList)) else ltP p.1 q.1
theorem lt_key {A : Around} {s : Shared} {v w : Value} {p q : (Int × Str) × Str} (hv : KeyAt s.heap v p) (hw : KeyAt s.heap w q) (hu : A.units + 1 < cLine) : LtAt A s v w (ltK p q) := by
  obtain ⟨a, l, u, rfl, hl, hp⟩ := hv
  obtain ⟨b, l', u', rfl, hb, hq⟩ := hw
  exact LtAt.tup2 hl hb (by omega) (eq_pair hp hq (by rw [PySem.Around.in1_units]; exact hu)) (fun _ => lt_pair hp hq (by rw [PySem.Around.in1_units]; exact hu)) fun _ => ⟨SeqAt.EqAt.str_str _ _ _ _, fun _ => LtAt.str _ _ _ _ _ _⟩
/-! ### min over things that lie in the heap: g0 is the heap whose objects stay -/
def CmpH (prog : Program) (w : World) (A : Around) (g0 : Heap) (P : Nat → Value → Prop) (bt : Nat → Nat → Bool) : Prop :=
  ∀ i j vi vj (s : Shared) (Q : Value → Shared → Prop) (E : Value → Shared → Prop), (∀ b o, g0.get? b = some o → s.heap.get? b = some o) → P i vi → P j vj → Q (.bool (bt i j)) s → wpAny (model prog w) A (richCompare .Lt vi vj) Q E s
section
variable {prog : Program} {w : World} {A : Around} {R : Result → Shared → Prop} {I : Addr} {fp wr : List Addr} {n : Nat} {P : Nat → Value → Prop} {St : Nat → Heap → Prop} {g0 : Heap}
theorem minH_loop (W : Walks prog w A.in1 I fp wr n P St) (bt : Nat → Nat → Bool) (cm : CmpH prog w A.in1 g0 P bt) (S : Addr) (nS : S ∉ fp) (gw : ∀ b o, g0.get? b = some o → b ∉ wr ∧ b ≠ S) :
    ∀ (m j : Nat) (s : Shared) (bv : Value) (c : Nat), n - (j + 1) = m → j + 1 ≤ n → St (j + 1) s.heap → P (argBest bt j) bv → (∀ b o, g0.get? b = some o → s.heap.get? b = some o) →
    s.heap.get? S = some { cls := .type "list", dict := none, data := .seq #[bv, bv] c, slots := #[] } →
    (∀ v h2 tk, P (argBest bt (n - 1)) v → (∀ b o, b ∉ wr → b ≠ S → s.heap.get? b = some o → h2.get? b = some o) → R (.ok (.ret v)) { s with heap := h2, toks := tk }) →
    codeAny (model prog w) A (.builtin "min.loop" ⟨[.ref I, .none, .ref S], []⟩) R s := by
  have Sw : S ∉ wr := fun z => nS (W.sub _ z)
  have nm : (toString "min" ++ toString ".loop" : String) = "min.loop" := by decide
  intro m
  induction m with
  | zero =>
    intro j s bv c hm hj st pb g1 aS r
    have jn : j + 1 = n := by omega
    refine codeAny_builtin F.entry_min_loop ?_
    rw [Around.under_plainId F.plain_min_loop _]
    refine wpAny_bind (m := seqItems? (.ref S)) (wpAny_seqItems aS rfl ?_)
    refine wpAny_bind (wpAny_tryCatch (W.done s _ _ (jn ▸ st) fun h2 tk k2 => ?_))
    have aS2 := k2 S _ Sw aS
    refine wpAny_bind (m := updateSeq S (fun _ => #[])) ?_
    refine wpAny_updateSeq aS2 rfl (wpAny_bind (wpAny_letGo (wpAny_pure ?_)))
    exact r bv _ tk (by rw [← jn]; exact pb) fun b o bw bS e => (Heap.get?_update_other _ _ (Ne.symm bS)).trans (k2 b o bw e)
  | succ m ih =>
    intro j s bv c hm hj st pb g1 aS r
    have lt : j + 1 < n := by omega
    refine codeAny_builtin F.entry_min_loop ?_
    rw [Around.under_plainId F.plain_min_loop _]
    refine wpAny_bind (m := seqItems? (.ref S)) (wpAny_seqItems aS rfl ?_)
    refine wpAny_bind (wpAny_tryCatch (W.item (j + 1) s _ _ lt st fun v h2 tk pv st2 k2 => ?_))
    have aS2 := k2 S _ Sw aS
    have g2 : ∀ b o, g0.get? b = some o → h2.get? b = some o := fun b o e => k2 b o (gw b o e).1 (g1 b o e)
    show wpAny _ A.in1 (tryCatch (holding [v, v] (richCompare .Lt v bv >>= _)) _ >>= _) _ _ _
    refine wpAny_bind (wpAny_tryCatch (wpAny_holding (wpAny_bind (cm (j + 1) (argBest bt j) v bv _ _ _ g2 pv pb ?_))))
    refine wpAny_bind (wpAny_holding (wpAny_truthy_bool ?_))
    refine wpAny_bind (wpAny_letGo (wpAny_pure ?_))
    cases hb : bt (j + 1) (argBest bt j) with
    | true =>
      simp only [if_true]
      refine wpAny_bind ?_
      refine wpAny_updateSeq aS2 rfl (wpAny_bind (wpAny_letGo ?_))
      rw [nm]
      refine wpAny_pure ⟨plainId_quiet F.plain_min_loop _, ih (j + 1) _ v _ (by omega) lt (W.frame _ _ _ st2 fun b bf o e => ?_) (by simp only [argBest, hb, if_true]; exact pv) (fun b o e => ?_) (Heap.get?_update_self _ aS2 rfl) fun v' h3 tk3 pv' k3 => ?_⟩
      · exact (Heap.get?_update_other _ _ (fun z : S = b => nS (by rw [z]; exact bf))).trans e
      · exact (Heap.get?_update_other _ _ (Ne.symm (gw b o e).2)).trans (g2 b o e)
      · exact r v' h3 tk3 pv' fun b o bw bS e => k3 b o bw bS ((Heap.get?_update_other _ _ (Ne.symm bS)).trans (k2 b o bw e))
    | false =>
      simp only [Bool.false_eq_true, if_false]
      refine wpAny_bind (wpAny_letGo ?_)
      rw [nm]
      refine wpAny_pure ⟨plainId_quiet F.plain_min_loop _, ih (j + 1) _ bv c (by omega) lt st2 (by simp only [argBest, hb, Bool.false_eq_true, if_false]; exact pb) g2 aS2 fun v' h3 tk3 pv' k3 => ?_⟩
      exact r v' h3 tk3 pv' fun b o bw bS e => k3 b o bw bS (k2 b o bw e)
theorem minH_first (W : Walks prog w A.in1 I fp wr n P St) (bt : Nat → Nat → Bool) (cm : CmpH prog w A.in1 g0 P bt) (S : Addr) (nS : S ∉ fp) (gw : ∀ b o, g0.get? b = some o → b ∉ wr ∧ b ≠ S) (hn : 0 < n) {s : Shared} {c : Nat} (st : St 0 s.heap)
    (g1 : ∀ b o, g0.get? b = some o → s.heap.get? b = some o) (aS : s.heap.get? S = some { cls := .type "list", dict := none, data := .seq #[] c, slots := #[] })
    (r : ∀ v h2 tk, P (argBest bt (n - 1)) v → (∀ b o, b ∉ wr → b ≠ S → s.heap.get? b = some o → h2.get? b = some o) → R (.ok (.ret v)) { s with heap := h2, toks := tk }) :
    codeAny (model prog w) A (.builtin "min.loop" ⟨[.ref I, .none, .ref S], []⟩) R s := by
  have Sw : S ∉ wr := fun z => nS (W.sub _ z)
  have nm : (toString "min" ++ toString ".loop" : String) = "min.loop" := by decide
  refine codeAny_builtin F.entry_min_loop ?_
  rw [Around.under_plainId F.plain_min_loop _]
  refine wpAny_bind (m := seqItems? (.ref S)) (wpAny_seqItems aS rfl ?_)
  refine wpAny_bind (wpAny_tryCatch (W.item 0 s _ _ hn st fun v h2 tk pv st2 k2 => ?_))
  have aS2 := k2 S _ Sw aS
  refine wpAny_bind (m := updateSeq S (fun _ => #[v, v])) ?_
  refine wpAny_updateSeq aS2 rfl ?_
  rw [nm]
  refine wpAny_pure ⟨plainId_quiet F.plain_min_loop _, minH_loop W bt cm S nS gw _ 0 _ v _ rfl hn (W.frame _ _ _ st2 fun b bf o e => ?_) pv (fun b o e => ?_) (Heap.get?_update_self _ aS2 rfl) fun v' h3 tk3 pv' k3 => ?_⟩
  · exact (Heap.get?_update_other _ _ (fun z : S = b => nS (by rw [z]; exact bf))).trans e
  · exact (Heap.get?_update_other _ _ (Ne.symm (gw b o e).2)).trans (k2 b o (gw b o e).1 (g1 b o e))
  · exact r v' h3 tk3 pv' fun b o bw bS e => k3 b o bw bS ((Heap.get?_update_other _ _ (Ne.symm bS)).trans (k2 b o bw e))
end
section
variable {prog : Program} {w : World} {A : Around} {E : Value → Shared → Prop} {s : Shared}
/-- min(a list of things of the heap), one at least -/
theorem min_listH {l : Addr} {vs : List Value} {bt : Nat → Nat → Bool} {Q : Value → Shared → Prop} (hh : A.handled = none) (hl : s.heap.IsList l vs.toArray) (hn : 0 < vs.length) (cm : CmpH prog w A.in1 s.heap (fun i v => vs[i]? = some v) bt)
    (h : ∀ v h2 tk, vs[argBest bt (vs.length - 1)]? = some v → (∀ b o, s.heap.get? b = some o → h2.get? b = some o) → Q v { s with heap := h2, toks := tk }) : wpAny (model prog w) A (call (.builtin "min") [.ref l]) Q E s := by
  have nm : (toString "min" ++ toString ".loop" : String) = "min.loop" := by decide
  have hlt : l < s.heap.objs.size := by obtain ⟨o, ho, _⟩ := id hl; exact Heap.lt_size ho
  refine call_function_tree F.kind_min F.plain_min F.entry_min (F.args_min1 _) ?_
  refine wpAny_bind (wpAny_of_eq (show Builtin.Builtins.bindParams "min" ["key", "default"] 0 ⟨[], []⟩ = pure [none, none] from rfl) ?_)
  refine wpAny_bind (wpAny_pure ?_)
  refine wpAny_bind (wpAny_pyIter_list hl ?_)
  refine wpAny_bind (wpAny_newObj_type ?_)
  rw [nm]
  have sz : (s.heap.push { cls := .type "list_iterator", data := .fields #[.ref l, .int 0 0] }).objs.size = s.heap.objs.size + 1 := Heap.size_push ..
  have W := (Walks.list (prog := prog) (w := w) (A := A.in1) hh s.heap.objs.size l (Nat.ne_of_lt hlt) vs.toArray).weaken (P' := fun i v => vs[i]? = some v) (fun i v e => by simpa using e)
  refine wpAny_pure ⟨plainId_quiet F.plain_min_loop _, minH_first (g0 := s.heap) W bt cm (s.heap.push { cls := .type "list_iterator", data := .fields #[.ref l, .int 0 0] }).objs.size (fun hm => ?_) (fun b o e => ⟨fun hm => ?_, fun z => ?_⟩) (by simpa using hn) ?_ (fun b o e => Heap.get?_push_of_some _ (Heap.get?_push_of_some _ e)) (Heap.get?_push_size _ rfl) fun v h2 tk pv k2 => ?_⟩
  · rw [sz] at hm
    rcases List.mem_cons.mp hm with z | hm
    · exact absurd z (Nat.succ_ne_self _)
    · rcases List.mem_cons.mp hm with z | hm
      · exact absurd z (Nat.ne_of_gt (Nat.lt_succ_of_lt hlt))
      · cases hm
  · have := Heap.lt_size e
    rw [List.mem_singleton.mp hm] at this
    exact absurd this (Nat.lt_irrefl _)
  · have := Heap.lt_size e
    rw [z, sz] at this
    exact absurd this (Nat.not_lt.mpr (Nat.le_succ _))
  · exact ⟨⟨_, Heap.get?_push_of_some _ (Heap.get?_push_size _ rfl), rfl, rfl⟩, (hl.push _).push _⟩
  · refine h v h2 tk (by simpa using pv) fun b o e => k2 b o (fun hm => ?_) (fun z => ?_) (Heap.get?_push_of_some _ (Heap.get?_push_of_some _ e))
    · have := Heap.lt_size e
      rw [List.mem_singleton.mp hm] at this
      exact absurd this (Nat.lt_irrefl _)
    · have := Heap.lt_size e
      rw [z, sz] at this
      exact absurd this (Nat.not_lt.mpr (Nat.le_succ _))
end
end L2

set_option Elab.async false
set_option linter.all false
set_option maxRecDepth 100000
set_option maxHeartbeats 4000000
namespace L2
open PySem PySem.Spec PyProof.Rows
section
variable {prog : Program} {w : World} {A : Around} {E : Value → Shared → Prop} {s : Shared}
theorem min_twoH {a b : Value} {bt : Nat → Nat → Bool} {Q : Value → Shared → Prop} (hh : A.handled = none) (cm : CmpH prog w A.in1 s.heap (fun i v => [a, b][i]? = some v) bt)
    (h : ∀ v h2 tk, [a, b][argBest bt 1]? = some v → (∀ c o, s.heap.get? c = some o → h2.get? c = some o) → Q v { s with heap := h2, toks := tk }) : wpAny (model prog w) A (call (.builtin "min") [a, b]) Q E s := by
  have nm : (toString "min" ++ toString ".loop" : String) = "min.loop" := by decide
  have hT : (s.heap.push { cls := .type "tuple", data := .seq #[a, b] }).IsTuple s.heap.objs.size #[a, b] := ⟨_, Heap.get?_push_size _ rfl, rfl, 0, rfl⟩
  refine call_function_tree F.kind_min F.plain_min F.entry_min (F.args_min2 _ _) ?_
  refine wpAny_bind (wpAny_of_eq (show Builtin.Builtins.bindParams "min" ["key", "default"] 0 ⟨[], []⟩ = pure [none, none] from rfl) ?_)
  show wpAny _ A.in1 (newTuple [a, b] >>= _) _ _ s
  refine wpAny_bind (wpAny_newObj_type ?_)
  refine wpAny_bind (wpAny_pyIter_tuple hT ?_)
  refine wpAny_bind (wpAny_newObj_type ?_)
  rw [nm]
  have s1 : (s.heap.push { cls := .type "tuple", data := .seq #[a, b] }).objs.size = s.heap.objs.size + 1 := Heap.size_push ..
  have s2 : ((s.heap.push { cls := .type "tuple", data := .seq #[a, b] }).push { cls := .type "tuple_iterator", data := .fields #[.ref s.heap.objs.size, .int 0 0] }).objs.size = s.heap.objs.size + 2 := by rw [Heap.size_push, s1]
  have W := (Walks.tuple (prog := prog) (w := w) (A := A.in1) hh (s.heap.push { cls := .type "tuple", data := .seq #[a, b] }).objs.size s.heap.objs.size (by rw [s1]; exact Nat.ne_of_lt (Nat.lt_succ_self _)) #[a, b]).weaken (P' := fun i v => [a, b][i]? = some v) (fun i v e => by simpa using e)
  refine wpAny_pure ⟨plainId_quiet F.plain_min_loop _, minH_first (g0 := s.heap) W bt cm ((s.heap.push { cls := .type "tuple", data := .seq #[a, b] }).push { cls := .type "tuple_iterator", data := .fields #[.ref s.heap.objs.size, .int 0 0] }).objs.size (fun hm => ?_) (fun b o e => ⟨fun hm => ?_, fun z => ?_⟩) (by simp) ?_ (fun b o e => Heap.get?_push_of_some _ (Heap.get?_push_of_some _ (Heap.get?_push_of_some _ e))) (Heap.get?_push_size _ rfl) fun v h2 tk pv k2 => ?_⟩
  · rw [s2] at hm
    rcases List.mem_cons.mp hm with z | hm
    · rw [s1] at z; exact absurd z (Nat.ne_of_gt (Nat.lt_succ_self _))
    · rcases List.mem_cons.mp hm with z | hm
      · exact absurd z (Nat.ne_of_gt (Nat.lt_succ_of_lt (Nat.lt_succ_self _)))
      · cases hm
  · have := Heap.lt_size e
    rw [List.mem_singleton.mp hm, s1] at this
    exact absurd this (Nat.not_lt.mpr (Nat.le_succ _))
  · have := Heap.lt_size e
    rw [z, s2] at this
    exact absurd this (Nat.not_lt.mpr (Nat.le_trans (Nat.le_succ _) (Nat.le_succ _)))
  · exact ⟨⟨_, Heap.get?_push_of_some _ (Heap.get?_push_size _ rfl), rfl, rfl⟩, (hT.push _).push _⟩
  · refine h v h2 tk (by simpa using pv) fun b o e => k2 b o (fun hm => ?_) (fun z => ?_) (Heap.get?_push_of_some _ (Heap.get?_push_of_some _ (Heap.get?_push_of_some _ e)))
    · have := Heap.lt_size e
      rw [List.mem_singleton.mp hm, s1] at this
      exact absurd this (Nat.not_lt.mpr (Nat.le_succ _))
    · have := Heap.lt_size e
      rw [z, s2] at this
      exact absurd this (Nat.not_lt.mpr (Nat.le_trans (Nat.le_succ _) (Nat.le_succ _)))
end
theorem argBest_le (bt : Nat → Nat → Bool) (num : Nat → Int) (h1 : ∀ i j, bt i j = true → num i ≤ num j) (h2 : ∀ i j, bt i j = false → num j ≤ num i) : ∀ k, argBest bt k ≤ k ∧ ∀ j, j ≤ k → num (argBest bt k) ≤ num j
  | 0 => ⟨Nat.le_refl _, fun j hj => by
    have : j = 0 := by omega
    subst this; exact Int.le_refl _⟩
  | k + 1 => by
    obtain ⟨a1, a2⟩ := argBest_le bt num h1 h2 k
    simp only [argBest]
    cases hc : bt (k + 1) (argBest bt k) with
    | true =>
      simp only [if_true]
      refine ⟨Nat.le_refl _, fun j hj => ?_⟩
      have := h1 _ _ hc
      by_cases hj' : j ≤ k
      · have := a2 j hj'; omega
      · have : j = k + 1 := by omega
        subst this; exact Int.le_refl _
    | false =>
      simp only [Bool.false_eq_true, if_false]
      refine ⟨Nat.le_succ_of_le a1, fun j hj => ?_⟩
      by_cases hj' : j ≤ k
      · exact a2 j hj'
      · have : j = k + 1 := by omega
        subst this; exact h2 _ _ hc
theorem ltP_le {p q : Int × Str} (h : ltP p q = true) : p.1 ≤ q.1 := by
  unfold ltP at h
  by_cases e : (p.1 == q.1) = true
  · have : p.1 = q.1 := by simpa using e
    omega
  · rw [if_neg e] at h
    have : p.1 < q.1 := by simpa using h
    omega
theorem ltP_ge {p q : Int × Str} (h : ltP p q = false) : q.1 ≤ p.1 := by
  unfold ltP at h
  by_cases e : (p.1 == q.1) = true
  · have : p.1 = q.1 := by simpa using e
    omega
  · rw [if_neg e] at h
    have : ¬ p.1 < q.1 := by simpa using h
    omega
theorem ltK_le {p q : (Int × Str) × Str} (h : ltK p q = true) : p.1.1 ≤ q.1.1 := by
  unfold ltK at h
  by_cases e : decide (p.1 = q.1) = true
  · have : p.1 = q.1 := by simpa using e
    rw [this]; exact Int.le_refl _
  · rw [if_neg e] at h
    exact ltP_le h
theorem ltK_ge {p q : (Int × Str) × Str} (h : ltK p q = false) : q.1.1 ≤ p.1.1 := by
  unfold ltK at h
  by_cases e : decide (p.1 = q.1) = true
  · have : p.1 = q.1 := by simpa using e
    rw [this]; exact Int.le_refl _
  · rw [if_neg e] at h
    exact ltP_ge h
/-- a pair (d, start), a key ((d, start), name) that is tracked -/
def PrH (H : Hp) (v : V) (p : Int × Str) : Prop := ∃ t, v = .ref t ∧ H t = some (.tup [.int p.1, .str p.2])
def KyH (H : Hp) (v : V) (k : (Int × Str) × Str) : Prop := ∃ t t2, v = .ref t ∧ H t = some (.tup [.ref t2, .str k.2]) ∧ PrH H (.ref t2) k.1
theorem PrH.same {H H' : Hp} {v : V} {p : Int × Str} (h : PrH H v p) (s : ∀ b xs, H b = some (.tup xs) → H' b = some (.tup xs)) : PrH H' v p := let ⟨t, e, z⟩ := h; ⟨t, e, s _ _ z⟩
theorem KyH.same {H H' : Hp} {v : V} {p : (Int × Str) × Str} (h : KyH H v p) (s : ∀ b xs, H b = some (.tup xs) → H' b = some (.tup xs)) : KyH H' v p := let ⟨t, t2, e, z, q⟩ := h; ⟨t, t2, e, s _ _ z, q.same s⟩
theorem PrH.at {X : Cx} {pins : List (Addr × Obj)} {σ : St} {H : Hp} {s : Shared} {v : V} {u : Value} {p : Int × Str} (I : Inv X pins σ H s) (r : RelV v u) (h : PrH H v p) : PairAt s.heap u p := by
  obtain ⟨t, rfl, ht⟩ := h
  cases r
  obtain ⟨its, rv, pl, hz⟩ := I.tuple (SqT.of ht)
  cases rv with
  | cons a1 b1 =>
    cases b1 with
    | cons a2 b2 =>
      cases b2
      obtain ⟨t1, rfl⟩ := a1
      obtain ⟨t2, rfl⟩ := a2
      exact ⟨t, t1, t2, rfl, pl⟩
theorem KyH.at {X : Cx} {pins : List (Addr × Obj)} {σ : St} {H : Hp} {s : Shared} {v : V} {u : Value} {k : (Int × Str) × Str} (I : Inv X pins σ H s) (r : RelV v u) (h : KyH H v k) : KeyAt s.heap u k := by
  obtain ⟨t, l, rfl, ht, hp⟩ := h
  cases r
  obtain ⟨its, rv, pl, hz⟩ := I.tuple (SqT.of ht)
  cases rv with
  | cons a1 b1 =>
    cases b1 with
    | cons a2 b2 =>
      cases b2
      cases a1
      obtain ⟨t2, rfl⟩ := a2
      exact ⟨t, l, t2, rfl, pl, hp.at I (show RelV (V.ref l) (Value.ref l) from rfl)⟩
/-- min(a list of keys) -/
theorem call_min_keys {X : Cx} (hc : X.calm = true) (hu : X.A.units + 64 < cLine) : CallR X (.builtin "min") (fun xs H Q => ∃ (a : Addr) (vs : List V) (ks : List ((Int × Str) × Str)), xs = [.ref a] ∧ H a = some (.lst vs) ∧ vs.length = ks.length ∧ ks ≠ [] ∧ (∀ (i : Nat) v k, vs[i]? = some v → ks[i]? = some k → KyH H v k) ∧
    ∀ v k, k ∈ ks → KyH H v k → (∀ k' ∈ ks, k.1.1 ≤ k'.1.1) → Q v H) := by
  intro pins s σ H xs us Q I r h
  obtain ⟨a, vs, ks, rfl, ha, hl, hne, hk, q⟩ := h
  obtain ⟨u, rfl, ru⟩ := vals1 r
  cases ru
  obtain ⟨its, rv, pl, hz⟩ := I.list (SqL.of ha)
  have il : its.length = ks.length := by rw [← rv.length, hl]
  have pos : 0 < ks.length := List.length_pos_iff.mpr hne
  have kat : ∀ (i : Nat) (v : Value), its[i]? = some v → ∃ k, ks[i]? = some k ∧ KeyAt s.heap v k ∧ ∃ x, vs[i]? = some x ∧ RelV x v := fun i v e => by
    have hi : i < its.length := (List.getElem?_eq_some_iff.mp e).1
    have e1 : vs[i]? = some vs[i] := List.getElem?_eq_getElem (by omega)
    have e2 : ks[i]? = some ks[i] := List.getElem?_eq_getElem (by omega)
    obtain ⟨v', e3, r3⟩ := rv.get e1
    rw [e] at e3
    cases e3
    exact ⟨_, e2, (hk i _ _ e1 e2).at I r3, _, e1, r3⟩
  refine min_listH (bt := fun i j => ltK (ks.getD i default) (ks.getD j default)) (I.ok.hd hc) pl.isList (by omega) (fun i j vi vj s' Q' E' g hi hj hQ => ?_) fun v h2 tk hv k2 => ?_
  · obtain ⟨ki, e1, a1, _⟩ := kat i vi hi
    obtain ⟨kj, e2, a2, _⟩ := kat j vj hj
    have d1 : ks.getD i default = ki := by rw [List.getD_eq_getElem?_getD, e1]; rfl
    have d2 : ks.getD j default = kj := by rw [List.getD_eq_getElem?_getD, e2]; rfl
    dsimp only at hQ
    rw [d1, d2] at hQ
    exact lt_key (a1.keep g) (a2.keep g) (by rw [PySem.Around.in1_units]; omega) _ _ _ _ hQ
  · obtain ⟨k, e1, a1, x, e3, r3⟩ := kat _ v hv
    obtain ⟨b1, b2⟩ := argBest_le (fun i j => ltK (ks.getD i default) (ks.getD j default)) (fun i => (ks.getD i default).1.1) (fun _ _ => ltK_le) (fun _ _ => ltK_ge) (its.length - 1)
    refine ⟨x, H, I.kept k2, r3, q x k (List.mem_of_getElem? e1) (hk _ x k e3 e1) fun k' hk' => ?_⟩
    obtain ⟨j, hj, ej⟩ := List.getElem_of_mem hk'
    have := b2 j (by omega)
    have d1 : ks.getD (argBest (fun i j => ltK (ks.getD i default) (ks.getD j default)) (its.length - 1)) default = k := by rw [List.getD_eq_getElem?_getD, e1]; rfl
    have d2 : ks.getD j default = k' := by rw [List.getD_eq_getElem?_getD, List.getElem?_eq_getElem hj, ej]; rfl
    rw [d1, d2] at this
    exact this
/-- min(two pairs) -/
theorem call_min_prs {X : Cx} (hc : X.calm = true) (hu : X.A.units + 64 < cLine) : CallR X (.builtin "min") (fun xs H Q => ∃ (x y : V) (p q : Int × Str), xs = [x, y] ∧ PrH H x p ∧ PrH H y q ∧ ((q.1 ≤ p.1 → Q y H) ∧ (p.1 ≤ q.1 → Q x H))) := by
  intro pins s σ H xs us Q I r h
  obtain ⟨x, y, p, q, rfl, hx, hy, q1, q2⟩ := h
  obtain ⟨u, v, rfl, ru, rv⟩ := vals2 r
  have pu := hx.at I ru
  have pv := hy.at I rv
  refine min_twoH (bt := fun i j => ltP ([p, q].getD i default) ([p, q].getD j default)) (I.ok.hd hc) (fun i j vi vj s' Q' E' g hi hj hQ => ?_) fun z h2 tk hz k2 => ?_
  · have at' : ∀ (i : Nat) (vi : Value), [u, v][i]? = some vi → PairAt s.heap vi ([p, q].getD i default) := fun i vi e => by
      match i, e with
      | 0, e => cases e; exact pu
      | 1, e => cases e; exact pv
      | i + 2, e => cases e
    exact lt_pair ((at' i vi hi).keep g) ((at' j vj hj).keep g) (by rw [PySem.Around.in1_units]; omega) _ _ _ _ hQ
  · have e : argBest (fun i j => ltP ([p, q].getD i default) ([p, q].getD j default)) 1 = if ltP q p = true then 1 else 0 := rfl
    rw [e] at hz
    cases hl : ltP q p with
    | true =>
      rw [hl, if_pos rfl] at hz
      cases hz
      exact ⟨y, H, I.kept k2, rv, q1 (ltP_le hl)⟩
    | false =>
      rw [hl, if_neg Bool.false_ne_true] at hz
      cases hz
      exact ⟨x, H, I.kept k2, ru, q2 (ltP_ge hl)⟩
end L2

set_option Elab.async false
set_option linter.all false
set_option maxRecDepth 100000
set_option maxHeartbeats 4000000
namespace L2
open PySem PySem.Spec PyProof.Rows
/-! ### pairs (far, name) in order -/
def leP (p q : Int × Str) : Prop := p.1 < q.1 ∨ (p.1 = q.1 ∧ ¬ q.2.cps.toList < p.2.cps.toList)
theorem leP.refl (p : Int × Str) : leP p p := .inr ⟨rfl, List.lt_irrefl _⟩
theorem leP.trans {p q r : Int × Str} (h1 : leP p q) (h2 : leP q r) : leP p r := by
  rcases h1 with a | ⟨a, b⟩ <;> rcases h2 with c | ⟨c, d⟩
  · exact .inl (by omega)
  · exact .inl (by omega)
  · exact .inl (by omega)
  · exact .inr ⟨by omega, List.not_lt.mpr (List.le_trans (List.not_lt.mp b) (List.not_lt.mp d))⟩
theorem leP.anti {p q : Int × Str} (h1 : leP p q) (h2 : leP q p) : p = q := by
  rcases h1 with a | ⟨a, b⟩ <;> rcases h2 with c | ⟨c, d⟩
  · omega
  · omega
  · omega
  · exact Prod.ext a (str_anti b d)
theorem leP.add {d d' l : Int} {s s' : Str} (h : leP (d, s) (d', s')) : leP (d + l, s) (d' + l, s') := by
  rcases h with a | ⟨a, b⟩
  · have a' : d < d' := a
    exact .inl (show d + l < d' + l by omega)
  · have a' : d = d' := a
    exact .inr ⟨show d + l = d' + l by omega, b⟩
theorem leP.up {d d' : Int} {s : Str} (h : d ≤ d') : leP (d, s) (d', s) := by
  by_cases e : d = d'
  · exact .inr ⟨e, List.lt_irrefl _⟩
  · exact .inl (show d < d' by omega)
theorem leP.fst {p q : Int × Str} (h : leP p q) : p.1 ≤ q.1 := by
  rcases h with a | ⟨a, _⟩ <;> omega
theorem ltP_leP {p q : Int × Str} (h : ltP p q = true) : leP p q := by
  unfold ltP at h
  by_cases e : (p.1 == q.1) = true
  · have e' : p.1 = q.1 := by simpa using e
    rw [if_pos e] at h
    by_cases e2 : (p.2 == q.2) = true
    · rw [if_pos e2] at h; cases h
    · rw [if_neg e2] at h
      exact .inr ⟨e', List.lt_asymm (by simpa using h)⟩
  · rw [if_neg e] at h
    exact .inl (by simpa using h)
theorem ltP_geP {p q : Int × Str} (h : ltP p q = false) : leP q p := by
  unfold ltP at h
  by_cases e : (p.1 == q.1) = true
  · have e' : p.1 = q.1 := by simpa using e
    rw [if_pos e] at h
    by_cases e2 : (p.2 == q.2) = true
    · have e2' : p.2 = q.2 := by simpa using e2
      exact .inr ⟨e'.symm, by rw [e2']; exact List.lt_irrefl _⟩
    · rw [if_neg e2] at h
      exact .inr ⟨e'.symm, by simpa using h⟩
  · rw [if_neg e] at h
    have e' : ¬ p.1 = q.1 := by simpa using e
    have : ¬ p.1 < q.1 := by simpa using h
    exact .inl (by omega)
theorem ltK_leP {p q : (Int × Str) × Str} (h : ltK p q = true) : leP p.1 q.1 := by
  unfold ltK at h
  by_cases e : decide (p.1 = q.1) = true
  · have : p.1 = q.1 := by simpa using e
    rw [this]; exact leP.refl _
  · rw [if_neg e] at h
    exact ltP_leP h
theorem ltK_geP {p q : (Int × Str) × Str} (h : ltK p q = false) : leP q.1 p.1 := by
  unfold ltK at h
  by_cases e : decide (p.1 = q.1) = true
  · have : p.1 = q.1 := by simpa using e
    rw [this]; exact leP.refl _
  · rw [if_neg e] at h
    exact ltP_geP h
theorem argBest_leP (bt : Nat → Nat → Bool) (num : Nat → Int × Str) (h1 : ∀ i j, bt i j = true → leP (num i) (num j)) (h2 : ∀ i j, bt i j = false → leP (num j) (num i)) : ∀ k, argBest bt k ≤ k ∧ ∀ j, j ≤ k → leP (num (argBest bt k)) (num j)
  | 0 => ⟨Nat.le_refl _, fun j hj => by
    have : j = 0 := by omega
    subst this; exact leP.refl _⟩
  | k + 1 => by
    obtain ⟨a1, a2⟩ := argBest_leP bt num h1 h2 k
    simp only [argBest]
    cases hc : bt (k + 1) (argBest bt k) with
    | true =>
      simp only [if_true]
      refine ⟨Nat.le_refl _, fun j hj => ?_⟩
      by_cases hj' : j ≤ k
      · exact (h1 _ _ hc).trans (a2 j hj')
      · have : j = k + 1 := by omega
        subst this; exact leP.refl _
    | false =>
      simp only [Bool.false_eq_true, if_false]
      refine ⟨Nat.le_succ_of_le a1, fun j hj => ?_⟩
      by_cases hj' : j ≤ k
      · exact a2 j hj'
      · have : j = k + 1 := by omega
        subst this; exact h2 _ _ hc
/-- min(a list of keys): the least pair -/
theorem call_min_keysP {X : Cx} (hc : X.calm = true) (hu : X.A.units + 64 < cLine) : CallR X (.builtin "min") (fun xs H Q => ∃ (a : Addr) (vs : List V) (ks : List ((Int × Str) × Str)), xs = [.ref a] ∧ H a = some (.lst vs) ∧ vs.length = ks.length ∧ ks ≠ [] ∧ (∀ (i : Nat) v k, vs[i]? = some v → ks[i]? = some k → KyH H v k) ∧
    ∀ v k, k ∈ ks → KyH H v k → (∀ k' ∈ ks, leP k.1 k'.1) → Q v H) := by
  intro pins s σ H xs us Q I r h
  obtain ⟨a, vs, ks, rfl, ha, hl, hne, hk, q⟩ := h
  obtain ⟨u, rfl, ru⟩ := vals1 r
  cases ru
  obtain ⟨its, rv, pl, hz⟩ := I.list (SqL.of ha)
  have il : its.length = ks.length := by rw [← rv.length, hl]
  have pos : 0 < ks.length := List.length_pos_iff.mpr hne
  have kat : ∀ (i : Nat) (v : Value), its[i]? = some v → ∃ k, ks[i]? = some k ∧ KeyAt s.heap v k ∧ ∃ x, vs[i]? = some x ∧ RelV x v := fun i v e => by
    have hi : i < its.length := (List.getElem?_eq_some_iff.mp e).1
    have e1 : vs[i]? = some vs[i] := List.getElem?_eq_getElem (by omega)
    have e2 : ks[i]? = some ks[i] := List.getElem?_eq_getElem (by omega)
    obtain ⟨v', e3, r3⟩ := rv.get e1
    rw [e] at e3
    cases e3
    exact ⟨_, e2, (hk i _ _ e1 e2).at I r3, _, e1, r3⟩
  refine min_listH (bt := fun i j => ltK (ks.getD i default) (ks.getD j default)) (I.ok.hd hc) pl.isList (by omega) (fun i j vi vj s' Q' E' g hi hj hQ => ?_) fun v h2 tk hv k2 => ?_
  · obtain ⟨ki, e1, a1, _⟩ := kat i vi hi
    obtain ⟨kj, e2, a2, _⟩ := kat j vj hj
    have d1 : ks.getD i default = ki := by rw [List.getD_eq_getElem?_getD, e1]; rfl
    have d2 : ks.getD j default = kj := by rw [List.getD_eq_getElem?_getD, e2]; rfl
    dsimp only at hQ
    rw [d1, d2] at hQ
    exact lt_key (a1.keep g) (a2.keep g) (by rw [PySem.Around.in1_units]; omega) _ _ _ _ hQ
  · obtain ⟨k, e1, a1, x, e3, r3⟩ := kat _ v hv
    obtain ⟨b1, b2⟩ := argBest_leP (fun i j => ltK (ks.getD i default) (ks.getD j default)) (fun i => (ks.getD i default).1) (fun _ _ => ltK_leP) (fun _ _ => ltK_geP) (its.length - 1)
    refine ⟨x, H, I.kept k2, r3, q x k (List.mem_of_getElem? e1) (hk _ x k e3 e1) fun k' hk' => ?_⟩
    obtain ⟨j, hj, ej⟩ := List.getElem_of_mem hk'
    have := b2 j (by omega)
    have d1 : ks.getD (argBest (fun i j => ltK (ks.getD i default) (ks.getD j default)) (its.length - 1)) default = k := by rw [List.getD_eq_getElem?_getD, e1]; rfl
    have d2 : ks.getD j default = k' := by rw [List.getD_eq_getElem?_getD, List.getElem?_eq_getElem hj, ej]; rfl
    rw [d1, d2] at this
    exact this
/-- min(two pairs): the lesser -/
theorem call_min_prsP {X : Cx} (hc : X.calm = true) (hu : X.A.units + 64 < cLine) : CallR X (.builtin "min") (fun xs H Q => ∃ (x y : V) (p q : Int × Str), xs = [x, y] ∧ PrH H x p ∧ PrH H y q ∧ ((leP q p → Q y H) ∧ (leP p q → Q x H))) := by
  intro pins s σ H xs us Q I r h
  obtain ⟨x, y, p, q, rfl, hx, hy, q1, q2⟩ := h
  obtain ⟨u, v, rfl, ru, rv⟩ := vals2 r
  have pu := hx.at I ru
  have pv := hy.at I rv
  refine min_twoH (bt := fun i j => ltP ([p, q].getD i default) ([p, q].getD j default)) (I.ok.hd hc) (fun i j vi vj s' Q' E' g hi hj hQ => ?_) fun z h2 tk hz k2 => ?_
  · have at' : ∀ (i : Nat) (vi : Value), [u, v][i]? = some vi → PairAt s.heap vi ([p, q].getD i default) := fun i vi e => by
      match i, e with
      | 0, e => cases e; exact pu
      | 1, e => cases e; exact pv
      | i + 2, e => cases e
    exact lt_pair ((at' i vi hi).keep g) ((at' j vj hj).keep g) (by rw [PySem.Around.in1_units]; omega) _ _ _ _ hQ
  · have e : argBest (fun i j => ltP ([p, q].getD i default) ([p, q].getD j default)) 1 = if ltP q p = true then 1 else 0 := rfl
    rw [e] at hz
    cases hl : ltP q p with
    | true =>
      rw [hl, if_pos rfl] at hz
      cases hz
      exact ⟨y, H, I.kept k2, rv, q1 (ltP_leP hl)⟩
    | false =>
      rw [hl, if_neg Bool.false_ne_true] at hz
      cases hz
      exact ⟨x, H, I.kept k2, ru, q2 (ltP_geP hl)⟩
/-! ### sums of ways -/
def Edge (ws : List Way) (x y : Str) (l : Int) : Prop := ∃ u ∈ ws, ((u.1 = x ∧ u.2.1 = y) ∨ (u.1 = y ∧ u.2.1 = x)) ∧ u.2.2 = l
theorem Edge.adj {ws : List Way} {x y : Str} {l : Int} (h : Edge ws x y l) : Adj ws x y := let ⟨u, hu, e, _⟩ := h; ⟨u, hu, e⟩
theorem Edge.symm {ws : List Way} {x y : Str} {l : Int} (h : Edge ws x y l) : Edge ws y x l := let ⟨u, hu, e, z⟩ := h; ⟨u, hu, e.symm, z⟩
inductive Wsum (ws : List Way) : Str → Str → Int → Prop
  | nil (x : Str) : Wsum ws x x 0
  | cons {x y z : Str} {l m : Int} : Edge ws x y l → Wsum ws y z m → Wsum ws x z (l + m)
theorem Wsum.app {ws : List Way} {x y z : Str} {m n : Int} (h : Wsum ws x y m) (g : Wsum ws y z n) : Wsum ws x z (m + n) := by
  induction h with
  | nil x => rw [Int.zero_add]; exact g
  | cons e _ ih => rw [Int.add_assoc]; exact .cons e (ih g)
theorem Wsum.snoc {ws : List Way} {x y z : Str} {m l : Int} (h : Wsum ws x y m) (e : Edge ws y z l) : Wsum ws x z (m + l) := by
  have := h.app (.cons e (.nil z))
  rwa [Int.add_zero] at this
theorem Wsum.symm {ws : List Way} {x y : Str} {m : Int} (h : Wsum ws x y m) : Wsum ws y x m := by
  induction h with
  | nil x => exact .nil x
  | @cons x y z l m e _ ih => rw [Int.add_comm]; exact ih.snoc e.symm
theorem Wsum.pos {ws : List Way} (hp : ∀ u ∈ ws, 1 ≤ u.2.2) {x y : Str} {m : Int} (h : Wsum ws x y m) : 0 ≤ m := by
  induction h with
  | nil x => exact Int.le_refl _
  | cons e _ ih =>
    obtain ⟨u, hu, _, rfl⟩ := e
    have := hp u hu
    omega
/-- the nearest of the starts, of several the first by name -/
def Near (ws : List Way) (ss : List Str) (y : Str) (p : Int × Str) : Prop := (p.2 ∈ ss ∧ Wsum ws p.2 y p.1) ∧ ∀ s ∈ ss, ∀ m, Wsum ws s y m → leP p (m, s)
theorem Near.uniq {ws : List Way} {ss : List Str} {y : Str} {p q : Int × Str} (h : Near ws ss y p) (g : Near ws ss y q) : p = q :=
  (h.2 q.2 g.1.1 q.1 g.1.2).anti (g.2 p.2 h.1.1 p.1 h.1.2)
/-- what is known while the places are settled: S settled, R reached -/
structure Dij (ws : List Way) (ss : List Str) (S R : Str → Int × Str → Prop) : Prop where
  near : ∀ y p, S y p → Near ws ss y p
  reach : ∀ y p, R y p → p.2 ∈ ss ∧ Wsum ws p.2 y p.1
  relax : ∀ x p y l, S x p → Edge ws x y l → (∃ q, S y q) ∨ ∃ q, R y q ∧ leP q (p.1 + l, p.2)
  start : ∀ s ∈ ss, (∃ q, S s q) ∨ ∃ q, R s q ∧ leP q (0, s)
theorem Dij.out {ws : List Way} {ss : List Str} {S R : Str → Int × Str → Prop} (h : Dij ws ss S R) (hp : ∀ u ∈ ws, 1 ≤ u.2.2) {x z : Str} {m : Int} (g : Wsum ws x z m) (hz : ∀ q, ¬ S z q) : ∀ p, S x p → ∃ y q, R y q ∧ leP q (p.1 + m, p.2) := by
  induction g with
  | nil x => intro p hp'; exact absurd hp' (hz p)
  | @cons x y z l m e g ih =>
    intro p hx
    rcases h.relax x p y l hx e with ⟨q, hq⟩ | ⟨q, hq, le⟩
    · obtain ⟨y', q', h1, h2⟩ := ih hz q hq
      refine ⟨y', q', h1, h2.trans ?_⟩
      have n1 := (h.near y q hq).2 p.2 (h.near x p hx).1.1 (p.1 + l) ((h.near x p hx).1.2.snoc e)
      have := n1.add (l := m)
      rw [Int.add_assoc] at this
      exact this
    · exact ⟨y, q, hq, le.trans (leP.up (by have := g.pos hp; omega))⟩
/-- the least of the reached is settled -/
theorem Dij.pick {ws : List Way} {ss : List Str} {S R : Str → Int × Str → Prop} (h : Dij ws ss S R) (hp : ∀ u ∈ ws, 1 ≤ u.2.2) {y : Str} {p : Int × Str} (hy : R y p) (ny : ∀ q, ¬ S y q) (least : ∀ z q, R z q → leP p q) : Near ws ss y p := by
  refine ⟨h.reach y p hy, fun s hs m g => ?_⟩
  rcases h.start s hs with ⟨q, hq⟩ | ⟨q, hq, le⟩
  · obtain ⟨z, q', h1, h2⟩ := h.out hp g ny q hq
    refine (least z q' h1).trans (h2.trans ?_)
    have n1 := (h.near s q hq).2 s hs 0 (.nil s)
    have := (show leP (q.1, q.2) (0, s) from n1).add (l := m)
    rw [Int.zero_add] at this
    exact this
  · exact (least s q hq).trans (le.trans (leP.up (g.pos hp)))
/-- when none is reached any more, all are settled -/
theorem Dij.done {ws : List Way} {ss : List Str} {S R : Str → Int × Str → Prop} (h : Dij ws ss S R) (hR : ∀ y p, ¬ R y p) {r : Str} (hss : ss ≠ []) {ps : List Str} (con : ∀ T : Str → Prop, T r → (∀ x y, Adj ws x y → T x → T y) → ∀ x ∈ ps, T x)
    (con2 : ∀ T : Str → Prop, ∀ x ∈ ps, T x → (∀ x y, Adj ws x y → T x → T y) → T r) (sub : ∀ s ∈ ss, s ∈ ps) : ∀ x ∈ ps, ∃ q, S x q := by
  have cl : ∀ x y, Adj ws x y → (∃ q, S x q) → ∃ q, S y q := fun x y ⟨u, hu, e⟩ ⟨q, hq⟩ => by
    rcases h.relax x q y u.2.2 hq ⟨u, hu, e, rfl⟩ with z | ⟨q', hq', _⟩
    · exact z
    · exact absurd hq' (hR _ _)
  obtain ⟨s, hs⟩ := List.exists_mem_of_ne_nil ss hss
  have s0 : ∃ q, S s q := by
    rcases h.start s hs with z | ⟨q, hq, _⟩
    · exact z
    · exact absurd hq (hR _ _)
  exact con (fun x => ∃ q, S x q) (con2 (fun x => ∃ q, S x q) s (sub s hs) s0 cl) cl
end L2

set_option Elab.async false
set_option linter.all false
set_option maxRecDepth 100000
set_option maxHeartbeats 4000000
namespace L2
open PySem PySem.Spec PyProof.Rows
theorem sK_inj {a b : List (Str × V)} (h : sK a = sK b) : a = b := by
  unfold sK at h
  exact List.map_inj_right (fun x y z => by
    simp only [Prod.mk.injEq, Sum.inr.injEq] at z
    exact Prod.ext z.1 z.2) |>.mp h
theorem sK_putV {nv nv' : List (Str × V)} {y : Str} {v : V} (e : putK (sK nv) (Sum.inr y : Key) v = sK nv') : ∀ z x, (z, x) ∈ nv' ↔ (z = y ∧ x = v) ∨ (z ≠ y ∧ (z, x) ∈ nv) := by
  intro z x
  by_cases h : y ∈ nv.map (·.1)
  · have e2 : putK (sK nv) (Sum.inr y : Key) v = sK (nv.map fun q => if q.1 = y then (q.1, v) else q) := by
      unfold putK
      have : ((sK nv).any fun kv => decide (kv.1 = (Sum.inr y : Key))) = true := by rw [valV_any, sK_is, decide_eq_true h]
      rw [if_pos this]
      unfold sK
      rw [List.map_map, List.map_map]
      refine List.map_congr_left fun q _ => ?_
      by_cases e : q.1 = y
      · simp [e]
      · have e' : ¬ (Sum.inr q.1 : Key) = Sum.inr y := fun z => e (Sum.inr.inj z)
        simp [e, e']
    rw [e2] at e
    rw [← sK_inj e, List.mem_map]
    constructor
    · rintro ⟨q, hq, e⟩
      by_cases eq : q.1 = y
      · rw [if_pos eq] at e
        have e1 : q.1 = z := congrArg Prod.fst e
        have e3 : v = x := congrArg Prod.snd e
        exact .inl ⟨by rw [← e1, eq], e3.symm⟩
      · rw [if_neg eq] at e
        refine .inr ⟨?_, by rw [← e]; exact hq⟩
        rw [show z = q.1 from (congrArg Prod.fst e).symm]; exact eq
    · rintro (⟨rfl, rfl⟩ | ⟨h1, h2⟩)
      · obtain ⟨q, hq, e1⟩ := List.mem_map.mp h
        have e1' : q.1 = z := e1
        exact ⟨q, hq, by rw [if_pos e1', e1']⟩
      · exact ⟨(z, x), h2, by rw [if_neg h1]⟩
  · rw [sK_new h] at e
    rw [← sK_inj e, List.mem_append]
    constructor
    · rintro (h1 | h1)
      · refine .inr ⟨?_, h1⟩
        rintro rfl
        exact h (List.mem_map.mpr ⟨_, h1, rfl⟩)
      · simp only [List.mem_singleton, Prod.mk.injEq] at h1
        exact .inl h1
    · rintro (⟨rfl, rfl⟩ | ⟨_, h2⟩)
      · exact .inr (by simp)
      · exact .inl h2
theorem sK_drop (nv : List (Str × V)) (y : Str) : dropK (sK nv) (Sum.inr y : Key) = sK (nv.filter fun q => decide (q.1 ≠ y)) := by
  unfold dropK sK
  rw [List.filter_map]
  congr 1
  refine List.filter_congr fun q _ => ?_
  by_cases e : q.1 = y
  · simp [e]
  · have e' : ¬ (Sum.inr q.1 : Key) = Sum.inr y := fun z => e (Sum.inr.inj z)
    simp [e, e']
/-- the lengths that lie beside each place -/
def NBV (H : Hp) (ps : List Str) (ds : List Addr) (Ed : Str → Str → Int → Prop) : Prop := ∀ (i : Nat) (p : Str) (d : Addr) (nv : List (Str × V)), ps[i]? = some p → ds[i]? = some d → Rd H d (.dK (sK nv)) → ∀ y v, (y, v) ∈ nv → ∃ l, v = .int l ∧ Ed p y l
theorem Rd.inj {H : Hp} {d : Addr} {a b : List (Str × V)} (h : Rd H d (.dK (sK a))) (g : Rd H d (.dK (sK b))) : a = b := by
  rcases h with h | ⟨o, h⟩ <;> rcases g with g | ⟨o', g⟩ <;> have e := Option.some.inj (h.symm.trans g)
  · injection e with e; exact sK_inj e
  · exact nomatch e
  · exact nomatch e
  · injection e with _ e
    injection e with e; exact sK_inj e
theorem NBV.put {H : Hp} {ps : List Str} {ds : List Addr} {Ed Ed' : Str → Str → Int → Prop} (h : NBV H ps ds Ed) (hn : ps.Nodup) (dn : ds.Nodup) {i : Nat} {p y : Str} {d : Addr} {l : Int} (e1 : ps[i]? = some p) (e2 : ds[i]? = some d) {nv nv' : List (Str × V)} (hd : H d = some (.dK (sK nv)))
    (ep : putK (sK nv) (Sum.inr y : Key) (.int l) = sK nv') (mono : ∀ a b m, Ed a b m → Ed' a b m) (new : Ed' p y l) : NBV (upd H d (.dK (sK nv'))) ps ds Ed' := by
  intro j q c nw f1 f2 hr z v hz
  by_cases hc : c = d
  · subst hc
    have ij : i = j := nd_ix dn e2 f2
    subst ij
    rw [e1] at f1; cases f1
    have : nw = nv' := Rd.inj hr (.inl upd_same)
    subst this
    rcases (sK_putV ep z v).mp hz with ⟨rfl, rfl⟩ | ⟨_, hz'⟩
    · exact ⟨l, rfl, new⟩
    · obtain ⟨l', e, ed⟩ := h i _ c nv e1 e2 (.inl hd) z v hz'
      exact ⟨l', e, mono _ _ _ ed⟩
  · have hr' : Rd H c (.dK (sK nw)) := by
      rcases hr with g | ⟨o, g⟩
      · exact .inl (by rw [upd_ne hc] at g; exact g)
      · exact .inr ⟨o, by rw [upd_ne hc] at g; exact g⟩
    obtain ⟨l', e, ed⟩ := h j q c nw f1 f2 hr' z v hz
    exact ⟨l', e, mono _ _ _ ed⟩
def spNbrL (K : PySem.W.Frag) : Sp := fun vs H Q _ => ∃ (q : Addr) (ps : List Str) (ws : List Way) (r : Str), vs = [.ref q] ∧ WebOk H q ps ws r ∧
  ∀ (H' : Hp) (B : Addr) (ds : List Addr), Same H H' → NB H' B ps ds (Adj ws) 128 → NBV H' ps ds (Edge ws) → H B = none → (∀ d ∈ ds, H d = none) → Q (.ref B) H'
/-- an iterable of either kind -/
theorem PI.or {X : Cx} {tg l : Expr} {w1 w2 : TI} (h1 : PI X tg l w1) (h2 : PI X tg l w2) : PI X tg l (fun σ H R => w1 σ H R ∨ w2 σ H R) := by
  intro pins s σ H R I h
  rcases h with h | h
  · exact h1 pins s σ H R I h
  · exact h2 pins s σ H R I h
/-- a dict of pairs -/
def PrD (H : Hp) (nv : List (Str × V)) (S : Str → Int × Str → Prop) : Prop := (nv.map (·.1)).Nodup ∧ (∀ y v, (y, v) ∈ nv → ∃ p, PrH H v p ∧ S y p) ∧ ∀ y p, S y p → ∃ v, (y, v) ∈ nv ∧ PrH H v p
def spNear (K : PySem.W.Frag) : Sp := fun vs H Q _ => ∃ (q st : Addr) (ps ss : List Str) (ws : List Way) (r : Str), vs = [.ref q, .ref st] ∧ WebOk H q ps ws r ∧ (∀ u ∈ ws, 1 ≤ u.2.2) ∧ (∀ x y l l', Edge ws x y l → Edge ws x y l' → l = l') ∧ (H st = some (.lst (ss.map V.str)) ∨ H st = some (.tup (ss.map V.str))) ∧ ss ≠ [] ∧ ss.Nodup ∧ (∀ s ∈ ss, s ∈ ps) ∧
  ∀ (H' : Hp) (B : Addr) (nv : List (Str × V)), Same H H' → H B = none → H' B = some (.dK (sK nv)) → (nv.map (·.1)).Nodup → (∀ x, x ∈ nv.map (·.1) ↔ x ∈ ps) → (∀ y v, (y, v) ∈ nv → ∃ p, PrH H' v p ∧ Near ws ss y p) → Q (.ref B) H'
end L2

set_option Elab.async false
set_option linter.all false
set_option maxRecDepth 100000
set_option maxHeartbeats 4000000
namespace L2
open PySem PySem.Spec PyProof.Rows
theorem sK_valmem {nv : List (Str × V)} {y : Str} {v : V} (h : valV (sK nv) (Sum.inr y : Key) = some v) : (y, v) ∈ nv := by
  unfold valV at h
  cases e : (sK nv).find? (fun kv => decide (kv.1 = (Sum.inr y : Key))) with
  | none => rw [e] at h; cases h
  | some kv =>
    rw [e] at h
    have h1 := List.find?_some e
    have h2 := List.mem_of_find?_eq_some e
    obtain ⟨q, hq, rfl⟩ := List.mem_map.mp h2
    have e1 : q.1 = y := by
      have : (Sum.inr q.1 : Key) = Sum.inr y := by simpa using h1
      exact Sum.inr.inj this
    have e2 : q.2 = v := Option.some.inj h
    rw [← e1, ← e2]
    exact hq
theorem edge_mono {ws : List Way} {i : Nat} {a b : Str} {m : Int} (h : Edge (ws.take i) a b m) : Edge (ws.take (i + 1)) a b m := by
  obtain ⟨u, hu, e⟩ := h
  rw [List.take_add_one]
  exact ⟨u, List.mem_append_left _ hu, e⟩
theorem edge_new {ws : List Way} {i : Nat} {u : Way} (h : ws[i]? = some u) : Edge (ws.take (i + 1)) u.1 u.2.1 u.2.2 := by
  rw [List.take_add_one, h]
  exact ⟨u, List.mem_append_right _ (by simp), .inl ⟨rfl, rfl⟩, rfl⟩
theorem PrH.fn {H : Hp} {v : V} {p q : Int × Str} (h : PrH H v p) (g : PrH H v q) : p = q := by
  obtain ⟨t, rfl, e⟩ := h
  obtain ⟨t', e', g⟩ := g
  have : t = t' := by injection e'
  subst this
  have z := Option.some.inj (e.symm.trans g)
  injection z with z
  simp only [List.cons.injEq, V.int.injEq, V.str.injEq] at z
  exact Prod.ext z.1 z.2.1
theorem NR.same {H H' : Hp} {B : Addr} {ps : List Str} {ds : List Addr} {P : Str → Str → Prop} (h : NR H B ps ds P) (s : Same H H') : NR H' B ps ds P :=
  ⟨s _ _ h.top, h.len, h.nd, h.nB, fun i p d e1 e2 => let ⟨nv, a1, a3⟩ := h.inner i p d e1 e2
    ⟨nv, (by rcases a1 with a | ⟨o, a⟩; exact .inl (s _ _ a); exact .inr ⟨o, s _ _ a⟩), a3⟩⟩
theorem NBV.of {H H' : Hp} {B : Addr} {ps : List Str} {ds : List Addr} {P : Str → Str → Prop} {Ed : Str → Str → Int → Prop} (h : NBV H ps ds Ed) (nr : NR H B ps ds P) (k : ∀ d ∈ ds, ∀ nv : List (Str × V), Rd H d (.dK (sK nv)) → Rd H' d (.dK (sK nv))) : NBV H' ps ds Ed := by
  intro i p d nv e1 e2 hr y v hy
  obtain ⟨nw, a1, _⟩ := nr.inner i p d e1 e2
  have := Rd.inj hr (k d (List.mem_of_getElem? e2) nw a1)
  subst this
  exact h i p d nv e1 e2 a1 y v hy
theorem PrD.same {H H' : Hp} {nv : List (Str × V)} {S : Str → Int × Str → Prop} (h : PrD H nv S) (s : ∀ b xs, H b = some (.tup xs) → H' b = some (.tup xs)) : PrD H' nv S :=
  ⟨h.1, fun y v hv => let ⟨p, a, b⟩ := h.2.1 y v hv; ⟨p, a.same s, b⟩, fun y p hp => let ⟨v, a, b⟩ := h.2.2 y p hp; ⟨v, a, b.same s⟩⟩
theorem PrD.fn {H : Hp} {nv : List (Str × V)} {S : Str → Int × Str → Prop} (h : PrD H nv S) {y : Str} {p q : Int × Str} (hp : S y p) (hq : S y q) : p = q := by
  obtain ⟨v, a, b⟩ := h.2.2 y p hp
  obtain ⟨w, c, d⟩ := h.2.2 y q hq
  have := val_uniq h.1 a c
  subst this
  exact b.fn d
theorem PrD.put {H : Hp} {nv nv' : List (Str × V)} {S : Str → Int × Str → Prop} {y : Str} {v : V} {p : Int × Str} (h : PrD H nv S) (e : putK (sK nv) (Sum.inr y : Key) v = sK nv') (hv : PrH H v p) : PrD H nv' (fun z q => (z = y ∧ q = p) ∨ (z ≠ y ∧ S z q)) := by
  refine ⟨sK_putN e h.1, fun z x hz => ?_, fun z q hq => ?_⟩
  · rcases (sK_putV e z x).mp hz with ⟨rfl, rfl⟩ | ⟨n, hz'⟩
    · exact ⟨p, hv, .inl ⟨rfl, rfl⟩⟩
    · obtain ⟨q, a, b⟩ := h.2.1 z x hz'
      exact ⟨q, a, .inr ⟨n, b⟩⟩
  · rcases hq with ⟨rfl, rfl⟩ | ⟨n, hq⟩
    · exact ⟨v, (sK_putV e _ _).mpr (.inl ⟨rfl, rfl⟩), hv⟩
    · obtain ⟨x, a, b⟩ := h.2.2 z q hq
      exact ⟨x, (sK_putV e _ _).mpr (.inr ⟨n, a⟩), b⟩
theorem PrD.drop {H : Hp} {nv : List (Str × V)} {S : Str → Int × Str → Prop} (h : PrD H nv S) (y : Str) : PrD H (nv.filter fun q => decide (q.1 ≠ y)) (fun z q => z ≠ y ∧ S z q) := by
  refine ⟨nodup_map_filter h.1 _, fun z x hz => ?_, fun z q hq => ?_⟩
  · obtain ⟨a, b⟩ := List.mem_filter.mp hz
    obtain ⟨q, c, d⟩ := h.2.1 z x a
    exact ⟨q, c, by simpa using b, d⟩
  · obtain ⟨n, hq⟩ := hq
    obtain ⟨x, a, b⟩ := h.2.2 z q hq
    exact ⟨x, List.mem_filter.mpr ⟨a, by simpa using n⟩, b⟩
/-- the heap while the places are settled -/
structure NI (H H2 : Hp) (ps : List Str) (ws : List Way) (B RA SA : Addr) (ds : List Addr) (nvR nvS : List (Str × V)) (S R : Str → Int × Str → Prop) : Prop where
  same : Same H H2
  nr : NR H2 B ps ds (Adj ws)
  nbv : NBV H2 ps ds (Edge ws)
  dR : H2 RA = some (.dK (sK nvR))
  dS : H2 SA = some (.dK (sK nvS))
  pR : PrD H2 nvR R
  pS : PrD H2 nvS S
  subR : ∀ y ∈ nvR.map (·.1), y ∈ ps
  subS : ∀ y ∈ nvS.map (·.1), y ∈ ps
section
variable {H H2 H3 : Hp} {ps : List Str} {ws : List Way} {B RA SA : Addr} {ds : List Addr} {nvR nvS : List (Str × V)} {S R : Str → Int × Str → Prop}
theorem NI.grow (h : NI H H2 ps ws B RA SA ds nvR nvS S R) (s : Same H2 H3) : NI H H3 ps ws B RA SA ds nvR nvS S R :=
  ⟨h.same.trans s, h.nr.same s, h.nbv.of h.nr fun d _ nv z => by rcases z with a | ⟨o, a⟩; exact .inl (s _ _ a); exact .inr ⟨o, s _ _ a⟩, s _ _ h.dR, s _ _ h.dS, h.pR.same fun b xs z => s _ _ z, h.pS.same fun b xs z => s _ _ z, h.subR, h.subS⟩
theorem NI.lenS (h : NI H H2 ps ws B RA SA ds nvR nvS S R) : nvS.length ≤ ps.length := by
  have := len_le_of_sub h.pS.1 h.subS
  rwa [List.length_map] at this
theorem NI.lenR (h : NI H H2 ps ws B RA SA ds nvR nvS S R) : nvR.length ≤ ps.length := by
  have := len_le_of_sub h.pR.1 h.subR
  rwa [List.length_map] at this
theorem NI.inS (h : NI H H2 ps ws B RA SA ds nvR nvS S R) {y : Str} : y ∈ nvS.map (·.1) ↔ ∃ q, S y q := by
  constructor
  · intro hy
    obtain ⟨⟨z, v⟩, a, b⟩ := List.mem_map.mp hy
    have b' : z = y := b
    subst b'
    obtain ⟨p, _, c⟩ := h.pS.2.1 z v a
    exact ⟨p, c⟩
  · rintro ⟨q, hq⟩
    obtain ⟨v, a, _⟩ := h.pS.2.2 y q hq
    exact List.mem_map.mpr ⟨_, a, rfl⟩
theorem NI.inR (h : NI H H2 ps ws B RA SA ds nvR nvS S R) {y : Str} : y ∈ nvR.map (·.1) ↔ ∃ q, R y q := by
  constructor
  · intro hy
    obtain ⟨⟨z, v⟩, a, b⟩ := List.mem_map.mp hy
    have b' : z = y := b
    subst b'
    obtain ⟨p, _, c⟩ := h.pR.2.1 z v a
    exact ⟨p, c⟩
  · rintro ⟨q, hq⟩
    obtain ⟨v, a, _⟩ := h.pR.2.2 y q hq
    exact List.mem_map.mpr ⟨_, a, rfl⟩
/-- a write to the reached ones -/
theorem NI.setR (h : NI H H2 ps ws B RA SA ds nvR nvS S R) (aR : RA ∉ ds ∧ RA ≠ B ∧ RA ≠ SA ∧ H RA = none) {nv' : List (Str × V)} {R' : Str → Int × Str → Prop} (p' : PrD H2 nv' R') (sub : ∀ y ∈ nv'.map (·.1), y ∈ ps) : NI H (upd H2 RA (.dK (sK nv'))) ps ws B RA SA ds nv' nvS S R' := by
  have tu : ∀ b xs, H2 b = some (.tup xs) → (upd H2 RA (.dK (sK nv'))) b = some (.tup xs) := fun b xs z => by
    rw [upd_ne (ne_of z h.dR (by intro z; cases z))]; exact z
  exact ⟨fun b o z => by rw [upd_ne (ne_of_none z aR.2.2.2)]; exact h.same _ _ z, h.nr.other aR.1 aR.2.1, h.nbv.of h.nr fun d hd nv z => z.ne (fun e => aR.1 (by rw [← e]; exact hd)), upd_same, by rw [upd_ne (Ne.symm aR.2.2.1)]; exact h.dS, p'.same tu, h.pS.same tu, sub, h.subS⟩
/-- a write to the settled ones -/
theorem NI.setS (h : NI H H2 ps ws B RA SA ds nvR nvS S R) (aS : SA ∉ ds ∧ SA ≠ B ∧ SA ≠ RA ∧ H SA = none) {nv' : List (Str × V)} {S' : Str → Int × Str → Prop} (p' : PrD H2 nv' S') (sub : ∀ y ∈ nv'.map (·.1), y ∈ ps) : NI H (upd H2 SA (.dK (sK nv'))) ps ws B RA SA ds nvR nv' S' R := by
  have tu : ∀ b xs, H2 b = some (.tup xs) → (upd H2 SA (.dK (sK nv'))) b = some (.tup xs) := fun b xs z => by
    rw [upd_ne (ne_of z h.dS (by intro z; cases z))]; exact z
  exact ⟨fun b o z => by rw [upd_ne (ne_of_none z aS.2.2.2)]; exact h.same _ _ z, h.nr.other aS.1 aS.2.1, h.nbv.of h.nr fun d hd nv z => z.ne (fun e => aS.1 (by rw [← e]; exact hd)), by rw [upd_ne (Ne.symm aS.2.2.1)]; exact h.dR, upd_same, h.pR.same tu, p'.same tu, h.subR, sub⟩
theorem NI.frz (h : NI H H2 ps ws B RA SA ds nvR nvS S R) (aR : RA ∉ ds) (aS : SA ∉ ds) (fr : ∀ d ∈ ds, H d = none) {i : Nat} {p : Str} {d : Addr} (e1 : ps[i]? = some p) (e2 : ds[i]? = some d) {nv : List (Str × V)} {o : Obj} (f : Frozen H2 d (sK nv) o H3) (hP : ∀ y, y ∈ nv.map (·.1) ↔ Adj ws p y) : NI H H3 ps ws B RA SA ds nvR nvS S R := by
  have dm : d ∈ ds := List.mem_of_getElem? e2
  have tu : ∀ b xs, H2 b = some (.tup xs) → H3 b = some (.tup xs) := fun b xs z => by
    rw [f.ne (by
      rintro rfl
      rcases f with ⟨g, _⟩ | ⟨g, _⟩ <;> (rw [z] at g; cases g))]
    exact z
  refine ⟨fun b u z => by rw [f.ne (ne_of_none z (fr d dm))]; exact h.same _ _ z, h.nr.freeze e1 e2 f hP, h.nbv.of h.nr fun c hc nw z => ?_, by rw [f.ne (fun z => aR (by rw [z]; exact dm))]; exact h.dR, by rw [f.ne (fun z => aS (by rw [z]; exact dm))]; exact h.dS, h.pR.same tu, h.pS.same tu, h.subR, h.subS⟩
  by_cases hcd : c = d
  · subst hcd
    rcases f with ⟨g, e⟩ | ⟨g, e⟩
    · have := Rd.inj z (.inl g)
      subst this
      exact .inr ⟨o, by rw [e]; exact upd_same⟩
    · rw [e]; exact z
  · exact z.fz f hcd
end
end L2

set_option Elab.async false
set_option linter.all false
set_option maxRecDepth 100000
set_option maxHeartbeats 4000000
namespace L2
open PySem PySem.Spec PyProof.Rows
theorem keys_of_list : typeLookup (.type "list") "keys" = pure none := by rw [typeLookup_type, builtinLookup_eq_fast]; kernel_rfl
theorem listQ_miss {prog : Program} {w : World} {A : Around} {E : Value → Shared → Prop} {s : Shared} {a : Addr} {o : Obj} {xs : Array Value} {k : Nat} {Q : Option Value → Shared → Prop}
    (hx : s.heap.get? a = some o) (hc : o.cls = .type "list") (hdat : o.data = .seq xs k) (hd : o.dict = none) (hA : A.handled = none)
    (h : ∀ h' tk, (∀ b ob, s.heap.get? b = some ob → h'.get? b = some ob) → Q none { s with heap := h', toks := tk }) : wpAny (model prog w) A (getAttr? (.ref a) "keys") Q E s := by
  obtain ⟨c, dct, dat, sl⟩ := o
  simp only at hc hdat hd
  subst hc hdat hd
  obtain ⟨hp, g, d, tk, os⟩ := s
  have hT : ∀ tk', (⟨hp, g, d, tk', os⟩ : Shared).TypeIs (.ref a) "list" := fun _ => ⟨_, hx, rfl⟩
  have f1 := sub_AttributeError
  have f3 := F.slot_list_getattribute.lookup
  have f4 := F.slot_list_getattribute.bind (.ref a)
  have f5 := am_list_getattr_none
  unfold getAttr? getAttrBy? getAttrBy
  repeat (any_goals (first | assumption | exact hT _ | ((with_reducible show wpAny _ _ (call (Value.builtin "list.__getattribute__") _ _) _ _ _); refine call_meets F.slot_list_getattribute (hT _) am_entry_list_getattribute (F.args_list_getattribute_2 _ _) (meets_getattribute_miss_list a xs k sl "keys" _ keys_of_list (by decide +kernel) (by decide +kernel)) ⟨hx, hA, fun h' tk' e hx' => ?_⟩) | wp_step))
  obtain ⟨t', u', he⟩ := hx'.there
  show wpAny _ _ (getattributeRaised _ _ _ _ _ _ _) _ _ _
  unfold getattributeRaised
  have hE : ∀ tk', (⟨h', g, d, tk', os⟩ : Shared).TypeIs (.ref e) "AttributeError" := fun _ => ⟨_, he, rfl⟩
  repeat (any_goals (first | assumption | exact hE _ | wp_step))
  exact h _ _ hx'.keeps
end L2

set_option Elab.async false
set_option linter.all false
set_option maxRecDepth 100000
set_option maxHeartbeats 4000000
namespace L2
open PySem PySem.Spec PyProof.Rows
theorem entry_upd_loop : entryFor table "dict.update.loop" = some Builtin.«dict.update.loop» := entryFor_of_tree (by kernel_rfl)
theorem plain_upd_loop : plainId "dict.update.loop" = true := by decide +kernel
/-- a tuple (text, thing) as it lies in the heap -/
def RowAt (g0 : Heap) (v : Value) (p : Str × V) : Prop := ∃ a t u, v = .ref a ∧ IsTup g0 a #[.str p.1 t, u] ∧ RelV p.2 u
section
variable {prog : Program} {w : World} {A : Around} {R : Result → Shared → Prop} {g0 : Heap} {D it l : Addr} {vs : List Value} {ps : List (Str × V)}
theorem upd_loop (hh : A.handled = none) (nI : it ≠ D) (nl : l ≠ it ∧ l ≠ D) (g1 : ∀ b o, g0.get? b = some o → b ≠ it ∧ b ≠ D) (hl : vs.length = ps.length) (rows : ∀ (i : Nat) v p, vs[i]? = some v → ps[i]? = some p → RowAt g0 v p) (hsz : ps.length < sizeLine) :
    ∀ (m i : Nat) (s : Shared) (kvs : List (Key × V)) (us : List (Key × Value)), ps.length - i = m → i ≤ ps.length → s.heap.IsListIter it l i → s.heap.IsList l vs.toArray → KV kvs us → kvs.length ≤ i → s.heap.DictOf (mixKind prog w) D us → (∀ b o, g0.get? b = some o → s.heap.get? b = some o) →
      (∀ h' tk us', KV (mergeK kvs (sK (ps.drop i))) us' → h'.DictOf (mixKind prog w) D us' → (∀ b o, b ≠ it → b ≠ D → s.heap.get? b = some o → h'.get? b = some o) → R (.ok (.ret .none)) { s with heap := h', toks := tk }) →
      codeAny (model prog w) A (.builtin "dict.update.loop" ⟨[.ref D, .ref it, .int (i : Int) 0, .none], []⟩) R s := by
  intro m
  induction m with
  | zero =>
    intro i s kvs us hm hi st hL kv kl dd gk r
    have e : i = ps.length := by omega
    refine codeAny_builtin entry_upd_loop ?_
    rw [Around.under_plainId plain_upd_loop _]
    unfold Builtin.«dict.update.loop»
    refine wpAny_bind (wpAny_pyNext_list_end hh st hL (by simp; omega) fun h' eb => ?_)
    refine wpAny_bind (wpAny_pure (wpAny_pure ?_))
    have dd' : h'.DictOf (mixKind prog w) D us := dd.at fun o q => eb D o (Ne.symm nI) q
    refine r h' s.toks us ?_ dd' fun b o b1 b2 q => eb b o b1 q
    rw [e, List.drop_length]
    exact kv
  | succ m ih =>
    intro i s kvs us hm hi st hL kv kl dd gk r
    have hlt : i < ps.length := by omega
    have ev : vs[i]? = some (vs[i]'(by omega)) := List.getElem?_eq_getElem (by omega)
    have ep : ps[i]? = some ps[i] := List.getElem?_eq_getElem hlt
    obtain ⟨a, t, u, e1, ht, ru⟩ := rows i _ _ ev ep
    rw [e1] at ev
    refine codeAny_builtin entry_upd_loop ?_
    rw [Around.under_plainId plain_upd_loop _]
    unfold Builtin.«dict.update.loop»
    refine wpAny_bind (wpAny_pyNext_list_item st hL (x := .ref a) (by simpa using ev) fun h' st' sb => ?_)
    obtain ⟨o, ho, hc, n, hd⟩ := id ht
    have ha := (sb.2 a (g1 a o ho).1).trans (gk a o ho)
    have dd' : h'.DictOf (mixKind prog w) D us := dd.at fun o q => (sb.2 D (Ne.symm nI)).trans q
    have L' : h'.IsList l vs.toArray := by
      obtain ⟨ol, hol, rl⟩ := hL
      exact ⟨ol, (sb.2 l nl.1).trans hol, rl⟩
    refine wpAny_bind (wpAny_holding ?_)
    refine wpAny_bind (wpAny_tryCatch ?_)
    unfold Builtin.Dict.pairItems
    refine wpAny_bind (wpAny_typeOf (T := "tuple") ⟨o, ha, hc⟩ ?_)
    rw [if_pos (by decide)]
    refine wpAny_bind (wpAny_seqItems ha hd (wpAny_pure ?_))
    show wpAny _ A.in1 (holding [Value.str ps[i].1 t, u] (dictSet D (Value.str ps[i].1 t) u)) _ _ _
    have us64 : us.length ≤ sizeLine := by rw [← kv.length]; omega
    refine wpAny_holding (wpAny_dictSet_pairs (k := Sum.inr ps[i].1) (hsz := us64) (mixKind_str prog w _ t) dd' fun h2 dd2 sb2 => ?_)
    have ki : ((i : Int) + 1) = ((i + 1 : Nat) : Int) := by omega
    refine wpAny_pure ⟨plainId_quiet plain_upd_loop _, ?_⟩
    show codeAny (model prog w) A (.builtin "dict.update.loop" ⟨[.ref D, .ref it, .int ((i : Int) + 1) 0, .none], []⟩) R _
    rw [ki]
    have kl2 := length_putK kvs (Sum.inr ps[i].1 : Key) ps[i].2
    have it2 : h2.IsListIter it l (i + 1) := by
      obtain ⟨oi, hoi, ri⟩ := st'
      exact ⟨oi, (sb2.2 it nI).trans hoi, ri⟩
    refine ih (i + 1) _ (putK kvs (Sum.inr ps[i].1) ps[i].2) _ (by omega) hlt it2 ?_ (kv.put (Sum.inr ps[i].1) ru) (by omega) dd2 (fun b ob q => (sb2.2 b (g1 b ob q).2).trans ((sb.2 b (g1 b ob q).1).trans (gk b ob q))) fun h3 tk3 us3 kv3 dd3 k3 => ?_
    · obtain ⟨ol, hol, rl⟩ := L'
      exact ⟨ol, (sb2.2 l nl.2).trans hol, rl⟩
    · refine r h3 tk3 us3 ?_ dd3 fun b ob b1 b2 q => k3 b ob b1 b2 ((sb2.2 b b2).trans ((sb.2 b b1).trans q))
      have ed : ps.drop i = ps[i] :: ps.drop (i + 1) := (List.drop_eq_getElem_cons hlt)
      rw [ed]
      exact kv3
end
end L2

set_option Elab.async false
set_option linter.all false
set_option maxRecDepth 100000
set_option maxHeartbeats 4000000
namespace L2
open PySem PySem.Spec PyProof.Rows
section
variable {prog : Program} {w : World} {A : Around} {E : Value → Shared → Prop} {s : Shared}
theorem call_dict_list {l : Addr} {vs : List Value} {ps : List (Str × V)} {Q : Value → Shared → Prop} (hh : A.handled = none) {ol : Obj} {nl : Nat} (hl : s.heap.get? l = some ol) (hc : ol.cls = .type "list") (hd : ol.data = .seq vs.toArray nl) (hdc : ol.dict = none)
    (hlen : vs.length = ps.length) (rows : ∀ (i : Nat) v p, vs[i]? = some v → ps[i]? = some p → RowAt s.heap v p) (hsz : ps.length < sizeLine)
    (h : ∀ h' tk us, KV (mergeK [] (sK ps)) us → h'.DictOf (mixKind prog w) s.heap.objs.size us → (∀ b o, s.heap.get? b = some o → h'.get? b = some o) → Q (.ref s.heap.objs.size) { s with heap := h', toks := tk }) : wpAny (model prog w) A (call (.type "dict") [.ref l]) Q E s := by
  refine callType_codes (Q₁ := fun obj s₁ => obj = .ref s.heap.objs.size ∧ s₁ = { s with heap := s.heap.push { cls := .type "dict", data := .dict #[] } }) F.kt_called_dict (F.kt_typeCall_dict_1 _) F.entry_dict_init (kt_code_dict_new _ ⟨rfl, rfl⟩) ?_
  rintro obj s₁ ⟨rfl, rfl⟩
  have hnew : (s.heap.push { cls := .type "dict", data := .dict #[] }).DictOf (mixKind prog w) s.heap.objs.size [] := Heap.DictOf.new s.heap
  have hl1 : (s.heap.push { cls := .type "dict", data := .dict #[] }).get? l = some ol := Heap.get?_push_of_some _ hl
  refine ⟨hnew.typeIs, F.args_dict_init_2 _ _, ?_⟩
  unfold Builtin.«dict.__init__»
  refine wpAny_bind ?_
  unfold Builtin.Dict.selfAndRest
  refine wpAny_bind (wpAny_notOrdered_dict hnew.typeIs ?_)
  show wpAny _ _ (pure (s.heap.objs.size, [Value.ref l])) _ _ _
  refine wpAny_pure ?_
  show wpAny _ _ (Builtin.Dict.updateFrom "dict.__init__" s.heap.objs.size (.ref l) [] .none) _ _ _
  unfold Builtin.Dict.updateFrom
  refine wpAny_bind (wpAny_typeOf (T := "list") ⟨ol, hl1, hc⟩ ?_)
  rw [if_pos (by decide)]
  refine wpAny_bind (listQ_miss hl1 hc hd hdc hh fun h1 tk1 k1 => ?_)
  simp only [Option.isNone_none, if_true]
  refine wpAny_bind (wpAny_rule ?_)
  have hl2 : h1.IsList l vs.toArray := ⟨ol, k1 _ _ hl1, hc, nl, hd⟩
  refine wpAny_bind (wpAny_pyIter_list hl2 ?_)
  have old : ∀ b o, s.heap.get? b = some o → h1.get? b = some o := fun b o q => k1 b o (Heap.get?_push_of_some _ q)
  obtain ⟨od, esd, epd, hod, rd⟩ := id hnew
  have hD1 := k1 _ _ hod
  have ltD := Heap.lt_size hD1
  have ltl := Heap.lt_size (k1 _ _ hl1)
  refine wpAny_pure ⟨plainId_quiet plain_upd_loop _, ?_⟩
  refine upd_loop (A := A.in1) (g0 := s.heap) (D := s.heap.objs.size) (it := h1.objs.size) (l := l) (vs := vs) (ps := ps) hh (Nat.ne_of_gt ltD) ⟨Nat.ne_of_lt ltl, Nat.ne_of_lt (Heap.lt_size hl)⟩ (fun b o q => ⟨Nat.ne_of_lt (Heap.lt_size (old b o q)), Nat.ne_of_lt (Heap.lt_size q)⟩) hlen rows hsz _ 0 { s with heap := h1.push { cls := .type "list_iterator", data := .fields #[.ref l, .int 0 0] }, toks := tk1 } [] [] rfl (Nat.zero_le _)
    ⟨_, Heap.get?_push_size _ rfl, rfl, rfl⟩ (hl2.push _) .nil (Nat.le_refl _) ⟨od, esd, epd, Heap.get?_push_of_some _ hD1, rd⟩ (fun b o q => Heap.get?_push_of_some _ (old b o q)) fun h' tk us kv dd kk => ?_
  rw [List.drop_zero] at kv
  exact ⟨rfl, h h' tk us kv dd fun b o q => kk b o (Nat.ne_of_lt (Heap.lt_size (old b o q))) (Nat.ne_of_lt (Heap.lt_size q)) (Heap.get?_push_of_some _ (old b o q))⟩
end
theorem merge_sK : ∀ (b a : List (Str × V)), ((a ++ b).map (·.1)).Nodup → mergeK (sK a) (sK b) = sK (a ++ b)
  | [], a, _ => by rw [List.append_nil]; rfl
  | q :: b, a, hn => by
    have nq : q.1 ∉ a.map (·.1) := by
      rw [List.map_append, List.map_cons] at hn
      intro hm
      exact (List.nodup_append.mp hn).2.2 q.1 hm q.1 List.mem_cons_self rfl
    show mergeK (putK (sK a) (Sum.inr q.1) q.2) (sK b) = _
    rw [sK_new nq]
    have := merge_sK b (a ++ [(q.1, q.2)]) (by rw [List.append_assoc]; exact hn)
    rw [this, List.append_assoc]
    rfl
/-- dict(a list of (text, thing) tuples) -/
theorem call_dict_pairs {X : Cx} (hc : X.calm = true) : CallR X (.type "dict") (fun xs H Q => ∃ (a : Addr) (vs : List V) (ps : List (Str × V)), xs = [.ref a] ∧ H a = some (.lst vs) ∧ vs.length = ps.length ∧ (∀ (i : Nat) v p, vs[i]? = some v → ps[i]? = some p → ∃ t, v = .ref t ∧ H t = some (.tup [.str p.1, p.2])) ∧ (ps.map (·.1)).Nodup ∧ ps.length < 1000 ∧
    ∀ D, H D = none → Q (.ref D) (upd H D (.dK (sK ps)))) := by
  intro pins s σ H xs us Q I r h
  obtain ⟨a, vs, ps, rfl, ha, hl, hk, hn, h1000, q⟩ := h
  obtain ⟨u, rfl, ru⟩ := vals1 r
  cases ru
  obtain ⟨its, rv, ⟨o, n, ho, hc', hd', hdat⟩, hz⟩ := I.list (SqL.of ha)
  have il : its.length = ps.length := by rw [← rv.length, hl]
  have big : 1000 < sizeLine := by decide
  refine call_dict_list (I.ok.hd hc) (ps := ps) ho hc' hdat hd' il (fun i v p e1 e2 => ?_) (by omega) fun h' tk us kv dd kk => ?_
  · have hi : i < its.length := (List.getElem?_eq_some_iff.mp e1).1
    have e3 : vs[i]? = some vs[i] := List.getElem?_eq_getElem (by omega)
    obtain ⟨v', e4, r4⟩ := rv.get e3
    rw [e1] at e4
    cases e4
    obtain ⟨t, e5, ht⟩ := hk i _ p e3 e2
    rw [e5] at r4
    cases r4
    obtain ⟨its2, rv2, pl2, _⟩ := I.tuple (SqT.of ht)
    cases rv2 with
    | cons x1 y1 =>
      cases y1 with
      | cons x2 y2 =>
        cases y2
        obtain ⟨t1, rfl⟩ := x1
        exact ⟨t, t1, _, rfl, pl2, x2⟩
  · have em : mergeK [] (sK ps) = sK ps := merge_sK ps [] (by simpa using hn)
    rw [em] at kv
    refine ⟨.ref s.heap.objs.size, _, I.laid (a := s.heap.objs.size) (o := .dK (sK ps)) (t' := tk) kk (Nat.le_refl _) (dk_new (by rw [sK_len]; omega) (beq_eq_false_iff_ne.mpr (Ne.symm (Nat.ne_of_lt I.big))) kv dd), rfl, q _ (I.hok.fresh (Nat.le_refl _))⟩
/-- d != d' for dicts of ints by texts that hold the same -/
theorem op_ne_dk {X : Cx} (hu : X.A.units + 64 < cLine) : OpR X (compareOp .NotEq) (fun x y H Q => ∃ (a b : Addr) (na nb : List (Str × V)), x = .ref a ∧ y = .ref b ∧ Rd H a (.dK (sK na)) ∧ Rd H b (.dK (sK nb)) ∧ na.length = nb.length ∧ (nb.map (·.1)).Nodup ∧ (∀ z v, (z, v) ∈ na → (z, v) ∈ nb ∧ ∃ n, v = .int n) ∧ Q (.bl false) H) := by
  intro pins s σ H x y v u Q I rx ry h
  obtain ⟨a, b, na, nb, rfl, rfl, ha, hb, hl, hn, hk, q⟩ := h
  cases rx
  cases ry
  obtain ⟨za, da, va, ra, dda⟩ := dk_rd I.hok ha
  obtain ⟨zb, db, vb, rb, ddb⟩ := dk_rd I.hok hb
  have hits : ∀ (l : List (Str × V)) (vl : List (Key × Value)), KV (sK l) vl → (∀ z v, (z, v) ∈ l → (z, v) ∈ nb ∧ ∃ n, v = .int n) → PySem.W.KeqHits X.A.in1 s vb vl true := by
    intro l
    induction l with
    | nil => intro vl k _; cases k; exact .nil
    | cons p l ih =>
      intro vl k hp
      cases k with
      | @cons _ q _ ql h1 t1 =>
        obtain ⟨hm, n, en⟩ := hp p.1 p.2 List.mem_cons_self
        have e1 : q.1 = Sum.inr p.1 := h1.1.symm
        have rq : RelV p.2 q.2 := h1.2
        rw [en] at rq
        obtain ⟨t, et⟩ := rq
        have hv := rb.val (Sum.inr p.1 : Key)
        rw [sK_some hn hm, en] at hv
        obtain ⟨w', hw, rw'⟩ := RelO.some_of (v := V.int n) (o := valueAt vb (Sum.inr p.1)) hv
        obtain ⟨t', rfl⟩ := rw'
        obtain ⟨q1, q2⟩ := q
        simp only at e1 et
        subst e1 et
        have := PySem.W.KeqHits.hit (A := X.A.in1) (s := s) (v := .int n t) hw (SeqAt.EqAt.int_int n t n t') (ih ql t1 fun z v hz => hp z v (List.mem_cons_of_mem _ hz))
        simpa using this
  have hlen : va.length = vb.length := by rw [← ra.length, ← rb.length, sK_len, sK_len, hl]
  refine PySem.W.keq_ne (r := true) da db dda ddb (by omega) (fun _ => hits na va ra hk) ⟨.bl false, H, I, ?_, q⟩
  show Value.bool _ = Value.bool false
  rw [hlen]
  simp
/-- d.clear() -/
theorem mt_dclear {X : Cx} : MtM X "dict.clear" (fun x vs H Q => ∃ a kvs, x = .ref a ∧ vs = [] ∧ H a = some (.dK kvs) ∧ Q .non (upd H a (.dK []))) := by
  intro pins s σ H x vs v us Q I rx rv h
  obtain ⟨a, kvs, rfl, rfl, ha, q⟩ := h
  cases rx
  have hus := rv.zero
  subst hus
  exact d_clear I ha fun s' I' => ⟨.non, _, I', rfl, q⟩
end L2

set_option Elab.async false
set_option linter.all false
set_option maxRecDepth 100000
set_option maxHeartbeats 4000000
namespace L2
open PySem PySem.Spec PyProof.Rows
theorem sep_eq : ∀ {ws : List Way}, (ws.Pairwise fun u v => ¬ Alike u v) → ∀ {u v : Way}, u ∈ ws → v ∈ ws → Alike u v → u = v
  | [], _, u, v, hu, _, _ => nomatch hu
  | a :: ws, h, u, v, hu, hv, al => by
    obtain ⟨h1, h2⟩ := List.pairwise_cons.mp h
    rcases List.mem_cons.mp hu with e1 | hu1
    · rcases List.mem_cons.mp hv with e2 | hv1
      · rw [e1, e2]
      · exact absurd (by rw [← e1]; exact al) (h1 v hv1)
    · rcases List.mem_cons.mp hv with e2 | hv1
      · refine absurd ?_ (h1 u hu1)
        rw [← e2]
        rcases al with ⟨a1, a2⟩ | ⟨a1, a2⟩
        · exact .inl ⟨a1.symm, a2.symm⟩
        · exact .inr ⟨a2.symm, a1.symm⟩
      · exact sep_eq h2 hu1 hv1 al
theorem edge_uniq {ws : List Way} (h : ws.Pairwise fun u v => ¬ Alike u v) {x y : Str} {l l' : Int} (e : Edge ws x y l) (e' : Edge ws x y l') : l = l' := by
  obtain ⟨u, hu, a, rfl⟩ := e
  obtain ⟨v, hv, b, rfl⟩ := e'
  have : u = v := sep_eq h hu hv (by
    rcases a with ⟨a1, a2⟩ | ⟨a1, a2⟩ <;> rcases b with ⟨b1, b2⟩ | ⟨b1, b2⟩
    · exact .inl ⟨a1.trans b1.symm, a2.trans b2.symm⟩
    · exact .inr ⟨a1.trans b2.symm, a2.trans b1.symm⟩
    · exact .inr ⟨a1.trans b2.symm, a2.trans b1.symm⟩
    · exact .inl ⟨a1.trans b1.symm, a2.trans b2.symm⟩)
  rw [this]
theorem edge_norm {ws ws' : List Way} (p : ws'.Perm (ws.map norm)) (x y : Str) (l : Int) : Edge ws' x y l ↔ Edge ws x y l := by
  constructor
  · rintro ⟨u, hu, h, e⟩
    obtain ⟨v, hv, rfl⟩ := List.mem_map.mp (p.mem_iff.mp hu)
    refine ⟨v, hv, ?_, e⟩
    rcases norm_ends v with ⟨e1, e2⟩ | ⟨e1, e2⟩
    · rw [e1, e2] at h; exact h
    · rw [e1, e2] at h
      rcases h with ⟨a, b⟩ | ⟨a, b⟩
      · exact .inr ⟨b, a⟩
      · exact .inl ⟨b, a⟩
  · rintro ⟨v, hv, h, e⟩
    refine ⟨norm v, p.mem_iff.mpr (List.mem_map.mpr ⟨v, hv, rfl⟩), ?_, e⟩
    rcases norm_ends v with ⟨e1, e2⟩ | ⟨e1, e2⟩
    · rw [e1, e2]; exact h
    · rw [e1, e2]
      rcases h with ⟨a, b⟩ | ⟨a, b⟩
      · exact .inr ⟨b, a⟩
      · exact .inl ⟨b, a⟩
theorem wsum_iff {ws ws' : List Way} (h : ∀ x y l, Edge ws' x y l ↔ Edge ws x y l) {x y : Str} {m : Int} : Wsum ws' x y m ↔ Wsum ws x y m := by
  constructor
  · intro g
    induction g with
    | nil x => exact .nil x
    | cons e _ ih => exact .cons ((h _ _ _).mp e) ih
  · intro g
    induction g with
    | nil x => exact .nil x
    | cons e _ ih => exact .cons ((h _ _ _).mpr e) ih
/-- the least sum -/
def Dst (ws : List Way) (x y : Str) (n : Int) : Prop := Wsum ws x y n ∧ ∀ m, Wsum ws x y m → n ≤ m
theorem Dst.near {ws : List Way} {x y : Str} {n : Int} (h : Dst ws x y n) : Near ws [x] y (n, x) := ⟨⟨by simp, h.1⟩, fun s hs m g => by
  have : s = x := by simpa using hs
  subst this
  exact leP.up (h.2 m g)⟩
theorem Near.dst {ws : List Way} {x y : Str} {p : Int × Str} (h : Near ws [x] y p) : p.2 = x ∧ Dst ws x y p.1 := by
  have e : p.2 = x := by simpa using h.1.1
  refine ⟨e, by rw [← e]; exact h.1.2, fun m g => (h.2 x (by simp) m g).fst⟩
theorem Dst.uniq {ws : List Way} {x y : Str} {n m : Int} (h : Dst ws x y n) (g : Dst ws x y m) : n = m := Int.le_antisymm (h.2 m g.1) (g.2 n h.1)
theorem Dst.symm {ws : List Way} {x y : Str} {n : Int} (h : Dst ws x y n) : Dst ws y x n := ⟨h.1.symm, fun m g => h.2 m g.symm⟩
theorem Dst.iff {ws ws' : List Way} (h : ∀ x y l, Edge ws' x y l ↔ Edge ws x y l) {x y : Str} {n : Int} : Dst ws' x y n ↔ Dst ws x y n :=
  ⟨fun ⟨a, b⟩ => ⟨(wsum_iff h).mp a, fun m g => b m ((wsum_iff h).mpr g)⟩, fun ⟨a, b⟩ => ⟨(wsum_iff h).mpr a, fun m g => b m ((wsum_iff h).mp g)⟩⟩
/-! ### by ever more places between -/
inductive WI (ws : List Way) (I : Str → Prop) : Str → Str → Int → Prop
  | edge {x y : Str} {l : Int} : Edge ws x y l → WI ws I x y l
  | cons {x y z : Str} {l m : Int} : Edge ws x y l → I y → WI ws I y z m → WI ws I x z (l + m)
theorem WI.pos {ws : List Way} (hp : ∀ u ∈ ws, 1 ≤ u.2.2) {I : Str → Prop} {x y : Str} {m : Int} (h : WI ws I x y m) : 0 ≤ m := by
  induction h with
  | edge e => obtain ⟨u, hu, _, rfl⟩ := e; have := hp u hu; omega
  | cons e _ _ ih => obtain ⟨u, hu, _, rfl⟩ := e; have := hp u hu; omega
theorem WI.ends {ws : List Way} {xs : List Str} (he : ∀ u ∈ ws, u.1 ∈ xs ∧ u.2.1 ∈ xs) {x y : Str} {l : Int} (e : Edge ws x y l) : x ∈ xs ∧ y ∈ xs := by
  obtain ⟨u, hu, h, _⟩ := e
  obtain ⟨a, b⟩ := he u hu
  rcases h with ⟨rfl, rfl⟩ | ⟨rfl, rfl⟩
  · exact ⟨a, b⟩
  · exact ⟨b, a⟩
theorem WI.split {ws : List Way} (hp : ∀ u ∈ ws, 1 ≤ u.2.2) {I J : Str → Prop} {k : Str} (hJ : ∀ z, J z → I z ∨ z = k) {x y : Str} {m : Int} (h : WI ws J x y m) : WI ws I x y m ∨ ∃ m1 m2, WI ws I x k m1 ∧ WI ws I k y m2 ∧ m1 + m2 ≤ m := by
  induction h with
  | edge e => exact .inl (.edge e)
  | @cons x a y l m e ha g ih =>
    by_cases hk : a = k
    · subst hk
      rcases ih with h | ⟨m1, m2, h1, h2, h3⟩
      · exact .inr ⟨l, m, .edge e, h, Int.le_refl _⟩
      · have := h1.pos hp
        exact .inr ⟨l, m2, .edge e, h2, by omega⟩
    · have hI : I a := (hJ a ha).resolve_right hk
      rcases ih with h | ⟨m1, m2, h1, h2, h3⟩
      · exact .inl (.cons e hI h)
      · exact .inr ⟨l + m1, m2, .cons e hI h1, h2, by omega⟩
theorem Wsum.wi {ws : List Way} {xs : List Str} (he : ∀ u ∈ ws, u.1 ∈ xs ∧ u.2.1 ∈ xs) {x y : Str} {m : Int} (h : Wsum ws x y m) : (x = y ∧ m = 0) ∨ WI ws (· ∈ xs) x y m := by
  induction h with
  | nil x => exact .inl ⟨rfl, rfl⟩
  | @cons x a y l m e g ih =>
    rcases ih with ⟨rfl, rfl⟩ | h
    · exact .inr (by rw [Int.add_zero]; exact .edge e)
    · exact .inr (.cons e (WI.ends he e).2 h)
/-- what is known of the table behind t places between -/
structure FW (ws : List Way) (xs : List Str) (t : Nat) (M : Str → Str → Option Int) : Prop where
  sound : ∀ x y n, M x y = some n → Wsum ws x y n
  comp : ∀ x y m, WI ws (· ∈ xs.take t) x y m → ∃ n, M x y = some n ∧ n ≤ m
  diag : ∀ x ∈ xs, ∃ n, M x x = some n ∧ n ≤ 0
def Mono (M0 M : Str → Str → Option Int) : Prop := ∀ x y n, M0 x y = some n → ∃ n', M x y = some n' ∧ n' ≤ n
theorem Mono.refl (M : Str → Str → Option Int) : Mono M M := fun _ _ n h => ⟨n, h, Int.le_refl _⟩
theorem Mono.trans {M0 M1 M2 : Str → Str → Option Int} (h : Mono M0 M1) (g : Mono M1 M2) : Mono M0 M2 := fun x y n e => by
  obtain ⟨n1, e1, l1⟩ := h x y n e
  obtain ⟨n2, e2, l2⟩ := g x y n1 e1
  exact ⟨n2, e2, by omega⟩
theorem FW.next {ws : List Way} (hp : ∀ u ∈ ws, 1 ≤ u.2.2) {xs : List Str} (he : ∀ u ∈ ws, u.1 ∈ xs ∧ u.2.1 ∈ xs) {t : Nat} {k : Str} (hk : xs[t]? = some k) {M0 M : Str → Str → Option Int} (h : FW ws xs t M0) (mo : Mono M0 M) (so : ∀ x y n, M x y = some n → Wsum ws x y n)
    (via : ∀ x ∈ xs, ∀ y ∈ xs, ∀ n1 n2, M0 x k = some n1 → M0 k y = some n2 → ∃ n, M x y = some n ∧ n ≤ n1 + n2) : FW ws xs (t + 1) M := by
  refine ⟨so, fun x y m g => ?_, fun x hx => ?_⟩
  · have ex : x ∈ xs ∧ y ∈ xs := by
      clear mo so via h
      induction g with
      | edge e => exact WI.ends he e
      | cons e _ _ ih => exact ⟨(WI.ends he e).1, ih.2⟩
    rcases g.split hp (I := (· ∈ xs.take t)) (k := k) (fun z hz => by
      rw [List.take_add_one, hk] at hz
      rcases List.mem_append.mp hz with hz | hz
      · exact .inl hz
      · exact .inr (by simpa using hz)) with g | ⟨m1, m2, g1, g2, le⟩
    · obtain ⟨n, e, l⟩ := h.comp x y m g
      obtain ⟨n', e', l'⟩ := mo x y n e
      exact ⟨n', e', by omega⟩
    · obtain ⟨n1, e1, l1⟩ := h.comp x k m1 g1
      obtain ⟨n2, e2, l2⟩ := h.comp k y m2 g2
      obtain ⟨n, e, l⟩ := via x ex.1 y ex.2 n1 n2 e1 e2
      exact ⟨n, e, by omega⟩
  · obtain ⟨n, e, l⟩ := h.diag x hx
    obtain ⟨n', e', l'⟩ := mo x x n e
    exact ⟨n', e', by omega⟩
theorem FW.done {ws : List Way} {xs : List Str} (he : ∀ u ∈ ws, u.1 ∈ xs ∧ u.2.1 ∈ xs) (jn : Joined xs ws) {M : Str → Str → Option Int} (h : FW ws xs xs.length M) : ∀ x ∈ xs, ∀ y ∈ xs, ∃ n, M x y = some n ∧ Dst ws x y n := by
  intro x hx y hy
  obtain ⟨m, hm⟩ : ∃ m, Wsum ws x y m := jn.all (fun y => ∃ m, Wsum ws x y m) (fun a b ⟨u, hu, e⟩ ⟨m, g⟩ => ⟨m + u.2.2, g.snoc ⟨u, hu, e, rfl⟩⟩) hx ⟨0, .nil x⟩ y hy
  have low : ∀ m, Wsum ws x y m → ∃ n, M x y = some n ∧ n ≤ m := fun m g => by
    rcases g.wi he with ⟨rfl, rfl⟩ | g
    · exact h.diag x hx
    · refine h.comp x y m ?_
      rw [List.take_length]
      exact g
  obtain ⟨n, e, _⟩ := low m hm
  refine ⟨n, e, h.sound x y n e, fun m' g => ?_⟩
  obtain ⟨n', e', l⟩ := low m' g
  rw [e] at e'
  cases e'
  exact l
/-- a dict of ints by two texts -/
def MD (H : Hp) (A : Addr) (M : Str → Str → Option Int) (c : Nat) : Prop := ∃ kvs : List (List Key × V), H A = some (.dT kvs) ∧ kvs.length ≤ c ∧ ∀ x y, valV kvs [Sum.inr x, Sum.inr y] = (M x y).map V.int
theorem MD.same {H H' : Hp} {A : Addr} {M : Str → Str → Option Int} {c : Nat} (h : MD H A M c) (s : Same H H') : MD H' A M c := let ⟨kvs, a, b, d⟩ := h; ⟨kvs, s _ _ a, b, d⟩
theorem MD.get {H : Hp} {A t : Addr} {M : Str → Str → Option Int} {c : Nat} (h : MD H A M c) {x y : Str} (ht : H t = some (.tup [.str x, .str y])) : DGet H A (.ref t) ((M x y).map V.int) := by
  obtain ⟨kvs, a, _, d⟩ := h
  rw [← d x y]
  exact DGet.t (k := [Sum.inr x, Sum.inr y]) a ht
def setM (M : Str → Str → Option Int) (x y : Str) (n : Int) : Str → Str → Option Int := fun a b => if a = x ∧ b = y then some n else M a b
theorem MD.put {H : Hp} {A t : Addr} {M : Str → Str → Option Int} {c : Nat} (h : MD H A M c) (hc : c < sizeLine) {x y : Str} {n : Int} (ht : H t = some (.tup [.str x, .str y])) : ∃ H', DPut H A (.ref t) (.int n) H' ∧ MD H' A (setM M x y n) (c + 1) ∧ ∃ kvs, H' = upd H A (.dT kvs) := by
  obtain ⟨kvs, a, b, d⟩ := h
  refine ⟨_, DPut.t (k := [Sum.inr x, Sum.inr y]) a ht (by omega), ⟨_, upd_same, ?_, fun p q => ?_⟩, _, rfl⟩
  · have := length_putK kvs [Sum.inr x, Sum.inr y] (V.int n)
    omega
  · rw [valV_put]
    unfold setM
    by_cases e : p = x ∧ q = y
    · obtain ⟨rfl, rfl⟩ := e
      simp
    · have e' : ¬ ([Sum.inr p, Sum.inr q] : List Key) = [Sum.inr x, Sum.inr y] := fun z => by
        simp only [List.cons.injEq, Sum.inr.injEq, and_true] at z
        exact e z
      rw [if_neg e', if_neg e, d]
def spMuch (K : PySem.W.Frag) : Sp := fun vs H Q _ => ∃ (D E : Addr) (xs : List Str) (us : List V) (ws : List Way), vs = [.ref D, .ref E] ∧ H D = some (.lst (xs.map V.str)) ∧ xs.length ≤ 30 ∧ H E = some (.lst us) ∧ Dats H us (ws.map wayD) ∧ ws.length < 64 ∧ WaysC xs ws ∧
  ∀ (H' : Hp) (A : Addr) (M : Str → Str → Option Int) (c : Nat), Same H H' → H A = none → MD H' A M c → (∀ x ∈ xs, ∀ y ∈ xs, ∃ n, M x y = some n ∧ Dst ws x y n) → Q (.ref A) H'
def spFars (K : PySem.W.Frag) : Sp := fun vs H Q _ => ∃ (q : Addr) (ps : List Str) (ws : List Way) (r x : Str), vs = [.ref q, .str x] ∧ WebOk H q ps ws r ∧ (∀ u ∈ ws, 1 ≤ u.2.2) ∧ (∀ x y l l', Edge ws x y l → Edge ws x y l' → l = l') ∧ x ∈ ps ∧
  ∀ (H' : Hp) (B : Addr) (nv : List (Str × V)), Same H H' → H B = none → H' B = some (.dK (sK nv)) → nv.map (·.1) = ps → (∀ y v, (y, v) ∈ nv → ∃ n, v = .int n ∧ Dst ws x y n) → Q (.ref B) H'
def spFar (K : PySem.W.Frag) : Sp := fun vs H Q _ => ∃ (q : Addr) (ps : List Str) (ws : List Way) (r x y : Str), vs = [.ref q, .str x, .str y] ∧ WebOk H q ps ws r ∧ (∀ u ∈ ws, 1 ≤ u.2.2) ∧ (∀ x y l l', Edge ws x y l → Edge ws x y l' → l = l') ∧ x ∈ ps ∧ y ∈ ps ∧
  ∀ (H' : Hp) (n : Int), Same H H' → Dst ws x y n → Q (.int n) H'
def spWhole (K : PySem.W.Frag) : Sp := fun vs H Q _ => ∃ n : Int, vs = [.int n] ∧ Q (.bl true) H
end L2

set_option Elab.async false
set_option linter.all false
set_option maxRecDepth 100000
set_option maxHeartbeats 4000000
namespace K04
open PySem L2
def top (i : Nat) : Stmt := PySem.Challenge.pw_openhouses_k04_how_far.main.body.getD i (.Pass ⟨0, 0, 0, 0⟩)
abbrev s_neighbours : Stmt := top 1
theorem sc_neighbours : FnScope ["web", "places", "ways", "beside", "one", "other", "length"] ["web"] (defScope s_neighbours) := ⟨rfl, rfl, rfl, by decide +kernel, rfl, by decide +kernel, by decide +kernel⟩
abbrev s_far : Stmt := top 3
theorem sc_far : FnScope ["web", "one", "other"] ["web", "one", "other"] (defScope s_far) := ⟨rfl, rfl, rfl, by decide +kernel, rfl, by decide +kernel, by decide +kernel⟩
abbrev s_fars : Stmt := top 4
theorem sc_fars : FnScope ["web", "place", "told"] ["web", "place"] (defScope s_fars) := ⟨rfl, rfl, rfl, by decide +kernel, rfl, by decide +kernel, by decide +kernel⟩
abbrev s_nearest : Stmt := top 5
theorem sc_nearest : FnScope ["web", "starts", "beside", "reached", "settled", "so_far", "start", "here", "name", "by_here"] ["web", "starts"] (defScope s_nearest) := ⟨rfl, rfl, rfl, by decide +kernel, rfl, by decide +kernel, by decide +kernel⟩
abbrev s_law_pen : Stmt := top 7
theorem sc_law_pen : FnScope ["_law_script"] ["_law_script"] (defScope s_law_pen) := ⟨rfl, rfl, rfl, by decide +kernel, rfl, by decide +kernel, by decide +kernel⟩
abbrev s_law_take : Stmt := top 8
theorem sc_law_take : FnScope ["_law_pen_here", "_law_many", "_law_digit", "_law_script", "_law_at", "_law_cell", "_law_number"] ["_law_pen_here", "_law_many"] (defScope s_law_take) := ⟨rfl, rfl, rfl, by decide +kernel, rfl, by decide +kernel, by decide +kernel⟩
abbrev s_law_names : Stmt := top 9
theorem sc_law_names : FnScope ["_law_pen_here", "_law_many", "_law_letters", "_law_names_here", "_law_k", "_law_name", "_law_j", "_law_spare"] ["_law_pen_here", "_law_many"] (defScope s_law_names) := ⟨rfl, rfl, rfl, by decide +kernel, rfl, by decide +kernel, by decide +kernel⟩
abbrev s_law_length : Stmt := top 10
theorem sc_law_length : FnScope ["_law_pen_here", "_law_kind"] ["_law_pen_here"] (defScope s_law_length) := ⟨rfl, rfl, rfl, by decide +kernel, rfl, by decide +kernel, by decide +kernel⟩
abbrev s_law_ways : Stmt := top 11
theorem sc_law_ways : FnScope ["_law_pen_here", "_law_names_here", "_law_shape", "_law_ways_here", "_law_k", "_law_there", "_law_j", "_law_other"] ["_law_pen_here", "_law_names_here"] (defScope s_law_ways) := ⟨rfl, rfl, rfl, by decide +kernel, rfl, by decide +kernel, by decide +kernel⟩
abbrev s_law_laid : Stmt := top 12
theorem sc_law_laid : FnScope ["_law_names_here", "_law_ways_here", "_law_put"] ["_law_names_here", "_law_ways_here"] (defScope s_law_laid) := ⟨rfl, rfl, rfl, by decide +kernel, rfl, by decide +kernel, by decide +kernel⟩
abbrev s_law_much : Stmt := top 13
theorem sc_law_much : FnScope ["_law_names_here", "_law_ways_here", "_law_much_here", "_law_name", "_law_one", "_law_other", "_law_length_here", "_law_middle", "_law_found"] ["_law_names_here", "_law_ways_here"] (defScope s_law_much) := ⟨rfl, rfl, rfl, by decide +kernel, rfl, by decide +kernel, by decide +kernel⟩
abbrev s_law_whole : Stmt := top 14
theorem sc_law_whole : FnScope ["_law_thing"] ["_law_thing"] (defScope s_law_whole) := ⟨rfl, rfl, rfl, by decide +kernel, rfl, by decide +kernel, by decide +kernel⟩
abbrev s_law_chart : Stmt := top 15
theorem sc_law_chart : FnScope ["_law_pen_here", "_law_names_here", "_law_ways_here"] ["_law_pen_here"] (defScope s_law_chart) := ⟨rfl, rfl, rfl, by decide +kernel, rfl, by decide +kernel, by decide +kernel⟩
abbrev s_law_right : Stmt := top 16
theorem sc_law_right : FnScope ["_law_chart_here", "_law_names_here", "_law_asked", "_law_much_here", "_law_one", "_law_due", "_law_told", "_law_other", "_law_between"] ["_law_chart_here", "_law_names_here", "_law_asked", "_law_much_here"] (defScope s_law_right) := ⟨rfl, rfl, rfl, by decide +kernel, rfl, by decide +kernel, by decide +kernel⟩
abbrev s_law : Stmt := top 17
theorem sc_law : FnScope ["_law_script", "_law_pen_here", "_law_turn", "_law_names_here", "_law_ways_here", "_law_asked"] ["_law_script"] (defScope s_law) := ⟨rfl, rfl, rfl, by decide +kernel, rfl, by decide +kernel, by decide +kernel⟩
end K04

set_option maxRecDepth 100000
set_option maxHeartbeats 4000000
namespace K04
open PySem L2
structure TxtP (K : PySem.W.Frag) (mg : Str → Option Value) : Prop where
  len : mg "len" = none
  abs : mg "abs" = none
section
variable {P : Program} {w : World} {K : PySem.W.Frag} {mg : Str → Option Value} {base : Heap}
theorem ok_pen {f : Addr} {fd : FuncData} (F : Fun K "_law_pen" "_law_pen" s_law_pen f fd) : FnOk P w K mg base CX0 1 f fd ["_law_script"] (spPen K) := by
  refine F.ok sc_law_pen (fun vs H Q E h => ?_) (fun cdv A outer s H vs Q E hr h => ?_)
  · obtain ⟨a, rfl, _⟩ := h
    rfl
  · obtain ⟨a, rfl, k⟩ := h
    refine ⟨_, pss_one (ps_ret (pe_disp (pps_cons pe_str (pv 0) (pps_cons pe_str pe_int (pps_cons pe_str pe_int pps_nil))) rfl rfl (by intro z; cases z) (by decide))), ?_⟩
    intro p hp
    refine ⟨_, rfl, upd_same, [(.inr "script", .ref a), (.inr "at", .int 0), (.inr "left", .int 0)], rfl, (by show 3 ≤ 15; decide), ?_⟩
    rw [upd_upd]
    exact k p hp

theorem absI (c : Int) : 0 ≤ (if c < 0 then -c else c) := by split <;> omega
theorem ok_take {f : Addr} {fd : FuncData} (T : TxtP K mg) (F : Fun K "_law_take" "_law_take" s_law_take f fd) : FnOk P w K mg base CX0 1 f fd ["_law_pen_here", "_law_many"] (spTake K) := by
  refine F.ok sc_law_take (fun vs H Q E h => ?_) (fun cdv A outer s H vs Q E hr h => ?_)
  · obtain ⟨p, a, ns, i, l, m, rfl, _⟩ := h
    rfl
  · obtain ⟨p, a, ns, i, l, m, rfl, ⟨hd, hS, hi⟩, hm, hm2, hlen, k⟩ := h
    have hu := hu_of hr
    refine ⟨_, pss_cons (ps_if (pt_cmpR op_gt (pe_dget hu (pv 0) pe_str (fun _ _ => rfl)) pe_int (nomark _))
        (pss_cons (ps_set (i := 2) sc_law_take.nd rfl (Or.inl rfl) (pe_op op_mod (pe_dget hu (pv 0) pe_str (fun _ _ => rfl)) (pv 1)))
          (pss_cons (ps_dput hu (pv 0) pe_str (pe_op op_fdiv (pe_dget hu (pv 0) pe_str (fun _ _ => rfl)) (pv 1)) rfl) (pss_one (ps_ret (pv 2))))) pss_nil)
      (pss_cons (ps_set (i := 3) sc_law_take.nd rfl (Or.inl rfl) (pe_dget hu (pv 0) pe_str (fun _ _ => rfl)))
      (pss_cons (ps_set (i := 4) sc_law_take.nd rfl (Or.inl rfl) (pe_dget hu (pv 0) pe_str (fun _ _ => rfl)))
      (pss_cons (ps_dput hu (pv 0) pe_str (pe_op op_add (pv 4) pe_int) rfl)
      (pss_cons (ps_set (i := 5) sc_law_take.nd rfl (Or.inl rfl) (pe_op op_add (pe_op op_mul pe_int (pv 4)) pe_int))
      (pss_cons (ps_if (pt_cmpR op_lt (pv 4) (pe_callB call_len_seq (by rfl) T.len PySem.boot_len (pa_cons (pv 3) pa_nil)) (nomark _))
          (pss_cons (ps_set (i := 5) sc_law_take.nd rfl (Or.inl rfl) (pe_ix ix_list (pv 3) (pv 4) (fun _ _ => rfl)))
          (pss_one (ps_if (pt_cmpR op_ge (pe_callB call_abs (by rfl) T.abs PyProof.Rows.boot_abs (pa_cons (pv 5) pa_nil)) (pe_op op_pow pe_int pe_int) (nomark _))
            (pss_cons (ps_dput hu (pv 0) pe_str (pe_op op_fdiv (pe_callB call_abs (by rfl) T.abs PyProof.Rows.boot_abs (pa_cons (pv 5) pa_nil)) (pv 1)) rfl)
              (pss_one (ps_ret (pe_op op_mod (pe_callB call_abs (by rfl) T.abs PyProof.Rows.boot_abs (pa_cons (pv 5) pa_nil)) (pv 1))))) pss_nil)))
          (pss_one (ps_if (pt_cmpR op_gt (pe_callB call_len_seq (by rfl) T.len PySem.boot_len (pa_cons (pv 3) pa_nil)) pe_int (nomark _))
            (pss_one (ps_set (i := 5) sc_law_take.nd rfl (Or.inl rfl) (pe_op op_add (pe_op op_mod (pe_ix ix_list (pv 3) (pe_op op_mod (pv 4) (pe_callB call_len_seq (by rfl) T.len PySem.boot_len (pa_cons (pv 3) pa_nil))) (fun _ _ => rfl)) (pe_op op_pow pe_int pe_int)) (pe_op op_mul pe_int (pv 4))))) pss_nil)))
      (pss_cons (ps_set (i := 6) sc_law_take.nd rfl (Or.inl rfl) (pe_op op_mod (pe_op op_mul (pe_op op_add (pe_op op_add (pe_op op_mod (pv 5) pe_int) (pe_op op_mul pe_int (pv 4))) pe_int) pe_int) pe_int))
      (pss_cons (ps_set (i := 6) sc_law_take.nd rfl (Or.inl rfl) (pe_op op_mod (pe_op op_add (pe_op op_mul (pv 6) (pe_op op_add (pe_op op_mod (pv 6) pe_int) pe_int)) pe_int) pe_int))
      (pss_one (ps_ret (pe_op op_mod (pe_op op_fdiv (pv 6) pe_int) (pv 1))))))))))), ?_⟩
    have dg : ∀ {H' : Hp} {i' l' : Int}, H' p = some (.dK (penK a i' l')) → DGet H' p (.str "left") (some (.int l')) := fun h => DGet.k (k := Sum.inr "left") h
    refine ⟨_, rfl, p, _, rfl, dg hd, _, _, rfl, rfl, _, rfl, ?_⟩
    refine ite2 (fun _ => ?_) (fun _ => ?_)
    · refine ⟨_, rfl, p, _, rfl, dg hd, _, rfl, _, _, rfl, rfl, hm, ?_⟩
      refine ⟨_, rfl, p, _, rfl, dg hd, _, rfl, _, _, rfl, rfl, ⟨hm, hm2⟩, _, rfl, p, _, rfl, DPut.k (k := Sum.inr "left") hd pen_len, _, rfl, ?_⟩
      rw [put_left]
      exact k _ _ _ (Int.emod_nonneg _ (by omega)) (Int.emod_lt_of_pos _ hm) ⟨upd_same, seq_upd hd hS, hi⟩
    · -- script, at
      refine ⟨_, rfl, p, _, rfl, DGet.k (k := Sum.inr "script") hd, ?_⟩
      refine ⟨_, rfl, p, _, rfl, DGet.k (k := Sum.inr "at") hd, ?_⟩
      refine ⟨_, rfl, _, _, rfl, rfl, _, rfl, p, _, rfl, DPut.k (k := Sum.inr "at") hd pen_len, ?_⟩
      rw [put_at]
      have hd1 : (upd H p (.dK (penK a (i + 1) l))) p = some (.dK (penK a (i + 1) l)) := upd_same
      have hS0 := seq_upd (o := .dK (penK a (i + 1) l)) hd hS
      have hS1 : SqL K (upd H p (.dK (penK a (i + 1) l))) a (ns.map V.int) := hS0.sq
      refine ⟨_, rfl, _, _, rfl, rfl, .inl ⟨by decide, by decide⟩, _, _, rfl, rfl, ?_⟩
      -- if at < len(script)
      refine ⟨_, rfl, _, rfl, a, _, rfl, .inl hS1, _, _, rfl, rfl, _, rfl, ?_⟩
      have last : ∀ (d : Int), 0 ≤ d → d < m → Q (.int d) (upd H p (.dK (penK a (i + 1) l))) := fun d h0 h1 => k d _ _ h0 h1 ⟨upd_same, hS0, by omega⟩
      refine ite2 (fun hlt => ?_) (fun hge => ?_)
      · rw [decide_eq_true_eq, List.length_map] at hlt
        obtain ⟨c, hc⟩ := at_ns hi hlt
        refine ⟨_, rfl, _, rfl, a, _, _, _, rfl, rfl, hS1, hc, ?_⟩
        refine ⟨_, rfl, _, rfl, _, _, rfl, rfl, ⟨by decide, by decide, by decide⟩, _, _, rfl, rfl, _, rfl, ?_⟩
        refine ite2 (fun _ => ?_) (fun _ => ?_)
        · refine ⟨_, rfl, _, rfl, _, rfl, _, _, rfl, rfl, ⟨hm, hm2⟩, _, rfl, p, _, rfl, DPut.k (k := Sum.inr "left") hd1 pen_len, ?_⟩
          rw [put_left, upd_upd]
          refine ⟨_, rfl, _, rfl, _, rfl, _, _, rfl, rfl, hm, ?_⟩
          exact k _ _ _ (Int.emod_nonneg _ (by omega)) (Int.emod_lt_of_pos _ hm) ⟨upd_same, seq_upd hd hS, by omega⟩
        · refine ⟨_, rfl, _, _, rfl, rfl, (by show (0 : Int) < 2147483629; decide), _, rfl, _, _, rfl, rfl, .inl ⟨by decide, by decide⟩, _, _, rfl, rfl, _, _, rfl, rfl, _, _, rfl, rfl, .inr ⟨by decide, by decide⟩, _, _, rfl, rfl, (by show (0 : Int) < 2147483587; decide), ?_⟩
          refine ⟨_, rfl, _, rfl, _, _, rfl, rfl, (by show (0 : Int) < 65521; decide), _, _, rfl, rfl, _, _, rfl, rfl, .inl ⟨Int.lt_of_lt_of_le (by decide) (Int.emod_nonneg _ (by decide)), Int.lt_trans (Int.emod_lt_of_pos _ (by decide)) (by decide)⟩, _, _, rfl, rfl, _, _, rfl, rfl, (by show (0 : Int) < 2147483563; decide), ?_⟩
          refine ⟨_, rfl, _, _, rfl, rfl, ⟨by decide, by decide⟩, _, rfl, _, _, rfl, rfl, hm, ?_⟩
          exact last _ (Int.emod_nonneg _ (by omega)) (Int.emod_lt_of_pos _ hm)
      · rw [decide_eq_true_eq, List.length_map] at hge
        refine ⟨_, rfl, a, _, rfl, .inl hS1, _, _, rfl, rfl, _, rfl, ?_⟩
        refine ite2 (fun hpos => ?_) (fun _ => ?_)
        · rw [decide_eq_true_eq, List.length_map] at hpos
          have hl0 : (0 : Int) < ((ns.map V.int).length : Int) := by rw [List.length_map]; exact hpos
          obtain ⟨c, hc⟩ := at_ns (ns := ns) (i := i % ((ns.map V.int).length : Int)) (Int.emod_nonneg _ (by omega)) (by rw [List.length_map]; exact Int.emod_lt_of_pos _ hpos)
          refine ⟨_, rfl, _, rfl, _, rfl, a, _, rfl, .inl hS1, _, _, rfl, rfl, hl0, a, _, _, _, rfl, rfl, hS1, hc, ?_⟩
          refine ⟨_, _, rfl, rfl, ⟨by decide, by decide, by decide⟩, _, _, rfl, rfl, (by show (0 : Int) < 10 ^ 17; decide), _, rfl, _, _, rfl, rfl, .inl ⟨by decide, by decide⟩, _, _, rfl, rfl, ?_⟩
          refine ⟨_, rfl, _, _, rfl, rfl, (by show (0 : Int) < 2147483629; decide), _, rfl, _, _, rfl, rfl, .inl ⟨by decide, by decide⟩, _, _, rfl, rfl, _, _, rfl, rfl, _, _, rfl, rfl, .inr ⟨by decide, by decide⟩, _, _, rfl, rfl, (by show (0 : Int) < 2147483587; decide), ?_⟩
          refine ⟨_, rfl, _, rfl, _, _, rfl, rfl, (by show (0 : Int) < 65521; decide), _, _, rfl, rfl, _, _, rfl, rfl, .inl ⟨Int.lt_of_lt_of_le (by decide) (Int.emod_nonneg _ (by decide)), Int.lt_trans (Int.emod_lt_of_pos _ (by decide)) (by decide)⟩, _, _, rfl, rfl, _, _, rfl, rfl, (by show (0 : Int) < 2147483563; decide), ?_⟩
          refine ⟨_, rfl, _, _, rfl, rfl, ⟨by decide, by decide⟩, _, rfl, _, _, rfl, rfl, hm, ?_⟩
          exact last _ (Int.emod_nonneg _ (by omega)) (Int.emod_lt_of_pos _ hm)
        · refine ⟨_, rfl, _, _, rfl, rfl, (by show (0 : Int) < 2147483629; decide), _, rfl, _, _, rfl, rfl, .inl ⟨by decide, by decide⟩, _, _, rfl, rfl, _, _, rfl, rfl, _, _, rfl, rfl, .inr ⟨by decide, by decide⟩, _, _, rfl, rfl, (by show (0 : Int) < 2147483587; decide), ?_⟩
          refine ⟨_, rfl, _, rfl, _, _, rfl, rfl, (by show (0 : Int) < 65521; decide), _, _, rfl, rfl, _, _, rfl, rfl, .inl ⟨Int.lt_of_lt_of_le (by decide) (Int.emod_nonneg _ (by decide)), Int.lt_trans (Int.emod_lt_of_pos _ (by decide)) (by decide)⟩, _, _, rfl, rfl, _, _, rfl, rfl, (by show (0 : Int) < 2147483563; decide), ?_⟩
          refine ⟨_, rfl, _, _, rfl, rfl, ⟨by decide, by decide⟩, _, rfl, _, _, rfl, rfl, hm, ?_⟩
          exact last _ (Int.emod_nonneg _ (by omega)) (Int.emod_lt_of_pos _ hm)
/-- the pen's take, as it stands behind the top -/
structure TakeF (K : PySem.W.Frag) (mg : Str → Option Value) (fT : Addr) (fdT : FuncData) : Prop where
  T : TxtP K mg
  F : Fun K "_law_take" "_law_take" s_law_take fT fdT
  mg : mg "_law_take" = some (.ref fT)
  b : Binds K fdT ["_law_pen_here", "_law_many"] []
theorem TakeF.ok {fT : Addr} {fdT : FuncData} (h : TakeF K mg fT fdT) : FnOk P w K mg base CX0 1 fT fdT ["_law_pen_here", "_law_many"] (spTake K) := ok_take h.T h.F
end
end K04

set_option maxRecDepth 100000
set_option maxHeartbeats 4000000
namespace K04
open PySem L2
section
variable {P : Program} {w : World} {K : PySem.W.Frag} {mg : Str → Option Value} {base : Heap}
theorem ok_names {f fT : Addr} {fd fdT : FuncData} (TK : TakeF K mg fT fdT) (hrg : mg "range" = none) (F : Fun K "_law_names" "_law_names" s_law_names f fd) : FnOk P w K mg base CX0 2 f fd ["_law_pen_here", "_law_many"] (spNames K) := by
  have GT : FnOk P w K mg base CX0 1 fT fdT ["_law_pen_here", "_law_many"] (spTake K) := TK.ok
  refine F.ok sc_law_names (fun vs H Q E h => ?_) (fun cdv A outer s H vs Q E hr h => ?_)
  · obtain ⟨p, a, ns, i, l, n, rfl, _⟩ := h
    rfl
  · obtain ⟨p, a, ns, i, l, n, rfl, hP, hlen, hn, k⟩ := h
    have hu64 := hr.units
    have big : 1000 < sizeLine := by decide
    have nd := sc_law_names.nd
    -- behind the first if: the letters, the spare names, the append
    have rest : ∃ t, PSs (cxOf CX0 P w K mg base ["_law_pen_here", "_law_many", "_law_letters", "_law_names_here", "_law_k", "_law_name", "_law_j", "_law_spare"] "_law_names" (defScope s_law_names) f cdv A outer s H E).nox
        ((forBody ((defBody s_law_names).getD 2 (.Pass ⟨0, 0, 0, 0⟩))).drop 2) t ∧
        ∀ (D : Ends) (d : Addr) (xs : List Str) (z : Str) (v4 v6 v7 : Option V) (H3 : Hp) (i3 l3 : Int), Low z → z.length ≤ 5 → PenAt K H3 p a ns i3 l3 → H3 d = some (.lst (xs.map V.str)) → xs.length ≤ 29 → (∀ x ∈ xs, nameB x = true) →
          (∀ (z' : Str) (v6 v7 : Option V) (H4 : Hp) (i4 l4 : Int), nameB z' = true → ¬ z' ∈ xs → PenAt K H4 p a ns i4 l4 → (∀ b o, b ≠ p → b ≠ d → H3 b = some o → H4 b = some o) → H4 d = some (.lst ((xs ++ [z']).map V.str)) →
            D.nx [some (.ref p), some (.int n), some (.str letters), some (.ref d), v4, some (.str z'), v6, v7] H4) →
          t D [some (.ref p), some (.int n), some (.str letters), some (.ref d), v4, some (.str z), v6, v7] H3 := by
      refine ⟨_, pss_cons (ps_for PassesOwn.never rfl (pi_range1 rfl hrg (pa_cons (pe_op op_add pe_int (pe_call GT hr (by rfl) TK.mg TK.F.kp TK.b .nil pass0 (pa_cons (pv 0) (pa_cons (pe_op op_sub pe_int (pe_callB call_len_str (by rfl) TK.T.len PySem.boot_len (pa_cons (pv 5) pa_nil))) pa_nil)))) pa_nil)) (pg_name (i := 6) nd rfl (Or.inl rfl))
          (pss_one (ps_set (i := 5) nd rfl (Or.inl rfl) (pe_op op_add_str (pv 5) (pe_ix ix_str (pv 2) (pe_call GT hr (by rfl) TK.mg TK.F.kp TK.b .nil pass0 (pa_cons (pv 0) (pa_cons pe_int pa_nil))) (fun _ _ => rfl))))))
        (pss_cons (ps_set (i := 7) nd rfl (Or.inl rfl) pe_int)
        (pss_cons (ps_while PassesOwn.never (pt_cmpR op_in_seq (pv 5) (pv 3) (by rfl))
          (pss_cons (ps_set (i := 5) nd rfl (Or.inl rfl) (pe_op op_add_str (pe_ix ix_str (pv 2) (pe_op op_mod (pe_op op_fdiv (pv 7) pe_int) pe_int) (fun _ _ => rfl)) (pe_ix ix_str (pv 2) (pe_op op_mod (pv 7) pe_int) (fun _ _ => rfl))))
          (pss_one (ps_set (i := 7) nd rfl (Or.inl rfl) (pe_op op_add (pv 7) pe_int)))))
        (pss_one (ps_expr (pe_bm PySem.F.plainAttrs_list PySem.F.slot_list_append PySem.F.type_list_append mt_append (pv 3) (pa_cons (pv 5) pa_nil)))))), ?_⟩
      intro D d xs z v4 v6 v7 H3 i3 l3 hz hz5 P3 hd hxs hnm kk
      refine ⟨_, rfl, _, rfl, z, rfl, by omega, _, _, rfl, rfl, p, a, ns, i3, l3, _, rfl, P3, by omega, by omega, hlen, fun e0 i4 l4 e0a e0b P4 => ⟨_, _, rfl, rfl, _, rfl, by omega, by omega, ?_⟩⟩
      refine for_range (lo := 0) (fun j σ H' => ∃ (z2 : Str) (v6 : Option V) (i' l' : Int), σ = [some (.ref p), some (.int n), some (.str letters), some (.ref d), v4, some (.str z2), v6, v7] ∧ Low z2 ∧ z2.length = z.length + j ∧ H' = upd H3 p (.dK (penK a i' l')) ∧ PenAt K H' p a ns i' l')
        ⟨z, v6, i4, l4, rfl, hz, rfl, rfl, P4⟩ ?_ ?_
      · rintro j σ H' hj ⟨z2, v6, i5, l5, rfl, hz2, hl2, rfl, P5⟩
        refine ⟨_, rfl, _, rfl, _, rfl, p, a, ns, i5, l5, 26, rfl, P5, by decide, by decide, hlen, fun e i6 l6 ea eb P6 => ?_⟩
        obtain ⟨c, hc⟩ := at_some (l := letters.cps.toList) ea eb
        refine ⟨_, _, c, rfl, rfl, by decide, hc, _, _, rfl, rfl, ?_, ?_⟩
        · show z2.length + 1 ≤ sizeLine
          omega
        · rw [upd_upd] at P6 ⊢
          refine ⟨_, _, i6, l6, rfl, low_app hz2 (letters_low c (at_mem hc)), ?_, rfl, P6⟩
          rw [Str.length_append]
          show z2.length + 1 = z.length + (j + 1)
          omega
      · rintro σ H' ⟨z2, v6, i5, l5, rfl, hz2, hl2, rfl, P5⟩
        have hd5 := keep_pen (i' := i5) (l' := l5) P3.dc hd (by intro z; cases z)
        have nm2 : nameB z2 = true := nameB_of (by omega) (by omega) hz2
        -- spare = 0; while name in names
        refine while_by (fun σ H6 => ∃ (z3 : Str) (m : Nat), σ = [some (.ref p), some (.int n), some (.str letters), some (.ref d), v4, some (.str z3), v6, some (.int m)] ∧ H6 = upd H3 p (.dK (penK a i5 l5)) ∧ nameB z3 = true ∧ (∀ q, q + 1 < m → combo q ∈ xs) ∧ (∀ q, m = q + 1 → z3 = combo q))
          (fun σ _ => match σ with | [_, _, _, _, _, _, _, some (.int m)] => 100 - m.toNat | _ => 0) ⟨z2, 0, rfl, rfl, nm2, fun q hq => (by omega), fun q hq => (by omega)⟩ ?_ ?_
        · rintro σ H6 ⟨z3, m, rfl, rfl, nm3, h1, h2⟩
          refine ⟨_, rfl, _, rfl, d, _, rfl, .inl (SqL.of hd5), rfl, flat_strs xs, _, rfl, ?_⟩
          rw [if_neg Bool.false_ne_true, inV_strs]
          refine ite2 (fun hin => ?_) (fun hout => ?_)
          · rw [decide_eq_true_eq] at hin
            have hm : m ≤ 30 := by
              refine combo_bound (xs := xs) (fun q hq => ?_) (by omega)
              by_cases e : m = q + 1
              · rw [← h2 q e]; exact hin
              · exact h1 q (by omega)
            have d1 : 0 ≤ (m : Int) / 26 % 26 := Int.emod_nonneg _ (by decide)
            have d2 : (m : Int) / 26 % 26 < 26 := Int.emod_lt_of_pos _ (by decide)
            have d3 : 0 ≤ (m : Int) % 26 := Int.emod_nonneg _ (by decide)
            have d4 : (m : Int) % 26 < 26 := Int.emod_lt_of_pos _ (by decide)
            refine ⟨_, rfl, _, rfl, _, _, rfl, rfl, ⟨by decide, by decide⟩, _, _, rfl, rfl, (by show (0 : Int) < 26; decide), _, _, _, rfl, rfl, by decide, letter_at d1 d2, _, rfl, _, rfl, _, _, rfl, rfl, (by show (0 : Int) < 26; decide), _, _, _, rfl, rfl, by decide, letter_at d3 d4, _, _, rfl, rfl, ?_, _, rfl, _, _, rfl, rfl, ?_⟩
            · show 1 + 1 ≤ sizeLine
              omega
            · have e : (⟨#[97 + ((m : Int) / 26 % 26).toNat]⟩ : Str) ++ ⟨#[97 + ((m : Int) % 26).toNat]⟩ = combo m := by
                unfold combo
                rw [show ((m : Int) / 26 % 26).toNat = m / 26 % 26 by omega, show ((m : Int) % 26).toNat = m % 26 by omega]
              refine ⟨⟨_, m + 1, rfl, rfl, ?_, fun q hq => ?_, fun q hq => ?_⟩, ?_⟩
              · rw [e]; exact combo_name m
              · by_cases e2 : m = q + 1
                · rw [← h2 q e2]; exact hin
                · exact h1 q (by omega)
              · rw [e]
                congr 1
                omega
              · show 100 - ((m : Int) + 1).toNat < 100 - (m : Int).toNat
                omega
          · rw [decide_eq_true_eq] at hout
            refine ⟨_, rfl, .inl ⟨rfl, _, SqL.of hd5⟩, _, rfl, d, _, _, rfl, rfl, hd5, ?_, ?_⟩
            · rw [List.length_map]
              omega
            · have pd : d ≠ p := ne_of hd P3.dc (by intro z; cases z)
              refine kk z3 v6 _ _ i5 l5 nm3 hout (P5.other hd5 (by intro _ _ z; cases z) (by intro _ z; cases z)) (fun b o hb hbd e => ?_) ?_
              · rw [upd_ne hbd, upd_ne hb]; exact e
              · rw [List.map_append]; exact upd_same
        · rintro σ H6 Q1 Q2 hq ⟨v, e1, u, e2, pp, ys, h1, h2, h3, h4, b, h5, h6⟩
          exact ⟨v, e1, u, e2, pp, ys, h1, h2, h3, h4, b, h5, hq _ _ h6⟩
    obtain ⟨trest, hrest, krest⟩ := rest
    refine ⟨_, pss_cons (ps_set (i := 2) nd rfl (Or.inl rfl) pe_str) (pss_cons (ps_set (i := 3) nd rfl (Or.inl rfl) (pe_lst pa_nil))
      (pss_cons (ps_for PassesOwn.never rfl (pi_range1 rfl hrg (pa_cons (pv 1) pa_nil)) (pg_name (i := 4) nd rfl (Or.inl rfl))
        (pss_cons (ps_set (i := 5) nd rfl (Or.inl rfl) pe_str)
        (pss_cons (ps_if (pw_and (pt_cmpR (op_ne_dat hu64) (pv 3) (pe_lst pa_nil) (nomark _)) (pw_and1 (pt_cmpR op_eq (pe_call GT hr (by rfl) TK.mg TK.F.kp TK.b .nil pass0 (pa_cons (pv 0) (pa_cons pe_int pa_nil))) pe_int (nomark _)))).pt
          (pss_one (ps_set (i := 5) nd rfl (Or.inl rfl) (pe_slice_str (pe_ix ix_list (pv 3) (pe_un un_neg pe_int) (fun _ _ => rfl)) po_none (po_some pe_int)))) pss_nil)
        hrest)))
      (pss_one (ps_ret (pv 3))))), ?_⟩
    refine ⟨(by show 0 ≤ sizeLine; omega), fun D hD => ?_⟩
    have sD := same_upd (o := .lst []) hD
    refine ⟨_, rfl, _, rfl, by omega, by omega, for_range (lo := 0) (fun j σ H' => ∃ (xs : List Str) (v4 v5 v6 v7 : Option V) (i' l' : Int), σ = [some (.ref p), some (.int n), some (.str letters), some (.ref D), v4, v5, v6, v7] ∧ xs.length = j ∧ xs.Nodup ∧ (∀ x ∈ xs, nameB x = true) ∧ PenAt K H' p a ns i' l' ∧ Keep p H H' ∧ H' D = some (.lst (xs.map V.str)))
      ⟨[], _, _, _, _, i, l, rfl, rfl, List.nodup_nil, (fun x hx => nomatch hx), hP.same sD, Keep.of_same sD, upd_same⟩ ?_ ?_⟩
    · rintro j σ H1 hj ⟨xs, v4, v5, v6, v7, i1, l1, rfl, hl1, nd1, nm1, P1, k1, hd1⟩
      -- what is wanted behind the rest
      have go : ∀ (z : Str) (H3 : Hp) (i3 l3 : Int) (v4 v6 v7 : Option V), Low z → z.length ≤ 5 → PenAt K H3 p a ns i3 l3 → Keep p H1 H3 → H3 D = some (.lst (xs.map V.str)) → ∀ (W : Ends),
          W.nx = (fun σ H' => ∃ (xs : List Str) (v4 v5 v6 v7 : Option V) (i' l' : Int), σ = [some (.ref p), some (.int n), some (.str letters), some (.ref D), v4, v5, v6, v7] ∧ xs.length = j + 1 ∧ xs.Nodup ∧ (∀ x ∈ xs, nameB x = true) ∧ PenAt K H' p a ns i' l' ∧ Keep p H H' ∧ H' D = some (.lst (xs.map V.str))) →
          trest W [some (.ref p), some (.int n), some (.str letters), some (.ref D), v4, some (.str z), v6, v7] H3 := by
        intro z H3 i3 l3 v4 v6 v7 hz hz5 P3 k3 hd3 W hW
        refine krest W D xs z v4 v6 v7 H3 i3 l3 hz hz5 P3 hd3 (by omega) nm1 fun z' v6 v7 H4 i4 l4 nm' nin P4 k4 hd4 => ?_
        rw [hW]
        refine ⟨xs ++ [z'], v4, _, v6, v7, i4, l4, rfl, by rw [List.length_append, hl1]; rfl, ?_, ?_, P4, fun b o hb e => ?_, hd4⟩
        · exact nd_snoc nd1 nin
        · intro x hx
          rcases List.mem_append.mp hx with h | h
          · exact nm1 x h
          · rw [List.mem_singleton.mp h]; exact nm'
        · exact k4 b o hb (ne_of_none e hD) (k3 b o hb (k1 b o hb e))
      have low0 : Low (Str.ofString "") := fun c hc => nomatch hc
      refine ⟨_, rfl, (by show 0 ≤ sizeLine; omega), fun E hE => ⟨.list (xs.map .str), .list [], ?_, ?_, ?_, rfl, ?_, _, rfl, ?_⟩⟩
      · exact .lst (same_upd hE _ _ hd1) (dats_strs _ xs)
      · exact .lst upd_same .nil
      · exact lay_strs nm1
      · show PyData.depthAll (xs.map .str) + 1 ≤ 60
        rw [depth_strs]
        decide
      · have sE := same_upd (o := .lst []) hE
        rw [eqv_nil]
        refine ite2 (fun hne => ?_) (fun _ => ?_)
        · refine ⟨_, rfl, p, a, ns, i1, l1, 4, rfl, P1.same sE, by decide, by decide, hlen, fun e i2 l2 ea eb P2 => ⟨rfl, _, rfl, ?_⟩⟩
          have hd2 := keep_pen (i' := i2) (l' := l2) (P1.same sE).dc (sE _ _ hd1) (by intro z; cases z)
          have k2 : Keep p H1 (upd (upd H1 E (.lst [])) p (.dK (penK a i2 l2))) := (Keep.of_same sE).trans Keep.upd
          refine ite2 (fun _ => ?_) (fun _ => ?_)
          · -- name = names[-1][:5]
            obtain ⟨ys, y, rfl⟩ : ∃ ys y, xs = ys ++ [y] := by
              cases xs with
              | nil => cases hne
              | cons x xs => exact ⟨_, _, (List.dropLast_concat_getLast (List.cons_ne_nil x xs)).symm⟩
            have hy := low_of (nm1 y (List.mem_append_right _ List.mem_cons_self))
            refine ⟨_, rfl, _, rfl, D, _, _, V.str y, rfl, rfl, SqL.of hd2, ?_, _, rfl, y, rfl, by omega, ?_⟩
            · rw [List.map_append]
              exact atI_last _ _
            · refine go _ _ i2 l2 _ _ _ (fun c hc => hy.2.2 c (slice_mem hc)) ?_ P2 k2 hd2 _ rfl
              have f5 := PyProof.Rows.fact_slice_ns y 5
              by_cases h5 : (5 : Int) ≤ y.length
              · have := f5.1 (by decide) h5
                omega
              · have := f5.2 (by omega)
                omega
          · exact go _ _ i2 l2 _ _ _ low0 (by decide) P2 k2 hd2 _ rfl
        · exact go _ _ i1 l1 _ _ _ low0 (by decide) (P1.same sE) (Keep.of_same sE) (sE _ _ hd1) _ rfl
    · rintro σ H1 ⟨xs, v4, v5, v6, v7, i1, l1, rfl, hl1, nd1, nm1, P1, k1, hd1⟩
      exact ⟨_, rfl, k H1 D xs i1 l1 P1 k1 hD hd1 (by omega) nd1 nm1⟩
end
end K04

set_option maxRecDepth 100000
set_option maxHeartbeats 4000000
namespace K04
open PySem L2
section
variable {P : Program} {w : World} {K : PySem.W.Frag} {mg : Str → Option Value} {base : Heap}
theorem ok_length {f fT : Addr} {fd fdT : FuncData} (TK : TakeF K mg fT fdT) (F : Fun K "_law_length" "_law_length" s_law_length f fd) : FnOk P w K mg base CX0 2 f fd ["_law_pen_here"] (spLen K) := by
  have GT : FnOk P w K mg base CX0 1 fT fdT ["_law_pen_here", "_law_many"] (spTake K) := TK.ok
  refine F.ok sc_law_length (fun vs H Q E h => ?_) (fun cdv A outer s H vs Q E hr h => ?_)
  · obtain ⟨p, a, ns, i, l, rfl, _⟩ := h
    rfl
  · obtain ⟨p, a, ns, i, l, rfl, hP, hlen, k⟩ := h
    have nd := sc_law_length.nd
    refine ⟨_, pss_cons (ps_set (i := 1) nd rfl (Or.inl rfl) (pe_call GT hr (by rfl) TK.mg TK.F.kp TK.b .nil pass0 (pa_cons (pv 0) (pa_cons pe_int pa_nil))))
      (pss_cons (ps_if (pt_cmpR op_lt (pv 1) pe_int (nomark _)) (pss_one (ps_ret (pe_op op_add pe_int (pe_call GT hr (by rfl) TK.mg TK.F.kp TK.b .nil pass0 (pa_cons (pv 0) (pa_cons pe_int pa_nil)))))) pss_nil)
      (pss_cons (ps_if (pt_cmpR op_lt (pv 1) pe_int (nomark _)) (pss_one (ps_ret (pe_op op_add pe_int (pe_call GT hr (by rfl) TK.mg TK.F.kp TK.b .nil pass0 (pa_cons (pv 0) (pa_cons pe_int pa_nil)))))) pss_nil)
      (pss_one (ps_ret (pe_op op_sub (pe_op op_sub (pe_op op_pow pe_int pe_int) pe_int) (pe_call GT hr (by rfl) TK.mg TK.F.kp TK.b .nil pass0 (pa_cons (pv 0) (pa_cons pe_int pa_nil)))))))), ?_⟩
    refine ⟨_, rfl, p, a, ns, i, l, 9, rfl, hP, by decide, by decide, hlen, fun d i1 l1 da db P1 => ?_⟩
    refine ⟨_, rfl, _, _, rfl, rfl, _, rfl, ?_⟩
    refine ite2 (fun _ => ?_) (fun _ => ?_)
    · refine ⟨_, rfl, p, a, ns, i1, l1, 2, rfl, P1, by decide, by decide, hlen, fun e i2 l2 ea eb P2 => ⟨_, _, rfl, rfl, ?_⟩⟩
      rw [upd_upd] at P2 ⊢
      exact k _ i2 l2 (by omega) P2
    · refine ⟨_, rfl, _, _, rfl, rfl, _, rfl, ?_⟩
      refine ite2 (fun _ => ?_) (fun _ => ?_)
      · refine ⟨_, rfl, p, a, ns, i1, l1, 9, rfl, P1, by decide, by decide, hlen, fun e i2 l2 ea eb P2 => ⟨_, _, rfl, rfl, ?_⟩⟩
        rw [upd_upd] at P2 ⊢
        exact k _ i2 l2 (by omega) P2
      · refine ⟨_, _, rfl, rfl, ⟨by decide, by decide, by decide⟩, _, _, rfl, rfl, _, rfl, p, a, ns, i1, l1, 3, rfl, P1, by decide, by decide, hlen, fun e i2 l2 ea eb P2 => ⟨_, _, rfl, rfl, ?_⟩⟩
        rw [upd_upd] at P2 ⊢
        refine k _ i2 l2 ?_ P2
        have : (1000 : Int) ≤ 10 ^ (30 : Int).toNat := by decide
        omega
end
end K04

set_option maxRecDepth 100000
set_option maxHeartbeats 4000000
namespace K04
open PySem L2
structure LenF (K : PySem.W.Frag) (mg : Str → Option Value) (f : Addr) (fd : FuncData) : Prop where
  F : Fun K "_law_length" "_law_length" s_law_length f fd
  mg : mg "_law_length" = some (.ref f)
  b : Binds K fd ["_law_pen_here"] []
section
variable {P : Program} {w : World} {K : PySem.W.Frag} {mg : Str → Option Value} {base : Heap}
/-- behind the tree: perhaps some ways more -/
theorem waysB {f fT fL : Addr} {fd fdT fdL : FuncData} (TK : TakeF K mg fT fdT) (LK : LenF K mg fL fdL) (hrg : mg "range" = none)
    {cdv : Value} {A : Around} {outer : List Env} {s : Shared} {H : Hp} {Q : VK} {E : XK} (hr : Room 2 (A.deeper (PyProof.Rows.envOfC "_law_ways" (defScope s_law_ways) s.heap.objs.size f cdv)))
    {p a D : Addr} {ns : List Int} {xs : List Str} (hlen : ns.length ≤ 63) (hn1 : 1 ≤ xs.length) (hn30 : xs.length ≤ 30) (hnd : xs.Nodup) :
    ∃ t, PSs (cxOf CX0 P w K mg base ["_law_pen_here", "_law_names_here", "_law_shape", "_law_ways_here", "_law_k", "_law_there", "_law_j", "_law_other"] "_law_ways" (defScope s_law_ways) f cdv A outer s H E).nox
        ((defBody s_law_ways).drop 3) t ∧
      ∀ (W : Ends) (H1 : Hp) (e : Addr) (vs : List V) (ws : List Way) (sh : Int) (v4 v5 v6 v7 : Option V) (i1 l1 : Int), PenAt K H1 p a ns i1 l1 → H1 D = some (.lst (xs.map V.str)) → e ≠ D → H1 e = some (.lst vs) → Dats H1 vs (ws.map wayD) → Tree xs xs.length ws →
        (∀ (H2 : Hp) (vs : List V) (ws : List Way) (i2 l2 : Int), PenAt K H2 p a ns i2 l2 → (∀ b o, b ≠ p → b ≠ e → H1 b = some o → H2 b = some o) → H2 e = some (.lst vs) → Dats H2 vs (ws.map wayD) → Ways xs ws → W.rt (.ref e) H2) →
        t W [some (.ref p), some (.ref D), some (.int sh), some (.ref e), v4, v5, v6, v7] H1 := by
  have GT : FnOk P w K mg base CX0 1 fT fdT ["_law_pen_here", "_law_many"] (spTake K) := TK.ok
  have GL : FnOk P w K mg base CX0 2 fL fdL ["_law_pen_here"] (spLen K) := ok_length TK LK.F
  have hr1 : Room 1 _ := hr.mono (by decide)
  have hu := hu_of hr
  have big : 1000 < sizeLine := by decide
  have nd := sc_law_ways.nd
  refine ⟨_, pss_cons (ps_if (pw_and (pt_cmpR op_in_seq (pv 2) (pe_tup (pa_cons pe_int (pa_cons pe_int pa_nil))) (by rfl)) (pw_and1 (pt_cmpR op_gt (pe_callB call_len_seq (by rfl) TK.T.len PySem.boot_len (pa_cons (pv 1) pa_nil)) pe_int (nomark _)))).pt
      (pss_one (ps_for PassesOwn.never rfl (pi_range1 rfl hrg (pa_cons (pe_op op_add pe_int (pe_call GT hr1 (by rfl) TK.mg TK.F.kp TK.b .nil pass0 (pa_cons (pv 0) (pa_cons pe_int pa_nil)))) pa_nil)) (pg_name (i := 4) nd rfl (Or.inr rfl))
        (pss_cons (ps_set (i := 6) nd rfl (Or.inr rfl) (pe_call GT hr1 (by rfl) TK.mg TK.F.kp TK.b .nil pass0 (pa_cons (pv 0) (pa_cons (pe_callB call_len_seq (by rfl) TK.T.len PySem.boot_len (pa_cons (pv 1) pa_nil)) pa_nil))))
        (pss_cons (ps_set (i := 7) nd rfl (Or.inr rfl) (pe_ix ix_list (pv 1) (pe_op op_mod (pe_op op_add (pe_op op_add (pv 6) pe_int) (pe_call GT hr1 (by rfl) TK.mg TK.F.kp TK.b .nil pass0 (pa_cons (pv 0) (pa_cons (pe_op op_sub (pe_callB call_len_seq (by rfl) TK.T.len PySem.boot_len (pa_cons (pv 1) pa_nil)) pe_int) pa_nil)))) (pe_callB call_len_seq (by rfl) TK.T.len PySem.boot_len (pa_cons (pv 1) pa_nil))) (fun _ _ => rfl)))
        (pss_one (ps_if (pt_cmpR (op_eq_nil (Nat.lt_of_succ_lt hu))
            (pe_comp (N := ["_law_way", "_law_names_here", "_law_j", "_law_other"]) (σ0 := fun σ => [none, some 1, some 6, some 7].map fun j => j.bind fun j => (σ[j]?).join) rfl
              (CompOk.caught (by rfl) (by decide +kernel) rfl (by decide +kernel) (by intro y hy; simp only [List.mem_cons, List.not_mem_nil, or_false] at hy; rcases hy with rfl | rfl | rfl <;> rfl)
                (by intro y hy e; simp only [List.mem_cons, List.not_mem_nil, or_false] at hy; rcases hy with rfl | rfl | rfl | rfl | rfl <;> first | exact ⟨_, rfl⟩ | cases e))
              (fun σ _ => Carry.of [none, some 1, some 6, some 7] rfl (by
                intro i j x h1 h2
                match i, h1, h2 with
                | 0, _, h2 => cases h2
                | 1, h1, h2 => cases h1; cases h2; exact ⟨rfl, .inl rfl, .inl rfl⟩
                | 2, h1, h2 => cases h1; cases h2; exact ⟨rfl, .inl rfl, .inl rfl⟩
                | 3, h1, h2 => cases h1; cases h2; exact ⟨rfl, .inl rfl, .inl rfl⟩
                | n + 4, h1, _ => cases h1)) (pi_list (pv 3))
              (fun s2 H C fp => ⟨pg_name (i := 0) (show (["_law_way", "_law_names_here", "_law_j", "_law_other"] : List Str).Nodup by decide +kernel) rfl (Or.inl rfl),
                pts_one (pw_and (pt_cmpR (op_inK K rfl) (pe_ix (ix_listK K rfl) (pv 1) (pv 2) (fun _ _ => rfl)) (pv 0) (by rfl)) (pw_and1 (pt_cmpR (op_inK K rfl) (pv 3) (pv 0) (by rfl)))).pt, pv 0⟩))
            (pe_lst pa_nil) (nomark _))
          (pss_one (ps_expr (pe_bm PySem.F.plainAttrs_list PySem.F.slot_list_append PySem.F.type_list_append mt_append (pv 3) (pa_cons (pe_tup (pa_cons (pe_ix ix_list (pv 1) (pv 6) (fun _ _ => rfl)) (pa_cons (pv 7) (pa_cons (pe_call GL hr (by rfl) LK.mg LK.F.kp LK.b .nil pass0 (pa_cons (pv 0) pa_nil)) pa_nil)))) pa_nil)))) pss_nil)))))) pss_nil)
    (pss_one (ps_ret (pv 3))), ?_⟩
  intro W H1 e vs ws sh v4 v5 v6 v7 i1 l1 P1 hD he hE hW hT kk
  have hll : (xs.map V.str).length = xs.length := List.length_map _
  refine ⟨_, rfl, (by show 2 ≤ sizeLine; omega), fun q hq => ⟨q, _, rfl, .inr (SqT.of upd_same), rfl, rfl, _, rfl, ?_⟩⟩
  have sq := same_upd (o := .tup [.int 2, .int 3]) hq
  have stop : ∃ v, [some (V.ref p), some (.ref D), some (.int sh), some (.ref e), v4, v5, v6, v7][3]? = some (some v) ∧ W.rt v (upd H1 q (.tup [.int 2, .int 3])) :=
    ⟨_, rfl, kk _ vs ws i1 l1 (P1.same sq) (fun b o _ _ z => sq b o z) (sq _ _ hE) (hW.mono fun a o z _ => sq a o z) (hT.ways hnd)⟩
  refine ite2 (fun _ => ?_) (fun _ => stop)
  refine ⟨_, rfl, D, _, rfl, .inl (SqL.of (sq _ _ hD)), _, _, rfl, rfl, _, rfl, ?_⟩
  refine ite2 (fun h2 => ?_) (fun _ => stop)
  rw [decide_eq_true_eq, hll] at h2
  -- for k in range(1 + take(pen, 5))
  refine ⟨_, rfl, p, a, ns, i1, l1, 5, rfl, P1.same sq, by decide, by decide, hlen, fun d0 i2 l2 d0a d0b P2 => ⟨_, _, rfl, rfl, _, rfl, by omega, by omega, ?_⟩⟩
  have pe : e ≠ p := ne_of hE P1.dc (by intro z; cases z)
  have pD : D ≠ p := ne_of hD P1.dc (by intro z; cases z)
  have keepW : ∀ {H2 H3 : Hp} {vs : List V} {ws : List Way}, Dats H2 vs (ws.map wayD) → (∀ b xs, H2 b = some (.tup xs) → H3 b = some (.tup xs)) → Dats H3 vs (ws.map wayD) := by
    intro H2 H3 vs ws
    induction ws generalizing vs with
    | nil => intro h _; cases h; exact .nil
    | cons u ws ih =>
      intro h ht
      cases h with
      | cons h1 r =>
        refine .cons ?_ (ih r ht)
        cases h1 with
        | tup ha hd =>
          refine .tup (ht _ _ ha) ?_
          cases hd with
          | cons h1 r1 =>
            cases r1 with
            | cons h2 r2 =>
              cases r2 with
              | cons h3 r3 =>
                cases r3
                cases h1
                cases h2
                cases h3
                exact .cons (.str _) (.cons (.str _) (.cons (.int _) .nil))
  refine for_range (lo := 0) (fun j σ H2 => ∃ (vs : List V) (ws : List Way) (v4 v6 v7 : Option V) (i2 l2 : Int), σ = [some (.ref p), some (.ref D), some (.int sh), some (.ref e), v4, v5, v6, v7] ∧ PenAt K H2 p a ns i2 l2 ∧ (∀ b o, b ≠ p → b ≠ e → H1 b = some o → H2 b = some o) ∧ H2 e = some (.lst vs) ∧ Dats H2 vs (ws.map wayD) ∧ WaysC xs ws ∧ 2 * ws.length ≤ xs.length * (xs.length - 1) + 2 * j)
    ⟨vs, ws, v4, v6, v7, i2, l2, rfl, P2, fun b o hb _ z => ?_, ?_, ?_, (hT.ways hnd).c, by have := hT.len; omega⟩ ?_ ?_
  · rw [upd_ne hb]; exact sq b o z
  · rw [upd_ne pe]; exact sq _ _ hE
  · refine keepW (H2 := H1) hW fun b ys z => ?_
    exact keep_pen (P1.same sq).dc (sq _ _ z) (by intro z; cases z)
  · rintro j σ H2 hj ⟨vs, ws, v4, v6, v7, i2, l2, rfl, P2, k2, hE2, hW2, hC2, hl2⟩
    have hD2 := k2 D _ pD (Ne.symm he) hD
    refine ⟨_, rfl, _, rfl, D, _, rfl, .inl (SqL.of hD2), p, a, ns, i2, l2, _, rfl, P2, by omega, by omega, hlen, fun dj i3 l3 dja djb P3 => ?_⟩
    have hD3 := keep_pen (i' := i3) (l' := l3) P2.dc hD2 (by intro z; cases z)
    refine ⟨_, rfl, _, rfl, _, _, rfl, rfl, _, rfl, _, rfl, D, _, rfl, .inl (SqL.of hD3), _, _, rfl, rfl, p, a, ns, i3, l3, _, rfl, P3, by omega, by omega, hlen, fun dt i4 l4 dta dtb P4 => ?_⟩
    rw [upd_upd] at P4 ⊢
    have hD4 := keep_pen (i' := i4) (l' := l4) P2.dc hD2 (by intro z; cases z)
    have hE4 := keep_pen (i' := i4) (l' := l4) P2.dc hE2 (by intro z; cases z)
    rw [hll] at djb dtb
    obtain ⟨m1, m2, m3⟩ := mod_ne dja djb dta dtb
    obtain ⟨x0, hx0, gx0⟩ := at_str (xs := xs) dja djb
    obtain ⟨y0, hy0, gy0⟩ := at_str (xs := xs) m2 m3
    have nexy : x0 ≠ y0 := by
      intro z
      rw [z] at gx0
      have := nd_get hnd gx0 gy0
      omega
    have W4 : Dats (upd H2 p (.dK (penK a i4 l4))) vs (ws.map wayD) := keepW hW2 fun b ys z => keep_pen P2.dc z (by intro z; cases z)
    have hvl : vs.length = ws.length := by rw [dats_len W4, List.length_map]
    have hvb : vs.length < 1000 := by
      have : xs.length * (xs.length - 1) ≤ 30 * 30 := Nat.mul_le_mul hn30 (by omega)
      omega
    refine ⟨_, _, rfl, rfl, _, rfl, D, _, rfl, .inl (SqL.of hD4), _, _, rfl, rfl, by rw [hll]; omega, D, _, _, .str y0, rfl, rfl, SqL.of hD4, by rw [hll]; exact hy0, ?_⟩
    -- [way for way in ways if names[j] in way and other in way] == []
    refine ⟨_, rfl, e, rfl, ⟨_, SqL.of hE4⟩, fun C hC => ⟨fun i m σ' H' => m = vs.length - i ∧ i ≤ vs.length ∧ (∃ v, σ' = [v, some (.ref D), some (.int dj), some (.str y0)]) ∧ ∃ acc : List V, H' = upd (upd H2 p (.dK (penK a i4 l4))) C (.lst acc) ∧ acc.length ≤ i ∧ (acc = [] → ∀ (q : Nat) (u : Way), q < i → ws[q]? = some u → ¬ ((x0 = u.1 ∨ x0 = u.2.1) ∧ (y0 = u.1 ∨ y0 = u.2.1))),
      ⟨_, rfl, Nat.zero_le _, ⟨_, rfl⟩, [], rfl, Nat.le_refl _, fun _ q u h => by omega⟩, ?_⟩⟩
    · rintro i m σ' H' ⟨rfl, hi, ⟨v, rfl⟩, acc, rfl, hacc, hno⟩
      have sC := same_upd (o := .lst acc) hC
      have hE5 := sC _ _ hE4
      have hD5 := sC _ _ hD4
      by_cases hlt : i < vs.length
      · refine .inr ⟨⟨vs, vs[i], SqL.of hE5, List.getElem?_eq_getElem hlt⟩, ?_⟩
        rintro x H6 ⟨rfl, hx⟩
        have hx' := hx vs (SqL.of hE5)
        obtain ⟨u, tt, gu, rfl, htt⟩ := dats_way W4 hx'
        have htt5 := sC _ _ htt
        have next : ∀ (c : Bool), c = (decide (x0 = u.1 ∨ x0 = u.2.1) && decide (y0 = u.1 ∨ y0 = u.2.1)) → (if c = true then
            (∃ v, [some (V.ref tt), some (.ref D), some (.int dj), some (.str y0)][0]? = some (some v) ∧ ∃ acc', (upd (upd H2 p (.dK (penK a i4 l4))) C (.lst acc)) C = some (.lst acc') ∧ acc'.length < sizeLine ∧ ∃ m', m' < vs.length - i ∧ (m' = vs.length - (i + 1) ∧ i + 1 ≤ vs.length ∧ (∃ v, [some (V.ref tt), some (.ref D), some (.int dj), some (.str y0)] = [v, some (.ref D), some (.int dj), some (.str y0)]) ∧ ∃ acc2 : List V, upd (upd (upd H2 p (.dK (penK a i4 l4))) C (.lst acc)) C (.lst (acc' ++ [v])) = upd (upd H2 p (.dK (penK a i4 l4))) C (.lst acc2) ∧ acc2.length ≤ i + 1 ∧ (acc2 = [] → ∀ (q : Nat) (u : Way), q < i + 1 → ws[q]? = some u → ¬ ((x0 = u.1 ∨ x0 = u.2.1) ∧ (y0 = u.1 ∨ y0 = u.2.1)))))
            else ∃ m', m' < vs.length - i ∧ (m' = vs.length - (i + 1) ∧ i + 1 ≤ vs.length ∧ (∃ v, [some (V.ref tt), some (.ref D), some (.int dj), some (.str y0)] = [v, some (.ref D), some (.int dj), some (.str y0)]) ∧ ∃ acc2 : List V, upd (upd H2 p (.dK (penK a i4 l4))) C (.lst acc) = upd (upd H2 p (.dK (penK a i4 l4))) C (.lst acc2) ∧ acc2.length ≤ i + 1 ∧ (acc2 = [] → ∀ (q : Nat) (u : Way), q < i + 1 → ws[q]? = some u → ¬ ((x0 = u.1 ∨ x0 = u.2.1) ∧ (y0 = u.1 ∨ y0 = u.2.1))))) := by
          rintro c rfl
          refine ite2 (fun hc => ?_) (fun hc => ?_)
          · refine ⟨_, rfl, acc, upd_same, by omega, _, by omega, rfl, hlt, ⟨_, rfl⟩, acc ++ [.ref tt], by rw [upd_upd], by rw [List.length_append]; show acc.length + 1 ≤ i + 1; omega, fun z => ?_⟩
            exact absurd z (by simp)
          · refine ⟨_, by omega, rfl, hlt, ⟨_, rfl⟩, acc, rfl, by omega, fun z q u' hq hu' => ?_⟩
            by_cases e : q = i
            · subst e
              rw [gu] at hu'
              cases hu'
              intro ⟨z1, z2⟩
              exact hc (by rw [decide_eq_true z1, decide_eq_true z2]; rfl)
            · exact hno z q u' (by omega) hu'
        refine ⟨_, rfl, _, rfl, D, _, _, .str x0, rfl, rfl, SqL.of hD5, hx0, _, rfl, tt, _, rfl, .inr (SqT.of htt5), rfl, rfl, _, rfl, ?_⟩
        rw [if_neg Bool.false_ne_true, inV_way]
        refine ite2 (fun hc1 => ?_) (fun hc1 => ?_)
        · refine ⟨_, rfl, _, rfl, tt, _, rfl, .inr (SqT.of htt5), rfl, rfl, _, rfl, ?_⟩
          rw [if_neg Bool.false_ne_true, inV_way]
          refine next _ ?_
          rw [Bool.or_eq_true, decide_eq_true_eq, decide_eq_true_eq] at hc1
          rw [decide_eq_true hc1, Bool.true_and, Bool.decide_or]
        · refine next _ ?_
          rw [Bool.or_eq_true, decide_eq_true_eq, decide_eq_true_eq] at hc1
          rw [decide_eq_false hc1, Bool.false_and]
      · have e0 : i = vs.length := by omega
        subst e0
        refine .inl ⟨⟨vs, SqL.of hE5, Nat.le_refl _⟩, (by show 0 ≤ sizeLine; omega), fun C2 hCC => ⟨C, C2, acc, rfl, rfl, SqL.of (same_upd hCC _ _ upd_same), SqL.of upd_same, _, rfl, ?_⟩⟩
        have sC2 := same_upd (o := .lst []) hCC
        have P5 := (P4.same sC).same sC2
        have k5 : ∀ b o, b ≠ p → b ≠ e → H1 b = some o → (upd (upd (upd H2 p (.dK (penK a i4 l4))) C (.lst acc)) C2 (.lst [])) b = some o := fun b o hb hbe z => sC2 _ _ (sC _ _ (by rw [upd_ne hb]; exact k2 b o hb hbe z))
        have W5 : Dats (upd (upd (upd H2 p (.dK (penK a i4 l4))) C (.lst acc)) C2 (.lst [])) vs (ws.map wayD) := W4.mono fun b o z _ => sC2 _ _ (sC _ _ z)
        refine ite2 (fun hemp => ?_) (fun _ => ?_)
        · -- append
          have no : ∀ u ∈ ws, ¬ ((x0 = u.1 ∨ x0 = u.2.1) ∧ (y0 = u.1 ∨ y0 = u.2.1)) := fun u hu => by
            obtain ⟨q, hq, eq⟩ := List.getElem_of_mem hu
            exact hno (by cases acc with | nil => rfl | cons _ _ => cases hemp) q u (by omega) (by rw [List.getElem?_eq_getElem hq, eq])
          refine ⟨_, rfl, .inl ⟨rfl, _, SqL.of (sC2 _ _ hE5)⟩, _, rfl, _, rfl, D, _, _, .str x0, rfl, rfl, SqL.of (sC2 _ _ hD5), hx0, _, rfl, _, rfl, p, a, ns, i4, l4, rfl, P5, hlen, fun n i6 l6 hn P6 => ⟨(by show 3 ≤ sizeLine; omega), fun t ht => ?_⟩⟩
          have st := same_upd (o := .tup [.str x0, .str y0, .int n]) ht
          have hE7 := st _ _ (keep_pen (i' := i6) (l' := l6) P5.dc (sC2 _ _ hE5) (by intro z; cases z))
          refine ⟨e, _, _, rfl, rfl, hE7, by omega, ?_⟩
          refine ⟨vs ++ [.ref t], ws ++ [(x0, y0, n)], _, _, _, i6, l6, rfl, (P6.same st).other hE7 (by intro _ _ z; cases z) (by intro _ z; cases z), fun b o hb hbe z => ?_, upd_same, ?_, ?_, ?_⟩
          · rw [upd_ne hbe]
            refine st _ _ ?_
            rw [upd_ne hb]
            exact k5 b o hb hbe z
          · rw [List.map_append]
            refine dats_snoc (keepW W5 fun b ys z => ?_) (.tup ?_ (.cons (.str _) (.cons (.str _) (.cons (.int _) .nil))))
            · have z2 := st _ _ (keep_pen (i' := i6) (l' := l6) P5.dc z (by intro z; cases z))
              rw [upd_ne (ne_of z2 hE7 (by intro z; cases z))]
              exact z2
            · rw [upd_ne (fun z => by subst z; rw [ht] at *; exact absurd hE7 (by rw [upd_same]; intro z; cases z))]
              exact upd_same
          · exact hC2.snoc (List.mem_of_getElem? gx0) (List.mem_of_getElem? gy0) nexy hn no
          · rw [List.length_append, List.length_singleton]
            omega
        · exact ⟨vs, ws, _, _, _, i4, l4, rfl, P5, k5, sC2 _ _ hE5, W5, hC2, by omega⟩
  · rintro σ H2 ⟨vs, ws, v4, v6, v7, i2, l2, rfl, P2, k2, hE2, hW2, hC2, hl2⟩
    refine ⟨_, rfl, kk H2 vs ws i2 l2 P2 k2 hE2 hW2 ⟨hC2.1, hC2.2.1, hC2.2.2, by omega⟩⟩
end
end K04

set_option maxRecDepth 100000
set_option maxHeartbeats 4000000
namespace K04
open PySem L2
section
variable {P : Program} {w : World} {K : PySem.W.Frag} {mg : Str → Option Value} {base : Heap}
/-- ways + [(names[j], names[k], length) for j in there] -/
theorem waysA {f fT fL : Addr} {fdT fdL : FuncData} (TK : TakeF K mg fT fdT) (LK : LenF K mg fL fdL)
    {cdv : Value} {A : Around} {outer : List Env} {s : Shared} {H : Hp} {E : XK} (hr : Room 2 (A.deeper (PyProof.Rows.envOfC "_law_ways" (defScope s_law_ways) s.heap.objs.size f cdv)))
    {p a D : Addr} {ns : List Int} {xs : List Str} (hlen : ns.length ≤ 63) (hn30 : xs.length ≤ 30) (hnd : xs.Nodup) :
    ∃ t, PSs (cxOf CX0 P w K mg base ["_law_pen_here", "_law_names_here", "_law_shape", "_law_ways_here", "_law_k", "_law_there", "_law_j", "_law_other"] "_law_ways" (defScope s_law_ways) f cdv A outer s H E).nox
        ((forBody ((defBody s_law_ways).getD 2 (.Pass ⟨0, 0, 0, 0⟩))).drop 2) t ∧
      ∀ (W : Ends) (H3 : Hp) (e T : Addr) (vs : List V) (ws : List Way) (js : List Nat) (sh : Int) (k : Nat) (v6 v7 : Option V) (i3 l3 : Int), PenAt K H3 p a ns i3 l3 → H3 D = some (.lst (xs.map V.str)) → H3 e = some (.lst vs) → Dats H3 vs (ws.map wayD) → Tree xs k ws → k < xs.length →
        H3 T = some (.lst (js.map fun (q : Nat) => V.int (q : Int))) → js.Nodup → (∀ j ∈ js, j < k) → js ≠ [] →
        (∀ (H4 : Hp) (e' : Addr) (vs : List V) (ws : List Way) (i4 l4 : Int), PenAt K H4 p a ns i4 l4 → Keep p H3 H4 → H3 e' = none → H4 e' = some (.lst vs) → Dats H4 vs (ws.map wayD) → Tree xs (k + 1) ws →
          W.nx [some (.ref p), some (.ref D), some (.int sh), some (.ref e'), some (.int (k : Int)), some (.ref T), v6, v7] H4) →
        t W [some (.ref p), some (.ref D), some (.int sh), some (.ref e), some (.int (k : Int)), some (.ref T), v6, v7] H3 := by
  have GL : FnOk P w K mg base CX0 2 fL fdL ["_law_pen_here"] (spLen K) := ok_length TK LK.F
  have big : 1000 < sizeLine := by decide
  have nd := sc_law_ways.nd
  refine ⟨_, pss_one (ps_set (i := 3) nd rfl (Or.inl rfl) (pe_op op_cat (pv 3)
          (pe_comp (N := ["_law_j", "_law_pen_here", "_law_names_here", "_law_k"]) (σ0 := fun σ => [none, some 0, some 1, some 4].map fun j => j.bind fun j => (σ[j]?).join) rfl
            (CompOk.caught (by rfl) (by decide +kernel) rfl (by decide +kernel) (by intro y hy; simp only [List.mem_cons, List.not_mem_nil, or_false] at hy; rcases hy with rfl | rfl | rfl <;> rfl)
              (by intro y hy e; simp only [List.mem_cons, List.not_mem_nil, or_false] at hy; rcases hy with rfl | rfl | rfl | rfl | rfl | rfl <;> first | exact ⟨_, rfl⟩ | cases e))
            (fun σ _ => Carry.of [none, some 0, some 1, some 4] rfl (by
              intro i j x h1 h2
              match i, h1, h2 with
              | 0, _, h2 => cases h2
              | 1, h1, h2 => cases h1; cases h2; exact ⟨rfl, .inl rfl, .inl rfl⟩
              | 2, h1, h2 => cases h1; cases h2; exact ⟨rfl, .inl rfl, .inl rfl⟩
              | 3, h1, h2 => cases h1; cases h2; exact ⟨rfl, .inl rfl, .inl rfl⟩
              | n + 4, h1, _ => cases h1)) (pi_list (pv 5))
            (fun s2 H C fp => ⟨pg_name (i := 0) (show (["_law_j", "_law_pen_here", "_law_names_here", "_law_k"] : List Str).Nodup by decide +kernel) rfl (Or.inl rfl), pts_nil,
              pe_tup (pa_cons (pe_ix (ix_listK K rfl) (pv 2) (pv 0) (fun _ _ => rfl)) (pa_cons (pe_ix (ix_listK K rfl) (pv 2) (pv 3) (fun _ _ => rfl)) (pa_cons (pe_call GL hr (by rfl) LK.mg LK.F.kp LK.b .nil pass0 (pa_cons (pv 1) pa_nil)) pa_nil)))⟩)))), ?_⟩
  intro W H3 e T vs ws js sh k v6 v7 i3 l3 P3 hD hE hW hT hk hTs jnd jlt jne kk
  have jl : js.length ≤ 30 := by
    have := len_le_of_sub (l := js) (xs := List.range k) jnd fun j hm => List.mem_range.mpr (jlt j hm)
    rw [List.length_range] at this
    omega
  refine ⟨_, rfl, _, rfl, T, rfl, ⟨_, SqL.of hTs⟩, fun C hC => ⟨fun i m σ' H' => m = js.length - i ∧ i ≤ js.length ∧ (∃ v, σ' = [v, some (.ref p), some (.ref D), some (.int (k : Int))]) ∧ ∃ (acc : List V) (us : List Way) (i' l' : Int), PenAt K H' p a ns i' l' ∧ Keep p H3 H' ∧ H' C = some (.lst acc) ∧ Dats H' acc (us.map wayD) ∧ us.length = i ∧
      (∀ (q : Nat) (u : Way) (j : Nat), us[q]? = some u → js[q]? = some j → xs[j]? = some u.1 ∧ xs[k]? = some u.2.1 ∧ 1 ≤ u.2.2),
    ⟨_, rfl, Nat.zero_le _, ⟨_, rfl⟩, [], [], i3, l3, P3.same (same_upd hC), Keep.of_same (same_upd hC), upd_same, .nil, rfl, fun q u j h => by cases h⟩, ?_⟩⟩
  rintro i m σ' H' ⟨rfl, hi, ⟨v, rfl⟩, acc, us, i1, l1, P1, k1, hC1, hU, hul, hus⟩
  have st1 : ∀ {b : Addr} {o : HO}, H3 b = some o → (∀ kvs, o ≠ .dK kvs) → H' b = some o := fun e ne => P3.stay k1 e ne
  have hD1 := st1 hD (by intro _ z; cases z)
  have hT1 := st1 hTs (by intro _ z; cases z)
  have hE1 := st1 hE (by intro _ z; cases z)
  have hacc : acc.length = i := by rw [dats_len hU, List.length_map, hul]
  by_cases hlt : i < js.length
  · refine .inr ⟨⟨_, V.int (js[i] : Nat), SqL.of hT1, by rw [List.getElem?_map, List.getElem?_eq_getElem hlt]; rfl⟩, ?_⟩
    rintro x H6 ⟨rfl, hx⟩
    have hx' := hx _ (SqL.of hT1)
    rw [List.getElem?_map, List.getElem?_eq_getElem hlt] at hx'
    cases hx'
    have hjk := jlt _ (List.getElem_mem hlt)
    obtain ⟨x0, hx0, gx0⟩ := at_str (xs := xs) (i := ((js[i] : Nat) : Int)) (by omega) (by omega)
    obtain ⟨y0, hy0, gy0⟩ := at_str (xs := xs) (i := (k : Int)) (by omega) (by omega)
    refine ⟨_, rfl, _, rfl, D, _, _, .str x0, rfl, rfl, SqL.of hD1, hx0, _, rfl, _, rfl, D, _, _, .str y0, rfl, rfl, SqL.of hD1, hy0, _, rfl, p, a, ns, i1, l1, rfl, P1, hlen, fun n i2 l2 hn P2 => ⟨(by show 3 ≤ sizeLine; omega), fun t ht => ?_⟩⟩
    have st := same_upd (o := .tup [.str x0, .str y0, .int n]) ht
    have hC2 := st _ _ (keep_pen (i' := i2) (l' := l2) P1.dc hC1 (by intro z; cases z))
    refine ⟨acc, hC2, by omega, _, by omega, rfl, hlt, ⟨_, rfl⟩, acc ++ [.ref t], us ++ [(x0, y0, n)], i2, l2, (P2.same st).other hC2 (by intro _ _ z; cases z) (by intro _ z; cases z), fun b o hb z => ?_, upd_same, ?_, by rw [List.length_append, hul]; rfl, fun q u j hq hj => ?_⟩
    · have nC : b ≠ C := ne_of_none z hC
      rw [upd_ne nC]
      refine st _ _ ?_
      rw [upd_ne hb]
      exact k1 b o hb z
    · rw [List.map_append]
      have tC : ∀ {b ys}, (upd (upd H6 p (.dK (penK a i2 l2))) t (.tup [.str x0, .str y0, .int n])) b = some (.tup ys) → (upd (upd (upd H6 p (.dK (penK a i2 l2))) t (.tup [.str x0, .str y0, .int n])) C (.lst (acc ++ [.ref t]))) b = some (.tup ys) := fun {b ys} z => by
        rw [upd_ne (ne_of z hC2 (by intro z; cases z))]
        exact z
      refine dats_snoc (way_dats hU fun b ys z => tC (st _ _ (keep_pen P1.dc z (by intro z; cases z)))) (.tup (tC upd_same) (.cons (.str _) (.cons (.str _) (.cons (.int _) .nil))))
    · by_cases e : q < us.length
      · rw [List.getElem?_append_left e] at hq
        exact hus q u j hq hj
      · rw [List.getElem?_append_right (by omega)] at hq
        have e2 : q = i := by
          have := (List.getElem?_eq_some_iff.mp hq).1
          rw [List.length_singleton] at this
          omega
        subst e2
        rw [hul, Nat.sub_self] at hq
        cases hq
        rw [List.getElem?_eq_getElem hlt] at hj
        cases hj
        exact ⟨by simpa using gx0, by simpa using gy0, hn⟩
  · have e0 : i = js.length := by omega
    subst e0
    have hvl : vs.length = ws.length := by rw [dats_len hW, List.length_map]
    have hwb : ws.length ≤ 900 := by
      have h1 := hT.len
      have : k * (k - 1) ≤ 30 * 30 := Nat.mul_le_mul (by omega) (by omega)
      omega
    refine .inl ⟨⟨_, SqL.of hT1, by rw [List.length_map]; exact Nat.le_refl _⟩, e, C, vs, acc, rfl, rfl, hE1, hC1, by omega, fun e' he' => ?_⟩
    have se := same_upd (o := .lst (vs ++ acc)) he'
    have W1 : Dats H' vs (ws.map wayD) := way_dats hW fun b ys z => st1 z (by intro _ z; cases z)
    refine kk _ e' (vs ++ acc) (ws ++ us) i1 l1 (P1.same se) (k1.trans (Keep.of_same se)) ?_ upd_same ?_ (hT.more hnd hk js jnd jlt jne hul hus)
    · cases z : H3 e' with
      | none => rfl
      | some o =>
        by_cases ep : e' = p
        · subst ep
          rw [P1.dc] at he'
          cases he'
        · rw [k1 e' o ep z] at he'
          cases he'
    · rw [List.map_append]
      exact dats_app (W1.mono fun b o z _ => se _ _ z) (hU.mono fun b o z _ => se _ _ z)
end
end K04

set_option maxRecDepth 100000
set_option maxHeartbeats 4000000
namespace K04
open PySem L2
section
variable {P : Program} {w : World} {K : PySem.W.Frag} {mg : Str → Option Value} {base : Heap}
theorem ok_ways {f fT fL : Addr} {fd fdT fdL : FuncData} (TK : TakeF K mg fT fdT) (LK : LenF K mg fL fdL) (hrg : mg "range" = none) (hli : mg "list" = none) (hin : mg "int" = none) (F : Fun K "_law_ways" "_law_ways" s_law_ways f fd) : FnOk P w K mg base CX0 3 f fd ["_law_pen_here", "_law_names_here"] (spWays K) := by
  have GT : FnOk P w K mg base CX0 1 fT fdT ["_law_pen_here", "_law_many"] (spTake K) := TK.ok
  refine F.ok sc_law_ways (fun vs H Q E h => ?_) (fun cdv A outer s H vs Q E hr h => ?_)
  · obtain ⟨p, a, ns, i, l, D, xs, rfl, _⟩ := h
    rfl
  · obtain ⟨p, a, ns, i, l, D, xs, rfl, hP, hlen, hD, hn1, hn30, hnd, k⟩ := h
    have hr1 : Room 1 _ := hr.mono (by decide)
    have big : 1000 < sizeLine := by decide
    have nd := sc_law_ways.nd
    have hll : (xs.map V.str).length = xs.length := List.length_map _
    obtain ⟨tA, hA, kA⟩ := waysA (P := P) (w := w) (base := base) (outer := outer) (H := H) (E := E) (D := D) (a := a) (p := p) TK LK hr hlen hn30 hnd
    obtain ⟨tB, hB, kB⟩ := waysB (P := P) (w := w) (base := base) (outer := outer) (H := H) (E := E) (D := D) (a := a) (p := p) (fd := fd) (Q := Q) TK LK hrg hr hlen hn1 hn30 hnd
    refine ⟨_, pss_cons (ps_set (i := 2) nd rfl (Or.inl rfl) (pe_call GT hr1 (by rfl) TK.mg TK.F.kp TK.b .nil pass0 (pa_cons (pv 0) (pa_cons pe_int pa_nil))))
      (pss_cons (ps_set (i := 3) nd rfl (Or.inl rfl) (pe_lst pa_nil))
      (pss_cons (ps_for PassesOwn.never rfl (pi_range2 rfl hrg (pa_cons pe_int (pa_cons (pe_callB call_len_seq (by rfl) TK.T.len PySem.boot_len (pa_cons (pv 1) pa_nil)) pa_nil))) (pg_name (i := 4) nd rfl (Or.inr rfl))
        (pss_cons (ps_set (i := 5) nd rfl (Or.inl rfl) (pe_ix ix_list (pe_lst (pa_cons (pe_lst (pa_cons (pe_op op_sub (pv 4) pe_int) pa_nil)) (pa_cons (pe_lst (pa_cons (pe_call GT hr1 (by rfl) TK.mg TK.F.kp TK.b .nil pass0 (pa_cons (pv 0) (pa_cons (pv 4) pa_nil))) pa_nil)) pa_nil)))
            (pe_callTy call_int1 (by rfl) hin PyProof.Rows.boot_int (pa_cons (pe_cmpR op_gt (pv 2) pe_int (nomark _)) pa_nil)) (fun _ _ => rfl)))
        (pss_cons (ps_if (pt_cmpR op_eq (pv 2) pe_int (nomark _)) (pss_one (ps_set (i := 5) nd rfl (Or.inl rfl) (pe_callTy (call_list_rng rfl) (by rfl) hli PyProof.Rows.boot_list (pa_cons (pe_callTy call_rng1 (by rfl) hrg PyProof.Rows.boot_range (pa_cons (pv 4) pa_nil)) pa_nil)))) pss_nil)
        hA)))
      hB)), ?_⟩
    refine ⟨_, rfl, p, a, ns, i, l, 5, rfl, hP, by decide, by decide, hlen, fun sh i1 l1 sha shb P1 => ⟨(by show 0 ≤ sizeLine; omega), fun e0 he0 => ?_⟩⟩
    have s0 := same_upd (o := .lst []) he0
    have hD1 := keep_pen (i' := i1) (l' := l1) hP.dc hD (by intro z; cases z)
    have free : ∀ {H' : Hp} {i' l' : Int} {e : Addr}, PenAt K H' p a ns i' l' → Keep p H H' → H' e = none → H e = none := fun {H' i' l' e} P' k' z => by
      cases y : H e with
      | none => rfl
      | some o =>
        by_cases ep : e = p
        · subst ep
          rw [P'.dc] at z
          cases z
        · rw [k' e o ep y] at z
          cases z
    refine ⟨_, rfl, D, _, rfl, .inl (SqL.of (s0 _ _ hD1)), _, _, rfl, ⟨by decide, by decide, by omega, by omega⟩, ?_⟩
    refine for_range (lo := 1) (fun j σ H' => ∃ (e : Addr) (vs : List V) (ws : List Way) (v4 v5 v6 v7 : Option V) (i' l' : Int), σ = [some (.ref p), some (.ref D), some (.int sh), some (.ref e), v4, v5, v6, v7] ∧ PenAt K H' p a ns i' l' ∧ Keep p H H' ∧ H e = none ∧ H' e = some (.lst vs) ∧ Dats H' vs (ws.map wayD) ∧ Tree xs (j + 1) ws)
      ⟨e0, [], [], _, _, _, _, i1, l1, rfl, P1.same s0, Keep.upd.trans (Keep.of_same s0), free P1 Keep.upd he0, upd_same, .nil, Tree.nil xs⟩ ?_ ?_
    · rintro j σ H1 hj ⟨e, vs, ws, v4, v5, v6, v7, i2, l2, rfl, P2, k2, hef, hE2, hW2, hT2⟩
      have hjl : j + 1 < xs.length := by omega
      have ek : (1 : Int) + (j : Int) = ((j + 1 : Nat) : Int) := by omega
      have hD2 : H1 D = _ := hP.stay k2 hD (by intro _ z; cases z)
      have go : ∀ (W : Ends) (H3 : Hp) (T : Addr) (js : List Nat) (i3 l3 : Int), PenAt K H3 p a ns i3 l3 → Keep p H1 H3 → H3 T = some (.lst (js.map fun (q : Nat) => V.int (q : Int))) → js.Nodup → (∀ q ∈ js, q < j + 1) → js ≠ [] →
          W.nx = (fun σ H' => ∃ (e : Addr) (vs : List V) (ws : List Way) (v4 v5 v6 v7 : Option V) (i' l' : Int), σ = [some (.ref p), some (.ref D), some (.int sh), some (.ref e), v4, v5, v6, v7] ∧ PenAt K H' p a ns i' l' ∧ Keep p H H' ∧ H e = none ∧ H' e = some (.lst vs) ∧ Dats H' vs (ws.map wayD) ∧ Tree xs (j + 1 + 1) ws) →
          tA W [some (.ref p), some (.ref D), some (.int sh), some (.ref e), some (.int (1 + (j : Int))), some (.ref T), v6, v7] H3 := by
        intro W H3 T js i3 l3 P3 k3 hTs jnd jlt jne hWn
        rw [ek]
        refine kA W H3 e T vs ws js sh (j + 1) v6 v7 i3 l3 P3 (P2.stay k3 hD2 (by intro _ z; cases z)) (P2.stay k3 hE2 (by intro _ z; cases z)) (way_dats hW2 fun b ys z => P2.stay k3 z (by intro _ z; cases z)) hT2 hjl hTs jnd jlt jne fun H4 e' vs' ws' i4 l4 P4 k4 he' hE4 hW4 hT4 => ?_
        rw [hWn]
        exact ⟨e', vs', ws', _, _, _, _, i4, l4, rfl, P4, (k2.trans k3).trans k4, free P3 (k2.trans k3) he', hE4, hW4, hT4⟩
      -- there = [[k - 1], [take(pen, k)]][int(shape > 0)]
      refine ⟨_, rfl, _, _, rfl, rfl, (by show 1 ≤ sizeLine; omega), fun q1 h1 => ⟨_, rfl, _, rfl, p, a, ns, i2, l2, _, rfl, P2.same (same_upd h1), by omega, by omega, hlen, fun dt i3 l3 dta dtb P3 => ⟨(by show 1 ≤ sizeLine; omega), fun q2 h2 => ⟨(by show 2 ≤ sizeLine; omega), fun q3 h3 => ?_⟩⟩⟩⟩
      have s1 := same_upd (o := .lst [.int ((1 : Int) + (j : Int) - 1)]) h1
      have s2 := same_upd (o := .lst [.int dt]) h2
      have s3 := same_upd (o := .lst [.ref q1, .ref q2]) h3
      have f1 := s3 _ _ (s2 _ _ (keep_pen (i' := i3) (l' := l3) (P2.same s1).dc (@upd_same H1 q1 (.lst [.int ((1 : Int) + (j : Int) - 1)])) (by intro z; cases z)))
      have f2 := s3 _ _ (@upd_same _ q2 (.lst [.int dt]))
      have P4 := (P3.same s2).same s3
      have k4 : Keep p H1 _ := ((Keep.of_same s1).trans Keep.upd).trans ((Keep.of_same s2).trans (Keep.of_same s3))
      refine ⟨_, rfl, _, _, rfl, rfl, .inr ⟨_, rfl, q3, _, _, .ref (if decide (0 < sh) = true then q2 else q1), rfl, rfl, SqL.of upd_same, ?_, ?_⟩⟩
      · by_cases hs : 0 < sh
        · rw [decide_eq_true hs]; rfl
        · rw [decide_eq_false hs]; rfl
      · refine ⟨_, rfl, rfl, _, rfl, ?_⟩
        refine ite2 (fun _ => ?_) (fun _ => ?_)
        · -- there = list(range(k))
          refine ⟨_, rfl, _, rfl, fun r hrr => ⟨r, j + 1, rfl, ?_, by omega, fun t ht => ?_⟩⟩
          · rw [upd_same, ek]
          · have s5 := same_upd (o := .rng 0 (1 + (j : Int))) hrr
            have s6 := same_upd (o := .lst ((List.range (j + 1)).map fun (q : Nat) => V.int (q : Int))) ht
            exact go _ _ t (List.range (j + 1)) i3 l3 ((P4.same s5).same s6) ((k4.trans (Keep.of_same s5)).trans (Keep.of_same s6)) upd_same List.nodup_range (fun q hq => List.mem_range.mp hq) (by rw [List.range_succ]; simp) rfl
        · by_cases hs : 0 < sh
          · rw [decide_eq_true hs, if_pos rfl]
            refine go _ _ q2 [dt.toNat] i3 l3 P4 k4 ?_ (List.pairwise_singleton _ _) (fun q hq => by rw [List.mem_singleton.mp hq]; omega) (by simp) rfl
            rw [f2]
            show _ = some (HO.lst [V.int ((dt.toNat : Nat) : Int)])
            rw [Int.toNat_of_nonneg dta]
          · rw [decide_eq_false hs, if_neg Bool.false_ne_true]
            refine go _ _ q1 [j] i3 l3 P4 k4 ?_ (List.pairwise_singleton _ _) (fun q hq => by rw [List.mem_singleton.mp hq]; omega) (by simp) rfl
            rw [f1]
            show _ = some (HO.lst [V.int ((j : Nat) : Int)])
            rw [show (1 : Int) + (j : Int) - 1 = (j : Int) by omega]
    · rintro σ H1 ⟨e, vs, ws, v4, v5, v6, v7, i2, l2, rfl, P2, k2, hef, hE2, hW2, hT2⟩
      have hD2 : H1 D = _ := hP.stay k2 hD (by intro _ z; cases z)
      have en : ((((xs.map V.str).length : Int) - 1).toNat) + 1 = xs.length := by rw [hll]; omega
      refine kB _ H1 e vs ws sh v4 v5 v6 v7 i2 l2 P2 hD2 (fun z => by rw [z, hD] at hef; cases hef) hE2 hW2 (by rw [en] at hT2; exact hT2) fun H2 vs' ws' i3 l3 P3 k3 hE3 hW3 hWy => ?_
      exact k H2 e vs' ws' i3 l3 P3 (fun b o hb z => k3 b o hb (fun y => by rw [y] at z; rw [hef] at z; cases z) (k2 b o hb z)) hef hE3 hW3 hWy
end
end K04

set_option maxRecDepth 100000
set_option maxHeartbeats 4000000
namespace K04
open PySem L2
section
variable {P : Program} {w : World} {K : PySem.W.Frag} {mg : Str → Option Value} {base : Heap}
theorem ok_laid {f : Addr} {fd : FuncData} (hso : mg "sorted" = none) (htu : mg "tuple" = none) (hmi : mg "min" = none) (hma : mg "max" = none) (F : Fun K "_law_laid" "_law_laid" s_law_laid f fd) : FnOk P w K mg base CX0 1 f fd ["_law_names_here", "_law_ways_here"] (spLaid K) := by
  refine F.ok sc_law_laid (fun vs H Q E h => ?_) (fun cdv A outer s H vs Q E hr h => ?_)
  · obtain ⟨D, E', xs, us, ws, rfl, _⟩ := h
    rfl
  · obtain ⟨D, e, xs, vs, ws, rfl, hD, hx64, hE, hW, hw64, k⟩ := h
    have nd := sc_law_laid.nd
    have big : 1000 < sizeLine := by decide
    refine ⟨_, pss_cons (ps_set (i := 2) nd rfl (Or.inl rfl) (pe_callB (call_sorted_few.or call_sorted_ways) (by rfl) hso PyProof.Rows.boot_sorted (pa_cons
        (pe_comp (N := ["_law_one", "_law_other", "_law_length_here"]) (σ0 := fun _ => [none, none, none]) rfl (CompOk.plain (by decide +kernel) (by decide +kernel) rfl (by decide +kernel)) (fun σ _ => Carry.none _ _ _ ["_law_one", "_law_other", "_law_length_here"] σ) (pi_list (pv 1))
          (fun s2 H C fp => ⟨pg_tupK K rfl (n := 3) rfl (pgs_cons (pg_name (i := 0) (show (["_law_one", "_law_other", "_law_length_here"] : List Str).Nodup by decide +kernel) rfl (Or.inl rfl)) (pgs_cons (pg_name (i := 1) (show (["_law_one", "_law_other", "_law_length_here"] : List Str).Nodup by decide +kernel) rfl (Or.inl rfl)) (pgs_cons (pg_name (i := 2) (show (["_law_one", "_law_other", "_law_length_here"] : List Str).Nodup by decide +kernel) rfl (Or.inl rfl)) pgs_nil))), pts_nil,
            pe_tup (pa_cons (pe_callB (call_min2s rfl) (by rfl) hmi PyProof.Rows.boot_min (pa_cons (pv 0) (pa_cons (pv 1) pa_nil))) (pa_cons (pe_callB (call_max2s rfl) (by rfl) hma PyProof.Rows.boot_max (pa_cons (pv 0) (pa_cons (pv 1) pa_nil))) (pa_cons (pv 2) pa_nil)))⟩)) pa_nil)))
      (pss_one (ps_ret (pe_tup (pa_cons (pe_callTy call_tuple_of (by rfl) htu PyProof.Rows.boot_tuple (pa_cons (pe_callB call_sorted_strs (by rfl) hso PyProof.Rows.boot_sorted (pa_cons (pv 0) pa_nil)) pa_nil)) (pa_cons (pe_callTy call_tuple_of (by rfl) htu PyProof.Rows.boot_tuple (pa_cons (pv 2) pa_nil)) pa_nil))))), ?_⟩
    have hvl : vs.length = ws.length := by rw [dats_len hW, List.length_map]
    refine ⟨_, rfl, e, rfl, ⟨_, SqL.of hE⟩, fun C hC => ⟨fun i m σ' H' => m = vs.length - i ∧ i ≤ vs.length ∧ (∃ v1 v2 v3, σ' = [v1, v2, v3]) ∧ ∃ acc : List V, Same H H' ∧ H' C = some (.lst acc) ∧ Dats H' acc (((ws.take i).map norm).map wayD),
      ⟨_, rfl, Nat.zero_le _, ⟨_, _, _, rfl⟩, [], same_upd hC, upd_same, .nil⟩, ?_⟩⟩
    rintro i m σ' H' ⟨rfl, hi, ⟨v1, v2, v3, rfl⟩, acc, s1, hC1, hU⟩
    have hE1 := s1 _ _ hE
    have hacc : acc.length = i := by
      rw [dats_len hU, List.length_map, List.length_map, List.length_take]
      omega
    by_cases hlt : i < vs.length
    · refine .inr ⟨⟨vs, vs[i], SqL.of hE1, List.getElem?_eq_getElem hlt⟩, ?_⟩
      rintro x H6 ⟨rfl, hx⟩
      obtain ⟨u, t, gu, rfl, ht⟩ := dats_way hW (hx vs (SqL.of hE1))
      refine ⟨t, _, rfl, SqT.of (s1 _ _ ht), rfl, _, _, rfl, _, _, rfl, _, _, rfl, rfl, ?_⟩
      refine ⟨_, rfl, _, rfl, _, _, rfl, _, rfl, _, rfl, _, _, rfl, _, rfl, (by show 3 ≤ sizeLine; omega), fun q hq => ?_⟩
      have sq := same_upd (o := .tup [.str (minS u.1 u.2.1), .str (maxS u.1 u.2.1), .int u.2.2]) hq
      have hC2 := sq _ _ hC1
      refine ⟨acc, hC2, by omega, _, by omega, rfl, hlt, ⟨_, _, _, rfl⟩, acc ++ [.ref q], fun b o z => ?_, upd_same, ?_⟩
      · rw [upd_ne (ne_of_none z hC)]
        exact sq _ _ (s1 _ _ z)
      · have tC : ∀ {b ys}, (upd H6 q (.tup [.str (minS u.1 u.2.1), .str (maxS u.1 u.2.1), .int u.2.2])) b = some (.tup ys) → (upd (upd H6 q (.tup [.str (minS u.1 u.2.1), .str (maxS u.1 u.2.1), .int u.2.2])) C (.lst (acc ++ [.ref q]))) b = some (.tup ys) := fun {b ys} z => by
          rw [upd_ne (ne_of z hC2 (by intro z; cases z))]
          exact z
        rw [take_succ_map _ _ _ _ gu, List.map_append]
        exact dats_snoc (way_dats hU fun b ys z => tC (sq _ _ z)) (.tup (tC upd_same) (.cons (.str _) (.cons (.str _) (.cons (.int _) .nil))))
    · have e0 : i = vs.length := by omega
      subst e0
      rw [List.take_of_length_le (by omega)] at hU
      -- behind sorted: a list at L of the same ones
      have fin : ∀ (L : Addr) (vs' : List V), H' L = none → vs'.Perm acc → ∃ v, [some (V.ref D), some (.ref e), some (.ref L)][0]? = some (some v) ∧ (∃ (a : Addr) (ss : List Str), [v] = [V.ref a] ∧ SqL K (upd H' L (.lst vs')) a (ss.map V.str) ∧ ss.length < 64 ∧ ∀ (l : Addr) (ss' : List Str), (upd H' L (.lst vs')) l = none → ss'.Perm ss → PyProof.Rows.sortedS ss' = true → True) := fun L vs' hL pp => ⟨_, rfl, D, xs, rfl, SqL.of (same_upd hL _ _ (s1 _ _ hD)), hx64, fun _ _ _ _ _ => trivial⟩
      have go : ∀ (L : Addr) (vs' : List V), H' L = none → vs'.Perm acc → ∀ (l : Addr) (ss' : List Str), (upd H' L (.lst vs')) l = none → ss'.Perm xs → PyProof.Rows.sortedS ss' = true → ∀ tp, (upd (upd H' L (.lst vs')) l (.lst (ss'.map V.str))) tp = none → ∀ tw, (upd (upd (upd H' L (.lst vs')) l (.lst (ss'.map V.str))) tp (.tup (ss'.map V.str))) tw = none → ∀ q, (upd (upd (upd (upd H' L (.lst vs')) l (.lst (ss'.map V.str))) tp (.tup (ss'.map V.str))) tw (.tup vs')) q = none →
          Q (.ref q) (upd (upd (upd (upd (upd H' L (.lst vs')) l (.lst (ss'.map V.str))) tp (.tup (ss'.map V.str))) tw (.tup vs')) q (.tup [.ref tp, .ref tw])) := by
        intro L vs' hL pp l ss' hl ps so tp htp tw htw q hq
        obtain ⟨ws', d1, p1⟩ := dats_perm pp hU
        have a1 := same_upd (o := .lst vs') hL
        have a2 := same_upd (o := .lst (ss'.map V.str)) hl
        have a3 := same_upd (o := .tup (ss'.map V.str)) htp
        have a4 := same_upd (o := .tup vs') htw
        have a5 := same_upd (o := .tup [.ref tp, .ref tw]) hq
        have all := (((a1.trans a2).trans a3).trans a4).trans a5
        exact k _ q tp tw ss' vs' ws' (s1.trans all) upd_same ((a4.trans a5) _ _ upd_same) ps so (a5 _ _ upd_same) (d1.mono fun b o z _ => all _ _ z) p1
      clear fin
      refine .inl ⟨⟨vs, SqL.of hE1, Nat.le_refl _⟩, ?_⟩
      by_cases h2 : acc.length < 2
      · refine .inl ⟨C, acc, rfl, SqL.of hC1, h2, fun L hL => ?_⟩
        refine ⟨_, rfl, D, xs, rfl, SqL.of (same_upd hL _ _ (s1 _ _ hD)), hx64, fun l ss' hl ps so => ⟨l, _, rfl, .inl ⟨SqL.of upd_same, fun tp htp => ⟨_, rfl, L, _, rfl, .inl ⟨SqL.of (same_upd htp _ _ (same_upd hl _ _ upd_same)), fun tw htw => ⟨(by show 2 ≤ sizeLine; omega), fun q hq => ?_⟩⟩⟩⟩⟩⟩
        exact go L acc hL (.refl _) l ss' hl ps so tp htp tw htw q hq
      · refine .inr ⟨C, acc, ws.map norm, rfl, hC1, hU, by rw [List.length_map]; omega, by rw [List.length_map]; omega, fun L vs' hL pp => ?_⟩
        refine ⟨_, rfl, D, xs, rfl, SqL.of (same_upd hL _ _ (s1 _ _ hD)), hx64, fun l ss' hl ps so => ⟨l, _, rfl, .inl ⟨SqL.of upd_same, fun tp htp => ⟨_, rfl, L, _, rfl, .inl ⟨SqL.of (same_upd htp _ _ (same_upd hl _ _ upd_same)), fun tw htw => ⟨(by show 2 ≤ sizeLine; omega), fun q hq => ?_⟩⟩⟩⟩⟩⟩
        exact go L vs' hL pp l ss' hl ps so tp htp tw htw q hq
end
end K04

set_option maxRecDepth 100000
set_option maxHeartbeats 4000000
namespace K04
open PySem L2
section
variable {P : Program} {w : World} {K : PySem.W.Frag} {mg : Str → Option Value} {base : Heap}
theorem ok_chart {f fT fL fN fW : Addr} {fd fdT fdL fdN fdW : FuncData} (TK : TakeF K mg fT fdT) (LK : LenF K mg fL fdL) (hrg : mg "range" = none) (hli : mg "list" = none) (hin : mg "int" = none)
    (FN : Fun K "_law_names" "_law_names" s_law_names fN fdN) (mN : mg "_law_names" = some (.ref fN)) (bN : Binds K fdN ["_law_pen_here", "_law_many"] [])
    (FW : Fun K "_law_ways" "_law_ways" s_law_ways fW fdW) (mW : mg "_law_ways" = some (.ref fW)) (bW : Binds K fdW ["_law_pen_here", "_law_names_here"] [])
    (F : Fun K "_law_chart" "_law_chart" s_law_chart f fd) : FnOk P w K mg base CX0 4 f fd ["_law_pen_here"] (spChart K) := by
  have GT : FnOk P w K mg base CX0 1 fT fdT ["_law_pen_here", "_law_many"] (spTake K) := TK.ok
  have GL : FnOk P w K mg base CX0 2 fL fdL ["_law_pen_here"] (spLen K) := ok_length TK LK.F
  have GN : FnOk P w K mg base CX0 2 fN fdN ["_law_pen_here", "_law_many"] (spNames K) := ok_names TK hrg FN
  have GW : FnOk P w K mg base CX0 3 fW fdW ["_law_pen_here", "_law_names_here"] (spWays K) := ok_ways TK LK hrg hli hin FW
  refine F.ok sc_law_chart (fun vs H Q E h => ?_) (fun cdv A outer s H vs Q E hr h => ?_)
  · obtain ⟨p, a, ns, i, l, rfl, _⟩ := h
    rfl
  · obtain ⟨p, a, ns, i, l, rfl, hP, hlen, k⟩ := h
    have hr1 : Room 1 _ := hr.mono (by decide)
    have hr2 : Room 2 _ := hr.mono (by decide)
    have big : 1000 < sizeLine := by decide
    have nd := sc_law_chart.nd
    refine ⟨_, pss_cons (ps_set (i := 1) nd rfl (Or.inr rfl) (pe_call GN hr2 (by rfl) mN FN.kp bN .nil pass0 (pa_cons (pv 0) (pa_cons (pe_op op_add pe_int (pe_call GT hr1 (by rfl) TK.mg TK.F.kp TK.b .nil pass0 (pa_cons (pv 0) (pa_cons pe_int pa_nil)))) pa_nil))))
      (pss_cons (ps_if (pt_cmpR op_gt (pe_call GT hr1 (by rfl) TK.mg TK.F.kp TK.b .nil pass0 (pa_cons (pv 0) (pa_cons pe_int pa_nil))) pe_int (nomark _))
        (pss_one (ps_ret (pe_tup (pa_cons (pv 1) (pa_cons (pe_call GW hr (by rfl) mW FW.kp bW .nil pass0 (pa_cons (pv 0) (pa_cons (pv 1) pa_nil))) (pa_cons (pv 1) pa_nil)))))) pss_nil)
      (pss_cons (ps_set (i := 1) nd rfl (Or.inr rfl) (pe_call GN hr2 (by rfl) mN FN.kp bN .nil pass0 (pa_cons (pv 0) (pa_cons pe_int pa_nil))))
      (pss_cons (ps_comp (ix := 2) (N := ["_law_k", "_law_pen_here", "_law_names_here"]) (σ0 := fun σ => [none, some 0, some 1].map fun j => j.bind fun j => (σ[j]?).join) nd rfl (Or.inl rfl) rfl
          (CompOk.caught (by rfl) (by decide +kernel) rfl (by decide +kernel) (by intro y hy; simp only [List.mem_cons, List.not_mem_nil, or_false] at hy; rcases hy with rfl | rfl <;> rfl)
            (by intro y hy e; simp only [List.mem_cons, List.not_mem_nil, or_false] at hy; rcases hy with rfl | rfl | rfl | rfl | rfl <;> first | exact ⟨_, rfl⟩ | cases e))
          (fun σ _ => Carry.of [none, some 0, some 1] rfl (by
            intro i j x h1 h2
            match i, h1, h2 with
            | 0, _, h2 => cases h2
            | 1, h1, h2 => cases h1; cases h2; exact ⟨rfl, .inl rfl, .inl rfl⟩
            | 2, h1, h2 => cases h1; cases h2; exact ⟨rfl, .inl rfl, .inl rfl⟩
            | n + 3, h1, _ => cases h1)) (pi_range2 (by rfl) hrg (pa_cons pe_int (pa_cons pe_int pa_nil)))
          (fun s2 H C fp => ⟨pg_name (i := 0) (show (["_law_k", "_law_pen_here", "_law_names_here"] : List Str).Nodup by decide +kernel) rfl (Or.inl rfl), pts_nil,
            pe_tup (pa_cons (pe_ix (ix_listK K rfl) (pv 2) (pe_op op_sub (pv 0) pe_int) (fun _ _ => rfl)) (pa_cons (pe_ix (ix_listK K rfl) (pv 2) (pv 0) (fun _ _ => rfl)) (pa_cons (pe_call GL hr2 (by rfl) LK.mg LK.F.kp LK.b .nil pass0 (pa_cons (pv 1) pa_nil)) pa_nil)))⟩))
      (pss_cons (ps_expr (pe_bm PySem.F.plainAttrs_list PySem.F.slot_list_append PySem.F.type_list_append mt_append (pv 2) (pa_cons (pe_tup (pa_cons (pe_ix ix_list (pv 1) pe_int (fun _ _ => rfl)) (pa_cons (pe_ix ix_list (pv 1) (pe_op op_add pe_int (pe_call GT hr1 (by rfl) TK.mg TK.F.kp TK.b .nil pass0 (pa_cons (pv 0) (pa_cons pe_int pa_nil)))) (fun _ _ => rfl)) (pa_cons (pe_call GL hr2 (by rfl) LK.mg LK.F.kp LK.b .nil pass0 (pa_cons (pv 0) pa_nil)) pa_nil)))) pa_nil)))
      (pss_one (ps_ret (pe_tup (pa_cons (pv 1) (pa_cons (pv 2) (pa_cons (pe_lst (pa_cons (pe_ix ix_list (pv 1) pe_int (fun _ _ => rfl)) (pa_cons (pe_ix ix_list (pv 1) (pe_call GT hr1 (by rfl) TK.mg TK.F.kp TK.b .nil pass0 (pa_cons (pv 0) (pa_cons pe_int pa_nil))) (fun _ _ => rfl)) pa_nil))) pa_nil)))))))))), ?_⟩
    refine ⟨_, rfl, _, rfl, p, a, ns, i, l, 9, rfl, hP, by decide, by decide, hlen, fun d i1 l1 da db P1 => ⟨_, _, rfl, rfl, p, a, ns, i1, l1, (1 + d).toNat, ?_, P1, hlen, by omega, fun H2 D xs i2 l2 P2 k2 hDn hD2 xl xnd xnm => ?_⟩⟩
    · rw [Int.toNat_of_nonneg (by omega)]
      rfl
    have k02 : Keep p H H2 := Keep.upd.trans k2
    refine ⟨_, rfl, p, a, ns, i2, l2, 16, rfl, P2, by decide, by decide, hlen, fun d2 i3 l3 d2a d2b P3 => ⟨_, _, rfl, rfl, _, rfl, ?_⟩⟩
    have k03 : Keep p H (upd H2 p (.dK (penK a i3 l3))) := k02.trans Keep.upd
    refine ite2 (fun _ => ?_) (fun _ => ?_)
    · have hD3 := keep_pen (i' := i3) (l' := l3) P2.dc hD2 (by intro z; cases z)
      refine ⟨_, rfl, _, rfl, _, rfl, p, a, ns, i3, l3, D, xs, rfl, P3, hlen, hD3, by omega, by omega, xnd, fun H4 E us ws i4 l4 P4 k4 hEn hE4 hW4 hWy => ⟨_, rfl, (by show 3 ≤ sizeLine; omega), fun q hq => ?_⟩⟩
      have sq := same_upd (o := .tup [.ref D, .ref E, .ref D]) hq
      have hD4 := P3.stay k4 hD3 (by intro _ z; cases z)
      refine k _ q D E D xs xs us ws i4 l4 (P4.same sq) ((k03.trans k4).trans (Keep.of_same sq)) upd_same (sq _ _ hD4) (sq _ _ hE4) (hW4.mono fun b o z _ => sq _ _ z) hWy.c ?_ (sq _ _ hD4) (fun x h => h) (by omega) (by omega) xnd xnm
      have h1 := hWy.len
      have h2 : xs.length * (xs.length - 1) ≤ 9 * 8 := Nat.mul_le_mul (by omega) (by omega)
      omega
    · refine ⟨_, rfl, p, a, ns, i3, l3, 30, rfl, P3, hlen, by decide, fun H4 D ys i4 l4 P4 k4 hDn4 hD4 yl ynd ynm => ?_⟩
      have k04 : Keep p H H4 := k03.trans k4
      refine ⟨1, 30, rfl, ⟨by decide, by decide, by decide, by decide⟩, fun C hC => ⟨fun i m σ' H' => m = 29 - i ∧ i ≤ 29 ∧ (∃ v, σ' = [v, some (.ref p), some (.ref D)]) ∧ ∃ (acc : List V) (us : List Way) (i' l' : Int), PenAt K H' p a ns i' l' ∧ Keep p H4 H' ∧ H' C = some (.lst acc) ∧ Dats H' acc (us.map wayD) ∧ us.length = i ∧
          (∀ (q : Nat) (u : Way), us[q]? = some u → ys[q]? = some u.1 ∧ ys[q + 1]? = some u.2.1 ∧ 1 ≤ u.2.2),
        ⟨_, rfl, Nat.zero_le _, ⟨_, rfl⟩, [], [], i4, l4, P4.same (same_upd hC), Keep.of_same (same_upd hC), upd_same, .nil, rfl, fun q u h => by cases h⟩, ?_⟩⟩
      rintro j m σ' H' ⟨rfl, hj, ⟨v, rfl⟩, acc, us, i1, l1, P1, k1, hC1, hU, hul, hus⟩
      have hD1 := P4.stay k1 hD4 (by intro _ z; cases z)
      have hacc : acc.length = j := by rw [dats_len hU, List.length_map, hul]
      by_cases hlt : j < 29
      · refine .inr ⟨hlt, ?_⟩
        rintro x H6 ⟨rfl, rfl⟩
        obtain ⟨x0, hx0, gx0⟩ := at_str (xs := ys) (i := (1 : Int) + (j : Int) - 1) (by omega) (by omega)
        obtain ⟨y0, hy0, gy0⟩ := at_str (xs := ys) (i := (1 : Int) + (j : Int)) (by omega) (by omega)
        refine ⟨_, rfl, _, rfl, _, _, rfl, rfl, D, _, _, .str x0, rfl, rfl, SqL.of hD1, hx0, _, rfl, _, rfl, D, _, _, .str y0, rfl, rfl, SqL.of hD1, hy0, _, rfl, p, a, ns, i1, l1, rfl, P1, hlen, fun n i2 l2 hn P2 => ⟨(by show 3 ≤ sizeLine; omega), fun t ht => ?_⟩⟩
        have st := same_upd (o := .tup [.str x0, .str y0, .int n]) ht
        have hC2 := st _ _ (keep_pen (i' := i2) (l' := l2) P1.dc hC1 (by intro z; cases z))
        refine ⟨acc, hC2, by omega, _, (show 29 - (j + 1) < 29 - j by omega), rfl, hlt, ⟨_, rfl⟩, acc ++ [.ref t], us ++ [(x0, y0, n)], i2, l2, (P2.same st).other hC2 (by intro _ _ z; cases z) (by intro _ z; cases z), fun b o hb z => ?_, upd_same, ?_, by rw [List.length_append, hul]; rfl, fun q u hq => ?_⟩
        · rw [upd_ne (ne_of_none z hC)]
          refine st _ _ ?_
          rw [upd_ne hb]
          exact k1 b o hb z
        · rw [List.map_append]
          have tC : ∀ {b ys}, (upd (upd H6 p (.dK (penK a i2 l2))) t (.tup [.str x0, .str y0, .int n])) b = some (.tup ys) → (upd (upd (upd H6 p (.dK (penK a i2 l2))) t (.tup [.str x0, .str y0, .int n])) C (.lst (acc ++ [.ref t]))) b = some (.tup ys) := fun {b ys} z => by
            rw [upd_ne (ne_of z hC2 (by intro z; cases z))]
            exact z
          exact dats_snoc (way_dats hU fun b ys z => tC (st _ _ (keep_pen P1.dc z (by intro z; cases z)))) (.tup (tC upd_same) (.cons (.str _) (.cons (.str _) (.cons (.int _) .nil))))
        · by_cases e : q < us.length
          · rw [List.getElem?_append_left e] at hq
            exact hus q u hq
          · rw [List.getElem?_append_right (by omega)] at hq
            have e2 : q = j := by
              have := (List.getElem?_eq_some_iff.mp hq).1
              rw [List.length_singleton] at this
              omega
            subst e2
            rw [hul, Nat.sub_self] at hq
            cases hq
            refine ⟨?_, ?_, hn⟩
            · rw [show ((1 : Int) + (q : Int) - 1).toNat = q by omega] at gx0; exact gx0
            · rw [show ((1 : Int) + (q : Int)).toNat = q + 1 by omega] at gy0; exact gy0
      · have e0 : j = 29 := by omega
        subst e0
        refine .inl ⟨Nat.le_refl _, ?_⟩
        obtain ⟨x, hx, gx⟩ := at_str (xs := ys) (i := 0) (by decide) (by omega)
        refine ⟨_, rfl, .inl ⟨rfl, _, SqL.of hC1⟩, _, rfl, D, _, _, .str x, rfl, rfl, SqL.of hD1, hx, _, rfl, _, rfl, p, a, ns, i1, l1, 28, rfl, P1, by decide, by decide, hlen, fun d5 i5 l5 d5a d5b P5 => ?_⟩
        have hD5 := keep_pen (i' := i5) (l' := l5) P1.dc hD1 (by intro z; cases z)
        obtain ⟨y, hy, gy⟩ := at_str (xs := ys) (i := 2 + d5) (by omega) (by omega)
        refine ⟨_, _, rfl, rfl, D, _, _, .str y, rfl, rfl, SqL.of hD5, hy, _, rfl, p, a, ns, i5, l5, rfl, P5, hlen, fun n i6 l6 hn P6 => ⟨(by show 3 ≤ sizeLine; omega), fun t ht => ?_⟩⟩
        rw [upd_upd] at P6 ht ⊢
        have st := same_upd (o := .tup [.str x, .str y, .int n]) ht
        have hC7 := st _ _ (keep_pen (i' := i6) (l' := l6) P1.dc hC1 (by intro z; cases z))
        have hD7 := st _ _ (keep_pen (i' := i6) (l' := l6) P1.dc hD1 (by intro z; cases z))
        have cD : D ≠ C := fun z => by rw [z] at hD4; rw [hC] at hD4; cases hD4
        refine ⟨C, _, _, rfl, rfl, hC7, by omega, ?_⟩
        have P8 := (P6.same st).other (o := .lst (acc ++ [.ref t])) hC7 (by intro _ _ z; cases z) (by intro _ z; cases z)
        have hD8 : (upd (upd (upd H' p (.dK (penK a i6 l6))) t (.tup [.str x, .str y, .int n])) C (.lst (acc ++ [.ref t]))) D = some (.lst (ys.map V.str)) := by rw [upd_ne cD]; exact hD7
        refine ⟨_, rfl, _, rfl, _, rfl, D, _, _, .str x, rfl, rfl, SqL.of hD8, hx, _, rfl, _, rfl, p, a, ns, i6, l6, 30, rfl, P8, by decide, by decide, hlen, fun d9 i9 l9 d9a d9b P9 => ?_⟩
        have hD9 := keep_pen (i' := i9) (l' := l9) P8.dc hD8 (by intro z; cases z)
        obtain ⟨z, hz, gz⟩ := at_str (xs := ys) (i := d9) (by omega) (by omega)
        refine ⟨D, _, _, .str z, rfl, rfl, SqL.of hD9, hz, (by show 2 ≤ sizeLine; omega), fun B hB => ⟨(by show 3 ≤ sizeLine; omega), fun q hq => ?_⟩⟩
        have sB := same_upd (o := .lst [.str x, .str z]) hB
        have sq := same_upd (o := .tup [.ref D, .ref C, .ref B]) hq
        have hC9 := keep_pen (i' := i9) (l' := l9) P8.dc (@upd_same _ C (.lst (acc ++ [.ref t]))) (by intro z; cases z)
        refine k _ q D C B ys [x, z] (acc ++ [.ref t]) (us ++ [(x, y, n)]) i9 l9 ((P9.same sB).same sq) (fun b o hb e => ?_) upd_same (sq _ _ (sB _ _ hD9)) (sq _ _ (sB _ _ hC9)) ?_ (line_more (n := 29) ynd (by omega) hul hus (by simpa using gx) gy (by omega) hn) ?_ (sq _ _ upd_same) (fun w hw => ?_) (by omega) (by omega) ynd ynm
        · have e4 := k04 b o hb e
          refine sq _ _ (sB _ _ ?_)
          rw [upd_ne hb, upd_ne (ne_of_none e4 hC)]
          refine st _ _ ?_
          rw [upd_ne hb]
          exact k1 b o hb e4
        · rw [List.map_append]
          have up : ∀ {b ys}, (upd (upd H' p (.dK (penK a i6 l6))) t (.tup [.str x, .str y, .int n])) b = some (.tup ys) → (upd (upd (upd (upd (upd (upd H' p (.dK (penK a i6 l6))) t (.tup [.str x, .str y, .int n])) C (.lst (acc ++ [.ref t]))) p (.dK (penK a i9 l9))) B (.lst [.str x, .str z])) q (.tup [.ref D, .ref C, .ref B])) b = some (.tup ys) := fun {b ys} w => by
            refine sq _ _ (sB _ _ (keep_pen P8.dc ?_ (by intro z; cases z)))
            rw [upd_ne (ne_of w hC7 (by intro z; cases z))]
            exact w
          exact dats_snoc (way_dats hU fun b ys w => up (st _ _ (keep_pen P1.dc w (by intro z; cases z)))) (.tup (up upd_same) (.cons (.str _) (.cons (.str _) (.cons (.int _) .nil))))
        · rw [List.length_append, hul]
          show 29 + 1 < 64
          decide
        · rcases List.mem_cons.mp hw with rfl | hw
          · exact List.mem_of_getElem? gx
          · rw [List.mem_singleton.mp hw]
            exact List.mem_of_getElem? gz
end
end K04

set_option maxRecDepth 100000
set_option maxHeartbeats 4000000
namespace K04
open PySem L2
section
variable {P : Program} {w : World} {K : PySem.W.Frag} {mg : Str → Option Value} {base : Heap}
theorem ok_neighboursL {f : Addr} {fd : FuncData} (F : Fun K "neighbours" "neighbours" s_neighbours f fd) : FnOk P w K mg base CX0 1 f fd ["web"] (spNbrL K) := by
  refine F.ok sc_neighbours (fun vs H Q E h => ?_) (fun cdv A outer s H vs Q E hr h => ?_)
  · obtain ⟨q, ps, ws, r, rfl, _⟩ := h
    rfl
  · obtain ⟨q, ps, ws, r, rfl, ok, k⟩ := h
    obtain ⟨tp, tw, us, hq, htp, htw, hD⟩ := ok.web.ex
    have nd := sc_neighbours.nd
    have hu := hu_of hr
    have big : 1000 < sizeLine := by decide
    have l30 := ok.l30
    have l64 := ok.l64
    refine ⟨_, pss_cons (ps_asg (pv 0) (pg_tup rfl (pgs_cons (pg_name (i := 1) nd rfl (Or.inl rfl)) (pgs_cons (pg_name (i := 2) nd rfl (Or.inl rfl)) pgs_nil))))
      (pss_cons (ps_dcomp (ix := 3) (N := ["place"]) (σ0 := fun _ => [none]) nd rfl (Or.inl rfl) rfl (CompOk.plain (by decide +kernel) (by decide +kernel) rfl (by decide +kernel)) (fun σ _ => Carry.none _ _ _ ["place"] σ) (pi_tup (pv 1))
        (fun s2 H C fp => ⟨pg_name (i := 0) (show (["place"] : List Str).Nodup by decide +kernel) rfl (Or.inl rfl), pts_nil, pv 0, pe_dnewK⟩))
      (pss_cons (ps_for PassesOwn.never rfl (pi_tup (pv 2)) (pg_tup rfl (pgs_cons (pg_name (i := 4) nd rfl (Or.inl rfl)) (pgs_cons (pg_name (i := 5) nd rfl (Or.inl rfl)) (pgs_cons (pg_name (i := 6) nd rfl (Or.inl rfl)) pgs_nil))))
        (pss_cons (ps_dput hu (pe_dget hu (pv 3) (pv 4) (fun _ _ => rfl)) (pv 5) (pv 6) rfl) (pss_one (ps_dput hu (pe_dget hu (pv 3) (pv 5) (fun _ _ => rfl)) (pv 4) (pv 6) rfl))))
      (pss_one (ps_ret (pv 3))))), ?_⟩
    refine ⟨_, rfl, q, _, rfl, SqT.of hq, rfl, _, _, rfl, _, _, rfl, rfl, ?_⟩
    refine ⟨_, rfl, tp, rfl, ⟨_, SqT.of htp⟩, fun C hC => ⟨fun i m σ' H' => m = ps.length - i ∧ i ≤ ps.length ∧ (∃ v, σ' = [v]) ∧ ∃ ds : List Addr, Same H H' ∧ ds.length = i ∧ ds.Nodup ∧ C ∉ ds ∧ (∀ d ∈ ds, H d = none ∧ H' d = some (.dK [])) ∧ H' C = some (.dK (sK (nbL (ps.take i) ds))),
      ⟨_, rfl, Nat.zero_le _, ⟨_, rfl⟩, [], same_upd hC, rfl, .nil, by simp, by simp, upd_same⟩, ?_⟩⟩
    rintro i m σ' H' ⟨rfl, hi, ⟨v, rfl⟩, ds, s1, dl, dn, dC, dH, hC1⟩
    have htp1 := s1 _ _ htp
    by_cases hlt : i < ps.length
    · refine .inr ⟨⟨_, V.str ps[i], SqT.of htp1, by rw [List.getElem?_map, List.getElem?_eq_getElem hlt]; rfl⟩, ?_⟩
      rintro x H6 ⟨rfl, hx⟩
      have hx' := hx _ (SqT.of htp1)
      rw [List.getElem?_map, List.getElem?_eq_getElem hlt] at hx'
      cases hx'
      have tl : (ps.take i).length = i := by rw [List.length_take]; omega
      have np : ps[i] ∉ (nbL (ps.take i) ds).map (·.1) := by
        rw [nbL_keys (by omega)]
        intro hm
        obtain ⟨j, hj, e⟩ := List.getElem_of_mem hm
        rw [List.getElem_take] at e
        have := nd_ix ok.nd (List.getElem?_eq_getElem (show j < ps.length by omega)) (by rw [List.getElem?_eq_getElem hlt, e])
        omega
      refine ⟨_, rfl, fun d hd => ⟨_, Sum.inr ps[i], rfl, same_upd hd _ _ hC1, ?_, _, by omega, rfl, hlt, ⟨_, rfl⟩, ds ++ [d], fun b o z => ?_, by simp [dl], ?_, ?_, fun c hc => ?_, ?_⟩⟩
      · rw [sK_len]
        unfold nbL
        rw [List.length_map, List.length_zip]
        omega
      · rw [upd_ne (ne_of_none z hC)]
        exact same_upd hd _ _ (s1 _ _ z)
      · refine List.nodup_append.mpr ⟨dn, List.nodup_cons.mpr ⟨by simp, .nil⟩, fun a ha b hb => ?_⟩
        have e : b = d := by simpa using hb
        subst e
        rintro rfl
        rw [(dH _ ha).2] at hd
        cases hd
      · rw [List.mem_append, not_or]
        refine ⟨dC, fun hm => ?_⟩
        have e : C = d := by simpa using hm
        rw [← e, hC1] at hd
        cases hd
      · rcases List.mem_append.mp hc with hc | hc
        · refine ⟨(dH c hc).1, ?_⟩
          rw [upd_ne (fun z => dC (by rw [← z]; exact hc))]
          exact same_upd hd _ _ (dH c hc).2
        · have e : c = d := by simpa using hc
          subst e
          refine ⟨s1.free hd, ?_⟩
          rw [upd_ne (fun z => by rw [z, hC1] at hd; cases hd)]
          exact upd_same
      · rw [upd_same, sK_new np]
        have e1 : ps.take (i + 1) = ps.take i ++ [ps[i]] := by rw [List.take_add_one, List.getElem?_eq_getElem hlt]; rfl
        have e2 : nbL (ps.take (i + 1)) (ds ++ [d]) = nbL (ps.take i) ds ++ [(ps[i], .ref d)] := by
          unfold nbL
          rw [e1, List.zip_append (by omega), List.map_append]
          rfl
        rw [e2]
    · have e0 : i = ps.length := by omega
      subst e0
      rw [List.take_length] at hC1
      refine .inl ⟨⟨_, SqT.of htp1, by rw [List.length_map]; exact Nat.le_refl _⟩, ?_⟩
      have NB0 : NB H' C ps ds (Adj (ws.take 0)) 0 := ⟨hC1, dl, dn, dC, fun j p d e1 e2 => ⟨[], (dH d (List.mem_of_getElem? e2)).2, Nat.le_refl _, fun y => ⟨fun z => absurd z List.not_mem_nil, fun ⟨u, hu, _⟩ => absurd hu List.not_mem_nil⟩⟩⟩
      have NBV0 : NBV H' ps ds (Edge (ws.take 0)) := fun j p d nv e1 e2 hr y v hy => by
        have : nv = [] := Rd.inj hr (.inl (dH d (List.mem_of_getElem? e2)).2)
        subst this
        cases hy
      have hwl : us.length = ws.length := by rw [dats_len hD, List.length_map]
      refine ⟨_, rfl, tw, rfl, ⟨_, SqT.of (s1 _ _ htw)⟩, for_tup (xs := us) (fun i σ H2 => (∃ v4 v5 v6, σ = [some (.ref q), some (.ref tp), some (.ref tw), some (.ref C), v4, v5, v6]) ∧ Same H H2 ∧ NB H2 C ps ds (Adj (ws.take i)) (2 * i) ∧ NBV H2 ps ds (Edge (ws.take i))) ⟨⟨_, _, _, rfl⟩, s1, NB0, NBV0⟩ (fun i σ H2 _ hP => SqT.of (hP.2.1 _ _ htw)) (fun i x σ H2 hx hP => ?_) (fun σ H2 hP => ?_)⟩
      · obtain ⟨⟨v4, v5, v6, rfl⟩, s2, nb, nbv⟩ := hP
        obtain ⟨u, t, gu, rfl, ht⟩ := dats_way hD hx
        have hi2 : i < ws.length := (List.getElem?_eq_some_iff.mp gu).1
        have hu2 := ok.ends u (List.mem_of_getElem? gu)
        refine ⟨t, _, rfl, SqT.of (s2 _ _ ht), rfl, _, _, rfl, _, _, rfl, _, _, rfl, rfl, ?_⟩
        obtain ⟨j, d, nv, a1, a2, a3, a4, a5, a6⟩ := nb.get ok.nd hu2.1
        obtain ⟨nv', b1, b2, b3⟩ := sK_put nv u.2.1 (.int u.2.2)
        have dH1 : ∀ c ∈ ds, H c = none := fun c hc => (dH c hc).1
        refine ⟨_, rfl, _, rfl, _, rfl, C, _, rfl, ?_, _, rfl, d, _, rfl, DPut.k (k := Sum.inr u.2.1) a4 (by rw [sK_len]; omega), ?_⟩
        · have := DGet.k (k := Sum.inr u.1) nb.top
          rw [a3] at this
          exact this
        rw [b1]
        have nb2 := nb.put ok.nd a1 a2 a4 b2 b3 a6 a5
        have nbv2 := nbv.put ok.nd nb.nd a1 a2 a4 b1 (fun _ _ _ => edge_mono) (edge_new gu)
        have s3 : Same H (upd H2 d (.dK (sK nv'))) := fun b o z => by
          rw [upd_ne (ne_of_none z (dH1 d (List.mem_of_getElem? a2)))]
          exact s2 _ _ z
        generalize upd H2 d (.dK (sK nv')) = H3 at nb2 nbv2 s3 ⊢
        obtain ⟨j', d', mv, c1, c2, c3, c4, c5, c6⟩ := nb2.get ok.nd hu2.2
        obtain ⟨mv', e1, e2, e3⟩ := sK_put mv u.1 (.int u.2.2)
        refine ⟨_, rfl, _, rfl, _, rfl, C, _, rfl, ?_, _, rfl, d', _, rfl, DPut.k (k := Sum.inr u.1) c4 (by rw [sK_len]; omega), ?_⟩
        · have := DGet.k (k := Sum.inr u.2.1) nb2.top
          rw [c3] at this
          exact this
        rw [e1]
        have nb3 := nb2.put ok.nd c1 c2 c4 e2 e3 c6 c5
        have nbv3 := nbv2.put (Ed' := Edge (ws.take (i + 1))) ok.nd nb2.nd c1 c2 c4 e1 (fun _ _ _ h => h) (edge_new gu).symm
        refine ⟨⟨_, _, _, rfl⟩, fun b o z => ?_, nb3.mono (fun a b => (adj_take gu a b).symm) (by omega), nbv3⟩
        rw [upd_ne (ne_of_none z (dH1 d' (List.mem_of_getElem? c2)))]
        exact s3 _ _ z
      · obtain ⟨⟨v4, v5, v6, rfl⟩, s2, nb, nbv⟩ := hP
        rw [hwl, List.take_length] at nb nbv
        exact ⟨_, rfl, k H2 C ds s2 (nb.mono (fun _ _ => Iff.rfl) (by omega)) nbv hC fun d hd => (dH d hd).1⟩
end
end K04

set_option maxRecDepth 100000
set_option maxHeartbeats 4000000
namespace K04
open PySem L2
section
variable {P : Program} {w : World} {K : PySem.W.Frag} {mg : Str → Option Value} {base : Heap}
structure NbF (K : PySem.W.Frag) (mg : Str → Option Value) (f : Addr) (fd : FuncData) : Prop where
  F : Fun K "neighbours" "neighbours" s_neighbours f fd
  mg : mg "neighbours" = some (.ref f)
  b : Binds K fd ["web"] []
theorem ok_nearest {f fN : Addr} {fd fdN : FuncData} (NK : NbF K mg fN fdN) (hmi : mg "min" = none) (F : Fun K "nearest" "nearest" s_nearest f fd) : FnOk P w K mg base CX0 2 f fd ["web", "starts"] (spNear K) := by
  have GN : FnOk P w K mg base CX0 1 fN fdN ["web"] (spNbrL K) := ok_neighboursL NK.F
  refine F.ok sc_nearest (fun vs H Q E h => ?_) (fun cdv A outer s H vs Q E hr h => ?_)
  · obtain ⟨q, st, ps, ss, ws, r, rfl, _⟩ := h
    rfl
  · obtain ⟨q, st, ps, ss, ws, r, rfl, ok, pos, uniq, hst, ssne, ssn, sssub, k⟩ := h
    have nd := sc_nearest.nd
    have hu := hu_of hr
    have hu64 := hr.units
    have big : 1000 < sizeLine := by decide
    have l30 := ok.l30
    have ssl : ss.length ≤ 30 := by
      have := len_le_of_sub ssn sssub
      omega
    refine ⟨_, pss_cons (ps_set (i := 2) nd rfl (Or.inl rfl) (pe_call GN hr (by rfl) NK.mg NK.F.kp NK.b .nil pass0 (pa_cons (pv 0) pa_nil)))
      (pss_cons (ps_set (i := 3) nd rfl (Or.inr rfl) (pe_dcomp (N := ["start"]) (σ0 := fun _ => [none]) rfl (CompOk.plain (by decide +kernel) (by decide +kernel) rfl (by decide +kernel)) (fun σ _ => Carry.none _ _ _ ["start"] σ) (PI.or (pi_list (pv 1)) (pi_tup (pv 1)))
        (fun s2 H C fp => ⟨pg_name (i := 0) (show (["start"] : List Str).Nodup by decide +kernel) rfl (Or.inl rfl), pts_nil, pv 0, pe_tup (pa_cons pe_int (pa_cons (pv 0) pa_nil))⟩)))
      (pss_cons (ps_set (i := 4) nd rfl (Or.inl rfl) pe_dnewK)
      (pss_cons (ps_while PassesOwn.never (pt_truth (pv 3) (fun _ => rfl))
        (pss_cons (ps_asg (pe_thaw (pe_callB (call_min_keysP rfl hu64) (by rfl) hmi PyProof.Rows.boot_min (pa_cons
            (pe_comp (N := ["name", "reached"]) (σ0 := fun σ => [none, some 3].map fun j => j.bind fun j => (σ[j]?).join) rfl
              (CompOk.caught (by rfl) (by decide +kernel) rfl (by decide +kernel) (by intro y hy; simp only [List.mem_cons, List.not_mem_nil, or_false] at hy; rcases hy with rfl <;> rfl)
                (by intro y hy e; simp only [List.mem_cons, List.not_mem_nil, or_false] at hy; rcases hy with rfl | rfl | rfl <;> first | exact ⟨_, rfl⟩ | cases e))
              (fun σ _ => Carry.of [none, some 3] rfl (by
                intro i j x h1 h2
                match i, h1, h2 with
                | 0, _, h2 => cases h2
                | 1, h1, h2 => cases h1; cases h2; exact ⟨rfl, .inl rfl, .inl rfl⟩
                | n + 2, h1, _ => cases h1)) (pi_dict (pv 3))
              (fun s2 H C fp => ⟨pg_name (i := 0) (show (["name", "reached"] : List Str).Nodup by decide +kernel) rfl (Or.inl rfl), pts_nil, pe_tup (pa_cons (pe_dget hu (pv 1) (pv 0) (fun _ _ => rfl)) (pa_cons (pv 0) pa_nil))⟩)) pa_nil)))
            (pg_tup rfl (pgs_cons (pg_tup rfl (pgs_cons (pg_name (i := 5) nd rfl (Or.inl rfl)) (pgs_cons (pg_name (i := 6) nd rfl (Or.inl rfl)) pgs_nil))) (pgs_cons (pg_name (i := 7) nd rfl (Or.inl rfl)) pgs_nil))))
        (pss_cons (ps_ddel (pv 3) (pv 7))
        (pss_cons (ps_dput hu (pv 4) (pv 7) (pe_tup (pa_cons (pv 5) (pa_cons (pv 6) pa_nil))) rfl)
        (pss_one (ps_for PassesOwn.never rfl (pi_dict (pe_dget hu (pv 2) (pv 7) (fun _ _ => rfl))) (pg_name (i := 8) nd rfl (Or.inl rfl))
          (pss_one (ps_if (pt_cmp (pc_dnotin hu (pv 8) (pv 4)))
            (pss_cons (ps_set (i := 9) nd rfl (Or.inl rfl) (pe_tup (pa_cons (pe_op op_add (pv 5) (pe_dget hu (pe_dget hu (pv 2) (pv 7) (fun _ _ => rfl)) (pv 8) (fun _ _ => rfl))) (pa_cons (pv 6) pa_nil))))
            (pss_one (ps_dput hu (pv 3) (pv 8) (pe_callB (call_min_prsP rfl hu64) (by rfl) hmi PyProof.Rows.boot_min (pa_cons (pv 9) (pa_cons (pe_dget2 hu (pv 3) (pv 8) (pv 9) ⟨rfl, rfl, rfl, rfl⟩) pa_nil))) rfl))) pss_nil))))))))
      (pss_one (ps_ret (pv 4)))))), ?_⟩
    refine ⟨_, rfl, q, ps, ws, r, rfl, ok, fun H1 B ds s1 nb nbv hB hds => ?_⟩
    have nbAt : ∀ a, a ∈ ds → ∃ u, H1 a = some u := fun a hm => by
      obtain ⟨i, hi, e⟩ := List.getElem_of_mem hm
      have hi2 : i < ps.length := by rw [← nb.len]; exact hi
      obtain ⟨nv, a1, _⟩ := nb.inner i ps[i] a (List.getElem?_eq_getElem hi2) (by rw [List.getElem?_eq_getElem hi, e])
      exact ⟨_, a1⟩
    have hB1 := nb.top
    rcases hst with hst | hst
    case' inl =>
      refine .inl ⟨_, rfl, st, rfl, ⟨_, SqL.of (s1 _ _ hst)⟩, fun RA hRA => ?_⟩
    case' inr =>
      refine .inr ⟨_, rfl, st, rfl, ⟨_, SqT.of (s1 _ _ hst)⟩, fun RA hRA => ?_⟩
    all_goals
      refine ⟨fun i m σ' H' => m = ss.length - i ∧ i ≤ ss.length ∧ (∃ v, σ' = [v]) ∧ ∃ nv : List (Str × V), Same H1 H' ∧ H' RA = some (.dK (sK nv)) ∧ nv.map (·.1) = ss.take i ∧ ∀ y v, (y, v) ∈ nv → PrH H' v (0, y),
        ⟨_, rfl, Nat.zero_le _, ⟨_, rfl⟩, [], same_upd hRA, upd_same, rfl, fun y v hy => absurd hy List.not_mem_nil⟩, ?_⟩
      rintro i m σ' H' ⟨rfl, hi, ⟨v, rfl⟩, nv, s2, hC1, nk, np⟩
      have hst1 := s2 _ _ (s1 _ _ hst)
      by_cases hlt : i < ss.length
      · refine .inr ⟨⟨_, V.str ss[i], by first | exact SqL.of hst1 | exact SqT.of hst1, by rw [List.getElem?_map, List.getElem?_eq_getElem hlt]; rfl⟩, ?_⟩
        rintro x H6 ⟨rfl, hx⟩
        have hx' := hx _ (by first | exact SqL.of hst1 | exact SqT.of hst1)
        rw [List.getElem?_map, List.getElem?_eq_getElem hlt] at hx'
        cases hx'
        have nn : ss[i] ∉ nv.map (·.1) := by
          rw [nk]
          intro hm
          obtain ⟨j, hj, e⟩ := List.getElem_of_mem hm
          rw [List.length_take] at hj
          rw [List.getElem_take] at e
          have := nd_ix ssn (List.getElem?_eq_getElem (show j < ss.length by omega)) (by rw [List.getElem?_eq_getElem hlt, e])
          omega
        have nl : nv.length = i := by
          have := congrArg List.length nk
          rw [List.length_map, List.length_take] at this
          omega
        refine ⟨_, rfl, _, rfl, (by show 2 ≤ sizeLine; omega), fun t ht => ⟨_, Sum.inr ss[i], rfl, same_upd ht _ _ hC1, by rw [sK_len]; omega, _, by omega, rfl, hlt, ⟨_, rfl⟩, nv ++ [(ss[i], .ref t)], fun b o z => ?_, by rw [upd_same, sK_new nn], ?_, fun y v hy => ?_⟩⟩
        · rw [upd_ne (ne_of_none z hRA)]
          exact same_upd ht _ _ (s2 _ _ z)
        · rw [List.map_append, nk, List.take_add_one, List.getElem?_eq_getElem hlt]; rfl
        · have tk : ∀ b xs, (upd H6 t (.tup [.int 0, .str ss[i]])) b = some (.tup xs) → (upd (upd H6 t (.tup [.int 0, .str ss[i]])) RA (.dK (putK (sK nv) (Sum.inr ss[i] : Key) (.ref t)))) b = some (.tup xs) := fun b xs z => by
            rw [upd_ne (ne_of z (same_upd ht _ _ hC1) (by intro z; cases z))]; exact z
          rcases List.mem_append.mp hy with hy | hy
          · exact (np y v hy).same fun b xs z => tk b xs (same_upd ht _ _ z)
          · simp only [List.mem_singleton, Prod.mk.injEq] at hy
            obtain ⟨rfl, rfl⟩ := hy
            exact ⟨t, rfl, tk _ _ upd_same⟩
      · have e0 : i = ss.length := by omega
        subst e0
        rw [List.take_length] at nk
        refine .inl ⟨⟨_, by first | exact SqL.of hst1 | exact SqT.of hst1, by rw [List.length_map]; exact Nat.le_refl _⟩, fun SA hSA => ?_⟩
        have sS := same_upd (o := .dK []) hSA
        have aR : RA ∉ ds ∧ RA ≠ B ∧ RA ≠ SA ∧ H RA = none := ⟨(fun hm => by obtain ⟨u, e⟩ := nbAt RA hm; rw [hRA] at e; cases e), (fun z => by rw [z, hB1] at hRA; cases hRA), (fun z => by rw [← z, hC1] at hSA; cases hSA), s1.free hRA⟩
        have aS : SA ∉ ds ∧ SA ≠ B ∧ SA ≠ RA ∧ H SA = none := ⟨(fun hm => by obtain ⟨u, e⟩ := nbAt SA hm; rw [s2 _ _ e] at hSA; cases hSA), (fun z => by rw [z, s2 _ _ hB1] at hSA; cases hSA), (fun z => aR.2.2.1 z.symm), (s1.trans s2).free hSA⟩
        have s3 : Same H1 (upd H' SA (.dK [])) := s2.trans sS
        have N0 : NI H (upd H' SA (.dK [])) ps ws B RA SA ds nv [] (fun _ _ => False) (fun y p => y ∈ ss ∧ p = (0, y)) := by
          refine ⟨s1.trans s3, nb.r.same s3, nbv.of nb.r (fun d _ nv z => by rcases z with a | ⟨o, a⟩; exact .inl (s3 _ _ a); exact .inr ⟨o, s3 _ _ a⟩), sS _ _ hC1, upd_same, ⟨by rw [nk]; exact ssn, fun y v hy => ⟨(0, y), (np y v hy).same fun b xs z => sS _ _ z, by rw [← nk]; exact List.mem_map.mpr ⟨_, hy, rfl⟩, rfl⟩, fun y p hp => ?_⟩, ⟨.nil, fun y v hy => absurd hy List.not_mem_nil, fun y p hp => hp.elim⟩, fun y hy => sssub y (by rw [← nk]; exact hy), fun y hy => absurd hy List.not_mem_nil⟩
          obtain ⟨hy, rfl⟩ := hp
          rw [← nk] at hy
          obtain ⟨⟨z, v⟩, a, b⟩ := List.mem_map.mp hy
          have b' : z = y := b
          subst b'
          exact ⟨v, a, (np z v a).same fun b xs z => sS _ _ z⟩
        have D0 : Dij ws ss (fun _ _ => False) (fun y p => y ∈ ss ∧ p = (0, y)) := ⟨fun _ _ h => h.elim, fun y p ⟨h1, h2⟩ => by subst h2; exact ⟨h1, .nil y⟩, fun _ _ _ _ h => h.elim, fun s hs => .inr ⟨(0, s), ⟨hs, rfl⟩, leP.refl _⟩⟩
        clear hC1 hst1 np
        generalize upd H' SA (.dK []) = H5 at N0 ⊢
        refine ⟨fun m σ H2 => ∃ nvR nvS S R v5 v6 v7 v8 v9, m = ps.length - nvS.length ∧ σ = [some (.ref q), some (.ref st), some (.ref B), some (.ref RA), some (.ref SA), v5, v6, v7, v8, v9] ∧ NI H H2 ps ws B RA SA ds nvR nvS S R ∧ Dij ws ss S R ∧ ∀ y p, R y p → ∀ q, ¬ S y q,
          ⟨_, nv, [], _, _, _, _, _, _, _, rfl, rfl, N0, D0, fun _ _ _ _ h => h⟩, ?_⟩
        clear N0 D0 hSA sS s3 s2 nk
        rintro m σ H2 ⟨nvR, nvS, S, R, v5, v6, v7, v8, v9, rfl, rfl, N, Dj, dis⟩
        refine ⟨_, rfl, _, .inr (.inr ⟨_, N.dR, rfl⟩), ?_⟩
        by_cases hne : nvR = []
        · subst hne
          refine iteF ?_
          have all : ∀ x ∈ ps, ∃ q, S x q := Dj.done (fun y p h => by obtain ⟨v, a, _⟩ := N.pR.2.2 y p h; cases a) ssne ok.con (fun T x hx tx cl => ok.con (fun z => T z → T r) (fun h => h) (fun a b hab h tb => h (cl b a hab.symm tb)) x hx tx) sssub
          refine ⟨_, rfl, k H2 SA nvS N.same aS.2.2.2 N.dS N.pS.1 (fun x => ⟨N.subS x, fun hx => N.inS.mpr (all x hx)⟩) fun y v hy => ?_⟩
          obtain ⟨p, h1, h2⟩ := N.pS.2.1 y v hy
          exact ⟨p, h1, Dj.near y p h2⟩
        · have hne2 : (!(sK nvR).isEmpty) = true := by cases nvR with
            | nil => exact absurd rfl hne
            | cons => rfl
          rw [hne2]
          refine iteT ?_
          refine ⟨fun σ' H' => ∃ m', m' < ps.length - nvS.length ∧ ∃ nvR nvS S R v5 v6 v7 v8 v9, m' = ps.length - nvS.length ∧ σ' = [some (.ref q), some (.ref st), some (.ref B), some (.ref RA), some (.ref SA), v5, v6, v7, v8, v9] ∧ NI H H' ps ws B RA SA ds nvR nvS S R ∧ Dij ws ss S R ∧ ∀ y p, R y p → ∀ q, ¬ S y q, fun σ' H' z => z, ?_⟩
          have lR := N.lenR
          have lS := N.lenS
          -- min([(reached[name], name) for name in reached])
          refine ⟨_, rfl, RA, _, rfl, .inl N.dR, fun o H3 fz C hC => ?_⟩
          have fz' : H3 = upd H2 RA (.frz o (.dK (sK nvR))) := by
            rcases fz with ⟨_, e⟩ | ⟨e, _⟩
            · exact e
            · rw [N.dR] at e; cases e
          have hR3 := fz.at
          have t23 : ∀ b xs, H2 b = some (.tup xs) → H3 b = some (.tup xs) := fun b xs z => by
            rw [fz.ne (ne_of z N.dR (by intro z; cases z))]; exact z
          refine ⟨fun i m σ' H' => m = nvR.length - i ∧ i ≤ nvR.length ∧ (∃ v, σ' = [v, some (.ref RA)]) ∧ ∃ (acc : List V) (ks : List ((Int × Str) × Str)), Same H3 H' ∧ H' C = some (.lst acc) ∧ acc.length = i ∧ ks.length = i ∧ (∀ (j : Nat) v k, acc[j]? = some v → ks[j]? = some k → KyH H' v k) ∧ (∀ (j : Nat) y v, j < i → nvR[j]? = some (y, v) → ∃ p, PrH H3 v p ∧ ks[j]? = some (p, y)),
            ⟨_, rfl, Nat.zero_le _, ⟨_, rfl⟩, [], [], same_upd hC, upd_same, rfl, rfl, fun j v k h => (by simp at h), fun j y v hj => absurd hj (Nat.not_lt_zero _)⟩, ?_⟩
          rintro i m σ' H' ⟨rfl, hi, ⟨v, rfl⟩, acc, ks, s4, hC1, al, kl, hky, hks⟩
          have hR4 := s4 _ _ hR3
          have nCR : RA ≠ C := ne_of_none hR3 hC
          by_cases hlt : i < nvR.length
          · refine .inr ⟨⟨hR4, by rw [sK_len]; exact hlt⟩, ?_⟩
            rintro z H6 ⟨rfl, key, v2, ek, rfl⟩
            obtain ⟨y, ey, rfl⟩ := sK_at ek
            have hm := List.mem_of_getElem? ey
            obtain ⟨p, hp, hRp⟩ := N.pR.2.1 y v2 hm
            have hp3 := hp.same t23
            refine ⟨_, rfl, _, rfl, RA, v2, rfl, .inl ⟨_, Sum.inr y, .inr ⟨o, hR4⟩, rfl, (sK_some N.pR.1 hm).symm⟩, _, rfl, (by show 2 ≤ sizeLine; omega), fun t ht => ?_⟩
            have st := same_upd (o := .tup [v2, .str y]) ht
            have hC2 := st _ _ hC1
            have tC : ∀ b xs, (upd H6 t (.tup [v2, .str y])) b = some (.tup xs) → (upd (upd H6 t (.tup [v2, .str y])) C (.lst (acc ++ [.ref t]))) b = some (.tup xs) := fun b xs z => by
              rw [upd_ne (ne_of z hC2 (by intro z; cases z))]; exact z
            refine ⟨acc, hC2, by omega, _, by omega, rfl, hlt, ⟨_, rfl⟩, acc ++ [.ref t], ks ++ [(p, y)], fun b u z => ?_, upd_same, by simp [al], by simp [kl], fun j v k h1 h2 => ?_, fun j y' v' hj h => ?_⟩
            · rw [upd_ne (ne_of_none z hC)]
              exact st _ _ (s4 _ _ z)
            · by_cases hj : j < acc.length
              · rw [List.getElem?_append_left hj] at h1
                rw [List.getElem?_append_left (by omega)] at h2
                exact (hky j v k h1 h2).same fun b xs z => tC b xs (st _ _ z)
              · rw [List.getElem?_append_right (by omega)] at h1
                rw [List.getElem?_append_right (by omega)] at h2
                have j0 : j - acc.length = 0 := by
                  have := (List.getElem?_eq_some_iff.mp h1).1
                  simp at this
                  omega
                have j1 : j - ks.length = 0 := by omega
                rw [j0] at h1
                rw [j1] at h2
                cases h1
                cases h2
                obtain ⟨t2, e2, g2⟩ := hp3
                subst e2
                exact ⟨t, t2, rfl, tC _ _ upd_same, t2, rfl, tC _ _ (st _ _ (s4 _ _ g2))⟩
            · by_cases ej : j = i
              · subst ej
                rw [ey] at h
                cases h
                exact ⟨p, hp3, by rw [List.getElem?_append_right (by omega), kl, Nat.sub_self]; rfl⟩
              · obtain ⟨p', a1, a2⟩ := hks j y' v' (by omega) h
                exact ⟨p', a1, by rw [List.getElem?_append_left (by omega)]; exact a2⟩
          · have e0 : i = nvR.length := by omega
            subst e0
            have ksne : ks ≠ [] := by
              intro z
              rw [z] at kl
              exact hne (List.length_eq_zero_iff.mp kl.symm)
            refine .inl ⟨⟨hR4, by rw [sK_len]; exact Nat.le_refl _⟩, C, acc, ks, rfl, hC1, by omega, ksne, hky, fun v kk hk hKy hmin => ?_⟩
            refine ⟨RA, o, sK nvR, hR4, fun ob w z => ?_, ?_⟩
            · have z' : H RA = some (.frz ob w) := z
              rw [aR.2.2.2] at z'
              cases z'
            obtain ⟨⟨d0, st0⟩, here⟩ := kk
            obtain ⟨t, t2, rfl, ht, t2', e2, ht2⟩ := hKy
            cases e2
            have t45 : ∀ b xs, H' b = some (.tup xs) → (upd H' RA (.dK (sK nvR))) b = some (.tup xs) := fun b xs z => by
              rw [upd_ne (ne_of z hR4 (by intro z; cases z))]; exact z
            have s25 : Same H2 (upd H' RA (.dK (sK nvR))) := fun b u z => by
              by_cases eb : b = RA
              · subst eb
                rw [N.dR] at z
                cases z
                exact upd_same
              · rw [upd_ne eb]
                refine s4 _ _ ?_
                rw [fz.ne eb]; exact z
            have N5 := N.grow s25
            have ht5 := t45 _ _ ht
            have ht25 := t45 _ _ ht2
            have inR : ∀ j y p, ks[j]? = some (p, y) → R y p := fun j y p h => by
              have hj : j < nvR.length := by
                have := (List.getElem?_eq_some_iff.mp h).1
                omega
              obtain ⟨p', a1, a2⟩ := hks j nvR[j].1 nvR[j].2 hj (List.getElem?_eq_getElem hj)
              rw [h] at a2
              cases a2
              obtain ⟨p'', b1, b2⟩ := N.pR.2.1 _ _ (List.getElem_mem hj)
              rw [a1.fn (b1.same t23)]
              exact b2
            have hRh : R here (d0, st0) := by
              obtain ⟨j, hj, ej⟩ := List.getElem_of_mem hk
              exact inR j here (d0, st0) (by rw [List.getElem?_eq_getElem hj, ej])
            have least : ∀ z p, R z p → leP (d0, st0) p := fun z p hz => by
              obtain ⟨v, a, b⟩ := N.pR.2.2 z p hz
              obtain ⟨j, hj, ej⟩ := List.getElem_of_mem a
              obtain ⟨p', a1, a2⟩ := hks j z v hj (by rw [List.getElem?_eq_getElem hj, ej])
              have := a1.fn (b.same t23)
              subst this
              exact hmin _ (List.mem_of_getElem? a2)
            have nSh : ∀ q, ¬ S here q := dis here _ hRh
            have nearH : Near ws ss here (d0, st0) := Dj.pick pos hRh nSh least
            refine ⟨t, _, rfl, SqT.of ht5, rfl, _, _, rfl, t2, _, rfl, SqT.of ht25, rfl, _, _, rfl, _, _, rfl, rfl, _, _, rfl, rfl, ?_⟩
            generalize upd H' RA (.dK (sK nvR)) = H5 at N5 ht5 ht25 s25 ⊢
            have hin : here ∈ nvR.map (·.1) := N5.inR.mpr ⟨_, hRh⟩
            have hps : here ∈ ps := N5.subR here hin
            refine ⟨_, rfl, _, rfl, RA, _, Sum.inr here, rfl, N5.dR, rfl, by rw [sK_is, decide_eq_true hin], ?_⟩
            rw [sK_drop]
            have N6 := N5.setR aR (N5.pR.drop here) (fun y hy => by
              obtain ⟨e, he, ee⟩ := List.mem_map.mp hy
              exact N5.subR y (List.mem_map.mpr ⟨e, (List.mem_filter.mp he).1, ee⟩))
            generalize upd H5 RA (.dK (sK (nvR.filter fun q => decide (q.1 ≠ here)))) = H6 at N6 ⊢
            have nhS : here ∉ nvS.map (·.1) := fun h => by
              obtain ⟨q, hq⟩ := N6.inS.mp h
              exact nSh q hq
            refine ⟨_, rfl, _, rfl, (by show 2 ≤ sizeLine; omega), fun t3 ht3 => ?_⟩
            have N7 := N6.grow (same_upd (o := .tup [.int d0, .str st0]) ht3)
            have ht37 : (upd H6 t3 (.tup [.int d0, .str st0])) t3 = some (.tup [.int d0, .str st0]) := upd_same
            generalize upd H6 t3 (.tup [.int d0, .str st0]) = H7 at N7 ht37 ⊢
            refine ⟨_, rfl, _, rfl, SA, _, rfl, DPut.k (k := Sum.inr here) N7.dS (by rw [sK_len]; have := N7.lenS; omega), ?_⟩
            rw [sK_new nhS]
            have N8 := N7.setS aS (N7.pS.put (sK_new nhS) (p := (d0, st0)) ⟨t3, rfl, ht37⟩) (fun y hy => by
              rw [List.map_append] at hy
              rcases List.mem_append.mp hy with hy | hy
              · exact N7.subS y hy
              · have : y = here := by simpa using hy
                rw [this]; exact hps)
            generalize upd H7 SA (.dK (sK (nvS ++ [(here, .ref t3)]))) = H8 at N8 ⊢
            obtain ⟨S', hS'⟩ : ∃ S' : Str → Int × Str → Prop, S' = fun z q => (z = here ∧ q = (d0, st0)) ∨ (z ≠ here ∧ S z q) := ⟨_, rfl⟩
            obtain ⟨nvS', hnvS⟩ : ∃ nvS' : List (Str × V), nvS' = nvS ++ [(here, .ref t3)] := ⟨_, rfl⟩
            rw [← hS', ← hnvS] at N8
            have nSl : nvS'.length = nvS.length + 1 := by rw [hnvS]; simp
            have nearS : ∀ y q, S' y q → Near ws ss y q := fun y q h => by
              rw [hS'] at h
              rcases h with ⟨rfl, rfl⟩ | ⟨_, h⟩
              · exact nearH
              · exact Dj.near y q h
            have hSh : S' here (d0, st0) := by rw [hS']; exact .inl ⟨rfl, rfl⟩
            have toS : ∀ y q, S y q → ∃ q', S' y q' := fun y q h => by
              by_cases e : y = here
              · rw [e]; exact ⟨_, hSh⟩
              · exact ⟨q, by rw [hS']; exact .inr ⟨e, h⟩⟩
            obtain ⟨i0, d, nb', a1, a2, a3, a4, a5⟩ := N8.nr.get ok.nd hps
            have dm := List.mem_of_getElem? a2
            refine ⟨_, rfl, _, rfl, B, .ref d, rfl, ?_, d, sK nb', rfl, a4, fun o9 H9 fz9 => ?_⟩
            · have := DGet.k (k := Sum.inr here) N8.nr.top
              rw [a3] at this
              exact this
            have N9 := N8.frz aR.1 aS.1 hds a1 a2 fz9 a5
            obtain ⟨Pv, hPv⟩ : ∃ Pv : Nat → St → Hp → Prop, Pv = fun i σ H' => ∃ nvR' R' v8 v9, σ = [some (.ref q), some (.ref st), some (.ref B), some (.ref RA), some (.ref SA), some (.int d0), some (.str st0), some (.str here), v8, v9] ∧ NI H H' ps ws B RA SA ds nvR' nvS' S' R' ∧ H' d = some (.frz o9 (.dK (sK nb'))) ∧
                (∀ y p, R' y p → p.2 ∈ ss ∧ Wsum ws p.2 y p.1) ∧ (∀ s ∈ ss, (∃ q, S' s q) ∨ ∃ q, R' s q ∧ leP q (0, s)) ∧
                (∀ x q y l, S' x q → Edge ws x y l → (∃ q', S' y q') ∨ (∃ q', R' y q' ∧ leP q' (q.1 + l, q.2)) ∨ (x = here ∧ ∀ (j : Nat) (v : V), j < i → nb'[j]? ≠ some (y, v))) ∧ (∀ y p, R' y p → ∀ q, ¬ S' y q) := ⟨_, rfl⟩
            refine for_dict (a := d) (o := o9) (kvs := sK nb') Pv ?_ (fun i σ H' _ hP => by rw [hPv] at hP; obtain ⟨_, _, _, _, _, _, z, _⟩ := hP; exact z) (fun i key v σ H' hx hP => ?_) (fun σ H' hP => ?_)
            · rw [hPv]
              refine ⟨_, _, _, _, rfl, N9, fz9.at, fun y p h => Dj.reach y p h.2, fun s hs => ?_, fun x qq y l hx he => ?_, fun y p h qq hq => ?_⟩
              · rcases Dj.start s hs with ⟨qq, h⟩ | ⟨qq, h, le⟩
                · exact .inl (toS s qq h)
                · by_cases e : s = here
                  · rw [e]; exact .inl ⟨_, hSh⟩
                  · exact .inr ⟨qq, ⟨e, h⟩, le⟩
              · by_cases ex : x = here
                · exact .inr (.inr ⟨ex, fun j v hj => absurd hj (Nat.not_lt_zero _)⟩)
                · rw [hS'] at hx
                  rcases hx with ⟨h, _⟩ | ⟨_, hx⟩
                  · exact absurd h ex
                  · rcases Dj.relax x qq y l hx he with ⟨q', h⟩ | ⟨q', h, le⟩
                    · exact .inl (toS y q' h)
                    · by_cases e : y = here
                      · rw [e]; exact .inl ⟨_, hSh⟩
                      · exact .inr (.inl ⟨q', ⟨e, h⟩, le⟩)
              · rw [hS'] at hq
                rcases hq with ⟨h2, _⟩ | ⟨_, h2⟩
                · exact h.1 h2
                · exact dis y p h.2 qq h2
            · rw [hPv] at hP
              obtain ⟨nvR', R', v8, v9, rfl, N10, hf, rch, sta, rel, dis'⟩ := hP
              obtain ⟨y, e1, rfl⟩ := sK_at hx
              have hym := List.mem_of_getElem? e1
              obtain ⟨w0, hw0⟩ : ∃ w0, valV (sK nb') (Sum.inr y : Key) = some w0 := by
                have : (valV (sK nb') (Sum.inr y : Key)).isSome = true := by rw [sK_is, decide_eq_true (List.mem_map.mpr ⟨_, hym, rfl⟩)]
                exact Option.isSome_iff_exists.mp this
              obtain ⟨l, rfl, ed⟩ := N10.nbv i0 here d nb' a1 a2 (.inr ⟨o9, hf⟩) y w0 (sK_valmem hw0)
              have hyp : y ∈ ps := by
                obtain ⟨u, hu, e⟩ := ed.adj
                obtain ⟨q1, q2⟩ := ok.ends u hu
                rcases e with ⟨_, e⟩ | ⟨e, _⟩
                · rw [← e]; exact q2
                · rw [← e]; exact q1
              refine ⟨_, rfl, _, rfl, SA, _, rfl, DGet.k (k := Sum.inr y) N10.dS, _, rfl, ?_⟩
              rw [sK_is]
              -- what is said of the ways from here grows by this one
              have step : ∀ {z : Str}, (∀ (j : Nat) (v : V), j < i → nb'[j]? ≠ some (z, v)) → z ≠ y → ∀ (j : Nat) (v : V), j < i + 1 → nb'[j]? ≠ some (z, v) := fun h2 hz j v hj e => by
                by_cases ej : j = i
                · subst ej
                  rw [e1] at e
                  cases e
                  exact hz rfl
                · exact h2 j v (by omega) e
              by_cases hy : y ∈ nvS'.map (·.1)
              · rw [decide_eq_true hy]
                refine iteF ?_
                show Pv (i + 1) _ _
                rw [hPv]
                refine ⟨nvR', R', _, _, rfl, N10, hf, rch, sta, fun x qq z l' hx' he => ?_, dis'⟩
                rcases rel x qq z l' hx' he with h | h | ⟨h1, h2⟩
                · exact .inl h
                · exact .inr (.inl h)
                · by_cases ez : z = y
                  · rw [ez]; exact .inl (N10.inS.mp hy)
                  · exact .inr (.inr ⟨h1, step h2 ez⟩)
              · rw [decide_eq_false hy]
                refine iteT ?_
                have nSy : ∀ qq, ¬ S' y qq := fun qq h => hy (N10.inS.mpr ⟨qq, h⟩)
                have dgT : DGet H' B (.str here) (some (.ref d)) := by
                  have := DGet.k (k := Sum.inr here) N10.nr.top
                  rw [a3] at this
                  exact this
                refine ⟨_, rfl, _, rfl, _, rfl, B, .ref d, rfl, dgT, _, rfl, d, .int l, rfl, .inl ⟨_, Sum.inr y, .inr ⟨o9, hf⟩, rfl, hw0.symm⟩, _, _, rfl, rfl, _, rfl, (by show 2 ≤ sizeLine; omega), fun t4 ht4 => ?_⟩
                have s4' := same_upd (o := .tup [.int (d0 + l), .str st0]) ht4
                have N11 := N10.grow s4'
                have hf11 := s4' _ _ hf
                have ht41 : (upd H' t4 (.tup [.int (d0 + l), .str st0])) t4 = some (.tup [.int (d0 + l), .str st0]) := upd_same
                generalize upd H' t4 (.tup [.int (d0 + l), .str st0]) = H11 at N11 hf11 ht41 ⊢
                have cand : PrH H11 (.ref t4) (d0 + l, st0) := ⟨t4, rfl, ht41⟩
                have candW : st0 ∈ ss ∧ Wsum ws st0 y (d0 + l) := ⟨nearH.1.1, nearH.1.2.snoc ed⟩
                have lR' := N11.lenR
                have fin : ∀ (x : V) (pn : Int × Str), PrH H11 x pn → leP pn (d0 + l, st0) → (∀ old, R' y old → leP pn old) → (pn.2 ∈ ss ∧ Wsum ws pn.2 y pn.1) →
                    Pv (i + 1) [some (.ref q), some (.ref st), some (.ref B), some (.ref RA), some (.ref SA), some (.int d0), some (.str st0), some (.str here), some (.str y), some (.ref t4)] (upd H11 RA (.dK (putK (sK nvR') (Sum.inr y : Key) x))) := by
                  intro x pn hx1 hle hold hW
                  obtain ⟨nv2, p1, p2, p3⟩ := sK_put nvR' y x
                  rw [p1, hPv]
                  have N12 := N11.setR aR (N11.pR.put p1 hx1) (fun z hz => by
                    rcases (p3 z).mp hz with hz | rfl
                    · exact N11.subR z hz
                    · exact hyp)
                  refine ⟨nv2, _, _, _, rfl, N12, ?_, fun z p hz => ?_, fun s hs => ?_, fun x' qq z l' hx' he => ?_, fun z p hz qq hq => ?_⟩
                  · rw [upd_ne (fun z => aR.1 (by rw [← z]; exact dm))]; exact hf11
                  · rcases hz with ⟨rfl, rfl⟩ | ⟨_, hz⟩
                    · exact hW
                    · exact rch z p hz
                  · rcases sta s hs with h | ⟨qq, h, le⟩
                    · exact .inl h
                    · by_cases e : s = y
                      · subst e
                        exact .inr ⟨pn, .inl ⟨rfl, rfl⟩, (hold qq h).trans le⟩
                      · exact .inr ⟨qq, .inr ⟨e, h⟩, le⟩
                  · rcases rel x' qq z l' hx' he with h | ⟨q', h, le⟩ | ⟨h1, h2⟩
                    · exact .inl h
                    · by_cases e : z = y
                      · subst e
                        exact .inr (.inl ⟨pn, .inl ⟨rfl, rfl⟩, (hold q' h).trans le⟩)
                      · exact .inr (.inl ⟨q', .inr ⟨e, h⟩, le⟩)
                    · by_cases e : z = y
                      · subst e
                        subst h1
                        have e2 := uniq _ _ _ _ he ed
                        subst e2
                        have e3 := N11.pS.fn hx' hSh
                        subst e3
                        exact .inr (.inl ⟨pn, .inl ⟨rfl, rfl⟩, hle⟩)
                      · exact .inr (.inr ⟨h1, step h2 e⟩)
                  · rcases hz with ⟨rfl, rfl⟩ | ⟨_, hz⟩
                    · exact nSy qq hq
                    · exact dis' z p hz qq hq
                have put : ∀ {x : V}, DPut H11 RA (.str y) x (upd H11 RA (.dK (putK (sK nvR') (Sum.inr y : Key) x))) := fun {x} => DPut.k (k := Sum.inr y) N11.dR (by rw [sK_len]; omega)
                obtain ⟨w1, pq, ew, hw1, hold, hWq⟩ : ∃ w1 pq, (valV (sK nvR') (Sum.inr y : Key)).getD (.ref t4) = w1 ∧ PrH H11 w1 pq ∧ (∀ old, R' y old → leP pq old) ∧ (pq.2 ∈ ss ∧ Wsum ws pq.2 y pq.1) := by
                  cases hv : valV (sK nvR') (Sum.inr y : Key) with
                  | none =>
                    refine ⟨_, _, rfl, cand, fun old h => ?_, candW⟩
                    have h1 : y ∈ nvR'.map (·.1) := N11.inR.mpr ⟨old, h⟩
                    have h2 : (valV (sK nvR') (Sum.inr y : Key)).isSome = true := by rw [sK_is, decide_eq_true h1]
                    rw [hv] at h2
                    cases h2
                  | some w1 =>
                    obtain ⟨pq, h1, h2⟩ := N11.pR.2.1 y w1 (sK_valmem hv)
                    exact ⟨w1, pq, rfl, h1, fun old h => by rw [N11.pR.fn h2 h]; exact leP.refl _, rch y pq h2⟩
                refine ⟨_, rfl, _, rfl, RA, rfl, .inl ⟨_, .inl N11.dR⟩, _, rfl, _, rfl, _, DGet.k (k := Sum.inr y) N11.dR, _, _, (d0 + l, st0), pq, rfl, cand, (by rw [ew]; exact hw1), fun le => ⟨_, rfl, _, rfl, RA, _, rfl, put, ?_⟩, fun le => ⟨_, rfl, _, rfl, RA, _, rfl, put, ?_⟩⟩
                · rw [ew]
                  exact fin w1 pq hw1 le hold hWq
                · exact fin (.ref t4) _ cand (leP.refl _) (fun old h => le.trans (hold old h)) candW
            · rw [hPv] at hP
              obtain ⟨nvR', R', v8, v9, rfl, N10, hf, rch, sta, rel, dis'⟩ := hP
              refine ⟨_, ?_, nvR', nvS', S', R', _, _, _, _, _, rfl, rfl, N10, ⟨nearS, rch, fun x qq y l hx he => ?_, sta⟩, dis'⟩
              · have := N10.lenS
                omega
              · rcases rel x qq y l hx he with h | h | ⟨rfl, h2⟩
                · exact .inl h
                · exact .inr h
                · exfalso
                  obtain ⟨⟨z, v⟩, hm2, e⟩ := List.mem_map.mp ((a5 y).mpr he.adj)
                  have e' : z = y := e
                  subst e'
                  obtain ⟨j, hj, e2⟩ := List.getElem_of_mem hm2
                  exact h2 j v (by rw [sK_len]; exact hj) (by rw [List.getElem?_eq_getElem hj, e2])
end
end K04

set_option maxRecDepth 100000
set_option maxHeartbeats 4000000
namespace K04
open PySem L2
section
variable {P : Program} {w : World} {K : PySem.W.Frag} {mg : Str → Option Value} {base : Heap}
structure NeF (K : PySem.W.Frag) (mg : Str → Option Value) (fN : Addr) (fdN : FuncData) (f : Addr) (fd : FuncData) : Prop where
  N : NbF K mg fN fdN
  mi : mg "min" = none
  F : Fun K "nearest" "nearest" s_nearest f fd
  mg : mg "nearest" = some (.ref f)
  b : Binds K fd ["web", "starts"] []
theorem ok_fars {f fN fE : Addr} {fd fdN fdE : FuncData} (EK : NeF K mg fN fdN fE fdE) (F : Fun K "fars" "fars" s_fars f fd) : FnOk P w K mg base CX0 3 f fd ["web", "place"] (spFars K) := by
  have GE : FnOk P w K mg base CX0 2 fE fdE ["web", "starts"] (spNear K) := ok_nearest EK.N EK.mi EK.F
  refine F.ok sc_fars (fun vs H Q E h => ?_) (fun cdv A outer s H vs Q E hr h => ?_)
  · obtain ⟨q, ps, ws, r, x, rfl, _⟩ := h
    rfl
  · obtain ⟨q, ps, ws, r, x, rfl, ok, pos, uniq, hx, k⟩ := h
    have hu := hu_of hr
    have nd := sc_fars.nd
    have big : 1000 < sizeLine := by decide
    have l30 := ok.l30
    refine ⟨_, pss_cons (ps_set (i := 2) nd rfl (Or.inr rfl) (pe_call GE hr (by rfl) EK.mg EK.F.kp EK.b .nil pass0 (pa_cons (pv 0) (pa_cons (pe_lst (pa_cons (pv 1) pa_nil)) pa_nil))))
      (pss_one (ps_ret (pe_dcomp (N := ["name", "told"]) (σ0 := fun σ => [none, some 2].map fun j => j.bind fun j => (σ[j]?).join) rfl
            (CompOk.caught (by rfl) (by decide +kernel) rfl (by decide +kernel) (by intro y hy; simp only [List.mem_cons, List.not_mem_nil, or_false] at hy; rcases hy with rfl <;> rfl)
              (by intro y hy e; simp only [List.mem_cons, List.not_mem_nil, or_false] at hy; rcases hy with rfl | rfl | rfl <;> first | exact ⟨_, rfl⟩ | cases e))
            (fun σ _ => Carry.of [none, some 2] rfl (by
              intro i j x h1 h2
              match i, h1, h2 with
              | 0, _, h2 => cases h2
              | 1, h1, h2 => cases h1; cases h2; exact ⟨rfl, .inl rfl, .inl rfl⟩
              | n + 2, h1, _ => cases h1)) (pi_tup (pe_ix ix_tup (pv 0) pe_int (fun _ _ => rfl)))
            (fun s2 H C fp => ⟨pg_name (i := 0) (show (["name", "told"] : List Str).Nodup by decide +kernel) rfl (Or.inl rfl), pts_nil, pv 0, pe_ix (ix_tupK K rfl) (pe_dget hu (pv 1) (pv 0) (fun _ _ => rfl)) pe_int (fun _ _ => rfl)⟩)))), ?_⟩
    refine ⟨_, rfl, _, rfl, (by show 1 ≤ sizeLine; omega), fun st hst => ?_⟩
    have s0 := same_upd (o := .lst [.str x]) hst
    refine ⟨q, st, ps, [x], ws, r, rfl, ok.same s0, pos, uniq, .inl upd_same, by simp, List.nodup_cons.mpr ⟨by simp, .nil⟩, by simpa using hx, fun H1 B nv s1 hB hB1 nn nk nr => ?_⟩
    have s01 := s0.trans s1
    obtain ⟨tp, tw, us, hq, htp, htw, hD⟩ := ok.web.ex
    refine ⟨_, rfl, q, _, 0, .ref tp, rfl, rfl, SqT.of (s01 _ _ hq), atI_nat (j := 0) rfl, tp, rfl, ⟨_, SqT.of (s01 _ _ htp)⟩, fun C hC => ?_⟩
    refine ⟨fun i m σ' H2 => m = ps.length - i ∧ i ≤ ps.length ∧ (∃ v, σ' = [v, some (.ref B)]) ∧ ∃ nc : List (Str × V), H2 = upd H1 C (.dK (sK nc)) ∧ nc.map (·.1) = ps.take i ∧ ∀ y v, (y, v) ∈ nc → ∃ n, v = .int n ∧ Dst ws x y n, ⟨_, rfl, Nat.zero_le _, ⟨_, rfl⟩, [], rfl, rfl, fun y v hy => absurd hy List.not_mem_nil⟩, ?_⟩
    rintro i m σ' H2 ⟨rfl, hi, ⟨v, rfl⟩, nc, rfl, ncK, ncV⟩
    have sC := same_upd (o := .dK (sK nc)) hC
    have htp1 := sC _ _ (s01 _ _ htp)
    by_cases hlt : i < ps.length
    · refine .inr ⟨⟨_, V.str ps[i], SqT.of htp1, by rw [List.getElem?_map, List.getElem?_eq_getElem hlt]; rfl⟩, ?_⟩
      rintro z H6 ⟨rfl, hz⟩
      have hz' := hz _ (SqT.of htp1)
      rw [List.getElem?_map, List.getElem?_eq_getElem hlt] at hz'
      cases hz'
      obtain ⟨⟨y, v2⟩, hm, e⟩ := List.mem_map.mp ((nk ps[i]).mpr (List.getElem_mem hlt))
      have e' : y = ps[i] := e
      subst e'
      obtain ⟨p, ⟨t, e2, ht⟩, hnr⟩ := nr ps[i] v2 hm
      subst e2
      have hB2 := sC _ _ hB1
      have ht2 := sC _ _ ht
      have nn' : ps[i] ∉ nc.map (·.1) := by
        rw [ncK]
        intro hm2
        obtain ⟨j, hj, e⟩ := List.getElem_of_mem hm2
        rw [List.length_take] at hj
        rw [List.getElem_take] at e
        have := nd_ix ok.nd (List.getElem?_eq_getElem (show j < ps.length by omega)) (by rw [List.getElem?_eq_getElem hlt, e])
        omega
      have ncl : nc.length = i := by
        have := congrArg List.length ncK
        rw [List.length_map, List.length_take] at this
        omega
      refine ⟨_, rfl, _, rfl, _, rfl, B, .ref t, rfl, .inl ⟨_, Sum.inr ps[i], .inl hB2, rfl, (sK_some nn hm).symm⟩, t, _, 0, .int p.1, rfl, rfl, SqT.of ht2, atI_nat (j := 0) rfl, _, Sum.inr ps[i], rfl, upd_same, by rw [sK_len]; omega, _, by omega, rfl, hlt, ⟨_, rfl⟩, nc ++ [(ps[i], .int p.1)], by rw [upd_upd, sK_new nn'], ?_, fun y v hy => ?_⟩
      · rw [List.map_append, ncK, List.take_add_one, List.getElem?_eq_getElem hlt]; rfl
      · rcases List.mem_append.mp hy with hy | hy
        · exact ncV y v hy
        · simp only [List.mem_singleton, Prod.mk.injEq] at hy
          obtain ⟨rfl, rfl⟩ := hy
          exact ⟨p.1, rfl, hnr.dst.2⟩
    · have e0 : i = ps.length := by omega
      subst e0
      rw [List.take_length] at ncK
      exact .inl ⟨⟨_, SqT.of htp1, by rw [List.length_map]; exact Nat.le_refl _⟩, k _ C nc (s01.trans sC) (s01.free hC) upd_same ncK ncV⟩
structure FaF (K : PySem.W.Frag) (mg : Str → Option Value) (fN : Addr) (fdN : FuncData) (fE : Addr) (fdE : FuncData) (f : Addr) (fd : FuncData) : Prop where
  E : NeF K mg fN fdN fE fdE
  F : Fun K "fars" "fars" s_fars f fd
  mg : mg "fars" = some (.ref f)
  b : Binds K fd ["web", "place"] []
theorem ok_far {f fN fE fS : Addr} {fd fdN fdE fdS : FuncData} (SK : FaF K mg fN fdN fE fdE fS fdS) (F : Fun K "far" "far" s_far f fd) : FnOk P w K mg base CX0 4 f fd ["web", "one", "other"] (spFar K) := by
  have GS : FnOk P w K mg base CX0 3 fS fdS ["web", "place"] (spFars K) := ok_fars SK.E SK.F
  refine F.ok sc_far (fun vs H Q E h => ?_) (fun cdv A outer s H vs Q E hr h => ?_)
  · obtain ⟨q, ps, ws, r, x, y, rfl, _⟩ := h
    rfl
  · obtain ⟨q, ps, ws, r, x, y, rfl, ok, pos, uniq, hx, hy, k⟩ := h
    have hu := hu_of hr
    refine ⟨_, pss_one (ps_ret (pe_dget hu (pe_call GS hr (by rfl) SK.mg SK.F.kp SK.b .nil pass0 (pa_cons (pv 0) (pa_cons (pv 1) pa_nil))) (pv 2) (fun _ _ => rfl))), ?_⟩
    refine ⟨_, rfl, _, rfl, q, ps, ws, r, x, rfl, ok, pos, uniq, hx, fun H1 B nv s1 hB hB1 nk nv' => ?_⟩
    rw [← nk] at hy
    obtain ⟨⟨z, v⟩, hm, e⟩ := List.mem_map.mp hy
    have e' : z = y := e
    subst e'
    obtain ⟨n, rfl, dn⟩ := nv' z v hm
    refine ⟨_, rfl, B, .int n, rfl, ?_, k H1 n s1 dn⟩
    have := DGet.k (k := Sum.inr z) hB1
    rw [sK_some (by rw [nk]; exact ok.nd) hm] at this
    exact this
theorem ok_whole {f : Addr} {fd : FuncData} (hisi : mg "isinstance" = none) (hin : mg "int" = none) (hbo : mg "bool" = none) (F : Fun K "_law_whole" "_law_whole" s_law_whole f fd) : FnOk P w K mg base CX0 1 f fd ["_law_thing"] (spWhole K) := by
  refine F.ok sc_law_whole (fun vs H Q E h => ?_) (fun cdv A outer s H vs Q E hr h => ?_)
  · obtain ⟨n, rfl, _⟩ := h
    rfl
  · obtain ⟨n, rfl, k⟩ := h
    refine ⟨_, pss_one (ps_ret (pe_and (pe_callB call_isinst (by rfl) hisi PyProof.Rows.boot_isinstance (pa_cons (pv 0) (pa_cons (pe_bltn (v := .ty "int") (by rfl) hin PyProof.Rows.boot_int rfl) pa_nil))) (pe_one (pe_not (pe_callB call_isinst (by rfl) hisi PyProof.Rows.boot_isinstance (pa_cons (pv 0) (pa_cons (pe_bltn (v := .ty "bool") (by rfl) hbo PyProof.Rows.boot_bool rfl) pa_nil))))))), ?_⟩
    refine ⟨_, rfl, _, "int", .type "int", true, rfl, TyOf.int _, rfl, _, rfl, ?_⟩
    refine iteT ?_
    exact ⟨_, rfl, _, "bool", .type "int", false, rfl, TyOf.int _, rfl, _, rfl, k⟩
end
end K04

set_option maxRecDepth 100000
set_option maxHeartbeats 4000000
namespace K04
open PySem L2
section
variable {P : Program} {w : World} {K : PySem.W.Frag} {mg : Str → Option Value} {base : Heap}
theorem ok_much {f : Addr} {fd : FuncData} (F : Fun K "_law_much" "_law_much" s_law_much f fd) : FnOk P w K mg base CX0 1 f fd ["_law_names_here", "_law_ways_here"] (spMuch K) := by
  refine F.ok sc_law_much (fun vs H Q E h => ?_) (fun cdv A outer s H vs Q E hr h => ?_)
  · obtain ⟨D, e, xs, us, ws, rfl, _⟩ := h
    rfl
  · obtain ⟨D, e, xs, us, ws, rfl, hD, x30, hE, hW, w64, ⟨wof, sep, jn⟩, k⟩ := h
    have hu := hu_of hr
    have nd := sc_law_much.nd
    have big : 16000000 < sizeLine := by decide
    have two : 2 ≤ sizeLine := by decide
    have pos : ∀ u ∈ ws, 1 ≤ u.2.2 := fun u hu => (wof u hu).2.2.2
    have ends : ∀ u ∈ ws, u.1 ∈ xs ∧ u.2.1 ∈ xs := fun u hu => ⟨(wof u hu).1, (wof u hu).2.1⟩
    have hwl : us.length = ws.length := by rw [dats_len hW, List.length_map]
    refine ⟨_, pss_cons (ps_set (i := 2) nd rfl (Or.inl rfl) pe_dnewT)
      (pss_cons (ps_for PassesOwn.never rfl (pi_list (pv 0)) (pg_name (i := 3) nd rfl (Or.inl rfl)) (pss_one (ps_dput hu (pv 2) (pe_tup (pa_cons (pv 3) (pa_cons (pv 3) pa_nil))) pe_int rfl)))
      (pss_cons (ps_for PassesOwn.never rfl (pi_list (pv 1)) (pg_tup rfl (pgs_cons (pg_name (i := 4) nd rfl (Or.inl rfl)) (pgs_cons (pg_name (i := 5) nd rfl (Or.inl rfl)) (pgs_cons (pg_name (i := 6) nd rfl (Or.inl rfl)) pgs_nil))))
        (pss_cons (ps_dput hu (pv 2) (pe_tup (pa_cons (pv 4) (pa_cons (pv 5) pa_nil))) (pv 6) rfl) (pss_one (ps_dput hu (pv 2) (pe_tup (pa_cons (pv 5) (pa_cons (pv 4) pa_nil))) (pv 6) rfl))))
      (pss_cons (ps_for PassesOwn.never rfl (pi_list (pv 0)) (pg_name (i := 7) nd rfl (Or.inl rfl))
        (pss_one (ps_for PassesOwn.never rfl (pi_list (pv 0)) (pg_name (i := 4) nd rfl (Or.inl rfl))
          (pss_one (ps_for PassesOwn.never rfl (pi_list (pv 0)) (pg_name (i := 5) nd rfl (Or.inl rfl))
            (pss_one (ps_if (pw_and (pt_cmp (pc_din hu (pe_tup (pa_cons (pv 4) (pa_cons (pv 7) pa_nil))) (pv 2))) (pw_and1 (pt_cmp (pc_din hu (pe_tup (pa_cons (pv 7) (pa_cons (pv 5) pa_nil))) (pv 2))))).pt
              (pss_cons (ps_set (i := 8) nd rfl (Or.inl rfl) (pe_op op_add (pe_dget hu (pv 2) (pe_tup (pa_cons (pv 4) (pa_cons (pv 7) pa_nil))) (fun _ _ => rfl)) (pe_dget hu (pv 2) (pe_tup (pa_cons (pv 7) (pa_cons (pv 5) pa_nil))) (fun _ _ => rfl))))
              (pss_one (ps_if (pw_or (pt_cmp (pc_dnotin hu (pe_tup (pa_cons (pv 4) (pa_cons (pv 5) pa_nil))) (pv 2))) (pw_or1 (pt_cmpR op_lt (pv 8) (pe_dget hu (pv 2) (pe_tup (pa_cons (pv 4) (pa_cons (pv 5) pa_nil))) (fun _ _ => rfl)) (nomark _)))).pt
                (pss_one (ps_dput hu (pv 2) (pe_tup (pa_cons (pv 4) (pa_cons (pv 5) pa_nil))) (pv 8) rfl)) pss_nil))) pss_nil))))))) 
      (pss_one (ps_ret (pv 2)))))), ?_⟩
    intro A hA
    have M0 : MD (upd H A (.dT [])) A (fun _ _ => none) 0 := ⟨[], upd_same, Nat.le_refl _, fun x y => rfl⟩
    have nAD : ∀ {b : Addr} {u : HO}, H b = some u → b ≠ A := fun z => ne_of_none z hA
    -- 1: each to itself
    refine ⟨_, rfl, D, rfl, ⟨_, SqL.of (same_upd hA _ _ hD)⟩, for_list (xs := xs.map V.str) (fun i σ H2 => (∃ v3 v4 v5 v6 v7 v8, σ = [some (.ref D), some (.ref e), some (.ref A), v3, v4, v5, v6, v7, v8]) ∧ Same H H2 ∧ ∃ M, MD H2 A M i ∧ (∀ x y n, M x y = some n → x = y ∧ n = 0) ∧ ∀ (j : Nat) x, j < i → xs[j]? = some x → M x x = some 0)
      ⟨⟨_, _, _, _, _, _, rfl⟩, same_upd hA, _, M0, fun x y n h => (by cases h), fun j x hj => absurd hj (Nat.not_lt_zero _)⟩ (fun i σ H2 _ hP => SqL.of (hP.2.1 _ _ hD)) (fun i v σ H2 hv hP => ?_) (fun σ H2 hP => ?_)⟩
    · obtain ⟨⟨v3, v4, v5, v6, v7, v8, rfl⟩, s2, M, hM, m1, m2⟩ := hP
      obtain ⟨x, ex, rfl⟩ : ∃ x, xs[i]? = some x ∧ v = .str x := by
        rw [List.getElem?_map] at hv
        cases ex : xs[i]? with
        | none => rw [ex] at hv; cases hv
        | some x => rw [ex] at hv; exact ⟨x, rfl, (Option.some.inj hv).symm⟩
      have hi : i < xs.length := (List.getElem?_eq_some_iff.mp ex).1
      refine ⟨_, rfl, _, rfl, _, rfl, two, fun t ht => ?_⟩
      obtain ⟨H3, dp, hM3, kvs, e3⟩ := (hM.same (same_upd (o := .tup [.str x, .str x]) ht)).put (by omega) (n := 0) (t := t) (x := x) (y := x) upd_same
      refine ⟨A, H3, rfl, dp, ⟨_, _, _, _, _, _, rfl⟩, fun b u z => ?_, _, hM3, fun a b n h => ?_, fun j y hj ey => ?_⟩
      · rw [e3, upd_ne (nAD z)]
        exact same_upd ht _ _ (s2 _ _ z)
      · unfold setM at h
        split at h
        · rename_i hc
          cases h
          exact ⟨hc.1.trans hc.2.symm, rfl⟩
        · exact m1 a b n h
      · unfold setM
        by_cases ey' : y = x
        · rw [if_pos ⟨ey', ey'⟩]
        · rw [if_neg (fun z => ey' z.1)]
          refine m2 j y ?_ ey
          have : j ≠ i := by
            rintro rfl
            rw [ex] at ey
            exact ey' (Option.some.inj ey).symm
          omega
    obtain ⟨⟨v3, v4, v5, v6, v7, v8, rfl⟩, s2, M, hM, m1, m2⟩ := hP
    rw [List.length_map] at hM m2
    have diag0 : ∀ x ∈ xs, M x x = some 0 := fun x hx => by
      obtain ⟨j, hj, ej⟩ := List.getElem_of_mem hx
      exact m2 j x hj (by rw [List.getElem?_eq_getElem hj, ej])
    -- 2: the ways
    refine ⟨_, rfl, e, rfl, ⟨_, SqL.of (s2 _ _ hE)⟩, for_list (xs := us) (fun i σ H3 => (∃ v3 v4 v5 v6 v7 v8, σ = [some (.ref D), some (.ref e), some (.ref A), v3, v4, v5, v6, v7, v8]) ∧ Same H H3 ∧ ∃ M, MD H3 A M (30 + 2 * i) ∧ (∀ x y n, M x y = some n → (x = y ∧ n = 0) ∨ Edge ws x y n) ∧ (∀ x ∈ xs, M x x = some 0) ∧ ∀ x y n, Edge (ws.take i) x y n → M x y = some n)
      ⟨⟨_, _, _, _, _, _, rfl⟩, s2, M, (let ⟨kvs, a, b, c⟩ := hM; ⟨kvs, a, by omega, c⟩), fun x y n h => .inl (m1 x y n h), diag0, fun x y n h => (by obtain ⟨u, hu, _⟩ := h; exact absurd hu List.not_mem_nil)⟩ (fun i σ H3 _ hP => SqL.of (hP.2.1 _ _ hE)) (fun i v σ H3 hv hP => ?_) (fun σ H3 hP => ?_)⟩
    · obtain ⟨⟨v3, v4, v5, v6, v7, v8, rfl⟩, s3, M, hM, n1, n2, n3⟩ := hP
      obtain ⟨u, tt, gu, rfl, htt⟩ := dats_way hW hv
      have um := List.mem_of_getElem? gu
      have une : u.1 ≠ u.2.1 := (wof u um).2.2.1
      have hi : i < ws.length := (List.getElem?_eq_some_iff.mp gu).1
      refine ⟨tt, _, rfl, SqT.of (s3 _ _ htt), rfl, _, _, rfl, _, _, rfl, _, _, rfl, rfl, ?_⟩
      refine ⟨_, rfl, _, rfl, _, rfl, _, rfl, two, fun t ht => ?_⟩
      obtain ⟨H4, dp, hM4, kvs, e4⟩ := (hM.same (same_upd (o := .tup [.str u.1, .str u.2.1]) ht)).put (by omega) (n := u.2.2) (t := t) (x := u.1) (y := u.2.1) upd_same
      have s4 : Same H H4 := fun b o z => by
        rw [e4, upd_ne (nAD z)]
        exact same_upd ht _ _ (s3 _ _ z)
      refine ⟨A, H4, rfl, dp, ?_⟩
      refine ⟨_, rfl, _, rfl, _, rfl, _, rfl, two, fun t2 ht2 => ?_⟩
      obtain ⟨H5, dp2, hM5, kvs2, e5⟩ := (hM4.same (same_upd (o := .tup [.str u.2.1, .str u.1]) ht2)).put (by omega) (n := u.2.2) (t := t2) (x := u.2.1) (y := u.1) upd_same
      refine ⟨A, H5, rfl, dp2, ⟨_, _, _, _, _, _, rfl⟩, fun b o z => ?_, _, (let ⟨kvs, a, b, c⟩ := hM5; ⟨kvs, a, by omega, c⟩), fun a b n h => ?_, fun x hx => ?_, fun a b n h => ?_⟩
      · rw [e5, upd_ne (nAD z)]
        exact same_upd ht2 _ _ (s4 _ _ z)
      · unfold setM at h
        split at h
        · rename_i hc
          cases h
          exact .inr ⟨u, um, .inr ⟨hc.2.symm, hc.1.symm⟩, rfl⟩
        · split at h
          · rename_i hc
            cases h
            exact .inr ⟨u, um, .inl ⟨hc.1.symm, hc.2.symm⟩, rfl⟩
          · exact n1 a b n h
      · unfold setM
        rw [if_neg (fun z => une (z.2.symm.trans z.1)), if_neg (fun z => une (z.1.symm.trans z.2))]
        exact n2 x hx
      · have hE' : Edge ws a b n := by
          obtain ⟨v, hv, r⟩ := h
          exact ⟨v, List.mem_of_mem_take hv, r⟩
        unfold setM
        split
        · rename_i hc
          have := edge_uniq sep hE' ⟨u, um, .inr ⟨hc.2.symm, hc.1.symm⟩, rfl⟩
          rw [this]
        · rename_i hc1
          split
          · rename_i hc
            have := edge_uniq sep hE' ⟨u, um, .inl ⟨hc.1.symm, hc.2.symm⟩, rfl⟩
            rw [this]
          · rename_i hc2
            refine n3 a b n ?_
            obtain ⟨v, hv, ev, el⟩ := h
            rw [List.take_add_one, gu] at hv
            rcases List.mem_append.mp hv with hv | hv
            · exact ⟨v, hv, ev, el⟩
            · have : v = u := by simpa using hv
              subst this
              rcases ev with ⟨x1, x2⟩ | ⟨x1, x2⟩
              · exact absurd ⟨x1.symm, x2.symm⟩ hc2
              · exact absurd ⟨x2.symm, x1.symm⟩ hc1
    obtain ⟨⟨v3, v4, v5, v6, v7, v8, rfl⟩, s3, M, hM, n1, n2, n3⟩ := hP
    rw [hwl, List.take_length] at n3
    have FW0 : FW ws xs 0 M := by
      refine ⟨fun x y n h => ?_, fun x y m g => ?_, fun x hx => ⟨0, n2 x hx, Int.le_refl _⟩⟩
      · rcases n1 x y n h with ⟨rfl, rfl⟩ | h
        · exact .nil x
        · have := Wsum.cons h (.nil y)
          rwa [Int.add_zero] at this
      · cases g with
        | edge e => exact ⟨m, n3 x y m e, Int.le_refl _⟩
        | cons _ h _ => exact absurd h List.not_mem_nil
    -- 3: ever more places between
    refine ⟨_, rfl, D, rfl, ⟨_, SqL.of (s3 _ _ hD)⟩, for_list (xs := xs.map V.str) (fun t σ H4 => (∃ v3 v4 v5 v6 v7 v8, σ = [some (.ref D), some (.ref e), some (.ref A), v3, v4, v5, v6, v7, v8]) ∧ Same H H4 ∧ ∃ M, MD H4 A M (200 + t * 1000) ∧ FW ws xs t M)
      ⟨⟨_, _, _, _, _, _, rfl⟩, s3, M, (let ⟨kvs, a, b, c⟩ := hM; ⟨kvs, a, by omega, c⟩), FW0⟩ (fun i σ H4 _ hP => SqL.of (hP.2.1 _ _ hD)) (fun t v σ H4 hv hP => ?_) (fun σ H4 hP => ?_)⟩
    · obtain ⟨⟨v3, v4, v5, v6, v7, v8, rfl⟩, s4, M0, hM0, fw⟩ := hP
      have strAt : ∀ {i : Nat} {v : V}, (xs.map V.str)[i]? = some v → ∃ x, xs[i]? = some x ∧ v = .str x ∧ i < xs.length := fun {i v} h => by
        rw [List.getElem?_map] at h
        cases ex : xs[i]? with
        | none => rw [ex] at h; cases h
        | some x => rw [ex] at h; exact ⟨x, rfl, (Option.some.inj h).symm, (List.getElem?_eq_some_iff.mp ex).1⟩
      obtain ⟨mid, emid, rfl, tlt⟩ := strAt hv
      refine ⟨_, rfl, D, rfl, ⟨_, SqL.of (s4 _ _ hD)⟩, for_list (xs := xs.map V.str) (fun i σ H5 => (∃ v3 v4 v5 v6 v8, σ = [some (.ref D), some (.ref e), some (.ref A), v3, v4, v5, v6, some (.str mid), v8]) ∧ Same H H5 ∧ ∃ M, MD H5 A M (200 + t * 1000 + i * 30) ∧ Mono M0 M ∧ (∀ x y n, M x y = some n → Wsum ws x y n) ∧ ∀ (a : Nat) x, a < i → xs[a]? = some x → ∀ y ∈ xs, ∀ p1 p2, M0 x mid = some p1 → M0 mid y = some p2 → ∃ n, M x y = some n ∧ n ≤ p1 + p2)
        ⟨⟨_, _, _, _, _, rfl⟩, s4, M0, (by simpa using hM0), Mono.refl _, fw.sound, fun a x ha => absurd ha (Nat.not_lt_zero _)⟩ (fun i σ H5 _ hP => SqL.of (hP.2.1 _ _ hD)) (fun i v σ H5 hv hP => ?_) (fun σ H5 hP => ?_)⟩
      · obtain ⟨⟨v3, v4, v5, v6, v8, rfl⟩, s5, M1, hM1, mo1, so1, via1⟩ := hP
        obtain ⟨one, eone, rfl, ilt⟩ := strAt hv
        refine ⟨_, rfl, D, rfl, ⟨_, SqL.of (s5 _ _ hD)⟩, for_list (xs := xs.map V.str) (fun j σ H6 => (∃ v3 v5 v6 v8, σ = [some (.ref D), some (.ref e), some (.ref A), v3, some (.str one), v5, v6, some (.str mid), v8]) ∧ Same H H6 ∧ ∃ M, MD H6 A M (200 + t * 1000 + i * 30 + j) ∧ Mono M1 M ∧ (∀ x y n, M x y = some n → Wsum ws x y n) ∧ ∀ (b : Nat) y, b < j → xs[b]? = some y → ∀ p1 p2, M0 one mid = some p1 → M0 mid y = some p2 → ∃ n, M one y = some n ∧ n ≤ p1 + p2)
          ⟨⟨_, _, _, _, rfl⟩, s5, M1, (by simpa using hM1), Mono.refl _, so1, fun b y hb => absurd hb (Nat.not_lt_zero _)⟩ (fun i σ H6 _ hP => SqL.of (hP.2.1 _ _ hD)) (fun j v σ H6 hv hP => ?_) (fun σ H6 hP => ?_)⟩
        · obtain ⟨⟨v3, v5, v6, v8, rfl⟩, s6, M2, hM2, mo2, so2, via2⟩ := hP
          obtain ⟨oth, eoth, rfl, jlt⟩ := strAt hv
          have cb : 200 + t * 1000 + i * 30 + j < 16000000 := by
            have : t * 1000 ≤ 30 * 1000 := Nat.mul_le_mul_right _ (by omega)
            have : i * 30 ≤ 30 * 30 := Nat.mul_le_mul_right _ (by omega)
            omega
          have moAll := mo1.trans mo2
          -- what is left as it is
          have keepM : ∀ {H7 : Hp} {v8' : Option V}, Same H6 H7 → (∀ p1 p2, M0 one mid = some p1 → M0 mid oth = some p2 → ∃ n, M2 one oth = some n ∧ n ≤ p1 + p2) →
              (∃ w3 w5 w6 w8, ([some (.ref D), some (.ref e), some (.ref A), v3, some (.str one), some (.str oth), v6, some (.str mid), v8'] : St) = [some (.ref D), some (.ref e), some (.ref A), w3, some (.str one), w5, w6, some (.str mid), w8]) ∧ Same H H7 ∧ ∃ M, MD H7 A M (200 + t * 1000 + i * 30 + (j + 1)) ∧ Mono M1 M ∧ (∀ x y n, M x y = some n → Wsum ws x y n) ∧ ∀ (b : Nat) y, b < j + 1 → xs[b]? = some y → ∀ p1 p2, M0 one mid = some p1 → M0 mid y = some p2 → ∃ n, M one y = some n ∧ n ≤ p1 + p2 := by
            intro H7 v8' s7 hv2
            refine ⟨⟨_, _, _, _, rfl⟩, s6.trans s7, M2, (let ⟨kvs, a, b, c⟩ := hM2.same s7; ⟨kvs, a, by omega, c⟩), mo2, so2, fun b y hb ey p1 p2 q1 q2 => ?_⟩
            by_cases eb : b = j
            · subst eb
              rw [eoth] at ey
              cases ey
              exact hv2 p1 p2 q1 q2
            · exact via2 b y (by omega) ey p1 p2 q1 q2
          refine ⟨_, rfl, _, rfl, two, fun t1 ht1 => ?_⟩
          have z1 := same_upd (o := .tup [.str one, .str mid]) ht1
          refine ⟨_, rfl, A, _, rfl, (hM2.same z1).get upd_same, _, rfl, ?_⟩
          cases eo : M2 one mid with
          | none =>
            refine iteF ?_
            refine iteF ?_
            refine keepM z1 fun p1 p2 q1 _ => ?_
            obtain ⟨n', e', _⟩ := moAll one mid p1 q1
            rw [eo] at e'
            cases e'
          | some a1 =>
            refine iteT ?_
            refine ⟨_, rfl, _, rfl, two, fun t2 ht2 => ?_⟩
            have z2 := z1.trans (same_upd (o := .tup [.str mid, .str oth]) ht2)
            refine ⟨_, rfl, A, _, rfl, (hM2.same z2).get upd_same, _, rfl, ?_⟩
            cases em : M2 mid oth with
            | none =>
              refine iteF ?_
              refine keepM z2 fun p1 p2 _ q2 => ?_
              obtain ⟨n', e', _⟩ := moAll mid oth p2 q2
              rw [em] at e'
              cases e'
            | some a2 =>
              refine iteT ?_
              refine ⟨_, rfl, _, rfl, _, rfl, two, fun t3 ht3 => ?_⟩
              have z3 := z2.trans (same_upd (o := .tup [.str one, .str mid]) ht3)
              have g3 := (hM2.same z3).get (x := one) (y := mid) (t := t3) upd_same
              rw [eo] at g3
              refine ⟨A, .int a1, rfl, g3, _, rfl, _, rfl, _, rfl, two, fun t4 ht4 => ?_⟩
              have z4 := z3.trans (same_upd (o := .tup [.str mid, .str oth]) ht4)
              have g4 := (hM2.same z4).get (x := mid) (y := oth) (t := t4) upd_same
              rw [em] at g4
              refine ⟨A, .int a2, rfl, g4, _, _, rfl, rfl, ?_⟩
              refine ⟨_, rfl, _, rfl, two, fun t5 ht5 => ?_⟩
              have z5 := z4.trans (same_upd (o := .tup [.str one, .str oth]) ht5)
              refine ⟨_, rfl, A, _, rfl, (hM2.same z5).get upd_same, _, rfl, ?_⟩
              have low : ∀ p1 p2, M0 one mid = some p1 → M0 mid oth = some p2 → a1 + a2 ≤ p1 + p2 := fun p1 p2 q1 q2 => by
                obtain ⟨n1', e1', l1'⟩ := moAll one mid p1 q1
                obtain ⟨n2', e2', l2'⟩ := moAll mid oth p2 q2
                rw [eo] at e1'
                rw [em] at e2'
                cases e1'
                cases e2'
                omega
              -- the put
              have putM : ∀ {H7 : Hp}, Same H6 H7 → (∀ n, M2 one oth = some n → a1 + a2 ≤ n) → ∀ t6, H7 t6 = none → ∃ a H8, V.ref A = .ref a ∧ DPut (upd H7 t6 (.tup [.str one, .str oth])) a (.ref t6) (.int (a1 + a2)) H8 ∧
                  ((∃ w3 w5 w6 w8, ([some (.ref D), some (.ref e), some (.ref A), v3, some (.str one), some (.str oth), v6, some (.str mid), some (.int (a1 + a2))] : St) = [some (.ref D), some (.ref e), some (.ref A), w3, some (.str one), w5, w6, some (.str mid), w8]) ∧ Same H H8 ∧ ∃ M, MD H8 A M (200 + t * 1000 + i * 30 + (j + 1)) ∧ Mono M1 M ∧ (∀ x y n, M x y = some n → Wsum ws x y n) ∧ ∀ (b : Nat) y, b < j + 1 → xs[b]? = some y → ∀ p1 p2, M0 one mid = some p1 → M0 mid y = some p2 → ∃ n, M one y = some n ∧ n ≤ p1 + p2) := by
                intro H7 s7 hle t6 ht6
                have z6 := s7.trans (same_upd (o := .tup [.str one, .str oth]) ht6)
                obtain ⟨H8, dp, hM8, kvs, e8⟩ := (hM2.same z6).put (by omega) (n := a1 + a2) (t := t6) (x := one) (y := oth) upd_same
                have mo8 : Mono M2 (setM M2 one oth (a1 + a2)) := fun x y n h => by
                  unfold setM
                  split
                  · rename_i hc
                    obtain ⟨rfl, rfl⟩ := hc
                    exact ⟨_, rfl, hle n h⟩
                  · exact ⟨n, h, Int.le_refl _⟩
                refine ⟨A, H8, rfl, dp, ⟨_, _, _, _, rfl⟩, fun b o z => ?_, _, hM8, mo2.trans mo8, fun x y n h => ?_, fun b y hb ey p1 p2 q1 q2 => ?_⟩
                · rw [e8, upd_ne (nAD z)]
                  exact z6 _ _ (s6 _ _ z)
                · unfold setM at h
                  split at h
                  · rename_i hc
                    obtain ⟨rfl, rfl⟩ := hc
                    cases h
                    exact (so2 _ _ _ eo).app (so2 _ _ _ em)
                  · exact so2 x y n h
                · by_cases eb : b = j
                  · subst eb
                    rw [eoth] at ey
                    cases ey
                    refine ⟨a1 + a2, ?_, low p1 p2 q1 q2⟩
                    unfold setM
                    rw [if_pos ⟨rfl, rfl⟩]
                  · obtain ⟨n, en, ln⟩ := via2 b y (by omega) ey p1 p2 q1 q2
                    obtain ⟨n', en', ln'⟩ := mo8 one y n en
                    exact ⟨n', en', by omega⟩
              cases ez : M2 one oth with
              | none =>
                refine iteT ?_
                refine iteT ?_
                refine ⟨_, rfl, _, rfl, _, rfl, _, rfl, two, fun t6 ht6 => ?_⟩
                exact putM z5 (fun n h => by rw [ez] at h; cases h) t6 ht6
              | some a3 =>
                refine iteF ?_
                refine ⟨_, rfl, _, rfl, _, rfl, _, rfl, two, fun t6 ht6 => ?_⟩
                have z6 := z5.trans (same_upd (o := .tup [.str one, .str oth]) ht6)
                have g6 := (hM2.same z6).get (x := one) (y := oth) (t := t6) upd_same
                rw [ez] at g6
                refine ⟨A, .int a3, rfl, g6, _, _, rfl, rfl, _, rfl, ?_⟩
                refine ite2 (fun hlt => ?_) (fun hlt => ?_)
                · rw [decide_eq_true_eq] at hlt
                  refine ⟨_, rfl, _, rfl, _, rfl, _, rfl, two, fun t7 ht7 => ?_⟩
                  exact putM z6 (fun n h => by rw [ez] at h; cases h; omega) t7 ht7
                · rw [decide_eq_true_eq] at hlt
                  refine keepM z6 fun p1 p2 q1 q2 => ⟨a3, ez, ?_⟩
                  have := low p1 p2 q1 q2
                  omega
        · obtain ⟨⟨v3, v5, v6, v8, rfl⟩, s6, M2, hM2, mo2, so2, via2⟩ := hP
          rw [List.length_map] at hM2 via2
          refine ⟨⟨_, _, _, _, _, rfl⟩, s6, M2, (let ⟨kvs, a, b, c⟩ := hM2; ⟨kvs, a, by omega, c⟩), mo1.trans mo2, so2, fun a x ha ex y hy p1 p2 q1 q2 => ?_⟩
          by_cases ea : a = i
          · subst ea
            rw [eone] at ex
            cases ex
            obtain ⟨b, hb, eb⟩ := List.getElem_of_mem hy
            exact via2 b y hb (by rw [List.getElem?_eq_getElem hb, eb]) p1 p2 q1 q2
          · obtain ⟨n, en, ln⟩ := via1 a x (by omega) ex y hy p1 p2 q1 q2
            obtain ⟨n', en', ln'⟩ := mo2 x y n en
            exact ⟨n', en', by omega⟩
      · obtain ⟨⟨v3, v4, v5, v6, v8, rfl⟩, s5, M1, hM1, mo1, so1, via1⟩ := hP
        rw [List.length_map] at hM1 via1
        refine ⟨⟨_, _, _, _, _, _, rfl⟩, s5, M1, (let ⟨kvs, a, b, c⟩ := hM1; ⟨kvs, a, by omega, c⟩), fw.next pos ends emid mo1 so1 fun x hx y hy p1 p2 q1 q2 => ?_⟩
        obtain ⟨a, ha, ea⟩ := List.getElem_of_mem hx
        exact via1 a x ha (by rw [List.getElem?_eq_getElem ha, ea]) y hy p1 p2 q1 q2
    · obtain ⟨⟨v3, v4, v5, v6, v7, v8, rfl⟩, s4, M1, hM1, fw⟩ := hP
      rw [List.length_map] at hM1 fw
      exact ⟨_, rfl, k H4 A M1 _ s4 hA hM1 (fw.done ends jn)⟩
end
end K04

set_option maxRecDepth 100000
set_option maxHeartbeats 4000000
namespace K04
open PySem L2
def spRight4 (K : PySem.W.Frag) : Sp := fun vs H Q _ => ∃ (q D B A : Addr) (ps xs as : List Str) (ws : List Way) (r : Str) (M : Str → Str → Option Int) (c : Nat), vs = [.ref q, .ref D, .ref B, .ref A] ∧ WebOk H q ps ws r ∧ (∀ u ∈ ws, 1 ≤ u.2.2) ∧ (∀ x y l l', Edge ws x y l → Edge ws x y l' → l = l') ∧
  H D = some (.lst (xs.map V.str)) ∧ ps.Perm xs ∧ H B = some (.lst (as.map V.str)) ∧ (∀ x ∈ as, x ∈ xs) ∧ MD H A M c ∧ (∀ x ∈ xs, ∀ y ∈ xs, ∃ n, M x y = some n ∧ Dst ws x y n) ∧ ∀ H', Same H H' → Q (.bl true) H'
structure TxtR (mg : Str → Option Value) : Prop where
  dict : mg "dict" = none
  isin : mg "isinstance" = none
  all : mg "all" = none
  int : mg "int" = none
  bool : mg "bool" = none
section
variable {P : Program} {w : World} {K : PySem.W.Frag} {mg : Str → Option Value} {base : Heap}
theorem ok_right {f fN fE fS fF fW : Addr} {fd fdN fdE fdS fdF fdW : FuncData} (T : TxtR mg) (SK : FaF K mg fN fdN fE fdE fS fdS)
    (FF : Fun K "far" "far" s_far fF fdF) (mF : mg "far" = some (.ref fF)) (bF : Binds K fdF ["web", "one", "other"] [])
    (FW' : Fun K "_law_whole" "_law_whole" s_law_whole fW fdW) (mW : mg "_law_whole" = some (.ref fW)) (bW : Binds K fdW ["_law_thing"] [])
    (F : Fun K "_law_right" "_law_right" s_law_right f fd) : FnOk P w K mg base CX0 5 f fd ["_law_chart_here", "_law_names_here", "_law_asked", "_law_much_here"] (spRight4 K) := by
  have GS : FnOk P w K mg base CX0 3 fS fdS ["web", "place"] (spFars K) := ok_fars SK.E SK.F
  have GF : FnOk P w K mg base CX0 4 fF fdF ["web", "one", "other"] (spFar K) := ok_far SK FF
  have GW : FnOk P w K mg base CX0 1 fW fdW ["_law_thing"] (spWhole K) := ok_whole T.isin T.int T.bool FW'
  refine F.ok sc_law_right (fun vs H Q E h => ?_) (fun cdv A outer s H vs Q E hr h => ?_)
  · obtain ⟨q, D, B, A, ps, xs, as, ws, r, M, c, rfl, _⟩ := h
    rfl
  · obtain ⟨q, D, B, A, ps, xs, as, ws, r, M, c, rfl, ok, pos, uniq, hD, pp, hB, asub, hM, hdst, k⟩ := h
    have hr1 : Room 1 _ := hr.mono (by decide)
    have hr3 : Room 3 _ := hr.mono (by decide)
    have hu := hu_of hr
    have hu64 := hr.units
    have nd := sc_law_right.nd
    have big : 1000 < sizeLine := by decide
    have two : 2 ≤ sizeLine := by decide
    have xnd : xs.Nodup := pp.nodup_iff.mp ok.nd
    have xl : xs.length ≤ 30 := by rw [← pp.length_eq]; exact ok.l30
    refine ⟨_, pss_cons (ps_for PassesOwn.never rfl (pi_list (pv 2)) (pg_name (i := 4) nd rfl (Or.inr rfl))
        (pss_cons (ps_set (i := 5) nd rfl (Or.inl rfl) (pe_callTy (call_dict_pairs rfl) (by rfl) T.dict PyProof.Rows.boot_dict (pa_cons
          (pe_comp (N := ["_law_other", "_law_much_here", "_law_one"]) (σ0 := fun σ => [none, some 3, some 4].map fun j => j.bind fun j => (σ[j]?).join) rfl
            (CompOk.caught (by rfl) (by decide +kernel) rfl (by decide +kernel) (by intro y hy; simp only [List.mem_cons, List.not_mem_nil, or_false] at hy; rcases hy with rfl | rfl <;> rfl)
              (by intro y hy e; simp only [List.mem_cons, List.not_mem_nil, or_false] at hy; rcases hy with rfl | rfl | rfl | rfl <;> first | exact ⟨_, rfl⟩ | cases e))
            (fun σ _ => Carry.of [none, some 3, some 4] rfl (by
              intro i j x h1 h2
              match i, h1, h2 with
              | 0, _, h2 => cases h2
              | 1, h1, h2 => cases h1; cases h2; exact ⟨rfl, .inl rfl, .inl rfl⟩
              | 2, h1, h2 => cases h1; cases h2; exact ⟨rfl, .inl rfl, .inl rfl⟩
              | n + 3, h1, _ => cases h1)) (pi_list (pv 1))
            (fun s2 H C fp => ⟨pg_name (i := 0) (show (["_law_other", "_law_much_here", "_law_one"] : List Str).Nodup by decide +kernel) rfl (Or.inl rfl), pts_nil, pe_tup (pa_cons (pv 0) (pa_cons (pe_dget hu (pv 1) (pe_tup (pa_cons (pv 2) (pa_cons (pv 0) pa_nil))) (fun _ _ => rfl)) pa_nil))⟩)) pa_nil)))
        (pss_cons (ps_set (i := 6) nd rfl (Or.inr rfl) (pe_call GS hr3 (by rfl) SK.mg SK.F.kp SK.b .nil pass0 (pa_cons (pv 0) (pa_cons (pv 4) pa_nil))))
        (pss_cons (ps_if (pw_or (pt_not (pt_val (pe_callB call_isinst (by rfl) T.isin PyProof.Rows.boot_isinstance (pa_cons (pv 6) (pa_cons (pe_bltn (v := .ty "dict") (by rfl) T.dict PyProof.Rows.boot_dict rfl) pa_nil)))))
            (pw_or (pt_cmpR (op_ne_dk hu64) (pv 6) (pv 5) (nomark _))
            (pw_or1 (pt_not (pt_val (pe_callB (call_all_bl rfl) (by rfl) T.all PyProof.Rows.boot_all (pa_cons
              (pe_comp (N := ["_law_other", "_law_told"]) (σ0 := fun σ => [none, some 6].map fun j => j.bind fun j => (σ[j]?).join) rfl
                (CompOk.caught (by rfl) (by decide +kernel) rfl (by decide +kernel) (by intro y hy; simp only [List.mem_cons, List.not_mem_nil, or_false] at hy; rcases hy with rfl <;> rfl)
                  (by intro y hy e; simp only [List.mem_cons, List.not_mem_nil, or_false] at hy; rcases hy with rfl | rfl | rfl | rfl <;> first | exact ⟨_, rfl⟩ | cases e))
                (fun σ _ => Carry.of [none, some 6] rfl (by
                  intro i j x h1 h2
                  match i, h1, h2 with
                  | 0, _, h2 => cases h2
                  | 1, h1, h2 => cases h1; cases h2; exact ⟨rfl, .inl rfl, .inl rfl⟩
                  | n + 2, h1, _ => cases h1)) (pi_list (pv 1))
                (fun s2 H C fp => ⟨pg_name (i := 0) (show (["_law_other", "_law_told"] : List Str).Nodup by decide +kernel) rfl (Or.inl rfl), pts_nil, pe_call GW hr1 (by rfl) mW FW'.kp bW .nil pass0 (pa_cons (pe_dget hu (pv 1) (pv 0) (fun _ _ => rfl)) pa_nil)⟩)) pa_nil))))))).pt (pss_one (ps_ret pe_bl)) pss_nil)
        (pss_cons (ps_expr (pe_bm0 PySem.F.plainAttrs_dict PySem.F.slot_dict_clear PySem.F.type_dict_clear mt_dclear (pv 6)))
        (pss_cons (ps_if (pt_cmpR (op_ne_dk hu64) (pe_call GS hr3 (by rfl) SK.mg SK.F.kp SK.b .nil pass0 (pa_cons (pv 0) (pa_cons (pv 4) pa_nil))) (pv 5) (nomark _)) (pss_one (ps_ret pe_bl)) pss_nil)
        (pss_one (ps_for PassesOwn.never rfl (pi_list (pv 1)) (pg_name (i := 7) nd rfl (Or.inl rfl))
          (pss_one (ps_for PassesOwn.never rfl (pi_tup (pe_tup (pa_cons (pe_call GF hr (by rfl) mF FF.kp bF .nil pass0 (pa_cons (pv 0) (pa_cons (pv 4) (pa_cons (pv 7) pa_nil)))) (pa_cons (pe_call GF hr (by rfl) mF FF.kp bF .nil pass0 (pa_cons (pv 0) (pa_cons (pv 7) (pa_cons (pv 4) pa_nil)))) pa_nil)))) (pg_name (i := 8) nd rfl (Or.inl rfl))
            (pss_one (ps_if (pw_or (pt_not (pt_val (pe_call GW hr1 (by rfl) mW FW'.kp bW .nil pass0 (pa_cons (pv 8) pa_nil)))) (pw_or1 (pt_cmpR op_ne (pv 8) (pe_dget hu (pv 3) (pe_tup (pa_cons (pv 4) (pa_cons (pv 7) pa_nil))) (fun _ _ => rfl)) (nomark _)))).pt (pss_one (ps_ret pe_bl)) pss_nil))))))))))))
      (pss_one (ps_ret pe_bl)), ?_⟩
    have strAt : ∀ {zs : List Str} {i : Nat} {v : V}, (zs.map V.str)[i]? = some v → ∃ x, zs[i]? = some x ∧ v = .str x ∧ i < zs.length := fun {zs i v} h => by
      rw [List.getElem?_map] at h
      cases ex : zs[i]? with
      | none => rw [ex] at h; cases h
      | some x => rw [ex] at h; exact ⟨x, rfl, (Option.some.inj h).symm, (List.getElem?_eq_some_iff.mp ex).1⟩
    refine ⟨_, rfl, B, rfl, ⟨_, SqL.of hB⟩, for_list (xs := as.map V.str) (fun i σ H1 => (∃ v4 v5 v6 v7 v8, σ = [some (.ref q), some (.ref D), some (.ref B), some (.ref A), v4, v5, v6, v7, v8]) ∧ Same H H1) ⟨⟨_, _, _, _, _, rfl⟩, Same.refl _⟩ (fun i σ H1 _ hP => SqL.of (hP.2 _ _ hB)) (fun i v σ H1 hv hP => ?_) (fun σ H1 hP => ?_)⟩
    · obtain ⟨⟨v4, v5, v6, v7, v8, rfl⟩, s1⟩ := hP
      obtain ⟨x, ex, rfl, _⟩ := strAt hv
      have hx : x ∈ xs := asub x (List.mem_of_getElem? ex)
      have hxp : x ∈ ps := pp.mem_iff.mpr hx
      have hM1 := hM.same s1
      have hD1 := s1 _ _ hD
      -- due
      refine ⟨_, rfl, D, rfl, ⟨_, SqL.of hD1⟩, fun C hC => ?_⟩
      refine ⟨fun i m σ' H' => m = xs.length - i ∧ i ≤ xs.length ∧ (∃ v, σ' = [v, some (.ref A), some (.str x)]) ∧ ∃ (acc : List V) (pd : List (Str × V)), Same H1 H' ∧ H' C = some (.lst acc) ∧ acc.length = pd.length ∧ pd.map (·.1) = xs.take i ∧ (∀ (j : Nat) v p, acc[j]? = some v → pd[j]? = some p → ∃ t, v = .ref t ∧ H' t = some (.tup [.str p.1, p.2])) ∧ (∀ y v, (y, v) ∈ pd → ∃ n, v = .int n ∧ Dst ws x y n),
        ⟨_, rfl, Nat.zero_le _, ⟨_, rfl⟩, [], [], same_upd hC, upd_same, rfl, rfl, fun j v p h => (by simp at h), fun y v h => absurd h List.not_mem_nil⟩, ?_⟩
      rintro i m σ' H' ⟨rfl, hi, ⟨v, rfl⟩, acc, pd, s2, hC1, al, pk, prow, pval⟩
      have hD2 := s2 _ _ hD1
      have pl : pd.length = i := by
        have := congrArg List.length pk
        rw [List.length_map, List.length_take] at this
        omega
      by_cases hlt : i < xs.length
      · refine .inr ⟨⟨_, V.str xs[i], SqL.of hD2, by rw [List.getElem?_map, List.getElem?_eq_getElem hlt]; rfl⟩, ?_⟩
        rintro z H6 ⟨rfl, hz⟩
        have hz' := hz _ (SqL.of hD2)
        rw [List.getElem?_map, List.getElem?_eq_getElem hlt] at hz'
        cases hz'
        obtain ⟨n, en, dn⟩ := hdst x hx xs[i] (List.getElem_mem hlt)
        refine ⟨_, rfl, _, rfl, _, rfl, _, rfl, two, fun t1 ht1 => ?_⟩
        have z1 := same_upd (o := .tup [.str x, .str xs[i]]) ht1
        have g1 := ((hM1.same s2).same z1).get (x := x) (y := xs[i]) (t := t1) upd_same
        rw [en] at g1
        refine ⟨A, .int n, rfl, g1, two, fun t2 ht2 => ?_⟩
        have z2 := z1.trans (same_upd (o := .tup [.str xs[i], .int n]) ht2)
        have hC2 := z2 _ _ hC1
        have tC : ∀ b ys, (upd (upd H6 t1 (.tup [.str x, .str xs[i]])) t2 (.tup [.str xs[i], .int n])) b = some (.tup ys) → (upd (upd (upd H6 t1 (.tup [.str x, .str xs[i]])) t2 (.tup [.str xs[i], .int n])) C (.lst (acc ++ [.ref t2]))) b = some (.tup ys) := fun b ys z => by
          rw [upd_ne (ne_of z hC2 (by intro z; cases z))]; exact z
        refine ⟨acc, hC2, by omega, _, by omega, rfl, hlt, ⟨_, rfl⟩, acc ++ [.ref t2], pd ++ [(xs[i], .int n)], fun b o z => ?_, upd_same, by simp [al], ?_, fun j v p h1 h2 => ?_, fun y v hy => ?_⟩
        · rw [upd_ne (ne_of_none z hC)]
          exact z2 _ _ (s2 _ _ z)
        · rw [List.map_append, pk, List.take_add_one, List.getElem?_eq_getElem hlt]; rfl
        · by_cases hj : j < acc.length
          · rw [List.getElem?_append_left hj] at h1
            rw [List.getElem?_append_left (by omega)] at h2
            obtain ⟨t, e, ht⟩ := prow j v p h1 h2
            exact ⟨t, e, tC _ _ (z2 _ _ ht)⟩
          · rw [List.getElem?_append_right (by omega)] at h1
            rw [List.getElem?_append_right (by omega)] at h2
            have j0 : j - acc.length = 0 := by
              have := (List.getElem?_eq_some_iff.mp h1).1
              simp at this
              omega
            have j1 : j - pd.length = 0 := by omega
            rw [j0] at h1
            rw [j1] at h2
            cases h1
            cases h2
            exact ⟨t2, rfl, tC _ _ upd_same⟩
        · rcases List.mem_append.mp hy with hy | hy
          · exact pval y v hy
          · simp only [List.mem_singleton, Prod.mk.injEq] at hy
            obtain ⟨rfl, rfl⟩ := hy
            exact ⟨n, rfl, dn⟩
      · have e0 : i = xs.length := by omega
        subst e0
        rw [List.take_length] at pk
        have pdn : (pd.map (·.1)).Nodup := by rw [pk]; exact xnd
        refine .inl ⟨⟨_, SqL.of hD2, by rw [List.length_map]; exact Nat.le_refl _⟩, C, acc, pd, rfl, hC1, al, prow, pdn, by omega, fun U hU => ?_⟩
        have s3 := s2.trans (same_upd (o := .dK (sK pd)) hU)
        have hU3 : (upd H' U (.dK (sK pd))) U = some (.dK (sK pd)) := upd_same
        generalize upd H' U (.dK (sK pd)) = H3 at s3 hU3 ⊢
        have s03 := s1.trans s3
        clear hC1 prow hD2 hU
        -- what fars tells is what is due
        have same2 : ∀ {nv : List (Str × V)}, nv.map (·.1) = ps → (∀ y v, (y, v) ∈ nv → ∃ n, v = .int n ∧ Dst ws x y n) → nv.length = pd.length ∧ ∀ z v, (z, v) ∈ nv → (z, v) ∈ pd ∧ ∃ n, v = .int n := fun {nv} nk nv' => by
          refine ⟨?_, fun z v hz => ?_⟩
          · have := congrArg List.length nk
            rw [List.length_map, pp.length_eq] at this
            omega
          · obtain ⟨n, rfl, dn⟩ := nv' z v hz
            have hzx : z ∈ xs := pp.mem_iff.mp (by rw [← nk]; exact List.mem_map.mpr ⟨_, hz, rfl⟩)
            rw [← pk] at hzx
            obtain ⟨⟨z', v'⟩, hm, e⟩ := List.mem_map.mp hzx
            have e' : z' = z := e
            subst e'
            obtain ⟨n', rfl, dn'⟩ := pval z' v' hm
            rw [dn.uniq dn']
            exact ⟨hm, n', rfl⟩
        refine ⟨_, rfl, _, rfl, q, ps, ws, r, x, rfl, ok.same s03, pos, uniq, hxp, fun H4 T4 nv s4 hT hT4 nk nv' => ?_⟩
        have hU4 := s4 _ _ hU3
        obtain ⟨ln, mn⟩ := same2 nk nv'
        refine ⟨_, rfl, _, "dict", .type "dict", true, rfl, TyOf.dK hT4, rfl, _, rfl, ?_⟩
        refine iteF ?_
        refine ⟨_, rfl, _, rfl, T4, U, nv, pd, rfl, rfl, .inl hT4, .inl hU4, ln, pdn, mn, _, rfl, ?_⟩
        refine iteF ?_
        have hD4 := (s3.trans s4) _ _ hD1
        refine ⟨_, rfl, D, rfl, ⟨_, SqL.of hD4⟩, fun C2 hC2 => ?_⟩
        refine ⟨fun i m σ' H' => m = xs.length - i ∧ i ≤ xs.length ∧ (∃ v, σ' = [v, some (.ref T4)]) ∧ H' = upd H4 C2 (.lst ((List.replicate i true).map V.bl)), ⟨_, rfl, Nat.zero_le _, ⟨_, rfl⟩, rfl⟩, ?_⟩
        rintro i m σ' H' ⟨rfl, hi, ⟨v, rfl⟩, rfl⟩
        have sC := same_upd (o := .lst ((List.replicate i true).map V.bl)) hC2
        by_cases hlt : i < xs.length
        · refine .inr ⟨⟨_, V.str xs[i], SqL.of (sC _ _ hD4), by rw [List.getElem?_map, List.getElem?_eq_getElem hlt]; rfl⟩, ?_⟩
          rintro z H6 ⟨rfl, hz⟩
          have hz' := hz _ (SqL.of (sC _ _ hD4))
          rw [List.getElem?_map, List.getElem?_eq_getElem hlt] at hz'
          cases hz'
          have hzp : xs[i] ∈ nv.map (·.1) := by rw [nk]; exact pp.mem_iff.mpr (List.getElem_mem hlt)
          obtain ⟨⟨z', v'⟩, hm, e⟩ := List.mem_map.mp hzp
          have e' : z' = xs[i] := e
          subst e'
          obtain ⟨n, rfl, _⟩ := nv' _ _ hm
          refine ⟨_, rfl, _, rfl, T4, .int n, rfl, .inl ⟨_, Sum.inr xs[i], .inl (sC _ _ hT4), rfl, (sK_some (by rw [nk]; exact ok.nd) hm).symm⟩, n, rfl, _, upd_same, by rw [List.length_map, List.length_replicate]; omega, _, by omega, rfl, hlt, ⟨_, rfl⟩, ?_⟩
          rw [upd_upd, List.replicate_succ', List.map_append]
          rfl
        · have e0 : i = xs.length := by omega
          subst e0
          refine .inl ⟨⟨_, SqL.of (sC _ _ hD4), by rw [List.length_map]; exact Nat.le_refl _⟩, C2, List.replicate xs.length true, rfl, SqL.of upd_same, _, rfl, ?_⟩
          have ea : (List.replicate xs.length true).all id = true := by simp
          rw [ea]
          refine iteF ?_
          have hT5 := sC _ _ hT4
          have s5 := s4.trans sC
          have hU5 := sC _ _ hU4
          generalize upd H4 C2 (.lst ((List.replicate xs.length true).map V.bl)) = H5 at hT5 s5 hU5 ⊢
          -- told.clear()
          refine ⟨_, rfl, .inr (.inr (.inl ⟨rfl, .inl ⟨_, hT5⟩⟩)), T4, _, rfl, rfl, hT5, ?_⟩
          have nTU : U ≠ T4 := ne_of_none hU3 hT
          have s6 : Same H3 (upd H5 T4 (.dK [])) := fun b o z => by
            rw [upd_ne (ne_of_none z hT)]
            exact s5 _ _ z
          have hU6 : (upd H5 T4 (.dK [])) U = some (.dK (sK pd)) := s6 _ _ hU3
          generalize upd H5 T4 (.dK []) = H6 at s6 hU6 ⊢
          have s06 := s03.trans s6
          refine ⟨_, rfl, _, rfl, q, ps, ws, r, x, rfl, ok.same s06, pos, uniq, hxp, fun H7 T7 nv7 s7 _ hT7 nk7 nv7' => ?_⟩
          obtain ⟨ln7, mn7⟩ := same2 nk7 nv7'
          refine ⟨_, rfl, T7, U, nv7, pd, rfl, rfl, .inl hT7, .inl (s7 _ _ hU6), ln7, pdn, mn7, _, rfl, ?_⟩
          refine iteF ?_
          have s07 := s06.trans s7
          refine ⟨_, rfl, D, rfl, ⟨_, SqL.of (s07 _ _ hD)⟩, for_list (xs := xs.map V.str) (fun i σ H8 => (∃ v7 v8, σ = [some (.ref q), some (.ref D), some (.ref B), some (.ref A), some (.str x), some (.ref U), some (.ref T4), v7, v8]) ∧ Same H H8) ⟨⟨_, _, rfl⟩, s07⟩ (fun i σ H8 _ hP => SqL.of (hP.2 _ _ hD)) (fun i v σ H8 hv hP => ?_) (fun σ H8 hP => ?_)⟩
          · obtain ⟨⟨v7, v8, rfl⟩, s8⟩ := hP
            obtain ⟨y, ey, rfl, _⟩ := strAt hv
            have hy : y ∈ xs := List.mem_of_getElem? ey
            have hyp : y ∈ ps := pp.mem_iff.mpr hy
            obtain ⟨n, en, dn⟩ := hdst x hx y hy
            refine ⟨_, rfl, _, rfl, _, rfl, q, ps, ws, r, x, y, rfl, ok.same s8, pos, uniq, hxp, hyp, fun H9 n1 s9 d1 => ?_⟩
            refine ⟨_, rfl, _, rfl, _, rfl, q, ps, ws, r, y, x, rfl, (ok.same s8).same s9, pos, uniq, hyp, hxp, fun H10 n2 s10 d2 => ⟨two, fun tq htq => ?_⟩⟩
            have e1 := d1.uniq dn
            have e2 := d2.symm.uniq dn
            subst e1
            subst e2
            have s11 := ((s8.trans s9).trans s10).trans (same_upd (o := .tup [.int n2, .int n2]) htq)
            have htq1 : (upd H10 tq (.tup [.int n2, .int n2])) tq = some (.tup [.int n2, .int n2]) := upd_same
            generalize upd H10 tq (.tup [.int n2, .int n2]) = H11 at s11 htq1 ⊢
            refine ⟨tq, rfl, ⟨_, SqT.of htq1⟩, for_tup (xs := [.int n2, .int n2]) (fun i σ H12 => (∃ v8, σ = [some (.ref q), some (.ref D), some (.ref B), some (.ref A), some (.str x), some (.ref U), some (.ref T4), some (.str y), v8]) ∧ Same H11 H12) ⟨⟨_, rfl⟩, Same.refl _⟩ (fun i σ H12 _ hP => SqT.of (hP.2 _ _ htq1)) (fun i v σ H12 hv hP => ?_) (fun σ H12 hP => ?_)⟩
            · obtain ⟨⟨v8, rfl⟩, s12⟩ := hP
              have ev : v = .int n2 := by
                match i, hv with
                | 0, hv => cases hv; rfl
                | 1, hv => cases hv; rfl
                | i + 2, hv => cases hv
              subst ev
              refine ⟨_, rfl, n2, rfl, _, rfl, ?_⟩
              refine iteF ?_
              refine ⟨_, rfl, _, rfl, _, rfl, _, rfl, two, fun t13 ht13 => ?_⟩
              have z13 := s12.trans (same_upd (o := .tup [.str x, .str y]) ht13)
              have g13 := (hM.same (s11.trans z13)).get (x := x) (y := y) (t := t13) upd_same
              rw [en] at g13
              refine ⟨A, .int n2, rfl, g13, rfl, _, rfl, ?_⟩
              refine iteNS rfl ?_
              exact ⟨⟨_, rfl⟩, z13⟩
            · obtain ⟨⟨v8, rfl⟩, s12⟩ := hP
              exact ⟨⟨_, _, rfl⟩, s11.trans s12⟩
          · obtain ⟨⟨v7, v8, rfl⟩, s8⟩ := hP
            exact ⟨⟨_, _, _, _, _, rfl⟩, s8⟩
    · obtain ⟨⟨v4, v5, v6, v7, v8, rfl⟩, s1⟩ := hP
      exact k H1 s1
end
end K04

set_option Elab.async false
set_option linter.all false
set_option maxRecDepth 100000
set_option maxHeartbeats 4000000
namespace K04
open PySem L2
def spLaw (K : PySem.W.Frag) : Sp := fun vs H Q _ => ∃ (a : Addr) (ns : List Int), vs = [.ref a] ∧ Scr K H a (ns.map V.int) ∧ ns.length ≤ 63 ∧ ∀ H', Q (.bl true) H'
section
variable {P : Program} {w : World} {K : PySem.W.Frag} {mg : Str → Option Value} {base : Heap}
theorem ok_law {fE fD fU fC fJ f : Addr} {fdE fdD fdU fdC fdJ fd : FuncData} (hrg : mg "range" = none) (FE : Fun K "_law_pen" "_law_pen" s_law_pen fE fdE) (mE : mg "_law_pen" = some (.ref fE)) (bE : Binds K fdE ["_law_script"] [])
    (FD : Fun K "_law_laid" "_law_laid" s_law_laid fD fdD) (mD : mg "_law_laid" = some (.ref fD)) (bD : Binds K fdD ["_law_names_here", "_law_ways_here"] []) (GD : FnOk P w K mg base CX0 1 fD fdD ["_law_names_here", "_law_ways_here"] (spLaid K))
    (FU : Fun K "_law_much" "_law_much" s_law_much fU fdU) (mU : mg "_law_much" = some (.ref fU)) (bU : Binds K fdU ["_law_names_here", "_law_ways_here"] [])
    (FC : Fun K "_law_chart" "_law_chart" s_law_chart fC fdC) (mC : mg "_law_chart" = some (.ref fC)) (bC : Binds K fdC ["_law_pen_here"] []) (GC : FnOk P w K mg base CX0 4 fC fdC ["_law_pen_here"] (spChart K))
    (FJ : Fun K "_law_right" "_law_right" s_law_right fJ fdJ) (mJ : mg "_law_right" = some (.ref fJ)) (bJ : Binds K fdJ ["_law_chart_here", "_law_names_here", "_law_asked", "_law_much_here"] []) (GJ : FnOk P w K mg base CX0 5 fJ fdJ ["_law_chart_here", "_law_names_here", "_law_asked", "_law_much_here"] (spRight4 K))
    (F : Fun K "law" "law" s_law f fd) : FnOk P w K mg base CX0 6 f fd ["_law_script"] (spLaw K) := by
  have GE : FnOk P w K mg base CX0 1 fE fdE ["_law_script"] (spPen K) := ok_pen FE
  have GU : FnOk P w K mg base CX0 1 fU fdU ["_law_names_here", "_law_ways_here"] (spMuch K) := ok_much FU
  refine F.ok sc_law (fun vs H Q E h => ?_) (fun cdv A outer s H vs Q E hr h => ?_)
  · obtain ⟨a, ns, rfl, _⟩ := h
    rfl
  · obtain ⟨a, ns, rfl, hS, hlen, k⟩ := h
    have hr1 : Room 1 _ := hr.mono (by decide)
    have hr4 : Room 4 _ := hr.mono (by decide)
    have nd := sc_law.nd
    refine ⟨_, pss_cons (ps_set (i := 1) nd rfl (Or.inl rfl) (pe_call GE hr1 (by rfl) mE FE.kp bE .nil pass0 (pa_cons (pv 0) pa_nil)))
      (pss_cons (ps_for PassesOwn.never rfl (pi_range1 (by rfl) hrg (pa_cons pe_int pa_nil)) (pg_name (i := 2) nd rfl (Or.inl rfl))
        (pss_cons (ps_asg (pe_call GC hr4 (by rfl) mC FC.kp bC .nil pass0 (pa_cons (pv 1) pa_nil)) (pg_tup rfl (pgs_cons (pg_name (i := 3) nd rfl (Or.inl rfl)) (pgs_cons (pg_name (i := 4) nd rfl (Or.inl rfl)) (pgs_cons (pg_name (i := 5) nd rfl (Or.inl rfl)) pgs_nil)))))
        (pss_one (ps_if (pt_not (pt_val (pe_call GJ hr (by rfl) mJ FJ.kp bJ .nil pass0 (pa_cons (pe_call GD hr1 (by rfl) mD FD.kp bD .nil pass0 (pa_cons (pv 3) (pa_cons (pv 4) pa_nil))) (pa_cons (pv 3) (pa_cons (pv 5) (pa_cons (pe_call GU hr1 (by rfl) mU FU.kp bU .nil pass0 (pa_cons (pv 3) (pa_cons (pv 4) pa_nil))) pa_nil))))))) (pss_one (ps_ret pe_bl)) pss_nil))))
      (pss_one (ps_ret pe_bl))), ?_⟩
    refine ⟨_, rfl, a, rfl, fun p hp => ?_⟩
    have P0 : PenAt K (upd H p (.dK (penK a 0 0))) p a ns 0 0 := ⟨upd_same, hS.same (same_upd hp), Int.le_refl _⟩
    refine ⟨3, rfl, by decide, by decide, for_range (n := 3) (fun _ σ H' => ∃ (v2 v3 v4 v5 : Option V) (i l : Int), σ = [some (.ref a), some (.ref p), v2, v3, v4, v5] ∧ PenAt K H' p a ns i l) ⟨_, _, _, _, 0, 0, rfl, P0⟩ ?_ ?_⟩
    · rintro j σ H1 hj ⟨v2, v3, v4, v5, i, l, rfl, P1⟩
      refine ⟨_, rfl, p, a, ns, i, l, rfl, P1, hlen, fun H2 q D e B xs bs us ws i' l' P2 k2 hq hD hE hW wc w64 hB bsub x1 x30 xnd xnm => ?_⟩
      refine ⟨q, _, rfl, SqT.of hq, rfl, _, _, rfl, _, _, rfl, _, _, rfl, rfl, ?_⟩
      obtain ⟨wof, sep, jn⟩ := id wc
      have ends : ∀ u ∈ ws, u.1 ∈ xs ∧ u.2.1 ∈ xs := fun u hu => ⟨(wof u hu).1, (wof u hu).2.1⟩
      refine ⟨_, rfl, _, rfl, D, e, xs, us, ws, rfl, hD, by omega, hE, hW, w64, fun H7 qw tp tw ps us' ws' s7 hq7 htp7 pperm so htw7 hd7 wperm => ?_⟩
      have en := fun x y l => edge_norm wperm x y l
      refine ⟨_, rfl, _, rfl, _, rfl, _, rfl, D, e, xs, us, ws, rfl, s7 _ _ hD, by omega, s7 _ _ hE, hW.mono (fun b o z _ => s7 _ _ z), w64, wc, fun H8 AM M c s8 hA hM hdst => ?_⟩
      have wl' : ws'.length = ws.length := by rw [wperm.length_eq, List.length_map]
      have pl : 0 < ps.length := by rw [pperm.length_eq]; omega
      have hr0 : ps[0] ∈ xs := pperm.mem_iff.mp (List.getElem_mem pl)
      have okw : WebOk H8 qw ps ws' ps[0] := by
        refine ⟨⟨tp, tw, us', s8 _ _ hq7, s8 _ _ htp7, s8 _ _ htw7, hd7.mono fun b o z _ => s8 _ _ z⟩, pperm.nodup_iff.mpr xnd, by rw [pperm.length_eq]; omega, by omega, fun u hu => ?_, List.getElem?_eq_getElem pl, fun Sp hs hcl z hz => ?_⟩
        · obtain ⟨q1, q2⟩ := ends_norm wperm ends u hu
          exact ⟨pperm.mem_iff.mpr q1, pperm.mem_iff.mpr q2⟩
        · exact Joined.all jn Sp (fun b c hbc => hcl b c ((adj_norm wperm b c).mpr hbc)) hr0 hs z (pperm.mem_iff.mp hz)
      have s28 := s7.trans s8
      refine ⟨qw, D, B, AM, ps, xs, bs, ws', ps[0], M, c, rfl, okw, fun u hu => ?_, fun x y l l' e1 e2 => edge_uniq sep ((en x y l).mp e1) ((en x y l').mp e2), s28 _ _ hD, pperm, s28 _ _ hB, bsub, hM, fun x hx y hy => ?_, fun H9 s9 => ⟨_, rfl, ?_⟩⟩
      · obtain ⟨v, hv, rfl⟩ := List.mem_map.mp (wperm.mem_iff.mp hu)
        exact (wof v hv).2.2.2
      · obtain ⟨n, e1, e2⟩ := hdst x hx y hy
        exact ⟨n, e1, (Dst.iff en).mpr e2⟩
      · refine iteF ?_
        exact ⟨_, _, _, _, i', l', rfl, P2.same (s28.trans s9)⟩
    · rintro σ H1 ⟨v2, v3, v4, v5, i, l, rfl, P1⟩
      exact k H1
end
theorem all_mk {l : PySem.W.OpenLaw} {w : World} {K : PySem.W.Frag} {h : Heap} {mg : Str → Option Value} {fa f1 f2 f3 f4 f5 f6 f7 f8 f9 f10 f11 f12 f13 f14 f15 : Addr} (X : K.In h) (G : h.Ns mainGlobals mg) (hfa : mg "law" = some (.ref fa))
    {od1 an1 od2 an2 od3 an3 od4 an4 od5 an5 od6 an6 od7 an7 od8 an8 od9 an9 od10 an10 od11 an11 od12 an12 od13 an13 od14 an14 od15 an15 : Option Addr} {sl1 sl2 sl3 sl4 sl5 sl6 sl7 sl8 sl9 sl10 sl11 sl12 sl13 sl14 sl15 : Array (Option Value)} {oc1 kV1 dc1 pm1 cd1 ct1 oc2 kV2 dc2 pm2 cd2 ct2 oc3 kV3 dc3 pm3 cd3 ct3 oc4 kV4 dc4 pm4 cd4 ct4 oc5 kV5 dc5 pm5 cd5 ct5 oc6 kV6 dc6 pm6 cd6 ct6 oc7 kV7 dc7 pm7 cd7 ct7 oc8 kV8 dc8 pm8 cd8 ct8 oc9 kV9 dc9 pm9 cd9 ct9 oc10 kV10 dc10 pm10 cd10 ct10 oc11 kV11 dc11 pm11 cd11 ct11 oc12 kV12 dc12 pm12 cd12 ct12 oc13 kV13 dc13 pm13 cd13 ct13 oc14 kV14 dc14 pm14 cd14 ct14 oc15 kV15 dc15 pm15 cd15 ct15 : Value}
    (a1 : PySem.W.nsIn K mainGlobals "neighbours" = some (some (.ref f1))) (l1 : K.lookup f1 = some ⟨oc1, od1, .func (PySem.W.fnOf "neighbours" "neighbours" (defArgs s_neighbours) (defBody s_neighbours) (defScope s_neighbours) .none kV1 dc1 pm1 an1 cd1 ct1), sl1⟩) (c1 : PySem.W.codeIn K cd1 "neighbours" = true) (k1 : PySem.W.keepIn K (.ref f1) = true)
    (a2 : PySem.W.nsIn K mainGlobals "far" = some (some (.ref f2))) (l2 : K.lookup f2 = some ⟨oc2, od2, .func (PySem.W.fnOf "far" "far" (defArgs s_far) (defBody s_far) (defScope s_far) .none kV2 dc2 pm2 an2 cd2 ct2), sl2⟩) (c2 : PySem.W.codeIn K cd2 "far" = true) (k2 : PySem.W.keepIn K (.ref f2) = true)
    (a3 : PySem.W.nsIn K mainGlobals "fars" = some (some (.ref f3))) (l3 : K.lookup f3 = some ⟨oc3, od3, .func (PySem.W.fnOf "fars" "fars" (defArgs s_fars) (defBody s_fars) (defScope s_fars) .none kV3 dc3 pm3 an3 cd3 ct3), sl3⟩) (c3 : PySem.W.codeIn K cd3 "fars" = true) (k3 : PySem.W.keepIn K (.ref f3) = true)
    (a4 : PySem.W.nsIn K mainGlobals "nearest" = some (some (.ref f4))) (l4 : K.lookup f4 = some ⟨oc4, od4, .func (PySem.W.fnOf "nearest" "nearest" (defArgs s_nearest) (defBody s_nearest) (defScope s_nearest) .none kV4 dc4 pm4 an4 cd4 ct4), sl4⟩) (c4 : PySem.W.codeIn K cd4 "nearest" = true) (k4 : PySem.W.keepIn K (.ref f4) = true)
    (a5 : PySem.W.nsIn K mainGlobals "_law_pen" = some (some (.ref f5))) (l5 : K.lookup f5 = some ⟨oc5, od5, .func (PySem.W.fnOf "_law_pen" "_law_pen" (defArgs s_law_pen) (defBody s_law_pen) (defScope s_law_pen) .none kV5 dc5 pm5 an5 cd5 ct5), sl5⟩) (c5 : PySem.W.codeIn K cd5 "_law_pen" = true) (k5 : PySem.W.keepIn K (.ref f5) = true)
    (a6 : PySem.W.nsIn K mainGlobals "_law_take" = some (some (.ref f6))) (l6 : K.lookup f6 = some ⟨oc6, od6, .func (PySem.W.fnOf "_law_take" "_law_take" (defArgs s_law_take) (defBody s_law_take) (defScope s_law_take) .none kV6 dc6 pm6 an6 cd6 ct6), sl6⟩) (c6 : PySem.W.codeIn K cd6 "_law_take" = true) (k6 : PySem.W.keepIn K (.ref f6) = true)
    (a7 : PySem.W.nsIn K mainGlobals "_law_names" = some (some (.ref f7))) (l7 : K.lookup f7 = some ⟨oc7, od7, .func (PySem.W.fnOf "_law_names" "_law_names" (defArgs s_law_names) (defBody s_law_names) (defScope s_law_names) .none kV7 dc7 pm7 an7 cd7 ct7), sl7⟩) (c7 : PySem.W.codeIn K cd7 "_law_names" = true) (k7 : PySem.W.keepIn K (.ref f7) = true)
    (a8 : PySem.W.nsIn K mainGlobals "_law_length" = some (some (.ref f8))) (l8 : K.lookup f8 = some ⟨oc8, od8, .func (PySem.W.fnOf "_law_length" "_law_length" (defArgs s_law_length) (defBody s_law_length) (defScope s_law_length) .none kV8 dc8 pm8 an8 cd8 ct8), sl8⟩) (c8 : PySem.W.codeIn K cd8 "_law_length" = true) (k8 : PySem.W.keepIn K (.ref f8) = true)
    (a9 : PySem.W.nsIn K mainGlobals "_law_ways" = some (some (.ref f9))) (l9 : K.lookup f9 = some ⟨oc9, od9, .func (PySem.W.fnOf "_law_ways" "_law_ways" (defArgs s_law_ways) (defBody s_law_ways) (defScope s_law_ways) .none kV9 dc9 pm9 an9 cd9 ct9), sl9⟩) (c9 : PySem.W.codeIn K cd9 "_law_ways" = true) (k9 : PySem.W.keepIn K (.ref f9) = true)
    (a10 : PySem.W.nsIn K mainGlobals "_law_laid" = some (some (.ref f10))) (l10 : K.lookup f10 = some ⟨oc10, od10, .func (PySem.W.fnOf "_law_laid" "_law_laid" (defArgs s_law_laid) (defBody s_law_laid) (defScope s_law_laid) .none kV10 dc10 pm10 an10 cd10 ct10), sl10⟩) (c10 : PySem.W.codeIn K cd10 "_law_laid" = true) (k10 : PySem.W.keepIn K (.ref f10) = true)
    (a11 : PySem.W.nsIn K mainGlobals "_law_much" = some (some (.ref f11))) (l11 : K.lookup f11 = some ⟨oc11, od11, .func (PySem.W.fnOf "_law_much" "_law_much" (defArgs s_law_much) (defBody s_law_much) (defScope s_law_much) .none kV11 dc11 pm11 an11 cd11 ct11), sl11⟩) (c11 : PySem.W.codeIn K cd11 "_law_much" = true) (k11 : PySem.W.keepIn K (.ref f11) = true)
    (a12 : PySem.W.nsIn K mainGlobals "_law_whole" = some (some (.ref f12))) (l12 : K.lookup f12 = some ⟨oc12, od12, .func (PySem.W.fnOf "_law_whole" "_law_whole" (defArgs s_law_whole) (defBody s_law_whole) (defScope s_law_whole) .none kV12 dc12 pm12 an12 cd12 ct12), sl12⟩) (c12 : PySem.W.codeIn K cd12 "_law_whole" = true) (k12 : PySem.W.keepIn K (.ref f12) = true)
    (a13 : PySem.W.nsIn K mainGlobals "_law_chart" = some (some (.ref f13))) (l13 : K.lookup f13 = some ⟨oc13, od13, .func (PySem.W.fnOf "_law_chart" "_law_chart" (defArgs s_law_chart) (defBody s_law_chart) (defScope s_law_chart) .none kV13 dc13 pm13 an13 cd13 ct13), sl13⟩) (c13 : PySem.W.codeIn K cd13 "_law_chart" = true) (k13 : PySem.W.keepIn K (.ref f13) = true)
    (a14 : PySem.W.nsIn K mainGlobals "_law_right" = some (some (.ref f14))) (l14 : K.lookup f14 = some ⟨oc14, od14, .func (PySem.W.fnOf "_law_right" "_law_right" (defArgs s_law_right) (defBody s_law_right) (defScope s_law_right) .none kV14 dc14 pm14 an14 cd14 ct14), sl14⟩) (c14 : PySem.W.codeIn K cd14 "_law_right" = true) (k14 : PySem.W.keepIn K (.ref f14) = true)
    (a15 : PySem.W.nsIn K mainGlobals "law" = some (some (.ref f15))) (l15 : K.lookup f15 = some ⟨oc15, od15, .func (PySem.W.fnOf "law" "law" (defArgs s_law) (defBody s_law) (defScope s_law) .none kV15 dc15 pm15 an15 cd15 ct15), sl15⟩) (c15 : PySem.W.codeIn K cd15 "law" = true) (k15 : PySem.W.keepIn K (.ref f15) = true)
    (z1 : PySem.W.nsIn K mainGlobals "len" = some none) (z2 : PySem.W.nsIn K mainGlobals "abs" = some none) (z3 : PySem.W.nsIn K mainGlobals "isinstance" = some none) (z4 : PySem.W.nsIn K mainGlobals "int" = some none) (z5 : PySem.W.nsIn K mainGlobals "bool" = some none) (z6 : PySem.W.nsIn K mainGlobals "list" = some none) (z7 : PySem.W.nsIn K mainGlobals "range" = some none) (z8 : PySem.W.nsIn K mainGlobals "sorted" = some none) (z9 : PySem.W.nsIn K mainGlobals "tuple" = some none) (z10 : PySem.W.nsIn K mainGlobals "min" = some none) (z11 : PySem.W.nsIn K mainGlobals "max" = some none) (z12 : PySem.W.nsIn K mainGlobals "dict" = some none) (z13 : PySem.W.nsIn K mainGlobals "all" = some none) :
    ∃ fd : FuncData, (∀ (s : Shared) (v : Value), BindsTo s fd ⟨[v], []⟩ [("_law_script", v)]) ∧ ∀ base : Heap, K.In base → base.Ns mainGlobals mg → FnOk l.prog w K mg base CX0 6 fa fd ["_law_script"] (spLaw K) := by
  have e := hfa.symm.trans (PySem.W.mg_of X G a15)
  cases e
  have F1 := fun_mk (st := s_neighbours) l1 c1 k1
  have F2 := fun_mk (st := s_far) l2 c2 k2
  have F3 := fun_mk (st := s_fars) l3 c3 k3
  have F4 := fun_mk (st := s_nearest) l4 c4 k4
  have F5 := fun_mk (st := s_law_pen) l5 c5 k5
  have F6 := fun_mk (st := s_law_take) l6 c6 k6
  have F7 := fun_mk (st := s_law_names) l7 c7 k7
  have F8 := fun_mk (st := s_law_length) l8 c8 k8
  have F9 := fun_mk (st := s_law_ways) l9 c9 k9
  have F10 := fun_mk (st := s_law_laid) l10 c10 k10
  have F11 := fun_mk (st := s_law_much) l11 c11 k11
  have F12 := fun_mk (st := s_law_whole) l12 c12 k12
  have F13 := fun_mk (st := s_law_chart) l13 c13 k13
  have F14 := fun_mk (st := s_law_right) l14 c14 k14
  have F15 := fun_mk (st := s_law) l15 c15 k15
  have b1 := F1.binds (ps := ["web"]) fun _ _ _ _ _ _ us hl => match us, hl with | [_], _ => rfl
  have b2 := F2.binds (ps := ["web", "one", "other"]) fun _ _ _ _ _ _ us hl => match us, hl with | [_, _, _], _ => rfl
  have b3 := F3.binds (ps := ["web", "place"]) fun _ _ _ _ _ _ us hl => match us, hl with | [_, _], _ => rfl
  have b4 := F4.binds (ps := ["web", "starts"]) fun _ _ _ _ _ _ us hl => match us, hl with | [_, _], _ => rfl
  have b5 := F5.binds (ps := ["_law_script"]) fun _ _ _ _ _ _ us hl => match us, hl with | [_], _ => rfl
  have b6 := F6.binds (ps := ["_law_pen_here", "_law_many"]) fun _ _ _ _ _ _ us hl => match us, hl with | [_, _], _ => rfl
  have b7 := F7.binds (ps := ["_law_pen_here", "_law_many"]) fun _ _ _ _ _ _ us hl => match us, hl with | [_, _], _ => rfl
  have b8 := F8.binds (ps := ["_law_pen_here"]) fun _ _ _ _ _ _ us hl => match us, hl with | [_], _ => rfl
  have b9 := F9.binds (ps := ["_law_pen_here", "_law_names_here"]) fun _ _ _ _ _ _ us hl => match us, hl with | [_, _], _ => rfl
  have b10 := F10.binds (ps := ["_law_names_here", "_law_ways_here"]) fun _ _ _ _ _ _ us hl => match us, hl with | [_, _], _ => rfl
  have b11 := F11.binds (ps := ["_law_names_here", "_law_ways_here"]) fun _ _ _ _ _ _ us hl => match us, hl with | [_, _], _ => rfl
  have b12 := F12.binds (ps := ["_law_thing"]) fun _ _ _ _ _ _ us hl => match us, hl with | [_], _ => rfl
  have b13 := F13.binds (ps := ["_law_pen_here"]) fun _ _ _ _ _ _ us hl => match us, hl with | [_], _ => rfl
  have b14 := F14.binds (ps := ["_law_chart_here", "_law_names_here", "_law_asked", "_law_much_here"]) fun _ _ _ _ _ _ us hl => match us, hl with | [_, _, _, _], _ => rfl
  have NK : NbF K mg f1 _ := ⟨F1, (PySem.W.mg_of X G a1), b1⟩
  have EK : NeF K mg f1 _ f4 _ := ⟨NK, (PySem.W.mg_none_of X G z10), F4, (PySem.W.mg_of X G a4), b4⟩
  have SK : FaF K mg f1 _ f4 _ f3 _ := ⟨EK, F3, (PySem.W.mg_of X G a3), b3⟩
  have TK : TakeF K mg f6 _ := ⟨⟨(PySem.W.mg_none_of X G z1), (PySem.W.mg_none_of X G z2)⟩, F6, (PySem.W.mg_of X G a6), b6⟩
  have LK : LenF K mg f8 _ := ⟨F8, (PySem.W.mg_of X G a8), b8⟩
  have TR : TxtR mg := ⟨(PySem.W.mg_none_of X G z12), (PySem.W.mg_none_of X G z3), (PySem.W.mg_none_of X G z13), (PySem.W.mg_none_of X G z4), (PySem.W.mg_none_of X G z5)⟩
  exact ⟨PySem.W.fnOf "law" "law" (defArgs s_law) (defBody s_law) (defScope s_law) .none kV15 dc15 pm15 an15 cd15 ct15, fun s v => .of_eq rfl, fun base _ _ =>
    ok_law (PySem.W.mg_none_of X G z7) F5 (PySem.W.mg_of X G a5) b5 F10 (PySem.W.mg_of X G a10) b10 (ok_laid (PySem.W.mg_none_of X G z8) (PySem.W.mg_none_of X G z9) (PySem.W.mg_none_of X G z10) (PySem.W.mg_none_of X G z11) F10) F11 (PySem.W.mg_of X G a11) b11 F13 (PySem.W.mg_of X G a13) b13 (ok_chart TK LK (PySem.W.mg_none_of X G z7) (PySem.W.mg_none_of X G z6) (PySem.W.mg_none_of X G z4) F7 (PySem.W.mg_of X G a7) b7 F9 (PySem.W.mg_of X G a9) b9 F13) F14 (PySem.W.mg_of X G a14) b14 (ok_right TR SK F2 (PySem.W.mg_of X G a2) b2 F12 (PySem.W.mg_of X G a12) b12 F14) F15⟩
theorem scr_of {K : PySem.W.Frag} {H : Hp} {a : Addr} {xs : List V} (o : Only H) (h : SqL K H a xs) : Scr K H a xs := by
  rcases h with (h | ⟨ob, h⟩) | h
  · rcases o a with z | ⟨ob, ys, z⟩ <;> (rw [h] at z; cases z)
  · exact .inl ⟨ob, h⟩
  · exact .inr h
theorem walk {l : PySem.W.OpenLaw} {q : Program} {loose : List Str} {XP : (Str → Option Value) → Heap → Prop} {YP : World → Heap → Prop} {d : DefRec} {K : Params → PySem.W.Frag} (hn : l.most = some 63) (hdf : d.params.defaults = [])
    (hY : ∀ (w : World) (h : Heap), YP w h → (K w.params).In h)
    (F : ∀ (w : World) (mg : Str → Option Value) (fa : Addr) (h : Heap), (K w.params).In h → h.Ns mainGlobals mg → mg d.name = some (.ref fa) →
      ∃ fd : FuncData, (∀ (s : Shared) (u : Value), BindsTo s fd ⟨[u], []⟩ [("_law_script", u)]) ∧ ∀ base : Heap, (K w.params).In base → base.Ns mainGlobals mg → FnOk l.prog w (K w.params) mg base CX0 6 fa fd ["_law_script"] (spLaw (K w.params))) :
    PySem.W.WalkO q loose XP YP l.row.toRowW d [] (fun f vs => PySem.call f vs) :=
  L2.walk_of (n := 63) (k := 6) (x := "_law_script") (CX := fun _ => CX0) (sp := fun w => spLaw (K w.params)) hn (by decide) hdf ⟨rfl, by decide, by decide⟩ hY F (fun _ _ a ns hl ho hS => ⟨a, ns, rfl, scr_of ho hS, hl, fun _ => rfl⟩) fun _ _ _ _ _ z => z
end K04
open PySem PySem.W PyProof.Rows
set_option maxRecDepth 100000 in
set_option maxHeartbeats 0 in
theorem PySem.Challenge.cw_openhouses_k04_how_far_holds : PySem.Challenge.rw_openhouses_k04_how_far.Holds := by
  w_on; o_law; k_head; (case hw => w_witness2)
  k_fill
  refine K04.walk (l := PySem.Challenge.rw_openhouses_k04_how_far) rfl rfl (fun w h Y => PySem.W.kIn_of Y) ?F
  case F =>
    intro w mg fa h KX G hmg
    refine' K04.all_mk KX G hmg ?a1 ?l1 ?c1 ?k1 ?a2 ?l2 ?c2 ?k2 ?a3 ?l3 ?c3 ?k3 ?a4 ?l4 ?c4 ?k4 ?a5 ?l5 ?c5 ?k5 ?a6 ?l6 ?c6 ?k6 ?a7 ?l7 ?c7 ?k7 ?a8 ?l8 ?c8 ?k8 ?a9 ?l9 ?c9 ?k9 ?a10 ?l10 ?c10 ?k10 ?a11 ?l11 ?c11 ?k11 ?a12 ?l12 ?c12 ?k12 ?a13 ?l13 ?c13 ?k13 ?a14 ?l14 ?c14 ?k14 ?a15 ?l15 ?c15 ?k15 ?z1 ?z2 ?z3 ?z4 ?z5 ?z6 ?z7 ?z8 ?z9 ?z10 ?z11 ?z12 ?z13
    (case a1 => k_is); (case l1 => k_is); (case c1 => k_is); (case k1 => k_is)
    (case a2 => k_is); (case l2 => k_is); (case c2 => k_is); (case k2 => k_is)
    (case a3 => k_is); (case l3 => k_is); (case c3 => k_is); (case k3 => k_is)
    (case a4 => k_is); (case l4 => k_is); (case c4 => k_is); (case k4 => k_is)
    (case a5 => k_is); (case l5 => k_is); (case c5 => k_is); (case k5 => k_is)
    (case a6 => k_is); (case l6 => k_is); (case c6 => k_is); (case k6 => k_is)
    (case a7 => k_is); (case l7 => k_is); (case c7 => k_is); (case k7 => k_is)
    (case a8 => k_is); (case l8 => k_is); (case c8 => k_is); (case k8 => k_is)
    (case a9 => k_is); (case l9 => k_is); (case c9 => k_is); (case k9 => k_is)
    (case a10 => k_is); (case l10 => k_is); (case c10 => k_is); (case k10 => k_is)
    (case a11 => k_is); (case l11 => k_is); (case c11 => k_is); (case k11 => k_is)
    (case a12 => k_is); (case l12 => k_is); (case c12 => k_is); (case k12 => k_is)
    (case a13 => k_is); (case l13 => k_is); (case c13 => k_is); (case k13 => k_is)
    (case a14 => k_is); (case l14 => k_is); (case c14 => k_is); (case k14 => k_is)
    (case a15 => k_is); (case l15 => k_is); (case c15 => k_is); (case k15 => k_is)
    (case z1 => k_is); (case z2 => k_is); (case z3 => k_is); (case z4 => k_is); (case z5 => k_is); (case z6 => k_is); (case z7 => k_is); (case z8 => k_is); (case z9 => k_is); (case z10 => k_is); (case z11 => k_is); (case z12 => k_is); (case z13 => k_is)

