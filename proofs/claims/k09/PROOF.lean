import PyProof.Rows.All
import Wide.All
import OpenK.AllK
import Wide.FinOn
import Lean
import PyProof.EqAt
import PyProof.EqKinds
import PyProof.TupleCall
import PyProof.P3Eq
import PyProof.NeData
import PySem.Challenge.RW_openhouses_k09_cases_made
set_option Elab.async false
set_option linter.all false
set_option maxRecDepth 100000
set_option maxHeartbeats 4000000
namespace L2
open PySem PySem.W PyProof.Rows
/-- an order that may hold some apart things for equal -/
structure Swo (lt : Keyed → Keyed → Bool) : Prop where
  irr : ∀ a, lt a a = false
  tra : ∀ a b c, lt a b = true → lt b c = true → lt a c = true
  neg : ∀ a b c, lt a c = true → lt a b = true ∨ lt b c = true
/-- no later than -/
def Nl (lt : Keyed → Keyed → Bool) (a b : Keyed) : Prop := lt b a = false
section
variable {lt : Keyed → Keyed → Bool}
theorem Swo.rfl' (h : Swo lt) (a : Keyed) : Nl lt a a := h.irr a
theorem Swo.of_lt (h : Swo lt) {a b : Keyed} (e : lt a b = true) : Nl lt a b := by
  unfold Nl
  cases z : lt b a
  · rfl
  · have := h.tra _ _ _ e z
    rw [h.irr] at this
    cases this
theorem Swo.trans (h : Swo lt) {a b c : Keyed} (x : Nl lt a b) (y : Nl lt b c) : Nl lt a c := by
  unfold Nl at *
  cases z : lt c a
  · rfl
  · rcases h.neg _ b _ z with q | q
    · rw [y] at q; cases q
    · rw [x] at q; cases q
theorem Swo.lt_of' (h : Swo lt) {a b c : Keyed} (x : Nl lt a b) (y : lt b c = true) : lt a c = true := by
  unfold Nl at *
  rcases h.neg _ a _ y with q | q
  · rw [x] at q; cases q
  · exact q
end
/-- the item at a place -/
def itA (xs : Array Keyed) (i : Nat) : Keyed := xs.getD i (Value.none, Value.none)
theorem itA_get {xs : Array Keyed} {i : Nat} (h : i < xs.size) : xs[i]? = some (itA xs i) := by
  unfold itA
  simp [Array.getD, h]
theorem itA_eq {xs ys : Array Keyed} {i j : Nat} (h : xs[i]? = ys[j]?) : itA xs i = itA ys j := by
  unfold itA
  rw [Array.getD_eq_getD_getElem?, Array.getD_eq_getD_getElem?, h]
theorem itA_mem {xs : Array Keyed} {i : Nat} (h : i < xs.size) : itA xs i ∈ xs := Array.mem_of_getElem? (itA_get h)
/-- what the comparisons answer, of these items -/
def Ans (prog : Program) (w : World) (A : Around) (s : Shared) (κ : SortKind) (lt : Keyed → Keyed → Bool) (a0 : Array Keyed) : Prop :=
  ∀ x y, x ∈ a0 → y ∈ a0 → ∀ (Q : Bool → Shared → Prop) (E : Value → Shared → Prop), Q (lt x y) s → wpAny (model prog w) A (keyLt' κ x.1 y.1) Q E s
section
variable {prog : Program} {w : World} {A : Around} {E : Value → Shared → Prop} {s : Shared} {κ : SortKind} {lt : Keyed → Keyed → Bool} {a0 : Array Keyed}
theorem wpS_elemG {xs : Array Keyed} {i : Nat} {Q : Keyed → SortSt → Prop} {st : SortSt} (hi : i < xs.size) (h : Q (itA xs i) st) : wpS (model prog w) A E s (elem' xs i) Q st := by
  rw [elem'_eq, itA_get hi]
  exact wpS_pure h
theorem wpS_ltG {x y : Keyed} {Q : Option Bool → SortSt → Prop} {st : SortSt} (an : Ans prog w A s κ lt a0) (hk : kindOf st = κ) (hx : x ∈ a0) (hy : y ∈ a0) (h : Q (some (lt x y)) st) :
    wpS (model prog w) A E s (lt' x y) Q st := by
  rw [lt'_eq]
  refine wpS_bind (wpS_get ?_)
  rw [hk]
  refine wpS_bind (wpS_lift (wpAny_attempt (an x y hx hy _ _ ⟨rfl, ?_⟩)))
  exact wpS_pure h
theorem wpS_ltAtG {i j : Nat} {Q : Option Bool → SortSt → Prop} {st : SortSt} (an : Ans prog w A s κ lt a0) (hk : kindOf st = κ) (hp : (arrOf st).Perm a0) (hi : i < a0.size) (hj : j < a0.size)
    (h : Q (some (lt (itA (arrOf st) i) (itA (arrOf st) j))) st) : wpS (model prog w) A E s (ltAt' i j) Q st := by
  rw [ltAt'_eq]
  refine wpS_bind (wpS_get ?_)
  have e := hp.size_eq
  refine wpS_bind (wpS_elemG (by omega) (wpS_bind (wpS_elemG (by omega) ?_)))
  exact wpS_ltG an hk ((Array.Perm.mem_iff hp).mp (itA_mem (by omega))) ((Array.Perm.mem_iff hp).mp (itA_mem (by omega))) h
def gallopG : Bool → Keyed → Array Keyed → Nat → Nat → Nat → StateT SortSt Sem (Option Nat) := sortPriv% PySem.Builtin.gallop
/-- beyond, as the gallop asks it -/
def byd (lt : Keyed → Keyed → Bool) (left : Bool) (key x : Keyed) : Bool := if left = true then lt x key else !(lt key x)
/-- one question of the gallop -/
def askG (left : Bool) (key : Keyed) (arr : Array Keyed) (base i : Nat) : StateT SortSt Sem (Option Bool) := do
  let x ← elem' arr (base + i)
  if left = true then lt' x key else do
    let r ← lt' key x
    pure (Option.map (fun b => !b) r)
theorem wpS_askG {left : Bool} {key : Keyed} {arr : Array Keyed} {base i : Nat} {Q : Option Bool → SortSt → Prop} {st : SortSt} (an : Ans prog w A s κ lt a0) (hk : kindOf st = κ)
    (hkey : key ∈ a0) (hx : itA arr (base + i) ∈ a0) (hi : base + i < arr.size) (h : Q (some (byd lt left key (itA arr (base + i)))) st) : wpS (model prog w) A E s (askG left key arr base i) Q st := by
  unfold askG
  refine wpS_bind (wpS_elemG hi ?_)
  unfold byd at h
  cases left with
  | true =>
    simp only [if_true] at h ⊢
    exact wpS_ltG an hk hx hkey h
  | false =>
    simp only [Bool.false_eq_true, if_false] at h ⊢
    exact wpS_bind (wpS_ltG an hk hkey hx (wpS_pure h))
/-- the search between two bounds -/
theorem wpS_narrowG {ρ : Type} {body : Nat → Option ρ × Nat × Nat → StateT SortSt Sem (ForInStep (Option ρ × Nat × Nat))} {f : Nat → Bool} {n lo hi : Nat} {st : SortSt}
    (hs : ∀ x l (R : ForInStep (Option ρ × Nat × Nat) → SortSt → Prop), R (.done (none, l, l)) st → wpS (model prog w) A E s (body x (none, l, l)) R st)
    (hg : ∀ x l r (R : ForInStep (Option ρ × Nat × Nat) → SortSt → Prop), l < r → r ≤ n →
      (f (l + (r - l) / 2) = true → R (.yield (none, l + (r - l) / 2 + 1, r)) st) → (f (l + (r - l) / 2) = false → R (.yield (none, l, l + (r - l) / 2)) st) → wpS (model prog w) A E s (body x (none, l, r)) R st)
    (hl : lo ≤ hi) (hn : hi ≤ n) (mono : ∀ i j, i ≤ j → j < n → f j = true → f i = true)
    (h1 : ∀ i, i < lo → f i = true) (h2 : ∀ i, hi ≤ i → i < n → f i = false) :
    wpS (model prog w) A E s (forIn [0:n] (none, lo, hi) body) (fun c st' => st' = st ∧ ∃ r, c = (none, r, r) ∧ r ≤ n ∧ (∀ i, i < r → f i = true) ∧ (∀ i, r ≤ i → i < n → f i = false)) st := by
  refine wpS_forRange (I := fun x c st' => st' = st ∧ ∃ l r, c = (none, l, r) ∧ l ≤ r ∧ r ≤ n ∧ r - l ≤ n - x ∧ (∀ i, i < l → f i = true) ∧ (∀ i, r ≤ i → i < n → f i = false)) ?_ ?_ ⟨rfl, lo, hi, rfl, hl, hn, by omega, h1, h2⟩
  · rintro x c st' _ hx ⟨rfl, l, r, rfl, q1, q2, q3, q4, q5⟩
    by_cases hlr : l < r
    · have hm : l + (r - l) / 2 < r := by omega
      refine hg _ _ _ _ hlr q2 (fun e => ?_) (fun e => ?_)
      · exact ⟨rfl, _, r, rfl, by omega, by omega, by omega, fun i i1 => mono _ _ (by omega) (by omega) e, q5⟩
      · refine ⟨rfl, l, _, rfl, by omega, by omega, by omega, q4, fun i i1 i2 => ?_⟩
        cases z : f i
        · rfl
        · rw [mono _ _ i1 i2 z] at e; cases e
    · have : l = r := by omega
      subst this
      exact hs _ _ _ ⟨rfl, l, rfl, q2, q4, q5⟩
  · rintro c st' ⟨rfl, l, r, rfl, q1, q2, q3, q4, q5⟩
    have : l = r := by omega
    subst this
    exact ⟨rfl, l, rfl, q2, q4, q5⟩
theorem wpS_gallopG {left : Bool} {key : Keyed} {arr : Array Keyed} {base n hint : Nat} {Q : Option Nat → SortSt → Prop} {st : SortSt} (an : Ans prog w A s κ lt a0) (hk : kindOf st = κ)
    (hkey : key ∈ a0) (harr : ∀ i, i < n → itA arr (base + i) ∈ a0) (hb : base + n ≤ arr.size) (hh : hint < n)
    (mono : ∀ i j, i ≤ j → j < n → byd lt left key (itA arr (base + j)) = true → byd lt left key (itA arr (base + i)) = true)
    (h : ∀ k, k ≤ n → (∀ i, i < k → byd lt left key (itA arr (base + i)) = true) → (∀ i, k ≤ i → i < n → byd lt left key (itA arr (base + i)) = false) → Q (some k) st) :
    wpS (model prog w) A E s (gallopG left key arr base n hint) Q st := by
  have ha : ∀ i (R : Option Bool → SortSt → Prop), i < n → R (some (byd lt left key (itA arr (base + i)))) st → wpS (model prog w) A E s (askG left key arr base i) R st :=
    fun i R hi hr => wpS_askG an hk hkey (harr i hi) (by omega) hr
  refine wpS_bind (ha hint _ hh ?_)
  dsimp only
  cases e : byd lt left key (itA arr (base + hint))
  · simp only [Bool.false_eq_true, if_false]
    refine wpS_bind (wpS_mono (wpS_forRange (I := fun x c st' => st' = st ∧ ∃ l o, c = (none, l, o) ∧ l ≤ hint ∧ l < o ∧ x + 1 ≤ o ∧ byd lt left key (itA arr (base + (hint - l))) = false)
      (Q := fun c st' => st' = st ∧ ∃ l o, c = (none, l, o) ∧ l ≤ hint ∧ l < o ∧ byd lt left key (itA arr (base + (hint - l))) = false ∧ (o < hint + 1 → byd lt left key (itA arr (base + (hint - o))) = true)) ?_ ?_ ⟨rfl, 0, 1, rfl, by omega, by omega, by omega, e⟩) ?_)
    · rintro x c st' _ hx ⟨rfl, l, o, rfl, q1, q2, q3, q4⟩
      dsimp only
      by_cases ho : o ≥ hint + 1
      · rw [if_pos ho]
        exact wpS_pure ⟨rfl, l, o, rfl, q1, q2, q4, fun z => by omega⟩
      · rw [if_neg ho]
        refine wpS_bind (ha _ _ (by omega) ?_)
        cases e2 : byd lt left key (itA arr (base + (hint - o)))
        · simp only [Bool.false_eq_true, if_false]
          exact wpS_pure ⟨rfl, o, _, rfl, by omega, by omega, by omega, e2⟩
        · simp only [if_true]
          exact wpS_pure ⟨rfl, l, o, rfl, q1, q2, q4, fun _ => e2⟩
    · rintro c st' ⟨rfl, l, o, rfl, q1, q2, q3, q4⟩
      exact ⟨rfl, l, o, rfl, q1, q2, q4, fun z => by omega⟩
    · rintro c st' ⟨rfl, l, o, rfl, q1, q2, q4, q5⟩
      dsimp only
      refine wpS_bind (wpS_mono (wpS_narrowG (f := fun i => byd lt left key (itA arr (base + i))) (n := n) ?_ ?_ ?_ ?_ mono ?_ ?_) ?_)
      · intro x l R hR
        dsimp only
        rw [if_pos (Nat.le_refl _)]
        exact wpS_pure hR
      · intro x l r R hlr hrn y1 y2
        dsimp only
        rw [if_neg (by omega)]
        refine wpS_bind (ha _ _ (by omega) ?_)
        cases e3 : byd lt left key (itA arr (base + (l + (r - l) / 2)))
        · exact wpS_pure (y2 e3)
        · exact wpS_pure (y1 e3)
      · omega
      · omega
      rotate_right
      · rintro c st2 ⟨rfl, r, rfl, z1, z2, z3⟩
        exact wpS_pure (h r z1 z2 z3)
      · intro i hi
        by_cases ho : o < hint + 1
        · exact mono _ _ (by omega) (by omega) (q5 ho)
        · omega
      · intro i hi hi2
        cases z : byd lt left key (itA arr (base + i))
        · rfl
        · rw [mono _ _ hi hi2 z] at q4; cases q4
  · simp only [if_true]
    refine wpS_bind (wpS_mono (wpS_forRange (I := fun x c st' => st' = st ∧ ∃ l o, c = (none, l, o) ∧ hint + l < n ∧ l < o ∧ x + 1 ≤ o ∧ byd lt left key (itA arr (base + (hint + l))) = true)
      (Q := fun c st' => st' = st ∧ ∃ l o, c = (none, l, o) ∧ hint + l < n ∧ l < o ∧ byd lt left key (itA arr (base + (hint + l))) = true ∧ (o < n - hint → byd lt left key (itA arr (base + (hint + o))) = false)) ?_ ?_ ⟨rfl, 0, 1, rfl, by omega, by omega, by omega, e⟩) ?_)
    · rintro x c st' _ hx ⟨rfl, l, o, rfl, q1, q2, q3, q4⟩
      dsimp only
      by_cases ho : o ≥ n - hint
      · rw [if_pos ho]
        exact wpS_pure ⟨rfl, l, o, rfl, q1, q2, q4, fun z => by omega⟩
      · rw [if_neg ho]
        refine wpS_bind (ha _ _ (by omega) ?_)
        cases e2 : byd lt left key (itA arr (base + (hint + o)))
        · simp only [Bool.not_false, if_true]
          exact wpS_pure ⟨rfl, l, o, rfl, q1, q2, q4, fun _ => e2⟩
        · simp only [Bool.not_true, Bool.false_eq_true, if_false]
          exact wpS_pure ⟨rfl, o, _, rfl, by omega, by omega, by omega, e2⟩
    · rintro c st' ⟨rfl, l, o, rfl, q1, q2, q3, q4⟩
      exact ⟨rfl, l, o, rfl, q1, q2, q4, fun z => by omega⟩
    · rintro c st' ⟨rfl, l, o, rfl, q1, q2, q4, q5⟩
      dsimp only
      refine wpS_bind (wpS_mono (wpS_narrowG (f := fun i => byd lt left key (itA arr (base + i))) (n := n) ?_ ?_ ?_ ?_ mono ?_ ?_) ?_)
      · intro x l R hR
        dsimp only
        rw [if_pos (Nat.le_refl _)]
        exact wpS_pure hR
      · intro x l r R hlr hrn y1 y2
        dsimp only
        rw [if_neg (by omega)]
        refine wpS_bind (ha _ _ (by omega) ?_)
        cases e3 : byd lt left key (itA arr (base + (l + (r - l) / 2)))
        · exact wpS_pure (y2 e3)
        · exact wpS_pure (y1 e3)
      · omega
      · omega
      rotate_right
      · rintro c st2 ⟨rfl, r, rfl, z1, z2, z3⟩
        exact wpS_pure (h r z1 z2 z3)
      · intro i hi
        exact mono _ _ (by omega) q1 q4
      · intro i hi hi2
        by_cases ho : o < n - hint
        · cases z : byd lt left key (itA arr (base + i))
          · rfl
          · rw [mono _ _ (by omega) hi2 z] at q5
            exact absurd (q5 ho) (by simp)
        · omega
end
end L2
set_option Elab.async false
set_option linter.all false
set_option maxRecDepth 100000
set_option maxHeartbeats 4000000
namespace L2
open PySem PySem.W PyProof.Rows
section lists
variable {lt : Keyed → Keyed → Bool}
/-- while two rows are laid into one: what is out stands ahead of all that is left -/
structure ML (lt : Keyed → Keyed → Bool) (all out ra rb : List Keyed) : Prop where
  perm : (out ++ (ra ++ rb)).Perm all
  so : out.Pairwise (Nl lt)
  sa : ra.Pairwise (Nl lt)
  sb : rb.Pairwise (Nl lt)
  le : ∀ o ∈ out, ∀ x, x ∈ ra ∨ x ∈ rb → Nl lt o x
theorem ML.takeA {all out l ra rb : List Keyed} (h : ML lt all out (l ++ ra) rb) (hl : ∀ x ∈ l, ∀ y ∈ rb, Nl lt x y) : ML lt all (out ++ l) ra rb := by
  have sa := List.pairwise_append.mp h.sa
  refine ⟨?_, ?_, sa.2.1, h.sb, ?_⟩
  · refine List.Perm.trans ?_ h.perm
    simp
  · exact List.pairwise_append.mpr ⟨h.so, sa.1, fun o ho x hx => h.le o ho x (.inl (List.mem_append_left _ hx))⟩
  · intro o ho x hx
    rcases List.mem_append.mp ho with ho | ho
    · exact h.le o ho x (hx.imp (fun z => List.mem_append_right _ z) id)
    · rcases hx with hx | hx
      · exact sa.2.2 o ho x hx
      · exact hl o ho x hx
theorem ML.turn {all out ra rb : List Keyed} (h : ML lt all out ra rb) : ML lt all out rb ra :=
  ⟨List.Perm.trans (List.Perm.append_left _ List.perm_append_comm) h.perm, h.so, h.sb, h.sa, fun o ho x hx => h.le o ho x hx.symm⟩
theorem ML.takeB {all out l ra rb : List Keyed} (h : ML lt all out ra (l ++ rb)) (hl : ∀ x ∈ l, ∀ y ∈ ra, Nl lt x y) : ML lt all (out ++ l) ra rb := (h.turn.takeA hl).turn
/-- what a merge hands back -/
def Mrg (lt : Keyed → Keyed → Bool) (all : List Keyed) (r : Array Keyed) : Prop := r.toList.Pairwise (Nl lt) ∧ r.toList.Perm all
theorem ML.fin {all out ra rb : List Keyed} (h : ML lt all out ra rb) (hl : ∀ x ∈ ra, ∀ y ∈ rb, Nl lt x y) {r : Array Keyed} (e : r.toList = out ++ ra ++ rb) : Mrg lt all r := by
  refine ⟨?_, ?_⟩
  · rw [e, List.append_assoc]
    exact List.pairwise_append.mpr ⟨h.so, List.pairwise_append.mpr ⟨h.sa, h.sb, hl⟩, fun o ho x hx => h.le o ho x (List.mem_append.mp hx)⟩
  · rw [e, List.append_assoc]
    exact h.perm
/-- from the end: what is out stands behind all that is left -/
structure MH (lt : Keyed → Keyed → Bool) (all out ra rb : List Keyed) : Prop where
  perm : ((ra ++ rb) ++ out).Perm all
  so : out.Pairwise (Nl lt)
  sa : ra.Pairwise (Nl lt)
  sb : rb.Pairwise (Nl lt)
  le : ∀ o ∈ out, ∀ x, x ∈ ra ∨ x ∈ rb → Nl lt x o
theorem MH.turn {all out ra rb : List Keyed} (h : MH lt all out ra rb) : MH lt all out rb ra :=
  ⟨List.Perm.trans (List.Perm.append_right _ List.perm_append_comm) h.perm, h.so, h.sb, h.sa, fun o ho x hx => h.le o ho x hx.symm⟩
theorem MH.takeB {all out l ra rb : List Keyed} (h : MH lt all out ra (rb ++ l)) (hl : ∀ x ∈ l, ∀ y ∈ ra, Nl lt y x) : MH lt all (l ++ out) ra rb := by
  have sb := List.pairwise_append.mp h.sb
  refine ⟨?_, ?_, h.sa, sb.1, ?_⟩
  · refine List.Perm.trans ?_ h.perm
    simp
  · exact List.pairwise_append.mpr ⟨sb.2.1, h.so, fun x hx o ho => h.le o ho x (.inr (List.mem_append_right _ hx))⟩
  · intro o ho x hx
    rcases List.mem_append.mp ho with ho | ho
    · rcases hx with hx | hx
      · exact hl o ho x hx
      · exact sb.2.2 x hx o ho
    · exact h.le o ho x (hx.imp id fun z => List.mem_append_left _ z)
theorem MH.takeA {all out l ra rb : List Keyed} (h : MH lt all out (ra ++ l) rb) (hl : ∀ x ∈ l, ∀ y ∈ rb, Nl lt y x) : MH lt all (l ++ out) ra rb := (h.turn.takeB hl).turn
theorem MH.fin {all out ra rb : List Keyed} (h : MH lt all out ra rb) (hl : ∀ x ∈ ra, ∀ y ∈ rb, Nl lt x y) {r : Array Keyed} (e : r.toList = ra ++ rb ++ out) : Mrg lt all r := by
  refine ⟨?_, ?_⟩
  · rw [e]
    exact List.pairwise_append.mpr ⟨List.pairwise_append.mpr ⟨h.sa, h.sb, hl⟩, h.so, fun x hx o ho => h.le o ho x (List.mem_append.mp hx)⟩
  · rw [e]
    exact h.perm
/-- rows by places -/
theorem itA_toList {xs : Array Keyed} {i : Nat} (h : i < xs.toList.length) : xs.toList[i] = itA xs i := by
  have h' : i < xs.size := by simpa using h
  unfold itA
  simp [Array.getD, h']
theorem drop_itA {xs : Array Keyed} {i : Nat} (h : i < xs.size) : xs.toList.drop i = itA xs i :: xs.toList.drop (i + 1) := by
  rw [List.drop_eq_getElem_cons (by simpa using h), itA_toList]
theorem take_itA {xs : Array Keyed} {i : Nat} (h : i < xs.size) : xs.toList.take (i + 1) = xs.toList.take i ++ [itA xs i] := by
  rw [List.take_succ, List.getElem?_eq_getElem (by simpa using h), itA_toList]
  rfl
theorem drop_part (xs : Array Keyed) (i k : Nat) : xs.toList.drop i = (xs.extract i (i + k)).toList ++ xs.toList.drop (i + k) := by
  rw [Array.toList_extract, List.extract_eq_take_drop, Nat.add_sub_cancel_left, ← List.drop_drop]
  exact (List.take_append_drop _ _).symm
theorem take_part {xs : Array Keyed} {i j : Nat} (h : i ≤ j) : xs.toList.take j = xs.toList.take i ++ (xs.extract i j).toList := by
  rw [Array.toList_extract, List.extract_eq_take_drop]
  have : j = i + (j - i) := by omega
  rw [this, List.take_add, ← this]
theorem mem_part {xs : Array Keyed} {i j : Nat} {x : Keyed} (h : x ∈ (xs.extract i j).toList) : ∃ k, i ≤ k ∧ k < j ∧ k < xs.size ∧ x = itA xs k := by
  obtain ⟨n, hn, rfl⟩ := List.getElem_of_mem h
  have hn' : n < min (j - i) (xs.size - i) := by simpa using hn
  refine ⟨i + n, by omega, by omega, by omega, ?_⟩
  unfold itA
  have : i + n < xs.size := by omega
  simp [Array.getD, this]
theorem mem_dropA {xs : Array Keyed} {i : Nat} {x : Keyed} (h : x ∈ xs.toList.drop i) : ∃ k, i ≤ k ∧ k < xs.size ∧ x = itA xs k := by
  obtain ⟨n, hn, rfl⟩ := List.getElem_of_mem h
  have hn' : n < xs.size - i := by simpa using hn
  refine ⟨i + n, by omega, by omega, ?_⟩
  rw [List.getElem_drop, itA_toList]
theorem mem_takeA {xs : Array Keyed} {i : Nat} {x : Keyed} (h : x ∈ xs.toList.take i) : ∃ k, k < i ∧ k < xs.size ∧ x = itA xs k := by
  obtain ⟨n, hn, rfl⟩ := List.getElem_of_mem h
  have hn' : n < min i xs.size := by simpa using hn
  refine ⟨n, by omega, by omega, ?_⟩
  rw [List.getElem_take, itA_toList]
/-- sorted, by places -/
theorem pw_at {xs : Array Keyed} (sw : Swo lt) (h : xs.toList.Pairwise (Nl lt)) {i j : Nat} (hij : i ≤ j) (hj : j < xs.size) : Nl lt (itA xs i) (itA xs j) := by
  rcases Nat.lt_or_ge i j with hlt | hge
  · have := (List.pairwise_iff_getElem.mp h) i j (by simp; omega) (by simpa using hj) hlt
    rw [itA_toList, itA_toList] at this
    exact this
  · have : i = j := by omega
    subst this
    exact sw.rfl' _
theorem at_pw {xs : Array Keyed} (h : ∀ i j, i < j → j < xs.size → Nl lt (itA xs i) (itA xs j)) : xs.toList.Pairwise (Nl lt) := by
  rw [List.pairwise_iff_getElem]
  intro i j hi hj hij
  rw [itA_toList, itA_toList]
  exact h i j hij (by simpa using hj)
theorem extr_drop (xs : Array Keyed) (i : Nat) : (xs.extract i).toList = xs.toList.drop i := by
  rw [Array.toList_extract, List.extract_eq_take_drop]
  exact List.take_of_length_le (by simp)
theorem extr_take (xs : Array Keyed) (i : Nat) : (xs.extract 0 i).toList = xs.toList.take i := by
  rw [Array.toList_extract, List.extract_eq_take_drop]
  rfl
theorem byd_mono (sw : Swo lt) {left : Bool} {key : Keyed} {xs : Array Keyed} {base n : Nat} (sx : ∀ i j, base ≤ i → i ≤ j → j < base + n → Nl lt (itA xs i) (itA xs j)) :
    ∀ i j, i ≤ j → j < n → byd lt left key (itA xs (base + j)) = true → byd lt left key (itA xs (base + i)) = true := by
  intro i j hij hj h
  have q := sx (base + i) (base + j) (by omega) (by omega) (by omega)
  unfold byd at *
  cases left with
  | true =>
    simp only [if_true] at *
    exact sw.lt_of' q h
  | false =>
    simp only [Bool.false_eq_true, if_false, Bool.not_eq_true'] at *
    exact sw.trans q h
theorem byd_ft {key x : Keyed} (h : byd lt false key x = true) : Nl lt x key := by
  unfold byd at h
  unfold Nl
  simpa using h
theorem byd_ff {key x : Keyed} (h : byd lt false key x = false) : lt key x = true := by
  unfold byd at h
  simpa using h
theorem byd_tt {key x : Keyed} (h : byd lt true key x = true) : lt x key = true := by
  unfold byd at h
  simpa using h
theorem byd_tf {key x : Keyed} (h : byd lt true key x = false) : Nl lt key x := by
  unfold byd at h
  unfold Nl
  simpa using h
end lists
end L2
set_option Elab.async false
set_option linter.all false
set_option maxRecDepth 100000
set_option maxHeartbeats 4000000
namespace L2
open PySem PySem.W PyProof.Rows
section
variable {prog : Program} {w : World} {A : Around} {E : Value → Shared → Prop} {s : Shared} {κ : SortKind} {lt : Keyed → Keyed → Bool} {a0 : Array Keyed}
def mergeLoG : Array Keyed → Array Keyed → StateT SortSt Sem (Array Keyed) := sortPriv% PySem.Builtin.mergeLo
/-- the same state but for the gallop's number -/
abbrev setGal (st : SortSt) (g : Nat) : SortSt := SortSt.mk' (kindOf st) (arrOf st) (pendingOf st) g (failedOf st)
/-- while the lower merge goes on -/
structure MLo (lt : Keyed → Keyed → Bool) (a b out : Array Keyed) (ia ib : Nat) : Prop where
  ml : ML lt (a.toList ++ b.toList) out.toList (a.toList.drop ia) (b.toList.drop ib)
  ha : ia + 1 < a.size
  hb : ib < b.size
  sz : out.size = ia + ib
theorem wpS_mergeLoG {a b : Array Keyed} {Q : Array Keyed → SortSt → Prop} {st : SortSt} (sw : Swo lt) (an : Ans prog w A s κ lt a0) (hk : kindOf st = κ)
    (ma : ∀ i, i < a.size → itA a i ∈ a0) (mb : ∀ i, i < b.size → itA b i ∈ a0) (sa : a.toList.Pairwise (Nl lt)) (sb : b.toList.Pairwise (Nl lt)) (na : 0 < a.size) (nb : 0 < b.size)
    (hf : Nl lt (itA b 0) (itA a 0)) (hl : ∀ j, j < b.size → Nl lt (itA b j) (itA a (a.size - 1)))
    (h : ∀ r g, Mrg lt (a.toList ++ b.toList) r → Q r (setGal st g)) : wpS (model prog w) A E s (mergeLoG a b) Q st := by
  have start : ML lt (a.toList ++ b.toList) (#[itA b 0] : Array Keyed).toList (a.toList.drop 0) (b.toList.drop 1) := by
    have e : b.toList.drop 0 = [itA b 0] ++ b.toList.drop 1 := drop_itA nb
    have m0 : ML lt (a.toList ++ b.toList) [] (a.toList.drop 0) ([itA b 0] ++ b.toList.drop 1) := by
      rw [← e]
      exact ⟨List.Perm.refl _, .nil, sa, sb, fun o ho => nomatch ho⟩
    refine m0.takeB fun x hx y hy => ?_
    obtain ⟨k, _, hk2, rfl⟩ := mem_dropA hy
    rcases List.mem_singleton.mp hx with rfl
    exact sw.trans hf (pw_at sw sa (Nat.zero_le _) hk2)
  have lastA : ∀ (out : Array Keyed) ia ib, ML lt (a.toList ++ b.toList) out.toList (a.toList.drop ia) (b.toList.drop ib) → ia + 1 = a.size → Mrg lt (a.toList ++ b.toList) (out ++ b.extract ib ++ a.extract ia) := by
    intro out ia ib m e
    refine m.turn.fin (fun x hx y hy => ?_) (by rw [Array.toList_append, Array.toList_append, extr_drop, extr_drop])
    obtain ⟨k, _, hk2, rfl⟩ := mem_dropA hx
    obtain ⟨j, hj1, hj2, rfl⟩ := mem_dropA hy
    have : j = a.size - 1 := by omega
    subst this
    exact hl k hk2
  have doneB : ∀ (out : Array Keyed) ia ib, ML lt (a.toList ++ b.toList) out.toList (a.toList.drop ia) (b.toList.drop ib) → ib = b.size → Mrg lt (a.toList ++ b.toList) (out ++ a.extract ia ++ b.extract ib) := by
    intro out ia ib m e
    refine m.fin (fun x hx y hy => ?_) (by rw [Array.toList_append, Array.toList_append, extr_drop, extr_drop])
    obtain ⟨k, hk1, hk2, rfl⟩ := mem_dropA hy
    omega
  have doneA : ∀ (out : Array Keyed) ia ib, ML lt (a.toList ++ b.toList) out.toList (a.toList.drop ia) (b.toList.drop ib) → ia = a.size → Mrg lt (a.toList ++ b.toList) (out ++ a.extract ia ++ b.extract ib) := by
    intro out ia ib m e
    refine m.fin (fun x hx y hy => ?_) (by rw [Array.toList_append, Array.toList_append, extr_drop, extr_drop])
    obtain ⟨k, hk1, hk2, rfl⟩ := mem_dropA hx
    omega
  have pushB : ∀ (out : Array Keyed) ia ib, ML lt (a.toList ++ b.toList) out.toList (a.toList.drop ia) (b.toList.drop ib) → ib < b.size → (∀ i, ia ≤ i → i < a.size → Nl lt (itA b ib) (itA a i)) →
      ML lt (a.toList ++ b.toList) (out.push (itA b ib)).toList (a.toList.drop ia) (b.toList.drop (ib + 1)) := by
    intro out ia ib m hib hx
    rw [Array.toList_push]
    rw [drop_itA hib] at m
    refine ML.takeB (l := [itA b ib]) m fun x hx' y hy => ?_
    rcases List.mem_singleton.mp hx' with rfl
    obtain ⟨k, hk1, hk2, rfl⟩ := mem_dropA hy
    exact hx k hk1 hk2
  have pushA : ∀ (out : Array Keyed) ia ib, ML lt (a.toList ++ b.toList) out.toList (a.toList.drop ia) (b.toList.drop ib) → ia < a.size → (∀ i, ib ≤ i → i < b.size → Nl lt (itA a ia) (itA b i)) →
      ML lt (a.toList ++ b.toList) (out.push (itA a ia)).toList (a.toList.drop (ia + 1)) (b.toList.drop ib) := by
    intro out ia ib m hia hx
    rw [Array.toList_push]
    rw [drop_itA hia] at m
    refine ML.takeA (l := [itA a ia]) m fun x hx' y hy => ?_
    rcases List.mem_singleton.mp hx' with rfl
    obtain ⟨k, hk1, hk2, rfl⟩ := mem_dropA hy
    exact hx k hk1 hk2
  have partA : ∀ (out : Array Keyed) ia ib k, ML lt (a.toList ++ b.toList) out.toList (a.toList.drop ia) (b.toList.drop ib) → (∀ i j, ia ≤ i → i < ia + k → i < a.size → ib ≤ j → j < b.size → Nl lt (itA a i) (itA b j)) →
      ML lt (a.toList ++ b.toList) (out ++ a.extract ia (ia + k)).toList (a.toList.drop (ia + k)) (b.toList.drop ib) := by
    intro out ia ib k m hx
    rw [Array.toList_append]
    rw [drop_part a ia k] at m
    refine ML.takeA m fun x hx' y hy => ?_
    obtain ⟨i, i1, i2, i3, rfl⟩ := mem_part hx'
    obtain ⟨j, j1, j2, rfl⟩ := mem_dropA hy
    exact hx i j i1 i2 i3 j1 j2
  have partB : ∀ (out : Array Keyed) ia ib k, ML lt (a.toList ++ b.toList) out.toList (a.toList.drop ia) (b.toList.drop ib) → (∀ i j, ib ≤ i → i < ib + k → i < b.size → ia ≤ j → j < a.size → Nl lt (itA b i) (itA a j)) →
      ML lt (a.toList ++ b.toList) (out ++ b.extract ib (ib + k)).toList (a.toList.drop ia) (b.toList.drop (ib + k)) := by
    intro out ia ib k m hx
    rw [Array.toList_append]
    rw [drop_part b ib k] at m
    refine ML.takeB m fun x hx' y hy => ?_
    obtain ⟨i, i1, i2, i3, rfl⟩ := mem_part hx'
    obtain ⟨j, j1, j2, rfl⟩ := mem_dropA hy
    exact hx i j i1 i2 i3 j1 j2
  refine wpS_bind (wpS_lift (wpAny_rule ⟨rfl, ?_⟩))
  dsimp only
  refine wpS_bind (wpS_elemG (i := 0) nb ?_)
  by_cases h1 : b.size = 1
  · rw [if_pos (by simp [h1])]
    exact wpS_pure (h _ _ (doneB _ 0 1 start h1.symm))
  rw [if_neg (by simpa using fun e => h1 e.symm)]
  by_cases h2 : a.size = 1
  · rw [if_pos (by simp [h2])]
    exact wpS_pure (h _ _ (lastA _ 0 1 start (by omega)))
  rw [if_neg (by simpa using fun e => h2 (by omega))]
  refine wpS_bind (wpS_get ?_)
  refine wpS_bind (wpS_mono (wpS_forRange (I := fun x c st' => ∃ out ia ib g g', c = (none, out, ia, ib, g) ∧ st' = setGal st g' ∧ MLo lt a b out ia ib ∧ x + 1 ≤ out.size)
    (Q := fun c st' => ∃ r g', c.1 = some r ∧ st' = setGal st g' ∧ Mrg lt (a.toList ++ b.toList) r) ?step ?fin ?init) ?post)
  case init => exact ⟨_, 0, 1, _, _, rfl, rfl, ⟨start, by omega, by omega, rfl⟩, by simp⟩
  case fin =>
    rintro c st' ⟨out, ia, ib, g, g', rfl, rfl, m, hx⟩
    have := m.ha
    have := m.hb
    have := m.sz
    omega
  case post =>
    rintro ⟨c, rest⟩ st' ⟨r, g', e, rfl, m⟩
    dsimp only at e
    subst e
    exact wpS_pure (h _ _ m)
  case step =>
    rintro x c st' _ hxs ⟨out, ia, ib, g, g', rfl, rfl, m, hx⟩
    dsimp only
    refine wpS_bind (wpS_mono (wpS_forRange (I := fun y c st' => ∃ out ia ib ac bc, c = (none, out, ia, ib, ac, bc) ∧ st' = setGal st g' ∧ MLo lt a b out ia ib ∧ x + y + 1 ≤ out.size)
      (Q := fun c st' => st' = setGal st g' ∧ ((∃ r, c.1 = some r ∧ Mrg lt (a.toList ++ b.toList) r) ∨ ∃ out ia ib ac bc, c = (none, out, ia, ib, ac, bc) ∧ MLo lt a b out ia ib ∧ x + 2 ≤ out.size)) ?istep ?ifin ?iinit) ?ipost)
    case iinit => exact ⟨out, ia, ib, 0, 0, rfl, rfl, m, by omega⟩
    case ifin =>
      rintro c st' ⟨out, ia, ib, ac, bc, rfl, rfl, m, hx⟩
      have := m.ha
      have := m.hb
      have := m.sz
      omega
    case istep =>
      rintro y c st' _ hy ⟨out, ia, ib, ac, bc, rfl, rfl, m, hx⟩
      dsimp only
      have hia := m.ha
      have hib := m.hb
      have hsz := m.sz
      refine wpS_bind (wpS_elemG hib (wpS_bind (wpS_elemG (by omega) ?_)))
      refine wpS_bind (wpS_ltG an hk (mb _ hib) (ma _ (by omega)) ?_)
      dsimp only
      cases e : lt (itA b ib) (itA a ia)
      · simp only [Bool.false_eq_true, if_false]
        refine wpS_bind (wpS_elemG (by omega) ?_)
        have m2 := pushA out ia ib m.ml (by omega) (fun i i1 i2 => sw.trans e (pw_at sw sb i1 i2))
        by_cases q1 : ia + 1 + 1 = a.size
        · rw [if_pos (by simpa using q1)]
          exact wpS_pure ⟨rfl, .inl ⟨_, rfl, lastA _ _ _ m2 q1⟩⟩
        · rw [if_neg (by simpa using q1)]
          have mm : MLo lt a b (out.push (itA a ia)) (ia + 1) ib := ⟨m2, by omega, hib, by rw [Array.size_push]; omega⟩
          split
          · exact wpS_pure ⟨rfl, .inr ⟨_, _, _, _, _, rfl, mm, by rw [Array.size_push]; omega⟩⟩
          · exact wpS_pure ⟨_, _, _, _, _, rfl, rfl, mm, by rw [Array.size_push]; omega⟩
      · simp only [if_true]
        refine wpS_bind (wpS_elemG hib ?_)
        have m2 := pushB out ia ib m.ml hib (fun i i1 i2 => sw.trans (sw.of_lt e) (pw_at sw sa i1 i2))
        by_cases q1 : ib + 1 = b.size
        · rw [if_pos (by simpa using q1)]
          exact wpS_pure ⟨rfl, .inl ⟨_, rfl, doneB _ _ _ m2 q1⟩⟩
        · rw [if_neg (by simpa using q1)]
          have mm : MLo lt a b (out.push (itA b ib)) ia (ib + 1) := ⟨m2, hia, by omega, by rw [Array.size_push]; omega⟩
          split
          · exact wpS_pure ⟨rfl, .inr ⟨_, _, _, _, _, rfl, mm, by rw [Array.size_push]; omega⟩⟩
          · exact wpS_pure ⟨_, _, _, _, _, rfl, rfl, mm, by rw [Array.size_push]; omega⟩
    case ipost =>
      rintro c st' ⟨rfl, hc⟩
      rcases hc with ⟨r, hc, hm⟩ | ⟨out, ia, ib, ac, bc, rfl, m, hx2⟩
      · obtain ⟨c, rest⟩ := c
        dsimp only at hc
        subst hc
        exact wpS_pure ⟨r, g', rfl, rfl, hm⟩
      · dsimp only
        refine wpS_bind (wpS_lift (wpAny_rule ⟨rfl, ?_⟩))
        refine wpS_bind (wpS_mono (wpS_forRange (I := fun y c st' => ∃ out ia ib g ac bc g', c = (none, out, ia, ib, g, ac, bc) ∧ st' = setGal st g' ∧ MLo lt a b out ia ib ∧ x + 2 ≤ out.size)
          (Q := fun c st' => ∃ g', st' = setGal st g' ∧ ((∃ r, c.1 = some r ∧ Mrg lt (a.toList ++ b.toList) r) ∨ ∃ out ia ib g ac bc, c = (none, out, ia, ib, g, ac, bc) ∧ MLo lt a b out ia ib ∧ x + 2 ≤ out.size)) ?jstep ?jfin ?jinit) ?jpost)
        case jinit => exact ⟨out, ia, ib, _, ac, bc, g', rfl, rfl, m, hx2⟩
        case jfin =>
          rintro c st' ⟨out, ia, ib, g, ac, bc, g', rfl, rfl, m, hx⟩
          exact ⟨g', rfl, .inr ⟨out, ia, ib, g, ac, bc, rfl, m, hx⟩⟩
        case jpost =>
          rintro c st' ⟨g', rfl, hc⟩
          rcases hc with ⟨r, hc, hm⟩ | ⟨out, ia, ib, g, ac, bc, rfl, m, hx2⟩
          · obtain ⟨c, rest⟩ := c
            dsimp only at hc
            subst hc
            exact wpS_pure ⟨r, g', rfl, rfl, hm⟩
          · dsimp only
            exact wpS_bind (wpS_modify (wpS_pure ⟨out, ia, ib, _, _, rfl, rfl, m, hx2⟩))
        case jstep =>
          rintro y c st' _ hy ⟨out, ia, ib, g, ac, bc, g', rfl, rfl, m, hx⟩
          dsimp only
          have hia := m.ha
          have hib := m.hb
          have hsz := m.sz
          by_cases gg : g > 1
          case' pos => rw [if_pos gg]
          case' neg => rw [if_neg gg]
          all_goals
            refine wpS_bind (wpS_modify ?_)
            refine wpS_bind (wpS_elemG hib ?_)
            refine wpS_bind (wpS_gallopG (left := false) an hk (mb _ hib) (fun i hi => ma _ (by omega)) (by omega) (by omega) (byd_mono sw fun i j _ h1 h2 => pw_at sw sa h1 (by omega)) fun k k1 k2 k3 => ?_)
            dsimp only
            have m2 := partA out ia ib k m.ml (fun i j i1 i2 i3 j1 j2 => by
              have q := byd_ft (k2 (i - ia) (by omega))
              rw [show ia + (i - ia) = i by omega] at q
              exact sw.trans q (pw_at sw sb j1 j2))
            have z2 : (out ++ a.extract ia (ia + k)).size = ia + k + ib := by
              rw [Array.size_append, Array.size_extract, hsz]
              omega
            have n2 : ∀ i, ia + k ≤ i → i < a.size → Nl lt (itA b ib) (itA a i) := fun i i1 i2 => by
              have q := byd_ff (k3 (i - ia) (by omega) (by omega))
              rw [show ia + (i - ia) = i by omega] at q
              exact sw.of_lt q
            have e0 : ¬ k > 0 → out ++ a.extract ia (ia + k) = out := fun e => by
              have : k = 0 := by omega
              subst this
              simp
              omega
            by_cases k0 : k > 0
            case' neg =>
              rw [if_neg k0]
              have e1 : ia + k = ia := by omega
              rw [e0 k0, e1] at m2 z2
              rw [e1] at n2
              obtain ⟨out2, eo⟩ : ∃ o, o = out := ⟨_, rfl⟩
              obtain ⟨ia2, ei⟩ : ∃ o, o = ia := ⟨_, rfl⟩
              rw [← eo, ← ei] at m2 z2
              rw [← ei] at n2
              rw [← eo, ← ei]
              have hia2 : ia2 + 1 < a.size := by omega
              have hx2' : x + 2 ≤ out2.size := by rw [eo]; omega
            case' pos =>
              rw [if_pos k0]
              by_cases q1 : ia + k + 1 = a.size
              · rw [if_pos (by simpa using q1)]
                exact wpS_pure ⟨_, rfl, .inl ⟨_, rfl, lastA _ _ _ m2 q1⟩⟩
              rw [if_neg (by simpa using q1)]
              by_cases q2 : ia + k = a.size
              · rw [if_pos (by simpa using q2)]
                exact wpS_pure ⟨_, rfl, .inl ⟨_, rfl, doneA _ _ _ m2 q2⟩⟩
              rw [if_neg (by simpa using q2)]
              obtain ⟨out2, eo⟩ : ∃ o, o = out ++ a.extract ia (ia + k) := ⟨_, rfl⟩
              obtain ⟨ia2, ei⟩ : ∃ o, o = ia + k := ⟨_, rfl⟩
              rw [← eo, ← ei] at m2 z2
              rw [← ei] at n2
              rw [← eo, ← ei]
              have hia2 : ia2 + 1 < a.size := by omega
              have hx2' : x + 2 ≤ out2.size := by omega
            all_goals
              refine wpS_bind (wpS_elemG hib ?_)
              have m3 := pushB out2 ia2 ib m2 hib n2
              have z3 : (out2.push (itA b ib)).size = ia2 + (ib + 1) := by rw [Array.size_push]; omega
              by_cases q3 : ib + 1 = b.size
              · rw [if_pos (by simpa using q3)]
                exact wpS_pure ⟨_, rfl, .inl ⟨_, rfl, doneB _ _ _ m3 q3⟩⟩
              rw [if_neg (by simpa using q3)]
              refine wpS_bind (wpS_elemG (by omega) ?_)
              refine wpS_bind (wpS_gallopG (left := true) an hk (ma _ (by omega)) (fun i hi => mb _ (by omega)) (by omega) (by omega) (byd_mono sw fun i j _ h1 h2 => pw_at sw sb h1 (by omega)) fun l l1 l2 l3 => ?_)
              dsimp only
              have m4 := partB _ ia2 (ib + 1) l m3 (fun i j i1 i2 i3 j1 j2 => by
                have q := byd_tt (l2 (i - (ib + 1)) (by omega))
                rw [show ib + 1 + (i - (ib + 1)) = i by omega] at q
                exact sw.trans (sw.of_lt q) (pw_at sw sa j1 j2))
              have z4 : (out2.push (itA b ib) ++ b.extract (ib + 1) (ib + 1 + l)).size = ia2 + (ib + 1 + l) := by
                rw [Array.size_append, Array.size_extract, z3]
                omega
              have n4 : ∀ i, ib + 1 + l ≤ i → i < b.size → Nl lt (itA a ia2) (itA b i) := fun i i1 i2 => by
                have q := byd_tf (l3 (i - (ib + 1)) (by omega) (by omega))
                rw [show ib + 1 + (i - (ib + 1)) = i by omega] at q
                exact q
              have e4 : ¬ l > 0 → out2.push (itA b ib) ++ b.extract (ib + 1) (ib + 1 + l) = out2.push (itA b ib) := fun e => by
                have : l = 0 := by omega
                subst this
                simp
                omega
              by_cases l0 : l > 0
              case' neg =>
                rw [if_neg l0]
                have e1 : ib + 1 + l = ib + 1 := by omega
                rw [e4 l0, e1] at m4 z4
                rw [e1] at n4
                obtain ⟨out3, eo3⟩ : ∃ o, o = out2.push (itA b ib) := ⟨_, rfl⟩
                obtain ⟨ib2, ei3⟩ : ∃ o, o = ib + 1 := ⟨_, rfl⟩
                rw [← eo3, ← ei3] at m4 z4
                rw [← ei3] at n4
                rw [← eo3, ← ei3]
                have hib2 : ib2 < b.size := by omega
              case' pos =>
                rw [if_pos l0]
                by_cases q1 : ib + 1 + l = b.size
                · rw [if_pos (by simpa using q1)]
                  exact wpS_pure ⟨_, rfl, .inl ⟨_, rfl, doneB _ _ _ m4 q1⟩⟩
                rw [if_neg (by simpa using q1)]
                obtain ⟨out3, eo3⟩ : ∃ o, o = out2.push (itA b ib) ++ b.extract (ib + 1) (ib + 1 + l) := ⟨_, rfl⟩
                obtain ⟨ib2, ei3⟩ : ∃ o, o = ib + 1 + l := ⟨_, rfl⟩
                rw [← eo3, ← ei3] at m4 z4
                rw [← ei3] at n4
                rw [← eo3, ← ei3]
                have hib2 : ib2 < b.size := by omega
              all_goals
                refine wpS_bind (wpS_elemG (by omega) ?_)
                have m5 := pushA out3 ia2 ib2 m4 (by omega) n4
                have z5 : (out3.push (itA a ia2)).size = ia2 + 1 + ib2 := by rw [Array.size_push]; omega
                by_cases q5 : ia2 + 1 + 1 = a.size
                · rw [if_pos (by simpa using q5)]
                  exact wpS_pure ⟨_, rfl, .inl ⟨_, rfl, lastA _ _ _ m5 q5⟩⟩
                rw [if_neg (by simpa using q5)]
                have mm : MLo lt a b (out3.push (itA a ia2)) (ia2 + 1) ib2 := ⟨m5, by omega, hib2, z5⟩
                have hx5 : x + 2 ≤ (out3.push (itA a ia2)).size := by omega
                split
                · exact wpS_pure ⟨_, rfl, .inr ⟨_, _, _, _, _, _, rfl, mm, hx5⟩⟩
                · exact wpS_pure ⟨_, _, _, _, _, _, _, rfl, rfl, mm, hx5⟩
end
end L2
set_option Elab.async false
set_option linter.all false
set_option maxRecDepth 100000
set_option maxHeartbeats 4000000
namespace L2
open PySem PySem.W PyProof.Rows
section
variable {prog : Program} {w : World} {A : Around} {E : Value → Shared → Prop} {s : Shared} {κ : SortKind} {lt : Keyed → Keyed → Bool} {a0 : Array Keyed}
def mergeHiG : Array Keyed → Array Keyed → StateT SortSt Sem (Array Keyed) := sortPriv% PySem.Builtin.mergeHi
/-- while the upper merge goes on -/
structure MHo (lt : Keyed → Keyed → Bool) (a b out : Array Keyed) (na nb : Nat) : Prop where
  mh : MH lt (a.toList ++ b.toList) out.toList.reverse (a.toList.take na) (b.toList.take nb)
  ha : 0 < na
  hb : 1 < nb
  la : na ≤ a.size
  lb : nb ≤ b.size
  sz : out.size + (na + nb) = a.size + b.size
theorem wpS_mergeHiG {a b : Array Keyed} {Q : Array Keyed → SortSt → Prop} {st : SortSt} (sw : Swo lt) (an : Ans prog w A s κ lt a0) (hk : kindOf st = κ)
    (ma : ∀ i, i < a.size → itA a i ∈ a0) (mb : ∀ i, i < b.size → itA b i ∈ a0) (sa : a.toList.Pairwise (Nl lt)) (sb : b.toList.Pairwise (Nl lt)) (pa : 0 < a.size) (pb : 0 < b.size)
    (hf : Nl lt (itA b 0) (itA a 0)) (hl : ∀ j, j < b.size → Nl lt (itA b j) (itA a (a.size - 1)))
    (h : ∀ r g, Mrg lt (a.toList ++ b.toList) r → Q r (setGal st g)) : wpS (model prog w) A E s (mergeHiG a b) Q st := by
  have pushA : ∀ (out : Array Keyed) na nb, MH lt (a.toList ++ b.toList) out.toList.reverse (a.toList.take na) (b.toList.take nb) → 0 < na → na ≤ a.size → (∀ i, i < nb → i < b.size → Nl lt (itA b i) (itA a (na - 1))) →
      MH lt (a.toList ++ b.toList) (out.push (itA a (na - 1))).toList.reverse (a.toList.take (na - 1)) (b.toList.take nb) := by
    intro out na nb m h0 h1 hx
    rw [Array.toList_push, List.reverse_append]
    obtain ⟨n, rfl⟩ : ∃ n, na = n + 1 := ⟨na - 1, by omega⟩
    rw [take_itA (by omega)] at m
    refine MH.takeA (l := [itA a n]) m fun x hx' y hy => ?_
    rcases List.mem_singleton.mp hx' with rfl
    obtain ⟨k, hk1, hk2, rfl⟩ := mem_takeA hy
    exact hx k hk1 hk2
  have pushB : ∀ (out : Array Keyed) na nb, MH lt (a.toList ++ b.toList) out.toList.reverse (a.toList.take na) (b.toList.take nb) → 0 < nb → nb ≤ b.size → (∀ i, i < na → i < a.size → Nl lt (itA a i) (itA b (nb - 1))) →
      MH lt (a.toList ++ b.toList) (out.push (itA b (nb - 1))).toList.reverse (a.toList.take na) (b.toList.take (nb - 1)) := by
    intro out na nb m h0 h1 hx
    rw [Array.toList_push, List.reverse_append]
    obtain ⟨n, rfl⟩ : ∃ n, nb = n + 1 := ⟨nb - 1, by omega⟩
    rw [take_itA (by omega)] at m
    refine MH.takeB (l := [itA b n]) m fun x hx' y hy => ?_
    rcases List.mem_singleton.mp hx' with rfl
    obtain ⟨k, hk1, hk2, rfl⟩ := mem_takeA hy
    exact hx k hk1 hk2
  have partA : ∀ (out : Array Keyed) na nb k, MH lt (a.toList ++ b.toList) out.toList.reverse (a.toList.take na) (b.toList.take nb) → k ≤ na → (∀ i j, k ≤ i → i < na → i < a.size → j < nb → j < b.size → Nl lt (itA b j) (itA a i)) →
      MH lt (a.toList ++ b.toList) (out ++ (a.extract k na).reverse).toList.reverse (a.toList.take k) (b.toList.take nb) := by
    intro out na nb k m h0 hx
    rw [Array.toList_append, Array.toList_reverse, List.reverse_append, List.reverse_reverse]
    rw [take_part h0] at m
    refine MH.takeA m fun x hx' y hy => ?_
    obtain ⟨i, i1, i2, i3, rfl⟩ := mem_part hx'
    obtain ⟨j, j1, j2, rfl⟩ := mem_takeA hy
    exact hx i j i1 i2 i3 j1 j2
  have partB : ∀ (out : Array Keyed) na nb k, MH lt (a.toList ++ b.toList) out.toList.reverse (a.toList.take na) (b.toList.take nb) → k ≤ nb → (∀ i j, k ≤ i → i < nb → i < b.size → j < na → j < a.size → Nl lt (itA a j) (itA b i)) →
      MH lt (a.toList ++ b.toList) (out ++ (b.extract k nb).reverse).toList.reverse (a.toList.take na) (b.toList.take k) := by
    intro out na nb k m h0 hx
    rw [Array.toList_append, Array.toList_reverse, List.reverse_append, List.reverse_reverse]
    rw [take_part h0] at m
    refine MH.takeB m fun x hx' y hy => ?_
    obtain ⟨i, i1, i2, i3, rfl⟩ := mem_part hx'
    obtain ⟨j, j1, j2, rfl⟩ := mem_takeA hy
    exact hx i j i1 i2 i3 j1 j2
  have start : MH lt (a.toList ++ b.toList) (#[itA a (a.size - 1)] : Array Keyed).toList.reverse (a.toList.take (a.size - 1)) (b.toList.take b.size) := by
    have m0 : MH lt (a.toList ++ b.toList) (#[] : Array Keyed).toList.reverse (a.toList.take a.size) (b.toList.take b.size) := by
      rw [List.take_of_length_le (by simp), List.take_of_length_le (by simp)]
      exact ⟨by simp, .nil, sa, sb, fun o ho => nomatch ho⟩
    exact pushA #[] a.size b.size m0 pa (Nat.le_refl _) fun i _ hi => hl i hi
  have firstB : ∀ (out : Array Keyed) na nb, MH lt (a.toList ++ b.toList) out.toList.reverse (a.toList.take na) (b.toList.take nb) → nb = 1 → Mrg lt (a.toList ++ b.toList) (b.extract 0 nb ++ a.extract 0 na ++ out.reverse) := by
    intro out na nb m e
    refine m.turn.fin (fun x hx y hy => ?_) (by rw [Array.toList_append, Array.toList_append, extr_take, extr_take, Array.toList_reverse])
    obtain ⟨k, hk1, hk2, rfl⟩ := mem_takeA hx
    obtain ⟨j, hj1, hj2, rfl⟩ := mem_takeA hy
    have : k = 0 := by omega
    subst this
    exact sw.trans hf (pw_at sw sa (Nat.zero_le _) hj2)
  have doneA : ∀ (out : Array Keyed) na nb, MH lt (a.toList ++ b.toList) out.toList.reverse (a.toList.take na) (b.toList.take nb) → na = 0 → Mrg lt (a.toList ++ b.toList) (a.extract 0 na ++ b.extract 0 nb ++ out.reverse) := by
    intro out na nb m e
    refine m.fin (fun x hx y hy => ?_) (by rw [Array.toList_append, Array.toList_append, extr_take, extr_take, Array.toList_reverse])
    obtain ⟨k, hk1, hk2, rfl⟩ := mem_takeA hx
    omega
  have doneB : ∀ (out : Array Keyed) na nb, MH lt (a.toList ++ b.toList) out.toList.reverse (a.toList.take na) (b.toList.take nb) → nb = 0 → Mrg lt (a.toList ++ b.toList) (a.extract 0 na ++ b.extract 0 nb ++ out.reverse) := by
    intro out na nb m e
    refine m.fin (fun x hx y hy => ?_) (by rw [Array.toList_append, Array.toList_append, extr_take, extr_take, Array.toList_reverse])
    obtain ⟨k, hk1, hk2, rfl⟩ := mem_takeA hy
    omega
  refine wpS_bind (wpS_lift (wpAny_rule ⟨rfl, ?_⟩))
  dsimp only
  refine wpS_bind (wpS_elemG (i := a.size - 1) (by omega) ?_)
  by_cases h1 : a.size - 1 = 0
  · rw [if_pos (by simpa using h1)]
    exact wpS_pure (h _ _ (doneA _ _ _ start h1))
  rw [if_neg (by simpa using h1)]
  by_cases h2 : b.size = 1
  · rw [if_pos (by simpa using h2)]
    exact wpS_pure (h _ _ (firstB _ _ _ start h2))
  rw [if_neg (by simpa using h2)]
  refine wpS_bind (wpS_get ?_)
  refine wpS_bind (wpS_mono (wpS_forRange (I := fun x c st' => ∃ na nb out g g', c = (none, na, nb, out, g) ∧ st' = setGal st g' ∧ MHo lt a b out na nb ∧ x + 1 ≤ out.size)
    (Q := fun c st' => ∃ r g', c.1 = some r ∧ st' = setGal st g' ∧ Mrg lt (a.toList ++ b.toList) r) ?step ?fin ?init) ?post)
  case init => exact ⟨_, _, _, _, _, rfl, rfl, ⟨start, by omega, by omega, by omega, by omega, by show 1 + _ = _; omega⟩, by simp⟩
  case fin =>
    rintro c st' ⟨na, nb, out, g, g', rfl, rfl, m, hx⟩
    have := m.ha
    have := m.hb
    have := m.sz
    omega
  case post =>
    rintro ⟨c, rest⟩ st' ⟨r, g', e, rfl, m⟩
    dsimp only at e
    subst e
    exact wpS_pure (h _ _ m)
  case step =>
    rintro x c st' _ hxs ⟨na, nb, out, g, g', rfl, rfl, m, hx⟩
    dsimp only
    refine wpS_bind (wpS_mono (wpS_forRange (I := fun y c st' => ∃ na nb out ac bc, c = (none, na, nb, out, ac, bc) ∧ st' = setGal st g' ∧ MHo lt a b out na nb ∧ x + y + 1 ≤ out.size)
      (Q := fun c st' => st' = setGal st g' ∧ ((∃ r, c.1 = some r ∧ Mrg lt (a.toList ++ b.toList) r) ∨ ∃ na nb out ac bc, c = (none, na, nb, out, ac, bc) ∧ MHo lt a b out na nb ∧ x + 2 ≤ out.size)) ?istep ?ifin ?iinit) ?ipost)
    case iinit => exact ⟨na, nb, out, 0, 0, rfl, rfl, m, by omega⟩
    case ifin =>
      rintro c st' ⟨na, nb, out, ac, bc, rfl, rfl, m, hx⟩
      have := m.ha
      have := m.hb
      have := m.sz
      omega
    case istep =>
      rintro y c st' _ hy ⟨na, nb, out, ac, bc, rfl, rfl, m, hx⟩
      dsimp only
      have ha := m.ha
      have hb := m.hb
      have la := m.la
      have lb := m.lb
      have hsz := m.sz
      refine wpS_bind (wpS_elemG (by omega) (wpS_bind (wpS_elemG (by omega) ?_)))
      refine wpS_bind (wpS_ltG an hk (mb _ (by omega)) (ma _ (by omega)) ?_)
      dsimp only
      cases e : lt (itA b (nb - 1)) (itA a (na - 1))
      · simp only [Bool.false_eq_true, if_false]
        refine wpS_bind (wpS_elemG (by omega) ?_)
        have m2 := pushB out na nb m.mh (by omega) lb (fun i i1 i2 => sw.trans (pw_at sw sa (by omega) (by omega)) e)
        by_cases q1 : nb - 1 = 1
        · rw [if_pos (by simpa using q1)]
          exact wpS_pure ⟨rfl, .inl ⟨_, rfl, firstB _ _ _ m2 q1⟩⟩
        · rw [if_neg (by simpa using q1)]
          have mm : MHo lt a b (out.push (itA b (nb - 1))) na (nb - 1) := ⟨m2, ha, by omega, la, by omega, by rw [Array.size_push]; omega⟩
          split
          · exact wpS_pure ⟨rfl, .inr ⟨_, _, _, _, _, rfl, mm, by rw [Array.size_push]; omega⟩⟩
          · exact wpS_pure ⟨_, _, _, _, _, rfl, rfl, mm, by rw [Array.size_push]; omega⟩
      · simp only [if_true]
        refine wpS_bind (wpS_elemG (by omega) ?_)
        have m2 := pushA out na nb m.mh ha la (fun i i1 i2 => sw.trans (pw_at sw sb (by omega) (by omega)) (sw.of_lt e))
        by_cases q1 : na - 1 = 0
        · rw [if_pos (by simpa using q1)]
          exact wpS_pure ⟨rfl, .inl ⟨_, rfl, doneA _ _ _ m2 q1⟩⟩
        · rw [if_neg (by simpa using q1)]
          have mm : MHo lt a b (out.push (itA a (na - 1))) (na - 1) nb := ⟨m2, by omega, hb, by omega, lb, by rw [Array.size_push]; omega⟩
          split
          · exact wpS_pure ⟨rfl, .inr ⟨_, _, _, _, _, rfl, mm, by rw [Array.size_push]; omega⟩⟩
          · exact wpS_pure ⟨_, _, _, _, _, rfl, rfl, mm, by rw [Array.size_push]; omega⟩
    case ipost =>
      rintro c st' ⟨rfl, hc⟩
      rcases hc with ⟨r, hc, hm⟩ | ⟨na, nb, out, ac, bc, rfl, m, hx2⟩
      · obtain ⟨c, rest⟩ := c
        dsimp only at hc
        subst hc
        exact wpS_pure ⟨r, g', rfl, rfl, hm⟩
      · dsimp only
        refine wpS_bind (wpS_lift (wpAny_rule ⟨rfl, ?_⟩))
        refine wpS_bind (wpS_mono (wpS_forRange (I := fun y c st' => ∃ na nb out g ac bc g', c = (none, na, nb, out, g, ac, bc) ∧ st' = setGal st g' ∧ MHo lt a b out na nb ∧ x + 2 ≤ out.size)
          (Q := fun c st' => ∃ g', st' = setGal st g' ∧ ((∃ r, c.1 = some r ∧ Mrg lt (a.toList ++ b.toList) r) ∨ ∃ na nb out g ac bc, c = (none, na, nb, out, g, ac, bc) ∧ MHo lt a b out na nb ∧ x + 2 ≤ out.size)) ?jstep ?jfin ?jinit) ?jpost)
        case jinit => exact ⟨na, nb, out, _, ac, bc, g', rfl, rfl, m, hx2⟩
        case jfin =>
          rintro c st' ⟨na, nb, out, g, ac, bc, g', rfl, rfl, m, hx⟩
          exact ⟨g', rfl, .inr ⟨na, nb, out, g, ac, bc, rfl, m, hx⟩⟩
        case jpost =>
          rintro c st' ⟨g', rfl, hc⟩
          rcases hc with ⟨r, hc, hm⟩ | ⟨na, nb, out, g, ac, bc, rfl, m, hx2⟩
          · obtain ⟨c, rest⟩ := c
            dsimp only at hc
            subst hc
            exact wpS_pure ⟨r, g', rfl, rfl, hm⟩
          · dsimp only
            exact wpS_bind (wpS_modify (wpS_pure ⟨na, nb, out, _, _, rfl, rfl, m, hx2⟩))
        case jstep =>
          rintro y c st' _ hy ⟨na, nb, out, g, ac, bc, g', rfl, rfl, m, hx⟩
          dsimp only
          have ha := m.ha
          have hb := m.hb
          have la := m.la
          have lb := m.lb
          have hsz := m.sz
          by_cases gg : g > 1
          case' pos => rw [if_pos gg]
          case' neg => rw [if_neg gg]
          all_goals
            refine wpS_bind (wpS_modify ?_)
            refine wpS_bind (wpS_elemG (by omega) ?_)
            refine wpS_bind (wpS_gallopG (left := false) an hk (mb _ (by omega)) (fun i hi => ma _ (by omega)) (by omega) (by omega) (byd_mono sw fun i j _ h1 h2 => pw_at sw sa h1 (by omega)) fun k k1 k2 k3 => ?_)
            dsimp only
            have m2 := partA out na nb k m.mh k1 (fun i j i1 i2 i3 j1 j2 => by
              have q := byd_ff (k3 i i1 i2)
              rw [Nat.zero_add] at q
              exact sw.trans (pw_at sw sb (by omega) (by omega)) (sw.of_lt q))
            have z2 : (out ++ (a.extract k na).reverse).size + (k + nb) = a.size + b.size := by
              rw [Array.size_append, Array.size_reverse, Array.size_extract]
              omega
            have n2 : ∀ i, i < k → i < a.size → Nl lt (itA a i) (itA b (nb - 1)) := fun i i1 i2 => by
              have q := byd_ft (k2 i i1)
              rw [Nat.zero_add] at q
              exact q
            have e0 : ¬ na - k > 0 → out ++ (a.extract k na).reverse = out := fun e => by
              have : k = na := by omega
              subst this
              simp
              omega
            by_cases k0 : na - k > 0
            case' neg =>
              rw [if_neg k0]
              have e1 : k = na := by omega
              rw [e0 k0, e1] at m2 z2
              rw [e1] at n2
              obtain ⟨out2, eo⟩ : ∃ o, o = out := ⟨_, rfl⟩
              obtain ⟨na2, ei⟩ : ∃ o, o = na := ⟨_, rfl⟩
              rw [← eo, ← ei] at m2 z2
              rw [← ei] at n2
              rw [← eo, ← ei]
              have hna2 : 0 < na2 ∧ na2 ≤ a.size := by omega
              have hx2' : x + 2 ≤ out2.size := by rw [eo]; omega
            case' pos =>
              rw [if_pos k0]
              by_cases q1 : k = 0
              · rw [if_pos (by simpa using q1)]
                exact wpS_pure ⟨_, rfl, .inl ⟨_, rfl, doneA _ _ _ m2 q1⟩⟩
              rw [if_neg (by simpa using q1)]
              obtain ⟨out2, eo⟩ : ∃ o, o = out ++ (a.extract k na).reverse := ⟨_, rfl⟩
              obtain ⟨na2, ei⟩ : ∃ o, o = k := ⟨_, rfl⟩
              rw [← eo, ← ei] at m2 z2
              rw [← ei] at n2
              rw [← eo, ← ei]
              have hna2 : 0 < na2 ∧ na2 ≤ a.size := by omega
              have hx2' : x + 2 ≤ out2.size := by omega
            all_goals
              obtain ⟨p1, p2⟩ := hna2
              refine wpS_bind (wpS_elemG (by omega) ?_)
              have m3 := pushB out2 na2 nb m2 (by omega) lb n2
              have z3 : (out2.push (itA b (nb - 1))).size + (na2 + (nb - 1)) = a.size + b.size := by rw [Array.size_push]; omega
              by_cases q3 : nb - 1 = 1
              · rw [if_pos (by simpa using q3)]
                exact wpS_pure ⟨_, rfl, .inl ⟨_, rfl, firstB _ _ _ m3 q3⟩⟩
              rw [if_neg (by simpa using q3)]
              refine wpS_bind (wpS_elemG (by omega) ?_)
              refine wpS_bind (wpS_gallopG (left := true) an hk (ma _ (by omega)) (fun i hi => mb _ (by omega)) (by omega) (by omega) (byd_mono sw fun i j _ h1 h2 => pw_at sw sb h1 (by omega)) fun l l1 l2 l3 => ?_)
              dsimp only
              have m4 := partB _ na2 (nb - 1) l m3 l1 (fun i j i1 i2 i3 j1 j2 => by
                have q := byd_tf (l3 i i1 i2)
                rw [Nat.zero_add] at q
                exact sw.trans (pw_at sw sa (by omega) (by omega)) q)
              have z4 : (out2.push (itA b (nb - 1)) ++ (b.extract l (nb - 1)).reverse).size + (na2 + l) = a.size + b.size := by
                rw [Array.size_append, Array.size_reverse, Array.size_extract]
                omega
              have n4 : ∀ i, i < l → i < b.size → Nl lt (itA b i) (itA a (na2 - 1)) := fun i i1 i2 => by
                have q := byd_tt (l2 i i1)
                rw [Nat.zero_add] at q
                exact sw.of_lt q
              have e4 : ¬ nb - 1 - l > 0 → out2.push (itA b (nb - 1)) ++ (b.extract l (nb - 1)).reverse = out2.push (itA b (nb - 1)) := fun e => by
                have : l = nb - 1 := by omega
                subst this
                simp
                omega
              by_cases l0 : nb - 1 - l > 0
              case' neg =>
                rw [if_neg l0]
                have e1 : l = nb - 1 := by omega
                rw [e4 l0, e1] at m4 z4
                rw [e1] at n4
                obtain ⟨out3, eo3⟩ : ∃ o, o = out2.push (itA b (nb - 1)) := ⟨_, rfl⟩
                obtain ⟨nb2, ei3⟩ : ∃ o, o = nb - 1 := ⟨_, rfl⟩
                rw [← eo3, ← ei3] at m4
                rw [← eo3, ← ei3] at z4
                rw [← ei3] at n4
                rw [← eo3, ← ei3]
                have hnb2 : 1 < nb2 ∧ nb2 ≤ b.size := by omega
                have hx3 : x + 2 ≤ out3.size := by rw [eo3, Array.size_push]; omega
              case' pos =>
                rw [if_pos l0]
                by_cases q1 : l = 1
                · rw [if_pos (by simpa using q1)]
                  exact wpS_pure ⟨_, rfl, .inl ⟨_, rfl, firstB _ _ _ m4 q1⟩⟩
                rw [if_neg (by simpa using q1)]
                by_cases q2 : l = 0
                · rw [if_pos (by simpa using q2)]
                  exact wpS_pure ⟨_, rfl, .inl ⟨_, rfl, doneB _ _ _ m4 q2⟩⟩
                rw [if_neg (by simpa using q2)]
                obtain ⟨out3, eo3⟩ : ∃ o, o = out2.push (itA b (nb - 1)) ++ (b.extract l (nb - 1)).reverse := ⟨_, rfl⟩
                obtain ⟨nb2, ei3⟩ : ∃ o, o = l := ⟨_, rfl⟩
                rw [← eo3, ← ei3] at m4
                rw [← eo3, ← ei3] at z4
                rw [← ei3] at n4
                rw [← eo3, ← ei3]
                have hnb2 : 1 < nb2 ∧ nb2 ≤ b.size := by omega
                have hx3 : x + 2 ≤ out3.size := by omega
              all_goals
                obtain ⟨p3, p4⟩ := hnb2
                refine wpS_bind (wpS_elemG (by omega) ?_)
                have m5 := pushA out3 na2 nb2 m4 p1 p2 n4
                have z5 : (out3.push (itA a (na2 - 1))).size + (na2 - 1 + nb2) = a.size + b.size := by rw [Array.size_push]; omega
                by_cases q5 : na2 - 1 = 0
                · rw [if_pos (by simpa using q5)]
                  exact wpS_pure ⟨_, rfl, .inl ⟨_, rfl, doneA _ _ _ m5 q5⟩⟩
                rw [if_neg (by simpa using q5)]
                have mm : MHo lt a b (out3.push (itA a (na2 - 1))) (na2 - 1) nb2 := ⟨m5, by omega, p3, by omega, p4, z5⟩
                have hx5 : x + 2 ≤ (out3.push (itA a (na2 - 1))).size := by rw [Array.size_push]; omega
                split
                · exact wpS_pure ⟨_, rfl, .inr ⟨_, _, _, _, _, _, rfl, mm, hx5⟩⟩
                · exact wpS_pure ⟨_, _, _, _, _, _, _, rfl, rfl, mm, hx5⟩
end
end L2
set_option Elab.async false
set_option linter.all false
set_option maxRecDepth 100000
set_option maxHeartbeats 4000000
namespace L2
open PySem PySem.W PyProof.Rows
section segs
variable {lt : Keyed → Keyed → Bool}
/-- a stretch that rises, one that falls -/
def SS (lt : Keyed → Keyed → Bool) (xs : Array Keyed) (lo hi : Nat) : Prop := ∀ i j, lo ≤ i → i ≤ j → j < hi → Nl lt (itA xs i) (itA xs j)
def NS (lt : Keyed → Keyed → Bool) (xs : Array Keyed) (lo hi : Nat) : Prop := ∀ i j, lo ≤ i → i ≤ j → j < hi → Nl lt (itA xs j) (itA xs i)
theorem itA_mirror {xs : Array Keyed} {i j : Nat} (hj : j ≤ xs.size) (k : Nat) : itA (mirror xs i j ((j - i) / 2)) k = if i ≤ k ∧ k < j then itA xs (i + j - 1 - k) else itA xs k := by
  have e := getElem?_mirror_all (i := i) hj k
  split at e
  · rw [if_pos ‹_›]; exact itA_eq e
  · rw [if_neg ‹_›]; exact itA_eq e
theorem itA_bubble {xs : Array Keyed} {src d : Nat} (hs : src < xs.size) (hd : d ≤ src) (k : Nat) :
    itA (bubble xs src d) k = if k = src - d then itA xs src else if src - d < k ∧ k ≤ src then itA xs (k - 1) else itA xs k := by
  have e := getElem?_bubble hs d hd k
  by_cases h1 : k = src - d
  · rw [if_pos h1] at e ⊢; exact itA_eq e
  · by_cases h2 : src - d < k ∧ k ≤ src
    · rw [if_neg h1, if_pos h2] at e ⊢; exact itA_eq e
    · rw [if_neg h1, if_neg h2] at e ⊢; exact itA_eq e
/-- turned about, a falling stretch rises -/
theorem NS.mirror {xs : Array Keyed} {lo hi : Nat} (h : NS lt xs lo hi) (hs : hi ≤ xs.size) : SS lt (mirror xs lo hi ((hi - lo) / 2)) lo hi := by
  intro i j h1 h2 h3
  rw [itA_mirror hs, itA_mirror hs, if_pos ⟨h1, by omega⟩, if_pos ⟨by omega, h3⟩]
  exact h _ _ (by omega) (by omega) (by omega)
/-- a stretch of things that stand even, turned about, changes nothing of that -/
theorem NS.even {xs : Array Keyed} {lo p hi : Nat} (h : NS lt xs lo hi) (hs : hi ≤ xs.size) (hp : lo ≤ p) (e : ∀ i j, p ≤ i → i < hi → p ≤ j → j < hi → Nl lt (itA xs i) (itA xs j)) {top : Nat} (ht : hi ≤ top) (h' : NS lt xs lo top) :
    NS lt (PyProof.Rows.mirror xs p hi ((hi - p) / 2)) lo top := by
  intro i j h1 h2 h3
  rw [itA_mirror hs, itA_mirror hs]
  by_cases c1 : p ≤ j ∧ j < hi
  · rw [if_pos c1]
    by_cases c2 : p ≤ i ∧ i < hi
    · rw [if_pos c2]
      exact e _ _ (by omega) (by omega) (by omega) (by omega)
    · rw [if_neg c2]
      exact h' _ _ h1 (by omega) (by omega)
  · rw [if_neg c1]
    by_cases c2 : p ≤ i ∧ i < hi
    · rw [if_pos c2]
      exact h' _ _ (by omega) (by omega) h3
    · rw [if_neg c2]
      exact h' _ _ h1 h2 h3
/-- another order of the same things, the first so many in their places -/
def Kp (xs ys : Array Keyed) (lo : Nat) : Prop := ys.Perm xs ∧ ∀ k, k < lo → itA ys k = itA xs k
theorem Kp.refl (xs : Array Keyed) (lo : Nat) : Kp xs xs lo := ⟨Array.Perm.refl _, fun _ _ => rfl⟩
theorem Kp.size {xs ys : Array Keyed} {lo : Nat} (h : Kp xs ys lo) : ys.size = xs.size := h.1.size_eq
theorem Kp.mirror {xs ys : Array Keyed} {lo i j : Nat} (h : Kp xs ys lo) (hj : j ≤ xs.size) (hi : lo ≤ i) : Kp xs (PyProof.Rows.mirror ys i j ((j - i) / 2)) lo := by
  refine ⟨(mirror_perm _ _ _ _).trans h.1, fun k hk => ?_⟩
  rw [itA_mirror (by rw [h.size]; exact hj), if_neg (by omega)]
  exact h.2 k hk
theorem Kp.bubble {xs ys : Array Keyed} {lo src d : Nat} (h : Kp xs ys lo) (hs : src < xs.size) (hd : lo + d ≤ src) : Kp xs (PyProof.Rows.bubble ys src d) lo := by
  refine ⟨(bubble_perm _ _ _).trans h.1, fun k hk => ?_⟩
  rw [itA_bubble (by rw [h.size]; exact hs) (by omega), if_neg (by omega), if_neg (by omega)]
  exact h.2 k hk
end segs
section
variable {prog : Program} {w : World} {A : Around} {E : Value → Shared → Prop} {s : Shared} {κ : SortKind} {lt : Keyed → Keyed → Bool} {a0 : Array Keyed}
theorem wpS_revG {i j : Nat} {Q : Unit → SortSt → Prop} {st : SortSt} (h : Q () (setArr st (mirror (arrOf st) i j ((j - i) / 2)))) : wpS (model prog w) A E s (reverseSlice' i j) Q st := by
  rw [reverseSlice'_eq]
  exact wpS_modify h
/-- upwards, as long as none is less -/
theorem wpS_upG {body : Nat → Option (Option Nat) × Nat → StateT SortSt Sem (ForInStep (Option (Option Nat) × Nat))} {f : Nat → Bool} {a nrem : Nat} {st : SortSt} (ha : a ≤ nrem)
    (hb : ∀ x n (R : ForInStep (Option (Option Nat) × Nat) → SortSt → Prop), a ≤ n → n < nrem → (f n = true → R (.done (none, n)) st) → (f n = false → R (.yield (none, n + 1)) st) → wpS (model prog w) A E s (body x (none, n)) R st) :
    wpS (model prog w) A E s (forIn [a:nrem] (none, a) body) (fun c st' => st' = st ∧ ∃ n, c = (none, n) ∧ a ≤ n ∧ n ≤ nrem ∧ (∀ i, a ≤ i → i < n → f i = false) ∧ (n = nrem ∨ f n = true)) st := by
  refine wpS_forRange (I := fun x c st' => st' = st ∧ c = (none, x) ∧ (∀ i, a ≤ i → i < x → f i = false)) ?_ ?_ ⟨rfl, rfl, fun i h1 h2 => by omega⟩
  · rintro x c st' h1 h2 ⟨rfl, rfl, q⟩
    refine hb _ _ _ h1 h2 (fun e => ⟨rfl, x, rfl, h1, by omega, q, .inr e⟩) (fun e => ⟨rfl, rfl, fun i i1 i2 => ?_⟩)
    by_cases z : i = x
    · rw [z]; exact e
    · exact q i i1 (by omega)
  · rintro c st' ⟨rfl, rfl, q⟩
    rw [Nat.max_eq_right ha] at q ⊢
    exact ⟨rfl, nrem, rfl, ha, Nat.le_refl _, q, .inl rfl⟩
theorem ss_up {xs : Array Keyed} (sw : Swo lt) {lo a n : Nat} (h : SS lt xs lo (lo + a)) (ha : 1 ≤ a) (q : ∀ i, a ≤ i → i < n → lt (itA xs (lo + i)) (itA xs (lo + i - 1)) = false) : SS lt xs lo (lo + n) := by
  have step : ∀ d, a + d ≤ n → SS lt xs lo (lo + (a + d)) := by
    intro d
    induction d with
    | zero => intro _; exact h
    | succ d ih =>
      intro hd i j h1 h2 h3
      by_cases hj : j < lo + (a + d)
      · exact ih (by omega) i j h1 h2 hj
      · have ej : j = lo + (a + d) := by omega
        by_cases hi : i = j
        · rw [hi]; exact sw.rfl' _
        · have q1 := q (a + d) (by omega) (by omega)
          rw [← ej] at q1
          exact sw.trans (ih (by omega) i (j - 1) h1 (by omega) (by omega)) q1
  rcases Nat.lt_or_ge n a with hlt | hge
  · exact fun i j h1 h2 h3 => h i j h1 h2 (by omega)
  · have := step (n - a) (by omega)
    rw [show a + (n - a) = n by omega] at this
    exact this
theorem wpS_countRunG {lo nrem : Nat} {Q : Option Nat → SortSt → Prop} {st : SortSt} (sw : Swo lt) (an : Ans prog w A s κ lt a0) (hk : kindOf st = κ) (hp : (arrOf st).Perm a0) (hn : lo + nrem ≤ a0.size) (h1 : 1 ≤ nrem)
    (h : ∀ m ys, Kp (arrOf st) ys lo → 1 ≤ m → m ≤ nrem → SS lt ys lo (lo + m) → Q (some m) (setArr st ys)) : wpS (model prog w) A E s (countRun' lo nrem) Q st := by
  have hz := hp.size_eq
  refine wpS_bind (wpS_mono (wpS_upG (f := fun n => lt (itA (arrOf st) (lo + n)) (itA (arrOf st) (lo + n - 1))) h1 ?_) ?_)
  · intro x n R n1 n2 y1 y2
    dsimp only
    refine wpS_bind (wpS_ltAtG an hk hp (by omega) (by omega) ?_)
    dsimp only
    cases e : lt (itA (arrOf st) (lo + n)) (itA (arrOf st) (lo + n - 1))
    · exact wpS_pure (y2 e)
    · exact wpS_pure (y1 e)
  rintro c st' ⟨rfl, n, rfl, n1, n2, q, hor⟩
  dsimp only
  have s0 : SS lt (arrOf st') lo (lo + 1) := fun i j a1 a2 a3 => by
    have : i = j := by omega
    rw [this]
    exact sw.rfl' _
  have sn : SS lt (arrOf st') lo (lo + n) := ss_up sw s0 (Nat.le_refl _) q
  by_cases hnn : n = nrem
  · rw [if_pos (by simpa using hnn)]
    exact wpS_pure (h n _ (Kp.refl _ _) n1 n2 sn)
  rw [if_neg (by simpa using hnn)]
  have hlt : lt (itA (arrOf st') (lo + n)) (itA (arrOf st') (lo + n - 1)) = true := hor.resolve_left hnn
  by_cases hgt : n > 1
  case' pos =>
    rw [if_pos hgt]
    refine wpS_bind (wpS_ltAtG an hk hp (by omega) (by omega) ?_)
    dsimp only
    cases hrose : lt (itA (arrOf st') lo) (itA (arrOf st') (lo + n - 1))
    case' true =>
      simp only [if_true]
      exact wpS_pure (h n _ (Kp.refl _ _) n1 n2 sn)
    case' false =>
      simp only [Bool.false_eq_true, if_false]
      refine wpS_bind (wpS_revG ?_)
      have even : ∀ i j, lo ≤ i → i < lo + n → lo ≤ j → j < lo + n → Nl lt (itA (arrOf st') i) (itA (arrOf st') j) := by
        intro i j a1 a2 a3 a4
        have b1 := sn lo j (Nat.le_refl _) a3 a4
        have b2 := sn i (lo + n - 1) a1 (by omega) (by omega)
        exact sw.trans (sw.trans b2 hrose) b1
      have ns0 : NS lt (arrOf st') lo (lo + n) := fun i j a1 a2 a3 => even j i (by omega) a3 a1 (by omega)
      have ns1 : NS lt (arrOf st') lo (lo + (n + 1)) := by
        intro i j a1 a2 a3
        by_cases hj : j < lo + n
        · exact ns0 i j a1 a2 hj
        · have ej : j = lo + n := by omega
          by_cases hi : i = j
          · rw [hi]; exact sw.rfl' _
          · rw [ej]
            exact sw.trans (sw.of_lt hlt) (even _ _ (by omega) (by omega) a1 (by omega))
      have kp : Kp (arrOf st') (mirror (arrOf st') lo (lo + n) ((lo + n - lo) / 2)) lo := (Kp.refl _ _).mirror (by omega) (Nat.le_refl _)
      have ns : NS lt (mirror (arrOf st') lo (lo + n) ((lo + n - lo) / 2)) lo (lo + (n + 1)) := ns0.even (by omega) (Nat.le_refl _) even (by omega) ns1
      obtain ⟨ys, ey⟩ : ∃ ys, ys = mirror (arrOf st') lo (lo + n) ((lo + n - lo) / 2) := ⟨_, rfl⟩
      rw [← ey] at kp ns
      show wpS (model prog w) A E s _ Q (setArr st' (mirror (arrOf st') lo (lo + n) ((lo + n - lo) / 2)))
      rw [← ey]
  case' neg =>
    rw [if_neg hgt]
    have en : n = 1 := by omega
    have kp : Kp (arrOf st') (arrOf st') lo := Kp.refl _ _
    have ns : NS lt (arrOf st') lo (lo + (n + 1)) := by
      intro i j a1 a2 a3
      by_cases hi : i = j
      · rw [hi]; exact sw.rfl' _
      · have e1 : j = lo + n := by omega
        have e2 : i = lo + n - 1 := by omega
        rw [e1, e2]
        exact sw.of_lt hlt
    obtain ⟨ys, ey⟩ : ∃ ys, ys = arrOf st' := ⟨_, rfl⟩
    rw [← ey] at ns
    have kp : Kp (arrOf st') ys lo := by rw [ey]; exact Kp.refl _ _
    show wpS (model prog w) A E s _ Q (setArr st' (arrOf st'))
    rw [← ey]
  all_goals
    refine wpS_bind (wpS_lift (wpAny_rule ⟨rfl, ?_⟩))
    refine wpS_bind (wpS_mono (wpS_forRange (I := fun x c st'' => ∃ neq ys, c = (none, x, neq) ∧ st'' = setArr st' ys ∧ Kp (arrOf st') ys lo ∧ NS lt ys lo (lo + x) ∧ neq + 1 ≤ x ∧
        (∀ i j, lo + x - (neq + 1) ≤ i → i < lo + x → lo + x - (neq + 1) ≤ j → j < lo + x → Nl lt (itA ys i) (itA ys j)))
      (Q := fun c st'' => ∃ m neq ys, c = (none, m, neq) ∧ st'' = setArr st' ys ∧ Kp (arrOf st') ys lo ∧ n + 1 ≤ m ∧ m ≤ nrem ∧ NS lt ys lo (lo + m) ∧ neq + 1 ≤ m ∧
        (∀ i j, lo + m - (neq + 1) ≤ i → i < lo + m → lo + m - (neq + 1) ≤ j → j < lo + m → Nl lt (itA ys i) (itA ys j))) ?dstep ?dfin ?dinit) ?dpost)
    case dinit =>
      refine ⟨0, ys, rfl, rfl, kp, ns, by omega, fun i j a1 a2 a3 a4 => ?_⟩
      have : i = j := by omega
      rw [this]
      exact sw.rfl' _
    case dfin =>
      rintro c st'' ⟨neq, ys, rfl, rfl, kp, ns, a1, a2⟩
      have e : max (n + 1) nrem = nrem := by omega
      rw [e] at ns a1 a2 ⊢
      exact ⟨nrem, neq, ys, rfl, rfl, kp, by omega, Nat.le_refl _, ns, a1, a2⟩
    case dstep =>
      rintro x c st'' x1 x2 ⟨neq, ys, rfl, rfl, kp, ns, a1, a2⟩
      dsimp only
      have hzy := kp.size
      have hpy : (arrOf (setArr st' ys)).Perm a0 := kp.1.trans hp
      refine wpS_bind (wpS_ltAtG (st := setArr st' ys) an hk hpy (by omega) (by omega) ?_)
      dsimp only
      cases hless : lt (itA ys (lo + x)) (itA ys (lo + x - 1))
      · simp only [Bool.false_eq_true, if_false]
        refine wpS_bind (wpS_ltAtG (st := setArr st' ys) an hk hpy (by omega) (by omega) ?_)
        dsimp only
        cases hlarger : lt (itA ys (lo + x - 1)) (itA ys (lo + x))
        · simp only [Bool.false_eq_true, if_false]
          refine wpS_pure ⟨neq + 1, ys, rfl, rfl, kp, ?_, by omega, ?_⟩
          · intro i j b1 b2 b3
            by_cases hj : j < lo + x
            · exact ns i j b1 b2 hj
            · have ej : j = lo + x := by omega
              by_cases hi : i = j
              · rw [hi]; exact sw.rfl' _
              · rw [ej]
                exact sw.trans hlarger (ns _ _ b1 (by omega) (by omega))
          · have pin : ∀ i, lo + (x + 1) - (neq + 1 + 1) ≤ i → i < lo + (x + 1) → Nl lt (itA ys i) (itA ys (lo + x - 1)) ∧ Nl lt (itA ys (lo + x - 1)) (itA ys i) := by
              intro i b1 b2
              by_cases hi : i = lo + x
              · rw [hi]
                exact ⟨hlarger, hless⟩
              · exact ⟨a2 _ _ (by omega) (by omega) (by omega) (by omega), a2 _ _ (by omega) (by omega) (by omega) (by omega)⟩
            intro i j b1 b2 b3 b4
            exact sw.trans (pin i b1 b2).1 (pin j b3 b4).2
        · simp only [if_true]
          exact wpS_pure ⟨x, neq, ys, rfl, rfl, kp, x1, by omega, ns, a1, a2⟩
      · simp only [if_true]
        have ns' : NS lt ys lo (lo + (x + 1)) := by
          intro i j b1 b2 b3
          by_cases hj : j < lo + x
          · exact ns i j b1 b2 hj
          · have ej : j = lo + x := by omega
            by_cases hi : i = j
            · rw [hi]; exact sw.rfl' _
            · rw [ej]
              exact sw.trans (sw.of_lt hless) (ns _ _ b1 (by omega) (by omega))
        have one : ∀ (zs : Array Keyed) i j, lo + (x + 1) - (0 + 1) ≤ i → i < lo + (x + 1) → lo + (x + 1) - (0 + 1) ≤ j → j < lo + (x + 1) → Nl lt (itA zs i) (itA zs j) := by
          intro zs i j b1 b2 b3 b4
          have : i = j := by omega
          rw [this]
          exact sw.rfl' _
        by_cases hq : neq > 0
        · rw [if_pos hq]
          refine wpS_bind (wpS_revG (wpS_pure ⟨0, _, rfl, rfl, kp.mirror (by omega) (by omega), ?_, by omega, one _⟩))
          exact ns.even (by show _ ≤ ys.size; omega) (by omega) a2 (by omega) ns'
        · rw [if_neg hq]
          exact wpS_pure ⟨0, ys, rfl, rfl, kp, ns', by omega, one _⟩
    case dpost =>
      rintro c st'' ⟨m, neq, zs, rfl, rfl, kz, m1, m2, nz, a1, a2⟩
      dsimp only
      have hzz := kz.size
      by_cases hq : neq > 0
      case' pos =>
        rw [if_pos hq]
        refine wpS_bind (wpS_revG ?_)
        have kz' : Kp (arrOf st') (mirror zs (lo + m - (neq + 1)) (lo + m) ((lo + m - (lo + m - (neq + 1))) / 2)) lo := kz.mirror (by omega) (by omega)
        have nz' : NS lt (mirror zs (lo + m - (neq + 1)) (lo + m) ((lo + m - (lo + m - (neq + 1))) / 2)) lo (lo + m) := nz.even (by omega) (by omega) a2 (Nat.le_refl _) nz
        obtain ⟨us, eu⟩ : ∃ us, us = mirror zs (lo + m - (neq + 1)) (lo + m) ((lo + m - (lo + m - (neq + 1))) / 2) := ⟨_, rfl⟩
        rw [← eu] at kz' nz'
        show wpS (model prog w) A E s _ Q (setArr st' (mirror zs (lo + m - (neq + 1)) (lo + m) ((lo + m - (lo + m - (neq + 1))) / 2)))
        rw [← eu]
      case' neg =>
        rw [if_neg hq]
        obtain ⟨us, eu⟩ : ∃ us, us = zs := ⟨_, rfl⟩
        have kz' : Kp (arrOf st') us lo := by rw [eu]; exact kz
        have nz' : NS lt us lo (lo + m) := by rw [eu]; exact nz
        rw [← eu]
      all_goals
        have hzu := kz'.size
        refine wpS_bind (wpS_revG ?_)
        show wpS (model prog w) A E s _ Q (setArr st' (mirror us lo (lo + m) ((lo + m - lo) / 2)))
        have kv : Kp (arrOf st') (mirror us lo (lo + m) ((lo + m - lo) / 2)) lo := kz'.mirror (by omega) (Nat.le_refl _)
        have sv : SS lt (mirror us lo (lo + m) ((lo + m - lo) / 2)) lo (lo + m) := nz'.mirror (by omega)
        obtain ⟨vs, ev⟩ : ∃ vs, vs = mirror us lo (lo + m) ((lo + m - lo) / 2) := ⟨_, rfl⟩
        rw [← ev] at kv sv
        rw [← ev]
        have hzv := kv.size
        refine wpS_bind (wpS_mono (wpS_upG (f := fun n => lt (itA vs (lo + n)) (itA vs (lo + n - 1))) m2 ?_) ?_)
        · intro x n R n1 n2 y1 y2
          dsimp only
          refine wpS_bind (wpS_ltAtG (st := setArr st' vs) an hk (kv.1.trans hp) (by omega) (by omega) ?_)
          dsimp only
          cases e : lt (itA vs (lo + n)) (itA vs (lo + n - 1))
          · exact wpS_pure (y2 e)
          · exact wpS_pure (y1 e)
        rintro c st3 ⟨rfl, n', rfl, b1, b2, b3, _⟩
        exact wpS_pure (h n' vs kv (by omega) b2 (ss_up sw sv (by omega) b3))
/-- the items behind the run are put in, one by one -/
theorem wpS_binarySortG {lo n ok : Nat} {Q : Bool → SortSt → Prop} {st : SortSt} (sw : Swo lt) (an : Ans prog w A s κ lt a0) (hk : kindOf st = κ) (hp : (arrOf st).Perm a0) (hn : lo + n ≤ a0.size) (h1 : 1 ≤ ok) (hok : ok ≤ n)
    (hs : SS lt (arrOf st) lo (lo + ok)) (h : ∀ ys, Kp (arrOf st) ys lo → SS lt ys lo (lo + n) → Q true (setArr st ys)) : wpS (model prog w) A E s (binarySort' lo n ok) Q st := by
  have hz := hp.size_eq
  refine wpS_bind (wpS_mono (wpS_forRange (I := fun k c st' => c = (none, ()) ∧ ∃ ys, st' = setArr st ys ∧ Kp (arrOf st) ys lo ∧ SS lt ys lo (lo + k))
    (Q := fun c st' => c = (none, ()) ∧ ∃ ys, st' = setArr st ys ∧ Kp (arrOf st) ys lo ∧ SS lt ys lo (lo + n)) ?step ?fin ?init) ?post)
  case init =>
    rw [Nat.max_eq_left h1]
    exact ⟨rfl, arrOf st, rfl, Kp.refl _ _, hs⟩
  case fin =>
    rintro c st' ⟨rfl, ys, rfl, kp, ss⟩
    rw [show max (max ok 1) n = n by omega] at ss
    exact ⟨rfl, ys, rfl, kp, ss⟩
  case post =>
    rintro c st' ⟨rfl, ys, rfl, kp, ss⟩
    exact wpS_pure (h ys kp ss)
  case step =>
    rintro k c st' k1 k2 ⟨rfl, ys, rfl, kp, ss⟩
    dsimp only
    have hzy := kp.size
    have hpy : (arrOf (setArr st ys)).Perm a0 := kp.1.trans hp
    refine wpS_bind (wpS_mono (wpS_narrowG (f := fun m => !(lt (itA ys (lo + k)) (itA ys (lo + m)))) (n := k) ?_ ?_ (Nat.zero_le _) (Nat.le_refl _) ?_ ?_ ?_) ?_)
    · intro x l R hR
      dsimp only
      rw [if_pos (Nat.le_refl _)]
      exact wpS_pure hR
    · intro x l r R hlr hrk y1 y2
      dsimp only
      rw [if_neg (by omega), show (l + r) / 2 = l + (r - l) / 2 by omega]
      refine wpS_bind (wpS_ltAtG (st := setArr st ys) an hk hpy (by omega) (by omega) ?_)
      dsimp only
      cases e : lt (itA ys (lo + k)) (itA ys (lo + (l + (r - l) / 2)))
      · exact wpS_pure (y1 (by rw [e]; rfl))
      · exact wpS_pure (y2 (by rw [e]; rfl))
    · intro i j hij hj e
      simp only [Bool.not_eq_true'] at e ⊢
      exact sw.trans (ss _ _ (by omega) (by omega) (by omega)) e
    · intro i hi
      omega
    · intro i hi1 hi2
      omega
    · rintro c st2 ⟨rfl, r, rfl, r1, r2, r3⟩
      refine wpS_bind ?_
      rw [show (sortPriv% PySem.Builtin.moveDown) = moveDown' from rfl, moveDown'_eq]
      refine wpS_modify (wpS_pure ⟨rfl, bubble ys (lo + k) (lo + k - (lo + r)), rfl, kp.bubble (by omega) (by omega), ?_⟩)
      intro i j a1 a2 a3
      rw [itA_bubble (by omega) (by omega), itA_bubble (by omega) (by omega)]
      have g1 : ∀ m, lo ≤ m → m < lo + r → Nl lt (itA ys m) (itA ys (lo + k)) := fun m b1 b2 => by
        have q := r2 (m - lo) (by omega)
        simp only [Bool.not_eq_true'] at q
        rw [show lo + (m - lo) = m by omega] at q
        exact q
      have g2 : ∀ m, lo + r ≤ m → m < lo + k → Nl lt (itA ys (lo + k)) (itA ys m) := fun m b1 b2 => by
        have q := r3 (m - lo) (by omega) (by omega)
        simp only [Bool.not_eq_false'] at q
        rw [show lo + (m - lo) = m by omega] at q
        exact sw.of_lt q
      repeat' split
      all_goals first
        | exact sw.rfl' _
        | exact g1 _ (by omega) (by omega)
        | exact g2 _ (by omega) (by omega)
        | exact ss _ _ (by omega) (by omega) (by omega)
        | (exfalso; omega)
end
end L2
set_option Elab.async false
set_option linter.all false
set_option maxRecDepth 100000
set_option maxHeartbeats 4000000
namespace L2
open PySem PySem.W PyProof.Rows
section
variable {lt : Keyed → Keyed → Bool}
theorem itA_list (xs : Array Keyed) (i : Nat) : itA xs i = xs.toList.getD i (Value.none, Value.none) := by
  unfold itA
  rw [Array.getD_eq_getD_getElem?, List.getD_eq_getElem?_getD, Array.getElem?_toList]
theorem itA_extract {xs : Array Keyed} {a b i : Nat} (h1 : a + i < b) (h2 : b ≤ xs.size) : itA (xs.extract a b) i = itA xs (a + i) := by
  apply itA_eq
  rw [Array.getElem?_extract, if_pos (by omega)]
theorem put_back (base : Nat) : ∀ (l : List Keyed) (off : Nat) (xs : Array Keyed), base + off + l.length ≤ xs.size →
    ((l.zipIdx off).foldl (fun a x => a.setIfInBounds (base + x.2) x.1) xs).toList = xs.toList.take (base + off) ++ l ++ xs.toList.drop (base + off + l.length)
  | [], off, xs, h => by simp
  | y :: l, off, xs, h => by
    rw [List.zipIdx_cons, List.foldl_cons]
    have hl : base + off < xs.toList.length := by simp at h ⊢; omega
    rw [put_back base l (off + 1) (xs.setIfInBounds (base + off) y) (by rw [Array.size_setIfInBounds]; simp at h ⊢; omega)]
    rw [Array.toList_setIfInBounds, ← Nat.add_assoc, List.take_succ, List.take_set_of_le (Nat.le_refl _), List.getElem?_set_self hl, List.drop_set_of_lt (by omega)]
    simp only [Option.toList, List.length_cons]
    rw [show base + off + 1 + l.length = base + off + (l.length + 1) by omega]
    simp
theorem getD_app1 {a b : List Keyed} {k : Nat} {d : Keyed} (h : k < a.length) : (a ++ b).getD k d = a.getD k d := by
  rw [List.getD_eq_getElem?_getD, List.getD_eq_getElem?_getD, List.getElem?_append_left h]
theorem getD_app2 {a b : List Keyed} {k : Nat} {d : Keyed} (h : a.length ≤ k) : (a ++ b).getD k d = b.getD (k - a.length) d := by
  rw [List.getD_eq_getElem?_getD, List.getD_eq_getElem?_getD, List.getElem?_append_right h]
theorem SS.congr {xs ys : Array Keyed} {lo hi : Nat} (h : SS lt xs lo hi) (e : ∀ k, lo ≤ k → k < hi → itA ys k = itA xs k) : SS lt ys lo hi := by
  intro i j h1 h2 h3
  rw [e i h1 (by omega), e j (by omega) h3]
  exact h i j h1 h2 h3
/-- runs that stand one behind the other -/
def Cov (lt : Keyed → Keyed → Bool) (xs : Array Keyed) : Nat → List (Nat × Nat) → Nat → Prop
  | a, [], b => a = b
  | a, (s, n) :: r, b => s = a ∧ 1 ≤ n ∧ SS lt xs a (a + n) ∧ Cov lt xs (a + n) r b
theorem Cov.app {xs : Array Keyed} : ∀ {l1 l2 : List (Nat × Nat)} {a b : Nat}, Cov lt xs a (l1 ++ l2) b ↔ ∃ m, Cov lt xs a l1 m ∧ Cov lt xs m l2 b
  | [], l2, a, b => by simp [Cov]
  | (s, n) :: r, l2, a, b => by
    simp only [List.cons_append, Cov, Cov.app (l1 := r) (l2 := l2)]
    constructor
    · rintro ⟨h1, h2, h3, m, h4, h5⟩
      exact ⟨m, ⟨h1, h2, h3, h4⟩, h5⟩
    · rintro ⟨m, ⟨h1, h2, h3, h4⟩, h5⟩
      exact ⟨h1, h2, h3, m, h4, h5⟩
theorem Cov.le {xs : Array Keyed} : ∀ {l : List (Nat × Nat)} {a b : Nat}, Cov lt xs a l b → a + l.length ≤ b
  | [], a, b, h => by simp [Cov] at h; simp [h]
  | (s, n) :: r, a, b, h => by
    have := Cov.le h.2.2.2
    have := h.2.1
    simp only [List.length_cons]
    omega
theorem Cov.congr {xs ys : Array Keyed} : ∀ {l : List (Nat × Nat)} {a b : Nat}, Cov lt xs a l b → (∀ k, a ≤ k → k < b → itA ys k = itA xs k) → Cov lt ys a l b
  | [], a, b, h, e => h
  | (s, n) :: r, a, b, h, e => by
    have := h.2.2.2.le
    exact ⟨h.1, h.2.1, h.2.2.1.congr fun k h1 h2 => e k h1 (by omega), h.2.2.2.congr fun k h1 h2 => e k (by omega) h2⟩
/-- where a run stands and how long it is -/
def whr (p : Nat × Nat × Nat) : Nat × Nat := (p.1, p.2.1)
end
section
variable {prog : Program} {w : World} {A : Around} {E : Value → Shared → Prop} {s : Shared} {κ : SortKind} {lt : Keyed → Keyed → Bool} {a0 : Array Keyed}
theorem wpS_set {σ : Type} {M : Model} {st st' : σ} {Q : PUnit → σ → Prop} (h : Q ⟨⟩ st') : wpS M A E s (set st' : StateT σ Sem PUnit) Q st := by
  unfold wpS
  rw [StateT.run_set]
  exact wpAny_pure ⟨rfl, h⟩
theorem wpS_mergeAtG {st : SortSt} {Q : Bool → SortSt → Prop} {l1 l2 : List (Nat × Nat × Nat)} {sa na p1 sb nb p2 : Nat} (sw : Swo lt) (an : Ans prog w A s κ lt a0) (hk : kindOf st = κ) (hp : (arrOf st).Perm a0) (hfa : failedOf st = none)
    (hl : (pendingOf st).toList = l1 ++ (sa, na, p1) :: (sb, nb, p2) :: l2) (eb : sb = sa + na) (ha : 1 ≤ na) (hb : 1 ≤ nb) (hz : sb + nb ≤ a0.size) (ssa : SS lt (arrOf st) sa (sa + na)) (ssb : SS lt (arrOf st) sb (sb + nb))
    (h : ∀ ys pe g, ys.Perm a0 → (∀ k, (k < sa ∨ sb + nb ≤ k) → itA ys k = itA (arrOf st) k) → SS lt ys sa (sa + (na + nb)) → pe.toList = l1 ++ (sa, na + nb, p1) :: l2 → Q true (SortSt.mk' (kindOf st) ys pe g none)) :
    wpS (model prog w) A E s (mergeAt' l1.length) Q st := by
  have hzx := hp.size_eq
  have mem : ∀ i, i < a0.size → itA (arrOf st) i ∈ a0 := fun i hi => (Array.Perm.mem_iff hp).mp (itA_mem (by omega))
  have g1 : (pendingOf st)[l1.length]? = some (sa, na, p1) := by
    rw [← Array.getElem?_toList, hl]
    simp
  have g2 : (pendingOf st)[l1.length + 1]? = some (sb, nb, p2) := by
    rw [← Array.getElem?_toList, hl]
    simp
  have pe : (((pendingOf st).setIfInBounds l1.length (sa, na + nb, p1)).eraseIdxIfInBounds (l1.length + 1)).toList = l1 ++ (sa, na + nb, p1) :: l2 := by
    rw [Array.toList_eraseIdxIfInBounds, Array.toList_setIfInBounds, hl]
    simp [List.eraseIdx_append]
    intro z
    omega
  refine wpS_bind (wpS_get ?_)
  have e2 : ((pendingOf st)[l1.length]?, (pendingOf st)[l1.length + 1]?) = (some (sa, na, p1), some (sb, nb, p2)) := by rw [g1, g2]
  dsimp only
  rw [show ((sortPriv% PySem.Builtin.SortState.pending) st)[l1.length]? = some (sa, na, p1) from g1, show ((sortPriv% PySem.Builtin.SortState.pending) st)[l1.length + 1]? = some (sb, nb, p2) from g2]
  dsimp only
  refine wpS_bind (wpS_set ?_)
  refine wpS_bind (wpS_elemG (by show sb < (arrOf st).size; omega) ?_)
  refine wpS_bind (wpS_gallopG (left := false) an hk (mem _ (by omega)) (fun i hi => mem _ (by omega)) (by show _ ≤ (arrOf st).size; omega) (by omega) (byd_mono sw fun i j b1 b2 b3 => ssa i j b1 b2 b3) fun k k1 k2 k3 => ?_)
  dsimp only
  have A1 : ∀ i, sa ≤ i → i < sa + k → Nl lt (itA (arrOf st) i) (itA (arrOf st) sb) := fun i b1 b2 => by
    have q := byd_ft (k2 (i - sa) (by omega))
    rw [show sa + (i - sa) = i by omega] at q
    exact q
  by_cases q1 : na - k = 0
  · rw [if_pos (by simpa using q1)]
    refine wpS_pure ?_
    have e := hfa
    have fin := h (arrOf st) _ (gallopOf st) hp (fun _ _ => rfl) (fun i j b1 b2 b3 => ?_) pe
    · rw [← hfa] at fin
      exact fin
    · by_cases c1 : j < sa + na
      · exact ssa i j b1 b2 c1
      · by_cases c2 : i < sa + na
        · exact sw.trans (A1 i b1 (by omega)) (ssb sb j (Nat.le_refl _) (by omega) (by omega))
        · exact ssb i j (by omega) b2 (by omega)
  rw [if_neg (by simpa using q1)]
  refine wpS_bind (wpS_elemG (by show _ < (arrOf st).size; omega) ?_)
  have el : sa + k + (na - k) - 1 = sa + na - 1 := by omega
  rw [el]
  refine wpS_bind (wpS_gallopG (left := true) an hk (mem _ (by omega)) (fun i hi => mem _ (by omega)) (by show _ ≤ (arrOf st).size; omega) (by omega) (byd_mono sw fun i j b1 b2 b3 => ssb i j b1 b2 b3) fun m m1 m2 m3 => ?_)
  dsimp only
  have A2 : ∀ i, sa + k ≤ i → i < sa + na → lt (itA (arrOf st) sb) (itA (arrOf st) i) = true := fun i b1 b2 => by
    have q := byd_ff (k3 (i - sa) (by omega) (by omega))
    rw [show sa + (i - sa) = i by omega] at q
    exact q
  have B1 : ∀ i, sb ≤ i → i < sb + m → lt (itA (arrOf st) i) (itA (arrOf st) (sa + na - 1)) = true := fun i b1 b2 => by
    have q := byd_tt (m2 (i - sb) (by omega))
    rw [show sb + (i - sb) = i by omega] at q
    exact q
  have B2 : ∀ i, sb + m ≤ i → i < sb + nb → Nl lt (itA (arrOf st) (sa + na - 1)) (itA (arrOf st) i) := fun i b1 b2 => by
    have q := byd_tf (m3 (i - sb) (by omega) (by omega))
    rw [show sb + (i - sb) = i by omega] at q
    exact q
  by_cases q2 : m = 0
  · rw [if_pos (by simpa using q2)]
    refine wpS_pure ?_
    have fin := h (arrOf st) _ (gallopOf st) hp (fun _ _ => rfl) (fun i j b1 b2 b3 => ?_) pe
    · rw [← hfa] at fin
      exact fin
    · by_cases c1 : j < sa + na
      · exact ssa i j b1 b2 c1
      · by_cases c2 : i < sa + na
        · exact sw.trans (ssa i (sa + na - 1) b1 (by omega) (by omega)) (B2 j (by omega) (by omega))
        · exact ssb i j (by omega) b2 (by omega)
  rw [if_neg (by simpa using q2)]
  -- the two parts that are merged
  have zx : ((arrOf st).extract (sa + k) sb).size = na - k := by rw [Array.size_extract]; omega
  have zy : ((arrOf st).extract sb (sb + m)).size = m := by rw [Array.size_extract]; omega
  have ix : ∀ i, i < na - k → itA ((arrOf st).extract (sa + k) sb) i = itA (arrOf st) (sa + k + i) := fun i hi => itA_extract (by omega) (by omega)
  have iy : ∀ i, i < m → itA ((arrOf st).extract sb (sb + m)) i = itA (arrOf st) (sb + i) := fun i hi => itA_extract (by omega) (by omega)
  have fin : ∀ (r : Array Keyed) (g : Nat), Mrg lt (((arrOf st).extract (sa + k) sb).toList ++ ((arrOf st).extract sb (sb + m)).toList) r →
      Q true (SortSt.mk' (kindOf st) (List.foldl (fun a x => a.setIfInBounds (sa + k + x.snd) x.fst) (arrOf st) r.toList.zipIdx) (((pendingOf st).setIfInBounds l1.length (sa, na + nb, p1)).eraseIdxIfInBounds (l1.length + 1)) g none) := by
    intro r g mr
    have rl : r.toList.length = na - k + m := by
      rw [mr.2.length_eq, List.length_append, Array.length_toList, Array.length_toList, zx, zy]
    have pb := put_back (sa + k) r.toList 0 (arrOf st) (by omega)
    rw [Nat.add_zero] at pb
    have l1' : ((arrOf st).toList.take (sa + k)).length = sa + k := by rw [List.length_take, Array.length_toList]; omega
    obtain ⟨zs, ez⟩ : ∃ zs, zs = List.foldl (fun a x => a.setIfInBounds (sa + k + x.snd) x.fst) (arrOf st) r.toList.zipIdx := ⟨_, rfl⟩
    rw [← ez] at pb ⊢
    have zlow : ∀ i, i < sa + k → itA zs i = itA (arrOf st) i := fun i hi => by
      rw [itA_list, itA_list, pb, List.append_assoc, getD_app1 (by omega), List.getD_eq_getElem?_getD, List.getElem?_take_of_lt hi, List.getD_eq_getElem?_getD]
    have zhigh : ∀ i, sb + m ≤ i → itA zs i = itA (arrOf st) i := fun i hi => by
      rw [itA_list, itA_list, pb, getD_app2 (by rw [List.length_append]; omega), List.getD_eq_getElem?_getD, List.getElem?_drop, List.getD_eq_getElem?_getD]
      congr 2
      rw [List.length_append]
      omega
    have zmid : ∀ i, sa + k ≤ i → i < sb + m → itA zs i = itA r (i - (sa + k)) := fun i h1 h2 => by
      rw [itA_list, itA_list, pb, getD_app1 (by rw [List.length_append]; omega), getD_app2 (by omega), l1']
    have rsz : r.size = na - k + m := by rw [← rl, Array.length_toList]
    have rmem : ∀ i, i < r.size → (∃ j, sa + k ≤ j ∧ j < sa + na ∧ itA r i = itA (arrOf st) j) ∨ (∃ j, sb ≤ j ∧ j < sb + m ∧ itA r i = itA (arrOf st) j) := fun i hi => by
      have q : itA r i ∈ r.toList := by simpa using itA_mem hi
      rcases List.mem_append.mp (mr.2.mem_iff.mp q) with q | q
      · obtain ⟨j, j1, j2, j3, e⟩ := mem_part q
        exact .inl ⟨j, j1, by omega, e⟩
      · obtain ⟨j, j1, j2, j3, e⟩ := mem_part q
        exact .inr ⟨j, j1, j2, e⟩
    refine h zs _ g ?_ ?_ ?_ pe
    · refine Array.Perm.trans (Array.perm_iff_toList_perm.mpr ?_) hp
      rw [pb]
      have e1 := take_part (xs := arrOf st) (i := sa + k) (j := sb) (by omega)
      have e2 := take_part (xs := arrOf st) (i := sb) (j := sb + m) (by omega)
      have e3 := List.take_append_drop (sb + m) (arrOf st).toList
      rw [e2, e1] at e3
      rw [rl, show sa + k + (na - k + m) = sb + m by omega]
      conv => rhs; rw [← e3]
      rw [List.append_assoc ((arrOf st).toList.take (sa + k)) ((arrOf st).extract (sa + k) sb).toList]
      exact List.Perm.append_right _ (List.Perm.append_left _ mr.2)
    · intro i hi
      rcases hi with hi | hi
      · exact zlow i (by omega)
      · exact zhigh i (by omega)
    · intro i j b1 b2 b3
      by_cases ci1 : i < sa + k
      · rw [zlow i ci1]
        by_cases cj1 : j < sa + k
        · rw [zlow j cj1]
          exact ssa i j b1 b2 (by omega)
        · by_cases cj2 : j < sb + m
          · rw [zmid j (by omega) cj2]
            rcases rmem (j - (sa + k)) (by omega) with ⟨t, t1, t2, e⟩ | ⟨t, t1, t2, e⟩
            · rw [e]; exact ssa i t b1 (by omega) t2
            · rw [e]; exact sw.trans (A1 i b1 ci1) (ssb sb t (Nat.le_refl _) t1 (by omega))
          · rw [zhigh j (by omega)]
            exact sw.trans (A1 i b1 ci1) (ssb sb j (Nat.le_refl _) (by omega) (by omega))
      · by_cases ci2 : i < sb + m
        · rw [zmid i (by omega) ci2]
          by_cases cj2 : j < sb + m
          · rw [zmid j (by omega) cj2]
            exact pw_at sw mr.1 (by omega) (by omega)
          · rw [zhigh j (by omega)]
            rcases rmem (i - (sa + k)) (by omega) with ⟨t, t1, t2, e⟩ | ⟨t, t1, t2, e⟩
            · rw [e]; exact sw.trans (ssa t (sa + na - 1) (by omega) (by omega) (by omega)) (B2 j (by omega) (by omega))
            · rw [e]; exact ssb t j t1 (by omega) (by omega)
        · rw [zhigh i (by omega), zhigh j (by omega)]
          exact ssb i j (by omega) b2 (by omega)
  have mx : ∀ i, i < ((arrOf st).extract (sa + k) sb).size → itA ((arrOf st).extract (sa + k) sb) i ∈ a0 := fun i hi => by rw [ix i (by omega)]; exact mem _ (by omega)
  have my : ∀ i, i < ((arrOf st).extract sb (sb + m)).size → itA ((arrOf st).extract sb (sb + m)) i ∈ a0 := fun i hi => by rw [iy i (by omega)]; exact mem _ (by omega)
  have sx : ((arrOf st).extract (sa + k) sb).toList.Pairwise (Nl lt) := at_pw fun i j hij hj => by
    rw [ix i (by omega), ix j (by omega)]
    exact ssa _ _ (by omega) (by omega) (by omega)
  have sy : ((arrOf st).extract sb (sb + m)).toList.Pairwise (Nl lt) := at_pw fun i j hij hj => by
    rw [iy i (by omega), iy j (by omega)]
    exact ssb _ _ (by omega) (by omega) (by omega)
  have hfst : Nl lt (itA ((arrOf st).extract sb (sb + m)) 0) (itA ((arrOf st).extract (sa + k) sb) 0) := by
    rw [ix 0 (by omega), iy 0 (by omega)]
    exact sw.of_lt (A2 _ (by omega) (by omega))
  have hlst : ∀ j, j < ((arrOf st).extract sb (sb + m)).size → Nl lt (itA ((arrOf st).extract sb (sb + m)) j) (itA ((arrOf st).extract (sa + k) sb) (((arrOf st).extract (sa + k) sb).size - 1)) := fun j hj => by
    rw [iy j (by omega), ix _ (by omega), zx, show sa + k + (na - k - 1) = sa + na - 1 by omega]
    exact sw.of_lt (B1 _ (by omega) (by omega))
  by_cases q3 : na - k ≤ m
  · rw [if_pos q3]
    refine wpS_bind (wpS_mergeLoG sw an hk mx my sx sy (show 0 < ((arrOf st).extract (sa + k) sb).size by rw [zx]; omega) (show 0 < ((arrOf st).extract sb (sb + m)).size by rw [zy]; omega) hfst hlst fun r g mr => ?_)
    refine wpS_bind (wpS_modify (wpS_bind (wpS_get (wpS_pure ?_))))
    have f := fin r g mr
    rw [← hfa] at f
    have e : (failedOf st).isNone = true := by rw [hfa]; rfl
    show Q (failedOf st).isNone _
    rw [e]
    exact f
  · rw [if_neg q3]
    refine wpS_bind (wpS_mergeHiG sw an hk mx my sx sy (show 0 < ((arrOf st).extract (sa + k) sb).size by rw [zx]; omega) (show 0 < ((arrOf st).extract sb (sb + m)).size by rw [zy]; omega) hfst hlst fun r g mr => ?_)
    refine wpS_bind (wpS_modify (wpS_bind (wpS_get (wpS_pure ?_))))
    have f := fin r g mr
    rw [← hfa] at f
    have e : (failedOf st).isNone = true := by rw [hfa]; rfl
    show Q (failedOf st).isNone _
    rw [e]
    exact f
end
end L2
set_option Elab.async false
set_option linter.all false
set_option maxRecDepth 100000
set_option maxHeartbeats 4000000
namespace L2
open PySem PySem.W PyProof.Rows
section
variable {prog : Program} {w : World} {A : Around} {E : Value → Shared → Prop} {s : Shared} {κ : SortKind} {lt : Keyed → Keyed → Bool} {a0 : Array Keyed}
/-- between two runs -/
structure Srt (κ : SortKind) (lt : Keyed → Keyed → Bool) (a0 : Array Keyed) (lo : Nat) (st : SortSt) : Prop where
  kd : kindOf st = κ
  pm : (arrOf st).Perm a0
  fa : failedOf st = none
  cv : Cov lt (arrOf st) 0 ((pendingOf st).toList.map whr) lo
theorem Srt.merge {st : SortSt} {lo i : Nat} {Q : Bool → SortSt → Prop} (sw : Swo lt) (an : Ans prog w A s κ lt a0) (h : Srt κ lt a0 lo st) (hi : i + 1 < (pendingOf st).size) (hlo : lo ≤ a0.size)
    (q : ∀ st', Srt κ lt a0 lo st' → (pendingOf st').size + 1 = (pendingOf st).size → (∀ k, lo ≤ k → itA (arrOf st') k = itA (arrOf st) k) → Q true st') : wpS (model prog w) A E s (mergeAt' i) Q st := by
  have hl : i < (pendingOf st).toList.length := by rw [Array.length_toList]; omega
  have hl2 : i + 1 < (pendingOf st).toList.length := by rw [Array.length_toList]; omega
  obtain ⟨⟨sa, na, p1⟩, ex⟩ : ∃ x, (pendingOf st).toList[i] = x := ⟨_, rfl⟩
  obtain ⟨⟨sb, nb, p2⟩, ey⟩ : ∃ y, (pendingOf st).toList[i + 1] = y := ⟨_, rfl⟩
  have e : (pendingOf st).toList = (pendingOf st).toList.take i ++ (sa, na, p1) :: (sb, nb, p2) :: (pendingOf st).toList.drop (i + 2) := by
    conv => lhs; rw [← List.take_append_drop i (pendingOf st).toList]
    rw [List.drop_eq_getElem_cons hl, List.drop_eq_getElem_cons hl2, ex, ey]
  have tl : ((pendingOf st).toList.take i).length = i := by rw [List.length_take]; omega
  obtain ⟨l1, el1⟩ : ∃ l, l = (pendingOf st).toList.take i := ⟨_, rfl⟩
  obtain ⟨l2, el2⟩ : ∃ l, l = (pendingOf st).toList.drop (i + 2) := ⟨_, rfl⟩
  rw [← el1, ← el2] at e
  rw [← el1] at tl
  have cv := h.cv
  rw [e, List.map_append, Cov.app] at cv
  obtain ⟨m, c1, c2, c3, c4, c5, c6, c7, c8⟩ := cv
  dsimp only [whr] at c2 c3 c4 c5 c6 c7 c8
  subst c2
  have ele := c8.le
  subst tl
  refine wpS_mergeAtG sw an h.kd h.pm h.fa e c5 c3 c6 (by omega) c4 (by rw [c5]; exact c7) fun ys pe g y1 y2 y3 y4 => q _ ⟨h.kd, y1, rfl, ?_⟩ ?_ ?_
  · show Cov lt ys 0 (pe.toList.map whr) lo
    rw [y4, List.map_append, Cov.app]
    refine ⟨sa, c1.congr fun k _ hk => y2 k (.inl hk), rfl, ?_, y3, ?_⟩
    · show 1 ≤ na + nb
      omega
    · show Cov lt ys (sa + (na + nb)) _ lo
      rw [← Nat.add_assoc]
      exact c8.congr fun k hk _ => y2 k (.inr (by omega))
  · show pe.size + 1 = _
    have z1 : pe.toList.length = l1.length + (l2.length + 1) := by rw [y4]; simp
    have z2 : (pendingOf st).toList.length = l1.length + (l2.length + 1 + 1) := by rw [e]; simp
    rw [Array.length_toList] at z1 z2
    omega
  · intro k hk
    exact y2 k (.inr (by omega))
theorem map_whr_modify (p : Array (Nat × Nat × Nat)) (i : Nat) (f : Nat × Nat × Nat → Nat × Nat × Nat) (hf : ∀ x, whr (f x) = whr x) : (p.modify i f).toList.map whr = p.toList.map whr := by
  apply List.ext_getElem?
  intro k
  rw [List.getElem?_map, List.getElem?_map, Array.getElem?_toList, Array.getElem?_toList, Array.getElem?_modify]
  split
  · cases p[k]? with
    | none => rfl
    | some x => show some (whr (f x)) = some (whr x); rw [hf]
  · rfl
theorem fewer2 (c : Bool) (n : Nat) (h : 1 < n) : (if c = true then n - 2 - 1 else n - 2) + 1 < n := by
  split <;> omega
theorem wpS_sortRunsG {st : SortSt} {Q : Unit → SortSt → Prop} (sw : Swo lt) (an : Ans prog w A s κ lt a0) (hk : kindOf st = κ) (ha : arrOf st = a0) (hf : failedOf st = none) (hpe : pendingOf st = #[]) (h2 : 1 ≤ a0.size)
    (h : ∀ st', (arrOf st').Perm a0 → failedOf st' = none → (arrOf st').toList.Pairwise (Nl lt) → Q () st') : wpS (model prog w) A E s sortRuns' Q st := by
  have hp : (arrOf st).Perm a0 := by rw [ha]
  refine wpS_bind (wpS_get ?_)
  dsimp only
  have ez : ((sortPriv% PySem.Builtin.SortState.a) st).size = a0.size := by rw [show (sortPriv% PySem.Builtin.SortState.a) st = a0 from ha]
  rw [ez]
  refine wpS_bind (wpS_mono (wpS_forRange (I := fun x c st' => ∃ lo, c = (none, lo) ∧ x ≤ lo ∧ lo ≤ a0.size ∧ Srt κ lt a0 lo st')
    (Q := fun c st' => c = (none, a0.size) ∧ Srt κ lt a0 a0.size st') ?step ?fin ?init) ?post)
  case init =>
    refine ⟨0, rfl, Nat.le_refl _, Nat.zero_le _, hk, hp, hf, ?_⟩
    rw [hpe]
    exact rfl
  case fin =>
    rintro c st' ⟨lo, rfl, q1, q2, q3⟩
    have : lo = a0.size := by omega
    rw [this] at q3 ⊢
    exact ⟨rfl, q3⟩
  case step =>
    rintro x c st' _ hx ⟨lo, rfl, q1, q2, q3⟩
    dsimp only
    by_cases hlo : lo ≥ a0.size
    · rw [if_pos hlo]
      have : lo = a0.size := by omega
      rw [this] at q3 ⊢
      exact wpS_pure ⟨rfl, q3⟩
    rw [if_neg hlo]
    have hz := q3.pm.size_eq
    refine wpS_bind (wpS_countRunG sw an q3.kd q3.pm (by omega) (by omega) fun m ys k1 m1 m2 s1 => ?_)
    dsimp only
    by_cases hm : m < (sortPriv% PySem.Builtin.minRun) a0.size a0.size 0
    case' pos =>
      rw [if_pos hm]
      refine wpS_bind (wpS_lift (wpAny_rule ⟨rfl, ?_⟩))
      refine wpS_bind (wpS_binarySortG (st := setArr st' ys) sw an q3.kd (k1.1.trans q3.pm) (by omega) m1 (by omega) s1 fun zs k2 s2 => ?_)
      simp only [Bool.not_true, Bool.false_eq_true, if_false]
      refine wpS_bind (wpS_get ?_)
      obtain ⟨n, en⟩ : ∃ n, n = min (a0.size - lo) ((sortPriv% PySem.Builtin.minRun) a0.size a0.size 0) := ⟨_, rfl⟩
      have n1 : 1 ≤ n := by omega
      have n2 : lo + n ≤ a0.size := by omega
      rw [← en] at s2 ⊢
      have kz : Kp (arrOf st') zs lo := ⟨k2.1.trans k1.1, fun k hk => (k2.2 k hk).trans (k1.2 k hk)⟩
    case' neg =>
      rw [if_neg hm]
      refine wpS_bind (wpS_get ?_)
      obtain ⟨zs, ezs⟩ : ∃ zs, zs = ys := ⟨_, rfl⟩
      obtain ⟨n, en⟩ : ∃ n, n = m := ⟨_, rfl⟩
      have n1 : 1 ≤ n := by omega
      have n2 : lo + n ≤ a0.size := by omega
      have s2 : SS lt zs lo (lo + n) := by rw [ezs, en]; exact s1
      have kz : Kp (arrOf st') zs lo := by rw [ezs]; exact k1
      rw [← ezs, ← en]
    all_goals
      have S2 : Srt κ lt a0 lo (setArr st' zs) := ⟨q3.kd, kz.1.trans q3.pm, q3.fa, q3.cv.congr fun k _ hk => kz.2 k hk⟩
      have push : ∀ st4, Srt κ lt a0 lo st4 → SS lt (arrOf st4) lo (lo + n) → Srt κ lt a0 (lo + n) (setPending st4 ((pendingOf st4).push (lo, n, 0))) := by
        intro st4 S4 ss4
        refine ⟨S4.kd, S4.pm, S4.fa, ?_⟩
        show Cov lt (arrOf st4) 0 (((pendingOf st4).push (lo, n, 0)).toList.map whr) (lo + n)
        rw [Array.toList_push, List.map_append, Cov.app]
        exact ⟨lo, S4.cv, rfl, n1, ss4, rfl⟩
      cases eb : (pendingOf (setArr st' zs)).back? with
      | none =>
        dsimp only
        exact wpS_bind (wpS_modify (wpS_pure ⟨lo + n, rfl, by omega, n2, push _ S2 s2⟩))
      | some bk =>
        obtain ⟨b1, b2, b3⟩ := bk
        dsimp only
        obtain ⟨pw, epw⟩ : ∃ pw, pw = (sortPriv% PySem.Builtin.power) a0.size (2 * b1 + b2) (2 * b1 + b2 + b2 + n) a0.size := ⟨_, rfl⟩
        rw [← epw]
        refine wpS_bind (wpS_mono (wpS_forRange (I := fun _ c st'' => c = (none, ()) ∧ Srt κ lt a0 lo st'' ∧ SS lt (arrOf st'') lo (lo + n))
          (Q := fun c st'' => c = (none, ()) ∧ Srt κ lt a0 lo st'' ∧ SS lt (arrOf st'') lo (lo + n)) ?_ (fun _ _ hh => hh) ⟨rfl, S2, s2⟩) ?_)
        · rintro y c st'' _ _ ⟨rfl, S3, s3⟩
          refine wpS_bind (wpS_get ?_)
          by_cases hps : (pendingOf st'').size > 1
          · rw [if_pos hps]
            obtain ⟨⟨o1, o2, o3⟩, eo⟩ : ∃ o, (pendingOf st'')[(pendingOf st'').size - 2]? = some o := ⟨_, Array.getElem?_eq_getElem (by omega)⟩
            rw [show ((sortPriv% PySem.Builtin.SortState.pending) st'')[((sortPriv% PySem.Builtin.SortState.pending) st'').size - 2]? = some (o1, o2, o3) from eo]
            dsimp only
            by_cases ho : o3 ≤ pw
            · rw [if_pos ho]
              exact wpS_pure ⟨rfl, S3, s3⟩
            · rw [if_neg ho]
              refine wpS_bind (S3.merge sw an (by show (pendingOf st'').size - 2 + 1 < _; omega) (by omega) fun st5 S5 _ e5 => ?_)
              simp only [Bool.not_true, Bool.false_eq_true, if_false]
              exact wpS_pure ⟨rfl, S5, s3.congr fun k hk _ => e5 k hk⟩
          · rw [if_neg hps]
            exact wpS_pure ⟨rfl, S3, s3⟩
        · rintro c st'' ⟨rfl, S3, s3⟩
          dsimp only
          refine wpS_bind (wpS_modify (wpS_bind (wpS_modify (wpS_pure ⟨lo + n, rfl, by omega, n2, ?_⟩))))
          refine push (setPending st'' ((pendingOf st'').modify ((pendingOf st'').size - 1) fun x => (x.fst, x.2.fst, pw))) ⟨S3.kd, S3.pm, S3.fa, ?_⟩ s3
          show Cov lt (arrOf st'') 0 (((pendingOf st'').modify ((pendingOf st'').size - 1) fun x => (x.fst, x.2.fst, pw)).toList.map whr) lo
          rw [map_whr_modify (pendingOf st'') ((pendingOf st'').size - 1) (fun x => (x.fst, x.2.fst, pw)) fun x => rfl]
          exact S3.cv
  case post =>
    rintro c st' ⟨rfl, S1⟩
    dsimp only
    have z1 : (pendingOf st').size ≤ a0.size := by
      have := S1.cv.le
      rw [List.length_map, Array.length_toList] at this
      omega
    refine wpS_bind (wpS_mono (wpS_forRange (I := fun x c st'' => c = (none, ()) ∧ Srt κ lt a0 a0.size st'' ∧ (pendingOf st'').size + x ≤ a0.size + 1)
      (Q := fun c st'' => c = (none, ()) ∧ Srt κ lt a0 a0.size st'' ∧ (pendingOf st'').size ≤ 1) ?_ ?_ ⟨rfl, S1, by omega⟩) ?_)
    · rintro x c st'' _ hx ⟨rfl, S2, z2⟩
      refine wpS_bind (wpS_get ?_)
      by_cases hps : (pendingOf st'').size ≤ 1
      · rw [if_pos hps]
        exact wpS_pure ⟨rfl, S2, hps⟩
      · rw [if_neg hps]
        refine wpS_bind (S2.merge sw an ?_ (Nat.le_refl _) fun st5 S5 z5 _ => ?_)
        · exact fewer2 _ _ (by show 1 < (pendingOf st'').size; omega)
        · simp only [Bool.not_true, Bool.false_eq_true, if_false]
          exact wpS_pure ⟨rfl, S5, by omega⟩
    · rintro c st'' ⟨rfl, S2, z2⟩
      refine ⟨rfl, S2, ?_⟩
      omega
    · rintro c st'' ⟨rfl, S2, z2⟩
      refine wpS_pure (h st'' S2.pm S2.fa ?_)
      have cv := S2.cv
      have hz := S2.pm.size_eq
      have hzl : ((pendingOf st'').toList.map whr).length ≤ 1 := by rw [List.length_map, Array.length_toList]; exact z2
      generalize (pendingOf st'').toList.map whr = l at cv hzl
      match l, cv, hzl with
      | [], cv, _ => exact absurd (show 0 = a0.size from cv) (by omega)
      | [(p, n)], cv, _ =>
        obtain ⟨_, _, c3, c4⟩ := cv
        have c4' : 0 + n = a0.size := c4
        exact at_pw fun i j hij hj => c3 i j (Nat.zero_le _) (by omega) (by omega)
      | _ :: _ :: _, _, hzl => simp at hzl
end
end L2
set_option Elab.async false
set_option linter.all false
set_option maxRecDepth 100000
namespace L2
open PySem PySem.Spec PyProof.Rows
/-- a key: an int or a str -/
abbrev Key := Sum Int Str
def keyIs : Key → Value → Bool
  | .inl k, v => Value.isInt k v
  | .inr x, v => Value.isStrOf x v
def keyH (w : World) : Key → Int
  | .inl k => hashInt k
  | .inr x => hashStr w x
theorem keyIs_shape : ∀ {k : Key} {v : Value}, keyIs k v = true → (∃ i t, k = Sum.inl i ∧ v = Value.int i t) ∨ (∃ x t, k = Sum.inr x ∧ v = Value.str x t)
  | .inl i, v, h => by
    obtain ⟨t, e⟩ := Value.isInt_shape (k := i) (v := v) h
    exact .inl ⟨i, t, rfl, e⟩
  | .inr x, v, h => by
    obtain ⟨t, e⟩ := Value.isStrOf_shape (x := x) (v := v) h
    exact .inr ⟨x, t, rfl, e⟩
theorem keyIs_int (i : Int) (t : Tok) : keyIs (.inl i) (.int i t) = true := by simp [keyIs, Value.isInt]
theorem keyIs_str (x : Str) (t : Tok) : keyIs (.inr x) (.str x t) = true := by simp [keyIs, Value.isStrOf]
theorem key_ll (a b : Int) : decide ((Sum.inl a : Key) = Sum.inl b) = (a == b) := by
  by_cases e : a = b
  · subst e; simp
  · have h : ¬ (Sum.inl a : Key) = Sum.inl b := fun q => e (Sum.inl.inj q)
    rw [decide_eq_false h]
    exact (beq_eq_false_iff_ne.mpr e).symm
theorem key_rr (a b : Str) : decide ((Sum.inr a : Key) = Sum.inr b) = decide (a = b) := by
  by_cases e : a = b
  · subst e; simp
  · have h : ¬ (Sum.inr a : Key) = Sum.inr b := fun q => e (Sum.inr.inj q)
    rw [decide_eq_false h, decide_eq_false e]
theorem key_lr (a : Int) (b : Str) : decide ((Sum.inl a : Key) = Sum.inr b) = false := decide_eq_false (fun q => nomatch q)
theorem key_rl (a : Str) (b : Int) : decide ((Sum.inr a : Key) = Sum.inl b) = false := decide_eq_false (fun q => nomatch q)
def mixKind (prog : Program) (w : World) : PySem.KeyKind prog w Key where
  is := keyIs
  hash := keyH w
  inj := fun v a b ha hb => by
    rcases keyIs_shape ha with ⟨i, t, rfl, rfl⟩ | ⟨x, t, rfl, rfl⟩
    · rcases keyIs_shape hb with ⟨j, u, rfl, e⟩ | ⟨y, u, rfl, e⟩
      · injection e with e1 _; rw [e1]
      · exact nomatch e
    · rcases keyIs_shape hb with ⟨j, u, rfl, e⟩ | ⟨y, u, rfl, e⟩
      · exact nomatch e
      · injection e with e1 _; rw [e1]
  byValue := fun k v h => by
    rcases keyIs_shape h with ⟨i, t, rfl, rfl⟩ | ⟨x, t, rfl, rfl⟩ <;> rfl
  pyHash := fun hv h => by
    rcases keyIs_shape hv with ⟨i, t, rfl, rfl⟩ | ⟨x, t, rfl, rfl⟩
    · exact wpAny_pyHash_int h
    · exact wpAny_pyHash_str h
  eqBool := fun hu hv h => by
    rcases keyIs_shape hu with ⟨i, t, rfl, rfl⟩ | ⟨x, t, rfl, rfl⟩
    · rcases keyIs_shape hv with ⟨j, u, rfl, rfl⟩ | ⟨y, u, rfl, rfl⟩
      · rw [key_ll] at h; exact wpAny_eqBool_int h
      · rw [key_lr] at h; exact SeqAt.EqAt.int_str i t y u _ _ _ _ h
    · rcases keyIs_shape hv with ⟨j, u, rfl, rfl⟩ | ⟨y, u, rfl, rfl⟩
      · rw [key_rl] at h; exact SeqAt.EqAt.str_int x t j u _ _ _ _ h
      · rw [key_rr] at h; exact wpAny_eqBool_str h
  «strs» := fun k x t v h => by
    rcases keyIs_shape h with ⟨i, u, rfl, e⟩ | ⟨y, u, rfl, e⟩
    · exact nomatch e
    · injection e with e1 _
      subst e1
      cases v <;> rfl
theorem mixKind_int (prog : Program) (w : World) (i : Int) (t : Tok) : (mixKind prog w).is (.inl i) (.int i t) = true := keyIs_int i t
theorem mixKind_str (prog : Program) (w : World) (x : Str) (t : Tok) : (mixKind prog w).is (.inr x) (.str x t) = true := keyIs_str x t
end L2
namespace L2
open PySem PySem.Spec PyProof.Rows
/-- a value, without the heap -/
inductive V where
  | non | bl (b : Bool) | int (i : Int) | str (x : Str) | byt (b : Array UInt8) | flt (b : UInt64) | ref (a : Addr) | ty (n : String)
  deriving DecidableEq
def RelV : V → Value → Prop
  | .non, u => u = Value.none
  | .bl b, u => u = Value.bool b
  | .int i, u => ∃ t, u = Value.int i t
  | .str x, u => ∃ t, u = Value.str x t
  | .byt b, u => ∃ t, u = Value.bytes b t
  | .flt b, u => ∃ t, u = Value.float b t
  | .ref a, u => u = Value.ref a
  | .ty n, u => u = Value.type n
abbrev Vals : List V → List Value → Prop := Paired RelV
theorem Vals.length {xs : List V} {us : List Value} (r : Vals xs us) : xs.length = us.length := Paired.length r
theorem Vals.get : ∀ {xs : List V} {us : List Value} {i : Nat} {x : V}, Vals xs us → xs[i]? = some x → ∃ u, us[i]? = some u ∧ RelV x u
  | _, _, _, _, .nil, e => by simp at e
  | _, _, 0, _, .cons r _, e => by simp at e; subst e; exact ⟨_, rfl, r⟩
  | _, _, i + 1, x, .cons _ t, e => by
    obtain ⟨u, h1, h2⟩ := Vals.get (i := i) (x := x) t (by simpa using e)
    exact ⟨u, by simpa using h1, h2⟩
theorem Vals.set {x : V} {u : Value} (r : RelV x u) : ∀ {xs : List V} {us : List Value} (i : Nat), Vals xs us → Vals (xs.set i x) (us.set i u)
  | _, _, _, .nil => .nil
  | _, _, 0, .cons _ t => .cons r t
  | _, _, i + 1, .cons q t => .cons q (Vals.set r i t)
theorem Vals.append : ∀ {xs ys : List V} {us ws : List Value}, Vals xs us → Vals ys ws → Vals (xs ++ ys) (us ++ ws)
  | _, _, _, _, .nil, s => s
  | _, _, _, _, .cons r t, s => .cons r (Vals.append t s)
theorem Vals.take : ∀ {xs : List V} {us : List Value} (n : Nat), Vals xs us → Vals (xs.take n) (us.take n)
  | _, _, 0, _ => .nil
  | _, _, _ + 1, .nil => .nil
  | _, _, n + 1, .cons r t => .cons r (Vals.take n t)
theorem Vals.drop : ∀ {xs : List V} {us : List Value} (n : Nat), Vals xs us → Vals (xs.drop n) (us.drop n)
  | _, _, 0, r => r
  | _, _, _ + 1, .nil => .nil
  | _, _, n + 1, .cons _ t => Vals.drop n t
def RelO : Option V → Option Value → Prop
  | some v, some u => RelV v u
  | none, none => True
  | _, _ => False
def KV {κ : Type} : List (κ × V) → List (κ × Value) → Prop := Paired fun (p : κ × V) (q : κ × Value) => p.1 = q.1 ∧ RelV p.2 q.2
/-- a key of a dict (00_mix): an int or a text -/
def kV : Key → V
  | .inl i => .int i
  | .inr x => .str x
/-- what stands at a tracked address -/
inductive HO where
  /-- a list -/
  | lst (xs : List V)
  /-- a tuple (never changes) -/
  | tup (xs : List V)
  /-- a dict whose keys are ints and texts; one whose keys are tuples of ints and texts (the empty one is both) -/
  | dK (kvs : List (Key × V)) | dT (kvs : List (List Key × V))
  /-- a set of ints: its members, its size -/
  | set (S : Int → Bool) (n : Nat)
  /-- an instance of the class at C, its dict at dx, its attributes -/
  | ins (C dx : Addr) (fs : List (Str × V))
  /-- the dict of the instance at x -/
  | own (x : Addr)
  /-- the dict of an exception -/
  | xd (fs : List (Str × V))
  /-- a bound method, f of x -/
  | met (f x : Addr)
  /-- a range object lo, lo + 1, .. below hi -/
  | rng (lo hi : Int)
  /-- a thing that is known to the object (the script; a dict while a loop walks it): read, never written while it is so -/
  | frz (o : Obj) (u : HO)
  /-- a code object's table -/
  | tbl (ps : Array Value)
  /-- any other thing, by what is true of its one object (a def of one's own: SetO a S n := HO.ext fun h => ..) -/
  | ext (φ : Heap → Prop)
abbrev Hp := Addr → Option HO
def upd (H : Hp) (a : Addr) (o : HO) : Hp := fun b => if b = a then some o else H b
theorem upd_same {H : Hp} {a : Addr} {o : HO} : upd H a o a = some o := by unfold upd; rw [if_pos rfl]
theorem upd_ne {H : Hp} {a b : Addr} {o : HO} (h : b ≠ a) : upd H a o b = H b := by unfold upd; rw [if_neg h]
theorem upd_upd {H : Hp} {a : Addr} {o u : HO} : upd (upd H a o) a u = upd H a u := by
  funext b; unfold upd; split <;> rfl
/-- two objects of different content stand apart -/
theorem ne_of {H : Hp} {a b : Addr} {o u : HO} (h : H a = some o) (h' : H b = some u) (d : o ≠ u) : a ≠ b := by
  intro e; subst e; rw [h] at h'; exact d (Option.some.inj h')
theorem ne_of_none {H : Hp} {a b : Addr} {o : HO} (h : H a = some o) (h' : H b = none) : a ≠ b := by
  intro e; subst e; rw [h] at h'; cases h'
section
variable (P : Program) (w : World)
def ObjOk (H : Hp) (h : Heap) (a : Addr) : HO → Prop
  | .lst xs => xs.length ≤ sizeLine ∧ ∃ (its : List Value) (n : Nat), Vals xs its ∧ h.get? a = some { cls := .type "list", data := .seq its.toArray n }
  | .tup xs => xs.length ≤ sizeLine ∧ ∃ its : List Value, Vals xs its ∧ IsTup h a its.toArray
  | .dK kvs => kvs.length ≤ sizeLine ∧ (a == sysModules) = false ∧ ∃ vs, KV kvs vs ∧ h.DictOf (mixKind P w) a vs
  | .dT kvs => kvs.length ≤ sizeLine ∧ (a == sysModules) = false ∧ ∃ xs : List (List Key × Addr × Value),
      Paired (fun (p : List Key × V) (q : List Key × Addr × Value) => p.1 = q.1 ∧ H q.2.1 = some (.tup (p.1.map kV)) ∧ RelV p.2 q.2.2) kvs xs ∧
      ∃ o es ep, h.get? a = some o ∧ o.ExactDict ∧ o.data = .dict es ep ∧ es.toList = xs.map (entryOfKey (tupleKind (mixKind P w))) ∧ (xs.map (·.1)).Nodup
  | .set S n => h.SetOf (intKind P w) a S n
  | .ins C dx fs => H dx = some (.own a) ∧ fs.length ≤ 1000 ∧ dx ≠ a ∧ h.get? a = some (PySem.W.instObj C dx) ∧
      ∃ mA, h.Ns1 dx mA ∧ (∀ f, RelO (fs.lookup f) (mA f)) ∧ PySem.Within mA (fs.map (·.1))
  | .own _ => ∃ o, h.get? a = some o
  | .xd fs => ∃ mA, h.Ns1 a mA ∧ ∀ f, RelO (fs.lookup f) (mA f)
  | .rng lo hi => ∃ t u v, h.get? a = some { cls := .type "range", data := .fields #[.int lo t, .int hi u, .int 1 v] }
  | .frz o u => h.get? a = some o ∧ ObjOk H h a u
  | .tbl ps => h.get? a = some { cls := .none, data := .fields ps }
  | .met f x => h.get? a = some (PySem.W.methodObj (.ref f) (.ref x))
  | .ext φ => φ h ∧ (∃ o, h.get? a = some o) ∧ ∀ h1 h2 : Heap, φ h1 → (∀ o, h1.get? a = some o → h2.get? a = some o) → φ h2
/-- the abstract heap is held -/
def HOk (H : Hp) (h : Heap) : Prop := ∀ a o, H a = some o → ObjOk P w H h a o
end
section
variable {P : Program} {w : World} {H H' : Hp} {h h' : Heap} {a : Addr} {o : HO}
theorem ObjOk.lt (x : ObjOk P w H h a o) : a < h.objs.size := by
  cases o with
  | lst xs => obtain ⟨_, _, _, _, e⟩ := x; exact Heap.lt_size e
  | tup xs => obtain ⟨_, _, _, p⟩ := x; exact p.lt
  | dK kvs => obtain ⟨_, _, _, _, o, _, _, e, _⟩ := x; exact Heap.lt_size e
  | dT kvs => obtain ⟨_, _, _, _, o, _, _, e, _⟩ := x; exact Heap.lt_size e
  | set S n => obtain ⟨o, _, _, _, e, _⟩ := x; exact Heap.lt_size e
  | ins C dx fs => obtain ⟨_, _, _, e, _⟩ := x; exact Heap.lt_size e
  | own y => obtain ⟨_, e⟩ := x; exact Heap.lt_size e
  | xd fs => obtain ⟨_, ⟨_, _, _, e, _⟩, _⟩ := x; exact Heap.lt_size e
  | rng lo hi => obtain ⟨_, _, _, e⟩ := x; exact Heap.lt_size e
  | frz ob u => obtain ⟨e, _⟩ := x; exact Heap.lt_size e
  | tbl ps => exact Heap.lt_size (show h.get? a = some _ from x)
  | met f y => exact Heap.lt_size (show h.get? a = some _ from x)
  | ext φ => obtain ⟨_, ⟨_, e⟩, _⟩ := x; exact Heap.lt_size e
theorem Paired.mapP {α β : Type} {F G : α → β → Prop} : ∀ {l₁ : List α} {l₂ : List β}, Paired F l₁ l₂ → (∀ a b, F a b → G a b) → Paired G l₁ l₂
  | _, _, .nil, _ => .nil
  | _, _, .cons r t, f => .cons (f _ _ r) (Paired.mapP t f)
/-- what an object's description leans on: its own object, its own dict, the tuples -/
theorem ObjOk.stay (x : ObjOk P w H h a o) (k : ∀ b u, (b = a ∨ H b = some (.own a)) → h.get? b = some u → h'.get? b = some u)
    (ho : ∀ b, H b = some (.own a) → H' b = some (.own a)) (ht : ∀ b xs, H b = some (.tup xs) → H' b = some (.tup xs)) : ObjOk P w H' h' a o := by
  induction o with
  | lst xs => obtain ⟨z, its, n, r, e⟩ := x; exact ⟨z, its, n, r, k _ _ (.inl rfl) e⟩
  | tup xs => obtain ⟨z, its, r, ob, e, c⟩ := x; exact ⟨z, its, r, ob, k _ _ (.inl rfl) e, c⟩
  | dK kvs => obtain ⟨z, y, vs, r, ob, es, ep, e, c⟩ := x; exact ⟨z, y, vs, r, ob, es, ep, k _ _ (.inl rfl) e, c⟩
  | dT kvs =>
    obtain ⟨z, y, xs, r, ob, es, ep, e, c⟩ := x
    exact ⟨z, y, xs, Paired.mapP r fun p q z => ⟨z.1, ht _ _ z.2.1, z.2.2⟩, ob, es, ep, k _ _ (.inl rfl) e, c⟩
  | set S n => obtain ⟨ob, es, ep, t, e, c⟩ := x; exact ⟨ob, es, ep, t, k _ _ (.inl rfl) e, c⟩
  | ins C dx fs =>
    obtain ⟨d, z, ne, e, mA, ⟨od, es, ep, e2, c⟩, r⟩ := x
    exact ⟨ho _ d, z, ne, k _ _ (.inl rfl) e, mA, ⟨od, es, ep, k _ _ (.inr d) e2, c⟩, r⟩
  | own y => obtain ⟨ob, e⟩ := x; exact ⟨ob, k _ _ (.inl rfl) e⟩
  | xd fs => obtain ⟨mA, ⟨od, es, ep, e, c⟩, r⟩ := x; exact ⟨mA, ⟨od, es, ep, k _ _ (.inl rfl) e, c⟩, r⟩
  | rng lo hi => obtain ⟨t, u, v, e⟩ := x; exact ⟨t, u, v, k _ _ (.inl rfl) e⟩
  | frz ob u ih => obtain ⟨e, q⟩ := x; exact ⟨k _ _ (.inl rfl) e, ih q⟩
  | tbl ps =>
    have e : h.get? a = some { cls := .none, data := .fields ps } := x
    show h'.get? a = some { cls := .none, data := .fields ps }
    exact k a _ (.inl rfl) e
  | met f y =>
    have e : h.get? a = some (PySem.W.methodObj (.ref f) (.ref y)) := x
    show h'.get? a = some (PySem.W.methodObj (.ref f) (.ref y))
    exact k a _ (.inl rfl) e
  | ext φ => obtain ⟨p, ⟨o, e⟩, st⟩ := x; exact ⟨st _ _ p fun o q => k _ _ (.inl rfl) q, ⟨o, k _ _ (.inl rfl) e⟩, st⟩
theorem HOk.lt (x : HOk P w H h) (e : H a = some o) : a < h.objs.size := (x a o e).lt
theorem HOk.fresh (x : HOk P w H h) (e : h.objs.size ≤ a) : H a = none := by
  cases q : H a with
  | none => rfl
  | some u => exact absurd (Nat.lt_of_lt_of_le (x.lt q) e) (Nat.lt_irrefl _)
/-- every object of the heap is kept -/
theorem HOk.kept (x : HOk P w H h) (k : ∀ b u, h.get? b = some u → h'.get? b = some u) : HOk P w H h' := fun a o e =>
  (x a o e).stay (fun b u _ q => k b u q) (fun _ q => q) fun _ _ q => q
/-- a new object is laid and tracked -/
theorem HOk.laid (x : HOk P w H h) (k : ∀ b u, h.get? b = some u → h'.get? b = some u) (hp : h.objs.size ≤ a) (new : ObjOk P w (upd H a o) h' a o) : HOk P w (upd H a o) h' := fun b u e => by
  have hn := x.fresh hp
  by_cases hb : b = a
  · subst hb; rw [upd_same] at e; cases e; exact new
  · rw [upd_ne hb] at e
    exact (x b u e).stay (fun c v _ q => k c v q) (fun c q => by rw [upd_ne (ne_of_none q hn)]; exact q) fun c xs q => by rw [upd_ne (ne_of_none q hn)]; exact q
end
/-- what may be read as u: it is u, or a known u -/
def Rd (H : Hp) (a : Addr) (u : HO) : Prop := H a = some u ∨ ∃ o, H a = some (.frz o u)
theorem Rd.of {H : Hp} {a : Addr} {u : HO} (h : H a = some u) : Rd H a u := .inl h
theorem Rd.ok {P : Program} {w : World} {H : Hp} {h : Heap} {a : Addr} {u : HO} (r : Rd H a u) (x : HOk P w H h) : ObjOk P w H h a u := by
  rcases r with r | ⟨o, r⟩
  · exact x a u r
  · obtain ⟨_, q⟩ := x a _ r
    exact q
/-- what may be written -/
def Mut : Option HO → Prop
  | some (.lst _) => True
  | some (.dK _) => True
  | some (.dT _) => True
  | some (.set _ _) => True
  | some (.ins _ _ _) => True
  | some (.ext _) => True
  | _ => False
section
variable {P : Program} {w : World} {H : Hp} {h h' : Heap} {x e : Addr} {o' : HO}
/-- the object at e is changed: x itself, or the dict of the instance x -/
theorem HOk.write (ok : HOk P w H h) (mu : Mut (H x)) (he : e = x ∨ H e = some (.own x)) (k : ∀ b u, b ≠ e → h.get? b = some u → h'.get? b = some u) (heo : ∃ u, h'.get? e = some u)
    (new : ObjOk P w (upd H x o') h' x o') : HOk P w (upd H x o') h' := fun b u q => by
  have nown : ∀ c y, H c = some (.own y) → c ≠ x := fun c y r z => by subst z; rw [r] at mu; exact mu
  have ntup : ∀ c xs, H c = some (.tup xs) → c ≠ x := fun c xs r z => by subst z; rw [r] at mu; exact mu
  by_cases hb : b = x
  · subst hb; rw [upd_same] at q; cases q; exact new
  · rw [upd_ne hb] at q
    by_cases hbe : b = e
    · have q' : H b = some (.own x) := by
        rcases he with z | z
        · exact absurd (hbe.trans z) hb
        · rw [hbe]; exact z
      rw [q] at q'; cases q'
      obtain ⟨v, hv⟩ := heo
      exact ⟨v, by rw [hbe]; exact hv⟩
    · refine (ok b u q).stay (fun c v hc r => k c v ?_ r) (fun c r => by rw [upd_ne (nown c b r)]; exact r) fun c xs r => by rw [upd_ne (ntup c xs r)]; exact r
      rcases hc with rfl | hc
      · exact hbe
      · rintro rfl
        rcases he with z | z
        · exact nown c b hc z
        · rw [hc] at z; cases z; exact hb rfl
end
structure Un (fs ex : List Addr) (H H' : Hp) (h h' : Heap) : Prop where
  keep : ∀ b o, h.get? b = some o → H b = none → b ∉ fs → b ∉ ex → h'.get? b = some o
  slot : ∀ b o, h.get? b = some o → H b = none → b ∈ fs → b ∉ ex → ∃ sl, h'.get? b = some { o with slots := sl }
  free : ∀ b o, h.get? b = some o → H b = none → b ∉ ex → H' b = none
  there : ∀ b o, h.get? b = some o → b ∉ ex → ∃ o', h'.get? b = some o'
  tups : ∀ b xs, H b = some (.tup xs) → H' b = some (.tup xs)
  frzs : ∀ b o u, H b = some (.frz o u) → H' b = some (.frz o u)
  tbls : ∀ b ps, H b = some (.tbl ps) → ∃ more, H' b = some (.tbl (ps ++ more))
section
variable {fs fs' ex ex' : List Addr} {H H1 H2 : Hp} {h h1 h2 h' : Heap} {a x e : Addr} {o : HO}
theorem Un.any (u : Un fs ex H H1 h h1) {b : Addr} {ob : Obj} (q : h.get? b = some ob) (n : H b = none) (hx : b ∉ ex) : ∃ sl, h1.get? b = some { ob with slots := sl } := by
  by_cases hb : b ∈ fs
  · exact u.slot b ob q n hb hx
  · exact ⟨ob.slots, u.keep b ob q n hb hx⟩
theorem Un.trans (a : Un fs ex H H1 h h1) (b : Un fs ex H1 H2 h1 h2) : Un fs ex H H2 h h2 where
  keep := fun c ob q n hc hx => b.keep c ob (a.keep c ob q n hc hx) (a.free c ob q n hx) hc hx
  slot := fun c ob q n hc hx => by
    obtain ⟨sl, e1⟩ := a.slot c ob q n hc hx
    obtain ⟨sl', e2⟩ := b.slot c _ e1 (a.free c ob q n hx) hc hx
    exact ⟨sl', e2⟩
  free := fun c ob q n hx => by
    obtain ⟨o', e1⟩ := a.there c ob q hx
    exact b.free c o' e1 (a.free c ob q n hx) hx
  there := fun c ob q hx => by
    obtain ⟨o', e1⟩ := a.there c ob q hx
    exact b.there c o' e1 hx
  tups := fun c xs q => b.tups c xs (a.tups c xs q)
  frzs := fun c ob xs q => b.frzs c ob xs (a.frzs c ob xs q)
  tbls := fun c ps q => by
    obtain ⟨m1, e1⟩ := a.tbls c ps q
    obtain ⟨m2, e2⟩ := b.tbls c _ e1
    exact ⟨m1 ++ m2, by rw [e2, Array.append_assoc]⟩
theorem Un.kept (k : ∀ b u, h.get? b = some u → h'.get? b = some u) : Un fs ex H H h h' :=
  ⟨fun b ob q _ _ _ => k b ob q, fun b ob q _ _ _ => ⟨ob.slots, k b ob q⟩, fun _ _ _ n _ => n, fun b ob q _ => ⟨ob, k b ob q⟩, fun _ _ q => q, fun _ _ _ q => q, fun _ ps q => ⟨#[], by rw [q]; simp⟩⟩
theorem Un.refl : Un fs ex H H h h := Un.kept fun _ _ q => q
theorem Un.laid (k : ∀ b u, h.get? b = some u → h'.get? b = some u) (hp : h.objs.size ≤ a) (hn : H a = none) : Un fs ex H (upd H a o) h h' where
  keep := fun b u q _ _ _ => k b u q
  slot := fun b u q _ _ _ => ⟨u.slots, k b u q⟩
  free := fun b u q n _ => by rw [upd_ne (Nat.ne_of_lt (Nat.lt_of_lt_of_le (Heap.lt_size q) hp))]; exact n
  there := fun b u q _ => ⟨u, k b u q⟩
  tups := fun b xs q => by rw [upd_ne (ne_of_none q hn)]; exact q
  frzs := fun b u xs q => by rw [upd_ne (ne_of_none q hn)]; exact q
  tbls := fun b ps q => ⟨#[], by rw [upd_ne (ne_of_none q hn), q]; simp⟩
theorem Un.write (mu : Mut (H x)) (he : e = x ∨ H e = some (.own x)) (k : ∀ b u, b ≠ e → h.get? b = some u → h'.get? b = some u) (heo : ∃ u, h'.get? e = some u) : Un fs ex H (upd H x o) h h' := by
  have hx : ∀ b, H b = none → b ≠ x := fun b n z => by subst z; rw [n] at mu; exact mu
  have hb : ∀ b, H b = none → b ≠ e := fun b n z => by
    subst z
    rcases he with r | r
    · exact hx b n r
    · rw [n] at r; cases r
  have hm : ∀ b u, H b = some u → ¬ Mut (some u) → b ≠ x := fun b u q nm z => by subst z; rw [q] at mu; exact nm mu
  refine ⟨fun b u q n _ _ => k b u (hb b n) q, fun b u q n _ _ => ⟨u.slots, k b u (hb b n) q⟩, fun b u q n _ => by rw [upd_ne (hx b n)]; exact n, fun b u q _ => ?_,
    fun b xs q => by rw [upd_ne (hm b _ q fun z => z)]; exact q, fun b u xs q => by rw [upd_ne (hm b _ q fun z => z)]; exact q, fun b ps q => ⟨#[], by rw [upd_ne (hm b _ q fun z => z), q]; simp⟩⟩
  by_cases hbe : b = e
  · subst hbe; exact heo
  · exact ⟨u, k b u hbe q⟩
theorem Un.mono (u : Un fs ex H H1 h h1) (hs : ∀ b ∈ fs, b ∈ fs') (hx : ∀ b ∈ ex, b ∈ ex') : Un fs' ex' H H1 h h1 :=
  ⟨fun b ob q n hb he => u.keep b ob q n (fun z => hb (hs b z)) fun z => he (hx b z), fun _ _ q n _ he => u.any q n fun z => he (hx _ z), fun b ob q n he => u.free b ob q n fun z => he (hx b z), fun b ob q he => u.there b ob q fun z => he (hx b z), u.tups, u.frzs, u.tbls⟩
end
def trk (h : Heap) (H : Hp) : List Addr := (List.range h.objs.size).filter fun a => (H a).isSome
def hidT (h : Heap) (H : Hp) : Heap := PySem.W.hideAll h (trk h H)
theorem hidT_size (h : Heap) (H : Hp) : (hidT h H).objs.size = h.objs.size := PySem.W.hideAll_size _ _
theorem hidT_get {h : Heap} {H : Hp} {b : Addr} {o : Obj} (e : h.get? b = some o) (n : H b = none) : (hidT h H).get? b = some o :=
  PySem.W.hideAll_get _ e fun hm => by
    have q : (H b).isSome = true := (List.mem_filter.mp hm).2
    rw [n] at q; simp at q
theorem of_hidT {h : Heap} {H : Hp} {b : Addr} {o : Obj} (e : (hidT h H).get? b = some o) : h.get? b = some o ∧ H b = none := by
  have e' : h.get? b = some o := PySem.W.of_hideAll (trk h H) e
  refine ⟨e', ?_⟩
  cases q : H b with
  | none => rfl
  | some x =>
    have hm : b ∈ trk h H := List.mem_filter.mpr ⟨List.mem_range.mpr (Heap.lt_size e'), by simp [q]⟩
    have z : (hidT h H).get? b = none := PySem.W.hideAll_none (trk h H) hm
    rw [z] at e; cases e
def allNews (g h : Heap) (L : Addr) : List (Addr × Obj) := (List.range h.objs.size).filterMap fun a => if a = L ∨ (g.get? a).isSome = true then none else (h.get? a).map fun o => (a, o)
def rest (g h : Heap) (L d : Addr) : List (Addr × Obj) := (allNews g h L).filter fun p => decide (p.1 ≠ d)
end L2
namespace L2
open PySem PySem.Spec PyProof.Rows
/-- the module's facts, over the base: the heap at the law's entry without what is tracked there -/
structure Mod (K : PySem.W.Frag) (mg : Str → Option Value) (base : Heap) : Prop where
  kin : K.In base
  glob : base.Ns mainGlobals mg
  blt : ∃ mb, base.Ns builtinsNs mb ∧ ∀ x : Str, x ≠ "__name__" → mb x = bootBuiltins x
  nolimit : base.NoLimit
/-- the context: a def's body (or a comprehension's block) running. base: fixed through the whole law; s₀, H₀: the entry; outer: the frames whose slots others may change (a def's callers); stack: all frames that run;
   ex: iterators that were made ahead of the entry and are walked here (a comprehension's); fn: the names whose cells were made at the entry (a def: all; a comprehension's block: its own); calm: not within an except suite; pn: pins that every state bears; xe: what is wanted of an exception that leaves the code -/
structure Cx where
  prog : Program
  w : World
  K : PySem.W.Frag
  mg : Str → Option Value
  base : Heap
  A : Around
  N : List Str
  s₀ : Shared
  H₀ : Hp
  env : Env
  outer : List Env
  stack : List Env
  ex : List Addr
  fn : Str → Bool
  calm : Bool
  pn : List (Addr × Obj)
  xe : Value → Shared → Prop
/-- the callers' frames -/
def frs (l : List Env) : List Addr := l.filterMap (·.frame)
abbrev Cx.fs (X : Cx) : List Addr := frs X.outer
def Vis (sc : Scope) (x : Str) : Prop := sc.names.lookup x = some .local ∨ sc.names.lookup x = some .cell ∨ sc.names.lookup x = some .free
def Loc (sc : Scope) (x : Str) : Prop := sc.names.lookup x = some .local ∨ sc.names.lookup x = some .cell
def Look (env : Env) (h : Heap) (m : Str → Option Value) (x : Str) (u : Value) : Prop :=
  (env.kindOf x = some .local ∧ m x = some u) ∨ ((env.kindOf x = some .cell ∨ env.kindOf x = some .free) ∧ ∃ c, env.cells.lookup x = some c ∧ h.IsCell c (some u))
structure Cx.Ok (X : Cx) : Prop where
  mod : Mod X.K X.mg X.base
  kind : X.env.scope.kind = .function
  glob : X.env.globals = mainGlobals
  blt : X.env.builtins = builtinsNs
  above : X.s₀.heap.objs.size ≤ X.env.locals
  inj : ∀ x y c, X.env.cells.lookup x = some c → X.env.cells.lookup y = some c → x = y
  has : ∀ x, (X.env.kindOf x = some .cell ∨ X.env.kindOf x = some .free) → ∃ c, X.env.cells.lookup x = some c
  cab : ∀ x c, X.fn x = true → X.env.cells.lookup x = some c → X.s₀.heap.objs.size ≤ c
  hd : X.calm = true → X.A.handled = none
  frames : X.A.frames = some X.stack
  stk : X.stack = X.outer ∨ (X.stack = X.env :: X.outer ∧ X.env.frame = some X.env.locals)
  exf : ∀ b ∈ X.ex, b ≠ X.env.locals ∧ ∀ x c, X.env.cells.lookup x = some c → c ≠ b
  bs : ∀ b o, X.base.get? b = some o → X.s₀.heap.get? b = some o ∧ X.H₀ b = none
  bsz : X.base.objs.size ≤ X.s₀.heap.objs.size
  noex : ∀ b o, X.base.get? b = some o → b ∉ X.ex
  exfs : ∀ b ∈ X.ex, b ∉ X.fs
  funs : X.s₀.heap.FunFrames X.base X.outer
  frf : ∀ b ∈ X.fs, X.H₀ b = none
structure Inv (X : Cx) (pins : List (Addr × Obj)) (σ : List (Option V)) (H : Hp) (s : Shared) : Prop where
  ok : X.Ok
  os : s.os = X.s₀.os
  bare : AllBare s.gens
  base : Un X.fs X.ex X.H₀ H X.s₀.heap s.heap
  loc : ∃ m, s.heap.Ns X.env.locals m ∧ ∀ (i : Nat) (x : Str) (v : V), X.N[i]? = some x → σ[i]? = some (some v) → Vis X.env.scope x → ∃ u, RelV v u ∧ Look X.env s.heap m x u
  cell : ∀ x c, X.env.cells.lookup x = some c → ∃ v, s.heap.IsCell c v
  free : H X.env.locals = none
  freeC : ∀ x c, X.env.cells.lookup x = some c → H c = none
  pin : ∀ p ∈ X.pn ++ pins, s.heap.get? p.1 = some p.2 ∧ H p.1 = none ∧ p.1 ≠ X.env.locals ∧ p.1 ∉ X.fs ∧ ∀ v, p.2.data ≠ .cell v
  hok : HOk X.prog X.w H s.heap
  len : σ.length = X.N.length
section
variable {X : Cx} {pins : List (Addr × Obj)} {σ : List (Option V)} {H H' : Hp} {s : Shared} {h' : Heap}
theorem Cx.Ok.nofr (ok : X.Ok) {b : Addr} {o : Obj} (e : X.base.get? b = some o) : b ∉ X.fs := fun hb => by
  have := (ok.funs.mem hb).1
  rw [e] at this; cases this
theorem Inv.bs (I : Inv X pins σ H s) : ∀ b o, X.base.get? b = some o → s.heap.get? b = some o ∧ H b = none := fun b o e =>
  ⟨I.base.keep b o (I.ok.bs b o e).1 (I.ok.bs b o e).2 (I.ok.nofr e) (I.ok.noex b o e), I.base.free b o (I.ok.bs b o e).1 (I.ok.bs b o e).2 (I.ok.noex b o e)⟩
theorem Inv.bk (I : Inv X pins σ H s) : ∀ b o, X.base.get? b = some o → s.heap.get? b = some o := fun b o e => (I.bs b o e).1
theorem Inv.mod (I : Inv X pins σ H s) : Mod X.K X.mg X.base := I.ok.mod
theorem Inv.kIn (I : Inv X pins σ H s) : X.K.In s.heap := I.ok.mod.kin.keeps I.bk
/-- the frame over the base: for OpenK's rules (K.In X.base is I.mod.kin) -/
theorem Inv.fr (I : Inv X pins σ H s) : ∃ m, Fr X.base X.env.locals s.heap m :=
  let ⟨m, hn, _⟩ := I.loc
  ⟨m, hn, I.bk, Nat.le_trans I.ok.bsz I.ok.above⟩
theorem Inv.lt (I : Inv X pins σ H s) : X.env.locals < s.heap.objs.size := let ⟨_, hn, _⟩ := I.loc; hn.lt
theorem Inv.sz (I : Inv X pins σ H s) : X.s₀.heap.objs.size ≤ s.heap.objs.size := Nat.le_trans I.ok.above (Nat.le_of_lt I.lt)
theorem Inv.nofs (I : Inv X pins σ H s) {a : Addr} (h : s.heap.objs.size ≤ a) : a ∉ X.fs := fun hb => by
  obtain ⟨_, o, ho, _⟩ := I.ok.funs.mem hb
  exact absurd (Nat.lt_of_lt_of_le (Heap.lt_size ho) (Nat.le_trans I.sz h)) (Nat.lt_irrefl _)
theorem Inv.cne (I : Inv X pins σ H s) : ∀ x c, X.env.cells.lookup x = some c → c ≠ X.env.locals := fun x c e z => by
  obtain ⟨v, o, ho, hd⟩ := I.cell x c e
  obtain ⟨m, ⟨o', es, ep, ho', hd', _⟩, _⟩ := I.loc
  rw [z, ho'] at ho; cases ho; rw [hd'] at hd; cases hd
theorem Inv.funs (I : Inv X pins σ H s) : s.heap.FunFrames X.base X.outer := by
  have all : ∀ (l : List Env), (∀ b ∈ frs l, b ∈ X.fs) → X.s₀.heap.FunFrames X.base l → s.heap.FunFrames X.base l := by
    intro l
    induction l with
    | nil => intro _ _; trivial
    | cons env r ih =>
      intro hs hl
      obtain ⟨hk, ⟨L, o, hf, hn, ho, hd⟩, hr⟩ := hl
      have hL : L ∈ X.fs := hs L (by unfold frs; rw [List.filterMap_cons, hf]; exact List.mem_cons_self)
      obtain ⟨sl, e⟩ := I.base.slot L o ho (I.ok.frf L hL) hL fun z => I.ok.exfs L z hL
      exact ⟨hk, ⟨L, _, hf, hn, e, hd⟩, ih (fun b hb => hs b (by unfold frs; rw [List.filterMap_cons, hf]; exact List.mem_cons_of_mem _ hb)) hr⟩
  exact all X.outer (fun _ hb => hb) I.ok.funs
/-- the frames that run, for a call -/
theorem Inv.stack (I : Inv X pins σ H s) : s.heap.FunFrames X.base X.stack := by
  rcases I.ok.stk with e | ⟨e, hf⟩
  · rw [e]; exact I.funs
  · rw [e]
    obtain ⟨m, hn, _⟩ := I.loc
    refine .cons (by rw [I.ok.kind]; decide) hf hn ?_ I.funs
    exact Heap.get?_none_of_le (Nat.le_trans I.ok.bsz I.ok.above)
theorem Inv.stkSub (I : Inv X pins σ H s) : ∀ b ∈ frs X.stack, b ∈ X.env.locals :: X.fs := fun b hb => by
  rcases I.ok.stk with e | ⟨e, hf⟩
  · rw [e] at hb; exact List.mem_cons_of_mem _ hb
  · rw [e] at hb
    unfold frs at hb
    rw [List.filterMap_cons, hf] at hb
    exact hb
theorem Inv.stkFree (I : Inv X pins σ H s) : ∀ b ∈ frs X.stack, H b = none := fun b hb => by
  rcases List.mem_cons.mp (I.stkSub b hb) with e | hb
  · rw [e]; exact I.free
  · obtain ⟨_, o, ho, _⟩ := I.ok.funs.mem hb
    exact I.base.free b o ho (I.ok.frf b hb) fun z => I.ok.exfs b z hb
/-- THE STEP: the untracked objects but the frame and the records at ch are kept (the callers' frames up to slots), the frame's map is kept, the new abstract heap is held -/
theorem Inv.step {g' : Array GenState} {t' : Nat} {d' : Drawn} {ch : List Addr} (I : Inv X pins σ H s)
    (hch : ∀ b ∈ ch, (b ∈ X.ex ∨ X.s₀.heap.objs.size ≤ b) ∧ b ≠ X.env.locals ∧ (∀ x c, X.env.cells.lookup x = some c → c ≠ b) ∧ ∀ p ∈ X.pn ++ pins, p.1 ≠ b)
    (keep : ∀ b o, b ≠ X.env.locals → b ∉ X.fs → b ∉ ch → s.heap.get? b = some o → H b = none → h'.get? b = some o)
    (slot : ∀ b o, b ≠ X.env.locals → b ∈ X.fs → b ∉ ch → s.heap.get? b = some o → H b = none → ∃ sl, h'.get? b = some { o with slots := sl }) (free : ∀ b o, b ∉ ch → s.heap.get? b = some o → H b = none → H' b = none)
    (there : ∀ b o, b ∉ ch → s.heap.get? b = some o → ∃ o', h'.get? b = some o')
    (tups : ∀ b xs, H b = some (.tup xs) → H' b = some (.tup xs)) (frzs : ∀ b o u, H b = some (.frz o u) → H' b = some (.frz o u)) (tbls : ∀ b ps, H b = some (.tbl ps) → ∃ more, H' b = some (.tbl (ps ++ more)))
    (ns : ∀ m, s.heap.Ns X.env.locals m → h'.Ns X.env.locals m) (hok : HOk X.prog X.w H' h') (hg : AllBare g') :
    Inv X pins σ H' { s with heap := h', gens := g', drawn := d', toks := t' } := by
  have neL : ∀ b o, X.s₀.heap.get? b = some o → b ≠ X.env.locals := fun b o e => Nat.ne_of_lt (Nat.lt_of_lt_of_le (Heap.lt_size e) I.ok.above)
  have neC : ∀ b o, X.s₀.heap.get? b = some o → b ∉ X.ex → b ∉ ch := fun b o e hx hb => by
    rcases (hch b hb).1 with z | z
    · exact hx z
    · exact absurd (Nat.lt_of_lt_of_le (Heap.lt_size e) z) (Nat.lt_irrefl _)
  have cellK : ∀ x c, X.env.cells.lookup x = some c → ∀ v, s.heap.IsCell c v → h'.IsCell c v := fun x c e v ⟨o, ho, hd⟩ => by
    have nch : c ∉ ch := fun z => (hch c z).2.2.1 x c e rfl
    by_cases hc : c ∈ X.fs
    · obtain ⟨sl, q⟩ := slot c o (I.cne x c e) hc nch ho (I.freeC x c e)
      exact ⟨_, q, hd⟩
    · exact ⟨o, keep c o (I.cne x c e) hc nch ho (I.freeC x c e), hd⟩
  refine ⟨I.ok, I.os, hg, ⟨fun b o e n hb hx => ?_, fun b o e n hb hx => ?_, fun b o e n hx => ?_, fun b o e hx => ?_, fun b xs e => tups b xs (I.base.tups b xs e), fun b o xs e => frzs b o xs (I.base.frzs b o xs e), fun b ps e => ?_⟩, ?_, fun x c e => ?_, ?_, fun x c e => ?_, fun p hp => ?_, hok, I.len⟩
  · exact keep b o (neL b o e) hb (neC b o e hx) (I.base.keep b o e n hb hx) (I.base.free b o e n hx)
  · obtain ⟨sl, e1⟩ := I.base.slot b o e n hb hx
    obtain ⟨sl', e2⟩ := slot b _ (neL b o e) hb (neC b o e hx) e1 (I.base.free b o e n hx)
    exact ⟨sl', e2⟩
  · obtain ⟨o', e1⟩ := I.base.there b o e hx
    exact free b o' (neC b o e hx) e1 (I.base.free b o e n hx)
  · obtain ⟨o', e1⟩ := I.base.there b o e hx
    exact there b o' (neC b o e hx) e1
  · obtain ⟨m1, e1⟩ := I.base.tbls b ps e
    obtain ⟨m2, e2⟩ := tbls b _ e1
    exact ⟨m1 ++ m2, by rw [e2, Array.append_assoc]⟩
  · obtain ⟨m, hn, hl⟩ := I.loc
    refine ⟨m, ns m hn, fun i x v e1 e2 e3 => ?_⟩
    obtain ⟨u, r, l⟩ := hl i x v e1 e2 e3
    refine ⟨u, r, ?_⟩
    rcases l with l | ⟨k, c, e, z⟩
    · exact .inl l
    · exact .inr ⟨k, c, e, cellK x c e _ z⟩
  · obtain ⟨v, z⟩ := I.cell x c e
    exact ⟨v, cellK x c e v z⟩
  · obtain ⟨m, ⟨o, _, _, ho, _⟩, _⟩ := I.loc
    exact free _ o (fun z => (hch _ z).2.1 rfl) ho I.free
  · obtain ⟨v, o, ho, hd⟩ := I.cell x c e
    exact free c o (fun z => (hch c z).2.2.1 x c e rfl) ho (I.freeC x c e)
  · obtain ⟨e, n, ne, nf, d⟩ := I.pin p hp
    have nch : p.1 ∉ ch := fun z => (hch p.1 z).2.2.2 p hp rfl
    exact ⟨keep p.1 p.2 ne nf nch e n, free p.1 p.2 nch e n, ne, nf, d⟩
/-- .. where the frame's own object is kept too -/
theorem Inv.un {t' : Nat} (I : Inv X pins σ H s) (u : Un X.fs [] H H' s.heap h') (hok : HOk X.prog X.w H' h') : Inv X pins σ H' { s with heap := h', toks := t' } := by
  obtain ⟨m, ⟨o, es, ep, ho, r⟩, _⟩ := id I.loc
  obtain ⟨sl, hL⟩ := u.any ho I.free (by simp)
  exact I.step (g' := s.gens) (d' := s.drawn) (ch := []) (fun _ z => nomatch z) (fun b o _ hb _ e n => u.keep b o e n hb (by simp)) (fun b o _ hb _ e n => u.slot b o e n hb (by simp)) (fun b o _ e n => u.free b o e n (by simp)) (fun b o _ e => u.there b o e (by simp)) u.tups u.frzs u.tbls (fun m' hm => by
    obtain ⟨o', es', ep', ho', r'⟩ := hm
    rw [ho] at ho'; cases ho'
    exact ⟨_, es', ep', hL, r'⟩) hok I.bare
/-- behind a call (or a comprehension's block): the slots of this frame may have changed too, the records at ch may have turned -/
theorem Inv.call {g' : Array GenState} {t' : Nat} {d' : Drawn} {ch : List Addr} (I : Inv X pins σ H s) (u : Un (frs X.stack) ch H H' s.heap h') (hok : HOk X.prog X.w H' h') (hg : AllBare g')
    (hch : ∀ b ∈ ch, (b ∈ X.ex ∨ X.s₀.heap.objs.size ≤ b) ∧ b ≠ X.env.locals ∧ (∀ x c, X.env.cells.lookup x = some c → c ≠ b) ∧ ∀ p ∈ X.pn ++ pins, p.1 ≠ b) :
    Inv X pins σ H' { s with heap := h', gens := g', drawn := d', toks := t' } := by
  obtain ⟨m, ⟨o, es, ep, ho, r⟩, _⟩ := id I.loc
  obtain ⟨sl, hL⟩ := u.any ho I.free fun z => (hch _ z).2.1 rfl
  exact I.step (ch := ch) hch (fun b o hL hb hc e n => u.keep b o e n (fun z => (List.mem_cons.mp (I.stkSub b z)).elim hL hb) hc) (fun b o _ _ hc e n => u.any e n hc) (fun b o hc e n => u.free b o e n hc) (fun b o hc e => u.there b o e hc) u.tups u.frzs u.tbls (fun m' hm => by
    obtain ⟨o', es', ep', ho', r'⟩ := hm
    rw [ho] at ho'; cases ho'
    exact ⟨_, es', ep', hL, r'⟩) hok hg
/-- an untracked record of ours (an iterator) has turned -/
theorem Inv.turned {t' : Nat} {it : Addr} (I : Inv X pins σ H s) (k : ∀ b o, b ≠ it → s.heap.get? b = some o → h'.get? b = some o) (hn : H it = none) (hL : it ≠ X.env.locals)
    (h1 : it ∈ X.ex ∨ X.s₀.heap.objs.size ≤ it) (h2 : ∀ x c, X.env.cells.lookup x = some c → c ≠ it) (h3 : ∀ p ∈ X.pn ++ pins, p.1 ≠ it) : Inv X pins σ H { s with heap := h', toks := t' } := by
  have nit : ∀ b u, H b = some u → b ≠ it := fun b u e z => by rw [z, hn] at e; cases e
  refine I.step (g' := s.gens) (d' := s.drawn) (ch := [it]) (fun b hb => ?_) (fun b o _ _ hc e _ => k b o (fun z => hc (by simp [z])) e) (fun b o _ _ hc e _ => ⟨o.slots, k b o (fun z => hc (by simp [z])) e⟩) (fun _ _ _ _ n => n)
    (fun b o hc e => ⟨o, k b o (fun z => hc (by simp [z])) e⟩) (fun _ _ e => e) (fun _ _ _ e => e) (fun b ps e => ⟨#[], by rw [e]; simp⟩) (fun m hm => ?_) (fun b u e => ?_) I.bare
  · have e : b = it := by simpa using hb
    subst e
    exact ⟨h1, hL, h2, h3⟩
  · obtain ⟨o, es, ep, ho, r⟩ := hm
    exact ⟨o, es, ep, k _ o (Ne.symm hL) ho, r⟩
  · refine (I.hok b u e).stay (fun c v hc q => k c v ?_ q) (fun _ q => q) fun _ _ q => q
    rcases hc with z | z
    · rw [z]; exact nit b u e
    · exact nit c _ z
theorem Inv.tok (I : Inv X pins σ H s) (t : Nat) : Inv X pins σ H { s with toks := t } := I.un (h' := s.heap) (t' := t) Un.refl I.hok
/-- all objects kept -/
theorem Inv.kept {t' : Nat} (I : Inv X pins σ H s) (k : ∀ b u, s.heap.get? b = some u → h'.get? b = some u) : Inv X pins σ H { s with heap := h', toks := t' } := I.un (Un.kept k) (I.hok.kept k)
/-- a new object laid and tracked -/
theorem Inv.laid {a : Addr} {o : HO} {t' : Nat} (I : Inv X pins σ H s) (k : ∀ b u, s.heap.get? b = some u → h'.get? b = some u) (hp : s.heap.objs.size ≤ a) (new : ObjOk X.prog X.w (upd H a o) h' a o) :
    Inv X pins σ (upd H a o) { s with heap := h', toks := t' } := I.un (Un.laid k hp (I.hok.fresh hp)) (I.hok.laid k hp new)
/-- an object written -/
theorem Inv.write {x e : Addr} {o : HO} {t' : Nat} (I : Inv X pins σ H s) (mu : Mut (H x)) (he : e = x ∨ H e = some (.own x)) (k : ∀ b u, b ≠ e → s.heap.get? b = some u → h'.get? b = some u) (heo : ∃ u, h'.get? e = some u)
    (new : ObjOk X.prog X.w (upd H x o) h' x o) : Inv X pins σ (upd H x o) { s with heap := h', toks := t' } := I.un (Un.write mu he k heo) (I.hok.write mu he k heo new)
theorem Inv.pins_of {pins' : List (Addr × Obj)} (I : Inv X pins σ H s) (h : ∀ p ∈ pins', s.heap.get? p.1 = some p.2 ∧ H p.1 = none ∧ p.1 ≠ X.env.locals ∧ p.1 ∉ X.fs ∧ ∀ v, p.2.data ≠ .cell v) : Inv X pins' σ H s :=
  ⟨I.ok, I.os, I.bare, I.base, I.loc, I.cell, I.free, I.freeC, fun p hp => (List.mem_append.mp hp).elim (fun z => I.pin p (List.mem_append_left _ z)) (h p), I.hok, I.len⟩
theorem nodup_ix {N : List Str} (hN : N.Nodup) {i j : Nat} {x : Str} (a : N[i]? = some x) (b : N[j]? = some x) : i = j := by
  obtain ⟨h1, e1⟩ := List.getElem?_eq_some_iff.mp a
  obtain ⟨h2, e2⟩ := List.getElem?_eq_some_iff.mp b
  exact (List.getElem_inj hN).mp (e1.trans e2.symm)
/-- a name is stored; what changed -/
theorem store_ok2 {M : Model} {A : Around} {E : Value → Shared → Prop} {i : Nat} {x : Str} {v : V} {u : Value} {Q : Unit → Shared → Prop} (I : Inv X pins σ H s) (hN : X.N.Nodup) (hi : X.N[i]? = some x) (hx : Loc X.env.scope x) (r : RelV v u)
    (h : ∀ s', Inv X pins (σ.set i (some v)) H s' → (∃ a, Heap.SameBut a s.heap s'.heap ∧ (a = X.env.locals ∨ X.env.cells.lookup x = some a)) → Q () s') (hf : X.fn x = true ∨ X.env.scope.names.lookup x = some .local := by first | exact .inl rfl | exact .inr rfl | assumption) : wpAny M A (storeName X.env x u) Q E s := by
  obtain ⟨m, hn, hl⟩ := id I.loc
  have hcls : (X.env.scope.kind == .class || (X.env.scope.kind == .module && X.env.locals != X.env.globals)) = false := by rw [I.ok.kind]; rfl
  have hiσ : i < σ.length := by rw [I.len]; exact (List.getElem?_eq_some_iff.mp hi).1
  have cne := I.cne
  have tracked : ∀ {a : Addr} {h' : Heap}, (∃ o, s.heap.get? a = some o ∧ H a = none) → Heap.SameBut a s.heap h' → HOk X.prog X.w H h' := fun {a h'} ha hs b ob e => by
    obtain ⟨_, _, hfree⟩ := ha
    refine (I.hok b ob e).stay (fun c w' hc q => (hs.2 c ?_).trans q) (fun _ q => q) fun _ _ q => q
    rintro rfl
    rcases hc with rfl | hc
    · rw [hfree] at e; cases e
    · rw [hfree] at hc; cases hc
  rcases hx with hk | hk
  · refine wpAny_storeName_local hk hn (fun h' hn' hs => ?_) hcls
    obtain ⟨oL, _, _, hoL, _⟩ := id hn
    refine h _ ⟨I.ok, I.os, I.bare, ⟨fun b o e n hb hx => ?_, fun b o e n hb hx => ?_, I.base.free, fun b o e hx => ?_, I.base.tups, I.base.frzs, I.base.tbls⟩, ⟨_, hn', fun j y v' e1 e2 e3 => ?_⟩, fun y c e => ?_, I.free, I.freeC, fun p hp => ?_, tracked ⟨oL, hoL, I.free⟩ hs, by simpa using I.len⟩ ⟨_, hs, .inl rfl⟩
    · exact (hs.2 b (Nat.ne_of_lt (Nat.lt_of_lt_of_le (Heap.lt_size e) I.ok.above))).trans (I.base.keep b o e n hb hx)
    · obtain ⟨sl, e1⟩ := I.base.slot b o e n hb hx
      exact ⟨sl, (hs.2 b (Nat.ne_of_lt (Nat.lt_of_lt_of_le (Heap.lt_size e) I.ok.above))).trans e1⟩
    · obtain ⟨o', e1⟩ := I.base.there b o e hx
      exact ⟨o', (hs.2 b (Nat.ne_of_lt (Nat.lt_of_lt_of_le (Heap.lt_size e) I.ok.above))).trans e1⟩
    · by_cases hj : j = i
      · subst hj
        rw [hi] at e1; cases e1
        rw [List.getElem?_set_self hiσ] at e2
        cases e2
        exact ⟨u, r, .inl ⟨hk, by simp⟩⟩
      · rw [List.getElem?_set_ne (Ne.symm hj)] at e2
        obtain ⟨u', r', q⟩ := hl j y v' e1 e2 e3
        refine ⟨u', r', ?_⟩
        rcases q with ⟨k, e⟩ | ⟨k, c, e, z⟩
        · refine .inl ⟨k, ?_⟩
          have : y ≠ x := fun e => hj (nodup_ix hN e1 (e ▸ hi))
          simp [this, e]
        · exact .inr ⟨k, c, e, z.sameBut hs (cne y c e)⟩
    · obtain ⟨w', z⟩ := I.cell y c e
      exact ⟨w', z.sameBut hs (cne y c e)⟩
    · obtain ⟨e, n, ne, nf, d⟩ := I.pin p hp
      exact ⟨(hs.2 p.1 ne).trans e, n, ne, nf, d⟩
  · have hfn : X.fn x = true := by
      rcases hf with z | z
      · exact z
      · rw [z] at hk; cases hk
    obtain ⟨c, hc⟩ := I.ok.has x (.inl hk)
    obtain ⟨w', z⟩ := I.cell x c hc
    refine wpAny_storeName_cell I.ok.kind hk hc z (fun h' hc' hs => ?_)
    obtain ⟨oc, hoc, hocd⟩ := id z
    refine h { s with heap := h' } ⟨I.ok, I.os, I.bare, ⟨fun b o e n hb hx => ?_, fun b o e n hb hx => ?_, I.base.free, fun b o e hx => ?_, I.base.tups, I.base.frzs, I.base.tbls⟩, ⟨m, hn.sameBut hs (Ne.symm (cne x c hc)), fun j y v' e1 e2 e3 => ?_⟩, fun y c' e => ?_, I.free, I.freeC, fun p hp => ?_, tracked ⟨oc, hoc, I.freeC x c hc⟩ hs, by simpa using I.len⟩ ⟨c, hs, .inr hc⟩
    · exact (hs.2 b (Nat.ne_of_lt (Nat.lt_of_lt_of_le (Heap.lt_size e) (I.ok.cab x c hfn hc)))).trans (I.base.keep b o e n hb hx)
    · obtain ⟨sl, e1⟩ := I.base.slot b o e n hb hx
      exact ⟨sl, (hs.2 b (Nat.ne_of_lt (Nat.lt_of_lt_of_le (Heap.lt_size e) (I.ok.cab x c hfn hc)))).trans e1⟩
    · obtain ⟨o', e1⟩ := I.base.there b o e hx
      exact ⟨o', (hs.2 b (Nat.ne_of_lt (Nat.lt_of_lt_of_le (Heap.lt_size e) (I.ok.cab x c hfn hc)))).trans e1⟩
    · by_cases hj : j = i
      · subst hj
        rw [hi] at e1; cases e1
        rw [List.getElem?_set_self hiσ] at e2
        cases e2
        exact ⟨u, r, .inr ⟨.inl hk, c, hc, hc'⟩⟩
      · rw [List.getElem?_set_ne (Ne.symm hj)] at e2
        obtain ⟨u', r', q⟩ := hl j y v' e1 e2 e3
        refine ⟨u', r', ?_⟩
        rcases q with q | ⟨k, c', e, z'⟩
        · exact .inl q
        · refine .inr ⟨k, c', e, z'.sameBut hs ?_⟩
          rintro rfl
          exact hj (nodup_ix hN e1 (I.ok.inj _ _ _ e hc ▸ hi))
    · by_cases hcc : c' = c
      · subst hcc; exact ⟨_, hc'⟩
      · obtain ⟨w2, z2⟩ := I.cell y c' e
        exact ⟨w2, z2.sameBut hs hcc⟩
    · obtain ⟨e, n, ne, nf, d⟩ := I.pin p hp
      refine ⟨(hs.2 p.1 ?_).trans e, n, ne, nf, d⟩
      intro q
      rw [q, hoc] at e
      have q' : oc = p.2 := Option.some.inj e
      exact d w' (by rw [← q']; exact hocd)
theorem store_ok {M : Model} {A : Around} {E : Value → Shared → Prop} {i : Nat} {x : Str} {v : V} {u : Value} {Q : Unit → Shared → Prop} (I : Inv X pins σ H s) (hN : X.N.Nodup) (hi : X.N[i]? = some x) (hx : Loc X.env.scope x) (r : RelV v u)
    (h : ∀ s', Inv X pins (σ.set i (some v)) H s' → Q () s') (hf : X.fn x = true ∨ X.env.scope.names.lookup x = some .local := by first | exact .inl rfl | exact .inr rfl | assumption) : wpAny M A (storeName X.env x u) Q E s :=
  store_ok2 I hN hi hx r (fun s' I' _ => h s' I') hf
/-- behind a call or a block, the state as it is -/
theorem Inv.call' {s' : Shared} {ch : List Addr} (I : Inv X pins σ H s) (ho : s'.os = s.os) (u : Un (frs X.stack) ch H H' s.heap s'.heap) (hok : HOk X.prog X.w H' s'.heap) (hg : AllBare s'.gens)
    (hch : ∀ b ∈ ch, (b ∈ X.ex ∨ X.s₀.heap.objs.size ≤ b) ∧ b ≠ X.env.locals ∧ (∀ x c, X.env.cells.lookup x = some c → c ≠ b) ∧ ∀ p ∈ X.pn ++ pins, p.1 ≠ b) : Inv X pins σ H' s' := by
  obtain ⟨h', g', d', t', o'⟩ := s'
  have e : o' = s.os := ho
  subst e
  exact I.call (g' := g') (t' := t') (d' := d') u hok hg hch
end
/-- an exception: its class, its own dict's address (where it has one), the abstract heap behind it -/
abbrev XK := Value → Option Addr → Hp → Prop
abbrev St := List (Option V)
abbrev VK := V → Hp → Prop
/-- an expression's reading; a test's; an argument list's -/
abbrev TE := St → Hp → VK → Prop
abbrev TT := St → Hp → (Bool → Hp → Prop) → Prop
abbrev TA := St → Hp → (List V → Hp → Prop) → Prop
/-- what is wanted behind a statement -/
structure Ends where
  nx : St → Hp → Prop
  rt : VK
  bk : St → Hp → Prop := fun _ _ => False
  ct : St → Hp → Prop := fun _ _ => False
abbrev TS := Ends → St → Hp → Prop
def EP (X : Cx) (pins : List (Addr × Obj)) (σ : St) (Q : VK) (u : Value) (s' : Shared) : Prop := ∃ v H', Inv X pins σ H' s' ∧ RelV v u ∧ Q v H'
def TP (X : Cx) (pins : List (Addr × Obj)) (σ : St) (Q : Bool → Hp → Prop) (b : Bool) (s' : Shared) : Prop := ∃ H', Inv X pins σ H' s' ∧ Q b H'
def AP (X : Cx) (pins : List (Addr × Obj)) (σ : St) (Q : List V → Hp → Prop) (us : List Value) (s' : Shared) : Prop := ∃ vs H', Inv X pins σ H' s' ∧ Vals vs us ∧ Q vs H'
def SP (X : Cx) (pins : List (Addr × Obj)) (D : Ends) (f : Flow) (s' : Shared) : Prop :=
  match f with
  | .next => ∃ σ' H', Inv X pins σ' H' s' ∧ D.nx σ' H'
  | .brk => ∃ σ' H', Inv X pins σ' H' s' ∧ D.bk σ' H'
  | .cont => ∃ σ' H', Inv X pins σ' H' s' ∧ D.ct σ' H'
  | .ret u => ∃ v σ' H', Inv X pins σ' H' s' ∧ RelV v u ∧ D.rt v H'
def PE (X : Cx) (e : Expr) (t : TE) : Prop :=
  ∀ (pins : List (Addr × Obj)) (s : Shared) (σ : St) (H : Hp) (Q : VK), Inv X pins σ H s → t σ H Q → wpAny (model X.prog X.w) X.A (eval e X.env) (EP X pins σ Q) X.xe s
def PT (X : Cx) (e : Expr) (t : TT) : Prop :=
  ∀ (pins : List (Addr × Obj)) (s : Shared) (σ : St) (H : Hp) (Q : Bool → Hp → Prop), Inv X pins σ H s → t σ H Q → wpAny (model X.prog X.w) X.A (isTrue e X.env (eval e X.env)) (TP X pins σ Q) X.xe s
/-- a test whatever its 'whole' is (and, or) -/
def PW (X : Cx) (e : Expr) (t : TT) : Prop :=
  ∀ (whole : Sem Value) (pins : List (Addr × Obj)) (s : Shared) (σ : St) (H : Hp) (Q : Bool → Hp → Prop), Inv X pins σ H s → t σ H Q → wpAny (model X.prog X.w) X.A (isTrue e X.env whole) (TP X pins σ Q) X.xe s
theorem PW.pt {X : Cx} {e : Expr} {t : TT} (h : PW X e t) : PT X e t := h _
/-- an argument list (no star), from the left -/
def PA (X : Cx) (es : List Expr) (t : TA) : Prop :=
  ∀ (pos : Pos) (pins : List (Addr × Obj)) (s : Shared) (σ : St) (H : Hp) (Q : List V → Hp → Prop), Inv X pins σ H s → t σ H Q → wpAny (model X.prog X.w) X.A (spliced (backTo pos (starEach es X.env))) (AP X pins σ Q) X.xe s
def PS (X : Cx) (st : Stmt) (t : TS) : Prop :=
  ∀ (pins : List (Addr × Obj)) (s : Shared) (σ : St) (H : Hp) (D : Ends), Inv X pins σ H s → t D σ H → wpAny (model X.prog X.w) X.A (exec st X.env) (SP X pins D) X.xe s
def PSs (X : Cx) (st : List Stmt) (t : TS) : Prop :=
  ∀ (pins : List (Addr × Obj)) (s : Shared) (σ : St) (H : Hp) (D : Ends), Inv X pins σ H s → t D σ H → wpAny (model X.prog X.w) X.A (execs st X.env) (SP X pins D) X.xe s
/-- weaken the end -/
theorem thn {α : Type} {t : Sem α} {Q Q' : α → Shared → Prop} {M : Model} {A : Around} {E : Value → Shared → Prop} {s : Shared} (h : wpAny M A t Q E s) (hQ : ∀ a s, Q a s → Q' a s) : wpAny M A t Q' E s := wpAny_mono h hQ fun _ _ x => x
end L2
namespace L2
open PySem PySem.Spec PyProof.Rows
section
variable {X : Cx}
/-- two expressions in a row -/
theorem bin {a b : Expr} {ta tb : TE} (ha : PE X a ta) (hb : PE X b tb) {pins : List (Addr × Obj)} {s : Shared} {σ : St} {H : Hp} {R : V → V → Hp → Prop} (I : Inv X pins σ H s) (h : ta σ H fun x H1 => tb σ H1 fun y H2 => R x y H2)
    {α : Type} {Q : α → Shared → Prop} {f : Value → Value → Sem α}
    (hf : ∀ v u s2 x y H2, Inv X pins σ H2 s2 → RelV x v → RelV y u → R x y H2 → wpAny (model X.prog X.w) X.A (f v u) Q X.xe s2) :
    wpAny (model X.prog X.w) X.A (eval a X.env) (fun v s₁ => wpAny (model X.prog X.w) X.A (eval b X.env) (fun u s₂ => wpAny (model X.prog X.w) X.A (f v u) Q X.xe s₂) X.xe s₁) X.xe s := by
  refine thn (ha pins s σ H _ I h) fun v s1 ⟨x, H1, I1, r1, q1⟩ => ?_
  refine thn (hb pins s1 σ H1 _ I1 q1) fun u s2 ⟨y, H2, I2, r2, q2⟩ => ?_
  exact hf v u s2 x y H2 I2 r1 r2 q2
def tVar (i : Nat) : TE := fun σ H Q => ∃ v, σ[i]? = some (some v) ∧ Q v H
def tC (v : V) : TE := fun _ H Q => Q v H
theorem pe_var {i : Nat} {x : Str} {pos : Pos} (hN : X.N[i]? = some x) (hv : Vis X.env.scope x) (hd : (x == ("__debug__" : Str)) = false := by decide) (hcd : (x == ("__classdict__" : Str)) = false := by decide) : PE X (.Name x pos) (tVar i) := by
  intro pins s σ H Q I h
  obtain ⟨v, e, h⟩ := h
  obtain ⟨m, hn, hl⟩ := I.loc
  obtain ⟨u, r, l⟩ := hl i x v hN e hv
  have fin : EP X pins σ Q u s := ⟨v, H, I, r, h⟩
  rcases l with ⟨hk, hm⟩ | ⟨hk, c, hc, hcell⟩
  · exact wpAny_Name (wpAny_loadName_local I.ok.kind hk hn hm fin) hd
  · rcases hk with hk | hk
    · exact wpAny_Name (wpAny_loadName_cell I.ok.kind hk hc hcell fin) hd
    · exact wpAny_Name (wpAny_loadName_free I.ok.kind hk hc hcell fin hcd) hd
theorem pe_int {i j pos} : PE X (.Constant (.int i) j pos) (tC (.int i)) := fun _ _ _ H _ I h => wpAny_Constant_int ⟨.int i, H, I.tok _, ⟨_, rfl⟩, h⟩
theorem pe_bl {b j pos} : PE X (.Constant (.bool b) j pos) (tC (.bl b)) := fun _ _ _ H _ I h => Constant_bool ⟨.bl b, H, I, rfl, h⟩
theorem pe_non {j pos} : PE X (.Constant .none j pos) (tC .non) := fun _ _ _ H _ I h => Constant_none ⟨.non, H, I, rfl, h⟩
theorem pe_str {x j pos} : PE X (.Constant (.str x) j pos) (tC (.str x)) := fun _ _ _ H _ I h => Calls.Constant_str ⟨.str x, H, I.tok _, ⟨_, rfl⟩, h⟩
/-- a global name of the def -/
def Gl (X : Cx) (x : Str) : Prop := X.env.kindOf x = some .globalImplicit
theorem ld_glob {E : Value → Shared → Prop} {pins : List (Addr × Obj)} {s : Shared} {σ : St} {H : Hp} {x : Str} {u : Value} {pos : Pos} {Q : Value → Shared → Prop} (I : Inv X pins σ H s) (hg : Gl X x) (hm : X.mg x = some u) (h : Q u s)
    (hd : (x == ("__debug__" : Str)) = false := by decide) : wpAny (model X.prog X.w) X.A (eval (.Name x pos) X.env) Q E s :=
  Calls.Name_function_global I.ok.kind hg (Calls.loadGlobal_global (by rw [I.ok.glob]; exact I.mod.glob.keeps I.bk) hm h) hd
theorem ld_blt {E : Value → Shared → Prop} {pins : List (Addr × Obj)} {s : Shared} {σ : St} {H : Hp} {x : Str} {u : Value} {pos : Pos} {Q : Value → Shared → Prop} (I : Inv X pins σ H s) (hg : Gl X x) (hm : X.mg x = none) (hv : bootBuiltins x = some u) (h : Q u s)
    (hn : x ≠ "__name__" := by decide) (hd : (x == ("__debug__" : Str)) = false := by decide) : wpAny (model X.prog X.w) X.A (eval (.Name x pos) X.env) Q E s := by
  obtain ⟨mb, h1, h2⟩ := I.mod.blt
  exact Calls.Name_function_global I.ok.kind hg (Calls.loadGlobal_builtin (by rw [I.ok.glob]; exact I.mod.glob.keeps I.bk) hm (by rw [I.ok.blt]; exact h1.keeps I.bk) ((h2 x hn).trans hv) h) hd
/-- a module's constant, a class, a function, as a value -/
theorem pe_glob {x : Str} {v : V} {u : Value} {pos : Pos} (hg : Gl X x) (hm : X.mg x = some u) (r : RelV v u) (hd : (x == ("__debug__" : Str)) = false := by decide) : PE X (.Name x pos) (tC v) :=
  fun _ _ _ H _ I h => ld_glob I hg hm ⟨v, H, I, r, h⟩ hd
theorem pe_bltn {x : Str} {v : V} {u : Value} {pos : Pos} (hg : Gl X x) (hm : X.mg x = none) (hv : bootBuiltins x = some u) (r : RelV v u) (hn : x ≠ "__name__" := by decide) (hd : (x == ("__debug__" : Str)) = false := by decide) : PE X (.Name x pos) (tC v) :=
  fun _ _ _ H _ I h => ld_blt I hg hm hv ⟨v, H, I, r, h⟩ hn hd
variable {a b : Expr} {ta tb : TE} {pos : Pos}
def PC (X : Cx) (op : CmpOp) (a b : Expr) (t : TE) : Prop :=
  ∀ (pins : List (Addr × Obj)) (s : Shared) (σ : St) (H : Hp) (Q : VK), Inv X pins σ H s → t σ H Q →
    wpAny (model X.prog X.w) X.A (eval a X.env) (fun v s₁ => wpAny (model X.prog X.w) X.A (eval b X.env) (fun u s₂ => wpAny (model X.prog X.w) X.A (compareOp op v u) (EP X pins σ Q) X.xe s₂) X.xe s₁) X.xe s
theorem nobehind (b : Expr) {op : CmpOp} (h : op ≠ .In) (h2 : op ≠ .NotIn) : behindInMarks op b = false := by
  have e1 : (op == CmpOp.In) = false := by cases op <;> first | rfl | exact absurd rfl h
  have e2 : (op == CmpOp.NotIn) = false := by cases op <;> first | rfl | exact absurd rfl h2
  cases b <;> simp [behindInMarks, e1, e2]
def tNotN (ta : TE) : TE := fun σ H Q => ta σ H fun x H1 => Q (.bl (!decide (x = .non))) H1
theorem RelV.none_iff {x : V} {v : Value} (r : RelV x v) : (v == Value.none) = decide (x = .non) := by
  cases x with
  | non => cases r; rfl
  | bl _ => cases r; rfl
  | int _ => obtain ⟨t, rfl⟩ := r; rfl
  | str _ => obtain ⟨t, rfl⟩ := r; rfl
  | byt _ => obtain ⟨t, rfl⟩ := r; rfl
  | flt _ => obtain ⟨t, rfl⟩ := r; rfl
  | ref _ => cases r; rfl
  | ty _ => cases r; rfl
theorem pc_notN {j pos'} (ha : PE X a ta) : PC X .IsNot a (.Constant .none j pos') (tNotN ta) := by
  intro pins s σ H Q I h
  refine thn (ha pins s σ H _ I h) fun v s1 ⟨x, H1, I1, r1, q1⟩ => ?_
  exact Constant_none (isnot_none_gen ⟨.bl _, H1, I1, by rw [r1.none_iff]; rfl, q1⟩)
/-- a comparison as a value, as a test -/
def tB (t : TE) : TT := fun σ H Q => t σ H fun x H1 => ∃ c, x = .bl c ∧ Q c H1
theorem pt_cmp {op : CmpOp} {t : TE} (h : PC X op a b t) (h1 : behindInMarks op b = false := by first | exact nobehind _ (by decide) (by decide) | rfl) : PT X (.Compare a [op] [b] pos) (tB t) := by
  intro pins s σ H Q I hw
  refine wpAny_isTrue_Compare1 (thn (h pins s σ H _ I hw) fun v s1 h1 => thn h1 fun u s2 h2 => thn h2 fun c s3 ⟨x, H1, I1, r1, q1⟩ => ?_) h1
  obtain ⟨d, rfl, q⟩ := q1
  cases r1
  exact wpAny_truthy_bool ⟨H1, I1, q⟩
/-- an expression whose value is a bool, as a test -/
theorem pt_val {e : Expr} {t : TE} (h : PE X e t) (he : ∀ whole, isTrue e X.env whole = (do let v ← whole; standAt e.pos; holding [v] (truthy v)) := by intro _; rfl) : PT X e (tB t) := by
  intro pins s σ H Q I hw
  refine isTrue_plain (thn (h pins s σ H _ I hw) fun v s1 ⟨x, H1, I1, r1, q1⟩ => ?_) (he _)
  obtain ⟨d, rfl, q⟩ := q1
  cases r1
  exact wpAny_truthy_bool ⟨H1, I1, q⟩
variable {tA tB' : TT} {rest : List Expr}
def tAnd (t u : TT) : TT := fun σ H Q => t σ H fun c H1 => if c = true then u σ H1 Q else Q false H1
def tOr (t u : TT) : TT := fun σ H Q => t σ H fun c H1 => if c = true then Q true H1 else u σ H1 Q
def tNot (t : TT) : TT := fun σ H Q => t σ H fun c H1 => Q (!c) H1
theorem pw_and1 (ha : PT X a tA) : PW X (.BoolOp .And [a] pos) tA := by
  intro wh pins s σ H Q I h
  refine isTrue_and (thn (ha pins s σ H Q I h) fun c s1 e => ?_)
  cases c with
  | true => exact isTrue_and_nil e
  | false => exact e
theorem pw_or1 (ha : PT X a tA) : PW X (.BoolOp .Or [a] pos) tA := by
  intro wh pins s σ H Q I h
  refine isTrue_or (thn (ha pins s σ H Q I h) fun c s1 e => ?_)
  cases c with
  | false => exact isTrue_or_nil e
  | true => exact e
theorem pw_and (ha : PT X a tA) (hb : PW X (.BoolOp .And (b :: rest) pos) tB') : PW X (.BoolOp .And (a :: b :: rest) pos) (tAnd tA tB') := by
  intro wh pins s σ H Q I h
  refine isTrue_and (thn (ha pins s σ H _ I h) fun c s1 ⟨H1, I1, q1⟩ => ?_)
  cases c with
  | true => exact hb wh pins s1 σ H1 Q I1 q1
  | false => exact ⟨H1, I1, q1⟩
theorem pw_or (ha : PT X a tA) (hb : PW X (.BoolOp .Or (b :: rest) pos) tB') : PW X (.BoolOp .Or (a :: b :: rest) pos) (tOr tA tB') := by
  intro wh pins s σ H Q I h
  refine isTrue_or (thn (ha pins s σ H _ I h) fun c s1 ⟨H1, I1, q1⟩ => ?_)
  cases c with
  | true => exact ⟨H1, I1, q1⟩
  | false => exact hb wh pins s1 σ H1 Q I1 q1
theorem pt_not (ha : PT X a tA) : PT X (.UnaryOp .Not a pos) (tNot tA) := by
  intro pins s σ H Q I h
  exact isTrue_not (ha pins s σ H (fun c H1 => Q (!c) H1) I h)
/-- .. as values (bools) -/
def tAndV (ta tb : TE) : TE := fun σ H Q => ta σ H fun x H1 => ∃ c, x = .bl c ∧ if c = true then tb σ H1 Q else Q (.bl false) H1
def tNotV (ta : TE) : TE := fun σ H Q => ta σ H fun x H1 => ∃ c, x = .bl c ∧ Q (.bl (!c)) H1
theorem pe_one {op} {t : TE} (h : PE X a t) : PE X (.BoolOp op [a] pos) t := fun pins s σ H Q I hw => BoolOp_one (h pins s σ H Q I hw)
theorem pe_and (ha : PE X a ta) (hb : PE X (.BoolOp .And (b :: rest) pos) tb) : PE X (.BoolOp .And (a :: b :: rest) pos) (tAndV ta tb) := by
  intro pins s σ H Q I h
  refine BoolOp_and (thn (ha pins s σ H _ I h) fun v s1 ⟨x, H1, I1, r1, q1⟩ => ?_)
  obtain ⟨c, rfl, q1⟩ := q1
  cases r1
  refine wpAny_truthy_bool ?_
  cases c with
  | true => exact hb pins s1 σ H1 Q I1 q1
  | false => exact ⟨.bl false, H1, I1, rfl, q1⟩
theorem pe_not (ha : PE X a ta) : PE X (.UnaryOp .Not a pos) (tNotV ta) := by
  intro pins s σ H Q I h
  refine UnaryOp_ (thn (ha pins s σ H _ I h) fun v s1 ⟨x, H1, I1, r1, q1⟩ => ?_)
  obtain ⟨c, rfl, q1⟩ := q1
  cases r1
  exact not_of (wpAny_truthy_bool ⟨.bl (!c), H1, I1, rfl, q1⟩)
end
end L2
namespace L2
open PySem PySem.Spec PyProof.Rows
def SqL (K : PySem.W.Frag) (H : Hp) (a : Addr) (xs : List V) : Prop :=
  Rd H a (.lst xs) ∨
    ∃ (o : Obj) (its : Array Value) (n : Nat), K.lookup a = some o ∧ o.cls = .type "list" ∧ o.dict = none ∧ o.data = .seq its n ∧ its.size ≤ sizeLine ∧ Vals xs its.toList
def SqT (K : PySem.W.Frag) (H : Hp) (a : Addr) (xs : List V) : Prop :=
  Rd H a (.tup xs) ∨
    ∃ (o : Obj) (its : Array Value) (n : Nat), K.lookup a = some o ∧ o.cls = .type "tuple" ∧ o.data = .seq its n ∧ its.size ≤ sizeLine ∧ Vals xs its.toList
def absV : Value → Option V
  | .none => some .non
  | .bool b => some (.bl b)
  | .int i _ => some (.int i)
  | .str x _ => some (.str x)
  | .bytes b _ => some (.byt b)
  | .float b _ => some (.flt b)
  | .ref a => some (.ref a)
  | .type n => some (.ty n)
  | _ => none
theorem RelV.abs {x : V} {u : Value} (r : RelV x u) : absV u = some x := by
  cases x with
  | non => cases r; rfl
  | bl _ => cases r; rfl
  | int _ => obtain ⟨t, rfl⟩ := r; rfl
  | str _ => obtain ⟨t, rfl⟩ := r; rfl
  | byt _ => obtain ⟨t, rfl⟩ := r; rfl
  | flt _ => obtain ⟨t, rfl⟩ := r; rfl
  | ref _ => cases r; rfl
  | ty _ => cases r; rfl
theorem RelV.inj {x y : V} {u : Value} (r : RelV x u) (q : RelV y u) : x = y := Option.some.inj (r.abs.symm.trans q.abs)
theorem Vals.inj : ∀ {xs ys : List V} {us : List Value}, Vals xs us → Vals ys us → xs = ys
  | _, _, _, .nil, .nil => rfl
  | _, _, _, .cons r t, .cons r' t' => by rw [r.inj r', Vals.inj t t']
section
variable {X : Cx} {pins : List (Addr × Obj)} {σ : St} {H : Hp} {s : Shared} {a : Addr} {xs ys : List V}
theorem SqL.of {K : PySem.W.Frag} (h : H a = some (.lst xs)) : SqL K H a xs := .inl (.inl h)
theorem SqT.of {K : PySem.W.Frag} (h : H a = some (.tup xs)) : SqT K H a xs := .inl (.inl h)
theorem Inv.list (I : Inv X pins σ H s) (h : SqL X.K H a xs) : ∃ its : List Value, Vals xs its ∧ PlainL s.heap a its.toArray ∧ xs.length ≤ sizeLine := by
  rcases h with h | ⟨o, its, n, hk, hc, hd, hs, hz, r⟩
  · obtain ⟨z, its, n, r, e⟩ := h.ok I.hok
    exact ⟨its, r, ⟨_, n, e, rfl, rfl, rfl⟩, z⟩
  · refine ⟨its.toList, r, ⟨o, n, I.kIn a o hk, hc, hd, by simpa using hs⟩, ?_⟩
    have e := r.length
    simp only [Array.length_toList] at e
    omega
theorem Inv.tuple (I : Inv X pins σ H s) (h : SqT X.K H a xs) : ∃ its : List Value, Vals xs its ∧ IsTup s.heap a its.toArray ∧ xs.length ≤ sizeLine := by
  rcases h with h | ⟨o, its, n, hk, hc, hs, hz, r⟩
  · obtain ⟨z, its, r, p⟩ := h.ok I.hok
    exact ⟨its, r, p, z⟩
  · refine ⟨its.toList, r, ⟨o, I.kIn a o hk, hc, n, by simpa using hs⟩, ?_⟩
    have e := r.length
    simp only [Array.length_toList] at e
    omega
theorem Inv.list_inj (I : Inv X pins σ H s) (h : SqL X.K H a xs) (h' : SqL X.K H a ys) : xs = ys := by
  obtain ⟨its, r, ⟨o, n, e, _, _, d⟩, _⟩ := I.list h
  obtain ⟨its', r', ⟨o', n', e', _, _, d'⟩, _⟩ := I.list h'
  rw [e] at e'; cases e'
  rw [d] at d'
  injection d' with d1 _
  have : its = its' := by simpa using congrArg Array.toList d1
  subst this
  exact r.inj r'
theorem Inv.tuple_inj (I : Inv X pins σ H s) (h : SqT X.K H a xs) (h' : SqT X.K H a ys) : xs = ys := by
  obtain ⟨its, r, ⟨o, e, _, n, d⟩, _⟩ := I.tuple h
  obtain ⟨its', r', ⟨o', e', _, n', d'⟩, _⟩ := I.tuple h'
  rw [e] at e'; cases e'
  rw [d] at d'
  injection d' with d1 _
  have : its = its' := by simpa using congrArg Array.toList d1
  subst this
  exact r.inj r'
end
abbrev Cx.wish (X : Cx) (E : Value → Shared → Prop) : Cx := { X with xe := E }
/-- no exception leaves -/
abbrev Cx.nox (X : Cx) : Cx := X.wish fun _ _ => False
theorem Cx.Ok.wish {X : Cx} (ok : X.Ok) (E : Value → Shared → Prop) : (X.wish E).Ok :=
  ⟨ok.mod, ok.kind, ok.glob, ok.blt, ok.above, ok.inj, ok.has, ok.cab, ok.hd, ok.frames, ok.stk, ok.exf, ok.bs, ok.bsz, ok.noex, ok.exfs, ok.funs, ok.frf⟩
theorem Cx.Ok.unwish {X : Cx} {E : Value → Shared → Prop} (ok : (X.wish E).Ok) : X.Ok :=
  ⟨ok.mod, ok.kind, ok.glob, ok.blt, ok.above, ok.inj, ok.has, ok.cab, ok.hd, ok.frames, ok.stk, ok.exf, ok.bs, ok.bsz, ok.noex, ok.exfs, ok.funs, ok.frf⟩
section
variable {X : Cx} {pins : List (Addr × Obj)} {σ : St} {H : Hp} {s : Shared} {E : Value → Shared → Prop}
theorem Inv.wish (I : Inv X pins σ H s) (E : Value → Shared → Prop) : Inv (X.wish E) pins σ H s := ⟨I.ok.wish E, I.os, I.bare, I.base, I.loc, I.cell, I.free, I.freeC, I.pin, I.hok, I.len⟩
theorem Inv.unwish (I : Inv (X.wish E) pins σ H s) : Inv X pins σ H s := ⟨I.ok.unwish, I.os, I.bare, I.base, I.loc, I.cell, I.free, I.freeC, I.pin, I.hok, I.len⟩
theorem SP.unwish {D : Ends} {f : Flow} {s' : Shared} (h : SP (X.wish E) pins D f s') : SP X pins D f s' := by
  cases f with
  | next => obtain ⟨σ', H', I, q⟩ := h; exact ⟨σ', H', I.unwish, q⟩
  | brk => obtain ⟨σ', H', I, q⟩ := h; exact ⟨σ', H', I.unwish, q⟩
  | cont => obtain ⟨σ', H', I, q⟩ := h; exact ⟨σ', H', I.unwish, q⟩
  | ret u => obtain ⟨v, σ', H', I, r, q⟩ := h; exact ⟨v, σ', H', I.unwish, r, q⟩
theorem PSs.nox {st : List Stmt} {t : TS} (h : PSs X.nox st t) : PSs X st t := fun pins s σ H D I hw =>
  wpAny_mono (h pins s σ H D (I.wish _) hw) (fun _ _ q => q.unwish) fun _ _ z => False.elim z
end
section
variable {X : Cx} {st : Stmt} {rest : List Stmt} {t u : TS} {e : Expr} {te : TE} {pos : Pos}
def tNext : TS := fun D σ H => D.nx σ H
def tSeq (t u : TS) : TS := fun D σ H => t { D with nx := u D } σ H
theorem pss_nil : PSs X [] tNext := fun _ _ σ H _ I h => wpAny_execs_nil ⟨σ, H, I, h⟩
theorem pss_cons (h1 : PS X st t) (h2 : PSs X rest u) : PSs X (st :: rest) (tSeq t u) := by
  intro pins s σ H D I h
  refine wpAny_execs_cons (thn (h1 pins s σ H { D with nx := u D } I h) fun f s1 q => ?_)
  cases f with
  | next =>
    obtain ⟨σ', H', I', q⟩ := q
    exact h2 pins s1 σ' H' D I' q
  | ret v => exact q
  | brk => exact q
  | cont => exact q
theorem pss_one (h1 : PS X st t) : PSs X [st] t := by
  intro pins s σ H D I h
  refine wpAny_execs_cons (thn (h1 pins s σ H D I h) fun f s1 q => ?_)
  cases f with
  | next => exact wpAny_execs_nil q
  | ret v => exact q
  | brk => exact q
  | cont => exact q
/-- in a def's body nothing is shown -/
theorem Inv.quiet {pins : List (Addr × Obj)} {σ : St} {H : Hp} {s : Shared} (I : Inv X pins σ H s) : interactive X.env = false := by simp [interactive, I.ok.kind]
/-- an expression whose value is dropped -/
def tDrop (te : TE) : TS := fun D σ H => te σ H fun _ H1 => D.nx σ H1
theorem ps_expr (he : PE X e te) (hs : swapsWith e none pos.line X.env = pure false := by rfl) : PS X (.Expr e pos) (tDrop te) := by
  intro pins s σ H D I h
  exact wpAny_Expr_any (thn (he pins s σ H _ I h) fun v s1 ⟨x, H1, I1, r1, q1⟩ => ⟨σ, H1, I1, q1⟩) I.quiet hs
def tRet (te : TE) : TS := fun D σ H => te σ H D.rt
theorem ps_ret (he : PE X e te) : PS X (.Return (some e) pos) (tRet te) := by
  intro pins s σ H D I h
  exact wpAny_Return_some (thn (he pins s σ H _ I h) fun v s1 ⟨x, H1, I1, r1, q1⟩ => ⟨x, σ, H1, I1, r1, q1⟩)
def tIfS (c : TT) (t u : TS) : TS := fun D σ H => c σ H fun b H1 => if b = true then t D σ H1 else u D σ H1
theorem ps_if {c : Expr} {a b : List Stmt} {tc : TT} (hc : PT X c tc) (ha : PSs X a t) (hb : PSs X b u) : PS X (.If c a b pos) (tIfS tc t u) := by
  intro pins s σ H D I h
  refine wpAny_If (thn (hc pins s σ H _ I h) fun d s1 ⟨H1, I1, q1⟩ => ?_)
  cases d with
  | true => exact ha pins s1 σ H1 D I1 q1
  | false => exact hb pins s1 σ H1 D I1 q1
/-- code that the proof never comes to -/
def tNever : TS := fun _ _ _ => False
theorem pss_never {sts : List Stmt} : PSs X sts tNever := fun _ _ _ _ _ _ h => h.elim
end
abbrev TG := V → St → Hp → (St → Hp → Prop) → Prop
abbrev TGs := List V → St → Hp → (St → Hp → Prop) → Prop
def PG (X : Cx) (target : Expr) (t : TG) : Prop :=
  ∀ (pins : List (Addr × Obj)) (s : Shared) (σ : St) (H : Hp) (v : V) (u : Value) (Q : St → Hp → Prop), Inv X pins σ H s → RelV v u → t v σ H Q →
    wpAny (model X.prog X.w) X.A (assign target X.env u) (fun _ s' => ∃ σ' H', Inv X pins σ' H' s' ∧ Q σ' H') X.xe s
/-- several targets, one after another -/
def PGs (X : Cx) (ts : List Expr) (t : TGs) : Prop :=
  ∀ (pins : List (Addr × Obj)) (s : Shared) (σ : St) (H : Hp) (vs : List V) (us : List Value) (Q : St → Hp → Prop), Inv X pins σ H s → Vals vs us → t vs σ H Q →
    wpAny (model X.prog X.w) X.A (assignInOrder ((assignEach ts X.env).map (·.2)) us) (fun _ s' => ∃ σ' H', Inv X pins σ' H' s' ∧ Q σ' H') X.xe s
/-- o[i] = v, by values -/
abbrev TSet := V → V → V → Hp → (Hp → Prop) → Prop
def PSet (X : Cx) (t : TSet) : Prop :=
  ∀ (pins : List (Addr × Obj)) (s : Shared) (σ : St) (H : Hp) (o i v : V) (ov iv u : Value) (Q : Hp → Prop), Inv X pins σ H s → RelV o ov → RelV i iv → RelV v u → t o i v H Q →
    wpAny (model X.prog X.w) X.A (setItem ov iv u) (fun _ s' => ∃ H', Inv X pins σ H' s' ∧ Q H') X.xe s
section
variable {X : Cx} {pos : Pos}
def gName (i : Nat) : TG := fun v σ H Q => Q (σ.set i (some v)) H
theorem pg_name {i : Nat} {x : Str} (hN : X.N.Nodup) (hi : X.N[i]? = some x) (hx : Loc X.env.scope x) (hf : X.fn x = true ∨ X.env.scope.names.lookup x = some .local := by first | exact .inl rfl | exact .inr rfl | assumption) : PG X (.Name x pos) (gName i) := by
  intro pins s σ H v u Q I r h
  exact wpAny_assign_Name (store_ok I hN hi hx r (fun s' I' => ⟨_, H, I', h⟩) hf)
def gNil : TGs := fun vs σ H Q => vs = [] ∧ Q σ H
def gCons (t : TG) (u : TGs) : TGs := fun vs σ H Q => ∃ v r, vs = v :: r ∧ t v σ H fun σ' H' => u r σ' H' Q
theorem pgs_nil : PGs X [] gNil := by
  intro pins s σ H vs us Q I r h
  obtain ⟨e, h⟩ := h
  subst e
  cases r
  exact assignInOrder_nil ⟨σ, H, I, h⟩
theorem pgs_cons {e : Expr} {es : List Expr} {t : TG} {u : TGs} (h1 : PG X e t) (h2 : PGs X es u)
    (hs : (assignEach (e :: es) X.env).map (·.2) = assign e X.env :: (assignEach es X.env).map (·.2) := by rfl) : PGs X (e :: es) (gCons t u) := by
  intro pins s σ H vs us Q I r h
  obtain ⟨v, vr, e1, h⟩ := h
  subst e1
  cases r with
  | cons r rr =>
    rw [hs]
    refine assignInOrder_cons (thn (h1 pins s σ H _ _ _ I r h) fun _ s1 ⟨σ1, H1, I1, q1⟩ => ?_)
    exact h2 pins s1 σ1 H1 _ _ Q I1 rr q1
/-- (a, b, ..) = a tuple of that length -/
def gTup (K : PySem.W.Frag) (n : Nat) (t : TGs) : TG := fun v σ H Q => ∃ a xs, v = .ref a ∧ SqT K H a xs ∧ xs.length = n ∧ t xs σ H Q
theorem pg_tup {es : List Expr} {k : Nat} {t : TGs} {n : Nat} (hc : X.calm = true) (h : PGs X es t)
    (hn : (assignEach es X.env).length = n := by rfl) (hst : (assignEach es X.env).findIdx? (·.1) = none := by rfl) : PG X (.Tuple es k pos) (gTup X.K n t) := by
  intro pins s σ H v u Q I r hw
  obtain ⟨a, xs, e1, hq, hl, hw⟩ := hw
  subst e1
  cases r
  obtain ⟨its, rv, ht, hz⟩ := I.tuple hq
  refine assign_Tuple_tuple (I.ok.hd hc) ht (by simp [hn, ← hl, rv.length]) hst fun h' hx => ?_
  have I1 : Inv X pins σ H { s with heap := h' } := I.kept (t' := s.toks) fun b o e => hx b o (Nat.ne_of_lt (Heap.lt_size e)) e
  exact h pins _ σ H xs _ Q I1 (by simpa using rv) hw
/-- o[i] = .. -/
def gSub (to ti : TE) (t : TSet) : TG := fun v σ H Q => to σ H fun o H1 => ti σ H1 fun i H2 => t o i v H2 fun H3 => Q σ H3
theorem pg_sub {o i : Expr} {to ti : TE} {t : TSet} (ho : PE X o to) (hi : PE X i ti) (hs : PSet X t)
    (ha : ∀ v, assign (.Subscript o i pos) X.env v = (do
      let ov ← holding [v] (eval o X.env)
      let iv ← holding [v, ov] (eval i X.env)
      standAt pos
      holding [v, ov, iv] (setItem ov iv v)
      release [v, ov, iv] []) := by intro _; rfl) : PG X (.Subscript o i pos) (gSub to ti t) := by
  intro pins s σ H v u Q I r h
  rw [ha]
  refine wpAny_bind (wpAny_holding (thn (ho pins s σ H _ I h) fun ov s1 ⟨x, H1, I1, r1, q1⟩ => ?_))
  refine wpAny_bind (wpAny_holding (thn (hi pins s1 σ H1 _ I1 q1) fun iv s2 ⟨y, H2, I2, r2, q2⟩ => ?_))
  refine wpAny_bind (wpAny_standAt (wpAny_bind (wpAny_holding (thn (hs pins s2 σ H2 x y v ov iv u _ I2 r1 r2 r q2) fun _ s3 ⟨H3, I3, q3⟩ => ?_))))
  exact wpAny_release ⟨σ, H3, I3, q3⟩
/-- target = value -/
def tAsg (te : TE) (g : TG) : TS := fun D σ H => te σ H fun x H1 => g x σ H1 D.nx
theorem ps_asg {tg e : Expr} {te : TE} {g : TG} (he : PE X e te) (hg : PG X tg g) (hs : swapsWithSole [tg] e pos.line X.env = pure false := by rfl) (hw : swappedStores [tg] e X.env = pure none := by rfl)
    (h1 : (assignEach [tg] X.env).map (·.2) = [assign tg X.env] := by rfl) : PS X (.Assign [tg] e pos) (tAsg te g) := by
  intro pins s σ H D I h
  refine wpAny_Assign_stores (thn (he pins s σ H _ I h) fun v s1 ⟨x, H1, I1, r1, q1⟩ => ?_) hs hw
  rw [h1]
  exact thn (hg pins s1 σ H1 x v _ I1 r1 q1) fun _ s2 q => q
/-- name = value -/
theorem ps_set {i : Nat} {x : Str} {e : Expr} {te : TE} {pos' : Pos} (hN : X.N.Nodup) (hi : X.N[i]? = some x) (hx : Loc X.env.scope x) (he : PE X e te) (hs : swapsWith e (some (.Name x pos')) pos.line X.env = pure false := by rfl) (hf : X.fn x = true ∨ X.env.scope.names.lookup x = some .local := by first | exact .inl rfl | exact .inr rfl | assumption) :
    PS X (.Assign [.Name x pos'] e pos) (tAsg te (gName i)) := by
  intro pins s σ H D I h
  refine wpAny_Assign_Name (thn (he pins s σ H _ I h) fun v s1 ⟨y, H1, I1, r1, q1⟩ => ?_) hs
  exact store_ok I1 hN hi hx r1 (fun s2 I2 => ⟨_, H1, I2, q1⟩) hf
end
section
variable {X : Cx} {pos : Pos}
end
/-- at turn i: it yields x (the heap may grow), or it stops -/
structure It where
  go : Nat → Hp → Prop
  yld : Nat → Hp → V → Hp → Prop
  stop : Nat → Hp → Prop
/-- the iterator's own objects may turn: they are not the frame's, not pinned, younger than the entry (or a comprehension's own) -/
def FpOk (X : Cx) (pins : List (Addr × Obj)) (H : Hp) (b : Addr) : Prop :=
  H b = none ∧ b ≠ X.env.locals ∧ b ∉ X.fs ∧ (b ∈ X.ex ∨ X.s₀.heap.objs.size ≤ b) ∧ (∀ x c, X.env.cells.lookup x = some c → c ≠ b) ∧ ∀ p ∈ X.pn ++ pins, p.1 ≠ b
theorem Inv.fpOk {X : Cx} {pins : List (Addr × Obj)} {σ : St} {H H' : Hp} {s : Shared} {b : Addr} (I : Inv X pins σ H s) (hb : s.heap.objs.size ≤ b) (hn : H' b = none) : FpOk X pins H' b := by
  refine ⟨hn, Nat.ne_of_gt (Nat.lt_of_lt_of_le I.lt hb), I.nofs hb, .inr (Nat.le_trans I.sz hb), fun x c e z => ?_, fun p hp z => ?_⟩
  · obtain ⟨v, q⟩ := I.cell x c e
    exact absurd (Nat.lt_of_lt_of_le q.lt (by rw [z]; exact hb)) (Nat.lt_irrefl _)
  · exact absurd (Nat.lt_of_lt_of_le (Heap.lt_size (I.pin p hp).1) (by rw [z]; exact hb)) (Nat.lt_irrefl _)
structure Turn (P : Program) (w : World) (K : PySem.W.Frag) (tg : Expr) (J : It) (fp : List Addr) (it : Addr) (tn : Nat → Heap → Prop) : Prop where
  mem : it ∈ fp
  obj : ∀ i h, tn i h → ∀ b ∈ fp, ∃ o, h.get? b = some o ∧ ∀ v, o.data ≠ .cell v
  keep : ∀ i h h', tn i h → (∀ b ∈ fp, ∀ o, h.get? b = some o → h'.get? b = some o) → tn i h'
  item : ∀ (X : Cx), X.prog = P → X.w = w → X.K = K → X.calm = true → ∀ (i : Nat) (pins : List (Addr × Obj)) (s : Shared) (σ : St) (H : Hp) (E : Value → Shared → Prop), Inv X pins σ H s → (∀ b ∈ fp, FpOk X pins H b) → tn i s.heap → J.go i H →
    wpAny (model P w) X.A (pyNext (.ref it)) (fun r s1 => ∃ u, r = some u ∧
      wpAny (model P w) X.A (letOwnedTupleGo tg (.ref it) u) (fun _ s2 => ∃ x H', Inv X pins σ H' s2 ∧ RelV x u ∧ J.yld i H x H' ∧ tn (i + 1) s2.heap ∧ ∀ b ∈ fp, H' b = none) E s1) E s
  done : ∀ (X : Cx), X.prog = P → X.w = w → X.K = K → X.calm = true → ∀ (i : Nat) (pins : List (Addr × Obj)) (s : Shared) (σ : St) (H : Hp) (E : Value → Shared → Prop), Inv X pins σ H s → (∀ b ∈ fp, FpOk X pins H b) → tn i s.heap → J.stop i H →
    wpAny (model P w) X.A (pyNext (.ref it)) (fun r s1 => r = none ∧ Inv X pins σ H s1) E s
  self : ∀ (A : Around) (i : Nat) (s : Shared) (Q : Value → Shared → Prop) (E : Value → Shared → Prop), tn i s.heap → Q (.ref it) s → wpAny (model P w) A (pyIter (.ref it)) Q E s
abbrev TI := St → Hp → (It → Hp → Prop) → Prop
/-- an iterator has come -/
def PIE (X : Cx) (pins : List (Addr × Obj)) (σ : St) (tg : Expr) (R : It → Hp → Prop) (itv : Value) (s2 : Shared) : Prop :=
  ∃ (it : Addr) (fp : List Addr) (tn : Nat → Heap → Prop) (J : It) (H' : Hp), itv = .ref it ∧ Inv X pins σ H' s2 ∧ Turn X.prog X.w X.K tg J fp it tn ∧ tn 0 s2.heap ∧ (∀ b ∈ fp, FpOk X pins H' b) ∧ R J H'
def PI (X : Cx) (tg iter : Expr) (wi : TI) : Prop :=
  ∀ (pins : List (Addr × Obj)) (s : Shared) (σ : St) (H : Hp) (R : It → Hp → Prop), Inv X pins σ H s → wi σ H R →
    wpAny (model X.prog X.w) X.A (eval iter X.env) (fun v s1 => wpAny (model X.prog X.w) X.A (pyIter v) (PIE X pins σ tg R) X.xe s1) X.xe s
/-- the step ahead of the store is nothing for an iterator that keeps no tuple -/
theorem go_of {M : Model} {A : Around} {E : Value → Shared → Prop} {s : Shared} {tg : Expr} {it : Addr} {u : Value} {o : Obj} {n : String} {vs : Array Value} {Q : Unit → Shared → Prop} (ho : s.heap.get? it = some o) (hc : o.cls = .type n) (hd : o.data = .fields vs)
    (hn : ["enumerate", "zip", "dict_itemiterator", "dict_reverseitemiterator", "odict_iterator", "itertools.zip_longest", "itertools.pairwise"].contains n = false) (hQ : Q () s) : wpAny M A (letOwnedTupleGo tg (.ref it) u) Q E s := by
  unfold letOwnedTupleGo
  cases tg <;> first
    | exact wpAny_pure hQ
    | (cases u <;> first
        | exact wpAny_pure hQ
        | (refine wpAny_bind (wpAny_load ho ?_)
           rw [hc, hd]
           show wpAny M A (if (["enumerate", "zip", "dict_itemiterator", "dict_reverseitemiterator", "odict_iterator", "itertools.zip_longest", "itertools.pairwise"].contains n && vs[0]? == some (rawInt _)) = true then _ else _) Q E s
           rw [if_neg (by intro h; rw [hn, Bool.false_and] at h; cases h)]
           exact wpAny_pure hQ))
/-- the list at a, as it stands at each turn (a loop may append to it) -/
def Itl (K : PySem.W.Frag) (a : Addr) : It :=
  ⟨fun i H => ∃ xs x, SqL K H a xs ∧ xs[i]? = some x, fun i H x H' => H' = H ∧ ∀ xs, SqL K H a xs → xs[i]? = some x, fun i H => ∃ xs, SqL K H a xs ∧ xs.length ≤ i⟩
def Itt (K : PySem.W.Frag) (a : Addr) : It :=
  ⟨fun i H => ∃ xs x, SqT K H a xs ∧ xs[i]? = some x, fun i H x H' => H' = H ∧ ∀ xs, SqT K H a xs → xs[i]? = some x, fun i H => ∃ xs, SqT K H a xs ∧ xs.length ≤ i⟩
/-- lo, lo + 1, .. (n of them) -/
def Itr (lo : Int) (n : Nat) : It := ⟨fun i _ => i < n, fun i H x H' => H' = H ∧ x = .int (lo + i), fun i _ => n ≤ i⟩
theorem turn_list {P : Program} {w : World} {K : PySem.W.Frag} {tg : Expr} (a it : Addr) : Turn P w K tg (Itl K a) [it] it (fun i h => h.IsListIter it a i) where
  mem := by simp
  obj := fun i h st b hb => by
    have e : b = it := by simpa using hb
    subst e
    obtain ⟨o, e, c, d⟩ := st
    exact ⟨o, e, fun v z => by rw [d] at z; cases z⟩
  keep := fun i h h' st k => st.at fun o e => k it (by simp) o e
  item := by
    intro X hP hw hK hc i pins s σ H E I hf st hg
    subst hP hw hK
    obtain ⟨xs, x, hq, hx⟩ := hg
    obtain ⟨its, rv, p, hz⟩ := I.list hq
    obtain ⟨u, hu, ru⟩ := rv.get hx
    obtain ⟨f0, f1, f2, f3, f4, f5⟩ := hf it (by simp)
    refine wpAny_pyNext_list_item st p.isList (x := u) (by simpa using hu) fun h' st' sb => ?_
    have I1 : Inv X pins σ H { s with heap := h' } := I.turned (t' := s.toks) (fun b o hb e => (sb.2 b hb).trans e) f0 f1 f3 f4 f5
    obtain ⟨o, e, c, d⟩ := id st'
    exact ⟨u, rfl, go_of (s := { s with heap := h' }) e c d (by decide) ⟨x, H, I1, ru, ⟨rfl, fun ys hy => by rw [I.list_inj hy hq]; exact hx⟩, st', fun b hb => (hf b hb).1⟩⟩
  done := by
    intro X hP hw hK hc i pins s σ H E I hf st hg
    subst hP hw hK
    obtain ⟨xs, hq, hx⟩ := hg
    obtain ⟨its, rv, p, hz⟩ := I.list hq
    obtain ⟨f0, f1, f2, f3, f4, f5⟩ := hf it (by simp)
    have hl := rv.length
    exact wpAny_pyNext_list_end (I.ok.hd hc) st p.isList (by simp; omega) fun h' eb => ⟨rfl, I.turned (t' := s.toks) (fun b o hb e => eb b o hb e) f0 f1 f3 f4 f5⟩
  self := fun _ _ _ _ _ st h => wpAny_pyIter_listiter st h
theorem turn_tuple {P : Program} {w : World} {K : PySem.W.Frag} {tg : Expr} (a it : Addr) : Turn P w K tg (Itt K a) [it] it (fun i h => h.IsTupleIter it a i) where
  mem := by simp
  obj := fun i h st b hb => by
    have e : b = it := by simpa using hb
    subst e
    obtain ⟨o, e, c, d⟩ := st
    exact ⟨o, e, fun v z => by rw [d] at z; cases z⟩
  keep := fun i h h' st k => st.at fun o e => k it (by simp) o e
  item := by
    intro X hP hw hK hc i pins s σ H E I hf st hg
    subst hP hw hK
    obtain ⟨xs, x, hq, hx⟩ := hg
    obtain ⟨its, rv, p, hz⟩ := I.tuple hq
    obtain ⟨u, hu, ru⟩ := rv.get hx
    obtain ⟨f0, f1, f2, f3, f4, f5⟩ := hf it (by simp)
    refine wpAny_pyNext_tuple_item st (show s.heap.IsTuple a its.toArray from p) (x := u) (by simpa using hu) fun h' st' sb => ?_
    have I1 : Inv X pins σ H { s with heap := h' } := I.turned (t' := s.toks) (fun b o hb e => (sb.2 b hb).trans e) f0 f1 f3 f4 f5
    obtain ⟨o, e, c, d⟩ := id st'
    exact ⟨u, rfl, go_of (s := { s with heap := h' }) e c d (by decide) ⟨x, H, I1, ru, ⟨rfl, fun ys hy => by rw [I.tuple_inj hy hq]; exact hx⟩, st', fun b hb => (hf b hb).1⟩⟩
  done := by
    intro X hP hw hK hc i pins s σ H E I hf st hg
    subst hP hw hK
    obtain ⟨xs, hq, hx⟩ := hg
    obtain ⟨its, rv, p, hz⟩ := I.tuple hq
    obtain ⟨f0, f1, f2, f3, f4, f5⟩ := hf it (by simp)
    have hl := rv.length
    exact wpAny_pyNext_tuple_end (I.ok.hd hc) st (show s.heap.IsTuple a its.toArray from p) (by simp; omega) fun h' eb => ⟨rfl, I.turned (t' := s.toks) (fun b o hb e => eb b o hb e) f0 f1 f3 f4 f5⟩
  self := fun _ _ _ _ _ st h => wpAny_pyIter_tupleiter st h
theorem turn_range {P : Program} {w : World} {K : PySem.W.Frag} {tg : Expr} (it : Addr) (lo : Int) (n : Nat) : Turn P w K tg (Itr lo n) [it] it (fun i h => IsRangeIter h it (lo + (i : Nat) * 1) ((n : Int) - (i : Nat)) 1) where
  mem := by simp
  obj := fun i h st b hb => by
    have e : b = it := by simpa using hb
    subst e
    exact ⟨_, st, fun v z => by
      have z' : Data.fields _ = Data.cell v := z
      cases z'⟩
  keep := fun i h h' st k => k it (by simp) _ st
  item := by
    intro X hP hw hK hc i pins s σ H E I hf st hg
    subst hP hw hK
    obtain ⟨f0, f1, f2, f3, f4, f5⟩ := hf it (by simp)
    have W := Walks.range (prog := X.prog) (w := X.w) (I.ok.hd hc) it lo 1 n
    refine W.item i s _ _ hg st fun v h' tk hv st' kk => ?_
    obtain ⟨t, rfl⟩ := hv
    have I1 : Inv X pins σ H { s with heap := h', toks := tk } := I.turned (fun b o hb e => kk b o (by simpa using hb) e) f0 f1 f3 f4 f5
    refine ⟨_, rfl, go_of (s := { s with heap := h', toks := tk }) (n := "range_iterator") st' rfl rfl (by decide) ⟨.int (lo + i), H, I1, ⟨t, ?_⟩, ⟨rfl, rfl⟩, st', fun b hb => (hf b hb).1⟩⟩
    rw [Int.mul_one]
  done := by
    intro X hP hw hK hc i pins s σ H E I hf st hg
    subst hP hw hK
    obtain ⟨f0, f1, f2, f3, f4, f5⟩ := hf it (by simp)
    exact wpAny_pyNext_range_end (I.ok.hd hc) st (by have : n ≤ i := hg; omega) fun h' eb => ⟨rfl, I.turned (t' := s.toks) (fun b o hb e => eb b o hb e) f0 f1 f3 f4 f5⟩
  self := fun _ _ _ _ _ st h => wpAny_pyIter_rangeiter st h
end L2
namespace L2
open PySem PySem.Spec PyProof.Rows
section
variable {X : Cx} {tg : Expr}
def iList (K : PySem.W.Frag) (tl : TE) : TI := fun σ H R => tl σ H fun x H1 => ∃ a, x = .ref a ∧ (∃ xs, SqL K H1 a xs) ∧ R (Itl K a) H1
def iTup (K : PySem.W.Frag) (tl : TE) : TI := fun σ H R => tl σ H fun x H1 => ∃ a, x = .ref a ∧ (∃ xs, SqT K H1 a xs) ∧ R (Itt K a) H1
theorem pi_list {l : Expr} {tl : TE} (hl : PE X l tl) : PI X tg l (iList X.K tl) := by
  intro pins s σ H R I h
  refine thn (hl pins s σ H _ I h) fun v s1 ⟨x, H1, I1, r1, q1⟩ => ?_
  obtain ⟨a, e, ⟨xs, hq⟩, q⟩ := q1
  subst e
  cases r1
  obtain ⟨its, rv, p, hz⟩ := I1.list hq
  refine wpAny_pyIter_list p.isList ?_
  refine ⟨s1.heap.objs.size, [s1.heap.objs.size], _, _, H1, rfl, I1.kept (t' := s1.toks) fun b o e => Heap.get?_push_of_some _ e, turn_list a _, ⟨_, Heap.get?_push_size _ rfl, rfl, rfl⟩, fun b hb => ?_, q⟩
  have e : b = s1.heap.objs.size := by simpa using hb
  subst e
  exact I1.fpOk (Nat.le_refl _) (I1.hok.fresh (Nat.le_refl _))
theorem pi_tup {l : Expr} {tl : TE} (hl : PE X l tl) : PI X tg l (iTup X.K tl) := by
  intro pins s σ H R I h
  refine thn (hl pins s σ H _ I h) fun v s1 ⟨x, H1, I1, r1, q1⟩ => ?_
  obtain ⟨a, e, ⟨xs, hq⟩, q⟩ := q1
  subst e
  cases r1
  obtain ⟨its, rv, p, hz⟩ := I1.tuple hq
  refine wpAny_pyIter_tuple (show s1.heap.IsTuple a its.toArray from p) ?_
  refine ⟨s1.heap.objs.size, [s1.heap.objs.size], _, _, H1, rfl, I1.kept (t' := s1.toks) fun b o e => Heap.get?_push_of_some _ e, turn_tuple a _, ⟨_, Heap.get?_push_size _ rfl, rfl, rfl⟩, fun b hb => ?_, q⟩
  have e : b = s1.heap.objs.size := by simpa using hb
  subst e
  exact I1.fpOk (Nat.le_refl _) (I1.hok.fresh (Nat.le_refl _))
/-- a range object just made, walked -/
theorem range_it {pins : List (Addr × Obj)} {σ : St} {H : Hp} {s : Shared} {R : It → Hp → Prop} {E : Value → Shared → Prop} {lo hi : Int} {t u v : Tok} {tk : Nat} (I : Inv X pins σ H s) (h1 : -(2 ^ 62) ≤ lo) (h2 : lo < 2 ^ 62) (h3 : -(2 ^ 62) ≤ hi) (h4 : hi < 2 ^ 62)
    (q : R (Itr lo (hi - lo).toNat) H) : wpAny (model X.prog X.w) X.A (pyIter (.ref s.heap.objs.size)) (PIE X pins σ tg R) E { s with heap := s.heap.push { cls := .type "range", data := .fields #[.int lo t, .int hi u, .int 1 v] }, toks := tk } := by
  refine wpAny_pyIter_range (IsRange.new ..) (small_one h1 h2 h3 h4) ?_
  have I1 : Inv X pins σ H { s with heap := s.heap.push { cls := .type "range", data := .fields #[.int lo t, .int hi u, .int 1 v] }, toks := tk } := I.kept fun b o e => Heap.get?_push_of_some _ e
  refine ⟨(s.heap.push { cls := .type "range", data := .fields #[.int lo t, .int hi u, .int 1 v] }).objs.size, [(s.heap.push { cls := .type "range", data := .fields #[.int lo t, .int hi u, .int 1 v] }).objs.size], _, _, H, rfl,
    I1.kept (t' := tk) fun b o e => Heap.get?_push_of_some _ e, turn_range _ lo (hi - lo).toNat, ?_, fun b hb => ?_, q⟩
  · have e1 : lo + ((0 : Nat) : Int) * 1 = lo := by simp
    have e2 : (((hi - lo).toNat : Nat) : Int) - ((0 : Nat) : Int) = Builtin.Range.rangeSize lo hi 1 := by rw [rangeSize_one]; split <;> omega
    show IsRangeIter _ _ (lo + ((0 : Nat) : Int) * 1) ((((hi - lo).toNat : Nat) : Int) - ((0 : Nat) : Int)) 1
    rw [e1, e2]
    exact Heap.get?_push_size _ rfl
  · have e : b = (s.heap.push { cls := .type "range", data := .fields #[.int lo t, .int hi u, .int 1 v] }).objs.size := by simpa using hb
    subst e
    exact I1.fpOk (Nat.le_refl _) (I1.hok.fresh (Nat.le_refl _))
def iRng1 (ta : TA) : TI := fun σ H R => ta σ H fun vs H1 => ∃ j : Int, vs = [.int j] ∧ -(2 ^ 62) ≤ j ∧ j < 2 ^ 62 ∧ R (Itr 0 j.toNat) H1
def iRng2 (ta : TA) : TI := fun σ H R => ta σ H fun vs H1 => ∃ i j : Int, vs = [.int i, .int j] ∧ (-(2 ^ 62) ≤ i ∧ i < 2 ^ 62 ∧ -(2 ^ 62) ≤ j ∧ j < 2 ^ 62) ∧ R (Itr i (j - i).toNat) H1
theorem pi_range1 {a : Expr} {ta : TA} {p pos : Pos} (hg : Gl X "range") (hm : X.mg "range" = none) (ha : PA X [a] ta) (hs : starEach [a] X.env = [(false, eval a X.env)] := by rfl) : PI X tg (.Call (.Name "range" p) [a] [] pos) (iRng1 ta) := by
  intro pins s σ H R I h
  refine Call_ (ld_blt I hg hm boot_range (PyProof.Rows.callWith_type1 (thn (ha pos pins s σ H _ I h) fun us s1 ⟨vs, H1, I1, r1, q1⟩ => ?_) hs rfl))
  obtain ⟨j, e, q1, q2, q⟩ := q1
  subst e
  cases r1 with
  | cons r rr =>
    cases rr
    obtain ⟨t, rfl⟩ := r
    exact call_range_1 (range_it I1 (by omega) (by omega) q1 q2 (by simpa using q))
theorem pi_range2 {a b : Expr} {ta : TA} {p pos : Pos} (hg : Gl X "range") (hm : X.mg "range" = none) (ha : PA X [a, b] ta) (hs : starEach [a, b] X.env = [(false, eval a X.env), (false, eval b X.env)] := by rfl) (hs2 : starEach [b] X.env = [(false, eval b X.env)] := by rfl) :
    PI X tg (.Call (.Name "range" p) [a, b] [] pos) (iRng2 ta) := by
  intro pins s σ H R I h
  refine Call_ (ld_blt I hg hm boot_range (PyProof.Rows.callWith_type1 (thn (ha pos pins s σ H _ I h) fun us s1 ⟨vs, H1, I1, r1, q1⟩ => ?_) (by rw [hs, hs2]) (by rw [hs2]; rfl)))
  obtain ⟨i, j, e, ⟨q1, q2, q3, q4⟩, q⟩ := q1
  subst e
  cases r1 with
  | cons r rr =>
    cases rr with
    | cons r' rr =>
      cases rr
      obtain ⟨t, rfl⟩ := r
      obtain ⟨t', rfl⟩ := r'
      exact call_range_2 (range_it I1 q1 q2 q3 q4 q)
/-- W: the invariant by the turn and a measure; N: what the body is to reach -/
def tFor (wi : TI) (g : TG) (tb : TS) : TS := fun D σ H => wi σ H fun J H1 => ∃ W : Nat → Nat → St → Hp → Prop, (∃ m, W 0 m σ H1) ∧ ∀ i m σ H, W i m σ H →
  (J.stop i H ∧ D.nx σ H) ∨ (J.go i H ∧ ∃ N : St → Hp → Prop, (∀ σ' H', N σ' H' → ∃ m', m' < m ∧ W (i + 1) m' σ' H') ∧ ∀ x H', J.yld i H x H' → g x σ H' fun σ2 H2 => tb { D with nx := N, ct := N, bk := D.nx } σ2 H2)
/-- the records at fp as they stand -/
def pinsAt (fp : List Addr) (h : Heap) : List (Addr × Obj) := fp.filterMap fun b => (h.get? b).map fun o => (b, o)
theorem mem_pinsAt {fp : List Addr} {h : Heap} {b : Addr} {o : Obj} (hb : b ∈ fp) (e : h.get? b = some o) : (b, o) ∈ pinsAt fp h := List.mem_filterMap.mpr ⟨b, hb, by rw [e]; rfl⟩
theorem of_pinsAt {fp : List Addr} {h : Heap} {p : Addr × Obj} (hp : p ∈ pinsAt fp h) : p.1 ∈ fp ∧ h.get? p.1 = some p.2 := by
  obtain ⟨b, hb, e⟩ := List.mem_filterMap.mp hp
  cases q : h.get? b with
  | none => rw [q] at e; cases e
  | some o =>
    rw [q] at e
    have e' : (b, o) = p := Option.some.inj e
    subst e'
    exact ⟨hb, q⟩
theorem Inv.pinned {pins : List (Addr × Obj)} {σ : St} {H : Hp} {s : Shared} {fp : List Addr} (I : Inv X pins σ H s) (hf : ∀ b ∈ fp, FpOk X pins H b) (ho : ∀ b ∈ fp, ∃ o, s.heap.get? b = some o ∧ ∀ v, o.data ≠ .cell v) : Inv X (pins ++ pinsAt fp s.heap) σ H s :=
  I.pins_of fun p hp => (List.mem_append.mp hp).elim (fun z => I.pin p (List.mem_append_right _ z)) fun z => by
    obtain ⟨hb, e⟩ := of_pinsAt z
    obtain ⟨f0, f1, f2, _⟩ := hf p.1 hb
    obtain ⟨o, e', d⟩ := ho p.1 hb
    rw [e] at e'; cases e'
    exact ⟨e, f0, f1, f2, d⟩
theorem Inv.unpinned {pins pl : List (Addr × Obj)} {σ : St} {H : Hp} {s : Shared} (I : Inv X (pins ++ pl) σ H s) : Inv X pins σ H s := I.pins_of fun p hp => I.pin p (List.mem_append_right _ (List.mem_append_left _ hp))
theorem ps_for {iter : Expr} {body : List Stmt} {wi : TI} {g : TG} {tb : TS} {pos : Pos} (hp : PassesOwn (model X.prog X.w) X.A X.env X.xe) (hc : X.calm = true) (hi : PI X tg iter wi) (hg : PG X tg g) (hb : PSs X body tb)
    (hs : ∀ x, foldedSetIterable iter X.env x = pure x := by intro _; rfl) : PS X (.For tg iter body [] pos) (tFor wi g tb) := by
  intro pins s σ H D I h
  refine wpAny_For (thn (hi pins s σ H _ I h) fun v s1 h1 => thn h1 fun itv s2 h2 => ?_) hs
  obtain ⟨it, fp, tn, J, H2, e, I2, T, st2, f2, W, ⟨m0, w0⟩, turn⟩ := h2
  subst e
  -- what stays true of the iterator's objects through the loop
  have stat : ∀ {H' : Hp}, (∀ b ∈ fp, H' b = none) → ∀ b ∈ fp, FpOk X pins H' b := fun hn b hb => ⟨hn b hb, (f2 b hb).2⟩
  refine codeAny_forLoop_any (fun n s' => ∃ i σ' H', Inv X pins σ' H' s' ∧ tn i s'.heap ∧ (∀ b ∈ fp, H' b = none) ∧ W i n σ' H') ?_ m0 ⟨0, σ, H2, I2, st2, fun b hb => (f2 b hb).1, w0⟩
  rintro n s3 ⟨i, σ3, H3, I3, st3, fr3, w3⟩
  rcases turn i n σ3 H3 w3 with ⟨stop, qn⟩ | ⟨go, N, hN, step⟩
  · refine wpAny_passesOwn hp (thn (T.done X rfl rfl rfl hc i pins s3 σ3 H3 X.xe I3 (stat fr3) st3 stop) fun r s4 ⟨hr, I4⟩ => ?_)
    subst hr
    exact wpAny_execs_nil ⟨σ3, H3, I4, qn⟩
  · refine wpAny_passesOwn hp (thn (T.item X rfl rfl rfl hc i pins s3 σ3 H3 X.xe I3 (stat fr3) st3 go) fun r s4 ⟨u, hr, h4⟩ => ?_)
    subst hr
    refine wpAny_passesOwn hp (thn h4 fun _ s5 ⟨x, H5, I5, r5, y5, st5, fr5⟩ => ?_)
    have I5' := I5.pinned (stat fr5) (T.obj _ _ st5)
    refine wpAny_passesOwn hp (thn (hg _ s5 σ3 H5 x u _ I5' r5 (step x H5 y5)) fun _ s6 ⟨σ6, H6, I6, q6⟩ => ?_)
    refine wpAny_passesOwn hp (thn (hb _ s6 σ6 H6 _ I6 q6) fun f s7 q7 => ?_)
    have again : ∀ {σ7 : St} {H7 : Hp}, Inv X (pins ++ pinsAt fp s5.heap) σ7 H7 s7 → N σ7 H7 → ∃ m, m < n ∧ ∃ i σ' H', Inv X pins σ' H' s7 ∧ tn i s7.heap ∧ (∀ b ∈ fp, H' b = none) ∧ W i m σ' H' := fun {σ7 H7} I7 n7 => by
      obtain ⟨m', hm, w7⟩ := hN σ7 H7 n7
      refine ⟨m', hm, i + 1, σ7, H7, I7.unpinned, T.keep _ _ _ st5 fun b hb o e => (I7.pin (b, o) (List.mem_append_right _ (List.mem_append_right _ (mem_pinsAt hb e)))).1, fun b hb => ?_, w7⟩
      obtain ⟨o, e, d⟩ := T.obj _ _ st5 b hb
      exact (I7.pin (b, o) (List.mem_append_right _ (List.mem_append_right _ (mem_pinsAt hb e)))).2.1
    cases f with
    | next => obtain ⟨σ7, H7, I7, n7⟩ := q7; exact again I7 n7
    | cont => obtain ⟨σ7, H7, I7, n7⟩ := q7; exact again I7 n7
    | brk => obtain ⟨σ7, H7, I7, q7⟩ := q7; exact ⟨σ7, H7, I7.unpinned, q7⟩
    | ret v => obtain ⟨x7, σ7, H7, I7, r7, q7⟩ := q7; exact ⟨x7, σ7, H7, I7.unpinned, r7, q7⟩
end
/-- over a list that the body leaves as it is -/
theorem for_list {K : PySem.W.Frag} {a : Addr} {xs : List V} {g : TG} {tb : TS} {D : Ends} {σ : St} {H : Hp} (Pv : Nat → St → Hp → Prop) (h0 : Pv 0 σ H) (hl : ∀ i σ H, i ≤ xs.length → Pv i σ H → SqL K H a xs)
    (hs : ∀ i x σ H, xs[i]? = some x → Pv i σ H → g x σ H fun σ2 H2 => tb { D with nx := Pv (i + 1), ct := Pv (i + 1), bk := D.nx } σ2 H2) (hd : ∀ σ H, Pv xs.length σ H → D.nx σ H) :
    ∃ W : Nat → Nat → St → Hp → Prop, (∃ m, W 0 m σ H) ∧ ∀ i m σ H, W i m σ H →
      ((Itl K a).stop i H ∧ D.nx σ H) ∨ ((Itl K a).go i H ∧ ∃ N : St → Hp → Prop, (∀ σ' H', N σ' H' → ∃ m', m' < m ∧ W (i + 1) m' σ' H') ∧ ∀ x H', (Itl K a).yld i H x H' → g x σ H' fun σ2 H2 => tb { D with nx := N, ct := N, bk := D.nx } σ2 H2) := by
  refine ⟨fun i m σ H => m = xs.length - i ∧ i ≤ xs.length ∧ Pv i σ H, ⟨xs.length, by simp, Nat.zero_le _, h0⟩, ?_⟩
  rintro i m σ H ⟨rfl, hi, p⟩
  have q := hl i σ H hi p
  by_cases hlt : i < xs.length
  · refine .inr ⟨⟨xs, xs[i], q, by simp [hlt]⟩, Pv (i + 1), fun σ' H' p' => ⟨xs.length - (i + 1), by omega, rfl, hlt, p'⟩, fun x H' y => ?_⟩
    obtain ⟨e, y⟩ := y
    subst e
    exact hs i x σ _ (y xs q) p
  · have e : i = xs.length := by omega
    subst e
    exact .inl ⟨⟨xs, q, Nat.le_refl _⟩, hd σ H p⟩
theorem for_range {lo : Int} {n : Nat} {g : TG} {tb : TS} {D : Ends} {σ : St} {H : Hp} (Pv : Nat → St → Hp → Prop) (h0 : Pv 0 σ H)
    (hs : ∀ i σ H, i < n → Pv i σ H → g (.int (lo + i)) σ H fun σ2 H2 => tb { D with nx := Pv (i + 1), ct := Pv (i + 1), bk := D.nx } σ2 H2) (hd : ∀ σ H, Pv n σ H → D.nx σ H) :
    ∃ W : Nat → Nat → St → Hp → Prop, (∃ m, W 0 m σ H) ∧ ∀ i m σ H, W i m σ H →
      ((Itr lo n).stop i H ∧ D.nx σ H) ∨ ((Itr lo n).go i H ∧ ∃ N : St → Hp → Prop, (∀ σ' H', N σ' H' → ∃ m', m' < m ∧ W (i + 1) m' σ' H') ∧ ∀ x H', (Itr lo n).yld i H x H' → g x σ H' fun σ2 H2 => tb { D with nx := N, ct := N, bk := D.nx } σ2 H2) := by
  refine ⟨fun i m σ H => m = n - i ∧ i ≤ n ∧ Pv i σ H, ⟨n, by simp, Nat.zero_le _, h0⟩, ?_⟩
  rintro i m σ H ⟨rfl, hi, p⟩
  by_cases hlt : i < n
  · refine .inr ⟨hlt, Pv (i + 1), fun σ' H' p' => ⟨n - (i + 1), by omega, rfl, hlt, p'⟩, fun x H' y => ?_⟩
    obtain ⟨e, y⟩ := y
    subst e y
    exact hs i σ _ hlt p
  · have e : i = n := by omega
    subst e
    exact .inl ⟨Nat.le_refl _, hd σ H p⟩
end L2
namespace L2
open PySem PySem.Spec PyProof.Rows
abbrev R2 := V → V → Hp → VK → Prop
/-- a two-place operation on values: f is binaryOp op, inplaceOp op or compareOp op -/
def OpR (X : Cx) (f : Value → Value → Sem Value) (r : R2) : Prop :=
  ∀ (pins : List (Addr × Obj)) (s : Shared) (σ : St) (H : Hp) (x y : V) (v u : Value) (Q : VK), Inv X pins σ H s → RelV x v → RelV y u → r x y H Q →
    wpAny (model X.prog X.w) X.A (f v u) (EP X pins σ Q) X.xe s
/-- a call of a value that is known (a builtin, a type) with values -/
def CallR (X : Cx) (f : Value) (r : List V → Hp → VK → Prop) : Prop :=
  ∀ (pins : List (Addr × Obj)) (s : Shared) (σ : St) (H : Hp) (xs : List V) (us : List Value) (Q : VK), Inv X pins σ H s → Vals xs us → r xs H Q →
    wpAny (model X.prog X.w) X.A (call f us) (EP X pins σ Q) X.xe s
def tOp (r : R2) (ta tb : TE) : TE := fun σ H Q => ta σ H fun x H1 => tb σ H1 fun y H2 => r x y H2 Q
/-- ints in, under C, and a value out -/
def rI (C : Int → Int → Prop) (g : Int → Int → V) : R2 := fun x y H Q => ∃ i j, x = .int i ∧ y = .int j ∧ C i j ∧ Q (g i j) H
def rI0 (g : Int → Int → V) : R2 := fun x y H Q => ∃ i j, x = .int i ∧ y = .int j ∧ Q (g i j) H
section
variable {X : Cx} {a b c : Expr} {ta tb tc : TE} {pos : Pos}
theorem binT (ha : PE X a ta) (hb : PE X b tb) {pins : List (Addr × Obj)} {s : Shared} {σ : St} {H : Hp} {R : V → V → Hp → Prop} (I : Inv X pins σ H s)
    (h : ta σ H fun x H1 => tb σ H1 fun y H2 => R x y H2) {Q : Value → Shared → Prop} {f : Value → Value → Sem Value}
    (hf : ∀ v u s2 x y H2, Inv X pins σ H2 s2 → RelV x v → RelV y u → R x y H2 → wpAny (model X.prog X.w) X.A (f v u) Q X.xe s2) :
    wpAny (model X.prog X.w) X.A (eval a X.env) (fun v s₁ => wpAny (model X.prog X.w) X.A (eval b X.env) (fun u s₂ => wpAny (model X.prog X.w) X.A (f v u) Q X.xe s₂) X.xe s₁) X.xe s := by
  refine thn (ha pins s σ H _ I h) fun v s1 ⟨x, H1, I1, r1, q1⟩ => ?_
  refine thn (hb pins s1 σ H1 _ I1 q1) fun u s2 ⟨y, H2, I2, r2, q2⟩ => ?_
  exact hf v u s2 x y H2 I2 r1 r2 q2
theorem pe_op {op : Operator} {r : R2} (ho : OpR X (binaryOp op) r) (ha : PE X a ta) (hb : PE X b tb) : PE X (.BinOp a op b pos) (tOp r ta tb) := by
  intro pins s σ H Q I h
  exact wpAny_BinOp (binT ha hb I h fun v u s2 x y H2 I2 rx ry q => ho pins s2 σ H2 x y v u Q I2 rx ry q)
theorem opI {f : Value → Value → Sem Value} {C : Int → Int → Prop} {g : Int → Int → Int}
    (rule : ∀ (i j : Int) (t u : Tok) (s : Shared) (Q : Value → Shared → Prop) (E : Value → Shared → Prop), C i j → Q (.int (g i j) s.toks) { s with toks := s.toks + 1 } → wpAny (model X.prog X.w) X.A (f (.int i t) (.int j u)) Q E s) :
    OpR X f (rI C fun i j => .int (g i j)) := by
  intro pins s σ H x y v u Q I rx ry h
  obtain ⟨i, j, rfl, rfl, hc, q⟩ := h
  obtain ⟨t, rfl⟩ := rx
  obtain ⟨t', rfl⟩ := ry
  exact rule i j t t' s _ _ hc ⟨.int (g i j), H, I.tok _, ⟨_, rfl⟩, q⟩
theorem opI0 {f : Value → Value → Sem Value} {g : Int → Int → Int}
    (rule : ∀ (i j : Int) (t u : Tok) (s : Shared) (Q : Value → Shared → Prop) (E : Value → Shared → Prop), Q (.int (g i j) s.toks) { s with toks := s.toks + 1 } → wpAny (model X.prog X.w) X.A (f (.int i t) (.int j u)) Q E s) :
    OpR X f (rI0 fun i j => .int (g i j)) := by
  intro pins s σ H x y v u Q I rx ry h
  obtain ⟨i, j, rfl, rfl, q⟩ := h
  obtain ⟨t, rfl⟩ := rx
  obtain ⟨t', rfl⟩ := ry
  exact rule i j t t' s _ _ ⟨.int (g i j), H, I.tok _, ⟨_, rfl⟩, q⟩
theorem opB0 {f : Value → Value → Sem Value} {g : Int → Int → Bool}
    (rule : ∀ (i j : Int) (t u : Tok) (s : Shared) (Q : Value → Shared → Prop) (E : Value → Shared → Prop), Q (.bool (g i j)) s → wpAny (model X.prog X.w) X.A (f (.int i t) (.int j u)) Q E s) :
    OpR X f (rI0 fun i j => .bl (g i j)) := by
  intro pins s σ H x y v u Q I rx ry h
  obtain ⟨i, j, rfl, rfl, q⟩ := h
  obtain ⟨t, rfl⟩ := rx
  obtain ⟨t', rfl⟩ := ry
  exact rule i j t t' s _ _ ⟨.bl (g i j), H, I, rfl, q⟩
def CDiv (i j : Int) : Prop := 0 < j ∧ j < 1073741824
def CPow (i j : Int) : Prop := 0 ≤ j ∧ j ≤ 1000000 ∧ i.natAbs < 2 ^ 64
def CMul (i j : Int) : Prop := (-(2 ^ 64) < i ∧ i < 2 ^ 64) ∨ (-(2 ^ 64) < j ∧ j < 2 ^ 64)
theorem CMul.ok {i j : Int} (h : CMul i j) : IntMulOk i j := by
  rcases h with ⟨h1, h2⟩ | ⟨h1, h2⟩
  · exact .of_left (intBits_le_64 h1 h2)
  · exact .of_right (intBits_le_64 h1 h2)
theorem op_add : OpR X (binaryOp .Add) (rI0 fun i j => .int (i + j)) := opI0 fun _ _ _ _ _ _ _ q => add_int q
theorem op_sub : OpR X (binaryOp .Sub) (rI0 fun i j => .int (i - j)) := opI0 fun _ _ _ _ _ _ _ q => sub_int q
theorem op_mul : OpR X (binaryOp .Mult) (rI CMul fun i j => .int (i * j)) := opI fun _ _ _ _ _ _ _ hc q => mul_int q hc.ok
/-- // by a positive divisor -/
theorem op_fdiv : OpR X (binaryOp .FloorDiv) (rI CDiv fun i j => .int (i / j)) := opI fun i j _ _ _ _ _ hc q => by
  have h1 : (0 : Int) < j := hc.1
  have h2 : j < 1073741824 := hc.2
  exact floordiv_int (by omega) (by rw [Int.fdiv_eq_ediv_of_nonneg i (by omega)]; exact q) (.inl (PyProof.noPylong_small (by omega)))
/-- % by a positive divisor of any size -/
theorem op_mod : OpR X (binaryOp .Mod) (rI (fun _ j => 0 < j) fun i j => .int (i % j)) := opI fun i j _ _ _ _ _ hc q => by
  have h1 : (0 : Int) < j := hc
  exact mod_int' (by omega) (by rw [Int.fmod_eq_emod_of_nonneg i (by omega)]; exact q)
theorem op_pow : OpR X (binaryOp .Pow) (rI CPow fun i j => .int (i ^ j.toNat)) := opI fun _ _ _ _ _ _ _ hc q => pow_int_small hc.1 hc.2.1 hc.2.2 q
end
/-- the scalars that == tells apart as data does -/
def scal : V → V → Bool
  | .non, .non => true | .non, .int _ => true | .int _, .non => true | .non, .bl _ => true | .bl _, .non => true | .non, .str _ => true | .str _, .non => true
  | .int _, .int _ => true | .bl _, .bl _ => true | .str _, .str _ => true | .byt _, .byt _ => true
  | .int _, .str _ => true | .str _, .int _ => true | .bl _, .str _ => true | .str _, .bl _ => true
  | _, _ => false
def rEq : R2 := fun x y H Q => scal x y = true ∧ Q (.bl (decide (x = y))) H
def rNe : R2 := fun x y H Q => scal x y = true ∧ Q (.bl (!decide (x = y))) H
theorem dec_int {i j : Int} : decide (V.int i = V.int j) = (i == j) := by
  rw [Bool.eq_iff_iff]
  simp
theorem dec_bl {i j : Bool} : decide (V.bl i = V.bl j) = (i == j) := by
  rw [Bool.eq_iff_iff]
  simp
theorem dec_str {i j : Str} : decide (V.str i = V.str j) = (i == j) := by
  rw [Bool.eq_iff_iff]
  simp
theorem dec_byt {i j : Array UInt8} : decide (V.byt i = V.byt j) = (i.toList == j.toList) := by
  rw [Bool.eq_iff_iff]
  cases i
  cases j
  simp
section
variable {X : Cx} {a b c : Expr} {ta tb tc : TE} {pos : Pos}
theorem fin_bl {pins : List (Addr × Obj)} {σ : St} {H : Hp} {s : Shared} {Q : VK} {k k' : Bool} (I : Inv X pins σ H s) (q : Q (.bl k) H) (e : k = k') : EP X pins σ Q (.bool k') s := by
  subst e
  exact ⟨.bl k, H, I, rfl, q⟩
theorem op_eq : OpR X (compareOp .Eq) rEq := by
  intro pins s σ H x y v u Q I rx ry h
  obtain ⟨hs, q⟩ := h
  cases x with
  | non =>
    cases rx
    cases y with
    | non => cases ry; exact PySem.EqNone.eq_none_none (fin_bl I q (by simp))
    | bl j => cases ry; exact PySem.EqNone.eq_none_bool (fin_bl I q (by simp))
    | int j => obtain ⟨t', rfl⟩ := ry; exact PySem.EqNone.eq_none_int (fin_bl I q (by simp))
    | str j => obtain ⟨t', rfl⟩ := ry; exact PySem.EqNone.eq_none_str (fin_bl I q (by simp))
    | _ => exact absurd (show false = true from hs) Bool.false_ne_true
  | bl i =>
    cases rx
    cases y with
    | non => cases ry; exact PySem.EqNone.eq_bool_none (fin_bl I q (by simp))
    | bl j => cases ry; exact eq_bool (fin_bl I q dec_bl)
    | str j => obtain ⟨t', rfl⟩ := ry; exact PySem.EqMixed.eq_bool_str (fin_bl I q (by simp))
    | _ => exact absurd (show false = true from hs) Bool.false_ne_true
  | int i =>
    obtain ⟨t, rfl⟩ := rx
    cases y with
    | non => cases ry; exact PySem.EqNone.eq_int_none (fin_bl I q (by simp))
    | int j => obtain ⟨t', rfl⟩ := ry; exact eq_int (fin_bl I q dec_int)
    | str j => obtain ⟨t', rfl⟩ := ry; exact PySem.EqMixed.eq_int_str (fin_bl I q (by simp))
    | _ => exact absurd (show false = true from hs) Bool.false_ne_true
  | str i =>
    obtain ⟨t, rfl⟩ := rx
    cases y with
    | non => cases ry; exact PySem.EqNone.eq_str_none (fin_bl I q (by simp))
    | bl j => cases ry; exact PySem.EqMixed.eq_str_bool (fin_bl I q (by simp))
    | int j => obtain ⟨t', rfl⟩ := ry; exact PySem.EqMixed.eq_str_int (fin_bl I q (by simp))
    | str j => obtain ⟨t', rfl⟩ := ry; exact eq_str (fin_bl I q dec_str)
    | _ => exact absurd (show false = true from hs) Bool.false_ne_true
  | byt i =>
    obtain ⟨t, rfl⟩ := rx
    cases y with
    | byt j => obtain ⟨t', rfl⟩ := ry; exact PySem.W.eq_bytes (fin_bl I q dec_byt)
    | _ => exact absurd (show false = true from hs) Bool.false_ne_true
  | _ => cases y <;> exact absurd (show false = true from hs) Bool.false_ne_true
theorem op_ne : OpR X (compareOp .NotEq) rNe := by
  intro pins s σ H x y v u Q I rx ry h
  obtain ⟨hs, q⟩ := h
  cases x with
  | non =>
    cases rx
    cases y with
    | non => cases ry; exact PySem.EqNone.ne_none_none (fin_bl I q (by simp))
    | bl j => cases ry; exact PySem.EqNone.ne_none_bool (fin_bl I q (by simp))
    | int j => obtain ⟨t', rfl⟩ := ry; exact PySem.EqNone.ne_none_int (fin_bl I q (by simp))
    | str j => obtain ⟨t', rfl⟩ := ry; exact PySem.EqNone.ne_none_str (fin_bl I q (by simp))
    | _ => exact absurd (show false = true from hs) Bool.false_ne_true
  | bl i =>
    cases rx
    cases y with
    | non => cases ry; exact PySem.EqNone.ne_bool_none (fin_bl I q (by simp))
    | bl j => cases ry; exact ne_bool (fin_bl I q (congrArg not dec_bl))
    | str j => obtain ⟨t', rfl⟩ := ry; exact PySem.EqMixed.ne_bool_str (fin_bl I q (by simp))
    | _ => exact absurd (show false = true from hs) Bool.false_ne_true
  | int i =>
    obtain ⟨t, rfl⟩ := rx
    cases y with
    | non => cases ry; exact PySem.EqNone.ne_int_none (fin_bl I q (by simp))
    | int j => obtain ⟨t', rfl⟩ := ry; exact ne_int (fin_bl I q (congrArg not dec_int))
    | str j => obtain ⟨t', rfl⟩ := ry; exact PySem.EqMixed.ne_int_str (fin_bl I q (by simp))
    | _ => exact absurd (show false = true from hs) Bool.false_ne_true
  | str i =>
    obtain ⟨t, rfl⟩ := rx
    cases y with
    | non => cases ry; exact PySem.EqNone.ne_str_none (fin_bl I q (by simp))
    | bl j => cases ry; exact PySem.EqMixed.ne_str_bool (fin_bl I q (by simp))
    | int j => obtain ⟨t', rfl⟩ := ry; exact PySem.EqMixed.ne_str_int (fin_bl I q (by simp))
    | str j => obtain ⟨t', rfl⟩ := ry; exact ne_str (fin_bl I q (congrArg not dec_str))
    | _ => exact absurd (show false = true from hs) Bool.false_ne_true
  | byt i =>
    obtain ⟨t, rfl⟩ := rx
    cases y with
    | byt j => obtain ⟨t', rfl⟩ := ry; exact PySem.W.ne_bytes (fin_bl I q (congrArg not dec_byt))
    | _ => exact absurd (show false = true from hs) Bool.false_ne_true
  | _ => cases y <;> exact absurd (show false = true from hs) Bool.false_ne_true
theorem op_lt : OpR X (compareOp .Lt) (rI0 fun i j => .bl (decide (i < j))) := opB0 fun _ _ _ _ _ _ _ q => lt_int q
theorem op_le : OpR X (compareOp .LtE) (rI0 fun i j => .bl (decide (i ≤ j))) := opB0 fun _ _ _ _ _ _ _ q => le_int q
theorem op_gt : OpR X (compareOp .Gt) (rI0 fun i j => .bl (decide (j < i))) := opB0 fun _ _ _ _ _ _ _ q => gt_int q
theorem op_ge : OpR X (compareOp .GtE) (rI0 fun i j => .bl (decide (j ≤ i))) := opB0 fun _ _ _ _ _ _ _ q => ge_int q
theorem nomark (b : Expr) {op : CmpOp} (h : op ≠ .In := by decide) (h2 : op ≠ .NotIn := by decide) : behindInMarks op b = false := by
  have e1 : (op == CmpOp.In) = false := by cases op <;> first | rfl | exact absurd rfl h
  have e2 : (op == CmpOp.NotIn) = false := by cases op <;> first | rfl | exact absurd rfl h2
  cases b <;> simp [behindInMarks, e1, e2]
/-- a comparison as a value; hm: nomark b, or (for in, not in) by with_unfolding_all rfl -/
theorem pe_cmpR {op : CmpOp} {r : R2} (ho : OpR X (compareOp op) r) (ha : PE X a ta) (hb : PE X b tb) (hm : behindInMarks op b = false) : PE X (.Compare a [op] [b] pos) (tOp r ta tb) := by
  intro pins s σ H Q I h
  exact wpAny_Compare1 (binT ha hb I h fun v u s2 x y H2 I2 rx ry q => ho pins s2 σ H2 x y v u Q I2 rx ry q) hm
/-- a reading of a value as a test -/
def tTest (t : TE) : TT := fun σ H Q => t σ H fun x H' => ∃ k, x = .bl k ∧ Q k H'
theorem pt_cmpR {op : CmpOp} {r : R2} (ho : OpR X (compareOp op) r) (ha : PE X a ta) (hb : PE X b tb) (hm : behindInMarks op b = false) : PT X (.Compare a [op] [b] pos) (tTest (tOp r ta tb)) := by
  intro pins s σ H Q I h
  refine wpAny_isTrue_Compare1 (thn (ha pins s σ H _ I h) fun v s1 ⟨x, H1, I1, r1, q1⟩ => thn (hb pins s1 σ H1 _ I1 q1) fun u s2 ⟨y, H2, I2, r2, q2⟩ =>
    thn (ho pins s2 σ H2 x y v u _ I2 r1 r2 q2) fun c s3 ⟨z, H3, I3, r3, k, e, q3⟩ => ?_) hm
  subst e
  cases r3
  exact wpAny_truthy_bool ⟨H3, I3, q3⟩
/-- a op1 b op2 c -/
def tChain (r r' : R2) (ta tb tc : TE) : TE := fun σ H Q => ta σ H fun x H1 => tb σ H1 fun y H2 => r x y H2 fun z H3 => ∃ k, z = .bl k ∧
  (if k = true then tc σ H3 fun w' H4 => r' y w' H4 Q else Q (.bl false) H3)
theorem pe_chain {op op' : CmpOp} {r r' : R2} (ho : OpR X (compareOp op) r) (ho' : OpR X (compareOp op') r') (ha : PE X a ta) (hb : PE X b tb) (hc : PE X c tc)
    (hm : lastMarks [op, op'] [b, c] = false := by with_unfolding_all rfl) : PE X (.Compare a [op, op'] [b, c] pos) (tChain r r' ta tb tc) := by
  intro pins s σ H Q I h
  refine Compare_chain (thn (ha pins s σ H _ I h) fun v s1 ⟨x, H1, I1, r1, q1⟩ => chain_link (thn (hb pins s1 σ H1 _ I1 q1) fun u s2 ⟨y, H2, I2, r2, q2⟩ =>
    thn (ho pins s2 σ H2 x y v u _ I2 r1 r2 q2) fun d s3 ⟨z, H3, I3, r3, k, e, q3⟩ => ?_)) hm
  subst e
  cases r3
  refine wpAny_truthy_bool ?_
  cases k with
  | false => exact ite_ff ⟨.bl false, H3, I3, rfl, q3⟩
  | true => exact ite_tt (chain_last (thn (hc pins s3 σ H3 _ I3 q3) fun w' s4 ⟨z', H4, I4, r4, q4⟩ => ho' pins s4 σ H4 y z' u w' Q I4 r2 r4 q4))
theorem pt_chain {op op' : CmpOp} {r r' : R2} (ho : OpR X (compareOp op) r) (ho' : OpR X (compareOp op') r') (ha : PE X a ta) (hb : PE X b tb) (hc : PE X c tc)
    (hm : lastMarks [op, op'] [b, c] = false := by with_unfolding_all rfl) : PT X (.Compare a [op, op'] [b, c] pos) (tTest (tChain r r' ta tb tc)) := by
  intro pins s σ H Q I h
  refine isTrue_chain (thn (ha pins s σ H _ I h) fun v s1 ⟨x, H1, I1, r1, q1⟩ => test_link (thn (hb pins s1 σ H1 _ I1 q1) fun u s2 ⟨y, H2, I2, r2, q2⟩ =>
    thn (ho pins s2 σ H2 x y v u _ I2 r1 r2 q2) fun d s3 ⟨z, H3, I3, r3, k, e, q3⟩ => ?_)) hm
  subst e
  cases r3
  refine wpAny_truthy_bool ?_
  cases k with
  | false =>
    obtain ⟨k', e', q'⟩ := q3
    cases e'
    exact ite_ff ⟨H3, I3, q'⟩
  | true =>
    refine ite_tt (test_last (thn (hc pins s3 σ H3 _ I3 q3) fun w' s4 ⟨z', H4, I4, r4, q4⟩ => thn (ho' pins s4 σ H4 y z' u w' _ I4 r2 r4 q4) fun d' s5 ⟨z2, H5, I5, r5, k2, e2, q5⟩ => ?_))
    subst e2
    cases r5
    exact wpAny_truthy_bool ⟨H5, I5, q5⟩
theorem line63 : (sizeLine : Nat) < 2 ^ 63 := by rw [sizeLine_eq]; decide
theorem op_add_str : OpR X (binaryOp .Add) (fun x y H Q => ∃ i j, x = .str i ∧ y = .str j ∧ i.length + j.length ≤ sizeLine ∧ Q (.str (i ++ j)) H) := by
  intro pins s σ H x y v u Q I rx ry h
  obtain ⟨i, j, rfl, rfl, hz, q⟩ := h
  obtain ⟨t, rfl⟩ := rx
  obtain ⟨t', rfl⟩ := ry
  exact add_str (fun t' tk => ⟨.str (i ++ j), H, I.tok _, ⟨_, rfl⟩, q⟩) hz
theorem vals1 {x : V} {us : List Value} (r : Vals [x] us) : ∃ u, us = [u] ∧ RelV x u := by
  cases r with
  | cons r1 r2 => cases r2; exact ⟨_, rfl, r1⟩
theorem vals2 {x y : V} {us : List Value} (r : Vals [x, y] us) : ∃ u w', us = [u, w'] ∧ RelV x u ∧ RelV y w' := by
  cases r with
  | cons r1 r2 =>
    cases r2 with
    | cons r3 r4 => cases r4; exact ⟨_, _, rfl, r1, r3⟩
theorem call_max2 (hc : X.calm = true) : CallR X (.builtin "max") (fun xs H Q => ∃ i j, xs = [.int i, .int j] ∧ Q (.int (if j > i then j else i)) H) := by
  intro pins s σ H xs us Q I r h
  obtain ⟨i, j, rfl, q⟩ := h
  obtain ⟨u, w', rfl, ⟨t, rfl⟩, ⟨t', rfl⟩⟩ := vals2 r
  refine max_two_ints (I.ok.hd hc) fun h' tk k => ⟨_, H, I.kept k, ?_, q⟩
  by_cases hj : j > i
  · rw [if_pos hj, if_pos hj]; exact ⟨_, rfl⟩
  · rw [if_neg hj, if_neg hj]; exact ⟨_, rfl⟩
theorem call_min2 (hc : X.calm = true) : CallR X (.builtin "min") (fun xs H Q => ∃ i j, xs = [.int i, .int j] ∧ Q (.int (if j < i then j else i)) H) := by
  intro pins s σ H xs us Q I r h
  obtain ⟨i, j, rfl, q⟩ := h
  obtain ⟨u, w', rfl, ⟨t, rfl⟩, ⟨t', rfl⟩⟩ := vals2 r
  refine min_two_ints (I.ok.hd hc) fun h' tk k => ⟨_, H, I.kept k, ?_, q⟩
  by_cases hj : j < i
  · rw [if_pos hj, if_pos hj]; exact ⟨_, rfl⟩
  · rw [if_neg hj, if_neg hj]; exact ⟨_, rfl⟩
theorem call_int1 : CallR X (.type "int") (fun xs H Q => (∃ i, xs = [.int i] ∧ Q (.int i) H) ∨ ∃ k, xs = [.bl k] ∧ Q (.int (if k then 1 else 0)) H) := by
  intro pins s σ H xs us Q I r h
  rcases h with ⟨i, rfl, q⟩ | ⟨k, rfl, q⟩
  · obtain ⟨u, rfl, t, rfl⟩ := vals1 r
    exact call_int_int ⟨.int i, H, I, ⟨_, rfl⟩, q⟩
  · obtain ⟨u, rfl, r1⟩ := vals1 r
    cases r1
    exact call_int_bool ⟨.int (if k then 1 else 0), H, I.tok _, ⟨_, rfl⟩, q⟩
end
end L2
namespace L2
open PySem PySem.Spec PyProof.Rows
structure ObjM (h : Heap) (x dx C : Addr) (mA : Str → Option Value) : Prop where
  obj : h.get? x = some (PySem.W.instObj C dx)
  ns : h.Ns1 dx mA
  ne : dx ≠ x
theorem lookIn_ns {h : Heap} {dx : Addr} {mA : Str → Option Value} (n : h.Ns1 dx mA) : ∃ od, h.get? dx = some od ∧ ∀ name, PySem.W.lookIn name od = some (mA name) := by
  obtain ⟨o, es, ep, ho, hd, hk, _, hm⟩ := n
  refine ⟨o, ho, fun name => ?_⟩
  have e := hm name
  unfold nsFind findBy at e
  rw [← Array.find?_toList] at e
  unfold PySem.W.lookIn
  rw [hd]
  dsimp only
  split
  · rename_i y q
    rw [q] at e
    exact congrArg some e
  · rename_i q
    rw [q] at e
    have a : es.toList.any (·.refKey) = false := by
      rw [List.any_eq_false]
      intro y hy
      obtain ⟨z, t, hkey⟩ := hk y (Array.mem_toList_iff.mp hy)
      simp [DictEntry.refKey, hkey]
    have a' : ¬ es.toList.any (·.refKey) = true := by rw [a]; exact Bool.false_ne_true
    rw [if_neg a']
    exact congrArg some e
theorem ObjM.look {h : Heap} {x dx C : Addr} {mA : Str → Option Value} (I : ObjM h x dx C mA) : ∃ od, PySem.W.InstAt h x (PySem.W.instObj C dx) C (some od) ∧ ∀ name, PySem.W.lookIn name od = some (mA name) :=
  let ⟨od, ho, hl⟩ := lookIn_ns I.ns
  ⟨od, ⟨I.obj, rfl, rfl, ho⟩, hl⟩
section
variable {prog : Program} {w : World} {A : Around} {E : Value → Shared → Prop} {s : Shared} {K : PySem.W.Frag} {x dx C f : Addr} {mA : Str → Option Value} {name : Str} {v : Value}
end
theorem RelO.some_of {v : V} {o : Option Value} (r : RelO (some v) o) : ∃ u, o = some u ∧ RelV v u := by
  cases o with
  | none => exact (show False from r).elim
  | some u => exact ⟨u, rfl, r⟩
section
variable {P : Program} {w : World} {H H' : Hp} {h h' : Heap} {a C dx : Addr} {fs fs' : List (Str × V)}
theorem ins_get (hok : HOk P w H h) (e : H a = some (.ins C dx fs)) : ∃ mA, ObjM h a dx C mA ∧ (∀ f, RelO (fs.lookup f) (mA f)) ∧ PySem.Within mA (fs.map (·.1)) ∧ fs.length ≤ 1000 ∧ H dx = some (.own a) := by
  obtain ⟨d, z, ne, ob, mA, n, r, q⟩ := (show ObjOk P w H h a (.ins C dx fs) from hok a _ e)
  exact ⟨mA, ⟨ob, n, ne⟩, r, q, z, d⟩
end
structure Cls (K : PySem.W.Frag) (C : Addr) : Prop where
  pg : PySem.W.plainGet K C Str.empty = true
  hd : PySem.W.hasDictIn K C = true
  po : PySem.W.plainOver K C = true
  sa : PySem.W.findIn K (.ref C) "__setattr__" = some (some (.builtin "object.__setattr__"))
theorem Cls.get {K : PySem.W.Frag} {C : Addr} (c : Cls K C) (f : Str) : PySem.W.plainGet K C f = true := c.pg
section
variable {X : Cx} {pins : List (Addr × Obj)} {σ : St} {H : Hp} {s : Shared} {a C dx : Addr} {fs : List (Str × V)} {f : Str} {v : V} {A : Around} {E : Value → Shared → Prop}
/-- a new instance, tracked, without attributes -/
theorem Inv.made (I : Inv X pins σ H s) : Inv X pins σ (upd (upd H s.heap.objs.size (.own (s.heap.objs.size + 1))) (s.heap.objs.size + 1) (.ins C s.heap.objs.size []))
    { s with heap := (s.heap.push PySem.W.emptyDict).push (PySem.W.instObj C s.heap.objs.size) } := by
  have e1 : (s.heap.push PySem.W.emptyDict).get? s.heap.objs.size = some PySem.W.emptyDict := Heap.get?_push_size s.heap rfl
  have e2 : ((s.heap.push PySem.W.emptyDict).push (PySem.W.instObj C s.heap.objs.size)).get? (s.heap.objs.size + 1) = some (PySem.W.instObj C s.heap.objs.size) := by
    have := Heap.get?_push_size (s.heap.push PySem.W.emptyDict) (o := PySem.W.instObj C s.heap.objs.size) rfl
    rwa [Heap.size_push] at this
  have e3 : (s.heap.push PySem.W.emptyDict).Ns s.heap.objs.size (fun _ => none) := ⟨PySem.W.emptyDict, #[], _, e1, rfl, (fun e he => absurd he (by simp)), fun _ => rfl⟩
  have I1 := I.laid (a := s.heap.objs.size) (o := .own (s.heap.objs.size + 1)) (h' := s.heap.push PySem.W.emptyDict) (t' := s.toks) (fun b u q => Heap.get?_push_of_some _ q) (Nat.le_refl _) ⟨_, e1⟩
  refine I1.laid (a := s.heap.objs.size + 1) (o := .ins C s.heap.objs.size []) (t' := s.toks) (fun b u q => Heap.get?_push_of_some _ q) (Nat.le_of_eq (Heap.size_push _ _)) ?_
  have ne : s.heap.objs.size ≠ s.heap.objs.size + 1 := Nat.ne_of_lt (Nat.lt_succ_self _)
  refine ⟨by rw [upd_ne ne, upd_same], Nat.zero_le _, ne, e2, fun _ => none, (Heap.Ns1.of_empty e3).at fun o q => Heap.get?_push_of_some _ q, fun _ => True.intro, fun y hy => absurd rfl hy⟩
end
section
variable {X : Cx} {o e value : Expr} {f : Str} {pos pos' tpos : Pos} {ta tv : TE}
end
section
variable {X : Cx} {pins : List (Addr × Obj)} {σ : St} {H : Hp} {s : Shared} {A : Around} {E : Value → Shared → Prop} {Q : Value → Shared → Prop} {c : Value} {b : Bool}
/-- the type of a value, as the fragment's deciders take it; for an instance its class -/
inductive TyOf (K : PySem.W.Frag) (H : Hp) : V → Value → Prop where
  | non : TyOf K H .non (.type "NoneType")
  | bl (x : Bool) : TyOf K H (.bl x) (.type "bool")
  | int (i : Int) : TyOf K H (.int i) (.type "int")
  | str (x : Str) : TyOf K H (.str x) (.type "str")
  | flt (x : UInt64) : TyOf K H (.flt x) (.type "float")
  | lst {a : Addr} {xs : List V} (e : H a = some (.lst xs)) : TyOf K H (.ref a) (.type "list")
  | frz {a : Addr} {o : Obj} {xs : List V} (e : H a = some (.frz o (.lst xs))) : TyOf K H (.ref a) (.type "list")
  | tup {a : Addr} {xs : List V} (e : H a = some (.tup xs)) : TyOf K H (.ref a) (.type "tuple")
  | dK {a : Addr} {kvs : List (Key × V)} (e : H a = some (.dK kvs)) : TyOf K H (.ref a) (.type "dict")
  | dT {a : Addr} {kvs : List (List Key × V)} (e : H a = some (.dT kvs)) : TyOf K H (.ref a) (.type "dict")
  | ins {a C dx : Addr} {fs : List (Str × V)} (e : H a = some (.ins C dx fs)) (cl : Cls K C) (ha : PySem.W.findIn K (.ref C) "__class__" = some (some (.builtin "object.__class__")))
      (hn : PySem.W.specialIn K (.builtin "object.__class__") "__get__" = some (some (.builtin "getset_descriptor.__get__"))) (htk : PySem.W.takesIn K (.builtin "object.__class__") = some true)
      (hm : PySem.W.mroIn K C (.type "object") = some true) : TyOf K H (.ref a) (.ref C)
/-- isinstance(x, c) for one class c, a built-in or an own one: kitOne's answer -/
theorem isinst_ok {x : V} {u t : Value} (I : Inv X pins σ H s) (rx : RelV x u) (ty : TyOf X.K H x t) (e : PySem.W.kitOne X.K t c = some b) (h : ∀ tk, Q (.bool b) { s with toks := tk }) :
    wpAny (model X.prog X.w) A (call (.builtin "isinstance") [u, c]) Q E s := by
  cases ty with
  | non => cases (show u = Value.none from rx); exact PySem.W.kia_one PySem.W.kitx_none I.kIn True.intro e (fun z => nomatch z) h
  | bl y => cases (show u = Value.bool y from rx); exact PySem.W.kia_one PySem.W.kitx_bool I.kIn True.intro e (fun z => nomatch z) h
  | int i => obtain ⟨t, q⟩ := (show ∃ t, u = Value.int i t from rx); cases q; exact PySem.W.kia_one PySem.W.kitx_int I.kIn True.intro e (fun z => nomatch z) h
  | str y => obtain ⟨t, q⟩ := (show ∃ t, u = Value.str y t from rx); cases q; exact PySem.W.kia_one PySem.W.kitx_str I.kIn True.intro e (fun z => nomatch z) h
  | flt y => obtain ⟨t, q⟩ := (show ∃ t, u = Value.float y t from rx); cases q; exact PySem.W.kia_one PySem.W.kitx_float I.kIn True.intro e (fun z => nomatch z) h
  | @lst a xs ea =>
    cases (show u = Value.ref a from rx)
    obtain ⟨_, _, n, _, h1⟩ := (show ObjOk X.prog X.w H s.heap a (.lst xs) from I.hok a _ ea)
    exact PySem.W.kia_one PySem.W.kitx_list I.kIn ⟨_, h1, rfl⟩ e (fun z => nomatch z) h
  | @frz a ob xs ea =>
    cases (show u = Value.ref a from rx)
    obtain ⟨_, _, _, n, _, h1⟩ := (show ObjOk X.prog X.w H s.heap a (.frz ob (.lst xs)) from I.hok a _ ea)
    exact PySem.W.kia_one PySem.W.kitx_list I.kIn ⟨_, h1, rfl⟩ e (fun z => nomatch z) h
  | @tup a xs ea =>
    cases (show u = Value.ref a from rx)
    obtain ⟨_, _, _, p⟩ := (show ObjOk X.prog X.w H s.heap a (.tup xs) from I.hok a _ ea)
    obtain ⟨o, h1, h2, _⟩ := p
    exact PySem.W.kia_one PySem.W.kitx_tuple I.kIn ⟨o, h1, h2⟩ e (fun z => nomatch z) h
  | @dK a kvs ea =>
    cases (show u = Value.ref a from rx)
    obtain ⟨_, _, vs, _, p⟩ := (show ObjOk X.prog X.w H s.heap a (.dK kvs) from I.hok a _ ea)
    obtain ⟨o, es, ep, h1, h2, _⟩ := p
    exact PySem.W.kia_one PySem.W.kitx_dict I.kIn ⟨o, h1, h2.1⟩ e (fun z => nomatch z) h
  | @dT a kvs ea =>
    cases (show u = Value.ref a from rx)
    obtain ⟨_, _, xs, _, o, es, ep, h1, h2, _⟩ := (show ObjOk X.prog X.w H s.heap a (.dT kvs) from I.hok a _ ea)
    exact PySem.W.kia_one PySem.W.kitx_dict I.kIn ⟨o, h1, h2.1⟩ e (fun z => nomatch z) h
  | @ins a C dx fs ea cl ha hn htk hm =>
    cases (show u = Value.ref a from rx)
    obtain ⟨mA, O, _⟩ := ins_get I.hok ea
    obtain ⟨od, J, _⟩ := O.look
    exact PySem.W.kia_one (PySem.W.kitx_own (cl.get _) cl.hd ha hn htk hm) I.kIn J e (fun z => nomatch z) h
end
end L2
namespace L2
open PySem PySem.Spec PyProof.Rows
structure Room (k : Nat) (A : Around) : Prop where
  hd : A.handled = none
  dp : A.depth + 3 * k + 5 < recursionLimit
  un : A.units + 16 * k + 200 < cLine
  gd : A.guards = some [] := by rfl
theorem Room.mono {j k : Nat} {A : Around} (r : Room k A) (h : j ≤ k) : Room j A := ⟨r.hd, by have := r.dp; omega, by have := r.un; omega, r.gd⟩
theorem Room.deeper {k : Nat} {A : Around} (r : Room (k + 1) A) (env : Env) : Room k (A.deeper env) :=
  ⟨r.hd, by have := r.dp; show A.depth + 1 + 3 * k + 5 < _; omega, by have := r.un; show A.units + 3 + 16 * k + 200 < _; omega, r.gd⟩
theorem Room.depth {k : Nat} {A : Around} (r : Room k A) : A.depth < recursionLimit := by have := r.dp; omega
theorem Room.units {k : Nat} {A : Around} (r : Room k A) : A.units + 64 < cLine := by have := r.un; omega
def tNil : TA := fun _ H Q => Q [] H
def tCons (ta : TE) (tr : TA) : TA := fun σ H Q => ta σ H fun x H1 => tr σ H1 fun xs H2 => Q (x :: xs) H2
section
variable {X : Cx} {e : Expr} {es : List Expr} {te : TE} {t : TA} {pos : Pos}
theorem pa_nil : PA X [] tNil := fun _ _ _ _ H Q I h => Calls.spliced_nil ⟨[], H, I, .nil, h⟩
theorem pa_cons (ha : PE X e te) (hr : PA X es t) (hs : starEach (e :: es) X.env = (false, eval e X.env) :: starEach es X.env := by rfl) : PA X (e :: es) (tCons te t) := by
  intro pos pins s σ H Q I h
  rw [hs]
  show wpAny _ _ (spliced ((false, eval e X.env) :: backTo pos (starEach es X.env))) _ _ s
  refine Calls.spliced_cons (thn (ha pins s σ H _ I h) fun u s1 ⟨x, H1, I1, r1, q1⟩ => ?_)
  exact thn (hr pos pins s1 σ H1 _ I1 q1) fun us s2 ⟨xs, H2, I2, r2, q2⟩ => ⟨x :: xs, H2, I2, .cons r1 r2, q2⟩
/-- a tuple, a list of written items -/
def tTup (t : TA) : TE := fun σ H Q => t σ H fun xs H1 => xs.length ≤ sizeLine ∧ ∀ p, H1 p = none → Q (.ref p) (upd H1 p (.tup xs))
def tLst (t : TA) : TE := fun σ H Q => t σ H fun xs H1 => xs.length ≤ sizeLine ∧ ∀ p, H1 p = none → Q (.ref p) (upd H1 p (.lst xs))
theorem pe_tup {x1} (h : PA X es t) : PE X (.Tuple es x1 pos) (tTup t) := by
  intro pins s σ H Q I hq
  refine wpAny_Tuple_spliced (thn (h pos pins s σ H _ I hq) fun us s1 ⟨xs, H1, I1, r, z, q⟩ => ⟨by rw [← r.length]; exact z, ?_⟩)
  have hf : H1 s1.heap.objs.size = none := I1.hok.fresh (Nat.le_refl _)
  refine ⟨.ref s1.heap.objs.size, upd H1 s1.heap.objs.size (.tup xs), I1.laid (t' := s1.toks) (fun b u e => Heap.get?_push_of_some _ e) (Nat.le_refl _) ?_, rfl, q _ hf⟩
  exact ⟨z, us, r, ⟨_, Heap.get?_push_size _ rfl, rfl, _, rfl⟩⟩
theorem pe_lst (h : PA X es t) : PE X (.List es pos) (tLst t) := by
  intro pins s σ H Q I hq
  refine wpAny_List_spliced (thn (h pos pins s σ H _ I hq) fun us s1 ⟨xs, H1, I1, r, z, q⟩ => ⟨by rw [← r.length]; exact z, ?_⟩)
  have hf : H1 s1.heap.objs.size = none := I1.hok.fresh (Nat.le_refl _)
  refine ⟨.ref s1.heap.objs.size, upd H1 s1.heap.objs.size (.lst xs), I1.laid (t' := s1.toks) (fun b u e => Heap.get?_push_of_some _ e) (Nat.le_refl _) ?_, rfl, q _ hf⟩
  exact ⟨z, us, 0, r, Heap.get?_push_size _ rfl⟩
end
/-- a def's promise: the bound arguments in the parameters' order, the heap, the wanted end, the wanted exception -/
abbrev Sp := List V → Hp → VK → XK → Prop
/-- how an exception lies behind a call (file 08 gives it): the callers' frames, abstract heap and state ahead of the call, the wish, the exception, the state -/
abbrev CXT := List Env → Hp → Shared → XK → Value → Shared → Prop
/-- the state at a call -/
structure Env0 (P : Program) (w : World) (K : PySem.W.Frag) (mg : Str → Option Value) (base : Heap) (A : Around) (outer : List Env) (s : Shared) (H : Hp) : Prop where
  frames : A.frames = some outer
  mod : Mod K mg base
  bs : ∀ b o, base.get? b = some o → s.heap.get? b = some o ∧ H b = none
  bsz : base.objs.size ≤ s.heap.objs.size
  funs : s.heap.FunFrames base outer
  frf : ∀ b ∈ frs outer, H b = none
  hok : HOk P w H s.heap
  bare : AllBare s.gens
/-- a call's end -/
def CE (outer : List Env) (P : Program) (w : World) (H : Hp) (s : Shared) (Q : VK) (u : Value) (s' : Shared) : Prop :=
  ∃ v H', s'.os = s.os ∧ AllBare s'.gens ∧ Un (frs outer) [] H H' s.heap s'.heap ∧ HOk P w H' s'.heap ∧ RelV v u ∧ Q v H'
def CR (CX : CXT) (outer : List Env) (P : Program) (w : World) (H : Hp) (s : Shared) (Q : VK) (E : XK) (r : Result) (s' : Shared) : Prop :=
  match r with
  | .ok (.ret u) => CE outer P w H s Q u s'
  | .ok _ => False
  | .error e => CX outer H s E e s'
structure FnOk (P : Program) (w : World) (K : PySem.W.Frag) (mg : Str → Option Value) (base : Heap) (CX : CXT) (k : Nat) (f : Addr) (fd : FuncData) (ps : List Str) (sp : Sp) : Prop where
  len : ∀ vs H Q E, sp vs H Q E → vs.length = ps.length
  run : ∀ (A : Around) (outer : List Env) (s : Shared) (H : Hp) (args : Args) (us : List Value) (vs : List V) (Q : VK) (E : XK), Room k A → Env0 P w K mg base A outer s H → BindsTo s fd args (ps.zip us) → Vals vs us → sp vs H Q E →
    codeAny (model P w) A (.call (.ref f) args) (CR CX outer P w H s Q E) s
theorem FnOk.mono {P : Program} {w : World} {K : PySem.W.Frag} {mg : Str → Option Value} {base : Heap} {CX : CXT} {j k : Nat} {f : Addr} {fd : FuncData} {ps : List Str} {sp : Sp} (F : FnOk P w K mg base CX j f fd ps sp) (h : j ≤ k) :
    FnOk P w K mg base CX k f fd ps sp := ⟨F.len, fun A outer s H args us vs Q E hr => F.run A outer s H args us vs Q E (hr.mono h)⟩
/-- a weaker promise -/
theorem FnOk.imp {P : Program} {w : World} {K : PySem.W.Frag} {mg : Str → Option Value} {base : Heap} {CX : CXT} {k : Nat} {f : Addr} {fd : FuncData} {ps : List Str} {sp sp' : Sp} (F : FnOk P w K mg base CX k f fd ps sp)
    (h : ∀ vs H Q E, sp' vs H Q E → sp vs H Q E) : FnOk P w K mg base CX k f fd ps sp' :=
  ⟨fun vs H Q E q => F.len vs H Q E (h _ _ _ _ q), fun A outer s H args us vs Q E hr he hb hv hs => F.run A outer s H args us vs Q E hr he hb hv (h _ _ _ _ hs)⟩
section
variable {X : Cx} {pins : List (Addr × Obj)} {σ : St} {H : Hp} {s s' : Shared}
/-- from a body: what a callee wants -/
theorem Inv.env0 (I : Inv X pins σ H s) : Env0 X.prog X.w X.K X.mg X.base X.A X.stack s H :=
  ⟨I.ok.frames, I.ok.mod, I.bs, Nat.le_trans I.ok.bsz I.sz, I.stack, I.stkFree, I.hok, I.bare⟩
/-- behind a call -/
theorem Inv.after {Q : VK} {u : Value} (I : Inv X pins σ H s) (h : CE X.stack X.prog X.w H s Q u s') : EP X pins σ Q u s' := by
  obtain ⟨v, H', os, bare, un, hok, r, q⟩ := h
  obtain ⟨hh, g, d, t, os'⟩ := s'
  obtain rfl : os' = s.os := os
  exact ⟨v, H', I.call (h' := hh) (g' := g) (d' := d) (t' := t) (ch := []) un hok bare (fun b z => absurd z (by simp)), r, q⟩
end
/-- f(..): the written arguments, then the defaults dvs; E: what is wanted of an exception -/
def tCall (sp : Sp) (dvs : List V) (E : XK) (t : TA) : TE := fun σ H Q => t σ H fun vs H1 => sp (vs ++ dvs) H1 Q E
/-- how the parameters are bound: us the positional arguments, kw the keywords' values by name, ds the defaults that fill up -/
def Binds (K : PySem.W.Frag) (fd : FuncData) (ps : List Str) (ds : List Value) : Prop :=
  ∀ (s : Shared) (us : List Value), K.In s.heap → (us ++ ds).length = ps.length → BindsTo s fd ⟨us, []⟩ (ps.zip (us ++ ds))
/-- every parameter is given -/
theorem Binds.all {K : PySem.W.Frag} {fd : FuncData} {ps : List Str} (h : ∀ us : List Value, us.length = ps.length → bindArgs fd ⟨us, []⟩ = pure (ps.zip us)) : Binds K fd ps [] := fun s us _ hl => by
  rw [List.append_nil] at hl ⊢
  exact .of_eq (h us hl)
/-- an exception of a callee reaches what this body wants of exceptions -/
def Passes (CX : CXT) (X : Cx) (E : XK) : Prop := ∀ (pins : List (Addr × Obj)) (σ : St) (H : Hp) (s : Shared) (e : Value) (s' : Shared), Inv X pins σ H s → CX X.stack H s E e s' → X.xe e s'
section
variable {X : Cx} {CX : CXT} {k : Nat} {f C : Addr} {fd : FuncData} {ps : List Str} {sp : Sp} {dvs : List V} {ds : List Value} {E : XK} {x m : Str} {p pos apos : Pos} {e o : Expr} {es : List Expr} {ta : TE} {t : TA}
/-- the callee runs -/
theorem run_fn {pins : List (Addr × Obj)} {σ : St} {H : Hp} {s : Shared} {Q : VK} {us : List Value} {vs : List V} (F : FnOk X.prog X.w X.K X.mg X.base CX k f fd ps sp) (hr : Room k X.A) (hb : Binds X.K fd ps ds) (hd : Vals dvs ds) (hx : Passes CX X E)
    (I : Inv X pins σ H s) (r : Vals vs us) (h : sp (vs ++ dvs) H Q E) : wpAny (model X.prog X.w) X.A (call (.ref f) us) (EP X pins σ Q) X.xe s := by
  have r2 : Vals (vs ++ dvs) (us ++ ds) := r.append hd
  have hl : (us ++ ds).length = ps.length := by rw [← r2.length]; exact F.len _ _ _ _ h
  refine wpAny_call (codeAny_mono (F.run X.A X.stack s H ⟨us, []⟩ (us ++ ds) (vs ++ dvs) Q E hr I.env0 (hb s us I.kIn hl) r2 h) fun r s' hq => ?_)
  cases r with
  | error e => exact hx pins σ H s e s' I hq
  | ok fl =>
    cases fl with
    | ret u => exact I.after hq
    | next => exact False.elim hq
    | brk => exact False.elim hq
    | cont => exact False.elim hq
theorem pe_call (F : FnOk X.prog X.w X.K X.mg X.base CX k f fd ps sp) (hr : Room k X.A) (hg : Gl X x) (hm : X.mg x = some (.ref f)) (hk : PySem.W.keepIn X.K (.ref f) = true) (hb : Binds X.K fd ps ds) (hd : Vals dvs ds) (hx : Passes CX X E)
    (ha : PA X (e :: es) t) (hdb : (x == ("__debug__" : Str)) = false := by decide) (he : starEach (e :: es) X.env = (false, eval e X.env) :: starEach es X.env := by rfl) (hpl : (backTo pos (starEach es X.env)).any (·.1) = false := by rfl) :
    PE X (.Call (.Name x p) (e :: es) [] pos) (tCall sp dvs E t) := by
  intro pins s σ H Q I h
  refine wpAny_Call_Name_kw (ld_glob I hg hm ?_ hdb)
  refine PySem.W.callWith_K (h₀ := X.base) I.ok.mod.kin hk (thn (ha pos pins s σ H _ I h) fun us s1 ⟨vs, H1, I1, r, q⟩ => ⟨I1.kIn, ?_⟩) he hpl
  exact run_fn F hr hb hd hx I1 r q
end
section
variable {X : Cx} {CX : CXT} {k : Nat} {f C : Addr} {fd : FuncData} {ps ks : List Str} {sp : Sp} {E : XK} {x m : Str} {p pos apos kpos : Pos} {e o : Expr} {es : List Expr} {kws : List Keyword} {te ta : TE} {t tk : TA} {nm : Option Str}
variable {g : List Value → List Value → List Value} {gV : List V → List V → List V}
end
/-- names: the parameters first -/
structure FnScope (N P : List Str) (sc : Scope) : Prop where
  kind : sc.kind = .function
  co : sc.isCoroutine = false
  gen : sc.isGenerator = false
  nd : N.Nodup
  pre : N.take P.length = P
  par : ∀ x ∈ P, sc.names.lookup x = some .local ∨ sc.names.lookup x = some .cell
  nofree : ∀ y ∈ sc.names, y.2 ≠ .free
theorem bindL_out {kindOf : Str → Option NameKind} {x : Str} : ∀ {binds : List (Str × Value)} {m : Str → Option Value}, (∀ v, (x, v) ∉ binds) → bindL kindOf binds m x = m x
  | [], _, _ => rfl
  | (n, v) :: r, m, h => by
    unfold bindL
    rw [bindL_out fun w hw => h w (List.mem_cons_of_mem _ hw)]
    split
    · have : x ≠ n := by rintro rfl; exact h v List.mem_cons_self
      simp [this]
    · rfl
theorem bindC_out {kindOf : Str → Option NameKind} {x : Str} : ∀ {binds : List (Str × Value)} {m : Str → Option Value}, (∀ v, (x, v) ∉ binds) → bindC kindOf binds m x = m x
  | [], _, _ => rfl
  | (n, v) :: r, m, h => by
    unfold bindC
    rw [bindC_out fun w hw => h w (List.mem_cons_of_mem _ hw)]
    split
    · rfl
    · have : x ≠ n := by rintro rfl; exact h v List.mem_cons_self
      simp [this]
theorem bindL_get {kindOf : Str → Option NameKind} {x : Str} {v : Value} : ∀ {P : List Str} {vs : List Value} {i : Nat} {m : Str → Option Value}, P.Nodup → P[i]? = some x → vs[i]? = some v → kindOf x = some .local →
    bindL kindOf (P.zip vs) m x = some v
  | [], _, _, _, _, h, _, _ => by simp at h
  | _ :: _, [], _, _, _, _, h, _ => by simp at h
  | p :: P, w :: vs, 0, m, nd, h1, h2, hk => by
    simp at h1 h2; subst h1; subst h2
    show bindL kindOf ((p, w) :: P.zip vs) m p = _
    unfold bindL
    rw [bindL_out fun v hv => (List.nodup_cons.mp nd).1 (List.of_mem_zip hv).1, if_pos hk]
    simp
  | p :: P, w :: vs, i + 1, m, nd, h1, h2, hk => by
    show bindL kindOf ((p, w) :: P.zip vs) m x = _
    unfold bindL
    exact bindL_get (i := i) (List.nodup_cons.mp nd).2 (by simpa using h1) (by simpa using h2) hk
theorem bindC_get {kindOf : Str → Option NameKind} {x : Str} {v : Value} : ∀ {P : List Str} {vs : List Value} {i : Nat} {m : Str → Option Value}, P.Nodup → P[i]? = some x → vs[i]? = some v → kindOf x ≠ some .local →
    bindC kindOf (P.zip vs) m x = some v
  | [], _, _, _, _, h, _, _ => by simp at h
  | _ :: _, [], _, _, _, _, h, _ => by simp at h
  | p :: P, w :: vs, 0, m, nd, h1, h2, hk => by
    simp at h1 h2; subst h1; subst h2
    show bindC kindOf ((p, w) :: P.zip vs) m p = _
    unfold bindC
    rw [bindC_out fun v hv => (List.nodup_cons.mp nd).1 (List.of_mem_zip hv).1, if_neg hk]
    simp
  | p :: P, w :: vs, i + 1, m, nd, h1, h2, hk => by
    show bindC kindOf ((p, w) :: P.zip vs) m x = _
    unfold bindC
    exact bindC_get (i := i) (List.nodup_cons.mp nd).2 (by simpa using h1) (by simpa using h2) hk
/-- the names' values at the entry -/
def start (N : List Str) (vs : List V) : St := vs.map some ++ List.replicate (N.length - vs.length) none
/-- the context of a def's body, at its entry; an exception leaves the frame, then lies as CX says -/
def cxOf (CX : CXT) (P : Program) (w : World) (K : PySem.W.Frag) (mg : Str → Option Value) (base : Heap) (N : List Str) (qual : Str) (scope : Scope) (f : Addr) (cd : Value) (A : Around) (outer : List Env) (s : Shared) (H : Hp) (E : XK) : Cx where
  prog := P
  w := w
  K := K
  mg := mg
  base := base
  A := A.deeper (envOfC qual scope s.heap.objs.size f cd)
  N := N
  s₀ := s
  H₀ := H
  env := envOfC qual scope s.heap.objs.size f cd
  outer := outer
  stack := envOfC qual scope s.heap.objs.size f cd :: outer
  ex := []
  calm := true
  fn := fun _ => true
  pn := []
  xe := fun e s' => wpAny (model P w) (A.deeper (envOfC qual scope s.heap.objs.size f cd)) (leaving (envOfC qual scope s.heap.objs.size f cd) e) (fun _ s'' => CX outer H s E e s'') (fun e' s'' => CX outer H s E e' s'') s'
theorem cell_has {sc : Scope} {n : Nat} {x : Str} (h : sc.names.lookup x = some .cell) : ∃ c, (cellsFrom n sc.names []).lookup x = some c := by
  have q := PySem.W.cellsFrom_some sc.names n [] (.inl h)
  exact Option.isSome_iff_exists.mp q
theorem inv_start {CX : CXT} {P : Program} {w : World} {K : PySem.W.Frag} {mg : Str → Option Value} {base : Heap} {N ps : List Str} {qual : Str} {scope : Scope} {f : Addr} {cd : Value} {A : Around} {outer : List Env} {s s1 : Shared} {H : Hp} {E : XK} {us : List Value} {vs : List V}
    (S : FnScope N ps scope) (hd : A.handled = none) (e0 : Env0 P w K mg base A outer s H) (hl : vs.length = ps.length) (r : Vals vs us)
    (x : InCallC s s.heap.objs.size (bindL (envOfC qual scope s.heap.objs.size f cd).kindOf (ps.zip us) fun _ => none) (cellsFrom (s.heap.objs.size + 1) scope.names []) (bindC (envOfC qual scope s.heap.objs.size f cd).kindOf (ps.zip us) fun _ => none) s1) :
    Inv (cxOf CX P w K mg base N qual scope f cd A outer s H E) [] (start N vs) H s1 := by
  have hpl : ps.length ≤ N.length := by have := congrArg List.length S.pre; rw [List.length_take] at this; omega
  obtain ⟨h1, tk, rfl, hk⟩ := x.done
  have noA : ∀ b : Addr, b ∉ (cxOf CX P w K mg base N qual scope f cd A outer s H E).ex := fun b z => absurd (show b ∈ ([] : List Addr) from z) (by simp)
  refine ⟨⟨e0.mod, S.kind, rfl, rfl, Nat.le_refl _, fun y z c h1 h2 => ?_, fun y hy => ?_, fun y c _ h => ?_, fun _ => hd, Around.frames_deeper e0.frames, .inr ⟨rfl, rfl⟩, fun b z => absurd z (noA b), e0.bs, e0.bsz, fun b _ _ => noA b, fun b z => absurd z (noA b), e0.funs, e0.frf⟩,
    rfl, e0.bare, Un.kept hk, ⟨_, x.toInCall.ns, fun i y v h1 h2 h3 => ?_⟩, fun y c h => ⟨_, x.cell y c h⟩, e0.hok.fresh (Nat.le_refl _), fun y c h => ?_, fun p hp => absurd (show p ∈ ([] : List (Addr × Obj)) from hp) (by simp), e0.hok.kept hk, ?_⟩
  · exact name_of_addr x.apart (PySem.mem_of_lookup h1) (PySem.mem_of_lookup h2)
  · have hy : scope.names.lookup y = some .cell ∨ scope.names.lookup y = some .free := hy
    rcases hy with hy | hy
    · exact cell_has hy
    · exact absurd rfl (S.nofree _ (PySem.mem_of_lookup hy))
  · exact Nat.le_of_lt (x.above y c (PySem.mem_of_lookup h))
  · have hi : i < vs.length := by
      unfold start at h2
      by_cases hi : i < vs.length
      · exact hi
      · rw [List.getElem?_append_right (by simpa using hi)] at h2
        rw [List.getElem?_replicate] at h2
        split at h2 <;> cases h2
    have ha : vs[i]? = some v := by
      unfold start at h2
      rw [List.getElem?_append_left (by simpa using hi), List.getElem?_map] at h2
      cases e : vs[i]? with
      | none => rw [e] at h2; cases h2
      | some a => rw [e] at h2; cases h2; rfl
    obtain ⟨u, hu, rv⟩ := r.get ha
    have hp : ps[i]? = some y := by
      rw [← S.pre, List.getElem?_take_of_lt (by omega)]; exact h1
    have ndP : ps.Nodup := by rw [← S.pre]; exact S.nd.sublist (List.take_sublist _ _)
    refine ⟨u, rv, ?_⟩
    rcases S.par y (List.mem_of_getElem? hp) with k | k
    · exact .inl ⟨k, bindL_get ndP hp hu k⟩
    · obtain ⟨c, e⟩ := cell_has (n := s.heap.objs.size + 1) k
      refine .inr ⟨.inl k, c, e, ?_⟩
      have q := x.cell y c e
      rw [bindC_get ndP hp hu (by show scope.names.lookup y ≠ _; rw [k]; decide)] at q
      exact q
  · exact e0.hok.fresh (Nat.le_of_lt (x.above y c (PySem.mem_of_lookup h)))
  · unfold start
    show _ = N.length
    rw [List.length_append, List.length_map, List.length_replicate]
    omega
/-- THE RULE: a def (or a method) of the text, by its body. The body's reading t is chosen for each entry; it is run at the parameters' values -/
theorem fn_of {CX : CXT} {P : Program} {w : World} {K : PySem.W.Frag} {mg : Str → Option Value} {base : Heap} {k : Nat} {f : Addr} {name qual : Str} {params : Arguments} {body : List Stmt} {scope : Scope} {dV kV doc pm cdv ct oc : Value} {an od : Option Addr}
    {osl : Array (Option Value)} {N ps : List Str} {sp : Sp} (lk : K.lookup f = some ⟨oc, od, .func (PySem.W.fnOf name qual params body scope dV kV doc pm an cdv ct), osl⟩) (hcd : PySem.W.codeIn K cdv qual = true) (S : FnScope N ps scope)
    (len : ∀ vs H Q E, sp vs H Q E → vs.length = ps.length)
    (hbody : ∀ (A : Around) (outer : List Env) (s : Shared) (H : Hp) (vs : List V) (Q : VK) (E : XK), Room k (A.deeper (envOfC qual scope s.heap.objs.size f cdv)) → sp vs H Q E →
      ∃ t, PSs (cxOf CX P w K mg base N qual scope f cdv A outer s H E) body t ∧ t { nx := fun _ H' => Q .non H', rt := Q } (start N vs) H) :
    FnOk P w K mg base CX (k + 1) f (PySem.W.fnOf name qual params body scope dV kV doc pm an cdv ct) ps sp := by
  refine ⟨len, fun A outer s H args us vs Q E hr e0 hb r hsp => ?_⟩
  have hl := len _ _ _ _ hsp
  have KX : K.In s.heap := e0.mod.kin.keeps fun b o e => (e0.bs b o e).1
  have lim : s.heap.NoLimit := e0.mod.nolimit.keeps fun b o e => (e0.bs b o e).1
  have hkind : ∀ y ∈ ps.zip us, scope.names.lookup y.1 = some .local ∨ (scope.names.lookup y.1 = some .cell ∧ ((cellsFrom (s.heap.objs.size + 1) scope.names []).lookup y.1).isSome = true) := fun ⟨n, v⟩ hy => by
    rcases S.par n (List.of_mem_zip hy).1 with q | q
    · exact .inl q
    · exact .inr ⟨q, PySem.W.cellsFrom_some _ _ _ (.inl q)⟩
  refine codeAny_call_function hr.depth (KX _ _ lk) rfl S.co S.gen rfl (PySem.W.codeRec_of KX hcd) (hb _ _ _ _ ?_)
  refine wpAny_newFunctionEnv_cells S.kind hkind fun env he s1 x => ?_
  subst he
  refine ⟨lim.keeps x.toInCall.keep, codeAny_func ?_⟩
  obtain ⟨t, ht, hq⟩ := hbody A outer s H vs Q E (hr.deeper _) hsp
  have I : Inv (cxOf CX P w K mg base N qual scope f cdv A outer s H E) [] (start N vs) H s1 := inv_start S hr.hd e0 hl r x
  refine wpAny_mono (ht [] s1 (start N vs) H _ I hq) (fun fl s' hs => ?_) fun e s' hs => hs
  have fin : ∀ {σ' : St} {H' : Hp} {v : V} {u : Value}, Inv (cxOf CX P w K mg base N qual scope f cdv A outer s H E) [] σ' H' s' → RelV v u → Q v H' → CE outer P w H s Q u s' :=
    fun {σ' H' v u} J rv q => ⟨v, H', J.os, J.bare, J.base, J.hok, rv, q⟩
  cases fl with
  | ret u =>
    obtain ⟨v, σ', H', J, rv, q⟩ := hs
    exact fin J rv q
  | next =>
    obtain ⟨σ', H', J, q⟩ := hs
    exact fin (v := V.non) (u := Value.none) J rfl q
  | brk =>
    obtain ⟨_, _, _, q⟩ := hs
    exact False.elim q
  | cont =>
    obtain ⟨_, _, _, q⟩ := hs
    exact False.elim q
end L2
namespace L2
open PySem PySem.Spec PyProof.Rows
section
variable {X : Cx} {x : Str} {p pos : Pos} {e : Expr} {es : List Expr} {t : TA} {id T : String} {r : List V → Hp → VK → Prop}
def tCB (r : List V → Hp → VK → Prop) (t : TA) : TE := fun σ H Q => t σ H fun vs H1 => r vs H1 Q
/-- f(e, ..), f a built-in function -/
theorem pe_callB (hc : CallR X (.builtin id) r) (hg : Gl X x) (hm : X.mg x = none) (hv : bootBuiltins x = some (.builtin id)) (ha : PA X (e :: es) t) (hn : x ≠ "__name__" := by decide) (hdb : (x == ("__debug__" : Str)) = false := by decide)
    (he : starEach (e :: es) X.env = (false, eval e X.env) :: starEach es X.env := by rfl) (hpl : (backTo pos (starEach es X.env)).any (·.1) = false := by rfl) : PE X (.Call (.Name x p) (e :: es) [] pos) (tCB r t) := by
  intro pins s σ H Q I h
  refine wpAny_Call_Name_kw (ld_blt I hg hm hv ?_ hn hdb)
  exact PyProof.Rows.callWith_builtin1 (thn (ha pos pins s σ H _ I h) fun us s1 ⟨vs, H1, I1, r1, q1⟩ => hc pins s1 σ H1 vs us Q I1 r1 q1) he hpl
/-- T(e, ..), T a built-in type -/
theorem pe_callTy (hc : CallR X (.type T) r) (hg : Gl X x) (hm : X.mg x = none) (hv : bootBuiltins x = some (.type T)) (ha : PA X (e :: es) t) (hn : x ≠ "__name__" := by decide) (hdb : (x == ("__debug__" : Str)) = false := by decide)
    (he : starEach (e :: es) X.env = (false, eval e X.env) :: starEach es X.env := by rfl) (hpl : (backTo pos (starEach es X.env)).any (·.1) = false := by rfl) : PE X (.Call (.Name x p) (e :: es) [] pos) (tCB r t) := by
  intro pins s σ H Q I h
  refine wpAny_Call_Name_kw (ld_blt I hg hm hv ?_ hn hdb)
  exact PyProof.Rows.callWith_type1 (thn (ha pos pins s σ H _ I h) fun us s1 ⟨vs, H1, I1, r1, q1⟩ => hc pins s1 σ H1 vs us Q I1 r1 q1) he hpl
end
end L2
namespace HT
open PySem PyProof.Rows
section
open PySem.SeqAt
open PySem.AutoSeq1 (wpAny_loadPart')
open PySem.MeetsSeq PySem.MeetsSeq2 PySem.MeetsSeq3
end
section
variable {prog : Program} {w : World} {A : Around} {E : Value → Shared → Prop} {s : Shared}
/-- t + u, t not empty -/
theorem cat_tup {t b : Addr} {vs ws : List Value} {Q : Value → Shared → Prop} (ht : IsTup s.heap t vs.toArray) (hb : IsTup s.heap b ws.toArray) (hv : vs ≠ [])
    (h1 : ws = [] → Q (.ref t) s) (h2 : ws ≠ [] → Q (.ref s.heap.objs.size) { s with heap := s.heap.push { cls := .type "tuple", data := .seq (vs ++ ws).toArray } })
    (hsz : vs.length + ws.length ≤ sizeLine) : wpAny (model prog w) A (binaryOp .Add (.ref t) (.ref b)) Q E s := by
  obtain ⟨⟨cls, dd, data, sl⟩, ho, hc, n, hd⟩ := id ht
  obtain ⟨⟨cls2, dd2, data2, sl2⟩, ho2, hc2, n2, hd2⟩ := id hb
  simp only at hc hd hc2 hd2
  subst hc hd hc2 hd2
  have e : vs.toArray ++ ws.toArray = (vs ++ ws).toArray := by simp
  by_cases hw : ws = []
  · exact concat_meets ⟨_, ho, rfl⟩ ⟨_, ho2, rfl⟩ noFill_tuple_add seq_tuple_add PySem.F.slot_tuple_add PySem.F.entry_tuple_add (PySem.F.args_tuple_add_2 _ _)
      (tuple_addW1 t b vs.toArray ws.toArray n n2 dd dd2 sl sl2 (by simpa using hv) (by simp [hw])) ⟨ho, ho2, h1 hw⟩
  · refine concat_meets ⟨_, ho, rfl⟩ ⟨_, ho2, rfl⟩ noFill_tuple_add seq_tuple_add PySem.F.slot_tuple_add PySem.F.entry_tuple_add (PySem.F.args_tuple_add_2 _ _)
      (tuple_addW2 t b vs.toArray ws.toArray n n2 dd dd2 sl sl2 (by simpa using hv) (by simpa using hw) (by rw [List.size_toArray, List.size_toArray]; exact hsz)) ⟨ho, ho2, ?_⟩
    rw [e]
    exact h2 hw
/-- a slice's bound as a place among n (d where it is left out) -/
def sIx (n d : Nat) : Option Int → Nat
  | none => d
  | some v => if v < 0 then (v + (n : Int)).toNat else min v.toNat n
end
end HT
namespace L2
open PySem PySem.Spec PyProof.Rows
abbrev TO := St → Hp → (Option Int → Hp → Prop) → Prop
section
variable {X : Cx} {e : Expr} {te : TE} {lo hi : Option Expr} {tl th : TO} {pos p2 : Pos}
/-- what a slice of a value is, by values: the slice object stands at sl -/
def SlR (X : Cx) (r : V → Option Int → Option Int → Hp → VK → Prop) : Prop :=
  ∀ (pins : List (Addr × Obj)) (s : Shared) (σ : St) (H : Hp) (x : V) (v vl vu : Value) (lo hi : Option Int) (sl : Addr) (Q : VK), Inv X pins σ H s → RelV x v → s.heap.IsSliceOf sl vl vu .none → IsPart vl lo → IsPart vu hi → r x lo hi H Q →
    ∃ T id, typeLookup (.type T) "__getitem__" = pure (some (.builtin id)) ∧ s.TypeIs v T ∧ wpAny (model X.prog X.w) X.A (getItem v (.ref sl)) (EP X pins σ Q) X.xe s
/-- the items of xs[lo:hi] -/
def cutV (xs : List V) (lo hi : Option Int) : List V := (xs.drop (HT.sIx xs.length 0 lo)).take (HT.sIx xs.length xs.length hi - HT.sIx xs.length 0 lo)
theorem cutV_length (xs : List V) (lo hi : Option Int) : (cutV xs lo hi).length ≤ xs.length := by
  unfold cutV
  rw [List.length_take, List.length_drop]
  omega
/-- t + u, t not empty: u empty gives t itself -/
def rCatT (K : PySem.W.Frag) : R2 := fun x y H Q => ∃ a b xs ys, x = .ref a ∧ y = .ref b ∧ SqT K H a xs ∧ SqT K H b ys ∧ xs ≠ [] ∧ xs.length + ys.length ≤ sizeLine ∧
  (ys = [] → Q (.ref a) H) ∧ (ys ≠ [] → ∀ p, H p = none → Q (.ref p) (upd H p (.tup (xs ++ ys))))
theorem Vals.nil_iff {xs : List V} {us : List Value} (r : Vals xs us) : us = [] ↔ xs = [] := by
  cases r with
  | nil => simp
  | cons _ _ => simp
theorem op_catT : OpR X (binaryOp .Add) (rCatT X.K) := by
  intro pins s σ H x y v u Q I rx ry h
  obtain ⟨a, b, xs, ys, rfl, rfl, ha, hb, hx, hz, q1, q2⟩ := h
  cases rx
  cases ry
  obtain ⟨its, r1, p1, _⟩ := I.tuple ha
  obtain ⟨its2, r2, p2, _⟩ := I.tuple hb
  refine HT.cat_tup p1 p2 (fun z => hx (r1.nil_iff.mp z)) (fun z => ⟨.ref a, H, I, rfl, q1 (r2.nil_iff.mp z)⟩) (fun z => ?_) (by rw [← r1.length, ← r2.length]; exact hz)
  refine ⟨.ref s.heap.objs.size, _, I.laid (t' := s.toks) (o := .tup (xs ++ ys)) (fun b ob q => Heap.get?_push_of_some _ q) (Nat.le_refl _) ?_, rfl, q2 (fun w => z (r2.nil_iff.mpr w)) _ (I.hok.fresh (Nat.le_refl _))⟩
  exact ⟨by rw [List.length_append]; exact hz, _, r1.append r2, IsTup.new _ _⟩
end
end L2
namespace L2
open PySem PySem.Spec PyProof.Rows
/-- the place that an index of any sign means -/
def ixN (n : Nat) (i : Int) : Option Nat := if 0 ≤ i then (if i < n then some i.toNat else none) else if -(n : Int) ≤ i then some (i + n).toNat else none
def atI {α : Type} (xs : List α) (i : Int) : Option α := (ixN xs.length i).bind fun j => xs[j]?
theorem ixN_seq {n : Nat} {i : Int} {j : Nat} (h : ixN n i = some j) : seqIndex? i n = some j ∧ j < n ∧ -(n : Int) ≤ i ∧ i < n := by
  unfold ixN at h
  by_cases h0 : 0 ≤ i
  · rw [if_pos h0] at h
    by_cases h1 : i < n
    · rw [if_pos h1] at h
      have e : i.toNat = j := Option.some.inj h
      exact ⟨by rw [seqIndex_of h0 h1, e], by omega, by omega, h1⟩
    · rw [if_neg h1] at h; cases h
  · rw [if_neg h0] at h
    by_cases h1 : -(n : Int) ≤ i
    · rw [if_pos h1] at h
      have e : (i + n).toNat = j := Option.some.inj h
      exact ⟨by rw [seqIndex_neg (by omega) h1, e], by omega, h1, by omega⟩
    · rw [if_neg h1] at h; cases h
theorem atI_get {α : Type} {xs : List α} {i : Int} {v : α} (h : atI xs i = some v) : ∃ j, seqIndex? i xs.length = some j ∧ xs[j]? = some v ∧ j < xs.length ∧ -(xs.length : Int) ≤ i ∧ i < xs.length := by
  unfold atI at h
  cases e : ixN xs.length i with
  | none => rw [e] at h; cases h
  | some j =>
    rw [e] at h
    obtain ⟨h1, h2, h3, h4⟩ := ixN_seq e
    exact ⟨j, h1, h, h2, h3, h4⟩
theorem atI_nat {α : Type} {xs : List α} {j : Nat} {v : α} (h : xs[j]? = some v) : atI xs (j : Int) = some v := by
  have hj : j < xs.length := (List.getElem?_eq_some_iff.mp h).1
  have e : ixN xs.length (j : Int) = some j := by
    unfold ixN
    rw [if_pos (by omega), if_pos (by omega)]; simp
  unfold atI; rw [e]; exact h
/-- what stands as an index of a plain subscript -/
def PlainIx (b : Expr) : Prop := ∀ o i, subscripted b false o i = operate [o, i] (getItem o i)
/-- a subscript by values -/
def IxR (X : Cx) (r : R2) : Prop :=
  ∀ (value slice : Expr) (pins : List (Addr × Obj)) (s : Shared) (σ : St) (H : Hp) (x y : V) (v u : Value) (Q : VK), Inv X pins σ H s → RelV x v → RelV y u → r x y H Q →
    subscripted slice false v u = operate [v, u] (getItem v u) → wpAny (model X.prog X.w) X.A (subscriptTail value slice v u) (EP X pins σ Q) X.xe s
/-- a call of a builtin's method by values: the receiver, the arguments -/
def MtR (X : Cx) (id : String) (r : V → List V → Hp → VK → Prop) : Prop :=
  ∀ (pins : List (Addr × Obj)) (s : Shared) (σ : St) (H : Hp) (x : V) (xs : List V) (v : Value) (us : List Value) (Q : VK), Inv X pins σ H s → RelV x v → Vals xs us → r x xs H Q →
    wpAny (model X.prog X.w) X.A (call (.builtin id) (v :: us)) (EP X pins σ Q) X.xe s
section
variable {X : Cx} {a b : Expr} {ta tb : TE} {pos : Pos}
/-- a[b] -/
theorem pe_ix {r : R2} (hr : IxR X r) (ha : PE X a ta) (hb : PE X b tb) (hs : PlainIx b) : PE X (.Subscript a b pos) (tOp r ta tb) := by
  intro pins s σ H Q I h
  exact Subscript_ (binT ha hb I h fun v u s2 x y H2 I2 rx ry q => hr a b pins s2 σ H2 x y v u Q I2 rx ry q (hs _ _))
def rIxL (K : PySem.W.Frag) : R2 := fun x y H Q => ∃ p xs i v, x = .ref p ∧ y = .int i ∧ SqL K H p xs ∧ atI xs i = some v ∧ Q v H
def rIxT (K : PySem.W.Frag) : R2 := fun x y H Q => ∃ p xs i v, x = .ref p ∧ y = .int i ∧ SqT K H p xs ∧ atI xs i = some v ∧ Q v H
def rIxS : R2 := fun x y H Q => ∃ z i c, x = .str z ∧ y = .int i ∧ z.length ≤ sizeLine ∧ atI z.cps.toList i = some c ∧ Q (.str ⟨#[c]⟩) H
theorem ix_list : IxR X (rIxL X.K) := by
  intro value slice pins s σ H x y v u Q I rx ry h hs
  obtain ⟨p, xs, i, z, rfl, rfl, hq, he, q⟩ := h
  cases rx
  obtain ⟨t, rfl⟩ := ry
  obtain ⟨its, r, pl, hz⟩ := I.list hq
  obtain ⟨j, h1, h2, h3, h4, h5⟩ := atI_get he
  obtain ⟨w, ew, rw'⟩ := r.get h2
  have hl := r.length
  have hn := line63
  have fin : EP X pins σ Q w s := ⟨z, H, I, rw', q⟩
  by_cases h0 : 0 ≤ i
  · have hj : i.toNat = j := by
      rw [seqIndex_of h0 h5] at h1
      exact Option.some.inj h1
    exact item_listR pl.isList h0 (by omega) (by rw [hj]; simpa using ew) fin hs
  · have hj : (i + (its.toArray.size : Int)).toNat = j := by
      rw [seqIndex_neg (by omega) h4] at h1
      rw [List.size_toArray, ← hl]
      exact Option.some.inj h1
    exact subscriptTail_builtinR (x := w) pl.isList.typeIs slot_list_getitem.lookup
      (wpAny_getItem_list_neg (Q := fun r s' => r = w ∧ EP X pins σ Q r s') pl.isList (by omega) (by rw [List.size_toArray] <;> omega) (by omega) (by rw [hj]; simpa using ew) ⟨rfl, fin⟩) hs
theorem ix_tup : IxR X (rIxT X.K) := by
  intro value slice pins s σ H x y v u Q I rx ry h hs
  obtain ⟨p, xs, i, z, rfl, rfl, hq, he, q⟩ := h
  cases rx
  obtain ⟨t, rfl⟩ := ry
  obtain ⟨its, r, pl, hz⟩ := I.tuple hq
  obtain ⟨j, h1, h2, h3, h4, h5⟩ := atI_get he
  obtain ⟨w, ew, rw'⟩ := r.get h2
  have hl := r.length
  have hn := line63
  have fin : EP X pins σ Q w s := ⟨z, H, I, rw', q⟩
  exact subscriptTail_builtinR (x := w) pl.typeIs slot_tuple_getitem.lookup
    (getItem_tuple (j := j) (Q := fun r s' => r = w ∧ EP X pins σ Q r s') pl (by omega) (by omega) (by rw [List.size_toArray, ← hl]; exact h1) (by simpa using ew) ⟨rfl, fin⟩) hs
theorem ix_str : IxR X rIxS := by
  intro value slice pins s σ H x y v u Q I rx ry h hs
  obtain ⟨z, i, c, rfl, rfl, hz, he, q⟩ := h
  obtain ⟨t, rfl⟩ := rx
  obtain ⟨t', rfl⟩ := ry
  obtain ⟨j, h1, h2, h3, h4, h5⟩ := atI_get he
  have hl : z.cps.toList.length = z.length := by simp [Str.length]
  rw [hl] at h1 h4 h5
  have hn := line63
  exact tail_any (typeIs_str s z t) slot_str_getitem.lookup (getItem_str (c := c) (by
    have e1 : decide (i < -(2 ^ 63 : Int)) = false := decide_eq_false (by omega)
    have e2 : decide (i ≥ 2 ^ 63) = false := decide_eq_false (by omega)
    rw [e1, e2, Bool.or_false]) (by rw [h1]; simpa using h2) ⟨.str ⟨#[c]⟩, H, I.tok _, ⟨_, rfl⟩, q⟩) hs
/-- the list's object behind a store -/
theorem mapSeq_set (its : List Value) (n j : Nat) (u : Value) : Obj.mapSeq (·.setIfInBounds j u) { cls := .type "list", data := .seq its.toArray n } = { cls := .type "list", data := .seq (its.set j u).toArray n } := by
  simp [Obj.mapSeq]
theorem Inv.lst {pins : List (Addr × Obj)} {σ : St} {H : Hp} {s : Shared} {p : Addr} {xs : List V} (I : Inv X pins σ H s) (h : H p = some (.lst xs)) :
    ∃ (its : List Value) (n : Nat), Vals xs its ∧ s.heap.get? p = some { cls := .type "list", data := .seq its.toArray n } ∧ xs.length ≤ sizeLine := by
  obtain ⟨z, its, n, r, e⟩ := I.hok p _ h
  exact ⟨its, n, r, e, z⟩
/-- the list at p is written by an update of its object -/
theorem Inv.lstUpd {pins : List (Addr × Obj)} {σ : St} {H : Hp} {s : Shared} {p : Addr} {xs ys : List V} {its its' : List Value} {n n' : Nat} {f : Obj → Obj} (I : Inv X pins σ H s) (h : H p = some (.lst xs))
    (ho : s.heap.get? p = some { cls := .type "list", data := .seq its.toArray n }) (hf : f { cls := .type "list", data := .seq its.toArray n } = { cls := .type "list", data := .seq its'.toArray n' }) (r : Vals ys its') (hz : ys.length ≤ sizeLine) (t : Nat) :
    Inv X pins σ (upd H p (.lst ys)) { s with heap := s.heap.update p f, toks := t } := by
  have e : (s.heap.update p f).get? p = some { cls := .type "list", data := .seq its'.toArray n' } := by
    rw [Heap.get?_update_self f ho (by rw [hf] <;> rfl), hf]
  refine I.write (x := p) (e := p) (by rw [h]; trivial) (.inl rfl) (fun b u hb q => (Heap.get?_update_other _ _ (Ne.symm hb)).trans q) ⟨_, e⟩ ?_
  exact ⟨hz, its', n', r, e⟩
def rSetL : V → V → V → Hp → (Hp → Prop) → Prop := fun o i v H Q => ∃ p xs k j, o = .ref p ∧ i = .int k ∧ H p = some (.lst xs) ∧ ixN xs.length k = some j ∧ Q (upd H p (.lst (xs.set j v)))
theorem set_list : PSet X rSetL := by
  intro pins s σ H o i v ov iv u Q I ro ri rv h
  obtain ⟨p, xs, k, j, rfl, rfl, hp, hj, q⟩ := h
  cases ro
  obtain ⟨t, rfl⟩ := ri
  obtain ⟨its, n, r, ho, hz⟩ := I.lst hp
  obtain ⟨h1, h2, h3, h4⟩ := ixN_seq hj
  have hl := r.length
  have hn := line63
  have I' : Inv X pins σ (upd H p (.lst (xs.set j v))) { s with heap := s.heap.update p (Obj.mapSeq (·.setIfInBounds j u)) } :=
    I.lstUpd hp ho (mapSeq_set its n j u) (r.set rv j) (by rw [List.length_set]; exact hz) s.toks
  by_cases h0 : 0 ≤ k
  · have hk : k.toNat = j := by
      rw [seqIndex_of h0 h4] at h1
      exact Option.some.inj h1
    exact PySem.W.ki_setAt ho h0 (by omega) (by rw [List.size_toArray, ← hl]; exact h4) (by rw [hk]; exact ⟨_, I', q⟩)
  · have hk : (k + (its.toArray.size : Int)).toNat = j := by
      rw [seqIndex_neg (by omega) h3] at h1
      rw [List.size_toArray, ← hl]
      exact Option.some.inj h1
    exact PySem.W.ki_setBack ho (by omega) (by rw [List.size_toArray, ← hl]; exact h3) (by omega) (by rw [hk]; exact ⟨_, I', q⟩)
theorem slice_bounds (lo hi : Option Int) (n : Nat) : (sliceBounds lo hi none n).1 = ((HT.sIx n 0 lo : Nat) : Int) ∧ (sliceBounds lo hi none n).2.1 = ((HT.sIx n n hi : Nat) : Int) ∧ (sliceBounds lo hi none n).2.2 = 1 := by
  refine ⟨?_, ?_, rfl⟩
  · cases lo with
    | none => simp [sliceBounds, HT.sIx]
    | some i =>
      simp only [sliceBounds, HT.sIx, Option.getD_none, show (1 : Int) > 0 by decide, if_true]
      by_cases h : i < 0
      · simp only [h, if_true] <;> omega
      · simp only [h, if_false] <;> omega
  · cases hi with
    | none => simp [sliceBounds, HT.sIx]
    | some i =>
      simp only [sliceBounds, HT.sIx, Option.getD_none, show (1 : Int) > 0 by decide, if_true]
      by_cases h : i < 0
      · simp only [h, if_true] <;> omega
      · simp only [h, if_false] <;> omega
theorem slicePick_cut (its : List Value) (lo hi : Option Int) : slicePick its.toArray lo hi none = ((its.drop (HT.sIx its.length 0 lo)).take (HT.sIx its.length its.length hi - HT.sIx its.length 0 lo)).toArray := by
  obtain ⟨h1, h2, h3⟩ := slice_bounds lo hi its.toArray.size
  unfold slicePick
  rw [h1, h2, h3]
  simp only [sliceRange_one, pick_run, List.size_toArray] <;> rfl
/-- xs[lo:hi] of a list: a new list -/
def rSlL (K : PySem.W.Frag) : V → Option Int → Option Int → Hp → VK → Prop := fun x lo hi H Q => ∃ a xs, x = .ref a ∧ SqL K H a xs ∧ ∀ p, H p = none → Q (.ref p) (upd H p (.lst (cutV xs lo hi)))
theorem sl_list : SlR X (rSlL X.K) := by
  intro pins s σ H x v vl vu lo hi sl Q I rx hs pl pu h
  obtain ⟨a, xs, rfl, hx, q⟩ := h
  cases rx
  obtain ⟨its, r, ht, hz⟩ := I.list hx
  have hlen := r.length
  refine ⟨"list", _, slot_list_getitem.lookup, ht.isList.typeIs, ?_⟩
  refine wpAny_getItem_list_slice ht.isList hs pl pu .none (by simp) ?_ (by rw [List.size_toArray] <;> omega)
  rw [slicePick_cut, ← hlen]
  refine ⟨.ref s.heap.objs.size, _, I.laid (t' := s.toks) (o := .lst (cutV xs lo hi)) (fun b ob q => Heap.get?_push_of_some _ q) (Nat.le_refl _) ?_, rfl, q _ (I.hok.fresh (Nat.le_refl _))⟩
  exact ⟨Nat.le_trans (cutV_length xs lo hi) hz, _, 0, (r.drop (HT.sIx xs.length 0 lo)).take (HT.sIx xs.length xs.length hi - HT.sIx xs.length 0 lo), Heap.get?_push_size _ rfl⟩
def flatV : V → Bool
  | .non => true
  | .bl _ => true
  | .int _ => true
  | .str _ => true
  | _ => false
/-- == of flat values -/
def eqV : V → V → Bool
  | .non, .non => true
  | .bl a, .bl b => a == b
  | .bl a, .int b => (if a then 1 else 0) == b
  | .int a, .bl b => a == (if b then 1 else 0)
  | .int a, .int b => a == b
  | .str a, .str b => a == b
  | _, _ => false
theorem eqAt_V {A : Around} {s : Shared} {y x : V} {u v : Value} (ry : RelV y u) (rx : RelV x v) (fy : flatV y = true) (fx : flatV x = true) : SeqAt.EqAt A s u v (eqV y x) := by
  cases y with
  | non =>
    cases ry
    cases x with
    | non => cases rx; exact SeqAt.EqAt.same _
    | bl b => cases rx; exact SeqAt.EqAt.none_bool b
    | int b => obtain ⟨t, rfl⟩ := rx; exact SeqAt.EqAt.none_int b t
    | str b => obtain ⟨t, rfl⟩ := rx; exact SeqAt.EqAt.none_str b t
    | _ => exact absurd (show false = true from fx) Bool.false_ne_true
  | bl a =>
    cases ry
    cases x with
    | non => cases rx; exact SeqAt.EqAt.bool_none a
    | bl b => cases rx; exact SeqAt.EqAt.bool_bool a b
    | int b => obtain ⟨t, rfl⟩ := rx; exact SeqAt.EqAt.bool_int a b t
    | str b => obtain ⟨t, rfl⟩ := rx; exact SeqAt.EqAt.bool_str a b t
    | _ => exact absurd (show false = true from fx) Bool.false_ne_true
  | int a =>
    obtain ⟨t', rfl⟩ := ry
    cases x with
    | non => cases rx; exact SeqAt.EqAt.int_none a t'
    | bl b => cases rx; exact SeqAt.EqAt.int_bool a t' b
    | int b => obtain ⟨t, rfl⟩ := rx; exact SeqAt.EqAt.int_int a t' b t
    | str b => obtain ⟨t, rfl⟩ := rx; exact SeqAt.EqAt.int_str a t' b t
    | _ => exact absurd (show false = true from fx) Bool.false_ne_true
  | str a =>
    obtain ⟨t', rfl⟩ := ry
    cases x with
    | non => cases rx; exact SeqAt.EqAt.str_none a t'
    | bl b => cases rx; exact SeqAt.EqAt.str_bool a t' b
    | int b => obtain ⟨t, rfl⟩ := rx; exact SeqAt.EqAt.str_int a t' b t
    | str b => obtain ⟨t, rfl⟩ := rx; exact SeqAt.EqAt.str_str a t' b t
    | _ => exact absurd (show false = true from fx) Bool.false_ne_true
  | _ => exact absurd (show false = true from fy) Bool.false_ne_true
/-- the items' answers, read off the values (a value's own answer does not lean on its token) -/
def eqU (x : V) (u : Value) : Bool := match u with
  | .none => eqV .non x
  | .bool b => eqV (.bl b) x
  | .int i _ => eqV (.int i) x
  | .str z _ => eqV (.str z) x
  | _ => false
theorem eqU_of {x y : V} {u : Value} (r : RelV y u) (f : flatV y = true) : eqU x u = eqV y x := by
  cases y with
  | non => cases r; rfl
  | bl b => cases r; rfl
  | int i => obtain ⟨t, rfl⟩ := r; rfl
  | str z => obtain ⟨t, rfl⟩ := r; rfl
  | _ => exact absurd (show false = true from f) Bool.false_ne_true
theorem any_eqU {x : V} : ∀ {xs : List V} {us : List Value}, Vals xs us → xs.all flatV = true → us.any (eqU x) = xs.any fun y => eqV y x
  | _, _, .nil, _ => rfl
  | y :: xs, u :: us, .cons r t, f => by
    rw [List.all_cons, Bool.and_eq_true] at f
    rw [List.any_cons, List.any_cons, eqU_of r f.1, any_eqU t f.2]
theorem mem_eqAt {A : Around} {s : Shared} {x : V} {v : Value} (rx : RelV x v) (fx : flatV x = true) : ∀ {xs : List V} {us : List Value}, Vals xs us → xs.all flatV = true → ∀ u ∈ us, SeqAt.EqAt A s u v (eqU x u)
  | _, _, .nil, _ => fun u hu => by cases hu
  | y :: xs, u :: us, .cons r t, f => fun u' hu => by
    rw [List.all_cons, Bool.and_eq_true] at f
    rcases List.mem_cons.mp hu with rfl | hu
    · rw [eqU_of r f.1]; exact eqAt_V r rx f.1 fx
    · exact mem_eqAt rx fx t f.2 u' hu
def inV (x : V) (xs : List V) : Bool := xs.any fun y => eqV y x
/-- x in a list or tuple of flat items -/
def rIn (K : PySem.W.Frag) (neg : Bool) : R2 := fun x y H Q => ∃ p xs, y = .ref p ∧ (SqL K H p xs ∨ SqT K H p xs) ∧ flatV x = true ∧ xs.all flatV = true ∧ Q (.bl (if neg then !inV x xs else inV x xs)) H
theorem op_notIn_seq : OpR X (compareOp .NotIn) (rIn X.K true) := by
  intro pins s σ H x y v u Q I rx ry h
  obtain ⟨p, xs, rfl, hq, fx, fs, q⟩ := h
  cases ry
  rcases hq with hq | hq
  · obtain ⟨its, r, pl, hz⟩ := I.list hq
    refine SeqAt.notIn_listAt (eqU x) pl.isList (fun w hw => mem_eqAt rx fx r fs w (by simpa using hw)) ⟨.bl _, H, I, rfl, ?_⟩
    rw [show its.toArray.any (eqU x) = its.any (eqU x) by simp, any_eqU r fs]
    exact q
  · obtain ⟨its, r, pl, hz⟩ := I.tuple hq
    refine SeqAt.notIn_tupleAt (eqU x) pl (fun w hw => mem_eqAt rx fx r fs w (by simpa using hw)) ⟨.bl _, H, I, rfl, ?_⟩
    rw [show its.toArray.any (eqU x) = its.any (eqU x) by simp, any_eqU r fs]
    exact q
theorem call_len_seq : CallR X (.builtin "len") (fun xs H Q => ∃ p ys, xs = [.ref p] ∧ (SqL X.K H p ys ∨ SqT X.K H p ys) ∧ Q (.int ys.length) H) := by
  intro pins s σ H xs us Q I r h
  obtain ⟨p, ys, rfl, hq, q⟩ := h
  obtain ⟨u, rfl, rx⟩ := vals1 r
  cases rx
  have hn := line63
  rcases hq with hq | hq
  · obtain ⟨its, r', pl, hz⟩ := I.list hq
    have hlen := r'.length
    exact Calls.call_len_list pl.isList (by simp only [List.size_toArray] <;> omega) ⟨.int ys.length, H, I.tok _, ⟨s.toks + 1, by rw [List.size_toArray, hlen]⟩, q⟩
  · obtain ⟨its, r', pl, hz⟩ := I.tuple hq
    have hlen := r'.length
    exact len_tuple pl (by simp only [List.size_toArray] <;> omega) ⟨.int ys.length, H, I.tok _, ⟨s.toks + 1, by rw [List.size_toArray, hlen]⟩, q⟩
theorem call_len_str : CallR X (.builtin "len") (fun xs H Q => ∃ z, xs = [.str z] ∧ z.length ≤ sizeLine ∧ Q (.int z.length) H) := by
  intro pins s σ H xs us Q I r h
  obtain ⟨z, rfl, hz, q⟩ := h
  obtain ⟨u, rfl, t, rfl⟩ := vals1 r
  have hn := line63
  exact len_str (by omega) ⟨.int z.length, H, I.tok _, ⟨_, rfl⟩, q⟩
theorem call_list_of : CallR X (.type "list") (fun xs H Q => ∃ p ys, xs = [.ref p] ∧ (SqL X.K H p ys ∨ SqT X.K H p ys) ∧ ∀ l, H l = none → Q (.ref l) (upd H l (.lst ys))) := by
  intro pins s σ H xs us Q I r h
  obtain ⟨p, ys, rfl, hq, q⟩ := h
  obtain ⟨u, rfl, rx⟩ := vals1 r
  cases rx
  have fin : ∀ (its : List Value), Vals ys its → ys.length ≤ sizeLine → ∀ (h' : Heap) (c' : Nat), (∀ b o', s.heap.get? b = some o' → h'.get? b = some o') →
      h'.get? s.heap.objs.size = some { cls := .type "list", dict := none, data := .seq its.toArray c', slots := #[] } → EP X pins σ Q (.ref s.heap.objs.size) { s with heap := h' } := fun its r' hz h' c' kp e =>
    ⟨.ref s.heap.objs.size, _, I.laid (t' := s.toks) kp (Nat.le_refl _) (show ObjOk X.prog X.w _ h' _ (.lst ys) from ⟨hz, its, c', r', e⟩), rfl, q _ (I.hok.fresh (Nat.le_refl _))⟩
  rcases hq with hq | hq
  · obtain ⟨its, r', pl, hz⟩ := I.list hq
    have hlen := r'.length
    obtain ⟨o, ho, hc, n, hd⟩ := pl.isList
    exact call_list_seq p (.inl rfl) ho hc hd (fun h' c' kp e => fin its r' hz h' c' kp e) (by simp only [List.size_toArray] <;> omega)
  · obtain ⟨its, r', pl, hz⟩ := I.tuple hq
    have hlen := r'.length
    obtain ⟨o, ho, hc, n, hd⟩ := pl
    exact call_list_seq p (.inr rfl) ho hc hd (fun h' c' kp e => fin its r' hz h' c' kp e) (by simp only [List.size_toArray] <;> omega)
theorem call_tuple_of : CallR X (.type "tuple") (fun xs H Q => ∃ p ys, xs = [.ref p] ∧ ((SqL X.K H p ys ∧ ∀ l, H l = none → Q (.ref l) (upd H l (.tup ys))) ∨ (SqT X.K H p ys ∧ Q (.ref p) H))) := by
  intro pins s σ H xs us Q I r h
  obtain ⟨p, ys, rfl, h⟩ := h
  obtain ⟨u, rfl, rx⟩ := vals1 r
  cases rx
  rcases h with ⟨hq, q⟩ | ⟨hq, q⟩
  · obtain ⟨its, r', pl, hz⟩ := I.list hq
    have hlen := r'.length
    refine call_tuple_list pl.isList (fun h' kp => ?_) (by simp only [List.size_toArray] <;> omega)
    have I1 : Inv X pins σ H { s with heap := h' } := I.kept (t' := s.toks) kp
    have I2 : Inv X pins σ (upd H h'.objs.size (.tup ys)) { s with heap := h'.push { cls := .type "tuple", data := .seq its.toArray } } :=
      I1.laid (t' := s.toks) (fun b o e => Heap.get?_push_of_some _ e) (Nat.le_refl _) (show ObjOk X.prog X.w _ _ _ (.tup ys) from ⟨hz, its, r', IsTup.new _ _⟩)
    exact ⟨.ref h'.objs.size, _, I2, rfl, q _ (I1.hok.fresh (Nat.le_refl _))⟩
  · obtain ⟨its, r', pl, hz⟩ := I.tuple hq
    exact call_tuple_same pl ⟨.ref p, H, I, rfl, q⟩
/-- the value is of that builtin type -/
def tyV (K : PySem.W.Frag) (T : String) (x : V) (H : Hp) : Prop := match x with
  | .str _ => T = "str"
  | .int _ => T = "int"
  | .ref p => (T = "list" ∧ ∃ xs, SqL K H p xs) ∨ (T = "tuple" ∧ ∃ o, K.lookup p = some o ∧ o.cls = .type "tuple" ∧ o.dict = none) ∨
      (T = "dict" ∧ ((∃ kvs, H p = some (.dK kvs)) ∨ ∃ kvs, H p = some (.dT kvs))) ∨ (T = "set" ∧ ∃ S n, H p = some (.set S n))
  | _ => False
theorem tyV_is {pins : List (Addr × Obj)} {σ : St} {H : Hp} {s : Shared} {T : String} {x : V} {v : Value} (I : Inv X pins σ H s) (r : RelV x v) (ty : tyV X.K T x H) :
    s.TypeIs v T ∧ ∀ a, v = .ref a → ∃ ob, s.heap.get? a = some ob ∧ ob.dict = none := by
  cases x with
  | str z =>
    obtain ⟨t, rfl⟩ := r
    cases (show T = "str" from ty)
    exact ⟨typeIs_str s z t, fun _ e => nomatch e⟩
  | int i =>
    obtain ⟨t, rfl⟩ := r
    cases (show T = "int" from ty)
    exact ⟨typeIs_int s i t, fun _ e => nomatch e⟩
  | ref p =>
    cases r
    rcases ty with ⟨rfl, xs, hq⟩ | ⟨rfl, o, hk, hc, hd⟩ | ⟨rfl, hk⟩ | ⟨rfl, S, n, hk⟩
    · obtain ⟨its, _, pl, _⟩ := I.list hq
      refine ⟨pl.isList.typeIs, fun a e => ?_⟩
      cases e
      obtain ⟨o, n, e, c, hd, _⟩ := pl
      exact ⟨o, e, hd⟩
    · refine ⟨⟨o, I.kIn p o hk, hc⟩, fun a e => ?_⟩
      cases e
      exact ⟨o, I.kIn _ o hk, hd⟩
    · have z : ∃ o, s.heap.get? p = some o ∧ o.ExactDict := by
        rcases hk with ⟨kvs, hk⟩ | ⟨kvs, hk⟩
        · obtain ⟨_, _, _, _, o, _, _, e, ex, _⟩ := I.hok p _ hk
          exact ⟨o, e, ex⟩
        · obtain ⟨_, _, _, _, o, _, _, e, ex, _⟩ := I.hok p _ hk
          exact ⟨o, e, ex⟩
      obtain ⟨o, e, ex⟩ := z
      refine ⟨⟨o, e, ex.1⟩, fun a e2 => ?_⟩
      cases e2
      exact ⟨o, e, ex.2.1⟩
    · obtain ⟨o, _, _, _, e, ex, _⟩ := I.hok p _ hk
      refine ⟨⟨o, e, ex.1⟩, fun a e2 => ?_⟩
      cases e2
      exact ⟨o, e, ex.2.1⟩
  | _ => exact False.elim ty
def tBM0 (K : PySem.W.Frag) (T : String) (r : V → List V → Hp → VK → Prop) (to : TE) : TE := fun σ H Q => to σ H fun x H1 => tyV K T x H1 ∧ r x [] H1 Q
def tBM (K : PySem.W.Frag) (T : String) (r : V → List V → Hp → VK → Prop) (to : TE) (t : TA) : TE := fun σ H Q => to σ H fun x H1 => tyV K T x H1 ∧ t σ H1 fun xs H2 => r x xs H2 Q
variable {o e : Expr} {es : List Expr} {to : TE} {t : TA} {name : Str} {apos cpos : Pos} {T id : String} {r : V → List V → Hp → VK → Prop}
theorem pe_bm0 (pa : PlainAttrs T) (slot : Slot T name id) (hty : typeOf (.builtin id) = pure (.type "method_descriptor")) (hm : MtR X id r) (ho : PE X o to)
    (hbase : attributeBase o name X.env (eval o X.env) = eval o X.env := by rfl) (hline : (apos.endLine == cpos.line) = true := by rfl) : PE X (.Call (.Attribute o name apos) [] [] cpos) (tBM0 X.K T r to) := by
  intro pins s σ H Q I h
  refine wpAny_Call_method0_late hbase hline (thn (ho pins s σ H _ I h) fun v s1 ⟨x, H1, I1, r1, ty, q1⟩ => ?_)
  obtain ⟨h1, h2⟩ := tyV_is I1 r1 ty
  exact ⟨T, id, pa, slot, hty, h1, h2, Calls.callWith_builtin rfl (PySem.evalArgs_none (hm pins s1 σ H1 x [] v [] Q I1 r1 .nil q1))⟩
theorem pe_bm (pa : PlainAttrs T) (slot : Slot T name id) (hty : typeOf (.builtin id) = pure (.type "method_descriptor")) (hm : MtR X id r) (ho : PE X o to) (ha : PA X (e :: es) t)
    (hbase : attributeBase o name X.env (eval o X.env) = eval o X.env := by rfl)
    (hfew : ((backTo cpos (starEach (e :: es) X.env)).all (fun x => !x.1) && (backToKw cpos (keywordEach [] X.env)).all (fun x => x.1.isSome)
      && decide ((e :: es).length + ([] : List Keyword).length + (if ([] : List Keyword).isEmpty then 0 else 1) < 30)) = true := by rfl)
    (hline : (apos.endLine == cpos.line) = true := by rfl) (hs : starEach (e :: es) X.env = (false, eval e X.env) :: starEach es X.env := by rfl) (hplain : (backTo cpos (starEach es X.env)).any (·.1) = false := by rfl) :
    PE X (.Call (.Attribute o name apos) (e :: es) [] cpos) (tBM X.K T r to t) := by
  intro pins s σ H Q I h
  refine wpAny_Call_method_late hbase hfew hline rfl (thn (ho pins s σ H _ I h) fun v s1 ⟨x, H1, I1, r1, ty, q1⟩ => ?_)
  obtain ⟨h1, h2⟩ := tyV_is I1 r1 ty
  refine ⟨T, id, pa, slot, hty, h1, h2, ?_⟩
  have hA := ha cpos pins s1 σ H1 _ I1 q1
  rw [hs] at hA ⊢
  refine Calls.callWith_builtin (by show (false || (backTo cpos (starEach es X.env)).any (·.1)) = false; rw [hplain] <;> rfl) (Calls.evalArgs_plain ?_)
  exact thn hA fun us s2 ⟨vs, H2, I2, r2, q2⟩ => hm pins s2 σ H2 x vs v us Q I2 r1 r2 q2
end
end L2
namespace L2
open PySem PySem.Spec PyProof.Rows
def MtM (X : Cx) (id : String) (r : V → List V → Hp → VK → Prop) : Prop :=
  ∀ (pins : List (Addr × Obj)) (s : Shared) (σ : St) (H : Hp) (x : V) (xs : List V) (v : Value) (us : List Value) (Q : VK), Inv X pins σ H s → RelV x v → Vals xs us → r x xs H Q →
    wpAny (model X.prog X.w) X.A (call (.builtin id) (v :: us)) (EP X pins σ Q) X.xe s
theorem Vals.one : ∀ {x : V} {us : List Value}, Vals [x] us → ∃ u, us = [u] ∧ RelV x u
  | _, _, .cons r .nil => ⟨_, rfl, r⟩
theorem Vals.two : ∀ {x y : V} {us : List Value}, Vals [x, y] us → ∃ u v, us = [u, v] ∧ RelV x u ∧ RelV y v
  | _, _, _, .cons r (.cons q .nil) => ⟨_, _, rfl, r, q⟩
theorem Vals.zero : ∀ {us : List Value}, Vals [] us → us = []
  | _, .nil => rfl
theorem Vals.dropLast {xs : List V} {us : List Value} (h : Vals xs us) : Vals xs.dropLast us.dropLast := by
  induction h with
  | nil => exact .nil
  | cons r t ih =>
    cases t with
    | nil => exact .nil
    | cons q t' => exact .cons r ih
theorem Vals.eraseIdx : ∀ {xs : List V} {us : List Value} (i : Nat), Vals xs us → Vals (xs.eraseIdx i) (us.eraseIdx i)
  | _, _, _, .nil => .nil
  | _, _, 0, .cons _ t => t
  | _, _, i + 1, .cons r t => .cons r (Vals.eraseIdx i t)
theorem erase_last {α : Type} (l : List α) : l.eraseIdx (l.length - 1) = l.dropLast := by
  induction l with
  | nil => rfl
  | cons a r ih =>
    cases r with
    | nil => rfl
    | cons b r =>
      have e : (a :: b :: r).length - 1 = ((b :: r).length - 1) + 1 := by
        have h1 : (a :: b :: r).length = r.length + 2 := rfl
        have h2 : (b :: r).length = r.length + 1 := rfl
        omega
      rw [e, List.eraseIdx_cons_succ, ih]
      all_goals rfl
theorem len_erase {α : Type} : ∀ (l : List α) (i : Nat), (l.eraseIdx i).length ≤ l.length
  | [], _ => Nat.le_refl _
  | _ :: _, 0 => Nat.le_succ _
  | _ :: r, i + 1 => Nat.succ_le_succ (len_erase r i)
section
variable {X : Cx} {pins : List (Addr × Obj)} {σ : St} {H : Hp} {s : Shared} {l b : Addr} {xs ys zs : List V}
theorem Inv.lset {its its' : List Value} {n : Nat} {f : Array Value → Array Value} {t' : Nat} (I : Inv X pins σ H s) (hH : H l = some (.lst xs))
    (e : s.heap.get? l = some { cls := .type "list", data := .seq its.toArray n }) (hf : f its.toArray = its'.toArray) (hv : Vals ys its') (hz : ys.length ≤ sizeLine) :
    Inv X pins σ (upd H l (.lst ys)) { s with heap := s.heap.update l (Obj.mapSeq f), toks := t' } := by
  have q := PySem.IsL.update e f
  rw [hf] at q
  refine I.write (x := l) (e := l) (by rw [hH]; exact trivial) (.inl rfl) (fun b' u hb hu => (Heap.get?_update_other s.heap (Obj.mapSeq f) (Ne.symm hb)).trans hu) ⟨_, q⟩ ?_
  exact ⟨hz, its', _, hv, q⟩
theorem Inv.fresh (I : Inv X pins σ H s) : H s.heap.objs.size = none := I.hok.fresh (Nat.le_refl _)
theorem Inv.lstM (I : Inv X pins σ H s) (hH : H l = some (.lst xs)) : xs.length ≤ sizeLine ∧ ∃ (its : List Value) (n : Nat), Vals xs its ∧ xs.length = its.length ∧ s.heap.get? l = some { cls := .type "list", data := .seq its.toArray n } := by
  obtain ⟨z, its, n, r, e⟩ := I.hok l _ hH
  exact ⟨z, its, n, r, r.length, e⟩
end
section
variable {X : Cx}
def rAppend : V → List V → Hp → VK → Prop := fun x vs H Q => ∃ l xs y, x = .ref l ∧ vs = [y] ∧ H l = some (.lst xs) ∧ xs.length < sizeLine ∧ Q .non (upd H l (.lst (xs ++ [y])))
theorem mt_append : MtM X "list.append" rAppend := by
  intro pins s σ H x vs v us Q I rx rv h
  obtain ⟨l, xs, y, rfl, rfl, hH, hz, q⟩ := h
  cases rx
  obtain ⟨u, rfl, ru⟩ := rv.one
  obtain ⟨z, its, n, r, hl, e⟩ := I.lstM hH
  refine call_meets F.slot_list_append ⟨_, e, rfl⟩ F.entry_list_append (F.args_list_append_2 _ _) (PySem.list_append l its.toArray n u (by rw [List.size_toArray]; omega)) ⟨e, ?_⟩
  refine ⟨.non, _, I.lset (its' := its ++ [u]) hH e (by simp) (r.append (.cons ru .nil)) ?_, rfl, q⟩
  rw [List.length_append, List.length_singleton]
  omega
def rPop : V → List V → Hp → VK → Prop := fun x vs H Q => ∃ l xs y, x = .ref l ∧ vs = [] ∧ H l = some (.lst xs) ∧ xs[xs.length - 1]? = some y ∧ Q y (upd H l (.lst xs.dropLast))
theorem mt_pop : MtM X "list.pop" rPop := by
  intro pins s σ H x vs v us Q I rx rv h
  obtain ⟨l, xs, y, rfl, rfl, hH, hy, q⟩ := h
  cases rx
  have hus := rv.zero
  subst hus
  obtain ⟨z, its, n, r, hl, e⟩ := I.lstM hH
  obtain ⟨u, hu, ru⟩ := r.get hy
  have hy' : its.toArray[its.toArray.size - 1]? = some u := by
    show its.toArray[its.length - 1]? = some u
    rw [← Array.getElem?_toList, ← hl]
    exact hu
  refine call_meets F.slot_list_pop ⟨_, e, rfl⟩ F.entry_list_pop (F.args_list_pop_1 _) (MeetsSeq.list_pop_last l its.toArray n u hy' (by rw [List.size_toArray]; omega)) ⟨e, ?_⟩
  refine ⟨y, _, I.lset (its' := its.dropLast) hH e ?_ r.dropLast ?_, ru, q⟩
  · show its.toArray.eraseIdxIfInBounds (its.toArray.size - 1) = its.dropLast.toArray
    rw [List.size_toArray, List.eraseIdxIfInBounds_toArray, erase_last]
  · rw [List.length_dropLast]
    omega
def rPopAt : V → List V → Hp → VK → Prop := fun x vs H Q => ∃ l xs i k y, x = .ref l ∧ vs = [.int i] ∧ H l = some (.lst xs) ∧ -(2 ^ 63) ≤ i ∧ i < 2 ^ 63 ∧ seqIndex? i xs.length = some k ∧ xs[k]? = some y ∧ Q y (upd H l (.lst (xs.eraseIdx k)))
theorem mt_popAt : MtM X "list.pop" rPopAt := by
  intro pins s σ H x vs v us Q I rx rv h
  obtain ⟨l, xs, i, k, y, rfl, rfl, hH, h1, h2, hk, hy, q⟩ := h
  cases rx
  obtain ⟨u, rfl, ru⟩ := rv.one
  obtain ⟨t, rfl⟩ := ru
  obtain ⟨z, its, n, r, hl, e⟩ := I.lstM hH
  obtain ⟨w, hw, rw'⟩ := r.get hy
  refine call_meets F.slot_list_pop ⟨_, e, rfl⟩ F.entry_list_pop (F.args_list_pop_2 _ _)
    (MeetsSeq.list_pop_at l its.toArray n i t k w (fitsIndex_both h1 h2) (by rw [List.size_toArray, ← hl]; exact hk) (by rw [← Array.getElem?_toList]; exact hw) (by rw [List.size_toArray]; omega)) ⟨e, ?_⟩
  refine ⟨y, _, I.lset (its' := its.eraseIdx k) hH e ?_ (r.eraseIdx k) ?_, rw', q⟩
  · show its.toArray.eraseIdxIfInBounds k = (its.eraseIdx k).toArray
    rw [List.eraseIdxIfInBounds_toArray]
  · have := len_erase xs k
    omega
def rClear : V → List V → Hp → VK → Prop := fun x vs H Q => ∃ l xs, x = .ref l ∧ vs = [] ∧ H l = some (.lst xs) ∧ Q .non (upd H l (.lst []))
theorem mt_clear : MtM X "list.clear" rClear := by
  intro pins s σ H x vs v us Q I rx rv h
  obtain ⟨l, xs, rfl, rfl, hH, q⟩ := h
  cases rx
  have hus := rv.zero
  subst hus
  obtain ⟨z, its, n, r, hl, e⟩ := I.lstM hH
  refine call_meets F.slot_list_clear ⟨_, e, rfl⟩ F.entry_list_clear (F.args_list_clear_1 _) (AutoSeq1.list_clear_list_0 l its.toArray n (by rw [List.size_toArray]; omega)) ⟨e, ?_⟩
  exact ⟨.non, _, I.lset (its' := []) (ys := []) hH e rfl .nil (Nat.zero_le _), rfl, q⟩
end
section
variable {prog : Program} {w : World} {A : Around} {E : Value → Shared → Prop} {s : Shared}
set_option maxRecDepth 100000 in
end
section
variable {X : Cx}
end
end L2
namespace L2
open PySem PySem.Spec PyProof.Rows
section
variable {κ : Type} [DecidableEq κ]
def valV (kvs : List (κ × V)) (k : κ) : Option V := (kvs.find? fun kv => decide (kv.1 = k)).map (·.2)
/-- in its place, or at the end -/
def putK (kvs : List (κ × V)) (k : κ) (v : V) : List (κ × V) :=
  if (kvs.any fun kv => decide (kv.1 = k)) = true then kvs.map (fun kv => if kv.1 = k then (kv.1, v) else kv) else kvs ++ [(k, v)]
def dropK (kvs : List (κ × V)) (k : κ) : List (κ × V) := kvs.filter fun kv => decide (kv.1 ≠ k)
theorem valV_pos {p : κ × V} {r : List (κ × V)} {k : κ} (e : p.1 = k) : valV (p :: r) k = some p.2 := by simp [valV, List.find?_cons, e]
theorem valV_neg {p : κ × V} {r : List (κ × V)} {k : κ} (e : ¬ p.1 = k) : valV (p :: r) k = valV r k := by simp [valV, List.find?_cons, e]
theorem valV_any (k : κ) : ∀ kvs : List (κ × V), (kvs.any fun kv => decide (kv.1 = k)) = (valV kvs k).isSome
  | [] => rfl
  | p :: r => by
    rw [List.any_cons]
    by_cases e : p.1 = k
    · simp only [valV_pos e, decide_eq_true e, Bool.true_or, Option.isSome_some]
    · rw [valV_neg e, decide_eq_false e, Bool.false_or]; exact valV_any k r
theorem length_putK (kvs : List (κ × V)) (k : κ) (v : V) : (putK kvs k v).length ≤ kvs.length + 1 := by
  unfold putK
  split
  · rw [List.length_map]; omega
  · rw [List.length_append, List.length_cons, List.length_nil]; omega
theorem putK_new {kvs : List (κ × V)} {k : κ} (v : V) (h : valV kvs k = none) : putK kvs k v = kvs ++ [(k, v)] := by
  unfold putK
  rw [valV_any, h]
  exact if_neg (by decide)
theorem RelO.isSome_eq {o : Option V} {u : Option Value} (r : RelO o u) : o.isSome = u.isSome := by
  cases o with
  | none => cases u with
    | none => rfl
    | some _ => exact (show False from r).elim
  | some _ => cases u with
    | none => exact (show False from r).elim
    | some _ => rfl
theorem RelO.getD {o : Option V} {u : Option Value} {d : V} {d' : Value} (r : RelO o u) (rd : RelV d d') : RelV (o.getD d) (u.getD d') := by
  cases o with
  | none => cases u with
    | none => exact rd
    | some _ => exact (show False from r).elim
  | some _ => cases u with
    | none => exact (show False from r).elim
    | some _ => exact r
/-- raw tables of the same keys -/
theorem KV.val {kvs : List (κ × V)} {vs : List (κ × Value)} (r : KV kvs vs) (k : κ) : RelO (valV kvs k) (valueAt vs k) := by
  unfold KV at r
  induction r with
  | nil => exact True.intro
  | @cons p q ps qs h t ih =>
    obtain ⟨h1, h2⟩ := h
    by_cases e : p.1 = k
    · have e' : q.1 = k := h1.symm.trans e
      have b : valueAt (q :: qs) k = some q.2 := by simp [valueAt, List.find?_cons, e']
      rw [valV_pos e, b]; exact h2
    · have e' : ¬ q.1 = k := fun z => e (h1.trans z)
      have b : valueAt (q :: qs) k = valueAt qs k := by simp [valueAt, List.find?_cons, e']
      rw [valV_neg e, b]; exact ih
theorem KV.any {kvs : List (κ × V)} {vs : List (κ × Value)} (r : KV kvs vs) (k : κ) : (kvs.any fun kv => decide (kv.1 = k)) = vs.any fun kv => decide (kv.1 = k) := by
  unfold KV at r
  induction r with
  | nil => rfl
  | cons h t ih => rw [List.any_cons, List.any_cons, ih, h.1]
theorem KV.repl {kvs : List (κ × V)} {vs : List (κ × Value)} (r : KV kvs vs) (k : κ) {y : V} {u : Value} (ry : RelV y u) :
    KV (kvs.map fun kv => if kv.1 = k then (kv.1, y) else kv) (vs.map fun kv => if kv.1 = k then (kv.1, u) else kv) := by
  unfold KV at r ⊢
  induction r with
  | nil => exact .nil
  | @cons p q ps qs h t ih =>
    rw [List.map_cons, List.map_cons]
    refine .cons ?_ ih
    obtain ⟨h1, h2⟩ := h
    by_cases e : p.1 = k
    · rw [if_pos e, if_pos (h1.symm.trans e)]; exact ⟨h1, ry⟩
    · rw [if_neg e, if_neg (fun z => e (h1.trans z))]; exact ⟨h1, h2⟩
theorem KV.put {kvs : List (κ × V)} {vs : List (κ × Value)} (r : KV kvs vs) (k : κ) {y : V} {u : Value} (ry : RelV y u) : KV (putK kvs k y) (stored vs k u) := by
  unfold putK stored
  rw [r.any k]
  by_cases e : (vs.any fun kv => decide (kv.1 = k)) = true
  · rw [if_pos e, if_pos e]; exact r.repl k ry
  · rw [if_neg e, if_neg e]; exact Paired.snoc r ⟨rfl, ry⟩
theorem KV.drop {kvs : List (κ × V)} {vs : List (κ × Value)} (r : KV kvs vs) (k : κ) : KV (dropK kvs k) (without vs k) := by
  unfold KV at r ⊢
  unfold dropK without
  induction r with
  | nil => exact .nil
  | @cons p q ps qs h t ih =>
    obtain ⟨h1, h2⟩ := h
    rw [List.filter_cons, List.filter_cons]
    by_cases e : p.1 = k
    · have a : ¬ decide (p.1 ≠ k) = true := by simp [e]
      have b : ¬ decide (q.1 ≠ k) = true := by simp [h1.symm.trans e]
      rw [if_neg a, if_neg b]; exact ih
    · have e' : ¬ q.1 = k := fun z => e (h1.trans z)
      have a : decide (p.1 ≠ k) = true := by simp [e]
      have b : decide (q.1 ≠ k) = true := by simp [e']
      rw [if_pos a, if_pos b]; exact .cons ⟨h1, h2⟩ ih
theorem KV.keys {kvs : List (κ × V)} {vs : List (κ × Value)} (r : KV kvs vs) : kvs.map (·.1) = vs.map (·.1) := by
  unfold KV at r
  induction r with
  | nil => rfl
  | cons h t ih => rw [List.map_cons, List.map_cons, ih, h.1]
theorem KV.length {kvs : List (κ × V)} {vs : List (κ × Value)} (r : KV kvs vs) : kvs.length = vs.length := Paired.length r
end
theorem kV_is {P : Program} {w : World} {k : Key} {u : Value} (r : RelV (kV k) u) : (mixKind P w).is k u = true := by
  cases k with
  | inl i => obtain ⟨t, e⟩ := (show ∃ t, u = Value.int i t from r); subst e; exact mixKind_int P w i t
  | inr x => obtain ⟨t, e⟩ := (show ∃ t, u = Value.str x t from r); subst e; exact mixKind_str P w x t
theorem items_are {P : Program} {w : World} : ∀ {ks : List Key} {us : List Value}, Vals (ks.map kV) us → ItemsAre (mixKind P w) ks us
  | [], _, r => by rw [List.map_nil] at r; cases r; exact .nil
  | k :: ks, _, r => by
    rw [List.map_cons] at r
    cases r with
    | cons h t => exact .cons (kV_is h) (items_are t)
/-- raw entries of a dict with tuple keys -/
abbrev KT (H : Hp) : List (List Key × V) → List (List Key × Addr × Value) → Prop := Paired fun p q => p.1 = q.1 ∧ H q.2.1 = some (.tup (p.1.map kV)) ∧ RelV p.2 q.2.2
theorem KT.val {H : Hp} {kvs : List (List Key × V)} {xs : List (List Key × Addr × Value)} (r : KT H kvs xs) (k : List Key) : RelO (valV kvs k) ((atKey xs k).map (·.2)) := by
  induction r with
  | nil => exact True.intro
  | @cons p q ps qs h t ih =>
    obtain ⟨h1, _, h2⟩ := h
    by_cases e : p.1 = k
    · have e' : q.1 = k := h1.symm.trans e
      have b : atKey (q :: qs) k = some q.2 := by simp [atKey, List.find?_cons, e']
      rw [valV_pos e, b]; exact h2
    · have e' : ¬ q.1 = k := fun z => e (h1.trans z)
      have b : atKey (q :: qs) k = atKey qs k := by simp [atKey, List.find?_cons, e']
      rw [valV_neg e, b]; exact ih
theorem KT.repl {H : Hp} {kvs : List (List Key × V)} {xs : List (List Key × Addr × Value)} (r : KT H kvs xs) (k : List Key) {y : V} {u : Value} (ry : RelV y u) :
    KT H (kvs.map fun kv => if kv.1 = k then (kv.1, y) else kv) (xs.map (putAt k u)) := by
  induction r with
  | nil => exact .nil
  | @cons p q ps qs h t ih =>
    rw [List.map_cons, List.map_cons]
    refine .cons ?_ ih
    obtain ⟨h1, h2, h3⟩ := h
    unfold putAt
    by_cases e : p.1 = k
    · rw [if_pos e, if_pos (h1.symm.trans e)]; exact ⟨h1, h2, ry⟩
    · rw [if_neg e, if_neg (fun z => e (h1.trans z))]; exact ⟨h1, h2, h3⟩
theorem KT.put {H : Hp} {kvs : List (List Key × V)} {xs : List (List Key × Addr × Value)} (r : KT H kvs xs) (k : List Key) {b : Addr} {y : V} {u : Value} (hb : H b = some (.tup (k.map kV))) (ry : RelV y u) :
    KT H (putK kvs k y) (storedH xs k b u) := by
  have e : (kvs.any fun kv => decide (kv.1 = k)) = (atKey xs k).isSome := by
    rw [valV_any, (r.val k).isSome_eq, Option.isSome_map]
  unfold putK storedH
  rw [e]
  by_cases q : (atKey xs k).isSome = true
  · rw [if_pos q, if_pos q]; exact r.repl k ry
  · rw [if_neg q, if_neg q]; exact Paired.snoc r ⟨rfl, hb, ry⟩
theorem KT.keeps {H H' : Hp} {kvs : List (List Key × V)} {xs : List (List Key × Addr × Value)} (r : KT H kvs xs) (ht : ∀ b ys, H b = some (.tup ys) → H' b = some (.tup ys)) : KT H' kvs xs :=
  Paired.mapP r fun _ _ z => ⟨z.1, ht _ _ z.2.1, z.2.2⟩
section
variable {P : Program} {w : World} {H : Hp} {h : Heap} {a : Addr}
theorem rd_of {u : HO} (ok : HOk P w H h) (e : Rd H a u) : ObjOk P w H h a u := e.ok ok
theorem dk_rd {kvs : List (Key × V)} (ok : HOk P w H h) (e : Rd H a (.dK kvs)) : kvs.length ≤ sizeLine ∧ (a == sysModules) = false ∧ ∃ vs, KV kvs vs ∧ h.DictOf (mixKind P w) a vs :=
  show ObjOk P w H h a (.dK kvs) from rd_of ok e
theorem dk_of {kvs : List (Key × V)} (ok : HOk P w H h) (e : H a = some (.dK kvs)) : kvs.length ≤ sizeLine ∧ (a == sysModules) = false ∧ ∃ vs, KV kvs vs ∧ h.DictOf (mixKind P w) a vs := dk_rd ok (.inl e)
/-- a tracked tuple of ints and texts is a key -/
theorem key_of {ks : List Key} (ok : HOk P w H h) (e : H a = some (.tup (ks.map kV))) : (tupleKind (mixKind P w)).is h ks a := by
  obtain ⟨_, its, r, o, h1, h2, n, h3⟩ := (show ObjOk P w H h a (.tup (ks.map kV)) from ok a _ e)
  exact ⟨o, its.toArray, n, h1, h2, h3, by simpa using items_are r⟩
theorem dt_rd {kvs : List (List Key × V)} (ok : HOk P w H h) (e : Rd H a (.dT kvs)) : kvs.length ≤ sizeLine ∧ (a == sysModules) = false ∧
    ∃ xs, KT H kvs xs ∧ h.DictOfH (tupleKind (mixKind P w)) a xs := by
  obtain ⟨z, y, xs, r, o, es, ep, h1, h2, h3, h4, h5⟩ := (show ObjOk P w H h a (.dT kvs) from rd_of ok e)
  refine ⟨z, y, xs, r, o, es, ep, h1, h2, h3, h4, fun x hx => ?_, h5⟩
  have all : ∀ {l : List (List Key × V)} {m : List (List Key × Addr × Value)}, KT H l m → ∀ x ∈ m, (tupleKind (mixKind P w)).is h x.1 x.2.1 := by
    intro l m q
    induction q with
    | nil => intro x hx; exact nomatch hx
    | @cons p q ps qs hq t ih =>
      intro x hx
      rcases List.mem_cons.mp hx with e | hx
      · subst e
        exact key_of ok (by rw [← hq.1]; exact hq.2.1)
      · exact ih x hx
  exact all r x hx
theorem dt_of {kvs : List (List Key × V)} (ok : HOk P w H h) (e : H a = some (.dT kvs)) : kvs.length ≤ sizeLine ∧ (a == sysModules) = false ∧
    ∃ xs, KT H kvs xs ∧ h.DictOfH (tupleKind (mixKind P w)) a xs := dt_rd ok (.inl e)
end
/-- what the dict at a holds at the key y -/
def DGet (H : Hp) (a : Addr) (y : V) (r : Option V) : Prop :=
  (∃ kvs k, Rd H a (.dK kvs) ∧ y = kV k ∧ r = valV kvs k) ∨ ∃ kvs k b, Rd H a (.dT kvs) ∧ y = .ref b ∧ H b = some (.tup (k.map kV)) ∧ r = valV kvs k
/-- the heap behind a[y] = v -/
def DPut (H : Hp) (a : Addr) (y v : V) (H' : Hp) : Prop :=
  (∃ kvs k, H a = some (.dK kvs) ∧ y = kV k ∧ kvs.length < sizeLine ∧ H' = upd H a (.dK (putK kvs k v))) ∨
  ∃ kvs k b, H a = some (.dT kvs) ∧ y = .ref b ∧ H b = some (.tup (k.map kV)) ∧ kvs.length < sizeLine ∧ H' = upd H a (.dT (putK kvs k v))
theorem DGet.k {H : Hp} {a : Addr} {kvs : List (Key × V)} {k : Key} (e : H a = some (.dK kvs)) : DGet H a (kV k) (valV kvs k) := .inl ⟨kvs, k, .inl e, rfl, rfl⟩
theorem DGet.t {H : Hp} {a b : Addr} {kvs : List (List Key × V)} {k : List Key} (e : H a = some (.dT kvs)) (eb : H b = some (.tup (k.map kV))) : DGet H a (.ref b) (valV kvs k) := .inr ⟨kvs, k, b, .inl e, rfl, eb, rfl⟩
theorem DPut.k {H : Hp} {a : Addr} {kvs : List (Key × V)} {k : Key} {v : V} (e : H a = some (.dK kvs)) (hl : kvs.length < sizeLine) : DPut H a (kV k) v (upd H a (.dK (putK kvs k v))) := .inl ⟨kvs, k, e, rfl, hl, rfl⟩
theorem DPut.t {H : Hp} {a b : Addr} {kvs : List (List Key × V)} {k : List Key} {v : V} (e : H a = some (.dT kvs)) (eb : H b = some (.tup (k.map kV))) (hl : kvs.length < sizeLine) :
    DPut H a (.ref b) v (upd H a (.dT (putK kvs k v))) := .inr ⟨kvs, k, b, e, rfl, eb, hl, rfl⟩
section
variable {X : Cx} {pins : List (Addr × Obj)} {σ : St} {H : Hp} {s : Shared} {a : Addr} {y v : V} {u r : Value} {o : Option V} {A : Around} {E : Value → Shared → Prop}
theorem Inv.big (I : Inv X pins σ H s) : sysModules < s.heap.objs.size := by
  have h : mainGlobals < s.heap.objs.size := (I.mod.glob.keeps I.bk).lt
  exact Nat.lt_trans (by decide) h
/-- d[y], there -/
theorem d_getItem {Q : Value → Shared → Prop} (hu : A.units + 1 < cLine) (I : Inv X pins σ H s) (g : DGet H a y (some v)) (ry : RelV y u) (h : ∀ w' s', Inv X pins σ H s' → RelV v w' → Q w' s') :
    wpAny (model X.prog X.w) A (getItem (.ref a) u) Q E s := by
  rcases g with ⟨kvs, k, e, ey, l⟩ | ⟨kvs, k, b, e, ey, eb, l⟩
  · subst ey
    obtain ⟨z, hd, vs, rel, dd⟩ := dk_rd I.hok e
    obtain ⟨w', hw, rw'⟩ := RelO.some_of (v := v) (o := valueAt vs k) (by rw [l]; exact rel.val k)
    exact wpAny_getItem_of (kV_is ry) dd.mapOf hw (h w' _ (I.tok _) rw')
  · subst ey
    cases (show u = Value.ref b from ry)
    obtain ⟨z, hd, xs, rel, dd⟩ := dt_rd I.hok e
    obtain ⟨w', hw, rw'⟩ := RelO.some_of (v := v) (o := (atKey xs k).map (·.2)) (by rw [l]; exact rel.val k)
    obtain ⟨p, hp, hp2⟩ := Option.map_eq_some_iff.mp hw
    refine wpAny_getItem_heap (tupleKind_room_in1 hu) (key_of I.hok eb) dd hp ?_
    rw [hp2]
    exact h w' _ (I.tok _) rw'
/-- a dict's object is replaced -/
theorem d_write {h' : Heap} {t' : Nat} {ob : HO} (I : Inv X pins σ H s) (mu : Mut (H a)) (hs : Heap.SameBut a s.heap h') (he : ∃ q, h'.get? a = some q) (new : ObjOk X.prog X.w (upd H a ob) h' a ob) :
    Inv X pins σ (upd H a ob) { s with heap := h', toks := t' } :=
  I.write (x := a) (e := a) mu (.inl rfl) (fun b q hb z => (hs.2 b hb).trans z) he new
theorem dk_new {P : Program} {w : World} {H' : Hp} {h' : Heap} {kvs : List (Key × V)} {vs : List (Key × Value)} (z : kvs.length ≤ sizeLine) (hd : (a == sysModules) = false) (rel : KV kvs vs) (dd : h'.DictOf (mixKind P w) a vs) :
    ObjOk P w H' h' a (.dK kvs) := ⟨z, hd, vs, rel, dd⟩
/-- d[y] = v -/
theorem d_setItem {H' : Hp} {Q : Unit → Shared → Prop} (hu : A.units + 1 < cLine) (I : Inv X pins σ H s) (g : DPut H a y v H') (ry : RelV y u) (rv : RelV v r) (h : ∀ s', Inv X pins σ H' s' → Q () s') :
    wpAny (model X.prog X.w) A (setItem (.ref a) u r) Q E s := by
  rcases g with ⟨kvs, k, e, ey, l, eH⟩ | ⟨kvs, k, b, e, ey, eb, l, eH⟩
  · subst ey eH
    obtain ⟨z, hd, vs, rel, dd⟩ := dk_of I.hok e
    have hz : vs.length ≤ sizeLine := by rw [← rel.length]; exact z
    have hl : (putK kvs k v).length ≤ sizeLine := by have := length_putK kvs k v; omega
    refine wpAny_setItem_pairs (hsz := hz) (kV_is ry) dd fun h' dd' hs => h _ ?_
    have he : ∃ q, h'.get? a = some q := let ⟨q, _, _, hq, _⟩ := dd'; ⟨q, hq⟩
    exact d_write I (by rw [e]; exact True.intro) hs he (dk_new hl hd (rel.put k rv) dd')
  · subst ey eH
    cases (show u = Value.ref b from ry)
    obtain ⟨z, hd, xs, rel, dd⟩ := dt_of I.hok e
    have hz : xs.length ≤ sizeLine := by rw [← Paired.length rel]; exact z
    have hl : (putK kvs k v).length ≤ sizeLine := by have := length_putK kvs k v; omega
    refine wpAny_setItem_heap (hsz := hz) (tupleKind_room_in1 hu) (key_of I.hok eb) dd fun h' dd' hs => h _ ?_
    obtain ⟨q, es, ep, hq, h2, h3, h4, _, h5⟩ := dd'
    refine d_write I (by rw [e]; exact True.intro) hs ⟨q, hq⟩ ⟨hl, hd, _, (rel.put k eb rv).keeps fun c ys ec => ?_, q, es, ep, hq, h2, h3, h4, h5⟩
    rw [upd_ne (ne_of ec e (fun z => nomatch z))]
    exact ec
end
section
variable {X : Cx} {pins : List (Addr × Obj)} {σ : St} {H : Hp} {s : Shared} {a : Addr} {kvs : List (Key × V)} {k : Key} {u : Value} {A : Around} {E : Value → Shared → Prop}
end
/-- the element of a subscription, not a slice -/
def NoSl (i : Expr) : Prop := ∀ ov iv, subscripted i false ov iv = operate [ov, iv] (getItem ov iv)
theorem subD_of {prog : Program} {w : World} {A : Around} {E : Value → Shared → Prop} {s : Shared} {env : Env} {value slice : Expr} {pos : Pos} {T id : String} {Q : Value → Shared → Prop}
    (hl : typeLookup (.type T) "__getitem__" = pure (some (.builtin id))) (hs : NoSl slice)
    (h : wpAny (model prog w) A (eval value env) (fun o s₁ => wpAny (model prog w) A (eval slice env) (fun i s₂ => s₂.TypeIs o T ∧ wpAny (model prog w) A (getItem o i) Q E s₂) E s₁) E s) :
    wpAny (model prog w) A (eval (.Subscript value slice pos) env) Q E s := by
  refine Subscript_ (wpAny_mono h (fun o s₁ h₁ => wpAny_mono h₁ (fun i s₂ h₂ => ?_) fun _ _ x => x) fun _ _ x => x)
  obtain ⟨hT, h₂⟩ := h₂
  unfold subscriptTail
  refine wpAny_bind ?_
  rw [getitemInPython_of_ne hT.not_modules]
  refine wpAny_bind (wpAny_specialOf hT hl ?_)
  have fin : wpAny (model prog w) A (subscripted slice false o i) (fun r s₃ => wpAny (model prog w) A (letTemporaryGo value o r >>= fun _ => pure r) Q E s₃) E s₂ := by
    rw [hs o i]
    exact wpAny_operating (wpAny_mono h₂ (fun r s₃ h₃ => wpAny_bind (wpAny_letTemporaryGo (wpAny_pure h₃))) fun _ _ x => x)
  first
    | exact wpAny_pure (wpAny_bind fin)
    | exact wpAny_bind (wpAny_pure (wpAny_bind fin))
    | exact wpAny_bind fin
theorem dict_typeIs {X : Cx} {pins : List (Addr × Obj)} {σ : St} {H : Hp} {s : Shared} {a : Addr} {y : V} {o : Option V} (I : Inv X pins σ H s) (g : DGet H a y o) : s.TypeIs (.ref a) "dict" := by
  rcases g with ⟨kvs, k, e, _, _⟩ | ⟨kvs, k, b, e, _, _, _⟩
  · obtain ⟨_, _, vs, _, dd⟩ := dk_rd I.hok e
    exact dd.typeIs
  · obtain ⟨_, _, xs, _, dd⟩ := dt_rd I.hok e
    exact dd.typeIs
/-- d[y] -/
def tDGet (td ty : TE) : TE := fun σ H Q => td σ H fun x H1 => ty σ H1 fun y H2 => ∃ a v, x = .ref a ∧ DGet H2 a y (some v) ∧ Q v H2
/-- d[y] = v -/
def sDPut (td ty tv : TE) : TS := fun D σ H => tv σ H fun v H1 => td σ H1 fun x H2 => ty σ H2 fun y H3 => ∃ a H4, x = .ref a ∧ DPut H3 a y v H4 ∧ D.nx σ H4
section
variable {X : Cx} {o i e value : Expr} {pos pos' tpos : Pos} {td ty tv : TE}
theorem pe_dget (hu : X.A.units + 1 < cLine) (ho : PE X o td) (hi : PE X i ty) (hs : NoSl i) : PE X (.Subscript o i pos) (tDGet td ty) := by
  intro pins s σ H Q I h
  refine subD_of PySem.F.slot_dict_getitem.lookup hs (thn (ho pins s σ H _ I h) fun u s1 ⟨x, H1, I1, rx, q1⟩ => thn (hi pins s1 σ H1 _ I1 q1) fun iv s2 ⟨y, H2, I2, ry, a, v, ex, g, q2⟩ => ?_)
  subst ex
  obtain rfl : u = Value.ref a := rx
  exact ⟨dict_typeIs I2 g, d_getItem hu I2 g ry fun w' s3 I3 rw' => ⟨v, H2, I3, rw', q2⟩⟩
theorem ps_dput (hu : X.A.units + 1 < cLine) (ho : PE X o td) (hi : PE X i ty) (hv : PE X value tv) (hs : swapsWith value (some (.Subscript o i pos')) pos.line X.env = pure false) :
    PS X (.Assign [.Subscript o i pos'] value pos) (sDPut td ty tv) := by
  intro pins s σ H D I h
  refine wpAny_Assign_Subscript (thn (hv pins s σ H _ I h) fun r s1 ⟨v, H1, I1, rv, q1⟩ => thn (ho pins s1 σ H1 _ I1 q1) fun u s2 ⟨x, H2, I2, rx, q2⟩ => thn (hi pins s2 σ H2 _ I2 q2) fun iv s3 ⟨y, H3, I3, ry, a, H4, ex, g, q3⟩ => ?_) hs
  subst ex
  obtain rfl : u = Value.ref a := rx
  exact d_setItem hu I3 g ry rv fun s4 I4 => ⟨σ, H4, I4, q3⟩
end
theorem dt_empty {P : Program} {w : World} {H : Hp} (h : Heap) (hb : sysModules < h.objs.size) : ObjOk P w H (h.push { cls := .type "dict", data := .dict #[] }) h.objs.size (.dT []) :=
  ⟨Nat.zero_le _, beq_eq_false_iff_ne.mpr (Ne.symm (Nat.ne_of_lt hb)), [], .nil, _, #[], 0, Heap.get?_push_size _ rfl, ⟨rfl, rfl, rfl⟩, rfl, rfl, List.nodup_nil⟩
def tDNewT : TE := fun _ H Q => ∀ p, H p = none → Q (.ref p) (upd H p (.dT []))
section
variable {X : Cx} {pos : Pos}
theorem pe_dnewT : PE X (.Dict [] [] pos) tDNewT := fun pins s σ H Q I h =>
  wpAny_Dict_empty ⟨.ref s.heap.objs.size, _, I.laid (a := s.heap.objs.size) (o := .dT []) (t' := s.toks) (fun _ _ q => Heap.get?_push_of_some _ q) (Nat.le_refl _) (dt_empty s.heap I.big), rfl, h _ (I.hok.fresh (Nat.le_refl _))⟩
end
/-- a method call o.m(e) of a built-in, with one argument: what must be seen of the text -/
structure M1 (X : Cx) (o : Expr) (m : Str) (apos : Pos) (e : Expr) (cpos : Pos) : Prop where
  base : attributeBase o m X.env (eval o X.env) = eval o X.env
  few : ((backTo cpos (starEach [e] X.env)).all (fun x => !x.1) && (backToKw cpos (keywordEach [] X.env)).all (fun x => x.1.isSome)
    && decide (([e] : List Expr).length + ([] : List Keyword).length + (if ([] : List Keyword).isEmpty then 0 else 1) < 30)) = true
  line : (apos.endLine == cpos.line) = true
  trees : backTo cpos (starEach [e] X.env) = [(false, eval e X.env)]
structure M2 (X : Cx) (o : Expr) (m : Str) (apos : Pos) (e f : Expr) (cpos : Pos) : Prop where
  base : attributeBase o m X.env (eval o X.env) = eval o X.env
  few : ((backTo cpos (starEach [e, f] X.env)).all (fun x => !x.1) && (backToKw cpos (keywordEach [] X.env)).all (fun x => x.1.isSome)
    && decide (([e, f] : List Expr).length + ([] : List Keyword).length + (if ([] : List Keyword).isEmpty then 0 else 1) < 30)) = true
  line : (apos.endLine == cpos.line) = true
  trees : backTo cpos (starEach [e, f] X.env) = [(false, eval e X.env), (false, eval f X.env)]
section
variable {X : Cx} {pins : List (Addr × Obj)} {σ : St} {H : Hp} {s : Shared} {a : Addr} {y d : V} {u r : Value} {o : Option V} {A : Around} {E : Value → Shared → Prop}
end
section
variable {X : Cx} {o e f : Expr} {apos cpos : Pos} {td ty tx : TE}
end
section
variable {X : Cx} {pins : List (Addr × Obj)} {σ : St} {H : Hp} {s : Shared} {a : Addr} {kvs : List (Key × V)} {A : Around} {E : Value → Shared → Prop}
end
section
variable {X : Cx} {pins : List (Addr × Obj)} {σ : St} {H : Hp} {s : Shared} {a : Addr} {y : V} {u : Value} {A : Around} {E : Value → Shared → Prop}
end
end L2
namespace Att
open PySem PySem.W PySem.Calls PyProof.Rows
theorem ints_of_wellAll {P : Params} {h : Heap} : ∀ (ns : List Int) (vs : List Value), WellAll P h vs (ns.map WData.int) → IntsAre vs ns := by
  intro ns
  induction ns with
  | nil =>
    intro vs w
    rw [List.map_nil] at w
    cases w
    exact .nil
  | cons n ns ih =>
    intro vs w
    rw [List.map_cons] at w
    cases w with
    | cons a b =>
      cases a
      exact .cons _ _ (ih _ b)
theorem script_of {l : OpenLaw} {n : Nat} (hn : l.most = some n) {P : Params} {h : Heap} {args : List WData} {vals : List Value}
    (hpre : l.row.toRowW.claim.pre args = true) (hwl : WellAll P h vals args) :
    ∃ a vs ns, vals = [Value.ref a] ∧ args = [WData.list (ns.map WData.int)] ∧ h.get? a = some { cls := .type "list", data := .seq vs.toArray } ∧ IntsAre vs ns ∧ ns.length ≤ n := by
  have hsh : WShape.hasAll [] args [.list .int] = true := (pre_splitW hpre).1
  have hc : l.pre.holds [] { args := args } = true := (pre_splitW hpre).2
  obtain ⟨d, r, rfl, h1, h2⟩ := hasAllW_cons hsh
  obtain rfl := hasAllW_nil h2
  obtain ⟨xs, rfl, h3⟩ := hasW_list h1
  obtain ⟨ns, rfl⟩ := items_int h3
  have hlen : ns.length ≤ n := by
    unfold OpenLaw.pre at hc
    have h4 : (WTm.not (.lt (.lit (.int (n : Int))) (.len (.arg 0)))).holds [] { args := [.list (ns.map .int)] } = true := by
      have h4 := (holds_andW hc).1
      rw [hn] at h4
      exact h4
    have h5 := condW_of h4 (w_not (w_lt w_lit (w_len_list (w_arg rfl))))
    rw [List.length_map] at h5
    refine Nat.le_of_not_lt fun q => ?_
    have q' : (n : Int) < ((ns.length : Nat) : Int) := by omega
    first
      | (rw [decide_eq_true q'] at h5; exact absurd h5 (by decide))
      | (simp at h5; omega)
  cases hwl with
  | cons w1 w2 =>
    cases w2
    cases w1 with
    | list ho hall => exact ⟨_, _, ns, rfl, rfl, ho, ints_of_wellAll ns _ hall, hlen⟩
theorem post_true (l : OpenLaw) (args : List WData) : l.row.toRowW.claim.post args (.bool true) args = true :=
  postW_of (r := l.row.toRowW) (X := (true == true))
    (show WShape.has [] (.bool true) .bool = true by first | rfl | decide | simp [WShape.has, WShape.arms, WShape.armsAll])
    (show (WTm.eq .res (.lit (.bool true))).value [] { args := args, res := some (.bool true), after := args } = some (.bool (true == true)) from w_eq_bool (w_res rfl) w_lit) rfl
/-- the same from a codeAny of the CALL (for a layer whose function contracts speak of calls) -/
theorem attach_call {l : OpenLaw} {n : Nat} {q : Program} {loose : List Str} {XP : (Str → Option Value) → Heap → Prop} {YP : World → Heap → Prop} {d : DefRec}
    (hn : l.most = some n) (hdf : d.params.defaults = [])
    (call : ∀ (w : World) (s₀ s₁ : Shared) (mg mb : Str → Option Value) (fa : Addr) (o : Obj) (pm cd doc : Value) (a : Addr) (vs : List Value) (ns : List Int),
      Ground q loose [] XP w s₀ mg mb s₁.heap → YP w s₁.heap →
      s₁.heap.get? fa = some o → o.data = .func (docDef d.name d.params d.body d.scope pm cd doc) → s₁.heap.CodeRec cd d.name → mg d.name = some (.ref fa) →
      s₁.heap.get? a = some { cls := .type "list", data := .seq vs.toArray } → IntsAre vs ns → ns.length ≤ n → s₁.gens = #[] →
      codeAny (model l.prog w) callerA (.call (.ref fa) ⟨[.ref a], []⟩) (fun r s' => r = .ok (.ret (.bool true)) ∧ OldK s₁.heap s'.heap ∧ s'.os = s₁.os ∧ AllBare s'.gens) s₁) :
    WalkO q loose XP YP l.row.toRowW d [] (fun f vs => PySem.call f vs) := by
  intro w s₀ s₁ mg mb G Y fa o pm cd doc dV kV ho hd hcd hD hmg hg args vals as hpre hlay hrd hwl hlo
  obtain rfl : dV = .none := Dflts.none hD hdf
  obtain rfl : kV = .none := Dflts.noKw hD
  obtain ⟨a, vs, ns, rfl, rfl, hobj, hints, hlen⟩ := script_of hn hpre hwl
  refine enter_call (codeAny_mono (call w s₀ s₁ mg mb fa o pm cd doc a vs ns G Y ho (fd_plain hd) hcd hmg hobj hints hlen hg) fun r s' hq => ?_)
  obtain ⟨rfl, h2, h3, h4⟩ := hq
  exact ⟨.inl ⟨.bool true, .bool true, [], rfl, fun _ => rfl, .bool true, post_true l _, fun _ => ⟨List.Pairwise.nil, fun _ hm => (nomatch hm)⟩⟩, h2, h3, h4⟩
section
variable {prog : Program} {w : World} {A : Around} {E : Value → Shared → Prop} {s : Shared} {K : Frag}
end
end Att
namespace L2
open PySem PySem.Spec PyProof.Rows
theorem vals_ints : ∀ {vs : List Value} {ns : List Int}, IntsAre vs ns → Vals (ns.map V.int) vs
  | _, _, .nil => .nil
  | _, _, .cons n t h => .cons ⟨t, rfl⟩ (vals_ints h)
/-- nothing is tracked but the script, known to the object (or it is an object of the module) -/
def Only (H : Hp) : Prop := ∀ b, H b = none ∨ ∃ o xs, H b = some (.frz o (.lst xs))
/-- THE HEAD: the law's promise, at the heap behind the top. F, the promise of the law's def, may use that base is part of the heap (so K.In base, base.Ns mainGlobals mg stand in Mod) -/
theorem law_call {P : Program} {w : World} {K : PySem.W.Frag} {mg mb : Str → Option Value} {CX : CXT} {k : Nat} {fa a : Addr} {fd : FuncData} {x : Str} {sp : Sp} {s₁ : Shared} {vs : List Value} {ns : List Int}
    (KX : K.In s₁.heap) (hns : s₁.heap.Ns mainGlobals mg) (hb : s₁.heap.Ns builtinsNs mb) (hbb : ∀ x : Str, x ≠ "__name__" → mb x = bootBuiltins x) (hlim : s₁.heap.NoLimit) (hg : s₁.gens = #[])
    (ha : s₁.heap.get? a = some { cls := .type "list", data := .seq vs.toArray }) (hi : IntsAre vs ns) (hl : ns.length ≤ sizeLine) (hr : Room k callerA)
    (F : ∀ base : Heap, K.In base → base.Ns mainGlobals mg → FnOk P w K mg base CX k fa fd [x] sp) (hbind : ∀ (s : Shared) (u : Value), BindsTo s fd ⟨[u], []⟩ [(x, u)])
    (hsp : ∀ H : Hp, Only H → SqL K H a (ns.map V.int) → sp [.ref a] H (fun v _ => v = .bl true) fun _ _ _ => False)
    (hCX : ∀ H e s', CX [] H s₁ (fun _ _ _ => False) e s' → False) :
    codeAny (model P w) callerA (.call (.ref fa) ⟨[.ref a], []⟩) (fun r s' => r = .ok (.ret (.bool true)) ∧ OldK s₁.heap s'.heap ∧ s'.os = s₁.os ∧ AllBare s'.gens) s₁ := by
  have rv := vals_ints hi
  have lenV := hi.length
  -- from an abstract heap in which nothing but the script may be tracked
  have core : ∀ H : Hp, Only H → SqL K H a (ns.map V.int) → HOk P w H s₁.heap → (∀ b, H b ≠ none → b = a) → (H a ≠ none → K.lookup a = none) →
      codeAny (model P w) callerA (.call (.ref fa) ⟨[.ref a], []⟩) (fun r s' => r = .ok (.ret (.bool true)) ∧ OldK s₁.heap s'.heap ∧ s'.os = s₁.os ∧ AllBare s'.gens) s₁ := by
    intro H hO hS hok hA hK
    have base_of : ∀ {b : Addr} {o : Obj}, s₁.heap.get? b = some o → H b = none → (hidT s₁.heap H).get? b = some o := fun e n => hidT_get e n
    have noA : ∀ {b : Addr} {o : Obj} {es : Array DictEntry} {ep : Nat}, s₁.heap.get? b = some o → o.data = .dict es ep → H b = none := fun {b o es ep} e d => by
      cases q : H b with
      | none => rfl
      | some u =>
        have e' : b = a := hA b (by rw [q]; simp)
        subst e'
        rw [ha] at e; cases e
        have d' : Data.seq vs.toArray _ = Data.dict es ep := d
        cases d'
    have nsK : ∀ {b : Addr} {m : Str → Option Value}, s₁.heap.Ns b m → (hidT s₁.heap H).Ns b m := fun {b m} ⟨o, es, ep, e, d, r⟩ => ⟨o, es, ep, base_of e (noA e d), d, r⟩
    have hKb : K.In (hidT s₁.heap H) := fun b o e => base_of (KX b o e) (by
      cases q : H b with
      | none => rfl
      | some u =>
        have e' : b = a := hA b (by rw [q]; simp)
        subst e'
        rw [hK (by rw [q]; simp)] at e; cases e)
    have hM : Mod K mg (hidT s₁.heap H) := ⟨hKb, nsK hns, ⟨mb, nsK hb, hbb⟩, let ⟨mc, h1, h2⟩ := hlim; ⟨mc, nsK h1, h2⟩⟩
    have e0 : Env0 P w K mg (hidT s₁.heap H) callerA [] s₁ H := ⟨rfl, hM, fun b o e => of_hidT e, Nat.le_of_eq (hidT_size _ _), trivial, fun b hb => absurd (show b ∈ ([] : List Addr) from hb) (by simp), hok, .of_eq hg⟩
    refine codeAny_mono ((F _ hKb (nsK hns)).run callerA [] s₁ H ⟨[.ref a], []⟩ [.ref a] [.ref a] _ _ hr e0 (hbind s₁ (.ref a)) (.cons rfl .nil) (hsp H hO hS)) fun r s' h => ?_
    cases r with
    | error e => exact (hCX H e s' h).elim
    | ok fl =>
      cases fl with
      | next => exact False.elim h
      | brk => exact False.elim h
      | cont => exact False.elim h
      | ret u =>
        obtain ⟨v, H', os, bare, un, hok', r', q⟩ := h
        have q' : v = .bl true := q
        subst q'
        obtain rfl : u = Value.bool true := r'
        refine ⟨rfl, OldK.of_keep fun b o e => ?_, os, bare⟩
        cases q : H b with
        | none => exact un.keep b o e q (by intro z; exact absurd (show b ∈ ([] : List Addr) from z) (by simp)) (by simp)
        | some u =>
          rcases hO b with z | ⟨ob, xs, z⟩
          · rw [q] at z; cases z
          · have z2 := un.frzs b ob _ z
            obtain ⟨e1, _⟩ := hok b _ z
            obtain ⟨e2, _⟩ := hok' b _ z2
            rw [e] at e1; cases e1
            exact e2
  cases hk : K.lookup a with
  | some o =>
    -- the script is one of the module's own objects
    have e := KX a o hk
    rw [ha] at e
    cases e
    refine core (fun _ => none) (fun _ => .inl rfl) (.inr ⟨_, vs.toArray, _, hk, rfl, rfl, rfl, by rw [List.size_toArray, lenV]; exact hl, by simpa using rv⟩) (fun b u z => by have z' : (none : Option HO) = some u := z; cases z') (fun b z => absurd rfl z) fun z => absurd rfl z
  | none =>
    refine core (fun b => if b = a then some (.frz { cls := .type "list", data := .seq vs.toArray } (.lst (ns.map V.int))) else none) (fun b => ?_) (.inl (.inr ⟨{ cls := .type "list", data := .seq vs.toArray }, if_pos rfl⟩)) (fun b u z => ?_) (fun b z => ?_) fun _ => hk
    · by_cases hb : b = a
      · exact .inr ⟨_, _, if_pos hb⟩
      · exact .inl (if_neg hb)
    · by_cases hb : b = a
      · have z' := (if_pos hb).symm.trans z
        cases z'
        subst hb
        exact ⟨ha, by rw [List.length_map]; exact hl, vs, _, rv, ha⟩
      · have z' := (if_neg hb).symm.trans z
        cases z'
    · by_cases hb : b = a
      · exact hb
      · exact absurd (if_neg hb) z
end L2
namespace L2
open PySem PySem.Spec PyProof.Rows
/-- the goal that k_head leaves (case hc), from the law's promise. F gives the function object fd (K's own) once, then the promise over every base -/
theorem walk_of {l : PySem.W.OpenLaw} {n k : Nat} {q : Program} {loose : List Str} {XP : (Str → Option Value) → Heap → Prop} {YP : World → Heap → Prop} {d : DefRec} {K : Params → PySem.W.Frag} {CX : World → CXT} {sp : World → Sp} {x : Str}
    (hn : l.most = some n) (hn2 : n ≤ sizeLine) (hdf : d.params.defaults = []) (hr : Room k callerA)
    (hY : ∀ (w : World) (h : Heap), YP w h → (K w.params).In h)
    (F : ∀ (w : World) (mg : Str → Option Value) (fa : Addr) (h : Heap), (K w.params).In h → h.Ns mainGlobals mg → mg d.name = some (.ref fa) →
      ∃ fd : FuncData, (∀ (s : Shared) (u : Value), BindsTo s fd ⟨[u], []⟩ [(x, u)]) ∧
        ∀ base : Heap, (K w.params).In base → base.Ns mainGlobals mg → FnOk l.prog w (K w.params) mg base (CX w) k fa fd [x] (sp w))
    (hsp : ∀ (w : World) (H : Hp) (a : Addr) (ns : List Int), ns.length ≤ n → Only H → SqL (K w.params) H a (ns.map V.int) → sp w [.ref a] H (fun v _ => v = .bl true) fun _ _ _ => False)
    (hCX : ∀ (w : World) (H : Hp) (s : Shared) (e : Value) (s' : Shared), CX w [] H s (fun _ _ _ => False) e s' → False) :
    PySem.W.WalkO q loose XP YP l.row.toRowW d [] (fun f vs => PySem.call f vs) := by
  refine Att.attach_call hn hdf fun w s₀ s₁ mg mb fa o pm cd doc a vs ns G Y ho hd hcd hmg hobj hints hlen hg => ?_
  have KX := hY w _ Y
  obtain ⟨fd, hb, hF⟩ := F w mg fa _ KX G.T.g hmg
  exact law_call KX G.T.g G.T.b G.T.builtins G.T.nolimit hg hobj hints (Nat.le_trans hlen hn2) hr hF hb (fun H hO hS => hsp w H a ns hlen hO hS) fun H e s' => hCX w H s₁ e s'
end L2
namespace L2
open PySem PySem.Spec PyProof.Rows
def defArgs (s : Stmt) : Arguments := match s with
  | .FunctionDef _ a _ _ _ _ _ _ _ _ => a
  | _ => { posonlyargs := [], args := [], vararg := none, kwonlyargs := [], kw_defaults := [], kwarg := none, defaults := [] }
def defBody (s : Stmt) : List Stmt := match s with
  | .FunctionDef _ _ b _ _ _ _ _ _ _ => b
  | _ => []
def defScope (s : Stmt) : Scope := match s with
  | .FunctionDef _ _ _ _ _ _ sc _ _ _ => sc
  | _ => { kind := .function, names := [], isGenerator := false, isCoroutine := false }
abbrev CX0 : CXT := fun _ _ _ _ _ _ => False
abbrev E0 : XK := fun _ _ _ => False
theorem pass0 {X : Cx} : Passes CX0 X E0 := fun _ _ _ _ _ _ _ h => h.elim
structure Fun (K : PySem.W.Frag) (x qual : Str) (st : Stmt) (f : Addr) (fd : FuncData) : Prop where
  ex : ∃ (oc : Value) (od : Option Addr) (kV doc pm : Value) (an : Option Addr) (cdv ct : Value) (osl : Array (Option Value)),
    fd = PySem.W.fnOf x qual (defArgs st) (defBody st) (defScope st) .none kV doc pm an cdv ct ∧ K.lookup f = some ⟨oc, od, .func fd, osl⟩ ∧ PySem.W.codeIn K cdv qual = true
  kp : PySem.W.keepIn K (.ref f) = true
section
variable {P : Program} {w : World} {K : PySem.W.Frag} {mg : Str → Option Value} {base : Heap}
/-- THE RULE for a def: its body as a term of rules, and the reading of that term -/
theorem Fun.ok {x qual : Str} {st : Stmt} {f : Addr} {fd : FuncData} {N ps : List Str} {k : Nat} {sp : Sp} (F : Fun K x qual st f fd) (S : FnScope N ps (defScope st)) (len : ∀ vs H Q E, sp vs H Q E → vs.length = ps.length)
    (hbody : ∀ (cdv : Value) (A : Around) (outer : List Env) (s : Shared) (H : Hp) (vs : List V) (Q : VK) (E : XK), Room k (A.deeper (envOfC qual (defScope st) s.heap.objs.size f cdv)) → sp vs H Q E →
      ∃ t, PSs (cxOf CX0 P w K mg base N qual (defScope st) f cdv A outer s H E).nox (defBody st) t ∧ t { nx := fun _ H' => Q .non H', rt := Q } (start N vs) H) : FnOk P w K mg base CX0 (k + 1) f fd ps sp := by
  obtain ⟨oc, od, kV, doc, pm, an, cdv, ct, osl, rfl, lk, hcd⟩ := F.ex
  refine fn_of lk hcd S len fun A outer s H vs Q E hr hsp => ?_
  obtain ⟨t, h, q⟩ := hbody cdv A outer s H vs Q E hr hsp
  exact ⟨t, h.nox, q⟩
/-- how its arguments bind (no defaults): h is «fun _ _ _ _ _ _ us hl => match us, hl with | [_, _], _ => rfl», one _ a parameter -/
theorem Fun.binds {x qual : Str} {st : Stmt} {f : Addr} {fd : FuncData} {ps : List Str} (F : Fun K x qual st f fd)
    (h : ∀ (kV doc pm : Value) (an : Option Addr) (cdv ct : Value) (us : List Value), us.length = ps.length → bindArgs (PySem.W.fnOf x qual (defArgs st) (defBody st) (defScope st) .none kV doc pm an cdv ct) ⟨us, []⟩ = pure (ps.zip us)) : Binds K fd ps [] := by
  obtain ⟨oc, od, kV, doc, pm, an, cdv, ct, osl, rfl, lk, hcd⟩ := F.ex
  exact .all (h kV doc pm an cdv ct)
theorem fun_mk {x qual : Str} {st : Stmt} {f : Addr} {oc : Value} {od an : Option Addr} {osl : Array (Option Value)} {kV doc pm cdv ct : Value} (l : K.lookup f = some ⟨oc, od, .func (PySem.W.fnOf x qual (defArgs st) (defBody st) (defScope st) .none kV doc pm an cdv ct), osl⟩)
    (c : PySem.W.codeIn K cdv qual = true) (k : PySem.W.keepIn K (.ref f) = true) : Fun K x qual st f (PySem.W.fnOf x qual (defArgs st) (defBody st) (defScope st) .none kV doc pm an cdv ct) := ⟨⟨oc, od, kV, doc, pm, an, cdv, ct, osl, rfl, l, c⟩, k⟩
end
theorem hu_of {A : Around} {k : Nat} (hr : Room k A) : A.units + 1 < cLine := Nat.lt_of_le_of_lt (Nat.add_le_add_left (by decide : 1 ≤ 64) _) hr.units
section
variable {X : Cx}
theorem pv (i : Nat) {x : Str} {pos : Pos} (hN : X.N[i]? = some x := by rfl) (hv : Vis X.env.scope x := by first | exact Or.inl rfl | exact Or.inr (Or.inl rfl) | exact Or.inr (Or.inr rfl)) (hd : (x == ("__debug__" : Str)) = false := by decide)
    (hcd : (x == ("__classdict__" : Str)) = false := by decide) : PE X (.Name x pos) (tVar i) := pe_var hN hv hd hcd
end
theorem iteF {A B : Prop} (h : B) : if false = true then A else B := by
  rw [if_neg Bool.false_ne_true]
  exact h
theorem iteT {A B : Prop} (h : A) : if true = true then A else B := by
  rw [if_pos rfl]
  exact h
theorem ite2 {c A B : Prop} [Decidable c] (h1 : c → A) (h2 : ¬ c → B) : if c then A else B := by
  by_cases h : c
  · rw [if_pos h]
    exact h1 h
  · rw [if_neg h]
    exact h2 h
/-- all that was tracked is as it was -/
def Same (H H' : Hp) : Prop := ∀ b o, H b = some o → H' b = some o
theorem Same.refl (H : Hp) : Same H H := fun _ _ h => h
theorem Same.trans {H H1 H2 : Hp} (a : Same H H1) (b : Same H1 H2) : Same H H2 := fun c o h => b c o (a c o h)
theorem Same.free {H H' : Hp} (e : Same H H') {l : Addr} (h : H' l = Option.none) : H l = Option.none := by
  cases q : H l with
  | none => rfl
  | some o =>
    rw [e l o q] at h
    cases h
section
variable {κ : Type} [DecidableEq κ]
theorem valV_not {kvs : List (κ × V)} {k : κ} (h : valV kvs k = none) : ¬ k ∈ kvs.map (·.1) := by
  intro m
  obtain ⟨p, hp, e⟩ := List.mem_map.mp m
  have q : (kvs.any fun kv => decide (kv.1 = k)) = true := List.any_eq_true.mpr ⟨p, hp, decide_eq_true e⟩
  rw [valV_any, h] at q
  exact absurd q (by simp)
end
end L2
set_option Elab.async false
set_option linter.all false
set_option maxRecDepth 100000
namespace L2
open PySem PySem.Spec PyProof.Rows
/-- the context of a comprehension's block -/
abbrev compCx (X : Cx) (scope : Scope) (cl : List (Str × Addr)) (N : List Str) (s2 : Shared) (H : Hp) (C : Addr) (fp : List Addr) : Cx where
  prog := X.prog
  w := X.w
  K := X.K
  mg := X.mg
  base := X.base
  A := X.A
  N := N
  s₀ := s2
  H₀ := H
  env := compEnvC scope cl C X.env
  outer := X.stack
  stack := X.stack
  ex := fp
  fn := fun _ => false
  calm := X.calm
  pn := []
  xe := fun _ _ => False
/-- what a comprehension's scope asks: its free names lie in the outer frame's cells -/
structure CompOk (X : Cx) (scope : Scope) (cl : List (Str × Addr)) : Prop where
  clos : closureFor scope X.env = pure cl
  cell : ∀ y ∈ scope.names, y.2 ≠ .cell
  kind : scope.kind = .function
  names : ∀ y ∈ scope.names, y.2 = .local → scope.names.lookup y.1 = some .local
  sub : ∀ x c, cl.lookup x = some c → X.env.cells.lookup x = some c
  has : ∀ x, ((relabel scope X.env).names.lookup x = some .cell ∨ (relabel scope X.env).names.lookup x = some .free) → ∃ c, cl.lookup x = some c
/-- which slots of the outer frame the block reads: N'[i] is the outer N[j], a cell there -/
def Carry (X : Cx) (cl : List (Str × Addr)) (scope : Scope) (N : List Str) (σ σ' : St) : Prop :=
  σ'.length = N.length ∧ ∀ (i : Nat) (x : Str) (v : V), N[i]? = some x → σ'[i]? = some (some v) →
    (∃ j : Nat, X.N[j]? = some x ∧ σ[j]? = some (some v)) ∧ (X.env.kindOf x = some .cell ∨ X.env.kindOf x = some .free) ∧
      ((relabel scope X.env).names.lookup x = some .cell ∨ (relabel scope X.env).names.lookup x = some .free)
theorem Carry.none (X : Cx) (cl : List (Str × Addr)) (scope : Scope) (N : List Str) (σ : St) : Carry X cl scope N σ (N.map fun _ => Option.none) := by
  refine ⟨by simp, fun i x v h1 h2 => ?_⟩
  rw [List.getElem?_map, h1] at h2
  cases h2
section
variable {X : Cx} {pins : List (Addr × Obj)} {σ σ' : St} {H H' : Hp} {s2 s' : Shared} {scope : Scope} {cl : List (Str × Addr)} {N : List Str} {fp : List Addr} {C D : Addr} {h₁ h' : Heap} {t' : Nat}
theorem comp_start (I : Inv X pins σ H s2) (hf : ∀ b ∈ fp, FpOk X pins H b) (hfo : ∀ b ∈ fp, ∃ o, s2.heap.get? b = some o) (co : CompOk X scope cl) (hσ : Carry X cl scope N σ σ')
    (k : ∀ b o, s2.heap.get? b = some o → h₁.get? b = some o) (hD : s2.heap.objs.size ≤ D) (hC : s2.heap.objs.size ≤ C) (hDC : C ≠ D)
    (new : h₁.get? D = some { cls := .type "list", data := .seq ([] : List Value).toArray 0 } ∨ ∃ n, h₁.get? D = some { cls := .type "list", data := .seq ([] : List Value).toArray n }) {m : Str → Option Value} (hn : h₁.Ns C m) :
    Inv (compCx X scope cl N s2 H C fp) [] σ' (upd H D (.lst [])) { s2 with heap := h₁, toks := t' } := by
  have fD : H D = none := I.hok.fresh hD
  have fC : H C = none := I.hok.fresh hC
  have newO : ObjOk X.prog X.w (upd H D (.lst [])) h₁ D (.lst []) := by
    refine ⟨Nat.zero_le _, [], ?_⟩
    rcases new with e | ⟨n, e⟩
    · exact ⟨0, .nil, e⟩
    · exact ⟨n, .nil, e⟩
  have lts : ∀ b ∈ fp, b < s2.heap.objs.size := fun b hb => let ⟨_, e⟩ := hfo b hb; Heap.lt_size e
  have cells_lt : ∀ x c, cl.lookup x = some c → c < s2.heap.objs.size := fun x c e => by
    obtain ⟨v, q⟩ := I.cell x c (co.sub x c e)
    exact q.lt
  have ok : Cx.Ok (compCx X scope cl N s2 H C fp) := by
    refine ⟨I.ok.mod, ?_, I.ok.glob, I.ok.blt, hC, ?_, ?_, ?_, I.ok.hd, I.ok.frames, .inl rfl, ?_, I.bs, Nat.le_trans I.ok.bsz I.sz, ?_, ?_, I.stack, I.stkFree⟩
    · exact co.kind
    · exact fun x y c e1 e2 => I.ok.inj x y c (co.sub x c e1) (co.sub y c e2)
    · exact fun x h => co.has x h
    · exact fun x c h _ => by cases h
    · intro b hb
      refine ⟨fun e => ?_, fun x c e => (hf b hb).2.2.2.2.1 x c (co.sub x c e)⟩
      have z := lts b hb
      exact absurd (Nat.lt_of_lt_of_le z hC) (by rw [show b = C from e]; exact Nat.lt_irrefl _)
    · intro b o e hb
      have hb' : b ∈ fp := hb
      rcases (hf b hb').2.2.2.1 with z | z
      · exact I.ok.noex b o e z
      · exact absurd (Nat.lt_of_lt_of_le (Heap.lt_size e) (Nat.le_trans I.ok.bsz z)) (Nat.lt_irrefl _)
    · intro b hb hz
      have hb' : b ∈ fp := hb
      obtain ⟨_, f1, f2, _⟩ := hf b hb'
      rcases List.mem_cons.mp (I.stkSub b hz) with e | e
      · exact f1 e
      · exact f2 e
  refine ⟨ok, rfl, I.bare, Un.laid k hD fD, ?_, ?_, ?_, ?_, ?_, I.hok.laid k hD newO, hσ.1⟩
  · refine ⟨m, hn, fun i x v e1 e2 _ => ?_⟩
    obtain ⟨⟨j, j1, j2⟩, kk, kr⟩ := hσ.2 i x v e1 e2
    obtain ⟨mo, _, hl⟩ := I.loc
    obtain ⟨u, r, l⟩ := hl j x v j1 j2 (by
      rcases kk with z | z
      · exact .inr (.inl z)
      · exact .inr (.inr z))
    refine ⟨u, r, .inr ⟨kr, ?_⟩⟩
    obtain ⟨c, hc⟩ := co.has x kr
    rcases l with ⟨z, _⟩ | ⟨_, c', hc', hcell⟩
    · rcases kk with q | q
      · rw [z] at q; cases q
      · rw [z] at q; cases q
    · have e3 := co.sub x c hc
      rw [hc'] at e3
      have e4 : c' = c := Option.some.inj e3
      subst e4
      obtain ⟨o, ho, hd⟩ := hcell
      exact ⟨c', hc, o, k _ o ho, hd⟩
  · intro x c e
    obtain ⟨v, o, ho, hd⟩ := I.cell x c (co.sub x c e)
    exact ⟨v, o, k _ o ho, hd⟩
  · show upd H D (.lst []) C = none
    rw [upd_ne hDC]
    exact fC
  · intro x c e
    rw [upd_ne (Nat.ne_of_lt (Nat.lt_of_lt_of_le (cells_lt x c e) hD))]
    exact I.freeC x c (co.sub x c e)
  · intro p hp
    cases hp
theorem comp_end {pl : List (Addr × Obj)} (I : Inv X pins σ H s2) (hf : ∀ b ∈ fp, FpOk X pins H b) (hC : s2.heap.objs.size ≤ C) (I2 : Inv (compCx X scope cl N s2 H C fp) pl σ' H' s')
    (hs : Heap.SameBut C s'.heap h') : Inv X pins σ H' { s' with heap := h' } := by
  have nC : ∀ b o, s2.heap.get? b = some o → b ≠ C := fun b o e => Nat.ne_of_lt (Nat.lt_of_lt_of_le (Heap.lt_size e) hC)
  have u := I2.base
  refine I.call' (s' := { s' with heap := h' }) (ch := fp) I2.os ⟨?_, ?_, u.free, ?_, u.tups, u.frzs, u.tbls⟩ ?_ I2.bare fun b hb => ?_
  · exact fun b o e n h1 h2 => (hs.2 b (nC b o e)).trans (u.keep b o e n h1 h2)
  · intro b o e n h1 h2
    obtain ⟨sl, q⟩ := u.slot b o e n h1 h2
    exact ⟨sl, (hs.2 b (nC b o e)).trans q⟩
  · intro b o e h2
    obtain ⟨o', q⟩ := u.there b o e h2
    exact ⟨o', (hs.2 b (nC b o e)).trans q⟩
  · intro b ob e
    have hfree : H' C = none := I2.free
    refine (I2.hok b ob e).stay (fun c w' hc q => (hs.2 c ?_).trans q) (fun _ q => q) fun _ _ q => q
    rintro rfl
    rcases hc with rfl | hc
    · rw [hfree] at e; cases e
    · rw [hfree] at hc; cases hc
  · obtain ⟨_, f1, _, f3, f4, f5⟩ := hf b hb
    exact ⟨f3, f1, f4, f5⟩
end
section
variable {prog : Program} {w : World} {A : Around} {R : Result → Shared → Prop} {s : Shared}
theorem codeAny_compLoop_any {elt target iter : Expr} {ifs : List Expr} {scope : Scope} {pos : Pos} {it acc : Value} {env : Env} (I : Nat → Shared → Prop)
    (turn : ∀ n s, I n s → wpAny (model prog w) A (pyNext it) (fun r s₁ => match r with
      | none => R (.ok .next) s₁
      | some v => wpAny (model prog w) A (letOwnedTupleGo target it v) (fun _ s₁' => wpAny (model prog w) A (assign target env v) (fun _ s₂ =>
          wpAny (model prog w) A (forIn ifs true fun c r => if r = true then do let ok ← isTrue c env (eval c env); pure (ForInStep.yield ok) else pure (ForInStep.yield r)) (fun ok s₃ =>
            if ok = true then wpAny (model prog w) A (eval elt env) (fun x s₄ =>
              wpAny (model prog w) A (call (.builtin "list.append") [acc, x]) (fun _ s₅ => ∃ m, m < n ∧ I m s₅) (notedBy (model prog w) A env fun e s' => R (.error e) s') s₄) (notedBy (model prog w) A env fun e s' => R (.error e) s') s₃
            else ∃ m, m < n ∧ I m s₃) (notedBy (model prog w) A env fun e s' => R (.error e) s') s₂) (notedBy (model prog w) A env fun e s' => R (.error e) s') s₁') (notedBy (model prog w) A env fun e s' => R (.error e) s') s₁) (notedBy (model prog w) A env fun e s' => R (.error e) s') s)
    (n : Nat) (h : I n s) :
    codeAny (model prog w) A (.compLoop (.ListComp elt [⟨target, iter, ifs, 0⟩] scope pos) 0 it acc env) R s := by
  refine codeAny_loop rfl I (fun n s hI => ?_) n h
  show wpAny _ A ((compTurn (.ListComp elt [⟨target, iter, ifs, 0⟩] scope pos) 0 it acc env).onRaise (fun x => do noteFrame x env; theTreesLotGoes x)) _ _ s
  refine wpAny_noted ?_
  rw [compTurn_list]
  refine wpAny_bind (wpAny_standAt (wpAny_bind (wpAny_mono (turn n s hI) (fun r s₁ h₁ => ?_) fun _ _ h' => h')))
  cases r with
  | none => exact wpAny_pure h₁
  | some v =>
    refine wpAny_bind (wpAny_mono h₁ (fun _ s₁' h₁' => ?_) fun _ _ h' => h')
    refine wpAny_bind (wpAny_mono h₁' (fun _ s₂ h₂ => wpAny_bind (wpAny_mono h₂ (fun ok s₃ h₃ => ?_) fun _ _ h' => h')) fun _ _ h' => h')
    cases ok with
    | false => exact wpAny_pure ⟨rfl, h₃⟩
    | true =>
      exact wpAny_bind (wpAny_bind (wpAny_mono h₃ (fun x s₄ h₄ => wpAny_bind (wpAny_mono h₄ (fun _ s₅ h₅ => wpAny_pure (wpAny_pure ⟨rfl, h₅⟩)) fun _ _ h' => h')) fun _ _ h' => h'))
end
/-- the tests of a clause -/
def PTs (X : Cx) (ifs : List Expr) (t : TT) : Prop :=
  ∀ (pins : List (Addr × Obj)) (s : Shared) (σ : St) (H : Hp) (Q : Bool → Hp → Prop), Inv X pins σ H s → t σ H Q →
    wpAny (model X.prog X.w) X.A (forIn ifs true fun c r => if r = true then do let ok ← isTrue c X.env (eval c X.env); pure (ForInStep.yield ok) else pure (ForInStep.yield r)) (TP X pins σ Q) X.xe s
def tYes : TT := fun _ H Q => Q true H
theorem pts_nil {X : Cx} : PTs X [] tYes := fun _ _ _ H _ I h => wpAny_tests_nil ⟨H, I, h⟩
/-- [elt for tg in iter if ..]: W is the invariant by turn and measure; the list that is made stands at D -/
def tComp (wi : TI) (g : TG) (tt : TT) (te : TE) (σ0 : St → St) : TE := fun σ H Q => wi σ H fun J H1 => ∀ D, H1 D = none → ∃ W : Nat → Nat → St → Hp → Prop, (∃ m, W 0 m (σ0 σ) (upd H1 D (.lst []))) ∧
  ∀ i m σ' H', W i m σ' H' → (J.stop i H' ∧ Q (.ref D) H') ∨ (J.go i H' ∧ ∀ x H2, J.yld i H' x H2 → g x σ' H2 fun σ2 H3 => tt σ2 H3 fun b H4 =>
    if b = true then te σ2 H4 (fun v H5 => ∃ acc, H5 D = some (.lst acc) ∧ acc.length < sizeLine ∧ ∃ m', m' < m ∧ W (i + 1) m' σ2 (upd H5 D (.lst (acc ++ [v])))) else ∃ m', m' < m ∧ W (i + 1) m' σ2 H4)
theorem pe_comp {X : Cx} {tg iter elt : Expr} {ifs : List Expr} {scope : Scope} {cl : List (Str × Addr)} {N : List Str} {pos : Pos} {wi : TI} {g : TG} {tt : TT} {te : TE} {σ0 : St → St} (hc : X.calm = true) (co : CompOk X scope cl)
    (hσ : ∀ σ, σ.length = X.N.length → Carry X cl scope N σ (σ0 σ)) (hi : PI X tg iter wi)
    (hb : ∀ s2 H C fp, PG (compCx X scope cl N s2 H C fp) tg g ∧ PTs (compCx X scope cl N s2 H C fp) ifs tt ∧ PE (compCx X scope cl N s2 H C fp) elt te)
    (hs : ∀ x, foldedSetIterable iter X.env x = pure x := by intro _; rfl) : PE X (.ListComp elt [⟨tg, iter, ifs, 0⟩] scope pos) (tComp wi g tt te σ0) := by
  intro pins s σ H Q I h
  rw [eval_ListComp]
  refine wpAny_comprehension_free (use := none) rfl hs co.clos co.kind co.names (wpAny_mono (hi pins s σ H _ I h) (fun xv s1 h1 => wpAny_mono h1 (fun itv s2 h2 => ?_) fun _ _ e => e) fun _ _ e => e)
  obtain ⟨it, fp, tn, J, H2, rfl, I2, T, st2, f2, hW⟩ := h2
  refine wpAny_newObj_type (wpAny_newFunctionEnv co.cell (by intro y hy; cases hy) (fun h₁ hns₁ hsb₁ => ?_) co.kind)
  dsimp only at hns₁ hsb₁ ⊢
  generalize hH2 : s2.heap.push { cls := .type "list", dict := none, data := .seq ([] : List Value).toArray } = HH at hns₁ hsb₁ ⊢
  have hCsz : HH.objs.size = s2.heap.objs.size + 1 := by rw [← hH2, Heap.size_push]
  have old : ∀ b o, s2.heap.get? b = some o → h₁.get? b = some o := fun b o e =>
    hsb₁.extBut b o (Nat.ne_of_lt (by rw [hCsz]; exact Nat.lt_succ_of_lt (Heap.lt_size e))) (Heap.get?_push_of_some _ (hH2 ▸ Heap.get?_push_of_some _ e))
  have newD : ∃ n, h₁.get? s2.heap.objs.size = some { cls := .type "list", data := .seq ([] : List Value).toArray n } :=
    ⟨_, hsb₁.extBut _ _ (Nat.ne_of_lt (by rw [hCsz]; exact Nat.lt_succ_self _)) (Heap.get?_push_of_some _ (hH2 ▸ Heap.get?_push_size _ rfl))⟩
  obtain ⟨W, ⟨m0, w0⟩, turn⟩ := hW s2.heap.objs.size I2.fresh
  have hfo : ∀ b ∈ fp, ∃ o, s2.heap.get? b = some o := fun b hb => let ⟨o, e, _⟩ := T.obj _ _ st2 b hb; ⟨o, e⟩
  have I3 : Inv (compCx X scope cl N s2 H2 HH.objs.size fp) [] (σ0 σ) (upd H2 s2.heap.objs.size (.lst [])) { s2 with heap := h₁, toks := s2.toks + ([] : List (Str × Value)).length } :=
    comp_start I2 f2 hfo co (hσ σ I.len) old (Nat.le_refl _) (by rw [hCsz]; exact Nat.le_succ _) (Nat.ne_of_gt (by rw [hCsz]; exact Nat.lt_succ_self _)) (.inr newD) hns₁
  have fC : s2.heap.objs.size ≤ HH.objs.size := by rw [hCsz]; exact Nat.le_succ _
  obtain ⟨hg, ht, he⟩ := hb s2 H2 HH.objs.size fp
  have loop : ∀ s₃ : Shared, s₃ = { s2 with heap := h₁, toks := s2.toks + ([] : List (Str × Value)).length } →
      codeAny (model X.prog X.w) X.A (.compLoop (.ListComp elt [⟨tg, iter, ifs, 0⟩] scope pos) 0 (.ref it) (.ref s2.heap.objs.size) (compEnvC scope cl HH.objs.size X.env))
        (compPost (model X.prog X.w) X.A X.xe none (EP X pins σ Q) (.ref s2.heap.objs.size) HH.objs.size) s₃ := by
    rintro s₃ rfl
    have stat : ∀ {H' : Hp} , (∀ b ∈ fp, H' b = none) → ∀ b ∈ fp, FpOk (compCx X scope cl N s2 H2 HH.objs.size fp) [] H' b := fun hn b hb => by
      refine ⟨hn b hb, ?_, ?_, .inl hb, ?_, fun p hp => by cases hp⟩
      · obtain ⟨o, e⟩ := hfo b hb
        exact Nat.ne_of_lt (show b < HH.objs.size by rw [hCsz]; exact Nat.lt_succ_of_lt (Heap.lt_size e))
      · intro hz
        obtain ⟨_, q1, q2, _⟩ := f2 b hb
        rcases List.mem_cons.mp (I2.stkSub b hz) with e | e
        · exact q1 e
        · exact q2 e
      · exact fun x c e => (f2 b hb).2.2.2.2.1 x c (co.sub x c e)
    refine codeAny_compLoop_any (fun n s' => ∃ i σ' H', Inv (compCx X scope cl N s2 H2 HH.objs.size fp) [] σ' H' s' ∧ tn i s'.heap ∧ (∀ b ∈ fp, H' b = none) ∧ W i n σ' H') ?_ m0
      ⟨0, σ0 σ, _, I3, T.keep _ _ _ st2 fun b hb o e => old b o e, fun b hb => ?_, w0⟩
    · rintro n s4 ⟨i, σ4, H4, I4, st4, fr4, w4⟩
      rcases turn i n σ4 H4 w4 with ⟨stop, qn⟩ | ⟨go, step⟩
      · refine wpAny_mono (T.done (compCx X scope cl N s2 H2 HH.objs.size fp) rfl rfl rfl hc i [] s4 σ4 H4 (fun _ _ => False) I4 (stat fr4) st4 stop) (fun r s5 ⟨hr, I5⟩ => ?_) fun _ _ z => z.elim
        subst hr
        obtain ⟨m5, hn5, _⟩ := id I5.loc
        exact ⟨m5, hn5, fun h' hs' => ⟨.ref _, H4, comp_end I2 f2 fC I5 hs', rfl, qn⟩⟩
      · refine wpAny_mono (T.item (compCx X scope cl N s2 H2 HH.objs.size fp) rfl rfl rfl hc i [] s4 σ4 H4 (fun _ _ => False) I4 (stat fr4) st4 go) (fun r s5 ⟨u, hr, h5⟩ => ?_) fun _ _ z => z.elim
        subst hr
        refine wpAny_mono h5 (fun _ s6 ⟨x, H6, I6, r6, y6, st6, fr6⟩ => ?_) fun _ _ z => z.elim
        have I6' := I6.pinned (stat fr6) (T.obj _ _ st6)
        refine wpAny_mono (hg _ s6 σ4 H6 x u _ I6' r6 (step x H6 y6)) (fun _ s7 ⟨σ7, H7, I7, q7⟩ => ?_) fun _ _ z => z.elim
        refine wpAny_mono (ht _ s7 σ7 H7 _ I7 q7) (fun ok s8 ⟨H8, I8, q8⟩ => ?_) fun _ _ z => z.elim
        have again : ∀ {s9 : Shared} {σ9 : St} {H9 : Hp} , Inv (compCx X scope cl N s2 H2 HH.objs.size fp) ([] ++ pinsAt fp s6.heap) σ9 H9 s9 → (∃ m', m' < n ∧ W (i + 1) m' σ9 H9) → ∃ m, m < n ∧ ∃ i σ' H', Inv (compCx X scope cl N s2 H2 HH.objs.size fp) [] σ' H' s9 ∧ tn i s9.heap ∧ (∀ b ∈ fp, H' b = none) ∧ W i m σ' H' := fun {s9 σ9 H9} I9 n9 => by
          obtain ⟨m', hm, w9⟩ := n9
          refine ⟨m', hm, i + 1, σ9, H9, I9.unpinned, T.keep _ _ _ st6 fun b hb o e => (I9.pin (b, o) (List.mem_append_right _ (List.mem_append_right _ (mem_pinsAt hb e)))).1, fun b hb => ?_, w9⟩
          obtain ⟨o, e, d⟩ := T.obj _ _ st6 b hb
          exact (I9.pin (b, o) (List.mem_append_right _ (List.mem_append_right _ (mem_pinsAt hb e)))).2.1
        cases ok with
        | false =>
          rw [if_neg Bool.false_ne_true] at q8 ⊢
          exact again I8 q8
        | true =>
          rw [if_pos rfl] at q8 ⊢
          refine wpAny_mono (he _ s8 σ7 H8 _ I8 q8) (fun y s9 ⟨v, H9, I9, r9, acc, hacc, hsz, q9⟩ => ?_) fun _ _ z => z.elim
          refine wpAny_mono (mt_append (X := compCx X scope cl N s2 H2 HH.objs.size fp) _ s9 σ7 H9 (.ref s2.heap.objs.size) [v] (.ref s2.heap.objs.size) [y] (fun _ H10 => ∃ m', m' < n ∧ W (i + 1) m' σ7 H10) I9 rfl (.cons r9 .nil) ⟨_, acc, v, rfl, rfl, hacc, hsz, q9⟩) (fun _ s10 ⟨_, H10, I10, _, q10⟩ => ?_) fun _ _ z => z.elim
          exact again I10 q10
    · have z := (f2 b hb).1
      obtain ⟨o, e⟩ := hfo b hb
      rw [upd_ne (Nat.ne_of_lt (Heap.lt_size e))]
      exact z
  exact codeAny_compStart_list (loop _ rfl) (T.self _ 0 _ _ _ (T.keep _ _ _ st2 fun b hb o e => old b o e) (loop _ rfl))
end L2
set_option Elab.async false
set_option linter.all false
set_option maxRecDepth 100000
namespace L2
open PySem PySem.Spec PyProof.Rows
def Its (x : Str) : It := ⟨fun i _ => i < x.cps.size, fun i H v H' => H' = H ∧ ∃ c, x.cps[i]? = some c ∧ v = .str ⟨#[c]⟩, fun i _ => x.cps.size ≤ i⟩
theorem turn_strA {P : Program} {w : World} {K : PySem.W.Frag} {tg : Expr} (it : Addr) (x : Str) (t : Tok) : Turn P w K tg (Its x) [it] it (fun i h => h.IsStrIter it "str_ascii_iterator" x t i) where
  mem := by simp
  obj := fun i h st b hb => by
    have e : b = it := by simpa using hb
    subst e
    obtain ⟨o, e, c, d⟩ := st
    exact ⟨o, e, fun v z => by rw [d] at z; cases z⟩
  keep := fun i h h' st k => let ⟨o, e, r⟩ := st; ⟨o, k it (by simp) o e, r⟩
  item := by
    intro X hP hw hK hc i pins s σ H E I hf st hg
    subst hP hw hK
    obtain ⟨f0, f1, f2, f3, f4, f5⟩ := hf it (by simp)
    have hg' : i < x.cps.size := hg
    refine wpAny_pyNext_ascii_item st (c := x.cps[i]) (by simp [hg']) fun h' st' sb => ?_
    have I1 : Inv X pins σ H { s with heap := h', toks := s.toks + 1 } := I.turned (fun b o hb e => (sb.2 b hb).trans e) f0 f1 f3 f4 f5
    obtain ⟨o, e, c, d⟩ := id st'
    exact ⟨_, rfl, go_of (s := { s with heap := h', toks := s.toks + 1 }) e c d (by decide) ⟨.str ⟨#[x.cps[i]]⟩, H, I1, ⟨_, rfl⟩, ⟨rfl, _, by simp [hg'], rfl⟩, st', fun b hb => (hf b hb).1⟩⟩
  done := by
    intro X hP hw hK hc i pins s σ H E I hf st hg
    subst hP hw hK
    obtain ⟨f0, f1, f2, f3, f4, f5⟩ := hf it (by simp)
    have hg' : x.cps.size ≤ i := hg
    exact wpAny_pyNext_ascii_end (I.ok.hd hc) st (by simp [hg']) fun h' eb => ⟨rfl, I.turned (t' := s.toks) (fun b o hb e => eb b o hb e) f0 f1 f3 f4 f5⟩
  self := fun _ _ _ _ _ st h => wpAny_pyIter_striter_ascii st h
theorem turn_strW {P : Program} {w : World} {K : PySem.W.Frag} {tg : Expr} (it : Addr) (x : Str) (t : Tok) : Turn P w K tg (Its x) [it] it (fun i h => h.IsStrIter it "str_iterator" x t i) where
  mem := by simp
  obj := fun i h st b hb => by
    have e : b = it := by simpa using hb
    subst e
    obtain ⟨o, e, c, d⟩ := st
    exact ⟨o, e, fun v z => by rw [d] at z; cases z⟩
  keep := fun i h h' st k => let ⟨o, e, r⟩ := st; ⟨o, k it (by simp) o e, r⟩
  item := by
    intro X hP hw hK hc i pins s σ H E I hf st hg
    subst hP hw hK
    obtain ⟨f0, f1, f2, f3, f4, f5⟩ := hf it (by simp)
    have hg' : i < x.cps.size := hg
    refine wpAny_pyNext_wide_item st (c := x.cps[i]) (by simp [hg']) fun h' st' sb => ?_
    have I1 : Inv X pins σ H { s with heap := h', toks := s.toks + 1 } := I.turned (fun b o hb e => (sb.2 b hb).trans e) f0 f1 f3 f4 f5
    obtain ⟨o, e, c, d⟩ := id st'
    exact ⟨_, rfl, go_of (s := { s with heap := h', toks := s.toks + 1 }) e c d (by decide) ⟨.str ⟨#[x.cps[i]]⟩, H, I1, ⟨_, rfl⟩, ⟨rfl, _, by simp [hg'], rfl⟩, st', fun b hb => (hf b hb).1⟩⟩
  done := by
    intro X hP hw hK hc i pins s σ H E I hf st hg
    subst hP hw hK
    obtain ⟨f0, f1, f2, f3, f4, f5⟩ := hf it (by simp)
    have hg' : x.cps.size ≤ i := hg
    exact wpAny_pyNext_wide_end (I.ok.hd hc) st (by simp [hg']) fun h' eb => ⟨rfl, I.turned (t' := s.toks) (fun b o hb e => eb b o hb e) f0 f1 f3 f4 f5⟩
  self := fun _ _ _ _ _ st h => wpAny_pyIter_striter_wide st h
def iStr (tl : TE) : TI := fun σ H R => tl σ H fun x H1 => ∃ z, x = .str z ∧ R (Its z) H1
theorem pi_str {X : Cx} {tg l : Expr} {tl : TE} (hl : PE X l tl) : PI X tg l (iStr tl) := by
  intro pins s σ H R I h
  refine thn (hl pins s σ H _ I h) fun v s1 ⟨x, H1, I1, r1, q1⟩ => ?_
  obtain ⟨z, rfl, q⟩ := q1
  obtain ⟨t, rfl⟩ := r1
  have fin : ∀ b ∈ [s1.heap.objs.size], FpOk X pins H1 b := fun b hb => by
    have e : b = s1.heap.objs.size := by simpa using hb
    subst e
    exact I1.fpOk (Nat.le_refl _) (I1.hok.fresh (Nat.le_refl _))
  cases ha : z.cps.all (· < 128)
  · exact wpAny_pyIter_wide ha ⟨s1.heap.objs.size, [s1.heap.objs.size], _, _, H1, rfl, I1.kept (t' := s1.toks) fun b o e => Heap.get?_push_of_some _ e, turn_strW _ z t, ⟨_, Heap.get?_push_size _ rfl, rfl, rfl⟩, fin, q⟩
  · exact wpAny_pyIter_ascii ha ⟨s1.heap.objs.size, [s1.heap.objs.size], _, _, H1, rfl, I1.kept (t' := s1.toks) fun b o e => Heap.get?_push_of_some _ e, turn_strA _ z t, ⟨_, Heap.get?_push_size _ rfl, rfl, rfl⟩, fin, q⟩
theorem call_all_bl {X : Cx} (hc : X.calm = true) : CallR X (.builtin "all") (fun xs H Q => ∃ (p : Addr) (bs : List Bool), xs = [.ref p] ∧ SqL X.K H p (bs.map V.bl) ∧ Q (.bl (bs.all id)) H) := by
  intro pins s σ H xs us Q I r h
  obtain ⟨p, bs, rfl, hq, q⟩ := h
  obtain ⟨u, rfl, ru⟩ := vals1 r
  cases ru
  obtain ⟨its, rv, pl, hz⟩ := I.list hq
  have hlen : its.length = bs.length := by rw [← rv.length, List.length_map]
  refine call_all_walk (wpAny_pyIter_list pl.isList ?_)
  have hne : p ≠ s.heap.objs.size := by
    obtain ⟨o, n, e, _⟩ := pl
    exact Nat.ne_of_lt (Heap.lt_size e)
  refine ⟨s.heap.objs.size, _, _, _, _, _, fun i => bs.getD i true, rfl, Walks.list (A := X.A.in1) (I.ok.hd hc) s.heap.objs.size p hne its.toArray, ⟨⟨_, Heap.get?_push_size _ rfl, rfl, rfl⟩, ?_⟩, ?_, ?_⟩
  · exact pl.isList.at fun o e => Heap.get?_push_of_some _ e
  · intro i v s1 Q1 E1 hv hQ
    have hv' : its[i]? = some v := by simpa using hv
    have hb : ∃ b, bs[i]? = some b := by
      cases e : bs[i]? with
      | some b => exact ⟨b, rfl⟩
      | none =>
        have := List.getElem?_eq_none_iff.mp e
        have := (List.getElem?_eq_some_iff.mp hv').1
        omega
    obtain ⟨b, hb⟩ := hb
    obtain ⟨u, hu, ru⟩ := rv.get (i := i) (x := V.bl b) (by rw [List.getElem?_map, hb]; rfl)
    rw [hv'] at hu
    cases hu
    cases ru
    have e : bs.getD i true = b := by rw [List.getD_eq_getElem?_getD, hb]; rfl
    have hQ' : Q1 (bs.getD i true) s1 := hQ
    rw [e] at hQ'
    exact wpAny_truthy_bool hQ'
  · intro h' tk hk
    have e : (List.range its.toArray.size).all (fun i => bs.getD i true) = bs.all id := by
      rw [List.size_toArray, hlen]
      apply Bool.eq_iff_iff.mpr
      simp only [List.all_eq_true, List.mem_range, id]
      constructor
      · intro h b hb
        obtain ⟨i, hi, e⟩ := List.getElem_of_mem hb
        have := h i hi
        rw [List.getD_eq_getElem?_getD, List.getElem?_eq_getElem hi] at this
        simpa [e] using this
      · intro h i hi
        rw [List.getD_eq_getElem?_getD, List.getElem?_eq_getElem hi]
        exact h _ (List.getElem_mem hi)
    rw [e]
    refine ⟨.bl _, H, ?_, rfl, q⟩
    have I1 : Inv X pins σ H { s with heap := s.heap.push { cls := .type "list_iterator", data := .fields #[.ref p, .int 0 0] } } := I.kept (t' := s.toks) fun b o e => Heap.get?_push_of_some _ e
    have F := I.fpOk (Nat.le_refl _) (I.hok.fresh (Nat.le_refl _))
    obtain ⟨f0, f1, f2, f3, f4, f5⟩ := F
    exact I1.turned (it := s.heap.objs.size) (fun b o hb e => hk b o (by simpa using hb) e) f0 f1 f3 f4 f5
theorem call_isinst {X : Cx} : CallR X (.builtin "isinstance") (fun xs H Q => ∃ x c t b, xs = [x, .ty c] ∧ TyOf X.K H x t ∧ PySem.W.kitOne X.K t (.type c) = some b ∧ Q (.bl b) H) := by
  intro pins s σ H xs us Q I r h
  obtain ⟨x, c, t, b, rfl, ty, e, q⟩ := h
  obtain ⟨u, v, rfl, rx, rc⟩ := vals2 r
  cases rc
  exact isinst_ok I rx ty e fun tk => ⟨.bl b, H, I.tok tk, rfl, q⟩
theorem op_le_str {X : Cx} : OpR X (compareOp .LtE) (fun x y H Q => ∃ i j, x = .str i ∧ y = .str j ∧ Q (.bl (!(decide (j.cps.toList < i.cps.toList)))) H) := by
  intro pins s σ H x y v u Q I rx ry h
  obtain ⟨i, j, rfl, rfl, q⟩ := h
  obtain ⟨t, rfl⟩ := rx
  obtain ⟨t', rfl⟩ := ry
  exact PySem.P.le_str ⟨.bl _, H, I, rfl, q⟩
end L2
set_option Elab.async false
set_option linter.all false
set_option maxRecDepth 100000
namespace L2
open PySem PySem.Spec PyProof.Rows
theorem lookup_mem {α : Type} : ∀ {l : List (Str × α)} {x : Str} {k : α}, l.lookup x = some k → (x, k) ∈ l
  | [], _, _, h => by cases h
  | (n, v) :: r, x, k, h => by
    rw [List.lookup_cons] at h
    by_cases e : x = n
    · subst e
      simp at h
      subst h
      exact List.mem_cons_self
    · have : (x == n) = false := beq_eq_false_iff_ne.mpr e
      rw [this] at h
      exact List.mem_cons_of_mem _ (lookup_mem h)
/-- a comprehension whose block names nothing of the frame around it -/
theorem CompOk.plain {X : Cx} {scope : Scope} (hfree : ∀ x ∈ scope.names, x.2 ≠ .free) (hcell : ∀ y ∈ scope.names, y.2 ≠ .cell) (hkind : scope.kind = .function)
    (hnames : ∀ y ∈ scope.names, y.2 = .local → scope.names.lookup y.1 = some .local) : CompOk X scope [] := by
  refine ⟨closureFor_none hfree, hcell, hkind, hnames, fun x c h => (by cases h), fun x h => ?_⟩
  have key : ∀ k, (relabel scope X.env).names.lookup x = some k → ∃ y ∈ scope.names, y.2 = k := by
    intro k e
    have m := lookup_mem e
    obtain ⟨⟨n, k'⟩, hm, e'⟩ := List.mem_map.mp m
    have hf := hfree _ hm
    have : (k' == NameKind.free) = false := by
      cases k' <;> first | rfl | exact absurd rfl hf
    dsimp only at e'
    rw [this] at e'
    simp at e'
    exact ⟨_, hm, e'.2⟩
  rcases h with h | h
  · obtain ⟨y, hy, e⟩ := key _ h
    exact absurd e (hcell y hy)
  · obtain ⟨y, hy, e⟩ := key _ h
    exact absurd e (hfree y hy)
def lowc (c : Nat) : Bool := decide (97 ≤ c) && decide (c ≤ 122)
theorem lt1 (a b : Nat) : decide (([a] : List Nat) < [b]) = decide (a < b) := by
  apply decide_eq_decide.mpr
  rw [List.cons_lt_cons_iff]
  constructor
  · rintro (h | ⟨_, h⟩)
    · exact h
    · exact absurd h (by simp)
  · exact fun h => .inl h
theorem leA (c : Nat) : (!(decide ((⟨#[c]⟩ : Str).cps.toList < (Str.ofString "a").cps.toList))) = decide (97 ≤ c) := by
  show (!(decide (([c] : List Nat) < [97]))) = _
  rw [lt1, ← decide_not]
  exact decide_eq_decide.mpr (by omega)
theorem leZ (c : Nat) : (!(decide ((Str.ofString "z").cps.toList < (⟨#[c]⟩ : Str).cps.toList))) = decide (c ≤ 122) := by
  show (!(decide (([122] : List Nat) < [c]))) = _
  rw [lt1, ← decide_not]
  exact decide_eq_decide.mpr (by omega)
def nameB (t : Str) : Bool := decide (1 ≤ t.length) && decide (t.length ≤ 6) && t.cps.toList.all lowc
/-- it is known of what kind the thing is, and it is no text -/
def NotStr (K : PySem.W.Frag) (H : Hp) (x : V) : Prop := ∃ ty, TyOf K H x ty ∧ PySem.W.kitOne K ty (.type "str") = some false
/-- is_name: of a text by its letters, of no text False; the list that it makes stays -/
def spName (K : PySem.W.Frag) : Sp := fun vs H Q _ => ∃ x, vs = [x] ∧ ((∃ t, x = .str t ∧ t.length ≤ 1000 ∧ ∀ H', Same H H' → Q (.bl (nameB t)) H') ∨ (NotStr K H x ∧ Q (.bl false) H))
theorem same_upd {H : Hp} {p : Addr} {o : HO} (h : H p = none) : Same H (upd H p o) := fun b u e => by
  rw [upd_ne (ne_of_none e h)]
  exact e
theorem take_succ_map {α β : Type} (f : α → β) (l : List α) (i : Nat) (c : α) (h : l[i]? = some c) : (l.take (i + 1)).map f = (l.take i).map f ++ [f c] := by
  rw [List.take_succ, h, List.map_append]
  rfl
end L2
set_option Elab.async false
set_option linter.all false
set_option maxRecDepth 100000
namespace L2
open PySem PySem.Spec PyProof.Rows
mutual
inductive Dat (H : Hp) : V → PyData → Prop
  | non : Dat H .non .none
  | bl (b : Bool) : Dat H (.bl b) (.bool b)
  | int (i : Int) : Dat H (.int i) (.int i)
  | str (x : Str) : Dat H (.str x) (.str x)
  | tup {a : Addr} {vs : List V} {ds : List PyData} : H a = some (.tup vs) → Dats H vs ds → Dat H (.ref a) (.tuple ds)
  | lst {a : Addr} {vs : List V} {ds : List PyData} : H a = some (.lst vs) → Dats H vs ds → Dat H (.ref a) (.list ds)
inductive Dats (H : Hp) : List V → List PyData → Prop
  | nil : Dats H [] []
  | cons {v : V} {vs : List V} {d : PyData} {ds : List PyData} : Dat H v d → Dats H vs ds → Dats H (v :: vs) (d :: ds)
end
mutual
theorem Dat.mono {H H' : Hp} (s : ∀ a o, H a = some o → (∃ vs, o = .tup vs ∨ o = .lst vs) → H' a = some o) : ∀ {v : V} {d : PyData}, Dat H v d → Dat H' v d
  | _, _, .non => .non
  | _, _, .bl b => .bl b
  | _, _, .int i => .int i
  | _, _, .str x => .str x
  | _, _, .tup e r => .tup (s _ _ e ⟨_, .inl rfl⟩) (Dats.mono s r)
  | _, _, .lst e r => .lst (s _ _ e ⟨_, .inr rfl⟩) (Dats.mono s r)
theorem Dats.mono {H H' : Hp} (s : ∀ a o, H a = some o → (∃ vs, o = .tup vs ∨ o = .lst vs) → H' a = some o) : ∀ {vs : List V} {ds : List PyData}, Dats H vs ds → Dats H' vs ds
  | _, _, .nil => .nil
  | _, _, .cons x r => .cons (Dat.mono s x) (Dats.mono s r)
end
theorem Dat.same {H H' : Hp} {v : V} {d : PyData} (h : Dat H v d) (s : Same H H') : Dat H' v d := h.mono fun a o e _ => s a o e
mutual
theorem Dat.reads {X : Cx} {pins : List (Addr × Obj)} {σ : St} {H : Hp} {s : Shared} (I : Inv X pins σ H s) : ∀ {v : V} {d : PyData} {u : Value}, Dat H v d → RelV v u → ∃ as, Reads s.heap u d as
  | _, _, _, .non, r => by cases r; exact ⟨_, .none⟩
  | _, _, _, .bl b, r => by cases r; exact ⟨_, .bool b⟩
  | _, _, _, .int i, r => by obtain ⟨t, rfl⟩ := r; exact ⟨_, .int i t⟩
  | _, _, _, .str x, r => by obtain ⟨t, rfl⟩ := r; exact ⟨_, .str x t⟩
  | _, _, _, .tup (a := a) e m, r => by
    cases r
    obtain ⟨_, its, rv, o, ho, hc, n, hd⟩ := (show ObjOk X.prog X.w H s.heap a (.tup _) from I.hok a _ e)
    obtain ⟨as, q⟩ := Dats.reads I m rv
    exact ⟨_, .tuple ho hc hd (by simpa using q)⟩
  | _, _, _, .lst (a := a) e m, r => by
    cases r
    obtain ⟨_, its, n, rv, ho⟩ := (show ObjOk X.prog X.w H s.heap a (.lst _) from I.hok a _ e)
    obtain ⟨as, q⟩ := Dats.reads I m rv
    exact ⟨_, .list ho rfl rfl (by simpa using q)⟩
theorem Dats.reads {X : Cx} {pins : List (Addr × Obj)} {σ : St} {H : Hp} {s : Shared} (I : Inv X pins σ H s) : ∀ {vs : List V} {ds : List PyData} {us : List Value}, Dats H vs ds → Vals vs us → ∃ as, ReadsAll s.heap us ds as
  | _, _, _, .nil, r => by cases r; exact ⟨_, .nil⟩
  | _, _, _, .cons x m, r => by
    cases r with
    | cons r1 r2 =>
      obtain ⟨as, q1⟩ := Dat.reads I x r1
      obtain ⟨bs, q2⟩ := Dats.reads I m r2
      exact ⟨_, .cons q1 q2⟩
end
/-- == and != of nested data, up to sixty deep -/
theorem op_eq_dat {X : Cx} (hu : X.A.units + 64 < cLine) : OpR X (compareOp .Eq) (fun x y H Q => ∃ d e, Dat H x d ∧ Dat H y e ∧ d.canLay0 = true ∧ e.canLay0 = true ∧ d.depth ≤ 60 ∧ Q (.bl (PyData.eqv d e)) H) := by
  intro pins s σ H x y v u Q I rx ry h
  obtain ⟨d, e, h1, h2, c1, c2, hd, q⟩ := h
  obtain ⟨as, r1⟩ := h1.reads I rx
  obtain ⟨bs, r2⟩ := h2.reads I ry
  exact SeqAt.compareEq_reads r1 r2 c1 c2 (by have := Nat.min_le_left d.depth e.depth; omega) ⟨.bl _, H, I, rfl, q⟩
theorem op_ne_dat {X : Cx} (hu : X.A.units + 64 < cLine) : OpR X (compareOp .NotEq) (fun x y H Q => ∃ d e, Dat H x d ∧ Dat H y e ∧ d.canLay0 = true ∧ e.canLay0 = true ∧ d.depth ≤ 60 ∧ Q (.bl (!PyData.eqv d e)) H) := by
  intro pins s σ H x y v u Q I rx ry h
  obtain ⟨d, e, h1, h2, c1, c2, hd, q⟩ := h
  obtain ⟨as, r1⟩ := h1.reads I rx
  obtain ⟨bs, r2⟩ := h2.reads I ry
  exact SeqAt.compareNe_reads r1 r2 c1 c2 (by have := Nat.min_le_left d.depth e.depth; omega) ⟨.bl _, H, I, rfl, q⟩
theorem inV_strs (z : Str) (xs : List Str) : inV (.str z) (xs.map V.str) = decide (z ∈ xs) := by
  unfold inV
  induction xs with
  | nil => simp
  | cons x xs ih =>
    rw [List.map_cons, List.any_cons, ih]
    have e : eqV (.str x) (.str z) = decide (z = x) := by
      show (x == z) = _
      by_cases h : z = x
      · subst h; simp
      · have h' : ¬ x = z := fun q => h q.symm
        rw [decide_eq_false h]
        exact beq_eq_false_iff_ne.mpr h'
    rw [e]
    by_cases h : z = x
    · simp [h]
    · by_cases h2 : z ∈ xs <;> simp [h, h2]
theorem flat_strs (xs : List Str) : (xs.map V.str).all flatV = true := by
  rw [List.all_map]
  exact List.all_eq_true.mpr fun _ _ => rfl
/-- all but the pen stays -/
def Keep (p : Addr) (H H' : Hp) : Prop := ∀ b o, b ≠ p → H b = some o → H' b = some o
theorem Keep.trans {p : Addr} {H H1 H2 : Hp} (a : Keep p H H1) (b : Keep p H1 H2) : Keep p H H2 := fun c o n e => b c o n (a c o n e)
theorem Keep.of_same {p : Addr} {H H' : Hp} (s : Same H H') : Keep p H H' := fun b o _ e => s b o e
theorem Keep.upd {p : Addr} {H : Hp} {o : HO} : Keep p H (L2.upd H p o) := fun b u n e => by rw [upd_ne n]; exact e
end L2
set_option Elab.async false
set_option linter.all false
set_option maxRecDepth 100000
namespace L2
open PySem PySem.Spec PyProof.Rows
def penK (a : Addr) (i l : Int) : List (Key × V) := [(.inr "script", .ref a), (.inr "at", .int i), (.inr "left", .int l)]
/-- the script: it is known, and never written -/
def Scr (K : PySem.W.Frag) (H : Hp) (a : Addr) (xs : List V) : Prop := (∃ ob, H a = some (.frz ob (.lst xs))) ∨ ∃ o its n, List.lookup a K = some o ∧ o.cls = Value.type "list" ∧ o.dict = none ∧ o.data = Data.seq its n ∧ its.size ≤ sizeLine ∧ Vals xs its.toList
theorem Scr.sq {K : PySem.W.Frag} {H : Hp} {a : Addr} {xs : List V} (h : Scr K H a xs) : SqL K H a xs := by
  rcases h with ⟨ob, h⟩ | h
  · exact .inl (.inr ⟨ob, h⟩)
  · exact .inr h
theorem Scr.other {K : PySem.W.Frag} {H : Hp} {a D : Addr} {xs : List V} {o0 o : HO} (h : Scr K H a xs) (hd : H D = some o0) (h1 : ∀ ob u, o0 ≠ .frz ob u) : Scr K (upd H D o) a xs := by
  rcases h with ⟨ob, h⟩ | h
  · exact .inl ⟨ob, by rw [upd_ne (ne_of h hd fun z => h1 _ _ z.symm)]; exact h⟩
  · exact .inr h
theorem Scr.same {K : PySem.W.Frag} {H H' : Hp} {a : Addr} {xs : List V} (h : Scr K H a xs) (s : Same H H') : Scr K H' a xs := by
  rcases h with ⟨ob, h⟩ | h
  · exact .inl ⟨ob, s _ _ h⟩
  · exact .inr h
theorem seq_upd {K : PySem.W.Frag} {H : Hp} {p a : Addr} {kvs : List (Key × V)} {o : HO} {xs : List V} (hp : H p = some (.dK kvs)) (h : Scr K H a xs) : Scr K (upd H p o) a xs := h.other hp (by intro _ _ z; cases z)
/-- a pen stands at p, over the script at a -/
structure PenAt (K : PySem.W.Frag) (H : Hp) (p a : Addr) (ns : List Int) (i l : Int) : Prop where
  dc : H p = some (.dK (penK a i l))
  sq : Scr K H a (ns.map V.int)
  ge : 0 ≤ i
theorem at_ns {ns : List Int} {i : Int} (h0 : 0 ≤ i) (h1 : i < ns.length) : ∃ c, atI (ns.map V.int) i = some (V.int c) := by
  obtain ⟨n, rfl⟩ : ∃ n : Nat, i = (n : Int) := ⟨i.toNat, by omega⟩
  have hn : n < ns.length := by omega
  exact ⟨ns[n], atI_nat (by rw [List.getElem?_map, List.getElem?_eq_getElem hn]; rfl)⟩
theorem PenAt.same {K : PySem.W.Frag} {H H' : Hp} {p a : Addr} {ns : List Int} {i l : Int} (h : PenAt K H p a ns i l) (s : Same H H') : PenAt K H' p a ns i l := ⟨s _ _ h.dc, h.sq.same s, h.ge⟩
theorem at_mem {α : Type} {l : List α} {i : Int} {c : α} (h : atI l i = some c) : c ∈ l := by
  obtain ⟨j, _, h2, _⟩ := atI_get h
  exact List.mem_of_getElem? h2
theorem PenAt.keep {K : PySem.W.Frag} {H : Hp} {p a : Addr} {ns : List Int} {i l i' l' : Int} (h : PenAt K H p a ns i l) (h' : 0 ≤ i') : PenAt K (upd H p (.dK (penK a i' l'))) p a ns i' l' := ⟨upd_same, seq_upd h.dc h.sq, h'⟩
/-- a write to what is neither a pen nor known -/
theorem PenAt.other {K : PySem.W.Frag} {H : Hp} {p a D : Addr} {ns : List Int} {i l : Int} {o0 o : HO} (h : PenAt K H p a ns i l) (hd : H D = some o0) (h1 : ∀ ob u, o0 ≠ .frz ob u) (h2 : ∀ kvs, o0 ≠ .dK kvs) : PenAt K (upd H D o) p a ns i l :=
  ⟨by rw [upd_ne (ne_of h.dc hd fun z => h2 _ z.symm)]; exact h.dc, h.sq.other hd h1, h.ge⟩
theorem PenAt.fresh {K : PySem.W.Frag} {H : Hp} {p a : Addr} {ns : List Int} {i l : Int} {q : Addr} (h : PenAt K H p a ns i l) (e : H q = none) : q ≠ p := by
  intro z; subst z; rw [h.dc] at e; cases e
end L2
set_option Elab.async false
set_option linter.all false
set_option maxRecDepth 100000
namespace L2
open PySem PySem.Spec PyProof.Rows
abbrev letters : Str := "abcdefghijklmnopqrstuvwxyz"
theorem letters_low : ∀ c ∈ letters.cps.toList, lowc c = true := by decide +kernel
def Low (z : Str) : Prop := ∀ c ∈ z.cps.toList, lowc c = true
theorem low_app {x : Str} {c : Nat} (h : Low x) (hc : lowc c = true) : Low (x ++ ⟨#[c]⟩) := by
  intro k hk
  have e : (x ++ (⟨#[c]⟩ : Str)).cps.toList = x.cps.toList ++ [c] := by
    rw [Str.cps_append]
    simp
  rw [e] at hk
  rcases List.mem_append.mp hk with h' | h'
  · exact h k h'
  · rw [List.mem_singleton.mp h']; exact hc
theorem nameB_of {z : Str} (h1 : 1 ≤ z.length) (h2 : z.length ≤ 6) (h : Low z) : nameB z = true := by
  unfold nameB
  rw [decide_eq_true h1, decide_eq_true h2, List.all_eq_true.mpr h]
  rfl
theorem low_of {z : Str} (h : nameB z = true) : 1 ≤ z.length ∧ z.length ≤ 6 ∧ Low z := by
  unfold nameB at h
  rw [Bool.and_eq_true, Bool.and_eq_true, decide_eq_true_eq, decide_eq_true_eq, List.all_eq_true] at h
  exact ⟨h.1.1, h.1.2, h.2⟩
theorem len_le_of_sub {α : Type} [BEq α] [LawfulBEq α] : ∀ {l xs : List α}, l.Nodup → (∀ x ∈ l, x ∈ xs) → l.length ≤ xs.length
  | [], _, _, _ => Nat.zero_le _
  | a :: l, xs, hn, hs => by
    have ha := hs a List.mem_cons_self
    have hn' := List.nodup_cons.mp hn
    have := len_le_of_sub (l := l) (xs := xs.erase a) hn'.2 fun x hx => (List.mem_erase_of_ne (show x ≠ a from fun e => hn'.1 (by rw [← e]; exact hx))).mpr (hs x (List.mem_cons_of_mem _ hx))
    rw [List.length_erase_of_mem ha] at this
    have : 0 < xs.length := List.length_pos_of_mem ha
    rw [List.length_cons]
    omega
theorem dats_strs (H : Hp) : ∀ xs : List Str, Dats H (xs.map V.str) (xs.map .str)
  | [] => .nil
  | x :: xs => .cons (.str x) (dats_strs H xs)
theorem lay_strs : ∀ {xs : List Str}, (∀ x ∈ xs, nameB x = true) → PyData.canLayAll0 (xs.map .str) = true
  | [], _ => rfl
  | x :: xs, h => by
    show (PyData.strOk x && PyData.canLayAll0 (xs.map .str)) = true
    rw [lay_strs fun y hy => h y (List.mem_cons_of_mem _ hy), Bool.and_true]
    obtain ⟨_, _, lo⟩ := low_of (h x List.mem_cons_self)
    unfold PyData.strOk
    rw [Array.all_eq_true_iff_forall_mem]
    intro c hc
    have := lo c (by simpa using hc)
    unfold lowc at this
    rw [Bool.and_eq_true, decide_eq_true_eq, decide_eq_true_eq] at this
    rw [decide_eq_true_eq]
    omega
def forBody : Stmt → List Stmt
  | .For _ _ b _ _ => b
  | _ => []
end L2
set_option Elab.async false
set_option linter.all false
set_option maxRecDepth 100000
namespace L2
open PySem PySem.Spec PyProof.Rows
theorem CompOk.caught {X : Cx} {scope : Scope} {cl : List (Str × Addr)} (clos : closureFor scope X.env = pure cl) (hcell : ∀ y ∈ scope.names, y.2 ≠ .cell) (hkind : scope.kind = .function)
    (hnames : ∀ y ∈ scope.names, y.2 = .local → scope.names.lookup y.1 = some .local) (hcl : ∀ y ∈ cl, X.env.cells.lookup y.1 = some y.2)
    (hfr : ∀ y ∈ scope.names, y.2 = .free → ∃ c, cl.lookup y.1 = some c) : CompOk X scope cl := by
  refine ⟨clos, hcell, hkind, hnames, fun x c h => hcl _ (lookup_mem h), fun x h => ?_⟩
  have key : ∀ k, (relabel scope X.env).names.lookup x = some k → k = .cell ∨ k = .free → ∃ c, cl.lookup x = some c := by
    intro k e hk
    have m := lookup_mem e
    obtain ⟨⟨n, k'⟩, hm, e'⟩ := List.mem_map.mp m
    dsimp only at e'
    by_cases hf : k' = .free
    · subst hf
      have en : n = x := by
        by_cases hc : (NameKind.free == NameKind.free && X.env.scope.kind == .function && X.env.kindOf n == some .cell) = true
        · rw [if_pos hc] at e'
          injection e'
        · rw [if_neg hc] at e'
          injection e'
      subst en
      exact hfr _ hm rfl
    · have : (k' == NameKind.free) = false := by
        cases k' <;> first | rfl | exact absurd rfl hf
      rw [this] at e'
      simp at e'
      rcases hk with hk | hk
      · exact absurd (e'.2.trans hk) (hcell _ hm)
      · exact absurd (e'.2.trans hk) hf
  rcases h with h | h
  · exact key _ h (.inl rfl)
  · exact key _ h (.inr rfl)
/-- the slots that are carried: N'[i] is the outer N[js[i]] -/
theorem Carry.of {X : Cx} {cl : List (Str × Addr)} {scope : Scope} {N : List Str} {σ : St} (js : List (Option Nat)) (hl : js.length = N.length)
    (h : ∀ (i j : Nat) (x : Str), N[i]? = some x → js[i]? = some (some j) → X.N[j]? = some x ∧ (X.env.kindOf x = some .cell ∨ X.env.kindOf x = some .free) ∧ ((relabel scope X.env).names.lookup x = some .cell ∨ (relabel scope X.env).names.lookup x = some .free)) :
    Carry X cl scope N σ (js.map fun j => j.bind fun j => (σ[j]?).join) := by
  refine ⟨by rw [List.length_map, hl], fun i x v h1 h2 => ?_⟩
  rw [List.getElem?_map] at h2
  cases e : js[i]? with
  | none => rw [e] at h2; cases h2
  | some o =>
    rw [e] at h2
    cases o with
    | none => cases h2
    | some j =>
      obtain ⟨a, b, c⟩ := h i j x h1 e
      refine ⟨⟨j, a, ?_⟩, b, c⟩
      have h3 : (σ[j]?).join = some v := Option.some.inj h2
      cases e2 : σ[j]? with
      | none => rw [e2] at h3; cases h3
      | some o =>
        rw [e2] at h3
        have : o = some v := h3
        rw [this]
end L2
set_option Elab.async false
set_option linter.all false
set_option maxRecDepth 100000
namespace L2
open PySem PySem.Spec PyProof.Rows
abbrev Way := Str × Str × Int
def wayD (u : Way) : PyData := .tuple [.str u.1, .str u.2.1, .int u.2.2]
/-- the two places of both are the same ones -/
def Alike (u v : Way) : Prop := (u.1 = v.1 ∧ u.2.1 = v.2.1) ∨ (u.1 = v.2.1 ∧ u.2.1 = v.1)
/-- ways between the first k of the names: to each one from one ahead of it -/
structure Tree (xs : List Str) (k : Nat) (ws : List Way) : Prop where
  of : ∀ u ∈ ws, ∃ i j : Nat, i < j ∧ j < k ∧ xs[i]? = some u.1 ∧ xs[j]? = some u.2.1 ∧ 1 ≤ u.2.2
  sep : ws.Pairwise fun u v => ¬ Alike u v
  to : ∀ j, 0 < j → j < k → ∃ u ∈ ws, ∃ i : Nat, i < j ∧ xs[i]? = some u.1 ∧ xs[j]? = some u.2.1
  len : 2 * ws.length ≤ k * (k - 1)
/-- all that is needed of the ways of a map -/
structure Ways (xs : List Str) (ws : List Way) : Prop where
  of : ∀ u ∈ ws, u.1 ∈ xs ∧ u.2.1 ∈ xs ∧ u.1 ≠ u.2.1 ∧ 1 ≤ u.2.2
  sep : ws.Pairwise fun u v => ¬ Alike u v
  to : ∀ j, 0 < j → j < xs.length → ∃ u ∈ ws, ∃ i : Nat, i < j ∧ xs[i]? = some u.1 ∧ xs[j]? = some u.2.1
  len : 2 * ws.length ≤ xs.length * (xs.length - 1) + 10
theorem nd_get {xs : List Str} (h : xs.Nodup) {i j : Nat} {x : Str} (a : xs[i]? = some x) (b : xs[j]? = some x) : i = j := nodup_ix h a b
theorem Tree.nil (xs : List Str) : Tree xs 1 [] := ⟨(fun _ h => nomatch h), List.Pairwise.nil, (fun j h1 h2 => by omega), (by decide)⟩
theorem Tree.ways {xs : List Str} {ws : List Way} (hn : xs.Nodup) (h : Tree xs xs.length ws) : Ways xs ws := by
  refine ⟨fun u hm => ?_, h.sep, h.to, by have := h.len; omega⟩
  obtain ⟨i, j, a, b, c, d, e⟩ := h.of u hm
  refine ⟨List.mem_of_getElem? c, List.mem_of_getElem? d, fun z => ?_, e⟩
  rw [z] at c
  have := nd_get hn c d
  omega
/-- the same without the bound on how many -/
def WaysC (xs : List Str) (ws : List Way) : Prop := (∀ u ∈ ws, u.1 ∈ xs ∧ u.2.1 ∈ xs ∧ u.1 ≠ u.2.1 ∧ 1 ≤ u.2.2) ∧ (ws.Pairwise fun u v => ¬ Alike u v) ∧
  ∀ j, 0 < j → j < xs.length → ∃ u ∈ ws, ∃ i : Nat, i < j ∧ xs[i]? = some u.1 ∧ xs[j]? = some u.2.1
theorem Ways.c {xs : List Str} {ws : List Way} (h : Ways xs ws) : WaysC xs ws := ⟨h.of, h.sep, h.to⟩
theorem WaysC.snoc {xs : List Str} {ws : List Way} {x y : Str} {n : Int} (h : WaysC xs ws) (hx : x ∈ xs) (hy : y ∈ xs) (ne : x ≠ y) (hn : 1 ≤ n) (no : ∀ u ∈ ws, ¬ ((x = u.1 ∨ x = u.2.1) ∧ (y = u.1 ∨ y = u.2.1))) : WaysC xs (ws ++ [(x, y, n)]) := by
  refine ⟨fun u hu => ?_, ?_, fun j h1 h2 => ?_⟩
  · rcases List.mem_append.mp hu with hu | hu
    · exact h.1 u hu
    · rw [List.mem_singleton.mp hu]; exact ⟨hx, hy, ne, hn⟩
  · rw [List.pairwise_append]
    refine ⟨h.2.1, List.pairwise_singleton _ _, fun u hu v hv al => ?_⟩
    rw [List.mem_singleton.mp hv] at al
    refine no u hu ?_
    rcases al with ⟨e1, e2⟩ | ⟨e1, e2⟩
    · exact ⟨.inl e1.symm, .inr e2.symm⟩
    · exact ⟨.inr e2.symm, .inl e1.symm⟩
  · obtain ⟨u, hu, r⟩ := h.2.2 j h1 h2
    exact ⟨u, List.mem_append_left _ hu, r⟩
theorem dats_way {H : Hp} : ∀ {vs : List V} {ws : List Way} {i : Nat} {x : V}, Dats H vs (ws.map wayD) → vs[i]? = some x → ∃ u t, ws[i]? = some u ∧ x = .ref t ∧ H t = some (.tup [.str u.1, .str u.2.1, .int u.2.2])
  | _, [], i, x, .nil, e => by cases e
  | _, u :: ws, 0, x, .cons (v := v) h _, e => by
    have e' : v = x := by simpa using e
    subst e'
    cases h with
    | tup ha hd =>
      refine ⟨u, _, rfl, rfl, ?_⟩
      cases hd with
      | cons h1 r1 =>
        cases r1 with
        | cons h2 r2 =>
          cases r2 with
          | cons h3 r3 =>
            cases r3
            cases h1
            cases h2
            cases h3
            exact ha
  | _, u :: ws, i + 1, x, .cons _ r, e => by
    obtain ⟨u', t, a, b⟩ := dats_way (i := i) (x := x) r (by simpa using e)
    exact ⟨u', t, by simpa using a, b⟩
theorem dats_app {H : Hp} : ∀ {vs us : List V} {ds es : List PyData}, Dats H vs ds → Dats H us es → Dats H (vs ++ us) (ds ++ es)
  | _, _, _, _, .nil, h => h
  | _, _, _, _, .cons a r, h => .cons a (dats_app r h)
theorem at_str {xs : List Str} {i : Int} (h0 : 0 ≤ i) (h1 : i < xs.length) : ∃ x, atI (xs.map V.str) i = some (.str x) ∧ xs[i.toNat]? = some x := by
  obtain ⟨n, rfl⟩ : ∃ n : Nat, i = (n : Int) := ⟨i.toNat, by omega⟩
  have hn : n < xs.length := by omega
  exact ⟨xs[n], atI_nat (by rw [List.getElem?_map, List.getElem?_eq_getElem hn]; rfl), List.getElem?_eq_getElem hn⟩
theorem pg_tupK (K : PySem.W.Frag) {X : Cx} (h : X.K = K) {es : List Expr} {k : Nat} {t : TGs} {n : Nat} {pos : Pos} (hc : X.calm = true) (ht : PGs X es t)
    (hn : (assignEach es X.env).length = n := by rfl) (hst : (assignEach es X.env).findIdx? (·.1) = none := by rfl) : PG X (.Tuple es k pos) (gTup K n t) := by subst h; exact pg_tup hc ht hn hst
end L2
set_option Elab.async false
set_option linter.all false
set_option maxRecDepth 100000
namespace L2
open PySem PySem.W PyProof.Rows
/-- an order of the first n numbers -/
def Ord (n : Nat) (p : Array Nat) : Prop := p.Perm (List.toArray (List.range n))
theorem Ord.lt {n : Nat} {p : Array Nat} (h : Ord n p) (hn : 0 < n) (i : Nat) : p.getD i 0 < n := by
  rw [Array.getD_eq_getD_getElem?]
  cases e : p[i]? with
  | none => exact hn
  | some x =>
    have m : x ∈ p := Array.mem_of_getElem? e
    have m2 : x ∈ (List.toArray (List.range n)) := (Array.Perm.mem_iff h).mp m
    have m3 : x ∈ List.range n := by simpa using m2
    exact List.mem_range.mp m3
section
variable {n : Nat} (hn : 0 < n)
include hn
end
end L2
set_option Elab.async false
set_option linter.all false
set_option maxRecDepth 100000
set_option maxHeartbeats 4000000
namespace L2
open PySem PySem.Spec PyProof.Rows PySem.W
theorem ObjOk.there {P : Program} {w : World} {H : Hp} {h : Heap} {a : Addr} {o : HO} (x : ObjOk P w H h a o) : ∃ ob, h.get? a = some ob := by
  cases o with
  | lst xs => obtain ⟨_, _, _, _, e⟩ := x; exact ⟨_, e⟩
  | tup xs => obtain ⟨_, _, _, ob, e, _⟩ := x; exact ⟨ob, e⟩
  | dK kvs => obtain ⟨_, _, _, _, o, _, _, e, _⟩ := x; exact ⟨o, e⟩
  | dT kvs => obtain ⟨_, _, _, _, o, _, _, e, _⟩ := x; exact ⟨o, e⟩
  | set S n => obtain ⟨o, _, _, _, e, _⟩ := x; exact ⟨o, e⟩
  | ins C dx fs => obtain ⟨_, _, _, e, _⟩ := x; exact ⟨_, e⟩
  | own y => exact x
  | xd fs => obtain ⟨_, ⟨_, _, _, e, _⟩, _⟩ := x; exact ⟨_, e⟩
  | rng lo hi => obtain ⟨_, _, _, e⟩ := x; exact ⟨_, e⟩
  | frz ob u => obtain ⟨e, _⟩ := x; exact ⟨_, e⟩
  | tbl ps => exact ⟨_, (show h.get? a = some _ from x)⟩
  | met f y => exact ⟨_, (show h.get? a = some _ from x)⟩
  | ext φ => obtain ⟨_, ⟨_, e⟩, _⟩ := x; exact ⟨_, e⟩
end L2
set_option Elab.async false
set_option linter.all false
set_option maxRecDepth 100000
set_option maxHeartbeats 4000000
namespace L2
open PySem PySem.Spec PyProof.Rows
section
variable {prog : Program} {w : World} {A : Around} {E : Value → Shared → Prop} {s : Shared}
end
end L2
set_option Elab.async false
set_option linter.all false
set_option maxRecDepth 100000
namespace L2
open PySem PySem.Spec PyProof.Rows
theorem strs_of {ss : List Str} : ∀ {us : List Value}, Vals (ss.map V.str) us → StrsAre us ss := by
  induction ss with
  | nil => intro us r; cases r; exact .nil
  | cons x ss ih =>
    intro us r
    cases r with
    | cons r1 r2 =>
      obtain ⟨t, rfl⟩ := r1
      exact .cons x t (ih r2)
theorem of_strs : ∀ {us : List Value} {ss : List Str}, StrsAre us ss → Vals (ss.map V.str) us
  | _, _, .nil => .nil
  | _, _, .cons x t r => .cons ⟨t, rfl⟩ (of_strs r)
/-- sorted(a list of texts), below 64 -/
theorem call_sorted_strs {X : Cx} : CallR X (.builtin "sorted") (fun xs H Q => ∃ (a : Addr) (ss : List Str), xs = [.ref a] ∧ SqL X.K H a (ss.map V.str) ∧ ss.length < 64 ∧
    ∀ (l : Addr) (ss' : List Str), H l = none → ss'.Perm ss → sortedS ss' = true → Q (.ref l) (upd H l (.lst (ss'.map V.str)))) := by
  intro pins s σ H xs us Q I r h
  obtain ⟨a, ss, rfl, ha, h64, q⟩ := h
  obtain ⟨u, rfl, ru⟩ := vals1 r
  cases ru
  obtain ⟨its, rv, pl, hz⟩ := I.list ha
  have hl : its.length = ss.length := by rw [← rv.length, List.length_map]
  refine sorted_strs pl.isList (strs_of rv) (by omega) fun out ss' h1 h2 h3 => ?_
  obtain ⟨e, he⟩ := sortedAll_at s.heap its out
  refine ⟨.ref (s.heap.objs.size + 1), _, I.laid (o := .lst (ss'.map V.str)) (t' := s.toks) (fun b o z => sortedAll_old z) (Nat.le_succ _) ⟨?_, out.toList, e, of_strs h1, by simpa using he⟩, rfl, q _ ss' (I.hok.fresh (Nat.le_succ _)) h2 h3⟩
  rw [List.length_map, h2.length_eq]
  have : 100 < sizeLine := by decide
  omega
end L2
set_option Elab.async false
set_option linter.all false
set_option maxRecDepth 100000
set_option maxHeartbeats 4000000
namespace L2
open PySem PySem.Spec PySem.W PyProof.Rows
theorem pairs_two {vs : List Value} {p : Keyed} (h : p ∈ (pairsOf vs).toList) : p = (p.2, p.2) ∧ p.2 ∈ vs := by
  rw [pairsOf_toList] at h
  obtain ⟨e, m⟩ := mem_zip_self h
  refine ⟨?_, e ▸ m⟩
  obtain ⟨x, y⟩ := p
  exact Prod.ext e rfl
theorem pairs_snd (vs : List Value) : (pairsOf vs).toList.map (·.2) = vs := by
  rw [pairsOf_toList]
  induction vs with
  | nil => rfl
  | cons v vs ih => rw [List.zip_cons_cons, List.map_cons, ih]
theorem out_perm {vs : List Value} {xs : Array Keyed} (h : xs.Perm (pairsOf vs)) : (xs.toList.map (·.2)).Perm vs := by
  have q := (Array.perm_iff_toList_perm.mp h).map (·.2)
  rw [pairs_snd] at q
  exact q
theorem out_rise {lt : Keyed → Keyed → Bool} {vs : List Value} {xs : Array Keyed} (h : xs.Perm (pairsOf vs)) (hs : xs.toList.Pairwise (Nl lt)) : (xs.toList.map (·.2)).Pairwise (fun u v => lt (v, v) (u, u) = false) := by
  rw [List.pairwise_map]
  refine hs.imp_of_mem fun {p q} hp hq n => ?_
  have e1 := (pairs_two ((Array.perm_iff_toList_perm.mp h).mem_iff.mp hp)).1
  have e2 := (pairs_two ((Array.perm_iff_toList_perm.mp h).mem_iff.mp hq)).1
  rw [← e1, ← e2]
  exact n
section
variable {prog : Program} {w : World} {A : Around} {E : Value → Shared → Prop} {s : Shared} {lt : Keyed → Keyed → Bool}
/-- how these things are compared, whatever more lies in the heap -/
def Cmpd (prog : Program) (w : World) (s : Shared) (lt : Keyed → Keyed → Bool) (vs : List Value) : Prop :=
  2 ≤ vs.length → ∀ (A : Around) (h' : Heap), (∀ b o, s.heap.get? b = some o → h'.get? b = some o) →
    ∃ κ, (∀ (Q : SortKind → Shared → Prop) (E : Value → Shared → Prop), Q κ { s with heap := h' } → wpAny (model prog w) A (keyKind' vs.toArray) Q E { s with heap := h' }) ∧ Ans prog w A { s with heap := h' } κ lt (pairsOf vs)
theorem listSortG {a : Addr} {vs : List Value} {n : Nat} {P : Fin → Shared → Prop} (sw : Swo lt) (lies : s.heap.get? a = some (seqObj "list" vs.toArray n)) (few : vs.length ≤ sizeLine)
    (cm : 2 ≤ vs.length → ∀ h', (∀ b o, b ≠ a → s.heap.get? b = some o → h'.get? b = some o) →
      ∃ κ, (∀ (Q : SortKind → Shared → Prop) (E : Value → Shared → Prop), Q κ { s with heap := h' } → wpAny (model prog w) A (keyKind' vs.toArray) Q E { s with heap := h' }) ∧ Ans prog w A { s with heap := h' } κ lt (pairsOf vs))
    (k : ∀ out : List Value, out.Perm vs → out.Pairwise (fun u v => lt (v, v) (u, u) = false) → P (.done (.ret .none)) { s with heap := sortedHeap s.heap a vs out.toArray }) :
    wpAny (model prog w) A (Builtin.«list.sort» ⟨[.ref a], []⟩) P E s := by
  have alt := Heap.lt_size lies
  rw [list_sort_plain]
  refine wpAny_bind (listItems_at lies rfl (wpAny_bind (listUpdate_at lies rfl ?_ (by simpa using few) (Nat.zero_le _))))
  obtain ⟨c, lies1⟩ : ∃ c, (s.heap.update a (Obj.mapSeq fun _ => #[])).get? a = some (seqObj "list" #[] c) := ⟨_, get?_update_seq lies (fun _ => #[])⟩
  refine wpAny_bind (seqEpoch_at lies1 rfl (wpAny_bind (wpAny_newTuple (wpAny_bind (wpAny_newList (wpAny_holding ?_) (Nat.zero_le _))) (by simpa using few))))
  obtain ⟨h3, eh3⟩ : ∃ h3, h3 = ((s.heap.update a (Obj.mapSeq fun _ => (#[] : Array Value))).push (seqObj "tuple" vs.toArray 0)).push (seqObj "list" #[] 0) := ⟨_, rfl⟩
  have lies3 : h3.get? a = some (seqObj "list" #[] c) := by
    rw [eh3]
    exact Heap.get?_push_of_some _ (Heap.get?_push_of_some _ lies1)
  have keep3 : ∀ b o, b ≠ a → s.heap.get? b = some o → h3.get? b = some o := fun b o hb e => by
    rw [eh3]
    exact Heap.get?_push_of_some _ (Heap.get?_push_of_some _ ((Heap.get?_update_ne _ _ _ _ hb).trans e))
  show wpAny (model prog w) A _ P E { s with heap := ((s.heap.update a (Obj.mapSeq fun _ => (#[] : Array Value))).push (seqObj "tuple" vs.toArray 0)).push (seqObj "list" #[] 0) }
  rw [← eh3]
  have last : ∀ st' : SortSt, (arrOf st').Perm (pairsOf vs) → (arrOf st').toList.Pairwise (Nl lt) → P (.done (.ret .none)) { s with heap := h3.update a (Obj.mapSeq fun _ => (arrOf st').map (·.2)) } := fun st' hp hs => by
    have e : (arrOf st').map (·.2) = ((arrOf st').toList.map (·.2)).toArray := by apply Array.toList_inj.mp; simp
    have q := k _ (out_perm hp) (out_rise hp hs)
    rw [← e] at q
    rw [eh3]
    exact q
  have zl : ∀ st' : SortSt, (arrOf st').Perm (pairsOf vs) → ((arrOf st').map (·.2)).size ≤ sizeLine + 1 := fun st' hp => by
    rw [Array.size_map, hp.size_eq, pairsOf_size]
    omega
  have zv : vs.toArray.size = vs.length := rfl
  dsimp only
  rcases Nat.lt_or_ge vs.toArray.size 2 with lo | hi
  · rw [if_pos lo, if_pos lo]
    refine wpAny_bind (wpAny_pure ?_)
    rw [StateT.run_pure]
    refine wpAny_bind (wpAny_pure (wpAny_bind (seqEpoch_at lies3 rfl ?_)))
    have p0 : (arrOf (SortSt.mk' general' (vs.toArray.zip vs.toArray) #[] 7 none)).Perm (pairsOf vs) := Array.Perm.refl _
    refine wpAny_bind (listUpdate_at lies3 rfl ?_ (Nat.zero_le _) (zl _ p0))
    rw [bne_self_eq_false]
    refine wpAny_pure (last _ p0 (at_pw fun i j hij hj => ?_))
    have := p0.size_eq
    rw [pairsOf_size] at this
    have hj' : j < (arrOf (SortSt.mk' general' (vs.toArray.zip vs.toArray) #[] 7 none)).size := hj
    omega
  · rw [if_neg (by omega), if_neg (by omega)]
    obtain ⟨κ, k1, k2⟩ := cm (by omega) h3 keep3
    refine wpAny_bind (k1 _ _ ?_)
    refine wpAny_bind (wpAny_mono (wpS_sortRunsG (a0 := pairsOf vs) (st := SortSt.mk' κ (vs.toArray.zip vs.toArray) #[] 7 none)
      (Q := fun _ st' => (arrOf st').Perm (pairsOf vs) ∧ failedOf st' = none ∧ (arrOf st').toList.Pairwise (Nl lt)) sw k2 rfl rfl rfl rfl (by rw [pairsOf_size]; omega) fun st' a1 a2 a3 => ⟨a1, a2, a3⟩) ?_ fun _ _ e => e)
    rintro ⟨u, st'⟩ s' ⟨rfl, hp, hf, hs⟩
    refine wpAny_bind (seqEpoch_at lies3 rfl (wpAny_bind (listUpdate_at lies3 rfl ?_ (Nat.zero_le _) (zl _ hp))))
    dsimp only
    rw [hf, bne_self_eq_false]
    exact wpAny_pure (last st' hp hs)
theorem sortedG {l : Addr} {vs : List Value} {Q : Value → Shared → Prop} (sw : Swo lt) (hl : s.heap.IsList l vs.toArray) (few : vs.length ≤ sizeLine) (cm : Cmpd prog w s lt vs)
    (k : ∀ out : List Value, out.Perm vs → out.Pairwise (fun u v => lt (v, v) (u, u) = false) → Q (.ref (s.heap.objs.size + 1)) { s with heap := sortedAll s.heap vs out.toArray }) :
    wpAny (model prog w) A (call (.builtin "sorted") [.ref l]) Q E s := by
  refine Calls.call_function_entry kind_sorted plain_sorted entry_sorted (args_sorted1 _) ?_
  unfold Builtin.«sorted»
  refine wpAny_bind (m := checkCount "sorted" 1 1 _) (wpAny_pure (wpAny_bind (collect_list hl ?_ few)))
  refine wpAny_bind (wpAny_newList ?_ (by simpa using few))
  obtain ⟨h1, eh1⟩ : ∃ h1, h1 = (s.heap.push (seqObj "list" #[] 0)).update s.heap.objs.size (Obj.mapSeq (· ++ vs.toArray)) := ⟨_, rfl⟩
  have z1 : h1.objs.size = s.heap.objs.size + 1 := by rw [eh1, Heap.size_update, size_push']
  have lies : (h1.push (seqObj "list" vs.toArray 0)).get? (s.heap.objs.size + 1) = some (seqObj "list" vs.toArray 0) := by
    rw [← z1]
    exact Heap.get?_push_size _ rfl
  have keep : ∀ b o, s.heap.get? b = some o → (h1.push (seqObj "list" vs.toArray 0)).get? b = some o := fun b o q => by
    have hb := Heap.lt_size q
    refine Heap.get?_push_of_some _ ?_
    rw [eh1, Heap.get?_update_ne _ _ _ _ (Nat.ne_of_lt hb)]
    exact Heap.get?_push_of_some _ q
  show wpAny _ _ _ _ _ { s with heap := ((s.heap.push (seqObj "list" #[] 0)).update s.heap.objs.size (Obj.mapSeq (· ++ vs.toArray))).push (seqObj "list" vs.toArray 0) }
  rw [← eh1, z1]
  refine wpAny_bind (wpAny_holding (wpAny_call_entry slot_list_sort ⟨_, lies, rfl⟩ entry_list_sort (listSortG (s := { s with heap := h1.push (seqObj "list" vs.toArray 0) }) sw lies few ?_ fun out o1 o2 => ⟨_, rfl, wpAny_pure ⟨_, rfl, ?_⟩⟩) (args_list_sort _)))
  · intro h2 h' kp
    exact cm h2 _ h' fun b o e => kp b o (Nat.ne_of_lt (Nat.lt_succ_of_lt (Heap.lt_size e))) (keep b o e)
  · have q := k out o1 o2
    unfold sortedAll at q
    rw [← eh1] at q
    exact q
end
end L2
set_option Elab.async false
set_option linter.all false
set_option maxRecDepth 100000
set_option maxHeartbeats 4000000
namespace L2
open PySem PySem.Spec PySem.W PyProof.Rows
inductive Atm where
  | i (n : Int)
  | s (x : Str)
  deriving DecidableEq
def atmLt : Atm → Atm → Bool
  | .i a, .i b => decide (a < b)
  | .s a, .s b => decide (a.cps.toList < b.cps.toList)
  | .i _, .s _ => true
  | .s _, .i _ => false
def lexLt : List Atm → List Atm → Bool
  | [], [] => false
  | [], _ :: _ => true
  | _ :: _, [] => false
  | x :: xs, y :: ys => if x = y then lexLt xs ys else atmLt x y
theorem atm_irr (a : Atm) : atmLt a a = false := by
  cases a with
  | i n => simp [atmLt]
  | s x => exact strKind.irrefl x.cps.toList
theorem atm_tra : ∀ {a b c : Atm}, atmLt a b = true → atmLt b c = true → atmLt a c = true
  | .i a, .i b, .i c, h1, h2 => by
    simp only [atmLt, decide_eq_true_eq] at h1 h2 ⊢
    omega
  | .i _, .i _, .s _, _, _ => rfl
  | .i _, .s _, .s _, _, _ => rfl
  | .i _, .s _, .i _, _, h => by cases h
  | .s _, .i _, _, h, _ => by cases h
  | .s _, .s _, .i _, _, h => by cases h
  | .s x, .s y, .s z, h1, h2 => strKind.trans x.cps.toList y.cps.toList z.cps.toList h1 h2
theorem atm_tot {a b : Atm} (h : a ≠ b) : atmLt a b = true ∨ atmLt b a = true := by
  cases a <;> cases b <;> simp [atmLt]
  · have : ∀ x y : Int, Atm.i x ≠ Atm.i y → x < y ∨ y < x := fun x y h => by
      have : x ≠ y := fun e => h (by rw [e])
      omega
    exact this _ _ h
  · rename_i x y
    by_cases h1 : x.cps.toList < y.cps.toList
    · exact .inl h1
    · by_cases h2 : y.cps.toList < x.cps.toList
      · exact .inr h2
      · exfalso
        apply h
        have e := strKind.total x.cps.toList y.cps.toList (decide_eq_false h1) (decide_eq_false h2)
        cases x
        cases y
        rw [Array.toList_inj] at e
        subst e
        rfl
theorem lex_irr : ∀ a, lexLt a a = false
  | [] => rfl
  | x :: xs => by unfold lexLt; rw [if_pos rfl]; exact lex_irr xs
theorem atm_ne {a b : Atm} (h : atmLt a b = true) : a ≠ b := fun e => by
  rw [e, atm_irr] at h
  cases h
theorem lex_tra : ∀ a b c, lexLt a b = true → lexLt b c = true → lexLt a c = true
  | [], [], _, h, _ => by cases h
  | [], _ :: _, [], _, h => by cases h
  | [], _ :: _, _ :: _, _, _ => rfl
  | _ :: _, [], _, h, _ => by cases h
  | _ :: _, _ :: _, [], _, h => by cases h
  | x :: xs, y :: ys, z :: zs, h1, h2 => by
    unfold lexLt at h1 h2 ⊢
    by_cases e1 : x = y
    · rw [if_pos e1] at h1
      by_cases e2 : y = z
      · rw [if_pos e2] at h2
        rw [if_pos (e1.trans e2)]
        exact lex_tra xs ys zs h1 h2
      · rw [if_neg e2] at h2
        rw [if_neg (by rw [e1]; exact e2), e1]
        exact h2
    · rw [if_neg e1] at h1
      by_cases e2 : y = z
      · rw [if_neg (by rw [← e2]; exact e1), ← e2]
        exact h1
      · rw [if_neg e2] at h2
        have h3 := atm_tra h1 h2
        rw [if_neg (atm_ne h3)]
        exact h3
theorem lex_tot : ∀ a b, lexLt a b = false → lexLt b a = false → a = b
  | [], [], _, _ => rfl
  | [], _ :: _, h, _ => by cases h
  | _ :: _, [], _, h => by cases h
  | x :: xs, y :: ys, h1, h2 => by
    unfold lexLt at h1 h2
    by_cases e : x = y
    · rw [if_pos e] at h1
      rw [if_pos e.symm] at h2
      rw [e, lex_tot xs ys h1 h2]
    · rw [if_neg e] at h1
      rw [if_neg (fun z => e z.symm)] at h2
      rcases atm_tot e with q | q
      · rw [h1] at q; cases q
      · rw [h2] at q; cases q
theorem lex_neg (a b c : List Atm) (h : lexLt a c = true) : lexLt a b = true ∨ lexLt b c = true := by
  cases e1 : lexLt a b
  · right
    cases e2 : lexLt b a
    · rw [← lex_tot a b e1 e2]; exact h
    · exact lex_tra _ _ _ e2 h
  · exact .inl rfl
theorem lex_swo (f : Value → List Atm) : Swo (fun x y => lexLt (f x.1) (f y.1)) :=
  ⟨fun a => lex_irr _, fun a b c => lex_tra _ _ _, fun a b c => lex_neg _ _ _⟩
/-- two rows of the same things that both rise are one -/
theorem rise_uniq {α : Type} (f : α → List Atm) (inj : ∀ a b, f a = f b → a = b) : ∀ {xs ys : List α}, xs.Perm ys → xs.Pairwise (fun a b => lexLt (f b) (f a) = false) → ys.Pairwise (fun a b => lexLt (f b) (f a) = false) → xs = ys
  | [], ys, p, _, _ => by rw [p.nil_eq]
  | x :: xs, [], p, _, _ => by have := p.length_eq; simp at this
  | x :: xs, y :: ys, p, h1, h2 => by
    have e : x = y := by
      rcases List.mem_cons.mp (p.mem_iff.mp List.mem_cons_self) with e | m1
      · exact e
      · rcases List.mem_cons.mp (p.mem_iff.mpr List.mem_cons_self) with e | m2
        · exact e.symm
        · exact inj _ _ (lex_tot _ _ ((List.pairwise_cons.mp h2).1 x m1) ((List.pairwise_cons.mp h1).1 y m2))
    subst e
    rw [rise_uniq f inj (List.Perm.cons_inv p) (List.pairwise_cons.mp h1).2 (List.pairwise_cons.mp h2).2]
def atmOf : Value → Atm
  | .int n _ => .i n
  | .str x _ => .s x
  | _ => .i 0
def vAtm : V → Atm
  | .int n => .i n
  | .str x => .s x
  | _ => .i 0
def keyIn (h : Heap) : Value → List Atm
  | .ref a => match h.get? a with
    | some o => (match o.data with
      | .seq xs _ => xs.toList.map atmOf
      | _ => [])
    | none => []
  | v => [atmOf v]
def keyV (H : Hp) : V → List Atm
  | .ref a => match H a with
    | some (.tup ys) => ys.map vAtm
    | _ => []
  | v => [vAtm v]
/-- a text, or a number -/
def KindV (k : Bool) (v : V) : Prop := if k = true then ∃ x, v = .str x else ∃ n, v = .int n
def KindU (k : Bool) (v : Value) : Prop := if k = true then ∃ x t, v = .str x t else ∃ n t, v = .int n t
theorem kind_uv {k : Bool} {v : V} {u : Value} (r : RelV v u) (h : KindV k v) : KindU k u ∧ atmOf u = vAtm v := by
  unfold KindV at h
  unfold KindU
  cases k with
  | true =>
    simp only [if_true] at h ⊢
    obtain ⟨x, rfl⟩ := h
    obtain ⟨t, rfl⟩ := r
    exact ⟨⟨x, t, rfl⟩, rfl⟩
  | false =>
    simp only [Bool.false_eq_true, if_false] at h ⊢
    obtain ⟨x, rfl⟩ := h
    obtain ⟨t, rfl⟩ := r
    exact ⟨⟨x, t, rfl⟩, rfl⟩
/-- a tuple whose things are of these kinds, place by place, one at least -/
def TupK (H : Hp) (kd : Nat → Bool) (v : V) : Prop := ∃ t ys, v = .ref t ∧ H t = some (.tup ys) ∧ ys ≠ [] ∧ ∀ i y, ys[i]? = some y → KindV (kd i) y
def TupU (h : Heap) (kd : Nat → Bool) (v : Value) : Prop := ∃ t o xs n, v = .ref t ∧ h.get? t = some o ∧ o.cls = .type "tuple" ∧ o.data = .seq xs n ∧ 0 < xs.size ∧ ∀ (i : Nat) x, xs.toList[i]? = some x → KindU (kd i) x
theorem tup_uv {X : Cx} {pins : List (Addr × Obj)} {σ : St} {H : Hp} {s : Shared} (I : Inv X pins σ H s) {kd : Nat → Bool} {v : V} {u : Value} (r : RelV v u) (h : TupK H kd v) : TupU s.heap kd u ∧ keyIn s.heap u = keyV H v := by
  obtain ⟨t, ys, rfl, ht, ne, hy⟩ := h
  cases r
  obtain ⟨_, its, rv, o, ho, hc, n, hd⟩ := (show ObjOk X.prog X.w H s.heap t (.tup _) from I.hok t _ ht)
  have e : keyV H (.ref t) = ys.map vAtm := by
    show (match H t with | some (.tup ys) => ys.map vAtm | _ => []) = _
    rw [ht]
  have e2 : keyIn s.heap (.ref t) = its.map atmOf := by
    show (match s.heap.get? t with | some o => (match o.data with | .seq xs _ => xs.toList.map atmOf | _ => []) | none => []) = _
    rw [ho]
    dsimp only
    rw [hd]
  have all : ∀ {ys : List V} {its : List Value} (k : Nat), Vals ys its → (∀ i y, ys[i]? = some y → KindV (kd (k + i)) y) → (∀ (i : Nat) x, its[i]? = some x → KindU (kd (k + i)) x) ∧ its.map atmOf = ys.map vAtm := by
    intro ys
    induction ys with
    | nil => intro its k rv _; cases rv; exact ⟨fun i x e => by simp at e, rfl⟩
    | cons y ys ih =>
      intro its k rv hy
      cases rv with
      | cons r1 r2 =>
        obtain ⟨a1, a2⟩ := kind_uv r1 (hy 0 y rfl)
        obtain ⟨b1, b2⟩ := ih (k + 1) r2 fun i z e => by
          have := hy (i + 1) z (by simpa using e)
          rw [show k + 1 + i = k + (i + 1) by omega]
          exact this
        refine ⟨fun i x e => ?_, by rw [List.map_cons, List.map_cons, a2, b2]⟩
        cases i with
        | zero =>
          rw [List.getElem?_cons_zero] at e
          cases e
          exact a1
        | succ i =>
          have := b1 i x (by simpa using e)
          rw [show k + 1 + i = k + (i + 1) by omega] at this
          exact this
  obtain ⟨a1, a2⟩ := all 0 rv fun i y e => by rw [Nat.zero_add]; exact hy i y e
  refine ⟨⟨t, o, its.toArray, n, rfl, ho, hc, hd, ?_, fun i x e => ?_⟩, by rw [e, e2, a2]⟩
  · have := rv.length
    have : 0 < ys.length := List.length_pos_iff.mpr ne
    simp
    omega
  · have := a1 i x (by simpa using e)
    rw [Nat.zero_add] at this
    exact this
section
variable {prog : Program} {w : World} {A : Around} {E : Value → Shared → Prop} {s : Shared} {Q : Bool → Shared → Prop}
theorem one_atm {k b : Bool} {u v : Value} (hu : KindU k u) (hv : KindU k v) (h : Q (atmLt (atmOf u) (atmOf v)) s) : wpAny (model prog w) A (oneLt' b u v) Q E s := by
  unfold KindU at hu hv
  cases k with
  | true =>
    simp only [if_true] at hu hv
    obtain ⟨x, t, rfl⟩ := hu
    obtain ⟨y, t', rfl⟩ := hv
    cases b with
    | true => exact oneLt_str h
    | false => exact kat_one _ _ (PySem.P.lt_str h)
  | false =>
    simp only [Bool.false_eq_true, if_false] at hu hv
    obtain ⟨x, t, rfl⟩ := hu
    obtain ⟨y, t', rfl⟩ := hv
    cases b with
    | true => exact oneLt_int h
    | false => exact kat_one _ _ (lt_int h)
theorem eq_atm {k : Bool} {u v : Value} (hu : KindU k u) (hv : KindU k v) : SeqAt.EqAt A s u v (decide (atmOf u = atmOf v)) := by
  unfold KindU at hu hv
  cases k with
  | true =>
    simp only [if_true] at hu hv
    obtain ⟨x, t, rfl⟩ := hu
    obtain ⟨y, t', rfl⟩ := hv
    have e : decide (atmOf (.str x t) = atmOf (.str y t')) = (x == y) := by
      show decide (Atm.s x = Atm.s y) = _
      rw [Bool.eq_iff_iff]
      simp
    rw [e]
    exact SeqAt.EqAt.str_str x t y t'
  | false =>
    simp only [Bool.false_eq_true, if_false] at hu hv
    obtain ⟨x, t, rfl⟩ := hu
    obtain ⟨y, t', rfl⟩ := hv
    have e : decide (atmOf (.int x t) = atmOf (.int y t')) = (x == y) := by
      show decide (Atm.i x = Atm.i y) = _
      rw [Bool.eq_iff_iff]
      simp
    rw [e]
    exact SeqAt.EqAt.int_int x t y t'
theorem kat_atoms {b : Bool} {kd : Nat → Bool} : ∀ (xs ys : List Value) (i : Nat), (∀ (j : Nat) x, xs[j]? = some x → KindU (kd (i + j)) x) → (∀ (j : Nat) x, ys[j]? = some x → KindU (kd (i + j)) x) →
    Q (lexLt (xs.map atmOf) (ys.map atmOf)) s → KatLex prog w A b (decide (xs.length < ys.length)) Q (xs.zip ys) i s
  | [], [], i, _, _, h => h
  | [], y :: ys, i, _, _, h => h
  | x :: xs, [], i, _, _, h => h
  | x :: xs, y :: ys, i, hx, hy, h => by
    have kx : KindU (kd i) x := hx 0 x rfl
    have ky : KindU (kd i) y := hy 0 y rfl
    rw [List.map_cons, List.map_cons] at h
    unfold lexLt at h
    refine kat_cons (eq_atm kx ky _ _ _ _ ?_)
    refine kat_go (fun e => kat_yes ?_) (fun e => kat_no (one_atm kx ky ?_))
    · have e' := of_decide_eq_true e
      rw [if_pos e'] at h
      have r := kat_atoms (b := b) (kd := kd) xs ys (i + 1) (fun j z e => by rw [show i + 1 + j = i + (j + 1) by omega]; exact hx (j + 1) z (by simpa using e)) (fun j z e => by rw [show i + 1 + j = i + (j + 1) by omega]; exact hy (j + 1) z (by simpa using e)) h
      have e2 : decide ((x :: xs).length < (y :: ys).length) = decide (xs.length < ys.length) := by simp
      rw [e2]
      exact r
    · have e' := of_decide_eq_false e
      rw [if_neg e'] at h
      exact h
theorem tup_lt {kd : Nat → Bool} {u v : Value} (hu : TupU s.heap kd u) (hv : TupU s.heap kd v) (h : Q (lexLt (keyIn s.heap u) (keyIn s.heap v)) s) : wpAny (model prog w) A (keyLt' (tuples' true) u v) Q E s := by
  obtain ⟨t, o, xs, n, rfl, ho, hc, hd, p, hx⟩ := hu
  obtain ⟨t', o', xs', n', rfl, ho', hc', hd', p', hx'⟩ := hv
  have e1 : keyIn s.heap (.ref t) = xs.toList.map atmOf := by
    show (match s.heap.get? t with | some o => (match o.data with | .seq xs _ => xs.toList.map atmOf | _ => []) | none => []) = _
    rw [ho]
    dsimp only
    rw [hd]
  have e2 : keyIn s.heap (.ref t') = xs'.toList.map atmOf := by
    show (match s.heap.get? t' with | some o => (match o.data with | .seq xs _ => xs.toList.map atmOf | _ => []) | none => []) = _
    rw [ho']
    dsimp only
    rw [hd']
  rw [e1, e2] at h
  refine kat_lt ho hd ho' hd' ?_
  have e3 : decide (xs.size < xs'.size) = decide (xs.toList.length < xs'.toList.length) := by simp
  rw [e3]
  exact kat_atoms (kd := kd) _ _ 0 (fun j x e => by rw [Nat.zero_add]; exact hx j x e) (fun j x e => by rw [Nat.zero_add]; exact hx' j x e) h
/-- such tuples are compared so -/
theorem tups_cmpd {kd : Nat → Bool} {vs : List Value} (h : ∀ v ∈ vs, TupU s.heap kd v) : Cmpd prog w s (fun x y => lexLt (keyIn s.heap x.1) (keyIn s.heap y.1)) vs := by
  intro h2 A h' kp
  have h1 : ∀ v ∈ vs, TupU h' kd v ∧ keyIn h' v = keyIn s.heap v := fun v hv => by
    obtain ⟨t, o, xs, n, rfl, ho, hc, hd, p, hx⟩ := h v hv
    refine ⟨⟨t, o, xs, n, rfl, kp t o ho, hc, hd, p, hx⟩, ?_⟩
    show (match h'.get? t with | some o => (match o.data with | .seq xs _ => xs.toList.map atmOf | _ => []) | none => []) = (match s.heap.get? t with | some o => (match o.data with | .seq xs _ => xs.toList.map atmOf | _ => []) | none => [])
    rw [ho, kp t o ho]
  refine ⟨tuples' true, ?_, ?_⟩
  · intro Q E hq
    have tups : ∀ l : List Value, (∀ v ∈ l, TupU h' kd v) → ∃ fs : List Value, KatTups h' l fs ∧ fs.length = l.length ∧ ∀ f ∈ fs, KindU (kd 0) f := by
      intro l
      induction l with
      | nil => intro _; exact ⟨[], KatTups.nil, rfl, fun f hf => nomatch hf⟩
      | cons v l ih =>
        intro hl
        obtain ⟨fs, k1, k2, k3⟩ := ih fun v hv => hl v (List.mem_cons_of_mem _ hv)
        obtain ⟨t, o, xs, n, rfl, ho, hc, hd, p, hx⟩ := hl v List.mem_cons_self
        have g : xs[0]? = some xs[0] := Array.getElem?_eq_getElem p
        refine ⟨xs[0] :: fs, KatTups.cons ho hc hd g k1, by rw [List.length_cons, List.length_cons, k2], fun f hf => ?_⟩
        rcases List.mem_cons.mp hf with rfl | hf
        · exact hx 0 _ (by rw [Array.getElem?_toList]; exact g)
        · exact k3 f hf
    obtain ⟨fs, k1, k2, k3⟩ := tups vs fun v hv => (h1 v hv).1
    cases ek : kd 0 with
    | true =>
      refine kat_kind (T := .type "str") k1 (by omega) (fun v hv => ?_) rfl hq
      have q := k3 v hv
      unfold KindU at q
      rw [ek] at q
      simp only [if_true] at q
      obtain ⟨x, t, rfl⟩ := q
      exact Looks.now
    | false =>
      refine kat_kind (T := .type "int") k1 (by omega) (fun v hv => ?_) rfl hq
      have q := k3 v hv
      unfold KindU at q
      rw [ek] at q
      simp only [Bool.false_eq_true, if_false] at q
      obtain ⟨x, t, rfl⟩ := q
      exact Looks.now
  · intro x y hx hy Q E hq
    obtain ⟨ex, mx⟩ := pairs_two (vs := vs) (p := x) (by simpa using hx)
    obtain ⟨ey, my⟩ := pairs_two (vs := vs) (p := y) (by simpa using hy)
    rw [ex, ey] at hq ⊢
    dsimp only at hq ⊢
    refine tup_lt (h1 _ mx).1 (h1 _ my).1 ?_
    show Q (lexLt (keyIn h' x.2) (keyIn h' y.2)) _
    rw [(h1 _ mx).2, (h1 _ my).2]
    exact hq
end
theorem vals_perm {us us' : List Value} (p : us'.Perm us) : ∀ {vs : List V}, Vals vs us → ∃ vs', Vals vs' us' ∧ vs'.Perm vs := by
  induction p with
  | nil => intro vs h; exact ⟨vs, h, .refl _⟩
  | cons x p ih =>
    intro vs h
    cases h with
    | cons h1 h2 =>
      obtain ⟨vs', a, b⟩ := ih h2
      exact ⟨_ :: vs', .cons h1 a, b.cons _⟩
  | swap x y l =>
    intro vs h
    cases h with
    | cons h1 h2 =>
      cases h2 with
      | cons h3 h4 => exact ⟨_ :: _ :: _, .cons h3 (.cons h1 h4), .swap _ _ _⟩
  | trans p1 p2 ih1 ih2 =>
    intro vs h
    obtain ⟨vs1, a1, b1⟩ := ih2 h
    obtain ⟨vs2, a2, b2⟩ := ih1 a1
    exact ⟨vs2, a2, b2.trans b1⟩
/-- sorted(a list of such tuples): the same ones, and they rise -/
theorem call_sorted_tups {X : Cx} : CallR X (.builtin "sorted") (fun xs H Q => ∃ (a : Addr) (vs : List V) (kd : Nat → Bool), xs = [.ref a] ∧ SqL X.K H a vs ∧ (∀ v ∈ vs, TupK H kd v) ∧
    ∀ (l : Addr) (vs' : List V), H l = none → vs'.Perm vs → vs'.Pairwise (fun u v => lexLt (keyV H v) (keyV H u) = false) → Q (.ref l) (upd H l (.lst vs'))) := by
  intro pins s σ H xs us Q I r h
  obtain ⟨a, vs, kd, rfl, ha, hk, q⟩ := h
  obtain ⟨u, rfl, ru⟩ := vals1 r
  cases ru
  obtain ⟨its, rv, pl, hz⟩ := I.list ha
  have all : ∀ {vs : List V} {its : List Value}, Vals vs its → (∀ v ∈ vs, TupK H kd v) → (∀ u ∈ its, TupU s.heap kd u) ∧ its.map (keyIn s.heap) = vs.map (keyV H) := by
    intro vs
    induction vs with
    | nil => intro its rv _; cases rv; exact ⟨(fun u hu => nomatch hu), rfl⟩
    | cons v vs ih =>
      intro its rv hk
      cases rv with
      | cons r1 r2 =>
        obtain ⟨a1, a2⟩ := tup_uv I r1 (hk v List.mem_cons_self)
        obtain ⟨b1, b2⟩ := ih r2 fun v hv => hk v (List.mem_cons_of_mem _ hv)
        refine ⟨fun u hu => ?_, by rw [List.map_cons, List.map_cons, a2, b2]⟩
        rcases List.mem_cons.mp hu with rfl | hu
        · exact a1
        · exact b1 u hu
  refine sortedG (lex_swo (keyIn s.heap)) pl.isList (by rw [← rv.length]; exact hz) (tups_cmpd (all rv hk).1) fun out o1 o2 => ?_
  obtain ⟨vs', rv', pv⟩ := vals_perm o1 rv
  have keys := (all rv' fun v hv => hk v (pv.mem_iff.mp hv)).2
  obtain ⟨e, he⟩ := sortedAll_at s.heap its out.toArray
  refine ⟨.ref (s.heap.objs.size + 1), _, I.laid (o := .lst vs') (t' := s.toks) (fun b o z => sortedAll_old z) (Nat.le_succ _) ⟨by rw [pv.length_eq]; exact hz, out, e, rv', he⟩, rfl, q _ vs' (I.hok.fresh (Nat.le_succ _)) pv ?_⟩
  have p1 : (out.map (keyIn s.heap)).Pairwise (fun a b => lexLt b a = false) := List.pairwise_map.mpr o2
  rw [keys] at p1
  exact List.pairwise_map.mp p1
end L2
set_option Elab.async false
set_option linter.all false
set_option maxRecDepth 100000
set_option maxHeartbeats 4000000
namespace L2
open PySem PySem.Spec PyProof.Rows
section
variable {prog : Program} {w : World} {A : Around} {E : Value → Shared → Prop} {s : Shared}
end
end L2
set_option Elab.async false
set_option linter.all false
set_option maxRecDepth 100000
namespace L2
open PySem PySem.Spec PyProof.Rows
theorem dats_perm {H : Hp} {vs vs' : List V} (p : vs'.Perm vs) : ∀ {ws : List Way}, Dats H vs (ws.map wayD) → ∃ ws' : List Way, Dats H vs' (ws'.map wayD) ∧ ws'.Perm ws := by
  induction p with
  | nil => intro ws h; exact ⟨ws, h, .refl _⟩
  | cons x p ih =>
    intro ws h
    cases ws with
    | nil => cases h
    | cons u ws =>
      cases h with
      | cons h1 h2 =>
        obtain ⟨ws', a, b⟩ := ih h2
        exact ⟨u :: ws', .cons h1 a, b.cons u⟩
  | swap x y l =>
    intro ws h
    cases ws with
    | nil => cases h
    | cons u ws =>
      cases h with
      | cons h1 h2 =>
        cases ws with
        | nil => cases h2
        | cons v ws =>
          cases h2 with
          | cons h3 h4 => exact ⟨v :: u :: ws, .cons h3 (.cons h1 h4), .swap u v ws⟩
  | trans p1 p2 ih1 ih2 =>
    intro ws h
    obtain ⟨ws1, a1, b1⟩ := ih2 h
    obtain ⟨ws2, a2, b2⟩ := ih1 a1
    exact ⟨ws2, a2, b2.trans b1⟩
end L2
set_option Elab.async false
set_option linter.all false
set_option maxRecDepth 100000
namespace L2
open PySem PySem.Spec PyProof.Rows
end L2
set_option Elab.async false
set_option linter.all false
set_option maxRecDepth 100000
namespace L2
open PySem PySem.Spec PyProof.Rows
end L2
set_option Elab.async false
set_option linter.all false
set_option maxRecDepth 100000
set_option maxHeartbeats 4000000
namespace L2
open PySem PySem.Spec PyProof.Rows
theorem Paired.at {α β : Type} {F : α → β → Prop} : ∀ {l₁ : List α} {l₂ : List β}, Paired F l₁ l₂ → ∀ {i : Nat} {a : α}, l₁[i]? = some a → ∃ b, l₂[i]? = some b ∧ F a b
  | _, _, .nil, i, a, h => by simp at h
  | _, _, .cons r t, 0, a, h => by
    simp only [List.getElem?_cons_zero, Option.some.injEq] at h
    subst h
    exact ⟨_, rfl, r⟩
  | _, _, .cons r t, i + 1, a, h => by
    simp only [List.getElem?_cons_succ] at h
    obtain ⟨b, h1, h2⟩ := Paired.at t h
    exact ⟨b, by simpa using h1, h2⟩
/-- the heap in which the dict at a is frozen -/
def Frozen (H : Hp) (a : Addr) (kvs : List (Key × V)) (o : Obj) (H' : Hp) : Prop := (H a = some (.dK kvs) ∧ H' = upd H a (.frz o (.dK kvs))) ∨ (H a = some (.frz o (.dK kvs)) ∧ H' = H)
theorem Frozen.at {H H' : Hp} {a : Addr} {kvs : List (Key × V)} {o : Obj} (f : Frozen H a kvs o H') : H' a = some (.frz o (.dK kvs)) := by
  rcases f with ⟨_, rfl⟩ | ⟨e, rfl⟩
  · exact upd_same
  · exact e
theorem Frozen.ne {H H' : Hp} {a b : Addr} {kvs : List (Key × V)} {o : Obj} (f : Frozen H a kvs o H') (h : b ≠ a) : H' b = H b := by
  rcases f with ⟨_, rfl⟩ | ⟨e, rfl⟩
  · exact upd_ne h
  · rfl
theorem Inv.freeze {X : Cx} {pins : List (Addr × Obj)} {σ : St} {H : Hp} {s : Shared} {a : Addr} {kvs : List (Key × V)} (I : Inv X pins σ H s) (e : Rd H a (.dK kvs)) :
    ∃ o es ep H', o.data = .dict es ep ∧ Frozen H a kvs o H' ∧ Inv X pins σ H' s := by
  rcases e with e | ⟨o, e⟩
  · obtain ⟨z, hd, vs, rel, o, es, ep, h1, h2, h3, h4⟩ := (show ObjOk X.prog X.w H s.heap a (.dK kvs) from I.hok a _ e)
    refine ⟨o, es, ep, upd H a (.frz o (.dK kvs)), h3, .inl ⟨e, rfl⟩, ?_⟩
    exact I.write (x := a) (e := a) (h' := s.heap) (t' := s.toks) (by rw [e]; exact True.intro) (.inl rfl) (fun b u _ q => q) ⟨o, h1⟩ ⟨h1, z, hd, vs, rel, o, es, ep, h1, h2, h3, h4⟩
  · obtain ⟨ho, z, hd, vs, rel, o', es, ep, h1, h2, h3, h4⟩ := (show ObjOk X.prog X.w H s.heap a (.frz o (.dK kvs)) from I.hok a _ e)
    rw [ho] at h1
    cases h1
    exact ⟨o, es, ep, H, h3, .inr ⟨e, rfl⟩, I⟩
section
variable {prog : Program} {w : World} {A : Around} {E : Value → Shared → Prop} {s : Shared}
end
end L2
set_option Elab.async false
set_option linter.all false
set_option maxRecDepth 100000
set_option maxHeartbeats 4000000
namespace L2
open PySem PySem.Spec PyProof.Rows
section
variable {X : Cx} {pins : List (Addr × Obj)} {σ σ' : St} {H H' : Hp} {s2 s' : Shared} {scope : Scope} {cl : List (Str × Addr)} {N : List Str} {fp : List Addr} {C D : Addr} {h₁ h' : Heap} {t' : Nat}
end
section
variable {prog : Program} {w : World} {A : Around} {R : Result → Shared → Prop} {s : Shared}
end
end L2
set_option Elab.async false
set_option linter.all false
set_option maxRecDepth 100000
set_option maxHeartbeats 4000000
namespace L2
open PySem PySem.Spec PyProof.Rows
theorem str_anti {a b : Str} (h1 : ¬ b.cps.toList < a.cps.toList) (h2 : ¬ a.cps.toList < b.cps.toList) : a = b := by
  have e : a.cps.toList = b.cps.toList := List.le_antisymm (List.not_lt.mp h1) (List.not_lt.mp h2)
  cases a; cases b
  simp only [Str.mk.injEq]
  exact Array.toList_inj.mp e
theorem perm_of_mem {l m : List Str} (hl : l.Nodup) (hm : m.Nodup) (h : ∀ x, x ∈ l ↔ x ∈ m) : l.Perm m := (List.perm_ext_iff_of_nodup hl hm).mpr h
def Adj (ws : List Way) (x y : Str) : Prop := ∃ u ∈ ws, (u.1 = x ∧ u.2.1 = y) ∨ (u.1 = y ∧ u.2.1 = x)
theorem Adj.symm {ws : List Way} {x y : Str} (h : Adj ws x y) : Adj ws y x := let ⟨u, hu, h⟩ := h; ⟨u, hu, h.symm⟩
/-- each name but the first is joined to one ahead of it -/
def Joined (xs : List Str) (ws : List Way) : Prop := ∀ j, 0 < j → j < xs.length → ∃ u ∈ ws, ∃ i : Nat, i < j ∧ xs[i]? = some u.1 ∧ xs[j]? = some u.2.1
/-- what holds at a place and goes along ways holds at all places -/
theorem Joined.all {xs : List Str} {ws : List Way} (h : Joined xs ws) (S : Str → Prop) (cl : ∀ x y, Adj ws x y → S x → S y) {r : Str} (hr : r ∈ xs) (sr : S r) : ∀ x ∈ xs, S x := by
  have down : ∀ n (i : Nat), i ≤ n → ∀ x, xs[i]? = some x → S x → ∀ x0, xs[0]? = some x0 → S x0 := by
    intro n
    induction n with
    | zero =>
      intro i hi x e s x0 e0
      have : i = 0 := by omega
      subst this
      rw [e] at e0; cases e0; exact s
    | succ n ih =>
      intro i hi x e s x0 e0
      by_cases hz : i = 0
      · subst hz
        rw [e] at e0; cases e0; exact s
      · obtain ⟨u, hu, k, hk, e1, e2⟩ := h i (by omega) (List.getElem?_eq_some_iff.mp e).1
        rw [e] at e2; cases e2
        exact ih k (by omega) u.1 e1 (cl _ _ ⟨u, hu, .inr ⟨rfl, rfl⟩⟩ s) x0 e0
  have up : ∀ x0, xs[0]? = some x0 → S x0 → ∀ n (i : Nat), i ≤ n → ∀ x, xs[i]? = some x → S x := by
    intro x0 e0 s0 n
    induction n with
    | zero =>
      intro i hi x e
      have : i = 0 := by omega
      subst this
      rw [e0] at e; cases e; exact s0
    | succ n ih =>
      intro i hi x e
      by_cases hz : i = 0
      · subst hz
        rw [e0] at e; cases e; exact s0
      · obtain ⟨u, hu, k, hk, e1, e2⟩ := h i (by omega) (List.getElem?_eq_some_iff.mp e).1
        rw [e] at e2; cases e2
        exact cl _ _ ⟨u, hu, .inl ⟨rfl, rfl⟩⟩ (ih k (by omega) u.1 e1)
  intro x hx
  obtain ⟨i, hi, e⟩ := List.getElem_of_mem hr
  obtain ⟨j, hj, e'⟩ := List.getElem_of_mem hx
  have h0 : xs[0]? = some xs[0] := List.getElem?_eq_getElem (by omega)
  have s0 : S xs[0] := down i i (Nat.le_refl _) r (by rw [List.getElem?_eq_getElem hi, e]) sr _ h0
  exact up _ h0 s0 j j (Nat.le_refl _) x (by rw [List.getElem?_eq_getElem hj, e'])
inductive Par (ws : List Way) (r : Str) : List (Str × Option Str) → Prop
  | root : Par ws r [(r, none)]
  | snoc {bs : List (Str × Option Str)} {x y : Str} : Par ws r bs → y ∈ bs.map (·.1) → x ∉ bs.map (·.1) → Adj ws y x → Par ws r (bs ++ [(x, some y)])
section
variable {ws : List Way} {r : Str} {bs cs : List (Str × Option Str)}
theorem Par.nodup (h : Par ws r bs) : (bs.map (·.1)).Nodup := by
  induction h with
  | root => exact List.nodup_cons.mpr ⟨by simp, .nil⟩
  | @snoc bs x y h hy hx ha ih =>
    rw [List.map_append]
    refine List.nodup_append.mpr ⟨ih, List.nodup_cons.mpr ⟨by simp, .nil⟩, fun a ha2 b hb => ?_⟩
    have e : b = x := by simpa using hb
    subst e
    rintro rfl
    exact hx ha2
theorem Par.root_mem (h : Par ws r bs) : (r, none) ∈ bs := by
  induction h with
  | root => simp
  | snoc _ _ _ _ ih => exact List.mem_append_left _ ih
theorem Par.parent (h : Par ws r bs) : ∀ {x y : Str}, (x, some y) ∈ bs → y ∈ bs.map (·.1) ∧ Adj ws y x := by
  induction h with
  | root => intro x y e; simp at e
  | @snoc bs x y h hy hx ha ih =>
    intro a b e
    rcases List.mem_append.mp e with e | e
    · obtain ⟨q1, q2⟩ := ih e
      exact ⟨by rw [List.map_append]; exact List.mem_append_left _ q1, q2⟩
    · have e' : a = x ∧ b = y := by simpa using e
      obtain ⟨rfl, rfl⟩ := e'
      exact ⟨by rw [List.map_append]; exact List.mem_append_left _ hy, ha⟩
theorem val_uniq {α β : Type} {l : List (α × β)} (h : (l.map (·.1)).Nodup) {x : α} {a b : β} (ha : (x, a) ∈ l) (hb : (x, b) ∈ l) : a = b := by
  induction l with
  | nil => cases ha
  | cons p l ih =>
    rw [List.map_cons] at h
    obtain ⟨h1, h2⟩ := List.nodup_cons.mp h
    have key : ∀ c, (x, c) ∈ l → p.1 ≠ x := fun c hc z => h1 (by rw [z]; exact List.mem_map.mpr ⟨(x, c), hc, rfl⟩)
    rcases List.mem_cons.mp ha with e | ha1
    · rcases List.mem_cons.mp hb with e' | hb1
      · rw [← e] at e'; cases e'; rfl
      · exact absurd (by rw [← e]) (key b hb1)
    · rcases List.mem_cons.mp hb with e' | hb1
      · exact absurd (by rw [← e']) (key a ha1)
      · exact ih h2 ha1 hb1
theorem Par.uniq (h : Par ws r bs) {x : Str} {a b : Option Str} (ha : (x, a) ∈ bs) (hb : (x, b) ∈ bs) : a = b := val_uniq h.nodup ha hb
theorem Par.has (h : Par ws r bs) {x : Str} (hx : x ∈ bs.map (·.1)) (ne : x ≠ r) : ∃ y, (x, some y) ∈ bs := by
  induction h with
  | root => simp at hx; exact absurd hx ne
  | @snoc bs a y h hy ha' hadj ih =>
    rw [List.map_append] at hx
    rcases List.mem_append.mp hx with hx | hx
    · obtain ⟨z, hz⟩ := ih hx
      exact ⟨z, List.mem_append_left _ hz⟩
    · have e : x = a := by simpa using hx
      subst e
      exact ⟨y, List.mem_append_right _ (by simp)⟩
/-- as many ways as places but the first are used, each one time -/
theorem Par.used (h : Par ws r bs) : ∃ us : List Way, us.Nodup ∧ (∀ u ∈ us, u ∈ ws) ∧ us.length + 1 = bs.length ∧ ∀ u ∈ us, u.1 ∈ bs.map (·.1) ∧ u.2.1 ∈ bs.map (·.1) ∧ ((u.1, some u.2.1) ∈ bs ∨ (u.2.1, some u.1) ∈ bs) := by
  induction h with
  | root => exact ⟨[], .nil, by simp, rfl, by simp⟩
  | @snoc bs x y h hy hx ha ih =>
    obtain ⟨us, a1, a2, a3, a4⟩ := ih
    obtain ⟨u, hu, e⟩ := ha
    have nu : u ∉ us := fun hm => by
      obtain ⟨q1, q2, _⟩ := a4 u hm
      rcases e with ⟨_, e⟩ | ⟨e, _⟩
      · rw [e] at q2; exact hx q2
      · rw [e] at q1; exact hx q1
    refine ⟨u :: us, List.nodup_cons.mpr ⟨nu, a1⟩, fun v hv => ?_, by simp [a3], fun v hv => ?_⟩
    · rcases List.mem_cons.mp hv with rfl | hv
      · exact hu
      · exact a2 v hv
    · have inl : ∀ {z}, z ∈ bs.map (·.1) → z ∈ (bs ++ [(x, some y)]).map (·.1) := fun hz => by rw [List.map_append]; exact List.mem_append_left _ hz
      have inx : x ∈ (bs ++ [(x, some y)]).map (·.1) := by rw [List.map_append]; exact List.mem_append_right _ (by simp)
      rcases List.mem_cons.mp hv with rfl | hv
      · rcases e with ⟨e1, e2⟩ | ⟨e1, e2⟩
        · rw [e1, e2]; exact ⟨inl hy, inx, .inr (List.mem_append_right _ (by simp))⟩
        · rw [e1, e2]; exact ⟨inx, inl hy, .inl (List.mem_append_right _ (by simp))⟩
      · obtain ⟨q1, q2, q3⟩ := a4 v hv
        exact ⟨inl q1, inl q2, q3.imp (List.mem_append_left _) (List.mem_append_left _)⟩
theorem Par.cover (h : Par ws r bs) (hl : ws.length + 1 ≤ bs.length) : ∀ u ∈ ws, (u.1, some u.2.1) ∈ bs ∨ (u.2.1, some u.1) ∈ bs := by
  obtain ⟨us, a1, a2, a3, a4⟩ := h.used
  intro u hu
  by_cases hm : u ∈ us
  · exact (a4 u hm).2.2
  · have := len_le_of_sub (l := u :: us) (xs := ws) (List.nodup_cons.mpr ⟨hm, a1⟩) fun v hv => by
      rcases List.mem_cons.mp hv with rfl | hv
      · exact hu
      · exact a2 v hv
    rw [List.length_cons] at this
    omega
/-- on a tree there is but one -/
theorem Par.sub (h : Par ws r bs) (g : Par ws r cs) (hl : ws.length + 1 ≤ cs.length) (full : ∀ x ∈ bs.map (·.1), x ∈ cs.map (·.1)) : ∀ p ∈ bs, p ∈ cs := by
  have cov := g.cover hl
  induction h with
  | root => intro p hp; have e : p = (r, none) := by simpa using hp
            subst e; exact g.root_mem
  | @snoc bs x y h hy hx ha ih =>
    have ih' := ih fun z hz => full z (by rw [List.map_append]; exact List.mem_append_left _ hz)
    intro p hp
    rcases List.mem_append.mp hp with hp | hp
    · exact ih' p hp
    · have e : p = (x, some y) := by simpa using hp
      subst e
      obtain ⟨u, hu, e⟩ := ha
      have two : (x, some y) ∈ cs ∨ (y, some x) ∈ cs := by
        rcases cov u hu with c | c
        · rcases e with ⟨e1, e2⟩ | ⟨e1, e2⟩
          · rw [e1, e2] at c; exact .inr c
          · rw [e1, e2] at c; exact .inl c
        · rcases e with ⟨e1, e2⟩ | ⟨e1, e2⟩
          · rw [e1, e2] at c; exact .inl c
          · rw [e1, e2] at c; exact .inr c
      rcases two with c | c
      · exact c
      · exfalso
        have nr : y ≠ r := by
          rintro rfl
          cases g.uniq c g.root_mem
        obtain ⟨z, hz⟩ := h.has hy nr
        have e2 := g.uniq c (ih' _ hz)
        cases e2
        exact hx (h.parent hz).1
end
inductive Wlk (ws : List Way) (r : Str) : List (Str × List Str) → Prop
  | root : Wlk ws r [(r, [r])]
  | snoc {wk : List (Str × List Str)} {x y : Str} {p : List Str} : Wlk ws r wk → (y, p) ∈ wk → x ∉ wk.map (·.1) → Adj ws y x → Wlk ws r (wk ++ [(x, p ++ [x])])
/-- the one ahead of the last -/
def ahead (p : List Str) : Option Str := p.dropLast.getLast?
theorem ahead_snoc (p : List Str) (x : Str) : ahead (p ++ [x]) = p.getLast? := by unfold ahead; rw [List.dropLast_concat]
section
variable {ws : List Way} {r : Str} {wk : List (Str × List Str)}
theorem Wlk.last (h : Wlk ws r wk) : ∀ {x : Str} {p : List Str}, (x, p) ∈ wk → p.getLast? = some x := by
  induction h with
  | root => intro x p e; have e' : x = r ∧ p = [r] := by simpa using e
            obtain ⟨rfl, rfl⟩ := e'; rfl
  | snoc h hy hx ha ih =>
    intro a q e
    rcases List.mem_append.mp e with e | e
    · exact ih e
    · simp only [List.mem_singleton, Prod.mk.injEq] at e
      obtain ⟨rfl, rfl⟩ := e
      simp
theorem Wlk.par (h : Wlk ws r wk) : Par ws r (wk.map fun q => (q.1, ahead q.2)) := by
  induction h with
  | root => exact .root
  | @snoc wk x y p h hy hx ha ih =>
    rw [List.map_append]
    have e : ahead (p ++ [x]) = some y := by rw [ahead_snoc]; exact h.last hy
    simp only [List.map_cons, List.map_nil, e]
    refine .snoc ih ?_ ?_ ha
    · rw [List.map_map]
      exact List.mem_map.mpr ⟨(y, p), hy, rfl⟩
    · rw [List.map_map]
      exact hx
theorem Wlk.keys (h : Wlk ws r wk) : (wk.map (·.1)).Nodup := by
  have := h.par.nodup
  rw [List.map_map] at this
  exact this
end
theorem way_dats {H2 H3 : Hp} {vs : List V} {ws : List Way} (h : Dats H2 vs (ws.map wayD)) (ht : ∀ b xs, H2 b = some (.tup xs) → H3 b = some (.tup xs)) : Dats H3 vs (ws.map wayD) := by
  induction ws generalizing vs with
  | nil => cases h; exact .nil
  | cons u ws ih =>
    cases h with
    | cons h1 r =>
      refine .cons ?_ (ih r)
      cases h1 with
      | tup ha hd =>
        refine .tup (ht _ _ ha) ?_
        cases hd with
        | cons h1 r1 =>
          cases r1 with
          | cons h2 r2 =>
            cases r2 with
            | cons h3 r3 =>
              cases r3
              cases h1
              cases h2
              cases h3
              exact .cons (.str _) (.cons (.str _) (.cons (.int _) .nil))
end L2
set_option Elab.async false
set_option linter.all false
set_option maxRecDepth 100000
set_option maxHeartbeats 4000000
namespace L2
open PySem PySem.Spec PyProof.Rows
theorem nd_ix {α : Type} {l : List α} (h : l.Nodup) {i j : Nat} {x : α} (a : l[i]? = some x) (b : l[j]? = some x) : i = j :=
  (List.getElem?_inj (List.getElem?_eq_some_iff.mp a).1 h).mp (a.trans b.symm)
def sK (nv : List (Str × V)) : List (Key × V) := nv.map fun q => (Sum.inr q.1, q.2)
theorem sK_keys (nv : List (Str × V)) : (sK nv).map (·.1) = (nv.map (·.1)).map Sum.inr := by unfold sK; rw [List.map_map, List.map_map]; rfl
theorem sK_app (a b : List (Str × V)) : sK (a ++ b) = sK a ++ sK b := List.map_append ..
theorem sK_none : ∀ {nv : List (Str × V)} {y : Str}, y ∉ nv.map (·.1) → valV (sK nv) (Sum.inr y : Key) = none
  | [], y, _ => rfl
  | q :: nv, y, h => by
    rw [List.map_cons, List.mem_cons, not_or] at h
    show valV ((Sum.inr q.1, q.2) :: sK nv) (Sum.inr y : Key) = none
    rw [valV_neg (fun z => h.1 (Sum.inr.inj z).symm)]
    exact sK_none h.2
theorem sK_some : ∀ {nv : List (Str × V)} {y : Str} {v : V}, (nv.map (·.1)).Nodup → (y, v) ∈ nv → valV (sK nv) (Sum.inr y : Key) = some v
  | [], y, v, _, h => nomatch h
  | q :: nv, y, v, hn, h => by
    rw [List.map_cons] at hn
    obtain ⟨h1, h2⟩ := List.nodup_cons.mp hn
    show valV ((Sum.inr q.1, q.2) :: sK nv) (Sum.inr y : Key) = some v
    rcases List.mem_cons.mp h with e | h'
    · subst e
      exact valV_pos rfl
    · rw [valV_neg (fun z => h1 (by rw [Sum.inr.inj z]; exact List.mem_map.mpr ⟨(y, v), h', rfl⟩))]
      exact sK_some h2 h'
theorem sK_is {nv : List (Str × V)} {y : Str} : (valV (sK nv) (Sum.inr y : Key)).isSome = decide (y ∈ nv.map (·.1)) := by
  by_cases h : y ∈ nv.map (·.1)
  · rw [decide_eq_true h]
    cases e : valV (sK nv) (Sum.inr y : Key) with
    | some v => rfl
    | none =>
      have := valV_not e
      rw [sK_keys] at this
      exact absurd (List.mem_map.mpr ⟨y, h, rfl⟩) this
  · rw [decide_eq_false h, sK_none h]; rfl
theorem sK_new {nv : List (Str × V)} {y : Str} {v : V} (h : y ∉ nv.map (·.1)) : putK (sK nv) (Sum.inr y : Key) v = sK (nv ++ [(y, v)]) := by
  rw [putK_new v (sK_none h), sK_app]; rfl
structure Web (H : Hp) (q : Addr) (ps : List Str) (ws : List Way) : Prop where
  ex : ∃ tp tw us, H q = some (.tup [.ref tp, .ref tw]) ∧ H tp = some (.tup (ps.map V.str)) ∧ H tw = some (.tup us) ∧ Dats H us (ws.map wayD)
theorem Web.same {H H' : Hp} {q : Addr} {ps : List Str} {ws : List Way} (h : Web H q ps ws) (s : ∀ b xs, H b = some (.tup xs) → H' b = some (.tup xs)) : Web H' q ps ws := by
  obtain ⟨tp, tw, us, h1, h2, h3, h4⟩ := h.ex
  exact ⟨tp, tw, us, s _ _ h1, s _ _ h2, s _ _ h3, way_dats h4 s⟩
def nbL (ps : List Str) (ds : List Addr) : List (Str × V) := (ps.zip ds).map fun q => (q.1, V.ref q.2)
theorem nbL_keys {ps : List Str} {ds : List Addr} (h : ps.length ≤ ds.length) : (nbL ps ds).map (·.1) = ps := by
  unfold nbL
  rw [List.map_map]
  have : ((fun (x : Str × V) => x.1) ∘ fun (q : Str × Addr) => (q.1, V.ref q.2)) = Prod.fst := rfl
  rw [this, List.map_fst_zip h]
theorem nbL_mem {ps : List Str} {ds : List Addr} {i : Nat} {p : Str} {d : Addr} (h1 : ps[i]? = some p) (h2 : ds[i]? = some d) : (p, V.ref d) ∈ nbL ps ds := by
  unfold nbL
  refine List.mem_map.mpr ⟨(p, d), List.mem_of_getElem? (i := i) ?_, rfl⟩
  rw [List.getElem?_zip_eq_some]
  exact ⟨h1, h2⟩
structure NB (H : Hp) (B : Addr) (ps : List Str) (ds : List Addr) (P : Str → Str → Prop) (n : Nat) : Prop where
  top : H B = some (.dK (sK (nbL ps ds)))
  len : ds.length = ps.length
  nd : ds.Nodup
  nB : B ∉ ds
  inner : ∀ (i : Nat) (p : Str) (d : Addr), ps[i]? = some p → ds[i]? = some d → ∃ nv : List (Str × V), H d = some (.dK (sK nv)) ∧ nv.length ≤ n ∧ ∀ y, y ∈ nv.map (·.1) ↔ P p y
theorem NB.get {H : Hp} {B : Addr} {ps : List Str} {ds : List Addr} {P : Str → Str → Prop} {n : Nat} (h : NB H B ps ds P n) (hn : ps.Nodup) {p : Str} (hp : p ∈ ps) :
    ∃ (i : Nat) (d : Addr) (nv : List (Str × V)), ps[i]? = some p ∧ ds[i]? = some d ∧ valV (sK (nbL ps ds)) (Sum.inr p : Key) = some (.ref d) ∧ H d = some (.dK (sK nv)) ∧ nv.length ≤ n ∧ ∀ y, y ∈ nv.map (·.1) ↔ P p y := by
  obtain ⟨i, hi, e⟩ := List.getElem_of_mem hp
  have e1 : ps[i]? = some p := by rw [List.getElem?_eq_getElem hi, e]
  have hi' : i < ds.length := by rw [h.len]; exact hi
  have e2 : ds[i]? = some ds[i] := List.getElem?_eq_getElem hi'
  obtain ⟨nv, a1, a2, a3⟩ := h.inner i p _ e1 e2
  refine ⟨i, _, nv, e1, e2, sK_some ?_ (nbL_mem e1 e2), a1, a2, a3⟩
  rw [nbL_keys (by rw [h.len]; exact Nat.le_refl _)]
  exact hn
theorem NB.mono {H : Hp} {B : Addr} {ps : List Str} {ds : List Addr} {P P' : Str → Str → Prop} {n m : Nat} (h : NB H B ps ds P n) (hP : ∀ a b, P a b ↔ P' a b) (hn : n ≤ m) : NB H B ps ds P' m :=
  ⟨h.top, h.len, h.nd, h.nB, fun i p d e1 e2 => let ⟨nv, a1, a2, a3⟩ := h.inner i p d e1 e2; ⟨nv, a1, by omega, fun y => (a3 y).trans (hP p y)⟩⟩
theorem NB.same {H H' : Hp} {B : Addr} {ps : List Str} {ds : List Addr} {P : Str → Str → Prop} {n : Nat} (h : NB H B ps ds P n) (s : Same H H') : NB H' B ps ds P n :=
  ⟨s _ _ h.top, h.len, h.nd, h.nB, fun i p d e1 e2 => let ⟨nv, a1, a2, a3⟩ := h.inner i p d e1 e2; ⟨nv, s _ _ a1, a2, a3⟩⟩
/-- the map that these functions are asked of -/
structure WebOk (H : Hp) (q : Addr) (ps : List Str) (ws : List Way) (r : Str) : Prop where
  web : Web H q ps ws
  nd : ps.Nodup
  l30 : ps.length ≤ 30
  l64 : ws.length < 64
  ends : ∀ u ∈ ws, u.1 ∈ ps ∧ u.2.1 ∈ ps
  first : ps[0]? = some r
  con : ∀ S : Str → Prop, S r → (∀ x y, Adj ws x y → S x → S y) → ∀ x ∈ ps, S x
theorem WebOk.same {H H' : Hp} {q : Addr} {ps : List Str} {ws : List Way} {r : Str} (h : WebOk H q ps ws r) (s : Same H H') : WebOk H' q ps ws r :=
  ⟨h.web.same fun b xs z => s _ _ z, h.nd, h.l30, h.l64, h.ends, h.first, h.con⟩
def ov : Option Str → V
  | none => .non
  | some y => .str y
def parL (bs : List (Str × Option Str)) : List (Str × V) := bs.map fun q => (q.1, ov q.2)
end L2
set_option Elab.async false
set_option linter.all false
set_option maxRecDepth 100000
set_option maxHeartbeats 4000000
namespace L2
open PySem PySem.Spec PyProof.Rows
/-- what lies beside each place, perhaps walked already -/
structure NR (H : Hp) (B : Addr) (ps : List Str) (ds : List Addr) (P : Str → Str → Prop) : Prop where
  top : H B = some (.dK (sK (nbL ps ds)))
  len : ds.length = ps.length
  nd : ds.Nodup
  nB : B ∉ ds
  inner : ∀ (i : Nat) (p : Str) (d : Addr), ps[i]? = some p → ds[i]? = some d → ∃ nv : List (Str × V), Rd H d (.dK (sK nv)) ∧ ∀ y, y ∈ nv.map (·.1) ↔ P p y
theorem NB.r {H : Hp} {B : Addr} {ps : List Str} {ds : List Addr} {P : Str → Str → Prop} {n : Nat} (h : NB H B ps ds P n) : NR H B ps ds P :=
  ⟨h.top, h.len, h.nd, h.nB, fun i p d e1 e2 => let ⟨nv, a1, _, a3⟩ := h.inner i p d e1 e2; ⟨nv, .inl a1, a3⟩⟩
theorem NR.get {H : Hp} {B : Addr} {ps : List Str} {ds : List Addr} {P : Str → Str → Prop} (h : NR H B ps ds P) (hn : ps.Nodup) {p : Str} (hp : p ∈ ps) :
    ∃ (i : Nat) (d : Addr) (nv : List (Str × V)), ps[i]? = some p ∧ ds[i]? = some d ∧ valV (sK (nbL ps ds)) (Sum.inr p : Key) = some (.ref d) ∧ Rd H d (.dK (sK nv)) ∧ ∀ y, y ∈ nv.map (·.1) ↔ P p y := by
  obtain ⟨i, hi, e⟩ := List.getElem_of_mem hp
  have e1 : ps[i]? = some p := by rw [List.getElem?_eq_getElem hi, e]
  have hi' : i < ds.length := by rw [h.len]; exact hi
  have e2 : ds[i]? = some ds[i] := List.getElem?_eq_getElem hi'
  obtain ⟨nv, a1, a3⟩ := h.inner i p _ e1 e2
  refine ⟨i, _, nv, e1, e2, sK_some ?_ (nbL_mem e1 e2), a1, a3⟩
  rw [nbL_keys (by rw [h.len]; exact Nat.le_refl _)]
  exact hn
theorem Rd.ne {H : Hp} {a b : Addr} {u o : HO} (h : Rd H a u) (hb : a ≠ b) : Rd (upd H b o) a u := by
  rcases h with h | ⟨ob, h⟩
  · exact .inl (by rw [upd_ne hb]; exact h)
  · exact .inr ⟨ob, by rw [upd_ne hb]; exact h⟩
theorem Rd.fz {H H' : Hp} {a b : Addr} {u : HO} {kvs : List (Key × V)} {o : Obj} (h : Rd H a u) (f : Frozen H b kvs o H') (hb : a ≠ b) : Rd H' a u := by
  rcases h with h | ⟨ob, h⟩
  · exact .inl (by rw [f.ne hb]; exact h)
  · exact .inr ⟨ob, by rw [f.ne hb]; exact h⟩
theorem NR.other {H : Hp} {B a : Addr} {ps : List Str} {ds : List Addr} {P : Str → Str → Prop} {o : HO} (h : NR H B ps ds P) (ha : a ∉ ds) (hB : a ≠ B) : NR (upd H a o) B ps ds P :=
  ⟨by rw [upd_ne (Ne.symm hB)]; exact h.top, h.len, h.nd, h.nB, fun i p d e1 e2 => let ⟨nv, a1, a3⟩ := h.inner i p d e1 e2
    ⟨nv, a1.ne (fun z => ha (by rw [← z]; exact List.mem_of_getElem? e2)), a3⟩⟩
theorem NR.freeze {H H' : Hp} {B : Addr} {ps : List Str} {ds : List Addr} {P : Str → Str → Prop} (h : NR H B ps ds P) {i : Nat} {p : Str} {d : Addr} (e1 : ps[i]? = some p) (e2 : ds[i]? = some d) {nv : List (Str × V)} {o : Obj} (f : Frozen H d (sK nv) o H') (hP : ∀ y, y ∈ nv.map (·.1) ↔ P p y) : NR H' B ps ds P := by
  have dm : d ∈ ds := List.mem_of_getElem? e2
  refine ⟨by rw [f.ne (fun z => h.nB (by rw [z]; exact dm))]; exact h.top, h.len, h.nd, h.nB, fun j q c f1 f2 => ?_⟩
  by_cases z : c = d
  · subst z
    have ij : i = j := nd_ix h.nd e2 f2
    subst ij
    rw [e1] at f1; cases f1
    exact ⟨nv, .inr ⟨o, f.at⟩, hP⟩
  · obtain ⟨nw, b1, b3⟩ := h.inner j q c f1 f2
    exact ⟨nw, b1.fz f z, b3⟩
/-- what holds while the places are reached -/
structure Reach (H H2 : Hp) (ps : List Str) (ws : List Way) (r : Str) (B D L : Addr) (ds : List Addr) (bs : List (Str × Option Str)) (as : List Str) : Prop where
  same : Same H H2
  nr : NR H2 B ps ds (Adj ws)
  dD : H2 D = some (.dK (sK (parL bs)))
  dL : H2 L = some (.lst (as.map V.str))
  par : Par ws r bs
  sub : ∀ x ∈ bs.map (·.1), x ∈ ps
  asb : ∀ x ∈ as, x ∈ bs.map (·.1)
  al : as.length ≤ bs.length
theorem Reach.len {H H2 : Hp} {ps : List Str} {ws : List Way} {r : Str} {B D L : Addr} {ds : List Addr} {bs : List (Str × Option Str)} {as : List Str} (h : Reach H H2 ps ws r B D L ds bs as) : bs.length ≤ ps.length := by
  have := len_le_of_sub h.par.nodup h.sub
  rwa [List.length_map] at this
end L2
set_option Elab.async false
set_option linter.all false
set_option maxRecDepth 100000
set_option maxHeartbeats 4000000
namespace L2
open PySem PySem.Spec PyProof.Rows
/-- the dict of walks -/
structure WK (H : Hp) (W : Addr) (wk : List (Str × List Str)) (qs : List Addr) : Prop where
  len : qs.length = wk.length
  top : Rd H W (.dK (sK (nbL (wk.map (·.1)) qs)))
  at_ : ∀ (i : Nat) (x : Str) (p : List Str) (q : Addr), wk[i]? = some (x, p) → qs[i]? = some q → H q = some (.lst (p.map V.str))
theorem WK.get {H : Hp} {W : Addr} {wk : List (Str × List Str)} {qs : List Addr} (h : WK H W wk qs) (hn : (wk.map (·.1)).Nodup) {x : Str} {p : List Str} (hx : (x, p) ∈ wk) :
    ∃ q, valV (sK (nbL (wk.map (·.1)) qs)) (Sum.inr x : Key) = some (.ref q) ∧ H q = some (.lst (p.map V.str)) := by
  obtain ⟨i, hi, e⟩ := List.getElem_of_mem hx
  have hi' : i < qs.length := by rw [h.len]; exact hi
  have e1 : wk[i]? = some (x, p) := by rw [List.getElem?_eq_getElem hi, e]
  have e2 : qs[i]? = some qs[i] := List.getElem?_eq_getElem hi'
  refine ⟨qs[i], sK_some ?_ (nbL_mem (i := i) ?_ e2), h.at_ i x p _ e1 e2⟩
  · rw [nbL_keys (by rw [h.len, List.length_map]; exact Nat.le_refl _)]; exact hn
  · rw [List.getElem?_map, e1]; rfl
theorem WK.is {H : Hp} {W : Addr} {wk : List (Str × List Str)} {qs : List Addr} (h : WK H W wk qs) (x : Str) : (valV (sK (nbL (wk.map (·.1)) qs)) (Sum.inr x : Key)).isSome = decide (x ∈ wk.map (·.1)) := by
  rw [sK_is, nbL_keys (by rw [h.len, List.length_map]; exact Nat.le_refl _)]
end L2
set_option Elab.async false
set_option linter.all false
set_option maxRecDepth 100000
set_option maxHeartbeats 4000000
namespace L2
open PySem PySem.Spec PyProof.Rows
/-- what holds while the walks are made -/
structure WS (H H2 : Hp) (W : Addr) (xs : List Str) (ws : List Way) (r : Str) (wk : List (Str × List Str)) (qs : List Addr) : Prop where
  same : Same H H2
  dW : H2 W = some (.dK (sK (nbL (wk.map (·.1)) qs)))
  wk_ : WK H2 W wk qs
  wl : Wlk ws r wk
  sub : ∀ x ∈ wk.map (·.1), x ∈ xs
  fr : ∀ q ∈ qs, H q = none
theorem WS.len {H H2 : Hp} {W : Addr} {xs : List Str} {ws : List Way} {r : Str} {wk : List (Str × List Str)} {qs : List Addr} (h : WS H H2 W xs ws r wk qs) : wk.length ≤ xs.length := by
  have := len_le_of_sub h.wl.keys h.sub
  rwa [List.length_map] at this
theorem WS.add {H H2 : Hp} {W T q : Addr} {xs : List Str} {ws : List Way} {r x y : Str} {p : List Str} {wk : List (Str × List Str)} {qs : List Addr} (h : WS H H2 W xs ws r wk qs) (hW : H W = none) (hy : (y, p) ∈ wk) (hx : x ∉ wk.map (·.1)) (ha : Adj ws y x) (hxs : x ∈ xs)
    (hT : H2 T = none) (hq : (upd H2 T (.lst [.str x])) q = none) :
    WS H (upd (upd (upd H2 T (.lst [.str x])) q (.lst (p.map V.str ++ [.str x]))) W (.dK (putK (sK (nbL (wk.map (·.1)) qs)) (Sum.inr x : Key) (.ref q)))) W xs ws r (wk ++ [(x, p ++ [x])]) (qs ++ [q]) := by
  have sT := same_upd (o := .lst [.str x]) hT
  have sq := same_upd (o := .lst (p.map V.str ++ [.str x])) hq
  have all := sT.trans sq
  have hqn : H2 q = none := sT.free hq
  have eK : putK (sK (nbL (wk.map (·.1)) qs)) (Sum.inr x : Key) (.ref q) = sK (nbL ((wk ++ [(x, p ++ [x])]).map (·.1)) (qs ++ [q])) := by
    rw [sK_new (by rw [nbL_keys (by rw [h.wk_.len, List.length_map]; exact Nat.le_refl _)]; exact hx)]
    congr 1
    unfold nbL
    rw [List.map_append, List.zip_append (by rw [List.length_map, h.wk_.len]), List.map_append]
    rfl
  have nWq : q ≠ W := fun z => by rw [z, h.dW] at hqn; cases hqn
  refine ⟨fun b o z => ?_, by rw [upd_same, eK], ⟨by simp [h.wk_.len], .inl (by rw [upd_same, eK]), fun i z p' c e1 e2 => ?_⟩, .snoc h.wl hy hx ha, fun z hz => ?_, fun c hc => ?_⟩
  · rw [upd_ne (ne_of_none z hW)]
    exact all _ _ (h.same _ _ z)
  · by_cases hi : i < wk.length
    · rw [List.getElem?_append_left hi] at e1
      rw [List.getElem?_append_left (by rw [h.wk_.len]; exact hi)] at e2
      have hc := h.wk_.at_ i z p' c e1 e2
      rw [upd_ne (ne_of hc h.dW (by intro z; cases z))]
      exact all _ _ hc
    · rw [List.getElem?_append_right (by omega)] at e1
      rw [List.getElem?_append_right (by rw [h.wk_.len]; omega)] at e2
      have i0 : i - wk.length = 0 := by
        have := (List.getElem?_eq_some_iff.mp e1).1
        simp at this
        omega
      rw [h.wk_.len, i0] at e2
      rw [i0] at e1
      simp only [List.getElem?_cons_zero, Option.some.injEq, Prod.mk.injEq] at e1 e2
      obtain ⟨rfl, rfl⟩ := e1
      subst e2
      rw [upd_ne nWq, upd_same, List.map_append]
      rfl
  · rw [List.map_append] at hz
    rcases List.mem_append.mp hz with hz | hz
    · exact h.sub z hz
    · have : z = x := by simpa using hz
      rw [this]; exact hxs
  · rcases List.mem_append.mp hc with hc | hc
    · exact h.fr c hc
    · have : c = q := by simpa using hc
      rw [this]; exact h.same.free hqn
theorem key_mem {wk : List (Str × List Str)} {x : Str} (h : x ∈ wk.map (·.1)) : ∃ p, (x, p) ∈ wk := by
  obtain ⟨⟨y, p⟩, h1, h2⟩ := List.mem_map.mp h
  have e : y = x := h2
  subst e
  exact ⟨p, h1⟩
end L2
set_option Elab.async false
set_option linter.all false
set_option maxRecDepth 100000
set_option maxHeartbeats 4000000
namespace L2
open PySem PySem.Spec PyProof.Rows
section
variable {ws : List Way} {r : Str} {bs : List (Str × Option Str)} {wk : List (Str × List Str)} {ps : List Str}
structure Both (ws : List Way) (r : Str) (ps : List Str) (bs : List (Str × Option Str)) (wk : List (Str × List Str)) : Prop where
  par : Par ws r bs
  wl : Wlk ws r wk
  fb : ∀ x, x ∈ bs.map (·.1) ↔ x ∈ ps
  fw : ∀ x, x ∈ wk.map (·.1) ↔ x ∈ ps
  nd : ps.Nodup
  tree : ws.length + 1 = ps.length
theorem Both.bl (h : Both ws r ps bs wk) : bs.length = ps.length := by
  have := (perm_of_mem h.par.nodup h.nd h.fb).length_eq
  rwa [List.length_map] at this
theorem Both.to (h : Both ws r ps bs wk) {x : Str} {p : List Str} (hx : (x, p) ∈ wk) : (x, ahead p) ∈ bs := by
  refine h.wl.par.sub h.par (by rw [h.bl, h.tree]; exact Nat.le_refl _) (fun z hz => ?_) _ (List.mem_map.mpr ⟨(x, p), hx, rfl⟩)
  rw [List.map_map] at hz
  exact (h.fb z).mpr ((h.fw z).mp hz)
theorem Both.from (h : Both ws r ps bs wk) {x : Str} {o : Option Str} (hx : (x, o) ∈ bs) : ∃ p, (x, p) ∈ wk ∧ o = ahead p := by
  have h1 : x ∈ wk.map (·.1) := (h.fw x).mpr ((h.fb x).mp (List.mem_map.mpr ⟨_, hx, rfl⟩))
  obtain ⟨p, hp⟩ := key_mem h1
  exact ⟨p, hp, h.par.uniq hx (h.to hp)⟩
end
theorem nodup_map_filter {α : Type} {l : List (Str × α)} (h : (l.map (·.1)).Nodup) (f : Str × α → Bool) : ((l.filter f).map (·.1)).Nodup := by
  have s : List.Sublist ((l.filter f).map (·.1)) (l.map (·.1)) := List.Sublist.map _ List.filter_sublist
  exact s.nodup h
theorem WK.keep {H H' : Hp} {W : Addr} {wk : List (Str × List Str)} {qs : List Addr} (h : WK H W wk qs) (s : Same H H') : WK H' W wk qs := by
  refine ⟨h.len, ?_, fun i x p q e1 e2 => s _ _ (h.at_ i x p q e1 e2)⟩
  rcases h.top with t | ⟨o, t⟩
  · exact .inl (s _ _ t)
  · exact .inr ⟨o, s _ _ t⟩
end L2
set_option Elab.async false
set_option linter.all false
set_option maxRecDepth 100000
set_option maxHeartbeats 4000000
namespace L2
open PySem PySem.Spec PyProof.Rows
def LtAt (A : Around) (s : Shared) (x y : Value) (b : Bool) : Prop := ∀ (prog : Program) (w : World) (E Q : Value → Shared → Prop), Q (.bool b) s → wpAny (model prog w) A (richCompare .Lt x y) Q E s
theorem LtAt.int (A : Around) (s : Shared) (a : Int) (t : Tok) (c : Int) (u : Tok) : LtAt A s (.int a t) (.int c u) (decide (a < c)) := fun prog w E Q h =>
  (PyProof.Rows.lt_int h : wpAny (model prog w) A (compareOp .Lt (.int a t) (.int c u)) Q E s)
theorem LtAt.str (A : Around) (s : Shared) (a : Str) (t : Tok) (c : Str) (u : Tok) : LtAt A s (.str a t) (.str c u) (decide (a.cps.toList < c.cps.toList)) := fun prog w E Q h =>
  (PySem.P.lt_str h : wpAny (model prog w) A (compareOp .Lt (.str a t) (.str c u)) Q E s)
section
open PySem.SeqAt
open PySem.AutoSeq1 (wpAny_loadPart')
open PySem.MeetsSeq PySem.MeetsSeq2 PySem.MeetsSeq3
end
/-- a pair (int, text) as it lies in the heap -/
def PairAt (h : Heap) (v : Value) (p : Int × Str) : Prop := ∃ a t u, v = .ref a ∧ IsTup h a #[.int p.1 t, .str p.2 u]
theorem PairAt.keep {h h' : Heap} {v : Value} {p : Int × Str} (x : PairAt h v p) (k : ∀ b o, h.get? b = some o → h'.get? b = some o) : PairAt h' v p := by
  obtain ⟨a, t, u, rfl, o, ho, r⟩ := x
  exact ⟨a, t, u, rfl, o, k _ _ ho, r⟩
end L2
set_option Elab.async false
set_option linter.all false
set_option maxRecDepth 100000
set_option maxHeartbeats 4000000
namespace L2
open PySem PySem.Spec PyProof.Rows
/-- ((d, start), name) as it lies in the heap -/
def KeyAt (h : Heap) (v : Value) (k : (Int × Str) × Str) : Prop := ∃ a l u, v = .ref a ∧ IsTup h a #[.ref l, .str k.2 u] ∧ PairAt h (.ref l) k.1
theorem KeyAt.keep {h h' : Heap} {v : Value} {p : (Int × Str) × Str} (x : KeyAt h v p) (k : ∀ b o, h.get? b = some o → h'.get? b = some o) : KeyAt h' v p := by
  obtain ⟨a, l, u, rfl, ⟨o, ho, r⟩, z⟩ := x
  exact ⟨a, l, u, rfl, ⟨o, k _ _ ho, r⟩, z.keep k⟩
section
variable {prog : Program} {w : World} {A : Around} {R : Result → Shared → Prop} {I : Addr} {fp wr : List Addr} {n : Nat} {P : Nat → Value → Prop} {St : Nat → Heap → Prop} {g0 : Heap}
end
section
variable {prog : Program} {w : World} {A : Around} {E : Value → Shared → Prop} {s : Shared}
end
end L2
set_option Elab.async false
set_option linter.all false
set_option maxRecDepth 100000
set_option maxHeartbeats 4000000
namespace L2
open PySem PySem.Spec PyProof.Rows
section
variable {prog : Program} {w : World} {A : Around} {E : Value → Shared → Prop} {s : Shared}
end
/-- a pair (d, start), a key ((d, start), name) that is tracked -/
def PrH (H : Hp) (v : V) (p : Int × Str) : Prop := ∃ t, v = .ref t ∧ H t = some (.tup [.int p.1, .str p.2])
def KyH (H : Hp) (v : V) (k : (Int × Str) × Str) : Prop := ∃ t t2, v = .ref t ∧ H t = some (.tup [.ref t2, .str k.2]) ∧ PrH H (.ref t2) k.1
theorem PrH.same {H H' : Hp} {v : V} {p : Int × Str} (h : PrH H v p) (s : ∀ b xs, H b = some (.tup xs) → H' b = some (.tup xs)) : PrH H' v p := let ⟨t, e, z⟩ := h; ⟨t, e, s _ _ z⟩
theorem KyH.same {H H' : Hp} {v : V} {p : (Int × Str) × Str} (h : KyH H v p) (s : ∀ b xs, H b = some (.tup xs) → H' b = some (.tup xs)) : KyH H' v p := let ⟨t, t2, e, z, q⟩ := h; ⟨t, t2, e, s _ _ z, q.same s⟩
theorem PrH.at {X : Cx} {pins : List (Addr × Obj)} {σ : St} {H : Hp} {s : Shared} {v : V} {u : Value} {p : Int × Str} (I : Inv X pins σ H s) (r : RelV v u) (h : PrH H v p) : PairAt s.heap u p := by
  obtain ⟨t, rfl, ht⟩ := h
  cases r
  obtain ⟨its, rv, pl, hz⟩ := I.tuple (SqT.of ht)
  cases rv with
  | cons a1 b1 =>
    cases b1 with
    | cons a2 b2 =>
      cases b2
      obtain ⟨t1, rfl⟩ := a1
      obtain ⟨t2, rfl⟩ := a2
      exact ⟨t, t1, t2, rfl, pl⟩
theorem KyH.at {X : Cx} {pins : List (Addr × Obj)} {σ : St} {H : Hp} {s : Shared} {v : V} {u : Value} {k : (Int × Str) × Str} (I : Inv X pins σ H s) (r : RelV v u) (h : KyH H v k) : KeyAt s.heap u k := by
  obtain ⟨t, l, rfl, ht, hp⟩ := h
  cases r
  obtain ⟨its, rv, pl, hz⟩ := I.tuple (SqT.of ht)
  cases rv with
  | cons a1 b1 =>
    cases b1 with
    | cons a2 b2 =>
      cases b2
      cases a1
      obtain ⟨t2, rfl⟩ := a2
      exact ⟨t, l, t2, rfl, pl, hp.at I (show RelV (V.ref l) (Value.ref l) from rfl)⟩
end L2
set_option Elab.async false
set_option linter.all false
set_option maxRecDepth 100000
set_option maxHeartbeats 4000000
namespace L2
open PySem PySem.Spec PyProof.Rows
def leP (p q : Int × Str) : Prop := p.1 < q.1 ∨ (p.1 = q.1 ∧ ¬ q.2.cps.toList < p.2.cps.toList)
theorem leP.trans {p q r : Int × Str} (h1 : leP p q) (h2 : leP q r) : leP p r := by
  rcases h1 with a | ⟨a, b⟩ <;> rcases h2 with c | ⟨c, d⟩
  · exact .inl (by omega)
  · exact .inl (by omega)
  · exact .inl (by omega)
  · exact .inr ⟨by omega, List.not_lt.mpr (List.le_trans (List.not_lt.mp b) (List.not_lt.mp d))⟩
theorem leP.anti {p q : Int × Str} (h1 : leP p q) (h2 : leP q p) : p = q := by
  rcases h1 with a | ⟨a, b⟩ <;> rcases h2 with c | ⟨c, d⟩
  · omega
  · omega
  · omega
  · exact Prod.ext a (str_anti b d)
theorem leP.add {d d' l : Int} {s s' : Str} (h : leP (d, s) (d', s')) : leP (d + l, s) (d' + l, s') := by
  rcases h with a | ⟨a, b⟩
  · have a' : d < d' := a
    exact .inl (show d + l < d' + l by omega)
  · have a' : d = d' := a
    exact .inr ⟨show d + l = d' + l by omega, b⟩
theorem leP.up {d d' : Int} {s : Str} (h : d ≤ d') : leP (d, s) (d', s) := by
  by_cases e : d = d'
  · exact .inr ⟨e, List.lt_irrefl _⟩
  · exact .inl (show d < d' by omega)
theorem leP.fst {p q : Int × Str} (h : leP p q) : p.1 ≤ q.1 := by
  rcases h with a | ⟨a, _⟩ <;> omega
def Edge (ws : List Way) (x y : Str) (l : Int) : Prop := ∃ u ∈ ws, ((u.1 = x ∧ u.2.1 = y) ∨ (u.1 = y ∧ u.2.1 = x)) ∧ u.2.2 = l
theorem Edge.symm {ws : List Way} {x y : Str} {l : Int} (h : Edge ws x y l) : Edge ws y x l := let ⟨u, hu, e, z⟩ := h; ⟨u, hu, e.symm, z⟩
inductive Wsum (ws : List Way) : Str → Str → Int → Prop
  | nil (x : Str) : Wsum ws x x 0
  | cons {x y z : Str} {l m : Int} : Edge ws x y l → Wsum ws y z m → Wsum ws x z (l + m)
theorem Wsum.app {ws : List Way} {x y z : Str} {m n : Int} (h : Wsum ws x y m) (g : Wsum ws y z n) : Wsum ws x z (m + n) := by
  induction h with
  | nil x => rw [Int.zero_add]; exact g
  | cons e _ ih => rw [Int.add_assoc]; exact .cons e (ih g)
theorem Wsum.snoc {ws : List Way} {x y z : Str} {m l : Int} (h : Wsum ws x y m) (e : Edge ws y z l) : Wsum ws x z (m + l) := by
  have := h.app (.cons e (.nil z))
  rwa [Int.add_zero] at this
theorem Wsum.symm {ws : List Way} {x y : Str} {m : Int} (h : Wsum ws x y m) : Wsum ws y x m := by
  induction h with
  | nil x => exact .nil x
  | @cons x y z l m e _ ih => rw [Int.add_comm]; exact ih.snoc e.symm
theorem Wsum.pos {ws : List Way} (hp : ∀ u ∈ ws, 1 ≤ u.2.2) {x y : Str} {m : Int} (h : Wsum ws x y m) : 0 ≤ m := by
  induction h with
  | nil x => exact Int.le_refl _
  | cons e _ ih =>
    obtain ⟨u, hu, _, rfl⟩ := e
    have := hp u hu
    omega
/-- the nearest of the starts, of several the first by name -/
def Near (ws : List Way) (ss : List Str) (y : Str) (p : Int × Str) : Prop := (p.2 ∈ ss ∧ Wsum ws p.2 y p.1) ∧ ∀ s ∈ ss, ∀ m, Wsum ws s y m → leP p (m, s)
theorem Near.uniq {ws : List Way} {ss : List Str} {y : Str} {p q : Int × Str} (h : Near ws ss y p) (g : Near ws ss y q) : p = q :=
  (h.2 q.2 g.1.1 q.1 g.1.2).anti (g.2 p.2 h.1.1 p.1 h.1.2)
/-- what is known while the places are settled: S settled, R reached -/
structure Dij (ws : List Way) (ss : List Str) (S R : Str → Int × Str → Prop) : Prop where
  near : ∀ y p, S y p → Near ws ss y p
  reach : ∀ y p, R y p → p.2 ∈ ss ∧ Wsum ws p.2 y p.1
  relax : ∀ x p y l, S x p → Edge ws x y l → (∃ q, S y q) ∨ ∃ q, R y q ∧ leP q (p.1 + l, p.2)
  start : ∀ s ∈ ss, (∃ q, S s q) ∨ ∃ q, R s q ∧ leP q (0, s)
theorem Dij.out {ws : List Way} {ss : List Str} {S R : Str → Int × Str → Prop} (h : Dij ws ss S R) (hp : ∀ u ∈ ws, 1 ≤ u.2.2) {x z : Str} {m : Int} (g : Wsum ws x z m) (hz : ∀ q, ¬ S z q) : ∀ p, S x p → ∃ y q, R y q ∧ leP q (p.1 + m, p.2) := by
  induction g with
  | nil x => intro p hp'; exact absurd hp' (hz p)
  | @cons x y z l m e g ih =>
    intro p hx
    rcases h.relax x p y l hx e with ⟨q, hq⟩ | ⟨q, hq, le⟩
    · obtain ⟨y', q', h1, h2⟩ := ih hz q hq
      refine ⟨y', q', h1, h2.trans ?_⟩
      have n1 := (h.near y q hq).2 p.2 (h.near x p hx).1.1 (p.1 + l) ((h.near x p hx).1.2.snoc e)
      have := n1.add (l := m)
      rw [Int.add_assoc] at this
      exact this
    · exact ⟨y, q, hq, le.trans (leP.up (by have := g.pos hp; omega))⟩
end L2
set_option Elab.async false
set_option linter.all false
set_option maxRecDepth 100000
set_option maxHeartbeats 4000000
namespace L2
open PySem PySem.Spec PyProof.Rows
theorem sK_inj {a b : List (Str × V)} (h : sK a = sK b) : a = b := by
  unfold sK at h
  exact List.map_inj_right (fun x y z => by
    simp only [Prod.mk.injEq, Sum.inr.injEq] at z
    exact Prod.ext z.1 z.2) |>.mp h
/-- the lengths that lie beside each place -/
def NBV (H : Hp) (ps : List Str) (ds : List Addr) (Ed : Str → Str → Int → Prop) : Prop := ∀ (i : Nat) (p : Str) (d : Addr) (nv : List (Str × V)), ps[i]? = some p → ds[i]? = some d → Rd H d (.dK (sK nv)) → ∀ y v, (y, v) ∈ nv → ∃ l, v = .int l ∧ Ed p y l
theorem Rd.inj {H : Hp} {d : Addr} {a b : List (Str × V)} (h : Rd H d (.dK (sK a))) (g : Rd H d (.dK (sK b))) : a = b := by
  rcases h with h | ⟨o, h⟩ <;> rcases g with g | ⟨o', g⟩ <;> have e := Option.some.inj (h.symm.trans g)
  · injection e with e; exact sK_inj e
  · exact nomatch e
  · exact nomatch e
  · injection e with _ e
    injection e with e; exact sK_inj e
/-- a dict of pairs -/
def PrD (H : Hp) (nv : List (Str × V)) (S : Str → Int × Str → Prop) : Prop := (nv.map (·.1)).Nodup ∧ (∀ y v, (y, v) ∈ nv → ∃ p, PrH H v p ∧ S y p) ∧ ∀ y p, S y p → ∃ v, (y, v) ∈ nv ∧ PrH H v p
end L2
set_option Elab.async false
set_option linter.all false
set_option maxRecDepth 100000
set_option maxHeartbeats 4000000
namespace L2
open PySem PySem.Spec PyProof.Rows
theorem NR.same {H H' : Hp} {B : Addr} {ps : List Str} {ds : List Addr} {P : Str → Str → Prop} (h : NR H B ps ds P) (s : Same H H') : NR H' B ps ds P :=
  ⟨s _ _ h.top, h.len, h.nd, h.nB, fun i p d e1 e2 => let ⟨nv, a1, a3⟩ := h.inner i p d e1 e2
    ⟨nv, (by rcases a1 with a | ⟨o, a⟩; exact .inl (s _ _ a); exact .inr ⟨o, s _ _ a⟩), a3⟩⟩
theorem NBV.of {H H' : Hp} {B : Addr} {ps : List Str} {ds : List Addr} {P : Str → Str → Prop} {Ed : Str → Str → Int → Prop} (h : NBV H ps ds Ed) (nr : NR H B ps ds P) (k : ∀ d ∈ ds, ∀ nv : List (Str × V), Rd H d (.dK (sK nv)) → Rd H' d (.dK (sK nv))) : NBV H' ps ds Ed := by
  intro i p d nv e1 e2 hr y v hy
  obtain ⟨nw, a1, _⟩ := nr.inner i p d e1 e2
  have := Rd.inj hr (k d (List.mem_of_getElem? e2) nw a1)
  subst this
  exact h i p d nv e1 e2 a1 y v hy
theorem PrD.same {H H' : Hp} {nv : List (Str × V)} {S : Str → Int × Str → Prop} (h : PrD H nv S) (s : ∀ b xs, H b = some (.tup xs) → H' b = some (.tup xs)) : PrD H' nv S :=
  ⟨h.1, fun y v hv => let ⟨p, a, b⟩ := h.2.1 y v hv; ⟨p, a.same s, b⟩, fun y p hp => let ⟨v, a, b⟩ := h.2.2 y p hp; ⟨v, a, b.same s⟩⟩
theorem PrD.drop {H : Hp} {nv : List (Str × V)} {S : Str → Int × Str → Prop} (h : PrD H nv S) (y : Str) : PrD H (nv.filter fun q => decide (q.1 ≠ y)) (fun z q => z ≠ y ∧ S z q) := by
  refine ⟨nodup_map_filter h.1 _, fun z x hz => ?_, fun z q hq => ?_⟩
  · obtain ⟨a, b⟩ := List.mem_filter.mp hz
    obtain ⟨q, c, d⟩ := h.2.1 z x a
    exact ⟨q, c, by simpa using b, d⟩
  · obtain ⟨n, hq⟩ := hq
    obtain ⟨x, a, b⟩ := h.2.2 z q hq
    exact ⟨x, List.mem_filter.mpr ⟨a, by simpa using n⟩, b⟩
/-- the heap while the places are settled -/
structure NI (H H2 : Hp) (ps : List Str) (ws : List Way) (B RA SA : Addr) (ds : List Addr) (nvR nvS : List (Str × V)) (S R : Str → Int × Str → Prop) : Prop where
  same : Same H H2
  nr : NR H2 B ps ds (Adj ws)
  nbv : NBV H2 ps ds (Edge ws)
  dR : H2 RA = some (.dK (sK nvR))
  dS : H2 SA = some (.dK (sK nvS))
  pR : PrD H2 nvR R
  pS : PrD H2 nvS S
  subR : ∀ y ∈ nvR.map (·.1), y ∈ ps
  subS : ∀ y ∈ nvS.map (·.1), y ∈ ps
section
variable {H H2 H3 : Hp} {ps : List Str} {ws : List Way} {B RA SA : Addr} {ds : List Addr} {nvR nvS : List (Str × V)} {S R : Str → Int × Str → Prop}
theorem NI.frz (h : NI H H2 ps ws B RA SA ds nvR nvS S R) (aR : RA ∉ ds) (aS : SA ∉ ds) (fr : ∀ d ∈ ds, H d = none) {i : Nat} {p : Str} {d : Addr} (e1 : ps[i]? = some p) (e2 : ds[i]? = some d) {nv : List (Str × V)} {o : Obj} (f : Frozen H2 d (sK nv) o H3) (hP : ∀ y, y ∈ nv.map (·.1) ↔ Adj ws p y) : NI H H3 ps ws B RA SA ds nvR nvS S R := by
  have dm : d ∈ ds := List.mem_of_getElem? e2
  have tu : ∀ b xs, H2 b = some (.tup xs) → H3 b = some (.tup xs) := fun b xs z => by
    rw [f.ne (by
      rintro rfl
      rcases f with ⟨g, _⟩ | ⟨g, _⟩ <;> (rw [z] at g; cases g))]
    exact z
  refine ⟨fun b u z => by rw [f.ne (ne_of_none z (fr d dm))]; exact h.same _ _ z, h.nr.freeze e1 e2 f hP, h.nbv.of h.nr fun c hc nw z => ?_, by rw [f.ne (fun z => aR (by rw [z]; exact dm))]; exact h.dR, by rw [f.ne (fun z => aS (by rw [z]; exact dm))]; exact h.dS, h.pR.same tu, h.pS.same tu, h.subR, h.subS⟩
  by_cases hcd : c = d
  · subst hcd
    rcases f with ⟨g, e⟩ | ⟨g, e⟩
    · have := Rd.inj z (.inl g)
      subst this
      exact .inr ⟨o, by rw [e]; exact upd_same⟩
    · rw [e]; exact z
  · exact z.fz f hcd
end
end L2
set_option Elab.async false
set_option linter.all false
set_option maxRecDepth 100000
set_option maxHeartbeats 4000000
namespace L2
open PySem PySem.Spec PyProof.Rows
end L2
set_option Elab.async false
set_option linter.all false
set_option maxRecDepth 100000
set_option maxHeartbeats 4000000
namespace L2
open PySem PySem.Spec PyProof.Rows
section
variable {prog : Program} {w : World} {A : Around} {R : Result → Shared → Prop} {g0 : Heap} {D it l : Addr} {vs : List Value} {ps : List (Str × V)}
end
end L2
set_option Elab.async false
set_option linter.all false
set_option maxRecDepth 100000
set_option maxHeartbeats 4000000
namespace L2
open PySem PySem.Spec PyProof.Rows
section
variable {prog : Program} {w : World} {A : Around} {E : Value → Shared → Prop} {s : Shared}
end
end L2
set_option Elab.async false
set_option linter.all false
set_option maxRecDepth 100000
set_option maxHeartbeats 4000000
namespace L2
open PySem PySem.Spec PyProof.Rows
/-- the least sum -/
def Dst (ws : List Way) (x y : Str) (n : Int) : Prop := Wsum ws x y n ∧ ∀ m, Wsum ws x y m → n ≤ m
theorem Dst.near {ws : List Way} {x y : Str} {n : Int} (h : Dst ws x y n) : Near ws [x] y (n, x) := ⟨⟨by simp, h.1⟩, fun s hs m g => by
  have : s = x := by simpa using hs
  subst this
  exact leP.up (h.2 m g)⟩
theorem Dst.uniq {ws : List Way} {x y : Str} {n m : Int} (h : Dst ws x y n) (g : Dst ws x y m) : n = m := Int.le_antisymm (h.2 m g.1) (g.2 n h.1)
theorem Dst.symm {ws : List Way} {x y : Str} {n : Int} (h : Dst ws x y n) : Dst ws y x n := ⟨h.1.symm, fun m g => h.2 m g.symm⟩
inductive WI (ws : List Way) (I : Str → Prop) : Str → Str → Int → Prop
  | edge {x y : Str} {l : Int} : Edge ws x y l → WI ws I x y l
  | cons {x y z : Str} {l m : Int} : Edge ws x y l → I y → WI ws I y z m → WI ws I x z (l + m)
theorem WI.pos {ws : List Way} (hp : ∀ u ∈ ws, 1 ≤ u.2.2) {I : Str → Prop} {x y : Str} {m : Int} (h : WI ws I x y m) : 0 ≤ m := by
  induction h with
  | edge e => obtain ⟨u, hu, _, rfl⟩ := e; have := hp u hu; omega
  | cons e _ _ ih => obtain ⟨u, hu, _, rfl⟩ := e; have := hp u hu; omega
theorem WI.ends {ws : List Way} {xs : List Str} (he : ∀ u ∈ ws, u.1 ∈ xs ∧ u.2.1 ∈ xs) {x y : Str} {l : Int} (e : Edge ws x y l) : x ∈ xs ∧ y ∈ xs := by
  obtain ⟨u, hu, h, _⟩ := e
  obtain ⟨a, b⟩ := he u hu
  rcases h with ⟨rfl, rfl⟩ | ⟨rfl, rfl⟩
  · exact ⟨a, b⟩
  · exact ⟨b, a⟩
def Mono (M0 M : Str → Str → Option Int) : Prop := ∀ x y n, M0 x y = some n → ∃ n', M x y = some n' ∧ n' ≤ n
theorem Mono.trans {M0 M1 M2 : Str → Str → Option Int} (h : Mono M0 M1) (g : Mono M1 M2) : Mono M0 M2 := fun x y n e => by
  obtain ⟨n1, e1, l1⟩ := h x y n e
  obtain ⟨n2, e2, l2⟩ := g x y n1 e1
  exact ⟨n2, e2, by omega⟩
/-- a dict of ints by two texts -/
def MD (H : Hp) (A : Addr) (M : Str → Str → Option Int) (c : Nat) : Prop := ∃ kvs : List (List Key × V), H A = some (.dT kvs) ∧ kvs.length ≤ c ∧ ∀ x y, valV kvs [Sum.inr x, Sum.inr y] = (M x y).map V.int
theorem MD.same {H H' : Hp} {A : Addr} {M : Str → Str → Option Int} {c : Nat} (h : MD H A M c) (s : Same H H') : MD H' A M c := let ⟨kvs, a, b, d⟩ := h; ⟨kvs, s _ _ a, b, d⟩
theorem MD.get {H : Hp} {A t : Addr} {M : Str → Str → Option Int} {c : Nat} (h : MD H A M c) {x y : Str} (ht : H t = some (.tup [.str x, .str y])) : DGet H A (.ref t) ((M x y).map V.int) := by
  obtain ⟨kvs, a, _, d⟩ := h
  rw [← d x y]
  exact DGet.t (k := [Sum.inr x, Sum.inr y]) a ht
end L2
set_option Elab.async false
set_option linter.all false
set_option maxRecDepth 100000
set_option maxHeartbeats 4000000
namespace L2
open PySem PySem.Spec PySem.W PyProof.Rows
def wk (u : Way) : List Atm := [.s u.1, .s u.2.1, .i u.2.2]
def Rise (ws : List Way) : Prop := ws.Pairwise (fun u v => lexLt (wk v) (wk u) = false)
theorem way_tupK {H : Hp} {v : V} {u : Way} (h : Dat H v (wayD u)) : TupK H (fun i => decide (i < 2)) v ∧ keyV H v = wk u := by
  obtain ⟨w, t, e1, rfl, ht⟩ := dats_way (i := 0) (ws := [u]) (Dats.cons h .nil) rfl
  cases e1
  refine ⟨⟨t, _, rfl, ht, by simp, fun i y e => ?_⟩, ?_⟩
  · unfold KindV
    match i, e with
    | 0, e => cases e; simp
    | 1, e => cases e; simp
    | 2, e => cases e; simp
    | n + 3, e => simp at e
  · show (match H t with | some (.tup ys) => ys.map vAtm | _ => []) = _
    rw [ht]
    rfl
theorem ways_tupK {H : Hp} : ∀ {vs : List V} {ws : List Way}, Dats H vs (ws.map wayD) → (∀ v ∈ vs, TupK H (fun i => decide (i < 2)) v) ∧ vs.map (keyV H) = ws.map wk
  | _, [], .nil => ⟨(fun v hv => nomatch hv), rfl⟩
  | _, u :: ws, .cons h r => by
    obtain ⟨a1, a2⟩ := way_tupK h
    obtain ⟨b1, b2⟩ := ways_tupK r
    refine ⟨fun v hv => ?_, by rw [List.map_cons, List.map_cons, a2, b2]⟩
    rcases List.mem_cons.mp hv with rfl | hv
    · exact a1
    · exact b1 v hv
theorem call_sorted_waysG {X : Cx} : CallR X (.builtin "sorted") (fun xs H Q => ∃ (a : Addr) (vs : List V) (ws : List Way), xs = [.ref a] ∧ SqL X.K H a vs ∧ Dats H vs (ws.map wayD) ∧
    ∀ (l : Addr) (vs' : List V) (ws' : List Way), H l = none → Dats H vs' (ws'.map wayD) → ws'.Perm ws → Rise ws' → Q (.ref l) (upd H l (.lst vs'))) := by
  intro pins s σ H xs us Q I r h
  obtain ⟨a, vs, ws, rfl, ha, hd, q⟩ := h
  refine call_sorted_tups pins s σ H _ us Q I r ⟨a, vs, _, rfl, ha, (ways_tupK hd).1, fun l vs' hl pv rise => ?_⟩
  obtain ⟨ws', d1, p1⟩ := dats_perm pv hd
  refine q l vs' ws' hl d1 p1 ?_
  have e := (ways_tupK d1).2
  have p2 : (vs'.map (keyV H)).Pairwise (fun a b => lexLt b a = false) := List.pairwise_map.mpr rise
  rw [e] at p2
  exact List.pairwise_map.mp p2
structure WebN (H : Hp) (q : Addr) (ps : List Str) (ws : List Way) : Prop where
  web : Web H q ps ws
  nd : ps.Nodup
  l30 : ps.length ≤ 30
  lim : ws.length ≤ 450
  ends : ∀ u ∈ ws, u.1 ∈ ps ∧ u.2.1 ∈ ps
theorem WebN.same {H H' : Hp} {q : Addr} {ps : List Str} {ws : List Way} (h : WebN H q ps ws) (s : Same H H') : WebN H' q ps ws :=
  ⟨h.web.same fun b xs z => s _ _ z, h.nd, h.l30, h.lim, h.ends⟩
end L2
set_option Elab.async false
set_option linter.all false
set_option maxRecDepth 100000
namespace L2
open PySem PySem.Spec PyProof.Rows
def penL (a b c : Int) : List V := [.int a, .int b, .int c]
theorem penL_0 (a b c : Int) : atI (penL a b c) 0 = some (.int a) := rfl
theorem penL_1 (a b c : Int) : atI (penL a b c) 1 = some (.int b) := rfl
theorem penL_2 (a b c : Int) : atI (penL a b c) 2 = some (.int c) := rfl
/-- a pen of three numbers stands at p -/
def PnAt (H : Hp) (p : Addr) : Prop := ∃ a b c : Int, H p = some (.lst (penL a b c))
def spPenL (K : PySem.W.Frag) : Sp := fun vs H Q _ => ∃ (a : Addr) (ns : List Int) (k : Int), vs = [.ref a, .int k] ∧ Scr K H a (ns.map V.int) ∧ 0 ≤ k ∧
  ∀ (p : Addr) (x y : Int), H p = none → Q (.ref p) (upd H p (.lst (penL x y 0)))
def spDraw : Sp := fun vs H Q _ => ∃ (p : Addr) (m : Int), vs = [.ref p, .int m] ∧ PnAt H p ∧ 0 < m ∧ m < 1073741824 ∧
  ∀ (d a b c : Int), 0 ≤ d → d < m → Q (.int d) (upd H p (.lst (penL a b c)))
theorem PnAt.set {H : Hp} {p : Addr} (a b c : Int) : PnAt (upd H p (.lst (penL a b c))) p := ⟨a, b, c, upd_same⟩
/-- a number from a least one on -/
def spGreat : Sp := fun vs H Q _ => ∃ (p : Addr) (lo sz : Int), vs = [.ref p, .int lo, .int sz] ∧ PnAt H p ∧ 0 ≤ lo ∧ lo ≤ 1000 ∧ 0 < sz ∧ sz ≤ 1000 ∧
  ∀ (n a b c : Int), lo ≤ n → n < 10 ^ 30 → Q (.int n) (upd H p (.lst (penL a b c)))
theorem PnAt.other {H : Hp} {p D : Addr} {o : HO} (h : PnAt H p) (ne : D ≠ p) : PnAt (upd H D o) p := by
  obtain ⟨a, b, c, e⟩ := h
  exact ⟨a, b, c, by rw [upd_ne ne.symm]; exact e⟩
theorem PnAt.ne {H : Hp} {p q : Addr} (h : PnAt H p) (e : H q = none) : q ≠ p := by
  obtain ⟨a, b, c, h⟩ := h
  intro z; subst z; rw [h] at e; cases e
/-- one or more of some things, in a drawn order -/
def spSome (K : PySem.W.Frag) : Sp := fun vs H Q _ => ∃ (p t : Addr) (ts : List Str) (m : Int), vs = [.ref p, .ref t, .int m] ∧ PnAt H p ∧ SqT K H t (ts.map V.str) ∧ 1 ≤ ts.length ∧ ts.length ≤ 1000 ∧ 1 ≤ m ∧ m ≤ 1000 ∧
  ∀ (H' : Hp) (D : Addr) (xs ys : List Str), PnAt H' p → Keep p H H' → H D = none → H' D = some (.lst (xs.map V.str)) → (xs ++ ys).Perm ts → 1 ≤ xs.length → (xs.length : Int) ≤ m → Q (.ref D) H'
theorem cons_erase_perm {α : Type} : ∀ {ys : List α} {k : Nat} {y : α}, ys[k]? = some y → (y :: ys.eraseIdx k).Perm ys
  | [], k, y, e => by simp at e
  | x :: ys, 0, y, e => by
    simp at e
    subst e
    exact List.Perm.refl _
  | x :: ys, k + 1, y, e => by
    simp at e
    exact (List.Perm.swap x y _).trans ((cons_erase_perm e).cons x)
theorem map_erase {α β : Type} (f : α → β) : ∀ (ys : List α) (k : Nat), (ys.map f).eraseIdx k = (ys.eraseIdx k).map f
  | [], k => by simp
  | x :: ys, 0 => rfl
  | x :: ys, k + 1 => by
    show f x :: (ys.map f).eraseIdx k = f x :: (ys.eraseIdx k).map f
    rw [map_erase f ys k]
theorem pop_perm {α : Type} {xs ys ts : List α} {k : Nat} {y : α} (h : (xs ++ ys).Perm ts) (e : ys[k]? = some y) : ((xs ++ [y]) ++ ys.eraseIdx k).Perm ts := by
  refine List.Perm.trans ?_ h
  rw [List.append_assoc]
  refine List.Perm.append_left xs ?_
  exact cons_erase_perm e
end L2
set_option Elab.async false
set_option linter.all false
set_option maxRecDepth 100000
namespace L2
open PySem PySem.Spec PyProof.Rows
theorem strs_are : ∀ {ss : List Str} {us : List Value}, Vals (ss.map V.str) us → StrsAre us ss
  | [], _, .nil => .nil
  | _ :: _, _, .cons r q => by
    obtain ⟨t, rfl⟩ := r
    exact .cons _ t (strs_are q)
/-- sep.join(list of texts) -/
theorem mt_join {X : Cx} : MtM X "str.join" (fun x vs H Q => ∃ (z : Str) (a : Addr) (ss : List Str), x = .str z ∧ vs = [.ref a] ∧ H a = some (.lst (ss.map V.str)) ∧ z.length ≤ 16 ∧ (ss.map (·.length)).sum + ss.length ≤ 1048576 ∧ Q (.str (Txt.join z ss)) H) := by
  intro pins s σ H x vs v us Q I rx rv h
  obtain ⟨z, a, ss, rfl, rfl, hH, hz, hw, q⟩ := h
  obtain ⟨t, rfl⟩ := rx
  obtain ⟨u, rfl, ru⟩ := rv.one
  cases ru
  obtain ⟨_, its, n, r, _, e⟩ := I.lstM hH
  refine join_listW (ys := ss) ⟨_, e, rfl, n, rfl⟩ (by rw [List.toList_toArray]; exact strs_are r) hz hw fun t' k => ?_
  exact ⟨.str (Txt.join z ss), H, I.tok k, ⟨t', rfl⟩, q⟩
theorem join_cps (ss : List Str) : (Txt.join (Str.ofString "") ss).cps.toList = (ss.map fun s => s.cps.toList).flatten := by
  unfold Txt.join
  rw [PySem.StrLaws.glued_eq_join]
  induction ss with
  | nil => rfl
  | cons x r ih =>
    cases r with
    | nil => 
      show x.cps.toList = _
      simp
    | cons y r =>
      have e : Str.join (Str.ofString "") (x :: y :: r) = x ++ Str.ofString "" ++ Str.join (Str.ofString "") (y :: r) := rfl
      rw [e, List.map_cons, List.flatten_cons, ← ih]
      show ((x.cps ++ #[]) ++ (Str.join (Str.ofString "") (y :: r)).cps).toList = _
      simp
/-- [letters[draw(pen, 26)] for .. in range(n)]: n texts of one small letter -/
theorem read_draws {g : TG} {te : TE} {H : Hp} {p : Addr} {R : Addr → Hp → Prop} (n : Nat) (hg : ∀ (x : V) (v a b : Option V) (H : Hp) (Q : St → Hp → Prop), Q [some x, a, b] H → g x [v, a, b] H Q)
    (hte : ∀ (v : Option V) (H' : Hp), PnAt H' p → ∀ Q : VK, (∀ (c : Nat) (a b d : Int), lowc c = true → Q (.str ⟨#[c]⟩) (upd H' p (.lst (penL a b d)))) → te [v, some (.str letters), some (.ref p)] H' Q)
    (hn : n ≤ 1000) (hP : PnAt H p)
    (k : ∀ (H' : Hp) (D : Addr) (ss : List Str), PnAt H' p → Keep p H H' → H' D = some (.lst (ss.map V.str)) → ss.length = n → (∀ s ∈ ss, s.length = 1 ∧ Low s) → R D H') :
    ∀ D, H D = none → ∃ W : Nat → Nat → St → Hp → Prop, (∃ m, W 0 m [none, some (.str letters), some (.ref p)] (upd H D (.lst []))) ∧
      ∀ i m σ' H', W i m σ' H' → ((Itr 0 n).stop i H' ∧ R D H') ∨ ((Itr 0 n).go i H' ∧ ∀ x H2, (Itr 0 n).yld i H' x H2 → g x σ' H2 fun σ2 H3 => tYes σ2 H3 fun b H4 =>
        if b = true then te σ2 H4 (fun v H5 => ∃ acc, H5 D = some (.lst acc) ∧ acc.length < sizeLine ∧ ∃ m', m' < m ∧ W (i + 1) m' σ2 (upd H5 D (.lst (acc ++ [v])))) else ∃ m', m' < m ∧ W (i + 1) m' σ2 H4) := by
  intro D hD
  have big : 1000 < sizeLine := by decide
  have pD : D ≠ p := hP.ne hD
  refine ⟨fun i m σ' H' => m = n - i ∧ i ≤ n ∧ (∃ v, σ' = [v, some (.str letters), some (.ref p)]) ∧ ∃ ss : List Str, PnAt H' p ∧ Keep p H H' ∧ H' D = some (.lst (ss.map V.str)) ∧ ss.length = i ∧ ∀ s ∈ ss, s.length = 1 ∧ Low s,
    ⟨n, rfl, Nat.zero_le _, ⟨_, rfl⟩, [], hP.other pD, Keep.of_same (same_upd hD), upd_same, rfl, fun s hs => nomatch hs⟩, ?_⟩
  rintro i m σ' H' ⟨rfl, hi, ⟨v, rfl⟩, ss, P1, k1, d1, l1, o1⟩
  by_cases hlt : i < n
  · refine .inr ⟨hlt, ?_⟩
    rintro x H2 ⟨rfl, rfl⟩
    refine hg _ _ _ _ _ _ ?_
    unfold tYes
    dsimp only
    rw [if_pos rfl]
    refine hte _ _ P1 _ fun c a b d hc => ?_
    refine ⟨ss.map V.str, by rw [upd_ne pD]; exact d1, by rw [List.length_map]; omega, n - (i + 1), by omega, rfl, hlt, ⟨_, rfl⟩, ss ++ [⟨#[c]⟩], (PnAt.set a b d).other pD, fun b' o hb e => ?_, ?_, by rw [List.length_append, l1]; rfl, fun s hs => ?_⟩
    · rw [upd_ne (by intro z; subst z; rw [hD] at e; cases e), upd_ne hb]
      exact k1 b' o hb e
    · rw [upd_same, List.map_append]; rfl
    · rcases List.mem_append.mp hs with h | h
      · exact o1 s h
      · rw [List.mem_singleton] at h
        subst h
        refine ⟨rfl, fun c' hc' => ?_⟩
        have : c' = c := by simpa using hc'
        subst this
        exact hc
  · have e : i = n := by omega
    subst e
    exact .inl ⟨Nat.le_refl _, k H' D ss P1 k1 d1 l1 o1⟩
theorem join_low {ss : List Str} (h : ∀ s ∈ ss, s.length = 1 ∧ Low s) : Low (Txt.join (Str.ofString "") ss) ∧ (Txt.join (Str.ofString "") ss).length = ss.length ∧ (ss.map (·.length)).sum = ss.length := by
  have e : ∀ l : List Str, (∀ s ∈ l, s.length = 1 ∧ Low s) → ((l.map fun s => s.cps.toList).flatten).length = l.length ∧ (l.map (·.length)).sum = l.length := by
    intro l
    induction l with
    | nil => intro _; exact ⟨rfl, rfl⟩
    | cons x r ih =>
      intro h
      obtain ⟨i1, i2⟩ := ih fun s hs => h s (List.mem_cons_of_mem _ hs)
      have hx : x.cps.size = 1 := (h x (List.mem_cons_self ..)).1
      constructor
      · rw [List.map_cons, List.flatten_cons, List.length_append, i1, Array.length_toList, hx, List.length_cons]
        omega
      · rw [List.map_cons, List.sum_cons, i2, List.length_cons]
        show x.cps.size + r.length = r.length + 1
        omega
  refine ⟨fun c hc => ?_, ?_, (e ss h).2⟩
  · rw [join_cps] at hc
    obtain ⟨l, hl, hcl⟩ := List.mem_flatten.mp hc
    obtain ⟨s, hs, rfl⟩ := List.mem_map.mp hl
    exact (h s hs).2 c hcl
  · show (Txt.join (Str.ofString "") ss).cps.size = _
    rw [← Array.length_toList, join_cps]
    exact (e ss h).1
end L2
set_option Elab.async false
set_option linter.all false
set_option maxRecDepth 100000
namespace L2
open PySem PySem.Spec PyProof.Rows
theorem names_nodup {xs : List Str} {hd : List Nat} {f : Nat → List Nat} (h : ∀ i x, xs[i]? = some x → ∃ tl, x.cps.toList = hd ++ (f i ++ tl)) (hf : ∀ i j, i < j → j < xs.length → ∀ tl tl', f i ++ tl ≠ f j ++ tl') : xs.Nodup := by
  refine List.pairwise_iff_getElem.mpr fun i j hi hj hij e => ?_
  obtain ⟨tl, h1⟩ := h i _ (List.getElem?_eq_getElem hi)
  obtain ⟨tl', h2⟩ := h j _ (List.getElem?_eq_getElem hj)
  rw [e, h2] at h1
  exact hf i j hij hj tl tl' (List.append_cancel_left h1).symm
/-- the letters by which names differ -/
def ownL (n : Nat) (st sp : Int) (k : Nat) : List Nat := if 26 < n then [97 + ((st + sp * k) % 26).toNat, 97 + k / 26] else [97 + ((st + sp * k) % 26).toNat]
theorem own_ne {n : Nat} {st sp : Int} (hn : n ≤ 52) (hs : sp ∈ ([1, 3, 5, 7, 9, 11, 15, 17] : List Int)) {i j : Nat} (hij : i < j) (hj : j < n) (tl tl' : List Nat) : ownL n st sp i ++ tl ≠ ownL n st sp j ++ tl' := by
  have key : ((st + sp * i) % 26).toNat = ((st + sp * j) % 26).toNat → (j - i) % 26 = 0 := by
    intro e
    have e2 : (st + sp * i) % 26 = (st + sp * j) % 26 := by
      have a1 := Int.emod_nonneg (st + sp * i) (show (26 : Int) ≠ 0 by decide)
      have a2 := Int.emod_nonneg (st + sp * j) (show (26 : Int) ≠ 0 by decide)
      omega
    simp only [List.mem_cons, List.not_mem_nil, or_false] at hs
    rcases hs with rfl | rfl | rfl | rfl | rfl | rfl | rfl | rfl <;> omega
  intro e
  unfold ownL at e
  by_cases h : 26 < n
  · rw [if_pos h, if_pos h] at e
    simp only [List.cons_append, List.nil_append, List.cons.injEq] at e
    have := key (by omega)
    omega
  · rw [if_neg h, if_neg h] at e
    simp only [List.cons_append, List.nil_append, List.cons.injEq] at e
    have := key (by omega)
    omega
theorem letter_atI {i : Int} (h0 : 0 ≤ i) (h1 : i < 26) : atI letters.cps.toList i = some (97 + i.toNat) := by
  obtain ⟨n, rfl⟩ : ∃ n : Nat, i = (n : Int) := ⟨i.toNat, by omega⟩
  have : ∀ m : Fin 26, atI letters.cps.toList (m.val : Int) = some (97 + ((m.val : Int)).toNat) := by decide +kernel
  exact this ⟨n, by omega⟩
def spNamesL : Sp := fun vs H Q _ => ∃ (p : Addr) (n : Nat), vs = [.ref p, .int n] ∧ PnAt H p ∧ n ≤ 52 ∧
  ∀ (H' : Hp) (D : Addr) (xs : List Str), PnAt H' p → Keep p H H' → H D = none → H' D = some (.lst (xs.map V.str)) → xs.length = n → xs.Nodup → (∀ x ∈ xs, nameB x = true) → Q (.ref D) H'
end L2
set_option Elab.async false
set_option linter.all false
set_option maxRecDepth 100000
set_option maxHeartbeats 4000000
namespace L2
open PySem PySem.Spec PyProof.Rows
section
variable {K : Type} [DecidableEq K] [BEq K] [LawfulBEq K]
/-- the first of each -/
def met (val : Nat → K) (i : Nat) : List K := ((List.range i).map val).foldl step_dedup []
theorem met_succ (val : Nat → K) (i : Nat) : met val (i + 1) = step_dedup (met val i) (val i) := by
  unfold met; rw [List.range_succ, List.map_append, List.foldl_append]; rfl
theorem stepK_any (σ : List K) (v k : K) : (step_dedup σ v).any (· == k) = (σ.any (· == k) || decide (k = v)) := by
  unfold step_dedup
  by_cases h : σ.any (· == v) = true
  · rw [if_pos h]
    by_cases e : k = v
    · subst e; rw [h]; simp
    · simp [e]
  · rw [if_neg h, List.any_append]
    by_cases e : k = v
    · subst e; simp
    · have hb : (v == k) = false := by simpa [beq_iff_eq] using (fun h' : v = k => e h'.symm)
      simp [hb, e]
theorem stepK_length (σ : List K) (v : K) : (step_dedup σ v).length = if σ.any (· == v) then σ.length else σ.length + 1 := by
  unfold step_dedup; split <;> simp
theorem met_length_le (val : Nat → K) : ∀ i, (met val i).length ≤ i
  | 0 => Nat.le_refl _
  | i + 1 => by
    rw [met_succ, stepK_length]
    have ih := met_length_le val i
    split <;> omega
theorem met_nodup {val : Nat → K} : ∀ i, (∀ a b, a < b → b < i → val a ≠ val b) → (met val i) = (List.range i).map val
  | 0, _ => rfl
  | i + 1, h => by
    rw [met_succ, met_nodup i fun a b x y => h a b x (by omega), List.range_succ, List.map_append]
    unfold step_dedup
    rw [if_neg]
    · rfl
    · intro z
      rw [List.any_eq_true] at z
      obtain ⟨x, hx, e⟩ := z
      obtain ⟨a, ha, rfl⟩ := List.mem_map.mp hx
      exact h a i (List.mem_range.mp ha) (Nat.lt_succ_self _) (eq_of_beq e)
end
section
variable {prog : Program} {w : World} {A : Around} {R : Result → Shared → Prop} {I : Addr} {fp wr : List Addr} {G : Array GenState → Array GenState → Prop} {n : Nat} {P : Nat → Value → Prop} {St : Nat → Shared → Prop}
variable {K : Type} [DecidableEq K] [BEq K] [LawfulBEq K] {knd : KeyKind prog w K}
theorem set_loopK (W : WalksS prog w A.in1 I fp wr G n P St) (S : Addr) (hSf : S ∉ fp)
    (val : Nat → K) (hval : ∀ i v, P i v → knd.is (val i) v = true ∧ v.scannable = true) (hb : n + 1 < scanBound) :
    ∀ (k i : Nat) (s : Shared), n - i = k → i ≤ n → St i s →
      s.heap.SetOf knd S (fun k' => (met val i).any (· == k')) (met val i).length →
      (∀ s', Moved (S :: wr) G s s' → s'.heap.SetOf knd S (fun k' => (met val n).any (· == k')) (met val n).length → R (.ok (.ret .none)) s') →
      codeAny (model prog w) A (.builtin "set.update.loop" ⟨[.ref S, .ref I], []⟩) R s := by
  have hSw : S ∉ wr := fun h => hSf (W.sub _ h)
  have hsub : ∀ b ∈ wr, b ∈ S :: wr := fun b hb => List.mem_cons_of_mem _ hb
  intro k
  induction k with
  | zero =>
    intro i s hk hi hst hS hR
    have hin : i = n := by omega
    subst hin
    refine codeAny_builtin F.entry_set_update_loop ?_
    rw [Around.under_plainId F.plain_set_update_loop _]
    show wpAny _ A.in1 (pyNext (.ref I) >>= _) _ _ s
    refine wpAny_bind (W.done s _ _ hst fun s' hm => ?_)
    show wpAny _ A.in1 (ret Value.none) _ _ s'
    exact wpAny_pure (hR s' (hm.mono hsub) (by
      obtain ⟨o, es, ep, t, ho, rest⟩ := hS
      exact ⟨o, es, ep, t, hm.heap S _ hSw ho, rest⟩))
  | succ k ih =>
    intro i s hk hi hst hS hR
    have hlt : i < n := by omega
    refine codeAny_builtin F.entry_set_update_loop ?_
    rw [Around.under_plainId F.plain_set_update_loop _]
    show wpAny _ A.in1 (pyNext (.ref I) >>= _) _ _ s
    refine wpAny_bind (W.item i s _ _ hlt hst fun v s' hP hst' hm => ?_)
    obtain ⟨hkv, hsc⟩ := hval i v hP
    have hS' : s'.heap.SetOf knd S (fun k' => (met val i).any (· == k')) (met val i).length := by
      obtain ⟨o, es, ep, tb, ho, rest⟩ := hS
      exact ⟨o, es, ep, tb, hm.heap S _ hSw ho, rest⟩
    show wpAny _ A.in1 (holding [v] (setAdd S v) >>= _) _ _ s'
    refine wpAny_bind (wpAny_holding ?_)
    unfold setAdd
    refine wpAny_holding ?_
    refine wpAny_bind (knd.pyHash (k := val i) hkv ?_)
    have hroom : (met val i).length + 1 < scanBound := by have := met_length_le val i; omega
    refine wpAny_setAddHashed_of (knd := knd) (s := { s' with toks := s'.toks + 1 }) hkv hsc hS' hroom fun h' hsb hS2 => ?_
    have hSi : h'.SetOf knd S (fun k' => (met val (i + 1)).any (· == k')) (met val (i + 1)).length :=
      SetOf_congr hS2 (fun k' => by rw [met_succ, stepK_any]) (by rw [met_succ, stepK_length])
    refine wpAny_pure ⟨plainId_quiet F.plain_set_update_loop _, ih (i + 1) _ (by omega) hlt (W.frame _ s' _ _ hst' (Nat.le_succ _) fun b hb o e => ?_) hSi fun s'' hm'' hS'' => ?_⟩
    · rw [hsb.2 b (fun h : b = S => hSf (by rw [← h]; exact hb))]; exact e
    · refine hR s'' (Moved.trans W.gtrans ((hm.mono hsub).then_heap (Nat.le_succ _) fun b o hb e => ?_) hm'') hS''
      rw [hsb.2 b (fun h : b = S => hb (by rw [h]; exact List.mem_cons_self))]; exact e
end
section
variable {prog : Program} {w : World} {A : Around} {E : Value → Shared → Prop} {s : Shared}
variable {K : Type} [DecidableEq K] [BEq K] [LawfulBEq K] {knd : KeyKind prog w K}
open PySem.F in
theorem set_listK {l : Addr} {items : Array Value} {val : Nat → K} {Q : Value → Shared → Prop}
    (hh : A.handled = none) (hl : s.heap.IsList l items) (hi : ∀ (i : Nat) v, items[i]? = some v → knd.is (val i) v = true ∧ v.scannable = true) (hb : items.size + 1 < scanBound)
    (h : ∀ (h' : Heap) (tk : Nat), h'.SetOf knd s.heap.objs.size (fun k' => (met val items.size).any (· == k')) (met val items.size).length →
      (∀ b o, b < s.heap.objs.size → s.heap.get? b = some o → h'.get? b = some o) → Q (.ref s.heap.objs.size) { s with heap := h', toks := tk }) :
    wpAny (model prog w) A (call (.type "set") [.ref l]) Q E s := by
  obtain ⟨c, tl, hmro⟩ := F.called_set.mro
  have hmade := F.called_set.made
  have hsub := F.called_set.sub
  refine wpAny_call (codeAny_of_tree ?_)
  show wpAny _ _ (callAny (.type "set") _) _ _ _
  refine wpAny_pure ⟨Code.quiet_builtin _ (by decide +kernel), codeAny_builtin F.entry_type_call ?_⟩
  rw [Around.under_plain (weight_type_call_type "set" [.ref l] []) rfl]
  have h1 := F.called_set.notType
  have h2 := F.called_set.canCreate
  have hct := F.typeCall_set_1 (.ref l)
  repeat (any_goals (first | assumption | wp_step))
  refine codeAny_mono (code_set_new_1 (.ref l) (E := E) (Q₁ := fun obj s₁ => ∃ led : Bool, obj = .ref s.heap.objs.size ∧ s₁ = { s with heap := s.heap.push { cls := .type "set", dict := none, data := .set #[] 0 (.fresh 0 0 led) } }) fun led => ⟨led, rfl, rfl⟩) fun r s₁ hr => ?_
  cases r with
  | error e => exact hr
  | ok fl =>
    cases fl with
    | ret obj =>
      obtain ⟨led, rfl, rfl⟩ := hr
      have hS : (s.heap.push { cls := .type "set", dict := none, data := .set #[] 0 (.fresh 0 0 led) }).get? s.heap.objs.size = some { cls := .type "set", dict := none, data := .set #[] 0 (.fresh 0 0 led) } := Heap.get?_push_size _ rfl
      have hT : Shared.TypeIs { s with heap := s.heap.push { cls := .type "set", dict := none, data := .set #[] 0 (.fresh 0 0 led) } } (.ref s.heap.objs.size) "set" := ⟨_, hS, rfl⟩
      have hli := F.called_set.init.lookup
      have hbi := F.called_set.init.bind (.ref s.heap.objs.size)
      repeat (any_goals (first | assumption | wp_step))
      refine codeAny_mono (codeAny_call_builtin (R := wants (fun r s₂ => r = .none ∧ ∃ h' tk, s₂ = { s with heap := h', toks := tk } ∧
          h'.SetOf knd s.heap.objs.size (fun k' => (met val items.size).any (· == k')) (met val items.size).length ∧
          (∀ b o, b < s.heap.objs.size → s.heap.get? b = some o → h'.get? b = some o)) E) F.called_set.init.plain F.entry_set_init (check_set_init_1 hT ?_)) fun r₂ s₂ hr₂ => ?_
      · obtain ⟨ol, hol, hcl, nl, hdl⟩ := hl
        obtain ⟨ocls, odict, odata, oslots⟩ := ol
        simp only at hcl hdl
        subst hcl; subst hdl
        have hol' : (s.heap.push { cls := .type "set", dict := none, data := .set #[] 0 (.fresh 0 0 led) }).get? l = some { cls := .type "list", dict := odict, data := .seq items nl, slots := oslots } := Heap.get?_push_of_some _ hol
        have hsls := F.sub_list_set
        have hslf := F.sub_list_frozenset
        have hne : (Value.type "list" == Value.type "dict") = false := by decide
        have hl1 : (s.heap.push { cls := .type "set", dict := none, data := .set #[] 0 (.fresh 0 0 led) }).IsList l items := ⟨_, hol', rfl, nl, rfl⟩
        unfold Builtin.«set.__init__» noKeywords Builtin.Frozenset.updateFrom
        generalize hPI : pyIter = PI
        wp_walk
        subst hPI
        refine wpAny_pyIter_list hl1 ?_
        refine wpAny_bind (wpAny_runValue ?_)
        have hlS : l < s.heap.objs.size := Heap.lt_size hol
        have hneI : l ≠ (s.heap.push { cls := .type "set", dict := none, data := .set #[] 0 (.fresh 0 0 led) }).objs.size := by
          rw [Heap.size_push]; exact Nat.ne_of_lt (Nat.lt_succ_of_lt hlS)
        have hSf : s.heap.objs.size ∉ [(s.heap.push { cls := .type "set", dict := none, data := .set #[] 0 (.fresh 0 0 led) }).objs.size, l] := by
          rw [Heap.size_push]; simp only [List.mem_cons, List.mem_singleton, List.not_mem_nil, or_false, not_or]
          exact ⟨Nat.ne_of_lt (Nat.lt_succ_self _), Nat.ne_of_gt hlS⟩
        refine set_loopK (knd := knd) ((Walks.list (by simp [hh]) _ l hneI items).toS) s.heap.objs.size
          hSf val hi hb (items.size - 0) 0 _ (by omega) (Nat.zero_le _)
          ⟨⟨_, Heap.get?_push_size _ rfl, rfl, rfl⟩, (hl1.push _)⟩ ?hS0 ?hR
        case hS0 =>
          have hget : ((s.heap.push { cls := .type "set", dict := none, data := .set #[] 0 (.fresh 0 0 led) }).push { cls := .type "list_iterator", data := .fields #[.ref l, .int 0 0] }).get? s.heap.objs.size
              = some { cls := .type "set", dict := none, data := .set #[] 0 (.fresh 0 0 led) } := Heap.get?_push_of_some _ hS
          exact SetOf_congr ((setObjOf_fresh (knd := knd) led).setOf hget (by unfold scanBound; omega)) (fun _ => rfl) rfl
        case hR =>
          intro s' hm hS'
          obtain ⟨h', g', d', tk', os'⟩ := s'
          have eg : g' = s.gens := hm.gens
          have ed : d' = s.drawn := hm.drawn
          have eo : os' = s.os := hm.os
          subst eg; subst ed; subst eo
          show wpAny _ _ _ _ _ _
          refine wpAny_pure ?_
          show wpAny _ _ (ret Value.none) _ _ _
          refine wpAny_pure ⟨rfl, h', tk', rfl, hS', fun b o hb e => ?_⟩
          have hb1 : b ≠ s.heap.objs.size := Nat.ne_of_lt hb
          have hb2 : b ≠ (s.heap.push { cls := .type "set", dict := none, data := .set #[] 0 (.fresh 0 0 led) }).objs.size := by
            rw [Heap.size_push]; exact Nat.ne_of_lt (Nat.lt_succ_of_lt hb)
          exact hm.heap b o (by simp only [List.mem_cons, List.mem_singleton, List.not_mem_nil, or_false, not_or]; exact ⟨hb1, hb2⟩) (Heap.get?_push_of_some _ (Heap.get?_push_of_some _ e))
      · cases r₂ with
        | error e => exact hr₂
        | ok fl₂ =>
          cases fl₂ with
          | ret r =>
            obtain ⟨rfl, h', tk, rfl, hS', hk'⟩ := hr₂
            repeat (any_goals (first | assumption | wp_step))
            exact h _ _ hS' hk'
          | _ => exact hr₂.elim
    | _ => exact hr.elim
end
/-- a set of texts: how many there are -/
def SetS (P : Program) (w : World) (a : Addr) (S : Str → Bool) (n : Nat) : HO := .ext fun h => h.SetOf (PySem.strKind P w) a S n
theorem met_list (ss : List Str) : met (fun i => ss.getD i (Str.ofString "")) ss.length = ss.foldl step_dedup [] := by
  unfold met
  congr 1
  refine List.ext_getElem (by simp) fun i h1 h2 => ?_
  simp [List.getD_eq_getElem?_getD, List.getElem?_eq_getElem h2]
/-- set(a list of texts) -/
theorem call_set_strs {X : Cx} (hc : X.calm = true) : CallR X (.type "set") (fun xs H Q => ∃ (a : Addr) (ss : List Str), xs = [.ref a] ∧ H a = some (.lst (ss.map V.str)) ∧ ss.length ≤ 1000 ∧
    ∀ D, H D = none → Q (.ref D) (upd H D (SetS X.prog X.w D (fun k => (ss.foldl step_dedup []).any (· == k)) (ss.foldl step_dedup []).length))) := by
  intro pins s σ H xs us Q I r h
  obtain ⟨a, ss, rfl, ha, hl, q⟩ := h
  obtain ⟨u, rfl, ru⟩ := vals1 r
  cases ru
  obtain ⟨its, rv, ⟨o, n, ho, hc', hd', hdat⟩, hz⟩ := I.list (SqL.of ha)
  have il : its.length = ss.length := by rw [← rv.length, List.length_map]
  refine set_listK (knd := PySem.strKind X.prog X.w) (val := fun i => ss.getD i (Str.ofString "")) (items := its.toArray) (I.ok.hd hc) ⟨o, ho, hc', n, hdat⟩ (fun i v e => ?_) (by unfold scanBound; simp only [List.size_toArray]; omega) fun h' tk hS kk => ?_
  · have e' : its[i]? = some v := by simpa using e
    have hi : i < its.length := (List.getElem?_eq_some_iff.mp e').1
    have e3 : (ss.map V.str)[i]? = some (.str ss[i]) := by rw [List.getElem?_map, List.getElem?_eq_getElem (by omega)]; rfl
    obtain ⟨v', e4, r4⟩ := rv.get e3
    rw [e'] at e4
    cases e4
    obtain ⟨t, rfl⟩ := r4
    have : ss.getD i (Str.ofString "") = ss[i] := by simp [List.getD_eq_getElem?_getD, List.getElem?_eq_getElem (show i < ss.length by omega)]
    rw [this]
    exact ⟨by simp [PySem.strKind, Value.isStrOf], rfl⟩
  · have es : its.toArray.size = ss.length := by simpa using il
    rw [es, met_list] at hS
    have kk' : ∀ b o, s.heap.get? b = some o → h'.get? b = some o := fun b o e => kk b o (Heap.lt_size e) e
    obtain ⟨oS, e1, e2, e3, hoS, rest⟩ := id hS
    refine ⟨.ref s.heap.objs.size, _, I.laid (a := s.heap.objs.size) (o := SetS X.prog X.w s.heap.objs.size _ _) (t' := tk) kk' (Nat.le_refl _) ⟨hS, ⟨_, hoS⟩, fun h1 h2 z st => ?_⟩, rfl, q _ (I.hok.fresh (Nat.le_refl _))⟩
    obtain ⟨o5, x1, x2, x3, ho5, rest5⟩ := z
    exact ⟨o5, x1, x2, x3, st _ ho5, rest5⟩
/-- len(a set of texts) -/
theorem call_len_setS {X : Cx} : CallR X (.builtin "len") (fun xs H Q => ∃ (a : Addr) (S : Str → Bool) (n : Nat), xs = [.ref a] ∧ H a = some (SetS X.prog X.w a S n) ∧ Q (.int n) H) := by
  intro pins s σ H xs us Q I r h
  obtain ⟨a, S, n, rfl, ha, q⟩ := h
  obtain ⟨u, rfl, ru⟩ := vals1 r
  cases ru
  obtain ⟨⟨o, es, ep, t, ho, hex, hd, hel, hmem, hb, hf, hn⟩, _⟩ := I.hok a _ ha
  refine call_len_set ho hex hd hf (by have : scanBound = 4096 := rfl; omega) ?_
  subst hn
  exact ⟨.int _, H, I.tok _, ⟨_, rfl⟩, q⟩
/-- repr(nested data) -/
theorem call_repr {X : Cx} (hg : X.A.guards = some []) (hu : X.A.units + 64 < cLine) : CallR X (.builtin "repr") (fun xs H Q => ∃ (a : Addr) (d : PyData), xs = [.ref a] ∧ Dat H (.ref a) d ∧ d.showable = true ∧ d.hasDict = false ∧ d.depth ≤ 60 ∧ d.shown.length ≤ sizeLine ∧ Q (.str d.shown) H) := by
  intro pins s σ H xs us Q I r h
  obtain ⟨a, d, rfl, hd, hs, hn, hdp, hz, q⟩ := h
  obtain ⟨u, rfl, ru⟩ := vals1 r
  obtain ⟨as, rds⟩ := hd.reads I ru
  cases ru
  refine repr_of_reads' rds hs (fun z => by rw [hn] at z; cases z) hg (by omega) (fun _ _ e => e) (fun h' u tk kk => ?_) hz
  exact ⟨.str d.shown, H, I.kept (t' := tk) kk, ⟨u, rfl⟩, q⟩
end L2
set_option Elab.async false
set_option linter.all false
set_option maxRecDepth 100000
set_option maxHeartbeats 4000000
namespace L2
open PySem PySem.Spec PyProof.Rows
def RawD (h : Heap) (d : Addr) (es : Array DictEntry) (ep : Nat) : Prop := ∃ o, h.get? d = some o ∧ o.ExactDict ∧ o.data = .dict es ep
theorem RawD.typeIs {s : Shared} {d : Addr} {es : Array DictEntry} {ep : Nat} (x : RawD s.heap d es ep) : s.TypeIs (.ref d) "dict" := let ⟨o, h1, h2, _⟩ := x; ⟨o, h1, h2.1⟩
theorem RawD.at' {h h' : Heap} {d : Addr} {es : Array DictEntry} {ep : Nat} (x : RawD h d es ep) (e : ∀ o, h.get? d = some o → h'.get? d = some o) : RawD h' d es ep := let ⟨o, h1, r⟩ := x; ⟨o, e _ h1, r⟩
theorem RawD.lt {h : Heap} {d : Addr} {es : Array DictEntry} {ep : Nat} (x : RawD h d es ep) : d < h.objs.size := let ⟨_, h1, _⟩ := x; Heap.lt_size h1
section
variable {prog : Program} {w : World} {A : Around} {E : Value → Shared → Prop} {s : Shared}
theorem raw_iter {d : Addr} {es : Array DictEntry} {ep : Nat} {Q : Value → Shared → Prop} (hd : (d == sysModules) = false) (hm : RawD s.heap d es ep)
    (hQ : Q (.ref s.heap.objs.size) { s with heap := s.heap.push { cls := .type "dict_keyiterator", data := .fields #[.ref d, .int 0 0, .int es.size 0, .int ep 0] } }) :
    wpAny (model prog w) A (pyIter (.ref d)) Q E s := by
  obtain ⟨o, ho, hc, hdat⟩ := id hm
  have hT : s.TypeIs (.ref d) "dict" := hm.typeIs
  refine wpAny_pyIter_slot hT F.slot_dict_iter (wpAny_call_entry F.slot_dict_iter hT F.entry_dict_iter ?_ (F.args_dict_iter_1 _))
  unfold Builtin.«dict.__iter__»
  refine wpAny_bind ?_
  unfold Builtin.Dict.dictSlotNone
  refine wpAny_bind (wpAny_notOrdered_dict hT ?_)
  show wpAny _ _ (pure (Value.ref d)) _ _ s
  refine wpAny_pure ?_
  show wpAny _ _ (Builtin.Dict.showsAll d >>= _) _ _ s
  unfold Builtin.Dict.showsAll
  rw [if_neg (by rw [hd]; exact Bool.false_ne_true)]
  refine wpAny_bind (wpAny_pure ?_)
  refine wpAny_bind (wpAny_dictEntries ho hdat ?_)
  refine wpAny_bind (wpAny_dictEpoch ho hdat ?_)
  have hsz : es.size = es.size := rfl
  refine wpAny_bind (wpAny_newObj_type (wpAny_pure ⟨_, rfl, "dict_keyiterator", _, ⟨_, Heap.get?_push_size _ rfl, rfl⟩, F.slot_dict_keyiterator_next.lookup, ?_⟩))
  simpa [rawInt] using hQ
theorem raw_item {it d : Addr} {i ep : Nat} {es : Array DictEntry} {key : Value} {Q : Option Value → Shared → Prop} (hit : s.heap.IsKeyIter it d i es.size ep)
    (hm : RawD s.heap d es ep) (hx : es[i]?.map (·.key) = some key)
    (hQ : ∀ h', h'.IsKeyIter it d (i + 1) es.size ep → Heap.SameBut it s.heap h' → Q (some key) { s with heap := h' }) :
    wpAny (model prog w) A (pyNext (.ref it)) Q E s := by
  obtain ⟨o, ho, hc, hd⟩ := id hit
  obtain ⟨od, hod, hcd, hdd⟩ := id hm
  unfold pyNext
  refine wpAny_bind (wpAny_attempt (wpAny_callSpecial?_slot (name := Str.ofString "__next__") hit.typeIs F.slot_dict_keyiterator_next
    (wpAny_call_entry F.slot_dict_keyiterator_next hit.typeIs F.entry_dict_keyiterator_next ?_ (F.args_dict_keyiterator_next_1 _))))
  refine wpAny_bind (wpAny_pure ?_)
  refine wpAny_bind ?_
  refine wpAny_bind ?_
  first | refine wpAny_bind (wpAny_typeNameOfWhole_keyiter hit.typeIs (wpAny_pure ?_)) | refine wpAny_bind (wpAny_typeNameOf_keyiter hit.typeIs (wpAny_pure ?_))
  refine wpAny_bind (wpAny_fieldsOf ho hd ?_)
  have hown : Builtin.Dict_items.ownsTuple "dict_keyiterator" = false := by decide
  simp only [hown, Bool.false_eq_true, if_false]
  show wpAny _ _ (if (Value.ref d == Value.none) = true then _ else _) _ _ s
  rw [if_neg (show ¬ ((Value.ref d == Value.none) = true) from Bool.false_ne_true)]
  refine wpAny_bind (wpAny_pure ?_)
  refine wpAny_bind (wpAny_dictEntries hod hdd ?_)
  have hsz : es.size = es.size := rfl
  rw [if_neg (by rw [hsz]; simp)]
  refine wpAny_bind (wpAny_pure ?_)
  refine wpAny_bind (wpAny_dictEpoch hod hdd ?_)
  rw [if_neg (by simp)]
  refine wpAny_pure ?_

  have hlt' : i < es.size := by
    rcases Nat.lt_or_ge i es.size with h | h
    · exact h
    · rw [Array.getElem?_eq_none h] at hx; cases hx
  have hkey : es[i].key = key := by rw [Array.getElem?_eq_getElem hlt'] at hx; exact Option.some.inj hx
  simp only [show ¬ ((i : Int) < 0) from by omega, if_false, Int.toNat_natCast, Array.getElem?_eq_getElem hlt']
  refine wpAny_bind ?_
  first | refine wpAny_bind (wpAny_typeNameOfWhole_keyiter hit.typeIs (wpAny_pure ?_)) | refine wpAny_bind (wpAny_typeNameOf_keyiter hit.typeIs (wpAny_pure ?_))
  refine wpAny_bind (wpAny_isOneOf_keyiter hit.typeIs ?_)
  show wpAny _ _ (setField (.ref it) 1 (rawInt ((i : Int) + 1)) >>= _) _ _ s
  refine wpAny_bind (wpAny_setField ho hd (by simp) ?_)
  have hit' : (s.heap.update it (Obj.mapFields (·.setIfInBounds 1 (rawInt ((i : Int) + 1))))).IsKeyIter it d (i + 1) es.size ep :=
    ⟨_, Heap.get?_update_self _ ho (Obj.isFreed_of_fields (Obj.data_mapFields hd _)), (Obj.cls_mapFields ..).trans hc, by rw [Obj.data_mapFields hd]; simp [rawInt]⟩
  refine wpAny_bind (wpAny_holding ?_)
  refine wpAny_bind (wpAny_isOneOf_keyiter (s := { s with heap := s.heap.update it (Obj.mapFields (·.setIfInBounds 1 (rawInt ((i : Int) + 1)))) }) hit'.typeIs ?_)
  show wpAny _ _ (pure es[i].key) _ _ _
  exact wpAny_pure (wpAny_pure ⟨_, rfl, wpAny_pure (hkey ▸ hQ _ hit' (Heap.SameBut.update ..))⟩)
theorem raw_end {it d : Addr} {i ep : Nat} {es : Array DictEntry} {Q : Option Value → Shared → Prop} (hh : A.handled = none) (hit : s.heap.IsKeyIter it d i es.size ep)
    (hm : RawD s.heap d es ep) (hx : es.size ≤ i)
    (hQ : ∀ h', Heap.ExtBut it s.heap h' → Q none { s with heap := h' }) : wpAny (model prog w) A (pyNext (.ref it)) Q E s := by
  obtain ⟨o, ho, hc, hd⟩ := id hit
  obtain ⟨od, hod, hcd, hdd⟩ := id hm
  unfold pyNext
  refine wpAny_bind (wpAny_attempt (wpAny_callSpecial?_slot (name := Str.ofString "__next__") hit.typeIs F.slot_dict_keyiterator_next
    (wpAny_call_entry F.slot_dict_keyiterator_next hit.typeIs F.entry_dict_keyiterator_next ?_ (F.args_dict_keyiterator_next_1 _))))
  refine wpAny_bind (wpAny_pure ?_)
  refine wpAny_bind ?_
  refine wpAny_bind ?_
  first | refine wpAny_bind (wpAny_typeNameOfWhole_keyiter hit.typeIs (wpAny_pure ?_)) | refine wpAny_bind (wpAny_typeNameOf_keyiter hit.typeIs (wpAny_pure ?_))
  refine wpAny_bind (wpAny_fieldsOf ho hd ?_)
  have hown : Builtin.Dict_items.ownsTuple "dict_keyiterator" = false := by decide
  simp only [hown, Bool.false_eq_true, if_false]
  show wpAny _ _ (if (Value.ref d == Value.none) = true then _ else _) _ _ s
  rw [if_neg (show ¬ ((Value.ref d == Value.none) = true) from Bool.false_ne_true)]
  refine wpAny_bind (wpAny_pure ?_)
  refine wpAny_bind (wpAny_dictEntries hod hdd ?_)
  have hsz : es.size = es.size := rfl
  rw [if_neg (by rw [hsz]; simp)]
  refine wpAny_bind (wpAny_pure ?_)
  refine wpAny_bind (wpAny_dictEpoch hod hdd ?_)
  rw [if_neg (by simp)]
  refine wpAny_pure ?_
  have hge : es.size ≤ i := hx
  simp only [show ¬ ((i : Int) < 0) from by omega, if_false, Int.toNat_natCast, Array.getElem?_eq_none hge]
  refine wpAny_bind ?_
  first | refine wpAny_bind (wpAny_typeNameOfWhole_keyiter hit.typeIs (wpAny_pure ?_)) | refine wpAny_bind (wpAny_typeNameOf_keyiter hit.typeIs (wpAny_pure ?_))
  show wpAny _ _ (setField (.ref it) 0 .none >>= _) _ _ s
  refine wpAny_bind (wpAny_setField ho hd (by simp) ?_)
  show wpAny _ _ (newExc (.type "StopIteration") [] >>= _) _ _ _
  refine wpAny_bind ?_
  simp only [newExc, newTuple]
  refine wpAny_bind (wpAny_newObj_type ?_ (by size_fits))
  refine wpAny_bind (m := firstArgMember _ _) (wpAny_of_eq (a := Value.none) (by first | rfl | (simp only [firstArgMember]; rfl)) ?_)
  refine wpAny_newObj_type ?_ (by size_fits)
  simp only [raiseNew]
  refine wpAny_bind (wpAny_handled ?_)
  rw [show A.in1.handled = none from hh]
  refine wpAny_bind (wpAny_pure (wpAny_throw ?_))
  refine wpAny_bind (wpAny_isInstance (T := "StopIteration") (b := true) ⟨_, Heap.get?_push_size _ rfl, rfl⟩ isSubtype_stop ?_)
  exact wpAny_pure (hQ _ (((Heap.SameBut.update ..).extBut.push _).push _))
theorem raw_walks (hh : A.handled = none) (I d : Addr) (hne : d ≠ I) (es : Array DictEntry) (ep : Nat) :
    Walks prog w A I [I, d] [I] es.size (fun i v => es[i]?.map (·.key) = some v) (fun i h => h.IsKeyIter I d i es.size ep ∧ RawD h d es ep) where
  sub := fun b hb => by simp at hb; simp [hb]
  frame := fun _ _ _ st hk => ⟨st.1.at fun o e => hk I (by simp) o e, st.2.at' fun o e => hk d (by simp) o e⟩
  item := fun i s Q E hi st hQ => by
    have hx : es[i]?.map (·.key) = some es[i].key := by rw [Array.getElem?_eq_getElem hi]; rfl
    refine raw_item st.1 st.2 hx fun h' hit' hs' => ?_
    exact hQ _ h' s.toks hx ⟨hit', st.2.at' fun o e => hs'.extBut d o hne e⟩ fun b o hb e => hs'.extBut b o (fun h => hb (by simp [h])) e
  done := fun s Q E st hQ => raw_end hh st.1 st.2 (Nat.le_refl _) fun h' he' => hQ h' s.toks fun b o hb e => he' b o (fun h => hb (by simp [h])) e
  self := fun _ _ _ _ st hQ => wpAny_pyIter_keyiter st.1 hQ
theorem raw_src {d : Addr} {es : Array DictEntry} {ep : Nat} (lo : (d == sysModules) = false) : PySem.W.KdlSrc prog w "dict" d d es.size (fun i v => es[i]?.map (·.key) = some v) (fun h => RawD h d es ep) where
  type := fun _ hm => hm.typeIs
  there := fun _ hm => ⟨hm.lt, hm.lt⟩
  keep := fun _ _ hm hk => hm.at' fun o e => hk d (.inl rfl) o e
  notList := by decide
  notTuple := by decide
  hint := fun _ _ _ _ hm hq => PySem.W.kdl_hint_dict hm.typeIs hq
  iter := fun _ _ hh hm => ⟨_, _, (fun _ _ hq => raw_iter lo hm hq), raw_walks hh _ d (Nat.ne_of_lt hm.lt) es ep, ⟨⟨_, Heap.get?_push_size _ rfl, rfl, rfl⟩, hm.at' fun o e => Heap.get?_push_of_some _ e⟩⟩
end
/-- list(a dict whose keys are tuples) -/
theorem call_list_dT {X : Cx} (hc : X.calm = true) : CallR X (.type "list") (fun xs H Q => ∃ (d : Addr) (kvs : List (List Key × V)), xs = [.ref d] ∧ H d = some (.dT kvs) ∧
    ∀ (l : Addr) (ts : List Addr), H l = none → ts.length = kvs.length → (∀ (i : Nat) t p, ts[i]? = some t → kvs[i]? = some p → H t = some (.tup (p.1.map kV))) → Q (.ref l) (upd H l (.lst (ts.map V.ref)))) := by
  intro pins s σ H xs us Q I r h
  obtain ⟨d, kvs, rfl, hd, q⟩ := h
  obtain ⟨u, rfl, ru⟩ := vals1 r
  cases ru
  obtain ⟨z, y, xs, rel, o, es, ep, h1, h2, h3, h4, h5⟩ := (show ObjOk X.prog X.w H s.heap d (.dT kvs) from I.hok d _ hd)
  have hlen : es.size = kvs.length := by
    rw [← Array.length_toList, h4, List.length_map]
    exact (Paired.length rel).symm
  refine PySem.W.kdl_call (raw_src (es := es) (ep := ep) y) (I.ok.hd hc) ⟨o, h1, h2, h3⟩ (by rw [hlen]; exact z) fun h' tk acc c' kk hl hacc => ?_
  have key : ∀ (i : Nat) v, acc.toList[i]? = some v → ∃ q, xs[i]? = some q ∧ v = .ref q.2.1 := fun i v e => by
    have e2 := hacc.2 i v (by rw [← Array.getElem?_toList]; exact e)
    dsimp only at e2
    rw [← Array.getElem?_toList, h4, List.getElem?_map] at e2
    cases z : xs[i]? with
    | none => rw [z] at e2; cases e2
    | some q =>
      rw [z] at e2
      exact ⟨q, rfl, (Option.some.inj e2).symm⟩
  have al : acc.toList.length = xs.length := by
    rw [Array.length_toList, hacc.1, ← Array.length_toList, h4, List.length_map]
  have av : acc.toList = xs.map fun q => Value.ref q.2.1 := by
    refine List.ext_getElem (by rw [al, List.length_map]) fun i i1 i2 => ?_
    obtain ⟨q, e1, e2⟩ := key i _ (List.getElem?_eq_getElem i1)
    rw [List.getElem_map]
    rw [List.getElem?_eq_getElem (by rw [← al]; exact i1)] at e1
    rw [e2, Option.some.inj e1]
  have vals : ∀ l : List (List Key × Addr × Value), Vals ((l.map (·.2.1)).map V.ref) (l.map fun q => Value.ref q.2.1) := by
    intro l
    induction l with
    | nil => exact .nil
    | cons q l ih => exact .cons rfl ih
  have rl := Paired.length rel
  refine ⟨.ref s.heap.objs.size, _, I.laid (a := s.heap.objs.size) (o := .lst ((xs.map (·.2.1)).map V.ref)) (t' := tk) kk (Nat.le_refl _) ⟨by rw [List.length_map, List.length_map, ← rl]; exact z, acc.toList, c', by rw [av]; exact vals xs, by rw [Array.toArray_toList]; exact hl⟩, rfl, q _ (xs.map (·.2.1)) (I.hok.fresh (Nat.le_refl _)) (by rw [List.length_map, ← rl]) fun i t p e1 e2 => ?_⟩
  have at' : ∀ {l : List (List Key × V)} {m : List (List Key × Addr × Value)}, Paired (fun (p : List Key × V) (q : List Key × Addr × Value) => p.1 = q.1 ∧ H q.2.1 = some (.tup (p.1.map kV)) ∧ RelV p.2 q.2.2) l m → ∀ (i : Nat) p t, l[i]? = some p → (m.map (·.2.1))[i]? = some t → H t = some (.tup (p.1.map kV)) := by
    intro l m r
    induction r with
    | nil => intro i p t e; simp at e
    | cons a b ih =>
      intro i p t e1 e2
      cases i with
      | zero =>
        simp at e1 e2
        subst e1 e2
        exact a.2.1
      | succ i => exact ih i p t (by simpa using e1) (by simpa using e2)
  exact at' rel i p t e2 e1
/-- isinstance(x, (c, c')) -/
theorem call_isinst2 {X : Cx} : CallR X (.builtin "isinstance") (fun xs H Q => ∃ (x : V) (tp : Addr) (c1 c2 : String) (t : Value) (b : Bool), xs = [x, .ref tp] ∧ TyOf X.K H x t ∧ H tp = some (.tup [.ty c1, .ty c2]) ∧ PySem.W.kitAny X.K t [.type c1, .type c2] = some b ∧ Q (.bl b) H) := by
  intro pins s σ H xs us Q I r h
  obtain ⟨x, tp, c1, c2, t, b, rfl, ty, ht, e, q⟩ := h
  obtain ⟨u, v, rfl, rx, rc⟩ := vals2 r
  cases rc
  obtain ⟨_, its, r', ⟨ob, h1, h2, n, h3⟩⟩ := (show ObjOk X.prog X.w H s.heap tp (.tup [.ty c1, .ty c2]) from I.hok tp _ ht)
  cases r' with
  | cons x1 y1 =>
    cases y1 with
    | cons x2 y2 =>
      cases y2
      cases x1
      cases x2
      have fin : ∀ tk, EP X pins σ Q (.bool b) { s with toks := tk } := fun tk => ⟨.bl b, H, I.tok tk, rfl, q⟩
      obtain ⟨cls, dd, data, sl⟩ := ob
      dsimp only at h2 h3
      subst h2 h3
      cases ty with
      | non => cases (show u = Value.none from rx); exact PySem.W.kia_tup PySem.W.kitx_none I.kIn True.intro h1 e (fun z => nomatch z) fin
      | bl y => cases (show u = Value.bool y from rx); exact PySem.W.kia_tup PySem.W.kitx_bool I.kIn True.intro h1 e (fun z => nomatch z) fin
      | int i => obtain ⟨t, q⟩ := (show ∃ t, u = Value.int i t from rx); cases q; exact PySem.W.kia_tup PySem.W.kitx_int I.kIn True.intro h1 e (fun z => nomatch z) fin
      | str y => obtain ⟨t, q⟩ := (show ∃ t, u = Value.str y t from rx); cases q; exact PySem.W.kia_tup PySem.W.kitx_str I.kIn True.intro h1 e (fun z => nomatch z) fin
      | flt y => obtain ⟨t, q⟩ := (show ∃ t, u = Value.float y t from rx); cases q; exact PySem.W.kia_tup PySem.W.kitx_float I.kIn True.intro h1 e (fun z => nomatch z) fin
      | @lst a xs ea =>
        cases (show u = Value.ref a from rx)
        obtain ⟨_, _, n, _, h1'⟩ := (show ObjOk X.prog X.w H s.heap a (.lst xs) from I.hok a _ ea)
        exact PySem.W.kia_tup PySem.W.kitx_list I.kIn ⟨_, h1', rfl⟩ h1 e (fun z => nomatch z) fin
      | @frz a ob xs ea =>
        cases (show u = Value.ref a from rx)
        obtain ⟨_, _, _, n, _, h1'⟩ := (show ObjOk X.prog X.w H s.heap a (.frz ob (.lst xs)) from I.hok a _ ea)
        exact PySem.W.kia_tup PySem.W.kitx_list I.kIn ⟨_, h1', rfl⟩ h1 e (fun z => nomatch z) fin
      | @tup a xs ea =>
        cases (show u = Value.ref a from rx)
        obtain ⟨_, _, _, p⟩ := (show ObjOk X.prog X.w H s.heap a (.tup xs) from I.hok a _ ea)
        obtain ⟨o, h1', h2', _⟩ := p
        exact PySem.W.kia_tup PySem.W.kitx_tuple I.kIn ⟨o, h1', h2'⟩ h1 e (fun z => nomatch z) fin
      | @dK a kvs ea =>
        cases (show u = Value.ref a from rx)
        obtain ⟨_, _, vs, _, p⟩ := (show ObjOk X.prog X.w H s.heap a (.dK kvs) from I.hok a _ ea)
        obtain ⟨o, es, ep, h1', h2', _⟩ := p
        exact PySem.W.kia_tup PySem.W.kitx_dict I.kIn ⟨o, h1', h2'.1⟩ h1 e (fun z => nomatch z) fin
      | @dT a kvs ea =>
        cases (show u = Value.ref a from rx)
        obtain ⟨_, _, xs, _, o, es, ep, h1', h2', _⟩ := (show ObjOk X.prog X.w H s.heap a (.dT kvs) from I.hok a _ ea)
        exact PySem.W.kia_tup PySem.W.kitx_dict I.kIn ⟨o, h1', h2'.1⟩ h1 e (fun z => nomatch z) fin
      | @ins a C dx fs ea cl ha hn htk hm =>
        cases (show u = Value.ref a from rx)
        obtain ⟨mA, O, _⟩ := ins_get I.hok ea
        obtain ⟨od, J, _⟩ := O.look
        exact PySem.W.kia_tup (PySem.W.kitx_own (cl.get _) cl.hd ha hn htk hm) I.kIn J h1 e (fun z => nomatch z) fin
end L2
set_option Elab.async false
set_option linter.all false
set_option maxRecDepth 100000
set_option maxHeartbeats 4000000
namespace L2
open PySem PySem.Spec PyProof.Rows
theorem ints_of {ns : List Int} : ∀ {us : List Value}, Vals (ns.map V.int) us → IntsAre us ns := by
  induction ns with
  | nil => intro us r; cases r; exact .nil
  | cons x ns ih =>
    intro us r
    cases r with
    | cons r1 r2 =>
      obtain ⟨t, rfl⟩ := r1
      exact .cons x t (ih r2)
theorem of_ints : ∀ {us : List Value} {ns : List Int}, IntsAre us ns → Vals (ns.map V.int) us
  | _, _, .nil => .nil
  | _, _, .cons x t r => .cons ⟨t, rfl⟩ (of_ints r)
/-- sorted(a list of ints), below 64 -/
theorem call_sorted_ints {X : Cx} : CallR X (.builtin "sorted") (fun xs H Q => ∃ (a : Addr) (ns : List Int), xs = [.ref a] ∧ SqL X.K H a (ns.map V.int) ∧ ns.length < 64 ∧
    ∀ (l : Addr) (ns' : List Int), H l = none → ns'.Perm ns → ns'.Pairwise (· ≤ ·) → Q (.ref l) (upd H l (.lst (ns'.map V.int)))) := by
  intro pins s σ H xs us Q I r h
  obtain ⟨a, ns, rfl, ha, h64, q⟩ := h
  obtain ⟨u, rfl, ru⟩ := vals1 r
  cases ru
  obtain ⟨its, rv, pl, hz⟩ := I.list ha
  have hl : its.length = ns.length := by rw [← rv.length, List.length_map]
  refine sorted_ints pl.isList (ints_of rv) (by omega) fun out ns' h1 h2 h3 => ?_
  obtain ⟨e, he⟩ := sortedAll_at s.heap its out
  refine ⟨.ref (s.heap.objs.size + 1), _, I.laid (o := .lst (ns'.map V.int)) (t' := s.toks) (fun b o z => sortedAll_old z) (Nat.le_succ _) ⟨?_, out.toList, e, of_ints h1, by simpa using he⟩, rfl, q _ ns' (I.hok.fresh (Nat.le_succ _)) h2 h3⟩
  rw [List.length_map, h2.length_eq]
  have : 100 < sizeLine := by decide
  omega
/-- a function of the text, as it stands behind the top -/
structure Fn (K : PySem.W.Frag) (mg : Str → Option Value) (nm : Str) (st : Stmt) (ps : List Str) (f : Addr) (fd : FuncData) : Prop where
  F : Fun K nm nm st f fd
  mg : mg nm = some (.ref f)
  b : Binds K fd ps []
theorem putK_mem {κ : Type} [DecidableEq κ] {kvs : List (κ × V)} {k : κ} {v : V} {p : κ × V} (h : p ∈ putK kvs k v) : p = (k, v) ∨ p ∈ kvs := by
  unfold putK at h
  split at h
  · obtain ⟨q, hq, e⟩ := List.mem_map.mp h
    by_cases z : q.1 = k
    · rw [if_pos z] at e
      exact .inl (by rw [← e, z])
    · rw [if_neg z] at e
      exact .inr (e ▸ hq)
  · rcases List.mem_append.mp h with h | h
    · exact .inr h
    · exact .inl (List.mem_singleton.mp h)
theorem putK_len {κ : Type} [DecidableEq κ] (kvs : List (κ × V)) (k : κ) (v : V) : (putK kvs k v).length ≤ kvs.length + 1 := by
  unfold putK
  split
  · rw [List.length_map]; omega
  · rw [List.length_append]; simp
theorem valV_mem {κ : Type} [DecidableEq κ] {kvs : List (κ × V)} {k : κ} {v : V} (h : (k, v) ∈ kvs) : ∃ v', valV kvs k = some v' ∧ (k, v') ∈ kvs := by
  induction kvs with
  | nil => exact nomatch h
  | cons p r ih =>
    by_cases e : p.1 = k
    · exact ⟨p.2, valV_pos e, by rw [← e]; exact List.mem_cons_self⟩
    · rcases List.mem_cons.mp h with z | z
      · exact absurd (by rw [← z]) e
      · obtain ⟨v', a, b⟩ := ih z
        exact ⟨v', by rw [valV_neg e]; exact a, List.mem_cons_of_mem _ b⟩
/-- the lengths of ways between the first n places, by their numbers -/
def WaysN (n : Nat) (kvs : List (List Key × V)) : Prop := ∀ p ∈ kvs, ∃ (i j l : Int), p = ([Sum.inl i, Sum.inl j], .int l) ∧ 0 ≤ i ∧ i < j ∧ j < n ∧ 1 ≤ l ∧ l < 10 ^ 30
theorem WaysN.put {n : Nat} {kvs : List (List Key × V)} (h : WaysN n kvs) {i j l : Int} (h0 : 0 ≤ i) (h1 : i < j) (h2 : j < n) (h3 : 1 ≤ l) (h4 : l < 10 ^ 30) : WaysN n (putK kvs [Sum.inl i, Sum.inl j] (.int l)) := fun p hp => by
  rcases putK_mem hp with rfl | z
  · exact ⟨i, j, l, rfl, h0, h1, h2, h3, h4⟩
  · exact h p z
/-- the heap while a map is drawn: the pen at p, the names at N, the ways at W -/
structure MI (H H' : Hp) (p N W : Addr) (xs : List Str) (kvs : List (List Key × V)) : Prop where
  pn : PnAt H' p
  hn : H' N = some (.lst (xs.map V.str))
  hw : H' W = some (.dT kvs)
  kp : ∀ b o, b ≠ p → H b = some o → H' b = some o
  nN : N ≠ p
  nW : W ≠ p
  wN : W ≠ N
  fW : H W = none
theorem MI.add {H H' : Hp} {p N W D : Addr} {xs : List Str} {kvs : List (List Key × V)} (h : MI H H' p N W xs kvs) (hD : H' D = none) (o : HO) : MI H (upd H' D o) p N W xs kvs := by
  have dp := h.pn.ne hD
  refine ⟨h.pn.other dp, ?_, ?_, fun b o hb e => ?_, h.nN, h.nW, h.wN, h.fW⟩
  · rw [upd_ne (ne_of_none h.hn hD)]; exact h.hn
  · rw [upd_ne (ne_of_none h.hw hD)]; exact h.hw
  · have e2 := h.kp b o hb e
    rw [upd_ne (ne_of_none e2 hD)]; exact e2
theorem MI.pen {H H' : Hp} {p N W : Addr} {xs : List Str} {kvs : List (List Key × V)} (h : MI H H' p N W xs kvs) (a b c : Int) : MI H (upd H' p (.lst (penL a b c))) p N W xs kvs :=
  ⟨PnAt.set a b c, by rw [upd_ne h.nN]; exact h.hn, by rw [upd_ne h.nW]; exact h.hw, fun b o hb e => by rw [upd_ne hb]; exact h.kp b o hb e, h.nN, h.nW, h.wN, h.fW⟩
theorem MI.put {H H' : Hp} {p N W : Addr} {xs : List Str} {kvs : List (List Key × V)} (h : MI H H' p N W xs kvs) (kvs' : List (List Key × V)) : MI H (upd H' W (.dT kvs')) p N W xs kvs' :=
  ⟨h.pn.other h.nW, by rw [upd_ne h.wN.symm]; exact h.hn, upd_same, fun b o hb e => by rw [upd_ne (ne_of_none e h.fW)]; exact h.kp b o hb e, h.nN, h.nW, h.wN, h.fW⟩
/-- a map: its places' names, its ways -/
structure MapAt (H : Hp) (m : Addr) (n : Nat) (xs : List Str) (ws : List Way) : Prop where
  ex : ∃ t1 t2 : Addr, ∃ vs : List V, H m = some (.tup [.ref t1, .ref t2]) ∧ H t1 = some (.tup (xs.map V.str)) ∧ H t2 = some (.tup vs) ∧ Dats H vs (ws.map wayD)
  len : xs.length = n
  nd : xs.Nodup
  nm : ∀ x ∈ xs, nameB x = true
  wl : ws.length ≤ 100
  wn : ∀ u ∈ ws, nameB u.1 = true ∧ nameB u.2.1 = true ∧ 1 ≤ u.2.2 ∧ u.2.2 < 10 ^ 30
def spMapL : Sp := fun vs H Q _ => ∃ (p : Addr) (n : Nat), vs = [.ref p, .int n] ∧ PnAt H p ∧ 1 ≤ n ∧ n ≤ 30 ∧
  ∀ (H' : Hp) (m : Addr) (xs : List Str) (ws : List Way), PnAt H' p → Keep p H H' → MapAt H' m n xs ws → Q (.ref m) H'
end L2
set_option Elab.async false
set_option linter.all false
set_option maxRecDepth 100000
set_option maxHeartbeats 4000000
namespace L2
open PySem PySem.Spec PyProof.Rows
def iSeq (K : PySem.W.Frag) (tl : TE) : TI := fun σ H R => tl σ H fun x H1 => ∃ a, x = .ref a ∧ (((∃ xs, SqL K H1 a xs) ∧ R (Itl K a) H1) ∨ ((∃ xs, SqT K H1 a xs) ∧ R (Itt K a) H1))
theorem pi_seq {X : Cx} {tg l : Expr} {tl : TE} (hl : PE X l tl) : PI X tg l (iSeq X.K tl) := by
  intro pins s σ H R I h
  refine thn (hl pins s σ H _ I h) fun v s1 ⟨x, H1, I1, r1, q1⟩ => ?_
  obtain ⟨a, e, q1⟩ := q1
  subst e
  cases r1
  have fp : ∀ b ∈ [s1.heap.objs.size], FpOk X pins H1 b := fun b hb => by
    have e : b = s1.heap.objs.size := by simpa using hb
    subst e
    exact I1.fpOk (Nat.le_refl _) (I1.hok.fresh (Nat.le_refl _))
  rcases q1 with ⟨⟨xs, hq⟩, q⟩ | ⟨⟨xs, hq⟩, q⟩
  · obtain ⟨its, rv, p, hz⟩ := I1.list hq
    refine wpAny_pyIter_list p.isList ?_
    exact ⟨s1.heap.objs.size, [s1.heap.objs.size], _, _, H1, rfl, I1.kept (t' := s1.toks) fun b o e => Heap.get?_push_of_some _ e, turn_list a _, ⟨_, Heap.get?_push_size _ rfl, rfl, rfl⟩, fp, q⟩
  · obtain ⟨its, rv, p, hz⟩ := I1.tuple hq
    refine wpAny_pyIter_tuple (show s1.heap.IsTuple a its.toArray from p) ?_
    exact ⟨s1.heap.objs.size, [s1.heap.objs.size], _, _, H1, rfl, I1.kept (t' := s1.toks) fun b o e => Heap.get?_push_of_some _ e, turn_tuple a _, ⟨_, Heap.get?_push_size _ rfl, rfl, rfl⟩, fp, q⟩
/-- what an iterator over these things is, as long as they stand -/
structure Over (J : It) (xs : List V) (S : Hp → Prop) : Prop where
  go : ∀ i H, S H → i < xs.length → J.go i H
  yld : ∀ i H x H', S H → J.yld i H x H' → H' = H ∧ xs[i]? = some x
  stop : ∀ H, S H → J.stop xs.length H
theorem over_list {K : PySem.W.Frag} {a : Addr} {xs : List V} : Over (Itl K a) xs (fun H => SqL K H a xs) :=
  ⟨fun i H q hlt => ⟨xs, xs[i], q, by simp [hlt]⟩, fun i H x H' q y => ⟨y.1, y.2 xs q⟩, fun H q => ⟨xs, q, Nat.le_refl _⟩⟩
theorem over_tup {K : PySem.W.Frag} {a : Addr} {xs : List V} : Over (Itt K a) xs (fun H => SqT K H a xs) :=
  ⟨fun i H q hlt => ⟨xs, xs[i], q, by simp [hlt]⟩, fun i H x H' q y => ⟨y.1, y.2 xs q⟩, fun H q => ⟨xs, q, Nat.le_refl _⟩⟩
/-- [e for x in xs]: a comprehension with no test -/
theorem read_map {J : It} {xs : List V} {S : Hp → Prop} {g : TG} {te : TE} {H : Hp} {σ0 : St} {R : Addr → Hp → Prop} (ov : Over J xs S) (I : Addr → Nat → St → Hp → List V → Prop) (big : xs.length < sizeLine)
    (h0 : ∀ D, H D = none → I D 0 σ0 (upd H D (.lst [])) [])
    (hs : ∀ D i σ H' acc, H D = none → I D i σ H' acc → S H' ∧ H' D = some (.lst acc) ∧ acc.length = i)
    (turn : ∀ D i σ H' acc x (B : St → V → Hp → Prop), H D = none → xs[i]? = some x → I D i σ H' acc → (∀ σ2 v H5, H5 D = some (.lst acc) → I D (i + 1) σ2 (upd H5 D (.lst (acc ++ [v]))) (acc ++ [v]) → B σ2 v H5) → g x σ H' fun σ2 H3 => te σ2 H3 (B σ2))
    (fin : ∀ D σ H' acc, H D = none → I D xs.length σ H' acc → R D H') :
    ∀ D, H D = none → ∃ W : Nat → Nat → St → Hp → Prop, (∃ m, W 0 m σ0 (upd H D (.lst []))) ∧
      ∀ i m σ' H', W i m σ' H' → (J.stop i H' ∧ R D H') ∨ (J.go i H' ∧ ∀ x H2, J.yld i H' x H2 → g x σ' H2 fun σ2 H3 => tYes σ2 H3 fun b H4 =>
        if b = true then te σ2 H4 (fun v H5 => ∃ acc, H5 D = some (.lst acc) ∧ acc.length < sizeLine ∧ ∃ m', m' < m ∧ W (i + 1) m' σ2 (upd H5 D (.lst (acc ++ [v])))) else ∃ m', m' < m ∧ W (i + 1) m' σ2 H4) := by
  intro D hD
  refine ⟨fun i m σ H' => m = xs.length - i ∧ i ≤ xs.length ∧ ∃ acc, I D i σ H' acc, ⟨xs.length, rfl, Nat.zero_le _, [], h0 D hD⟩, ?_⟩
  rintro i m σ H' ⟨rfl, hi, acc, p⟩
  obtain ⟨s1, s2, s3⟩ := hs D i σ H' acc hD p
  by_cases hlt : i < xs.length
  · refine .inr ⟨ov.go i H' s1 hlt, fun x H2 y => ?_⟩
    obtain ⟨rfl, ex⟩ := ov.yld i H' x H2 s1 y
    have e : ∀ (F : St → V → Hp → Prop) (G : St → Hp → Prop), (fun (σ2 : St) (H3 : Hp) => tYes σ2 H3 fun b H4 => if b = true then te σ2 H4 (F σ2) else G σ2 H4) = fun σ2 H3 => te σ2 H3 (F σ2) := by
      intro F G
      funext σ2 H3
      show (if true = true then te σ2 H3 (F σ2) else G σ2 H3) = _
      rw [if_pos rfl]
    rw [e (fun σ2 v H5 => ∃ acc, H5 D = some (.lst acc) ∧ acc.length < sizeLine ∧ ∃ m', m' < xs.length - i ∧ (m' = xs.length - (i + 1) ∧ i + 1 ≤ xs.length ∧ ∃ acc', I D (i + 1) σ2 (upd H5 D (.lst (acc ++ [v]))) acc')) (fun σ2 H4 => ∃ m', m' < xs.length - i ∧ (m' = xs.length - (i + 1) ∧ i + 1 ≤ xs.length ∧ ∃ acc', I D (i + 1) σ2 H4 acc'))]
    refine turn D i σ H2 acc x _ hD ex p fun σ2 v H5 d5 p5 => ?_
    exact ⟨acc, d5, by omega, xs.length - (i + 1), by omega, rfl, hlt, _, p5⟩
  · have e : i = xs.length := by omega
    subst e
    exact .inl ⟨ov.stop H' s1, fin D σ H' acc hD p⟩
end L2
set_option Elab.async false
set_option linter.all false
set_option maxRecDepth 100000
set_option maxHeartbeats 4000000
namespace L2
open PySem PySem.Spec PyProof.Rows
/-- data that may be compared and shown -/
structure Fine (d : PyData) (k b : Nat) : Prop where
  lay : d.canLay0 = true
  sho : d.showable = true
  nod : d.hasDict = false
  lv : d.leavesShort 200 = true
  dp : d.depth ≤ k
  bu : d.bulk ≤ b
theorem Fine.none : Fine .none 0 0 := ⟨rfl, rfl, rfl, rfl, Nat.le_refl _, Nat.le_refl _⟩
theorem Fine.int {i : Int} (h1 : 0 ≤ i) (h2 : i < 10 ^ 30) : Fine (.int i) 0 0 := by
  have l : i.natAbs.log2 < 120 := by
    by_cases z : i.natAbs = 0
    · rw [z]; decide
    · refine (Nat.log2_lt z).mpr (Nat.lt_of_lt_of_le (m := 10 ^ 30) (by omega) (by decide))
  have e : PyData.leavesShort 200 (.int i) = decide ((PyData.shown (.int i)).length ≤ 200) := by simp only [PyData.leavesShort]
  refine ⟨rfl, ?_, rfl, ?_, Nat.le_refl _, Nat.le_refl _⟩
  · simp only [PyData.showable]
    exact decide_eq_true (by omega)
  · rw [e]
    apply decide_eq_true
    have q := int_text_length_le (a := i) (k := 120) (by decide) l
    have e2 : PyData.shown (.int i) = Str.ofString (toString i) := by simp only [PyData.shown]
    rw [e2, PySem.ofString_length]
    omega
theorem Fine.str {x : Str} (h : nameB x = true) : Fine (.str x) 0 6 := by
  obtain ⟨l1, l2, lo⟩ := low_of h
  refine ⟨?_, rfl, rfl, ?_, Nat.le_refl _, ?_⟩
  · have := lay_strs (xs := [x]) (by simpa using h)
    simpa [PyData.canLayAll0, PyData.canLay0] using this
  · have e : PyData.leavesShort 200 (.str x) = x.cps.toList.all fun c => decide (c < 16 ^ 8) := by simp only [PyData.leavesShort]
    rw [e, List.all_eq_true]
    intro c hc
    have := lo c hc
    unfold lowc at this
    simp at this
    apply decide_eq_true
    omega
  · show PyData.bulk (.str x) ≤ 6
    simp only [PyData.bulk]
    exact l2
theorem Fine.mono {d : PyData} {k b k' b' : Nat} (h : Fine d k b) (h1 : k ≤ k') (h2 : b ≤ b') : Fine d k' b' := ⟨h.lay, h.sho, h.nod, h.lv, Nat.le_trans h.dp h1, Nat.le_trans h.bu h2⟩
theorem Fine.all {k b : Nat} : ∀ {ds : List PyData}, (∀ d ∈ ds, Fine d k b) → PyData.canLayAll0 ds = true ∧ PyData.showableAll ds = true ∧ PyData.hasDictAll ds = false ∧ PyData.leavesShortAll 200 ds = true ∧ PyData.depthAll ds ≤ k ∧ PyData.bulkAll ds ≤ ds.length * (b + 1)
  | [], _ => ⟨rfl, rfl, rfl, rfl, Nat.zero_le _, Nat.zero_le _⟩
  | d :: ds, h => by
    obtain ⟨a1, a2, a3, a4, a5, a6⟩ := Fine.all (ds := ds) fun e he => h e (List.mem_cons_of_mem _ he)
    have f := h d List.mem_cons_self
    have f5 := f.dp
    have f6 := f.bu
    refine ⟨by simp [PyData.canLayAll0, f.lay, a1], by simp [PyData.showableAll, f.sho, a2], by simp [PyData.hasDictAll, f.nod, a3], by simp [PyData.leavesShortAll, f.lv, a4], ?_, ?_⟩
    · simp only [PyData.depthAll]
      omega
    · simp only [PyData.bulkAll, List.length_cons, Nat.succ_mul]
      omega
theorem Fine.tuple {ds : List PyData} {k b : Nat} (h : ∀ d ∈ ds, Fine d k b) : Fine (.tuple ds) (k + 1) (ds.length * (b + 1)) := by
  obtain ⟨a1, a2, a3, a4, a5, a6⟩ := Fine.all h
  exact ⟨by simp only [PyData.canLay0]; exact a1, by simp only [PyData.showable]; exact a2, by simp only [PyData.hasDict]; exact a3, by simp only [PyData.leavesShort]; exact a4, by simp only [PyData.depth]; omega, by simp only [PyData.bulk]; exact a6⟩
theorem Fine.list {ds : List PyData} {k b : Nat} (h : ∀ d ∈ ds, Fine d k b) : Fine (.list ds) (k + 1) (ds.length * (b + 1)) := by
  obtain ⟨a1, a2, a3, a4, a5, a6⟩ := Fine.all h
  exact ⟨by simp only [PyData.canLay0]; exact a1, by simp only [PyData.showable]; exact a2, by simp only [PyData.hasDict]; exact a3, by simp only [PyData.leavesShort]; exact a4, by simp only [PyData.depth]; omega, by simp only [PyData.bulk]; exact a6⟩
theorem Fine.len {d : PyData} {k b : Nat} (h : Fine d k b) (hb : b ≤ 60000) : d.shown.length ≤ sizeLine := by
  have q := PyData.shown_le_bulk 200 (by decide) d h.lv
  have := h.bu
  have e : 202 * d.bulk ≤ 202 * 60000 := Nat.mul_le_mul_left _ (by omega)
  have : 202 * 60000 + 200 ≤ sizeLine := by decide
  omega
/-- rows (a place, a number) -/
abbrev Row := Str × Int
def rowD (u : Row) : PyData := .tuple [.str u.1, .int u.2]
/-- right rows of these places: each once -/
structure RowsOk (xs : List Str) (lo : Int) (rs : List Row) : Prop where
  sub : ∀ r ∈ rs, r.1 ∈ xs
  nd : (rs.map (·.1)).Nodup
  lo : ∀ r ∈ rs, lo ≤ r.2 ∧ r.2 < 10 ^ 30
  one : 1 ≤ rs.length
theorem fine_rows {xs : List Str} {lo : Int} {rs : List Row} (h : RowsOk xs lo rs) (h0 : 0 ≤ lo) (hn : ∀ x ∈ xs, nameB x = true) : ∀ d ∈ rs.map rowD, Fine d 1 14 := by
  intro d hd
  obtain ⟨r, hr, rfl⟩ := List.mem_map.mp hd
  obtain ⟨l1, l2⟩ := h.lo r hr
  refine (Fine.tuple (k := 0) (b := 6) fun e he => ?_).mono (Nat.le_refl _) (by show 2 * (6 + 1) ≤ 14; decide)
  simp only [List.mem_cons, List.not_mem_nil, or_false] at he
  rcases he with rfl | rfl
  · exact Fine.str (hn _ (h.sub r hr))
  · exact (Fine.int (by omega) l2).mono (Nat.le_refl _) (by decide)
theorem fine_ways {ws : List Way} (h : ∀ u ∈ ws, nameB u.1 = true ∧ nameB u.2.1 = true ∧ 1 ≤ u.2.2 ∧ u.2.2 < 10 ^ 30) : ∀ d ∈ ws.map wayD, Fine d 1 21 := by
  intro d hd
  obtain ⟨u, hu, rfl⟩ := List.mem_map.mp hd
  obtain ⟨a, b, c, e⟩ := h u hu
  refine (Fine.tuple (k := 0) (b := 6) fun e he => ?_).mono (Nat.le_refl _) (by show 3 * (6 + 1) ≤ 21; decide)
  simp only [List.mem_cons, List.not_mem_nil, or_false] at he
  rcases he with rfl | rfl | rfl
  · exact Fine.str a
  · exact Fine.str b
  · exact (Fine.int (by omega) e).mono (Nat.le_refl _) (by decide)
theorem fine_strs {xs : List Str} (h : ∀ x ∈ xs, nameB x = true) : ∀ d ∈ xs.map PyData.str, Fine d 0 6 := by
  intro d hd
  obtain ⟨u, hu, rfl⟩ := List.mem_map.mp hd
  exact Fine.str (h u hu)
end L2
set_option Elab.async false
set_option linter.all false
set_option maxRecDepth 100000
set_option maxHeartbeats 4000000
namespace L2
open PySem PySem.Spec PyProof.Rows
def rk (u : Row) : List Atm := [.s u.1, .i u.2]
theorem rk_inj (u v : Row) (h : rk u = rk v) : u = v := by
  unfold rk at h
  simp only [List.cons.injEq, Atm.s.injEq, Atm.i.injEq, and_true] at h
  exact Prod.ext h.1 h.2
def RiseR (rs : List Row) : Prop := rs.Pairwise (fun u v => lexLt (rk v) (rk u) = false)
theorem riseR_one {us rs : List Row} (p : us.Perm rs) (h1 : RiseR us) (h2 : RiseR rs) : us = rs := rise_uniq rk rk_inj p h1 h2
theorem row_at {H : Hp} {v : V} {u : Row} (h : Dat H v (rowD u)) : ∃ t, v = .ref t ∧ H t = some (.tup [.str u.1, .int u.2]) := by
  unfold rowD at h
  cases h with
  | tup ha hd =>
    cases hd with
    | cons h1 r1 =>
      cases r1 with
      | cons h2 r2 =>
        cases r2
        cases h1
        cases h2
        exact ⟨_, rfl, ha⟩
theorem rowD_of {H : Hp} {t : Addr} {u : Row} (h : H t = some (.tup [.str u.1, .int u.2])) : Dat H (.ref t) (rowD u) := .tup h (.cons (.str _) (.cons (.int _) .nil))
theorem row_dats {H2 H3 : Hp} {vs : List V} {rs : List Row} (h : Dats H2 vs (rs.map rowD)) (ht : ∀ b xs, H2 b = some (.tup xs) → H3 b = some (.tup xs)) : Dats H3 vs (rs.map rowD) := by
  induction rs generalizing vs with
  | nil => cases h; exact .nil
  | cons u rs ih =>
    cases h with
    | cons h1 r =>
      obtain ⟨t, rfl, e⟩ := row_at h1
      exact .cons (rowD_of (ht _ _ e)) (ih r)
theorem dats_row {H : Hp} : ∀ {vs : List V} {rs : List Row} {i : Nat} {x : V}, Dats H vs (rs.map rowD) → vs[i]? = some x → ∃ u t, rs[i]? = some u ∧ x = .ref t ∧ H t = some (.tup [.str u.1, .int u.2])
  | _, [], i, x, .nil, e => by simp at e
  | _, u :: rs, 0, x, .cons h r, e => by
    simp only [List.getElem?_cons_zero, Option.some.injEq] at e
    subst e
    obtain ⟨t, rfl, q⟩ := row_at h
    exact ⟨u, t, rfl, rfl, q⟩
  | _, u :: rs, i + 1, x, .cons h r, e => by
    obtain ⟨u', t, a, b, c⟩ := dats_row r (by simpa using e)
    exact ⟨u', t, by simpa using a, b, c⟩
theorem rows_len {H : Hp} : ∀ {vs : List V} {rs : List Row}, Dats H vs (rs.map rowD) → vs.length = rs.length
  | _, [], .nil => rfl
  | _, u :: rs, .cons h r => by rw [List.length_cons, List.length_cons, rows_len r]
theorem rows_perm {H : Hp} {vs vs' : List V} (p : vs'.Perm vs) : ∀ {rs : List Row}, Dats H vs (rs.map rowD) → ∃ rs' : List Row, Dats H vs' (rs'.map rowD) ∧ rs'.Perm rs := by
  induction p with
  | nil => intro rs h; exact ⟨rs, h, .refl _⟩
  | cons x p ih =>
    intro rs h
    cases rs with
    | nil => cases h
    | cons u rs =>
      cases h with
      | cons h1 h2 =>
        obtain ⟨rs', a, b⟩ := ih h2
        exact ⟨u :: rs', .cons h1 a, b.cons u⟩
  | swap x y l =>
    intro rs h
    cases rs with
    | nil => cases h
    | cons u rs =>
      cases h with
      | cons h1 h2 =>
        cases rs with
        | nil => cases h2
        | cons v rs =>
          cases h2 with
          | cons h3 h4 => exact ⟨v :: u :: rs, .cons h3 (.cons h1 h4), .swap u v rs⟩
  | trans p1 p2 ih1 ih2 =>
    intro rs h
    obtain ⟨rs1, a1, b1⟩ := ih2 h
    obtain ⟨rs2, a2, b2⟩ := ih1 a1
    exact ⟨rs2, a2, b2.trans b1⟩
theorem row_tupK {H : Hp} {v : V} {u : Row} (h : Dat H v (rowD u)) : TupK H (fun i => decide (i < 1)) v ∧ keyV H v = rk u := by
  obtain ⟨t, rfl, ht⟩ := row_at h
  refine ⟨⟨t, _, rfl, ht, by simp, fun i y e => ?_⟩, ?_⟩
  · unfold KindV
    match i, e with
    | 0, e => cases e; simp
    | 1, e => cases e; simp
    | n + 2, e => simp at e
  · show (match H t with | some (.tup ys) => ys.map vAtm | _ => []) = _
    rw [ht]
    rfl
theorem rows_tupK {H : Hp} : ∀ {vs : List V} {rs : List Row}, Dats H vs (rs.map rowD) → (∀ v ∈ vs, TupK H (fun i => decide (i < 1)) v) ∧ vs.map (keyV H) = rs.map rk
  | _, [], .nil => ⟨(fun v hv => nomatch hv), rfl⟩
  | _, u :: rs, .cons h r => by
    obtain ⟨a1, a2⟩ := row_tupK h
    obtain ⟨b1, b2⟩ := rows_tupK r
    refine ⟨fun v hv => ?_, by rw [List.map_cons, List.map_cons, a2, b2]⟩
    rcases List.mem_cons.mp hv with rfl | hv
    · exact a1
    · exact b1 v hv
/-- sorted(a list of rows) -/
theorem call_sorted_rows {X : Cx} : CallR X (.builtin "sorted") (fun xs H Q => ∃ (a : Addr) (vs : List V) (rs : List Row), xs = [.ref a] ∧ SqL X.K H a vs ∧ Dats H vs (rs.map rowD) ∧
    ∀ (l : Addr) (vs' : List V) (rs' : List Row), H l = none → Dats H vs' (rs'.map rowD) → rs'.Perm rs → RiseR rs' → Q (.ref l) (upd H l (.lst vs'))) := by
  intro pins s σ H xs us Q I r h
  obtain ⟨a, vs, rs, rfl, ha, hd, q⟩ := h
  refine call_sorted_tups pins s σ H _ us Q I r ⟨a, vs, _, rfl, ha, (rows_tupK hd).1, fun l vs' hl pv rise => ?_⟩
  obtain ⟨rs', d1, p1⟩ := rows_perm pv hd
  refine q l vs' rs' hl d1 p1 ?_
  have e := (rows_tupK d1).2
  have p2 : (vs'.map (keyV H)).Pairwise (fun a b => lexLt b a = false) := List.pairwise_map.mpr rise
  rw [e] at p2
  exact List.pairwise_map.mp p2
theorem RowsOk.perm {xs : List Str} {lo : Int} {rs rs' : List Row} (h : RowsOk xs lo rs) (p : rs'.Perm rs) : RowsOk xs lo rs' :=
  ⟨fun r hr => h.sub r (p.mem_iff.mp hr), (p.map (·.1)).nodup_iff.mpr h.nd, fun r hr => h.lo r (p.mem_iff.mp hr), by rw [p.length_eq]; exact h.one⟩
def spRowsL (K : PySem.W.Frag) : Sp := fun vs H Q _ => ∃ (p t : Addr) (xs : List Str) (m lo : Int), vs = [.ref p, .ref t, .int m, .int lo] ∧ PnAt H p ∧ SqT K H t (xs.map V.str) ∧ xs.Nodup ∧ 1 ≤ xs.length ∧ xs.length ≤ 1000 ∧ 1 ≤ m ∧ m ≤ 1000 ∧ 0 ≤ lo ∧ lo ≤ 1000 ∧
  ∀ (H' : Hp) (D : Addr) (us : List V) (rs : List Row), PnAt H' p → Keep p H H' → D ≠ p → H' D = some (.lst us) → Dats H' us (rs.map rowD) → RowsOk xs lo rs → (rs.length : Int) ≤ m → Q (.ref D) H'
def spHanded : Sp := fun vs H Q _ => ∃ (p D : Addr) (us : List V), vs = [.ref p, .ref D] ∧ PnAt H p ∧ D ≠ p ∧ H D = some (.lst us) ∧
  ∀ (H' : Hp) (e : Addr), PnAt H' p → Keep p H H' → e ≠ p → (H' e = some (.lst us) ∨ H' e = some (.tup us)) → Q (.ref e) H'
def spWholeI : Sp := fun vs H Q _ => ∃ i : Int, vs = [.int i] ∧ Q (.bl true) H
def spWholeFromI : Sp := fun vs H Q _ => ∃ i j : Int, vs = [.int i, .int j] ∧ Q (.bl (decide (j ≤ i))) H
/-- the map's places, as they lie -/
def Places (H : Hp) (m : Addr) (xs : List Str) : Prop := ∃ t1 t2 : Addr, H m = some (.tup [.ref t1, .ref t2]) ∧ H t1 = some (.tup (xs.map V.str))
theorem MapAt.places {H : Hp} {m : Addr} {n : Nat} {xs : List Str} {ws : List Way} (h : MapAt H m n xs ws) : Places H m xs := let ⟨t1, t2, _, a, b, _⟩ := h.ex; ⟨t1, t2, a, b⟩
theorem Places.same {H H' : Hp} {m : Addr} {xs : List Str} (h : Places H m xs) (s : Same H H') : Places H' m xs := let ⟨t1, t2, a, b⟩ := h; ⟨t1, t2, s _ _ a, s _ _ b⟩
def spRowOf : Sp := fun vs H Q _ => ∃ (m t : Addr) (lo : Int) (xs : List Str) (r : Row), vs = [.ref m, .ref t, .int lo] ∧ Places H m xs ∧ H t = some (.tup [.str r.1, .int r.2]) ∧ r.1 ∈ xs ∧ nameB r.1 = true ∧ lo ≤ r.2 ∧
  ∀ (H' : Hp) (D : Addr), Same H H' → H' D = some (.tup [.str r.1, .int r.2]) → Q (.ref D) H'
def spRowsOf : Sp := fun vs H Q _ => ∃ (m e : Addr) (most lo : Int) (xs : List Str) (us : List V) (rs : List Row), vs = [.ref m, .ref e, .int most, .int lo] ∧ Places H m xs ∧ (∀ x ∈ xs, nameB x = true) ∧ (H e = some (.lst us) ∨ H e = some (.tup us)) ∧ Dats H us (rs.map rowD) ∧ RowsOk xs lo rs ∧ (rs.length : Int) ≤ most ∧ rs.length ≤ 1000 ∧
  ∀ (H' : Hp) (D : Addr) (us' : List V) (rs' : List Row), Same H H' → H' D = some (.tup us') → Dats H' us' (rs'.map rowD) → rs'.Perm rs → RiseR rs' → Q (.ref D) H'
/-- a limit: None, or a number from 1 on -/
def Lim (x : V) (d : PyData) : Prop := (x = .non ∧ d = .none) ∨ ∃ i : Int, x = .int i ∧ d = .int i ∧ 1 ≤ i ∧ i < 10 ^ 30
def spCaseOf : Sp := fun vs H Q _ => ∃ (m e1 e2 : Addr) (x : V) (d : PyData) (xs : List Str) (us1 us2 : List V) (rs1 rs2 : List Row), vs = [.ref m, .ref e1, .ref e2, x] ∧ Lim x d ∧ Places H m xs ∧ (∀ x ∈ xs, nameB x = true) ∧
  (H e1 = some (.lst us1) ∨ H e1 = some (.tup us1)) ∧ Dats H us1 (rs1.map rowD) ∧ RowsOk xs 0 rs1 ∧ rs1.length ≤ 10 ∧ (H e2 = some (.lst us2) ∨ H e2 = some (.tup us2)) ∧ Dats H us2 (rs2.map rowD) ∧ RowsOk xs 1 rs2 ∧ rs2.length ≤ 30 ∧
  ∀ (H' : Hp) (D t1 t2 : Addr) (us1' us2' : List V) (rs1' rs2' : List Row), Same H H' → H' D = some (.tup [.ref m, .ref t1, .ref t2, x]) → H' t1 = some (.tup us1') → Dats H' us1' (rs1'.map rowD) → rs1'.Perm rs1 → RiseR rs1' → H' t2 = some (.tup us2') → Dats H' us2' (rs2'.map rowD) → rs2'.Perm rs2 → RiseR rs2' → Q (.ref D) H'
end L2
namespace L2
open PySem PySem.Spec PyProof.Rows
theorem dedup_nodup (ss : List Str) (h : ss.Nodup) : ss.foldl step_dedup [] = ss := by
  rw [← met_list, met_nodup]
  · refine List.ext_getElem (by simp) fun i h1 h2 => ?_
    simp [List.getD_eq_getElem?_getD, List.getElem?_eq_getElem h2]
  · intro a b hab hb
    rw [List.getD_eq_getElem?_getD, List.getD_eq_getElem?_getD, List.getElem?_eq_getElem (by omega), List.getElem?_eq_getElem hb]
    exact List.pairwise_iff_getElem.mp h a b (by omega) hb hab
end L2
set_option Elab.async false
set_option linter.all false
set_option maxRecDepth 100000
set_option maxHeartbeats 4000000
namespace L2
open PySem PySem.Spec PyProof.Rows
def mapD (xs : List Str) (ws : List Way) : PyData := .tuple [.tuple (xs.map .str), .tuple (ws.map wayD)]
def caseD (xs : List Str) (ws : List Way) (rs1 rs2 : List Row) (d : PyData) : PyData := .tuple [mapD xs ws, .tuple (rs1.map rowD), .tuple (rs2.map rowD), d]
def CaseAt (H : Hp) (D : Addr) (xs : List Str) (ws : List Way) (rs1 rs2 : List Row) (d : PyData) : Prop :=
  ∃ (m t1 t2 ta tb : Addr) (vs us1 us2 : List V) (x : V), H D = some (.tup [.ref m, .ref t1, .ref t2, x]) ∧ H m = some (.tup [.ref ta, .ref tb]) ∧ H ta = some (.tup (xs.map V.str)) ∧ H tb = some (.tup vs) ∧ Dats H vs (ws.map wayD) ∧
    H t1 = some (.tup us1) ∧ Dats H us1 (rs1.map rowD) ∧ H t2 = some (.tup us2) ∧ Dats H us2 (rs2.map rowD) ∧ Lim x d
theorem CaseAt.keep {H H' : Hp} {D : Addr} {xs : List Str} {ws : List Way} {rs1 rs2 : List Row} {d : PyData} (h : CaseAt H D xs ws rs1 rs2 d) (ht : ∀ b ys, H b = some (.tup ys) → H' b = some (.tup ys)) : CaseAt H' D xs ws rs1 rs2 d := by
  obtain ⟨m, t1, t2, ta, tb, vs, us1, us2, x, h1, h2, h3, h4, h5, h6, h7, h8, h9, l⟩ := h
  exact ⟨m, t1, t2, ta, tb, vs, us1, us2, x, ht _ _ h1, ht _ _ h2, ht _ _ h3, ht _ _ h4, way_dats h5 ht, ht _ _ h6, row_dats h7 ht, ht _ _ h8, row_dats h9 ht, l⟩
theorem Lim.dat {H : Hp} {x : V} {d : PyData} (h : Lim x d) : Dat H x d := by
  rcases h with ⟨rfl, rfl⟩ | ⟨i, rfl, rfl, _, _⟩
  · exact .non
  · exact .int i
theorem Lim.fine {x : V} {d : PyData} (h : Lim x d) : Fine d 0 0 := by
  rcases h with ⟨rfl, rfl⟩ | ⟨i, rfl, rfl, h1, h2⟩
  · exact Fine.none
  · exact Fine.int (by omega) h2
theorem CaseAt.dat {H : Hp} {D : Addr} {xs : List Str} {ws : List Way} {rs1 rs2 : List Row} {d : PyData} (h : CaseAt H D xs ws rs1 rs2 d) : Dat H (.ref D) (caseD xs ws rs1 rs2 d) := by
  obtain ⟨m, t1, t2, ta, tb, vs, us1, us2, x, h1, h2, h3, h4, h5, h6, h7, h8, h9, l⟩ := h
  exact .tup h1 (.cons (.tup h2 (.cons (.tup h3 (dats_strs H xs)) (.cons (.tup h4 h5) .nil))) (.cons (.tup h6 h7) (.cons (.tup h8 h9) (.cons l.dat .nil))))
theorem fine_case {xs : List Str} {ws : List Way} {rs1 rs2 : List Row} {x : V} {d : PyData} {lo1 lo2 : Int} (hn : ∀ x ∈ xs, nameB x = true) (xl : xs.length ≤ 30) (wl : ws.length ≤ 100) (wn : ∀ u ∈ ws, nameB u.1 = true ∧ nameB u.2.1 = true ∧ 1 ≤ u.2.2 ∧ u.2.2 < 10 ^ 30)
    (o1 : RowsOk xs lo1 rs1) (o2 : RowsOk xs lo2 rs2) (p1 : 0 ≤ lo1) (p2 : 0 ≤ lo2) (l1 : rs1.length ≤ 30) (l2 : rs2.length ≤ 30) (lim : Lim x d) : Fine (caseD xs ws rs1 rs2 d) 4 60000 := by
  have f1 : Fine (.tuple (xs.map .str)) 2 2300 := (Fine.tuple (fine_strs hn)).mono (by decide) (by rw [List.length_map]; omega)
  have f2 : Fine (.tuple (ws.map wayD)) 2 2300 := (Fine.tuple (fine_ways wn)).mono (by decide) (by rw [List.length_map]; omega)
  have f3 : Fine (mapD xs ws) 3 10000 := (Fine.tuple (k := 2) (b := 2300) fun e he => by
    simp only [List.mem_cons, List.not_mem_nil, or_false] at he
    rcases he with rfl | rfl
    · exact f1
    · exact f2).mono (by decide) (by show 2 * (2300 + 1) ≤ 10000; decide)
  have f4 : Fine (.tuple (rs1.map rowD)) 3 10000 := (Fine.tuple (fine_rows o1 p1 hn)).mono (by decide) (by rw [List.length_map]; omega)
  have f5 : Fine (.tuple (rs2.map rowD)) 3 10000 := (Fine.tuple (fine_rows o2 p2 hn)).mono (by decide) (by rw [List.length_map]; omega)
  refine (Fine.tuple (k := 3) (b := 10000) fun e he => ?_).mono (by decide) (by show 4 * (10000 + 1) ≤ 60000; decide)
  simp only [List.mem_cons, List.not_mem_nil, or_false] at he
  rcases he with rfl | rfl | rfl | rfl
  · exact f3
  · exact f4
  · exact f5
  · exact lim.fine.mono (by decide) (by decide)
theorem fine_rowsL {xs : List Str} {lo : Int} {rs : List Row} (h : RowsOk xs lo rs) (h0 : 0 ≤ lo) (hn : ∀ x ∈ xs, nameB x = true) : Fine (.list (rs.map rowD)) 2 (rs.length * 15) := by
  have := Fine.list (fine_rows h h0 hn)
  rw [List.length_map] at this
  exact this
/-- what case_of tells is the case that is due -/
theorem MapAt.case {H H' : Hp} {m D t1 t2 : Addr} {n : Nat} {xs : List Str} {ws : List Way} {x : V} {d : PyData} {us1 us2 : List V} {rs1 rs2 : List Row} (h : MapAt H m n xs ws) (s : Same H H') (hD : H' D = some (.tup [.ref m, .ref t1, .ref t2, x])) (h1 : H' t1 = some (.tup us1)) (d1 : Dats H' us1 (rs1.map rowD))
    (h2 : H' t2 = some (.tup us2)) (d2 : Dats H' us2 (rs2.map rowD)) (l : Lim x d) : CaseAt H' D xs ws rs1 rs2 d := by
  obtain ⟨ta, tb, vs, a, b, c, e⟩ := h.ex
  exact ⟨m, t1, t2, ta, tb, vs, us1, us2, x, hD, s _ _ a, s _ _ b, s _ _ c, way_dats e (fun b ys z => s _ _ z), h1, d1, h2, d2, l⟩
theorem MapAt.same {H H' : Hp} {m : Addr} {n : Nat} {xs : List Str} {ws : List Way} (h : MapAt H m n xs ws) (s : Same H H') : MapAt H' m n xs ws := by
  obtain ⟨ta, tb, vs, a, b, c, e⟩ := h.ex
  exact ⟨⟨ta, tb, vs, s _ _ a, s _ _ b, s _ _ c, way_dats e (fun b ys z => s _ _ z)⟩, h.len, h.nd, h.nm, h.wl, h.wn⟩
theorem eqv_one (d : PyData) (h : d.canLay0 = true) : (!PyData.eqv d d) = false := by rw [SeqAt.eqv_refl d h]; rfl
end L2
namespace L2
open PySem PySem.Spec PyProof.Rows
theorem tupK {H H' : Hp} {p : Addr} (hP : PnAt H p) (k : Keep p H H') : ∀ b ys, H b = some (.tup ys) → H' b = some (.tup ys) := fun b ys z => k b _ (by
  obtain ⟨_, _, _, q⟩ := hP
  exact ne_of z q (fun y => by cases y)) z
theorem MapAt.keepT {H H' : Hp} {m : Addr} {n : Nat} {xs : List Str} {ws : List Way} (h : MapAt H m n xs ws) (t : ∀ b ys, H b = some (.tup ys) → H' b = some (.tup ys)) : MapAt H' m n xs ws := by
  obtain ⟨ta, tb, vs, a, b, c, e⟩ := h.ex
  exact ⟨⟨ta, tb, vs, t _ _ a, t _ _ b, t _ _ c, way_dats e t⟩, h.len, h.nd, h.nm, h.wl, h.wn⟩
end L2
set_option Elab.async false
set_option linter.all false
set_option maxRecDepth 100000
set_option maxHeartbeats 4000000
namespace K09
open PySem L2
def top (i : Nat) : Stmt := PySem.Challenge.pw_openhouses_k09_cases_made.main.body.getD i (.Pass ⟨0, 0, 0, 0⟩)
abbrev s_is_name : Stmt := top 5
theorem sc_is_name : FnScope ["thing"] ["thing"] (defScope s_is_name) := ⟨rfl, rfl, rfl, by decide +kernel, rfl, by decide +kernel, by decide +kernel⟩
abbrev s_is_whole : Stmt := top 7
theorem sc_is_whole : FnScope ["thing"] ["thing"] (defScope s_is_whole) := ⟨rfl, rfl, rfl, by decide +kernel, rfl, by decide +kernel, by decide +kernel⟩
abbrev s_is_whole_from : Stmt := top 8
theorem sc_is_whole_from : FnScope ["thing", "least"] ["thing", "least"] (defScope s_is_whole_from) := ⟨rfl, rfl, rfl, by decide +kernel, rfl, by decide +kernel, by decide +kernel⟩
abbrev s_case_of : Stmt := top 12
theorem sc_case_of : FnScope ["web", "sites", "folk", "limit"] ["web", "sites", "folk", "limit"] (defScope s_case_of) := ⟨rfl, rfl, rfl, by decide +kernel, rfl, by decide +kernel, by decide +kernel⟩
abbrev s_rows_of : Stmt := top 13
theorem sc_rows_of : FnScope ["web", "rows", "most", "least", "rising"] ["web", "rows", "most", "least"] (defScope s_rows_of) := ⟨rfl, rfl, rfl, by decide +kernel, rfl, by decide +kernel, by decide +kernel⟩
abbrev s_row_of : Stmt := top 14
theorem sc_row_of : FnScope ["web", "row", "least", "place", "number"] ["web", "row", "least"] (defScope s_row_of) := ⟨rfl, rfl, rfl, by decide +kernel, rfl, by decide +kernel, by decide +kernel⟩
abbrev s_law_pen : Stmt := top 16
theorem sc_law_pen : FnScope ["_law_script", "_law_k", "_law_cell"] ["_law_script", "_law_k"] (defScope s_law_pen) := ⟨rfl, rfl, rfl, by decide +kernel, rfl, by decide +kernel, by decide +kernel⟩
abbrev s_law_draw : Stmt := top 17
theorem sc_law_draw : FnScope ["_law_pen_here", "_law_many", "_law_found", "_law_number"] ["_law_pen_here", "_law_many"] (defScope s_law_draw) := ⟨rfl, rfl, rfl, by decide +kernel, rfl, by decide +kernel, by decide +kernel⟩
abbrev s_law_names : Stmt := top 18
theorem sc_law_names : FnScope ["_law_pen_here", "_law_many", "_law_letters", "_law_head", "_law_start", "_law_step", "_law_most", "_law_found", "_law_k", "_law_tail", "_law_own"] ["_law_pen_here", "_law_many"] (defScope s_law_names) := ⟨rfl, rfl, rfl, by decide +kernel, rfl, by decide +kernel, by decide +kernel⟩
abbrev s_law_great : Stmt := top 19
theorem sc_law_great : FnScope ["_law_pen_here", "_law_least", "_law_size", "_law_way"] ["_law_pen_here", "_law_least", "_law_size"] (defScope s_law_great) := ⟨rfl, rfl, rfl, by decide +kernel, rfl, by decide +kernel, by decide +kernel⟩
abbrev s_law_map : Stmt := top 20
theorem sc_law_map : FnScope ["_law_pen_here", "_law_many", "_law_names_here", "_law_sort", "_law_ways", "_law_k", "_law_ends", "_law_rows_here", "_law_one", "_law_other"] ["_law_pen_here", "_law_many"] (defScope s_law_map) := ⟨rfl, rfl, rfl, by decide +kernel, rfl, by decide +kernel, by decide +kernel⟩
abbrev s_law_some : Stmt := top 21
theorem sc_law_some : FnScope ["_law_pen_here", "_law_things", "_law_most", "_law_left", "_law_found", "_law_k"] ["_law_pen_here", "_law_things", "_law_most"] (defScope s_law_some) := ⟨rfl, rfl, rfl, by decide +kernel, rfl, by decide +kernel, by decide +kernel⟩
abbrev s_law_rows : Stmt := top 22
theorem sc_law_rows : FnScope ["_law_pen_here", "_law_places", "_law_most", "_law_least"] ["_law_pen_here", "_law_places", "_law_most", "_law_least"] (defScope s_law_rows) := ⟨rfl, rfl, rfl, by decide +kernel, rfl, by decide +kernel, by decide +kernel⟩
abbrev s_law_handed : Stmt := top 23
theorem sc_law_handed : FnScope ["_law_pen_here", "_law_rows_here"] ["_law_pen_here", "_law_rows_here"] (defScope s_law_handed) := ⟨rfl, rfl, rfl, by decide +kernel, rfl, by decide +kernel, by decide +kernel⟩
abbrev s_law : Stmt := top 24
theorem sc_law : FnScope ["_law_script", "_law_k", "_law_pen_here", "_law_many", "_law_map_here", "_law_sites", "_law_folk", "_law_limit", "_law_due", "_law_handed_here", "_law_found", "_law_changed", "_law_told"] ["_law_script"] (defScope s_law) := ⟨rfl, rfl, rfl, by decide +kernel, rfl, by decide +kernel, by decide +kernel⟩
end K09
set_option maxRecDepth 100000
set_option maxHeartbeats 4000000
namespace K09
open PySem L2
section
variable {P : Program} {w : World} {K : PySem.W.Frag} {mg : Str → Option Value} {base : Heap}
theorem ok_pen {f : Addr} {fd : FuncData} (hlen : mg "len" = none) (F : Fun K "_law_pen" "_law_pen" s_law_pen f fd) : FnOk P w K mg base CX0 1 f fd ["_law_script", "_law_k"] (spPenL K) := by
  refine F.ok sc_law_pen (fun vs H Q E h => ?_) (fun cdv A outer s H vs Q E hr h => ?_)
  · obtain ⟨a, ns, k, rfl, _⟩ := h
    rfl
  · obtain ⟨a, ns, k, rfl, hS, hk, q⟩ := h
    refine ⟨_, pss_cons (ps_set (i := 2) sc_law_pen.nd rfl (Or.inl rfl) pe_int)
      (pss_cons (ps_if (pt_cmpR op_gt (pe_callB call_len_seq (by rfl) hlen PySem.boot_len (pa_cons (pv 0) pa_nil)) pe_int (nomark _))
        (pss_one (ps_set (i := 2) sc_law_pen.nd rfl (Or.inl rfl) (pe_ix ix_list (pv 0) (pe_op op_mod (pv 1) (pe_callB call_len_seq (by rfl) hlen PySem.boot_len (pa_cons (pv 0) pa_nil))) (fun _ _ => rfl)))) pss_nil)
      (pss_cons (ps_if (pw_and (pt_cmpR op_lt (pv 1) (pe_callB call_len_seq (by rfl) hlen PySem.boot_len (pa_cons (pv 0) pa_nil)) (nomark _)) (pw_and1 (pt_cmpR op_ge (pv 2) (pe_op op_pow pe_int pe_int) (nomark _)))).pt
        (pss_one (ps_ret (pe_lst (pa_cons (pv 2) (pa_cons pe_int (pa_cons pe_int pa_nil)))))) pss_nil)
      (pss_one (ps_ret (pe_lst (pa_cons pe_int (pa_cons (pe_op op_add (pe_op op_mod (pv 2) pe_int) (pe_op op_mul pe_int (pv 1))) (pa_cons pe_int pa_nil)))))))), ?_⟩
    have hS1 := hS.sq
    refine ⟨_, rfl, a, _, rfl, .inl hS1, _, _, rfl, rfl, _, rfl, ?_⟩
    refine ite2 (fun hpos => ?_) (fun _ => ?_)
    · rw [decide_eq_true_eq, List.length_map] at hpos
      have hl0 : (0 : Int) < ((ns.map V.int).length : Int) := by rw [List.length_map]; exact hpos
      obtain ⟨c, hc⟩ := at_ns (ns := ns) (i := k % ((ns.map V.int).length : Int)) (Int.emod_nonneg _ (by omega)) (by rw [List.length_map]; exact Int.emod_lt_of_pos _ hpos)
      refine ⟨_, rfl, _, rfl, _, rfl, a, _, rfl, .inl hS1, _, _, rfl, rfl, hl0, a, _, _, _, rfl, rfl, hS1, hc, ?_⟩
      refine ⟨_, rfl, _, rfl, a, _, rfl, .inl hS1, _, _, rfl, rfl, _, rfl, ?_⟩
      have tail : ∀ p : Addr, H p = none → Q (.ref p) (upd H p (.lst (penL 0 (c % 999999937 + 70001 * k) 0))) := fun p hp => q p _ _ hp
      refine ite2 (fun _ => ?_) (fun _ => ?_)
      · refine ⟨_, rfl, _, _, rfl, rfl, ⟨by decide, by decide, by decide⟩, _, _, rfl, rfl, _, rfl, ?_⟩
        refine ite2 (fun _ => ?_) (fun _ => ?_)
        · exact ⟨_, rfl, (by show 3 ≤ sizeLine; decide), fun p hp => q p c 0 hp⟩
        · exact ⟨_, rfl, _, _, rfl, rfl, (by show (0 : Int) < 999999937; decide), _, rfl, _, _, rfl, rfl, .inl ⟨by decide, by decide⟩, _, _, rfl, rfl, (by show 3 ≤ sizeLine; decide), tail⟩
      · refine ite2 (fun z => by cases z) (fun _ => ?_)
        exact ⟨_, rfl, _, _, rfl, rfl, (by show (0 : Int) < 999999937; decide), _, rfl, _, _, rfl, rfl, .inl ⟨by decide, by decide⟩, _, _, rfl, rfl, (by show 3 ≤ sizeLine; decide), tail⟩
    · refine ⟨_, rfl, _, rfl, a, _, rfl, .inl hS1, _, _, rfl, rfl, _, rfl, ?_⟩
      have tail : ∀ p : Addr, H p = none → Q (.ref p) (upd H p (.lst (penL 0 (0 % 999999937 + 70001 * k) 0))) := fun p hp => q p _ _ hp
      refine ite2 (fun _ => ?_) (fun _ => ?_)
      · refine ⟨_, rfl, _, _, rfl, rfl, ⟨by decide, by decide, by decide⟩, _, _, rfl, rfl, _, rfl, ?_⟩
        refine ite2 (fun _ => ?_) (fun _ => ?_)
        · exact ⟨_, rfl, (by show 3 ≤ sizeLine; decide), fun p hp => q p 0 0 hp⟩
        · exact ⟨_, rfl, _, _, rfl, rfl, (by show (0 : Int) < 999999937; decide), _, rfl, _, _, rfl, rfl, .inl ⟨by decide, by decide⟩, _, _, rfl, rfl, (by show 3 ≤ sizeLine; decide), tail⟩
      · refine ite2 (fun z => by cases z) (fun _ => ?_)
        exact ⟨_, rfl, _, _, rfl, rfl, (by show (0 : Int) < 999999937; decide), _, rfl, _, _, rfl, rfl, .inl ⟨by decide, by decide⟩, _, _, rfl, rfl, (by show 3 ≤ sizeLine; decide), tail⟩
theorem ok_draw {f : Addr} {fd : FuncData} (F : Fun K "_law_draw" "_law_draw" s_law_draw f fd) : FnOk P w K mg base CX0 1 f fd ["_law_pen_here", "_law_many"] spDraw := by
  refine F.ok sc_law_draw (fun vs H Q E h => ?_) (fun cdv A outer s H vs Q E hr h => ?_)
  · obtain ⟨p, m, rfl, _⟩ := h
    rfl
  · obtain ⟨p, m, rfl, ⟨a, b, c, hp⟩, hm, hm2, k⟩ := h
    refine ⟨_, pss_cons (ps_if (pt_cmpR op_gt (pe_ix ix_list (pv 0) pe_int (fun _ _ => rfl)) pe_int (nomark _))
        (pss_cons (ps_set (i := 2) sc_law_draw.nd rfl (Or.inl rfl) (pe_op op_mod (pe_ix ix_list (pv 0) pe_int (fun _ _ => rfl)) (pv 1)))
          (pss_cons (ps_asg (pe_op op_fdiv (pe_ix ix_list (pv 0) pe_int (fun _ _ => rfl)) (pv 1)) (pg_sub (pv 0) pe_int set_list)) (pss_one (ps_ret (pv 2))))) pss_nil)
      (pss_cons (ps_asg (pe_op op_add (pe_ix ix_list (pv 0) pe_int (fun _ _ => rfl)) pe_int) (pg_sub (pv 0) pe_int set_list))
      (pss_cons (ps_set (i := 3) sc_law_draw.nd rfl (Or.inl rfl) (pe_op op_mod (pe_op op_add (pe_op op_add (pe_op op_mul (pe_ix ix_list (pv 0) pe_int (fun _ _ => rfl)) pe_int) (pe_op op_mul (pe_ix ix_list (pv 0) pe_int (fun _ _ => rfl)) pe_int)) pe_int) pe_int))
      (pss_cons (ps_set (i := 3) sc_law_draw.nd rfl (Or.inl rfl) (pe_op op_mod (pe_op op_mul (pv 3) (pe_op op_add (pe_op op_mod (pv 3) pe_int) (pe_ix ix_list (pv 0) pe_int (fun _ _ => rfl)))) pe_int))
      (pss_one (ps_ret (pe_op op_mod (pe_op op_fdiv (pv 3) pe_int) (pv 1))))))), ?_⟩
    have sq : ∀ {H' : Hp} {a b c : Int}, H' p = some (.lst (penL a b c)) → SqL K H' p (penL a b c) := fun h => .inl (.inl h)
    refine ⟨_, rfl, p, _, _, _, rfl, rfl, sq hp, penL_0 _ _ _, _, _, rfl, rfl, _, rfl, ?_⟩
    refine ite2 (fun _ => ?_) (fun _ => ?_)
    · refine ⟨_, rfl, p, _, _, _, rfl, rfl, sq hp, penL_0 _ _ _, _, rfl, _, _, rfl, rfl, hm, ?_⟩
      refine ⟨_, rfl, p, _, _, _, rfl, rfl, sq hp, penL_0 _ _ _, _, rfl, _, _, rfl, rfl, ⟨hm, hm2⟩, _, rfl, p, _, _, 0, rfl, rfl, hp, rfl, _, rfl, ?_⟩
      exact k _ _ _ _ (Int.emod_nonneg _ (by omega)) (Int.emod_lt_of_pos _ hm)
    · refine ⟨_, rfl, p, _, _, _, rfl, rfl, sq hp, penL_2 _ _ _, _, _, rfl, rfl, _, rfl, p, _, _, 2, rfl, rfl, hp, rfl, ?_⟩
      have hp1 : (upd H p (.lst (penL a b (c + 1)))) p = some (.lst (penL a b (c + 1))) := upd_same
      refine ⟨_, rfl, p, _, _, _, rfl, rfl, sq hp1, penL_1 _ _ _, _, _, rfl, rfl, .inr ⟨by decide, by decide⟩, _, rfl, p, _, _, _, rfl, rfl, sq hp1, penL_2 _ _ _, _, _, rfl, rfl, .inr ⟨by decide, by decide⟩, _, _, rfl, rfl, _, _, rfl, rfl, _, _, rfl, rfl, (by show (0 : Int) < 2147483647; decide), ?_⟩
      have h0 : 0 ≤ (b * 48271 + (c + 1) * 40692 + 11) % 2147483647 := Int.emod_nonneg _ (by decide)
      have h1 : (b * 48271 + (c + 1) * 40692 + 11) % 2147483647 < 2147483647 := Int.emod_lt_of_pos _ (by decide)
      refine ⟨_, rfl, _, rfl, _, _, rfl, rfl, (by show (0 : Int) < 65521; decide), _, rfl, p, _, _, _, rfl, rfl, sq hp1, penL_2 _ _ _, _, _, rfl, rfl, _, _, rfl, rfl, .inl ⟨Int.lt_of_lt_of_le (b := 0) (by decide) h0, Int.lt_trans h1 (by decide)⟩, _, _, rfl, rfl, (by show (0 : Int) < 2147483629; decide), ?_⟩
      refine ⟨_, rfl, _, _, rfl, rfl, ⟨by decide, by decide⟩, _, rfl, _, _, rfl, rfl, hm, ?_⟩
      exact k _ _ _ _ (Int.emod_nonneg _ (by omega)) (Int.emod_lt_of_pos _ hm)
/-- the pen's draw, as it stands behind the top -/
structure DrawF (K : PySem.W.Frag) (mg : Str → Option Value) (fT : Addr) (fdT : FuncData) : Prop where
  F : Fun K "_law_draw" "_law_draw" s_law_draw fT fdT
  mg : mg "_law_draw" = some (.ref fT)
  b : Binds K fdT ["_law_pen_here", "_law_many"] []
theorem DrawF.ok {fT : Addr} {fdT : FuncData} (h : DrawF K mg fT fdT) : FnOk P w K mg base CX0 1 fT fdT ["_law_pen_here", "_law_many"] spDraw := ok_draw h.F
end
end K09
set_option maxRecDepth 100000
set_option maxHeartbeats 4000000
namespace K09
open PySem L2
section
variable {P : Program} {w : World} {K : PySem.W.Frag} {mg : Str → Option Value} {base : Heap}
theorem ok_great {f fT : Addr} {fd fdT : FuncData} (DK : DrawF K mg fT fdT) (F : Fun K "_law_great" "_law_great" s_law_great f fd) : FnOk P w K mg base CX0 2 f fd ["_law_pen_here", "_law_least", "_law_size"] spGreat := by
  have GT : FnOk P w K mg base CX0 1 fT fdT ["_law_pen_here", "_law_many"] spDraw := DK.ok
  refine F.ok sc_law_great (fun vs H Q E h => ?_) (fun cdv A outer s H vs Q E hr h => ?_)
  · obtain ⟨p, lo, sz, rfl, _⟩ := h
    rfl
  · obtain ⟨p, lo, sz, rfl, hP, h0, h1, h2, h3, k⟩ := h
    have nd := sc_law_great.nd
    refine ⟨_, pss_cons (ps_set (i := 3) nd rfl (Or.inl rfl) (pe_call GT hr (by rfl) DK.mg DK.F.kp DK.b .nil pass0 (pa_cons (pv 0) (pa_cons pe_int pa_nil))))
      (pss_cons (ps_if (pt_cmpR op_eq (pv 3) pe_int (nomark _)) (pss_one (ps_ret (pe_op op_add (pe_op op_pow pe_int pe_int) (pe_call GT hr (by rfl) DK.mg DK.F.kp DK.b .nil pass0 (pa_cons (pv 0) (pa_cons pe_int pa_nil)))))) pss_nil)
      (pss_cons (ps_if (pt_cmpR op_gt (pv 3) pe_int (nomark _)) (pss_one (ps_ret (pe_op op_add (pv 1) (pe_call GT hr (by rfl) DK.mg DK.F.kp DK.b .nil pass0 (pa_cons (pv 0) (pa_cons (pe_op op_mul pe_int (pv 2)) pa_nil)))))) pss_nil)
      (pss_one (ps_ret (pe_op op_add (pv 1) (pe_call GT hr (by rfl) DK.mg DK.F.kp DK.b .nil pass0 (pa_cons (pv 0) (pa_cons (pv 2) pa_nil)))))))), ?_⟩
    have big : (1000000 : Int) < 10 ^ 30 := by decide
    refine ⟨_, rfl, p, 16, rfl, hP, by decide, by decide, fun d a b c da db => ?_⟩
    refine ⟨_, rfl, rfl, _, rfl, ?_⟩
    refine ite2 (fun _ => ?_) (fun _ => ?_)
    · refine ⟨_, _, rfl, rfl, ⟨by decide, by decide, by decide⟩, _, rfl, p, 9, rfl, PnAt.set a b c, by decide, by decide, fun e a1 b1 c1 ea eb => ⟨_, _, rfl, rfl, ?_⟩⟩
      rw [upd_upd]
      have e1 : (1000 : Int) ≤ 10 ^ (29 : Int).toNat := by decide
      have e2 : (10 : Int) ^ (29 : Int).toNat + 9 < 10 ^ 30 := by decide
      exact k _ a1 b1 c1 (by omega) (by omega)
    · refine ⟨_, rfl, _, _, rfl, rfl, _, rfl, ?_⟩
      refine ite2 (fun _ => ?_) (fun _ => ?_)
      · refine ⟨_, rfl, _, rfl, _, rfl, _, _, rfl, rfl, .inl ⟨by decide, by decide⟩, p, _, rfl, PnAt.set a b c, by omega, by omega, fun e a1 b1 c1 ea eb => ⟨_, _, rfl, rfl, ?_⟩⟩
        rw [upd_upd]
        exact k _ a1 b1 c1 (by omega) (by omega)
      · refine ⟨_, rfl, _, rfl, _, rfl, p, _, rfl, PnAt.set a b c, h2, by omega, fun e a1 b1 c1 ea eb => ⟨_, _, rfl, rfl, ?_⟩⟩
        rw [upd_upd]
        exact k _ a1 b1 c1 (by omega) (by omega)
/-- a great number, as it stands behind the top -/
structure GreatF (K : PySem.W.Frag) (mg : Str → Option Value) (fG : Addr) (fdG : FuncData) : Prop where
  F : Fun K "_law_great" "_law_great" s_law_great fG fdG
  mg : mg "_law_great" = some (.ref fG)
  b : Binds K fdG ["_law_pen_here", "_law_least", "_law_size"] []
end
end K09
set_option maxRecDepth 100000
set_option maxHeartbeats 4000000
namespace K09
open PySem L2
section
variable {P : Program} {w : World} {K : PySem.W.Frag} {mg : Str → Option Value} {base : Heap}
structure TxtS (K : PySem.W.Frag) (mg : Str → Option Value) : Prop where
  len : mg "len" = none
  min : mg "min" = none
  list : mg "list" = none
  range : mg "range" = none
theorem ok_some {f fT : Addr} {fd fdT : FuncData} (T : TxtS K mg) (DK : DrawF K mg fT fdT) (F : Fun K "_law_some" "_law_some" s_law_some f fd) : FnOk P w K mg base CX0 2 f fd ["_law_pen_here", "_law_things", "_law_most"] (spSome K) := by
  have GT : FnOk P w K mg base CX0 1 fT fdT ["_law_pen_here", "_law_many"] spDraw := DK.ok
  refine F.ok sc_law_some (fun vs H Q E h => ?_) (fun cdv A outer s H vs Q E hr h => ?_)
  · obtain ⟨p, t, ts, m, rfl, _⟩ := h
    rfl
  · obtain ⟨p, t, ts, m, rfl, hP, hT, h1, h2, h3, h4, k⟩ := h
    have nd := sc_law_some.nd
    have big : 100000 < sizeLine := by decide
    refine ⟨_, pss_cons (ps_set (i := 3) nd rfl (Or.inl rfl) (pe_callTy call_list_of (by rfl) T.list PyProof.Rows.boot_list (pa_cons (pv 1) pa_nil)))
      (pss_cons (ps_set (i := 4) nd rfl (Or.inl rfl) (pe_lst pa_nil))
      (pss_cons (ps_for PassesOwn.never rfl (pi_range1 rfl T.range (pa_cons (pe_op op_add pe_int (pe_call GT hr (by rfl) DK.mg DK.F.kp DK.b .nil pass0 (pa_cons (pv 0) (pa_cons (pe_callB (call_min2 rfl) (by rfl) T.min PyProof.Rows.boot_min (pa_cons (pv 2) (pa_cons (pe_callB call_len_seq (by rfl) T.len PySem.boot_len (pa_cons (pv 3) pa_nil)) pa_nil))) pa_nil)))) pa_nil)) (pg_name (i := 5) nd rfl (Or.inl rfl))
        (pss_one (ps_expr (pe_bm PySem.F.plainAttrs_list PySem.F.slot_list_append PySem.F.type_list_append mt_append (pv 4)
          (pa_cons (pe_bm PySem.F.plainAttrs_list PySem.F.slot_list_pop PySem.F.type_list_pop mt_popAt (pv 3)
            (pa_cons (pe_call GT hr (by rfl) DK.mg DK.F.kp DK.b .nil pass0 (pa_cons (pv 0) (pa_cons (pe_callB call_len_seq (by rfl) T.len PySem.boot_len (pa_cons (pv 3) pa_nil)) pa_nil))) pa_nil)) pa_nil)))))
      (pss_one (ps_ret (pv 4))))), ?_⟩
    refine ⟨_, rfl, t, _, rfl, .inr hT, fun L hL => ?_⟩
    have pL : L ≠ p := hP.ne hL
    have hP1 : PnAt (upd H L (.lst (ts.map V.str))) p := hP.other pL
    refine ⟨(by show 0 ≤ sizeLine; omega), fun D hD => ?_⟩
    have pD : D ≠ p := hP1.ne hD
    have LD : D ≠ L := by
      intro z
      subst z
      rw [upd_same] at hD
      cases hD
    have hD0 : H D = none := by
      rw [upd_ne LD] at hD
      exact hD
    have hP2 : PnAt (upd (upd H L (.lst (ts.map V.str))) D (.lst [])) p := hP1.other pD
    have hL2 : (upd (upd H L (.lst (ts.map V.str))) D (.lst [])) L = some (.lst (ts.map V.str)) := by rw [upd_ne LD.symm, upd_same]
    have hm0 : 0 < (if ((ts.map V.str).length : Int) < m then ((ts.map V.str).length : Int) else m) := by
      rw [List.length_map]
      split <;> omega
    have hm1 : (if ((ts.map V.str).length : Int) < m then ((ts.map V.str).length : Int) else m) ≤ m := by
      split <;> omega
    have hm2 : (if ((ts.map V.str).length : Int) < m then ((ts.map V.str).length : Int) else m) ≤ ts.length := by
      rw [List.length_map]
      split <;> omega
    refine ⟨_, rfl, _, rfl, _, rfl, L, _, rfl, .inl (SqL.of hL2), _, _, rfl, p, _, rfl, hP2, hm0, by omega, fun d a b c da db => ⟨_, _, rfl, rfl, _, rfl, by omega, by omega, ?_⟩⟩
    refine for_range (lo := 0) (fun j σ H' => ∃ (xs ys : List Str) (v5 : Option V), σ = [some (.ref p), some (.ref t), some (.int m), some (.ref L), some (.ref D), v5] ∧ PnAt H' p ∧ H' L = some (.lst (ys.map V.str)) ∧ H' D = some (.lst (xs.map V.str)) ∧ (xs ++ ys).Perm ts ∧ xs.length = j ∧ Keep p H H')
      ⟨[], ts, _, rfl, PnAt.set a b c, ?_, ?_, List.Perm.refl _, rfl, ?_⟩ ?_ ?_
    · rw [upd_ne pL]; exact hL2
    · rw [upd_ne pD, upd_same]; rfl
    · intro b' o hb e
      rw [upd_ne hb, upd_ne (by intro z; subst z; rw [hD0] at e; cases e), upd_ne (by intro z; subst z; rw [hL] at e; cases e)]
      exact e
    · rintro j σ H' hj ⟨xs, ys, v5, rfl, P1, l1, d1, pm, lx, kp⟩
      have hlen : xs.length + ys.length = ts.length := by rw [← List.length_append]; exact pm.length_eq
      have hy0 : 0 < ((ys.map V.str).length : Int) := by
        rw [List.length_map]
        omega
      refine ⟨_, rfl, .inl ⟨rfl, _, SqL.of d1⟩, _, rfl, .inl ⟨rfl, _, SqL.of l1⟩, _, rfl, _, rfl, L, _, rfl, .inl (SqL.of l1), p, _, rfl, P1, hy0, ?_, fun e a1 b1 c1 ea eb => ?_⟩
      · rw [List.length_map]
        omega
      · rw [List.length_map] at eb
        obtain ⟨n, rfl⟩ : ∃ n : Nat, e = (n : Int) := ⟨e.toNat, by omega⟩
        have hn : n < ys.length := by omega
        have hget : ys[n]? = some ys[n] := List.getElem?_eq_getElem hn
        have l2 : (upd H' p (.lst (penL a1 b1 c1))) L = some (.lst (ys.map V.str)) := by rw [upd_ne pL]; exact l1
        have d2 : (upd H' p (.lst (penL a1 b1 c1))) D = some (.lst (xs.map V.str)) := by rw [upd_ne pD]; exact d1
        refine ⟨L, _, n, n, .str ys[n], rfl, rfl, l2, by omega, by omega, ?_, ?_, D, xs.map V.str, _, rfl, rfl, ?_, ?_, ?_⟩
        · rw [List.length_map]
          exact (ixN_seq (by show ixN ys.length (n : Int) = some n; unfold ixN; rw [if_pos (by omega), if_pos (by omega)]; rfl)).1
        · rw [List.getElem?_map, hget]; rfl
        · rw [upd_ne LD]; exact d2
        · rw [List.length_map]; omega
        · refine ⟨xs ++ [ys[n]], ys.eraseIdx n, _, rfl, ?_, ?_, ?_, pop_perm pm hget, ?_, ?_⟩
          · exact ((PnAt.set a1 b1 c1).other pL).other pD
          · rw [upd_ne LD.symm, upd_same, map_erase]
          · rw [upd_same, List.map_append]; rfl
          · rw [List.length_append, lx]; rfl
          · intro b' o hb e
            have hb1 := kp b' o hb e
            rw [upd_ne (by intro z; subst z; rw [hD0] at e; cases e), upd_ne (by intro z; subst z; rw [hL] at e; cases e), upd_ne hb]
            exact hb1
    · rintro σ H' ⟨xs, ys, v5, rfl, P1, l1, d1, pm, lx, kp⟩
      refine ⟨_, rfl, ?_⟩
      exact k H' D xs ys P1 kp hD0 d1 pm (by omega) (by omega)
/-- some things, as they stand behind the top -/
structure SomeF (K : PySem.W.Frag) (mg : Str → Option Value) (fS : Addr) (fdS : FuncData) : Prop where
  F : Fun K "_law_some" "_law_some" s_law_some fS fdS
  mg : mg "_law_some" = some (.ref fS)
  b : Binds K fdS ["_law_pen_here", "_law_things", "_law_most"] []
end
end K09
set_option maxRecDepth 100000
set_option maxHeartbeats 4000000
namespace K09
open PySem L2
section
variable {P : Program} {w : World} {K : PySem.W.Frag} {mg : Str → Option Value} {base : Heap}
/-- the loop over the names, and what is told -/
theorem names_loop (hrg : mg "range" = none) {fT : Addr} {fdT : FuncData} (DK : DrawF K mg fT fdT)
    {f : Addr} {cdv : Value} {A : Around} {outer : List Env} {s : Shared} {H : Hp} {E : XK} (hr : Room 1 (A.deeper (PyProof.Rows.envOfC "_law_names" (defScope s_law_names) s.heap.objs.size f cdv))) :
    ∃ t, PSs (cxOf CX0 P w K mg base ["_law_pen_here", "_law_many", "_law_letters", "_law_head", "_law_start", "_law_step", "_law_most", "_law_found", "_law_k", "_law_tail", "_law_own"] "_law_names" (defScope s_law_names) f cdv A outer s H E).nox
        ((defBody s_law_names).drop 6) t ∧
      ∀ (W : Ends) (H6 : Hp) (p D : Addr) (n : Nat) (hd : Str) (st sp mo : Int) (v8 v9 v10 : Option V), PnAt H6 p → H6 D = some (.lst []) → D ≠ p → n ≤ 52 → Low hd → hd.length ≤ 2 → 0 ≤ st → st < 26 → sp ∈ ([1, 3, 5, 7, 9, 11, 15, 17] : List Int) →
        0 ≤ mo → mo < 4 - (if decide ((26 : Int) < n) = true then 1 else 0) →
        (∀ (H' : Hp) (xs : List Str), PnAt H' p → (∀ b o, b ≠ p → b ≠ D → H6 b = some o → H' b = some o) → H' D = some (.lst (xs.map V.str)) → xs.length = n → xs.Nodup → (∀ x ∈ xs, nameB x = true) → W.rt (.ref D) H') →
        t W [some (.ref p), some (.int n), some (.str letters), some (.str hd), some (.int st), some (.int sp), some (.int mo), some (.ref D), v8, v9, v10] H6 := by
  have GT : FnOk P w K mg base CX0 1 fT fdT ["_law_pen_here", "_law_many"] spDraw := DK.ok
  have nd := sc_law_names.nd
  have big : 100000 < sizeLine := by decide
  refine ⟨_, pss_cons (ps_for PassesOwn.never rfl (pi_range1 (by rfl) hrg (pa_cons (pv 1) pa_nil)) (pg_name (i := 8) nd rfl (Or.inl rfl))
    (pss_cons (ps_set (i := 9) nd rfl (Or.inl rfl) (pe_bm PySem.F.plainAttrs_str PySem.F.slot_str_join PySem.F.type_str_join mt_join pe_str (pa_cons (pe_comp (N := ["_law_j", "_law_letters", "_law_pen_here"]) (σ0 := fun σ => [none, some 2, some 0].map fun j => j.bind fun j => (σ[j]?).join) rfl
            (CompOk.caught (by rfl) (by decide +kernel) rfl (by decide +kernel) (by intro y hy; simp only [List.mem_cons, List.not_mem_nil, or_false] at hy; rcases hy with rfl | rfl <;> rfl)
              (by intro y hy e; simp only [List.mem_cons, List.not_mem_nil, or_false] at hy; rcases hy with rfl | rfl | rfl | rfl | rfl <;> first | exact ⟨_, rfl⟩ | cases e))
            (fun σ _ => Carry.of [none, some 2, some 0] rfl (by
              intro i j x h1 h2
              match i, h1, h2 with
              | 0, _, h2 => cases h2
              | 1, h1, h2 => cases h1; cases h2; exact ⟨rfl, .inl rfl, .inl rfl⟩
              | 2, h1, h2 => cases h1; cases h2; exact ⟨rfl, .inl rfl, .inl rfl⟩
              | n + 3, h1, _ => cases h1)) (pi_range1 rfl hrg (pa_cons (pe_call GT hr (by rfl) DK.mg DK.F.kp DK.b .nil pass0 (pa_cons (pv 0) (pa_cons (pe_op op_add (pv 6) pe_int) pa_nil))) pa_nil))
            (fun s2 H C fp => ⟨pg_name (i := 0) (show (["_law_j", "_law_letters", "_law_pen_here"] : List Str).Nodup by decide +kernel) rfl (Or.inl rfl), pts_nil,
              pe_ix ix_str (pv 1) (pe_call GT hr (by rfl) DK.mg DK.F.kp DK.b .nil pass0 (pa_cons (pv 2) (pa_cons pe_int pa_nil))) (fun _ _ => rfl)⟩)) pa_nil)))
    (pss_cons (ps_set (i := 10) nd rfl (Or.inl rfl) (pe_ix ix_str (pv 2) (pe_op op_mod (pe_op op_add (pv 4) (pe_op op_mul (pv 5) (pv 8))) pe_int) (fun _ _ => rfl)))
    (pss_cons (ps_if (pt_cmpR op_gt (pv 1) pe_int (nomark _))
    (pss_one (ps_set (i := 10) nd rfl (Or.inl rfl) (pe_op op_add_str (pv 10) (pe_ix ix_str pe_str (pe_op op_fdiv (pv 8) pe_int) (fun _ _ => rfl)))))
    pss_nil)
    (pss_one (ps_expr (pe_bm PySem.F.plainAttrs_list PySem.F.slot_list_append PySem.F.type_list_append mt_append (pv 7) (pa_cons (pe_op op_add_str (pe_op op_add_str (pv 3) (pv 10)) (pv 9)) pa_nil))))))))
    (pss_one (ps_ret (pv 7))), ?_⟩
  intro W H6 p D n hd st sp mo v8 v9 v10 hP hD nD hn lh lh2 s0 s1 hsp m0 m1 k
  have spb : 0 ≤ sp ∧ sp ≤ 17 := by
    simp only [List.mem_cons, List.not_mem_nil, or_false] at hsp
    rcases hsp with rfl | rfl | rfl | rfl | rfl | rfl | rfl | rfl <;> omega
  refine ⟨_, rfl, n, rfl, by omega, by omega, ?_⟩
  refine for_range (n := n) (lo := 0) (fun j σ H' => ∃ (xs : List Str) (v8 v9 v10 : Option V), σ = [some (.ref p), some (.int n), some (.str letters), some (.str hd), some (.int st), some (.int sp), some (.int mo), some (.ref D), v8, v9, v10] ∧ PnAt H' p ∧ (∀ b o, b ≠ p → b ≠ D → H6 b = some o → H' b = some o) ∧ H' D = some (.lst (xs.map V.str)) ∧ xs.length = j ∧ (∀ x ∈ xs, nameB x = true) ∧ ∀ (i : Nat) x, xs[i]? = some x → ∃ tl, x.cps.toList = hd.cps.toList ++ (ownL n st sp i ++ tl))
    ⟨[], _, _, _, rfl, hP, fun _ _ _ _ e => e, hD, rfl, (fun x hx => nomatch hx), (fun i x e => by simp at e)⟩ ?_ ?_
  · rintro j σ H' hj ⟨xs, v8, v9, v10, rfl, P1, k1, d1, l1, nm, sh⟩
    refine ⟨rfl, _, rfl, _, rfl, _, _, rfl, rfl, p, mo + 1, rfl, P1, by omega, by omega, fun d a b c da db => ⟨_, rfl, by omega, by omega, ?_⟩⟩
    show ∀ D, (upd H' p (.lst (penL a b c))) D = none → _
    have dm : d ≤ mo := by omega
    refine read_draws (g := gName 0) (H := upd H' p (.lst (penL a b c))) (p := p) d.toNat ?_ ?_ (by split at m1 <;> omega) (PnAt.set a b c) (fun H1 D1 ss P2 k2 d2 l2 o2 => ?_)
    · exact fun _ _ _ _ _ _ h => h
    · intro v H' P' Q' h
      refine ⟨_, rfl, _, rfl, p, 26, rfl, P', by decide, by decide, fun e a1 b1 c1 ea eb => ?_⟩
      exact ⟨_, _, _, rfl, rfl, by decide, letter_atI ea eb, h _ _ _ _ (letters_low _ (at_mem (letter_atI ea eb)))⟩
    obtain ⟨j1, j2, j3⟩ := join_low o2
    refine ⟨_, D1, ss, rfl, rfl, d2, by decide, by split at m1 <;> omega, ?_⟩
    generalize htl : Txt.join (Str.ofString "") ss = tl at j1 j2
    have dD : H1 D = some (.lst (xs.map V.str)) := k2 D _ nD (by rw [upd_ne nD]; exact d1)
    have kp : ∀ b o, b ≠ p → b ≠ D → H6 b = some o → H1 b = some o := fun b o hb hb' e => k2 b o hb (by rw [upd_ne hb]; exact k1 b o hb hb' e)
    have spj : 0 ≤ sp * j := Int.mul_nonneg spb.1 (by omega)
    have r0 : 0 ≤ (st + sp * (0 + (j : Int))) % 26 := Int.emod_nonneg _ (by decide)
    have r1 : (st + sp * (0 + (j : Int))) % 26 < 26 := Int.emod_lt_of_pos _ (by decide)
    refine ⟨_, rfl, _, rfl, _, rfl, _, rfl, _, _, rfl, rfl, .inl ⟨by omega, by omega⟩, _, _, rfl, rfl, _, _, rfl, rfl, (by show (0 : Int) < 26; decide), _, _, _, rfl, rfl, by decide, letter_atI r0 r1, ?_⟩
    have lc := letters_low _ (at_mem (letter_atI r0 r1))
    rw [Int.zero_add] at lc
    rw [Int.zero_add]
    refine ⟨_, rfl, _, _, rfl, rfl, _, rfl, ?_⟩
    have inv : ∀ (own : Str) (v10 : Option V), own.cps.toList = ownL n st sp j → Low own → 1 ≤ own.length → hd.length + own.length + tl.length ≤ 6 → ∃ (xs' : List Str) (v8 v9 v10' : Option V), [some (.ref p), some (.int n), some (.str letters), some (.str hd), some (.int st), some (.int sp), some (.int mo), some (.ref D), some (.int (j : Int)), some (.str tl), v10] = [some (.ref p), some (.int n), some (.str letters), some (.str hd), some (.int st), some (.int sp), some (.int mo), some (.ref D), v8, v9, v10'] ∧ PnAt (upd H1 D (.lst (xs.map V.str ++ [.str (hd ++ own ++ tl)]))) p ∧ (∀ b o, b ≠ p → b ≠ D → H6 b = some o → (upd H1 D (.lst (xs.map V.str ++ [.str (hd ++ own ++ tl)]))) b = some o) ∧ (upd H1 D (.lst (xs.map V.str ++ [.str (hd ++ own ++ tl)]))) D = some (.lst (xs'.map V.str)) ∧ xs'.length = j + 1 ∧ (∀ x ∈ xs', nameB x = true) ∧ ∀ (i : Nat) x, xs'[i]? = some x → ∃ tl, x.cps.toList = hd.cps.toList ++ (ownL n st sp i ++ tl) := by
      intro own v10 e1 lo l3 l6
      have ec : (hd ++ own ++ tl).cps.toList = hd.cps.toList ++ (own.cps.toList ++ tl.cps.toList) := by
        rw [Str.cps_append, Str.cps_append, Array.toList_append, Array.toList_append, List.append_assoc]
      have el : (hd ++ own ++ tl).length = hd.length + own.length + tl.length := by
        show (hd ++ own ++ tl).cps.size = _
        rw [Str.cps_append, Str.cps_append, Array.size_append, Array.size_append]
        rfl
      refine ⟨xs ++ [hd ++ own ++ tl], _, _, _, rfl, P2.other nD, fun b o hb hb' e => by rw [upd_ne hb']; exact kp b o hb hb' e, by rw [upd_same, List.map_append]; rfl, by rw [List.length_append, l1]; rfl, fun x hx => ?_, fun i x e => ?_⟩
      · rcases List.mem_append.mp hx with hx | hx
        · exact nm x hx
        · rw [List.mem_singleton] at hx
          subst hx
          refine nameB_of (by omega) (by omega) fun c hc => ?_
          rw [ec, List.mem_append, List.mem_append] at hc
          rcases hc with hc | hc | hc
          · exact lh c hc
          · exact lo c hc
          · exact j1 c hc
      · by_cases hi : i < xs.length
        · rw [List.getElem?_append_left hi] at e
          exact sh i x e
        · have hi2 : i = j := by
            have := (List.getElem?_eq_some_iff.mp e).1
            rw [List.length_append, List.length_singleton] at this
            omega
          subst hi2
          rw [List.getElem?_append_right (by omega), l1, Nat.sub_self, List.getElem?_cons_zero] at e
          rw [← Option.some.inj e, ec, e1]
          exact ⟨_, rfl⟩
    refine ite2 (fun h26 => ?_) (fun h26 => ?_)
    · have n26 : (26 : Int) < n := by simpa using h26
      have q0 : 0 ≤ ((j : Int)) / 26 := Int.ediv_nonneg (by omega) (by decide)
      have q1 : ((j : Int)) / 26 < 2 := by omega
      have ab : ∀ m : Fin 2, atI (Str.ofString "ab").cps.toList (m.val : Int) = some (97 + m.val) := by decide +kernel
      have ab2 : atI (Str.ofString "ab").cps.toList ((j : Int) / 26) = some (97 + j / 26) := by
        have := ab ⟨j / 26, by omega⟩
        rw [show ((j : Int) / 26) = ((j / 26 : Nat) : Int) by omega]
        exact this
      rw [if_pos h26] at m1
      refine ⟨_, rfl, _, rfl, _, _, rfl, rfl, ⟨by decide, by decide⟩, _, _, _, rfl, rfl, by decide, ab2, _, _, rfl, rfl, (by show 1 + 1 ≤ sizeLine; omega), ?_⟩
      have iv := inv ((⟨#[97 + ((st + sp * (j : Int)) % 26).toNat]⟩ : Str) ++ ⟨#[97 + j / 26]⟩) (some (.str ((⟨#[97 + ((st + sp * (j : Int)) % 26).toNat]⟩ : Str) ++ ⟨#[97 + j / 26]⟩))) (by unfold ownL; rw [if_pos (by omega)]; rfl) (low_app (fun c hc => by
          have : c = 97 + ((st + sp * (j : Int)) % 26).toNat := by simpa using hc
          subst this
          exact lc) (by unfold lowc; simp; omega)) (by show 1 ≤ 2; decide) (by show hd.length + 2 + tl.length ≤ 6; omega)
      refine ⟨_, rfl, .inl ⟨rfl, _, SqL.of dD⟩, _, rfl, _, rfl, _, _, rfl, rfl, (by show hd.length + 2 ≤ sizeLine; omega), _, rfl, _, _, rfl, rfl, ?_, D, _, _, rfl, rfl, dD, (by rw [List.length_map]; omega), iv⟩
      show (hd.cps ++ _).size + tl.length ≤ sizeLine
      rw [Array.size_append]
      show hd.length + 2 + tl.length ≤ sizeLine
      omega
    · have n26 : ¬ (26 : Int) < n := by simpa using h26
      rw [if_neg h26] at m1
      have iv := inv ((⟨#[97 + ((st + sp * (j : Int)) % 26).toNat]⟩ : Str)) (some (.str ((⟨#[97 + ((st + sp * (j : Int)) % 26).toNat]⟩ : Str)))) (by unfold ownL; rw [if_neg (by omega)]) (fun c hc => by
          have : c = 97 + ((st + sp * (j : Int)) % 26).toNat := by simpa using hc
          subst this
          exact lc) (by show 1 ≤ 1; decide) (by show hd.length + 1 + tl.length ≤ 6; omega)
      refine ⟨_, rfl, .inl ⟨rfl, _, SqL.of dD⟩, _, rfl, _, rfl, _, _, rfl, rfl, (by show hd.length + 1 ≤ sizeLine; omega), _, rfl, _, _, rfl, rfl, ?_, D, _, _, rfl, rfl, dD, (by rw [List.length_map]; omega), iv⟩
      show (hd.cps ++ _).size + tl.length ≤ sizeLine
      rw [Array.size_append]
      show hd.length + 1 + tl.length ≤ sizeLine
      omega
  · rintro σ H' ⟨xs, v8, v9, v10, rfl, P1, k1, d1, l1, nm, sh⟩
    exact ⟨_, rfl, k H' xs P1 k1 d1 l1 (names_nodup sh fun i j hij hj tl tl' => own_ne hn hsp hij (by omega) tl tl') nm⟩
end
end K09
set_option maxRecDepth 100000
set_option maxHeartbeats 4000000
namespace K09
open PySem L2
section
variable {P : Program} {w : World} {K : PySem.W.Frag} {mg : Str → Option Value} {base : Heap}
theorem ok_namesL {f fT : Addr} {fd fdT : FuncData} (T : TxtS K mg) (hin : mg "int" = none) (DK : DrawF K mg fT fdT) (F : Fun K "_law_names" "_law_names" s_law_names f fd) : FnOk P w K mg base CX0 2 f fd ["_law_pen_here", "_law_many"] spNamesL := by
  have GT : FnOk P w K mg base CX0 1 fT fdT ["_law_pen_here", "_law_many"] spDraw := DK.ok
  refine F.ok sc_law_names (fun vs H Q E h => ?_) (fun cdv A outer s H vs Q E hr h => ?_)
  · obtain ⟨p, n, rfl, _⟩ := h
    rfl
  · obtain ⟨p, n, rfl, hP, hn, k⟩ := h
    have nd := sc_law_names.nd
    have big : 100000 < sizeLine := by decide
    obtain ⟨t7, T7, r7⟩ := names_loop T.range DK (outer := outer) (H := H) (E := E) hr
    refine ⟨_, pss_cons (ps_set (i := 2) nd rfl (Or.inr rfl) pe_str)
      (pss_cons (ps_set (i := 3) nd rfl (Or.inl rfl) (pe_bm PySem.F.plainAttrs_str PySem.F.slot_str_join PySem.F.type_str_join mt_join pe_str (pa_cons
          (pe_comp (N := ["_law_k", "_law_letters", "_law_pen_here"]) (σ0 := fun σ => [none, some 2, some 0].map fun j => j.bind fun j => (σ[j]?).join) rfl
            (CompOk.caught (by rfl) (by decide +kernel) rfl (by decide +kernel) (by intro y hy; simp only [List.mem_cons, List.not_mem_nil, or_false] at hy; rcases hy with rfl | rfl <;> rfl)
              (by intro y hy e; simp only [List.mem_cons, List.not_mem_nil, or_false] at hy; rcases hy with rfl | rfl | rfl | rfl | rfl <;> first | exact ⟨_, rfl⟩ | cases e))
            (fun σ _ => Carry.of [none, some 2, some 0] rfl (by
              intro i j x h1 h2
              match i, h1, h2 with
              | 0, _, h2 => cases h2
              | 1, h1, h2 => cases h1; cases h2; exact ⟨rfl, .inl rfl, .inl rfl⟩
              | 2, h1, h2 => cases h1; cases h2; exact ⟨rfl, .inl rfl, .inl rfl⟩
              | n + 3, h1, _ => cases h1)) (pi_range1 rfl T.range (pa_cons (pe_call GT hr (by rfl) DK.mg DK.F.kp DK.b .nil pass0 (pa_cons (pv 0) (pa_cons pe_int pa_nil))) pa_nil))
            (fun s2 H C fp => ⟨pg_name (i := 0) (show (["_law_k", "_law_letters", "_law_pen_here"] : List Str).Nodup by decide +kernel) rfl (Or.inl rfl), pts_nil,
              pe_ix ix_str (pv 1) (pe_call GT hr (by rfl) DK.mg DK.F.kp DK.b .nil pass0 (pa_cons (pv 2) (pa_cons pe_int pa_nil))) (fun _ _ => rfl)⟩)) pa_nil)))
      (pss_cons (ps_set (i := 4) nd rfl (Or.inl rfl) (pe_call GT hr (by rfl) DK.mg DK.F.kp DK.b .nil pass0 (pa_cons (pv 0) (pa_cons pe_int pa_nil))))
      (pss_cons (ps_set (i := 5) nd rfl (Or.inl rfl) (pe_ix ix_list (pe_lst (pa_cons pe_int (pa_cons pe_int (pa_cons pe_int (pa_cons pe_int (pa_cons pe_int (pa_cons pe_int (pa_cons pe_int (pa_cons pe_int pa_nil)))))))))
          (pe_call GT hr (by rfl) DK.mg DK.F.kp DK.b .nil pass0 (pa_cons (pv 0) (pa_cons pe_int pa_nil))) (fun _ _ => rfl)))
      (pss_cons (ps_set (i := 6) nd rfl (Or.inl rfl) (pe_call GT hr (by rfl) DK.mg DK.F.kp DK.b .nil pass0 (pa_cons (pv 0) (pa_cons (pe_op op_sub pe_int (pe_callTy call_int1 (by rfl) hin PyProof.Rows.boot_int (pa_cons (pe_cmpR op_gt (pv 1) pe_int (nomark _)) pa_nil))) pa_nil))))
      (pss_cons (ps_set (i := 7) nd rfl (Or.inl rfl) (pe_lst pa_nil)) T7))))), ?_⟩
    refine ⟨rfl, _, rfl, p, 3, rfl, hP, by decide, by decide, fun d a b c da db => ⟨_, rfl, by omega, by omega, ?_⟩⟩
    show ∀ D, (upd H p (.lst (penL a b c))) D = none → _
    refine read_draws (g := gName 0) (H := upd H p (.lst (penL a b c))) (p := p) d.toNat ?_ ?_ (by omega) (PnAt.set a b c) (fun H1 D1 ss P1 k1 d1 l1 o1 => ?_)
    · exact fun _ _ _ _ _ _ h => h
    · intro v H' P' Q' h
      refine ⟨_, rfl, _, rfl, p, 26, rfl, P', by decide, by decide, fun e a1 b1 c1 ea eb => ?_⟩
      exact ⟨_, _, _, rfl, rfl, by decide, letter_atI ea eb, h _ _ _ _ (letters_low _ (at_mem (letter_atI ea eb)))⟩
    obtain ⟨j1, j2, j3⟩ := join_low o1
    refine ⟨_, D1, ss, rfl, rfl, d1, by decide, by omega, ?_⟩
    generalize hhd : Txt.join (Str.ofString "") ss = hd at j1 j2
    refine ⟨_, rfl, p, 26, rfl, P1, by decide, by decide, fun st a2 b2 c2 sa sb => ?_⟩
    refine ⟨(by show 8 ≤ sizeLine; omega), fun T8 hT8 => ?_⟩
    have n8 : T8 ≠ p := (PnAt.set (H := H1) (p := p) a2 b2 c2).ne hT8
    refine ⟨_, rfl, p, 8, rfl, (PnAt.set a2 b2 c2).other n8, by decide, by decide, fun e8 a3 b3 c3 e8a e8b => ?_⟩
    obtain ⟨sp, hsp⟩ := at_ns (ns := [1, 3, 5, 7, 9, 11, 15, 17]) e8a e8b
    refine ⟨T8, _, _, .int sp, rfl, rfl, SqL.of (by rw [upd_ne n8]; exact upd_same), hsp, ?_⟩
    have spm : sp ∈ ([1, 3, 5, 7, 9, 11, 15, 17] : List Int) := by
      have := at_mem hsp
      simpa using this
    have P3 : PnAt (upd (upd (upd H1 p (.lst (penL a2 b2 c2))) T8 (.lst [.int 1, .int 3, .int 5, .int 7, .int 9, .int 11, .int 15, .int 17])) p (.lst (penL a3 b3 c3))) p := PnAt.set a3 b3 c3
    refine ⟨_, rfl, _, rfl, _, _, rfl, rfl, .inr ⟨_, rfl, _, _, rfl, rfl, p, _, rfl, P3, ?_, ?_, fun mo a4 b4 c4 m0 m1 => ?_⟩⟩
    · split <;> omega
    · split <;> omega
    refine ⟨(by show 0 ≤ sizeLine; omega), fun D hD => ?_⟩
    have nD : D ≠ p := (PnAt.set (H := (upd (upd (upd H1 p (.lst (penL a2 b2 c2))) T8 (.lst [.int 1, .int 3, .int 5, .int 7, .int 9, .int 11, .int 15, .int 17])) p (.lst (penL a3 b3 c3)))) (p := p) a4 b4 c4).ne hD
    refine r7 _ _ p D n hd st sp mo _ _ _ ((PnAt.set a4 b4 c4).other nD) upd_same nD hn j1 (by omega) sa sb spm m0 m1 fun H' xs P5 k5 d5 l5 n5 m5 => ?_
    have fr : ∀ b o, b ≠ p → H b = some o → H' b = some o := fun b o hb e => by
      have e1 := k1 b o hb (by rw [upd_ne hb]; exact e)
      have nb8 : b ≠ T8 := by intro z; subst z; rw [upd_ne hb, e1] at hT8; cases hT8
      have e2 : (upd (upd (upd (upd H1 p (.lst (penL a2 b2 c2))) T8 (.lst [.int 1, .int 3, .int 5, .int 7, .int 9, .int 11, .int 15, .int 17])) p (.lst (penL a3 b3 c3))) p (.lst (penL a4 b4 c4))) b = some o := by
        rw [upd_ne hb, upd_ne hb, upd_ne nb8, upd_ne hb]; exact e1
      have nbD : b ≠ D := by intro z; subst z; rw [e2] at hD; cases hD
      exact k5 b o hb nbD (by rw [upd_ne nbD]; exact e2)
    have fD : H D = none := by
      cases z : H D with
      | none => rfl
      | some o =>
        exfalso
        have e1 := k1 D o nD (by rw [upd_ne nD]; exact z)
        have nb8 : D ≠ T8 := by intro y; rw [← y, upd_ne nD, e1] at hT8; cases hT8
        rw [upd_ne nD, upd_ne nD, upd_ne nb8, upd_ne nD, e1] at hD
        cases hD
    exact k H' D xs P5 fr fD d5 l5 n5 m5
/-- the names, as they stand behind the top -/
structure NamesF (K : PySem.W.Frag) (mg : Str → Option Value) (fS : Addr) (fdS : FuncData) : Prop where
  F : Fun K "_law_names" "_law_names" s_law_names fS fdS
  mg : mg "_law_names" = some (.ref fS)
  b : Binds K fdS ["_law_pen_here", "_law_many"] []
end
end K09
set_option maxRecDepth 100000
set_option maxHeartbeats 4000000
namespace K09
open PySem L2
section
variable {P : Program} {w : World} {K : PySem.W.Frag} {mg : Str → Option Value} {base : Heap}
theorem ok_mapL (h_int : mg "int" = none) (h_list : mg "list" = none) (h_range : mg "range" = none) (h_sorted : mg "sorted" = none) (h_tuple : mg "tuple" = none) {fN fT fG : Addr} {fdN fdT fdG : FuncData} (XN : NamesF K mg fN fdN) (GN : FnOk P w K mg base CX0 2 fN fdN ["_law_pen_here", "_law_many"] spNamesL) (DK : DrawF K mg fT fdT) (XG : GreatF K mg fG fdG) (GG : FnOk P w K mg base CX0 2 fG fdG ["_law_pen_here", "_law_least", "_law_size"] spGreat) {f : Addr} {fd : FuncData} (F : Fun K "_law_map" "_law_map" s_law_map f fd) : FnOk P w K mg base CX0 3 f fd ["_law_pen_here", "_law_many"] spMapL := by
  have GT : FnOk P w K mg base CX0 1 fT fdT ["_law_pen_here", "_law_many"] spDraw := DK.ok
  refine F.ok sc_law_map (fun vs H Q E h => ?_) (fun cdv A outer s H vs Q E hr h => ?_)
  · obtain ⟨p, n, rfl, _⟩ := h
    rfl
  · obtain ⟨p, n, rfl, hP, n1, n30, k⟩ := h
    have nd := sc_law_map.nd
    have hu := hu_of hr
    have hu64 := hr.units
    have big : 100000 < sizeLine := by decide
    refine ⟨_, (pss_cons (ps_set (i := 2) nd rfl (Or.inl rfl) (pe_call GN (hr.mono (by decide)) (by rfl) XN.mg XN.F.kp XN.b .nil pass0 (pa_cons (pv 0) (pa_cons (pv 1) pa_nil))))
    (pss_cons (ps_set (i := 3) nd rfl (Or.inl rfl) (pe_call GT (hr.mono (by decide)) (by rfl) DK.mg DK.F.kp DK.b .nil pass0 (pa_cons (pv 0) (pa_cons pe_int pa_nil))))
    (pss_cons (ps_set (i := 4) nd rfl (Or.inl rfl) pe_dnewT)
    (pss_cons (ps_for PassesOwn.never rfl (pi_range2 (by rfl) h_range (pa_cons pe_int (pa_cons (pv 1) pa_nil))) (pg_name (i := 5) nd rfl (Or.inl rfl))
    (pss_one (ps_dput hu (pv 4) (pe_tup (pa_cons (pe_ix ix_list (pe_lst (pa_cons (pe_op op_sub (pv 5) pe_int) (pa_cons (pe_call GT (hr.mono (by decide)) (by rfl) DK.mg DK.F.kp DK.b .nil pass0 (pa_cons (pv 0) (pa_cons (pv 5) pa_nil))) pa_nil))) (pe_callTy call_int1 (by rfl) h_int PyProof.Rows.boot_int (pa_cons (pe_cmpR op_gt (pv 3) pe_int (nomark _)) pa_nil)) (fun _ _ => rfl)) (pa_cons (pv 5) pa_nil))) (pe_call GG (hr.mono (by decide)) (by rfl) XG.mg XG.F.kp XG.b .nil pass0 (pa_cons (pv 0) (pa_cons pe_int (pa_cons pe_int pa_nil)))) rfl)))
    (pss_cons (ps_for PassesOwn.never rfl (pi_range1 (by rfl) h_range (pa_cons (pe_op op_mul pe_int (pe_callTy call_int1 (by rfl) h_int PyProof.Rows.boot_int (pa_cons (pe_cmpR op_eq (pv 3) pe_int (nomark _)) pa_nil))) pa_nil)) (pg_name (i := 5) nd rfl (Or.inl rfl))
    (pss_cons (ps_set (i := 6) nd rfl (Or.inl rfl) (pe_callB call_sorted_ints (by rfl) h_sorted PyProof.Rows.boot_sorted (pa_cons (pe_lst (pa_cons (pe_call GT (hr.mono (by decide)) (by rfl) DK.mg DK.F.kp DK.b .nil pass0 (pa_cons (pv 0) (pa_cons (pv 1) pa_nil))) (pa_cons (pe_call GT (hr.mono (by decide)) (by rfl) DK.mg DK.F.kp DK.b .nil pass0 (pa_cons (pv 0) (pa_cons (pv 1) pa_nil))) pa_nil))) pa_nil)))
    (pss_one (ps_if (pt_cmpR op_lt (pe_ix ix_list (pv 6) pe_int (fun _ _ => rfl)) (pe_ix ix_list (pv 6) pe_int (fun _ _ => rfl)) (nomark _))
    (pss_one (ps_dput hu (pv 4) (pe_tup (pa_cons (pe_ix ix_list (pv 6) pe_int (fun _ _ => rfl)) (pa_cons (pe_ix ix_list (pv 6) pe_int (fun _ _ => rfl)) pa_nil))) (pe_call GG (hr.mono (by decide)) (by rfl) XG.mg XG.F.kp XG.b .nil pass0 (pa_cons (pv 0) (pa_cons pe_int (pa_cons pe_int pa_nil)))) rfl))
    pss_nil))))
    (pss_cons (ps_set (i := 7) nd rfl (Or.inl rfl) (pe_lst pa_nil))
    (pss_cons (ps_for PassesOwn.never rfl (pi_list (pe_callTy (call_list_dT rfl) (by rfl) h_list PyProof.Rows.boot_list (pa_cons (pv 4) pa_nil))) (pg_tup rfl (pgs_cons (pg_name (i := 8) nd rfl (Or.inl rfl)) (pgs_cons (pg_name (i := 9) nd rfl (Or.inl rfl)) pgs_nil)))
    (pss_one (ps_expr (pe_bm PySem.F.plainAttrs_list PySem.F.slot_list_append PySem.F.type_list_append mt_append (pv 7) (pa_cons (pe_op op_catT (pe_callTy call_tuple_of (by rfl) h_tuple PyProof.Rows.boot_tuple (pa_cons (pe_callB call_sorted_strs (by rfl) h_sorted PyProof.Rows.boot_sorted (pa_cons (pe_lst (pa_cons (pe_ix ix_list (pv 2) (pv 8) (fun _ _ => rfl)) (pa_cons (pe_ix ix_list (pv 2) (pv 9) (fun _ _ => rfl)) pa_nil))) pa_nil)) pa_nil)) (pe_tup (pa_cons (pe_dget hu (pv 4) (pe_tup (pa_cons (pv 8) (pa_cons (pv 9) pa_nil))) (fun _ _ => rfl)) pa_nil))) pa_nil)))))
    (pss_one (ps_ret (pe_tup (pa_cons (pe_callTy call_tuple_of (by rfl) h_tuple PyProof.Rows.boot_tuple (pa_cons (pe_callB call_sorted_strs (by rfl) h_sorted PyProof.Rows.boot_sorted (pa_cons (pv 2) pa_nil)) pa_nil)) (pa_cons (pe_callTy call_tuple_of (by rfl) h_tuple PyProof.Rows.boot_tuple (pa_cons (pe_callB call_sorted_waysG (by rfl) h_sorted PyProof.Rows.boot_sorted (pa_cons (pv 7) pa_nil)) pa_nil)) pa_nil)))))))))))), ?_⟩
    refine ⟨_, rfl, _, rfl, p, n, rfl, hP, by omega, fun H1 N xs P1 k1 fN hN xl xnd xnm => ?_⟩
    refine ⟨_, rfl, p, 3, rfl, P1, by decide, by decide, fun so a1 b1 c1 so0 so1 => ?_⟩
    have nN : N ≠ p := hP.ne fN
    have hN2 : (upd H1 p (.lst (penL a1 b1 c1))) N = some (.lst (xs.map V.str)) := by rw [upd_ne nN]; exact hN
    intro W0 hW0
    have nW : W0 ≠ p := (PnAt.set (H := H1) (p := p) a1 b1 c1).ne hW0
    have wN : W0 ≠ N := by intro z; subst z; rw [hN2] at hW0; cases hW0
    have fr0 : ∀ b o, b ≠ p → H b = some o → (upd (upd H1 p (.lst (penL a1 b1 c1))) W0 (.dT [])) b = some o := fun b o hb e => by
      have e1 := k1 b o hb e
      rw [upd_ne (by intro z; subst z; rw [upd_ne hb, e1] at hW0; cases hW0), upd_ne hb]
      exact e1
    have fW : H W0 = none := by
      cases z : H W0 with
      | none => rfl
      | some o => have := k1 W0 o nW z; rw [upd_ne nW, this] at hW0; cases hW0
    have mi0 : MI H (upd (upd H1 p (.lst (penL a1 b1 c1))) W0 (.dT [])) p N W0 xs [] := ⟨(PnAt.set a1 b1 c1).other nW, by rw [upd_ne wN.symm]; exact hN2, upd_same, fr0, nN, nW, wN, fW⟩
    clear fr0 hN2 hW0 hN P1
    generalize upd (upd H1 p (.lst (penL a1 b1 c1))) W0 (.dT []) = H2 at mi0
    refine ⟨_, rfl, 1, n, rfl, ⟨by omega, by omega, by omega, by omega⟩, ?_⟩
    refine for_range (lo := 1) (fun j σ H' => ∃ (kvs : List (List Key × V)) (v5 : Option V), σ = [some (.ref p), some (.int n), some (.ref N), some (.int so), some (.ref W0), v5, none, none, none, none] ∧ MI H H' p N W0 xs kvs ∧ WaysN n kvs ∧ kvs.length ≤ j)
      ⟨[], _, rfl, mi0, fun q hq => (nomatch hq), Nat.zero_le _⟩ ?_ ?_
    · rintro j σ H' hj ⟨kvs, v5, rfl, mi, wn, wl⟩
      have hjn : (1 : Int) + j < n := by omega
      refine ⟨_, rfl, p, 1, 3, rfl, mi.pn, by decide, by decide, by decide, by decide, fun l a b c l1 l2 => ?_⟩
      have m1 := mi.pen a b c
      refine ⟨_, rfl, _, rfl, _, _, rfl, rfl, _, rfl, _, rfl, p, 1 + (j : Int), rfl, m1.pn, by omega, by omega, fun d a2 b2 c2 d0 d1 => ?_⟩
      have m2 := m1.pen a2 b2 c2
      refine ⟨(by show 2 ≤ sizeLine; omega), fun L hL => ?_⟩
      have m3 := m2.add hL (.lst [.int (1 + (j : Int) - 1), .int d])
      refine ⟨_, rfl, _, _, rfl, rfl, .inr ⟨_, rfl, ?_⟩⟩
      obtain ⟨i, hi, i0, i1⟩ : ∃ i : Int, atI [V.int (1 + (j : Int) - 1), V.int d] (if decide ((0 : Int) < so) = true then 1 else 0) = some (.int i) ∧ 0 ≤ i ∧ i < 1 + (j : Int) := by
        by_cases z : (0 : Int) < so
        · rw [decide_eq_true z, if_pos rfl]
          exact ⟨d, rfl, d0, d1⟩
        · rw [decide_eq_false z, if_neg (by decide)]
          exact ⟨1 + (j : Int) - 1, rfl, by omega, by omega⟩
      refine ⟨L, _, _, _, rfl, rfl, SqL.of upd_same, hi, _, rfl, (by show 2 ≤ sizeLine; omega), fun t ht => ?_⟩
      have m4 := m3.add ht (.tup [.int i, .int (1 + (j : Int))])
      refine ⟨W0, _, rfl, DPut.t (k := [Sum.inl i, Sum.inl (1 + (j : Int))]) m4.hw upd_same (by omega), ?_⟩
      refine ⟨_, _, rfl, m4.put _, wn.put i0 i1 hjn l1 l2, ?_⟩
      have := putK_len kvs [Sum.inl i, Sum.inl (1 + (j : Int))] (.int l)
      omega
    · rintro σ H3 ⟨kvs3, v5, rfl, mi3, wn3, wl3⟩
      refine ⟨_, rfl, rfl, .inr ⟨_, rfl, _, _, rfl, rfl, .inl ⟨by decide, by decide⟩, _, rfl, ?_, ?_, ?_⟩⟩
      · split <;> decide
      · split <;> decide
      have t5 : ((5 : Int) * (if decide (V.int so = V.int 2) = true then 1 else 0)).toNat ≤ 5 := by split <;> decide
      generalize ((5 : Int) * (if decide (V.int so = V.int 2) = true then 1 else 0)).toNat = m5 at t5
      refine for_range (lo := 0) (fun j σ H' => ∃ (kvs : List (List Key × V)) (v5 v6 : Option V), σ = [some (.ref p), some (.int n), some (.ref N), some (.int so), some (.ref W0), v5, v6, none, none, none] ∧ MI H H' p N W0 xs kvs ∧ WaysN n kvs ∧ kvs.length ≤ 30 + j)
        ⟨kvs3, _, _, rfl, mi3, wn3, by omega⟩ ?_ ?_
      · rintro j σ H' hj ⟨kvs, v5, v6, rfl, mi, wn, wl⟩
        refine ⟨_, rfl, _, rfl, p, n, rfl, mi.pn, by omega, by omega, fun d1 a b c d10 d11 => ?_⟩
        have m1 := mi.pen a b c
        refine ⟨_, rfl, _, rfl, p, n, rfl, m1.pn, by omega, by omega, fun d2 a2 b2 c2 d20 d21 => ?_⟩
        have m2 := m1.pen a2 b2 c2
        refine ⟨(by show 2 ≤ sizeLine; omega), fun L hL => ?_⟩
        have m3 := m2.add hL (.lst [.int d1, .int d2])
        refine ⟨L, [d1, d2], rfl, SqL.of upd_same, (by show 2 < 64; decide), fun e ns' he pm _ => ?_⟩
        have m4 := m3.add he (.lst (ns'.map V.int))
        obtain ⟨x, y, rfl⟩ : ∃ x y, ns' = [x, y] := by
          have := pm.length_eq
          match ns', this with
          | [x, y], _ => exact ⟨x, y, rfl⟩
        have hx : x = d1 ∨ x = d2 := by simpa using pm.mem_iff.mp (show x ∈ [x, y] by simp)
        have hy : y = d1 ∨ y = d2 := by simpa using pm.mem_iff.mp (show y ∈ [x, y] by simp)
        have x0 : 0 ≤ x ∧ x < n := by rcases hx with rfl | rfl <;> omega
        have y0 : 0 ≤ y ∧ y < n := by rcases hy with rfl | rfl <;> omega
        refine ⟨_, rfl, e, _, _, _, rfl, rfl, SqL.of upd_same, rfl, _, rfl, e, _, _, _, rfl, rfl, SqL.of upd_same, rfl, _, _, rfl, rfl, _, rfl, ?_⟩
        refine ite2 (fun lt => ?_) (fun _ => ⟨kvs, _, _, rfl, m4, wn, by omega⟩)
        have lt' : x < y := by simpa using lt
        refine ⟨_, rfl, p, 1, 3, rfl, m4.pn, by decide, by decide, by decide, by decide, fun l a b c l1 l2 => ?_⟩
        have m5 := m4.pen a b c
        have ne : e ≠ p := m3.pn.ne he
        have hE : SqL K (upd (upd (upd (upd (upd H' p (.lst (penL a b c))) p (.lst (penL a2 b2 c2))) L (.lst [.int d1, .int d2])) e (.lst ([x, y].map V.int))) p (.lst (penL a b c))) e ([x, y].map V.int) := SqL.of (by rw [upd_ne ne]; exact upd_same)
        refine ⟨_, rfl, _, rfl, e, _, _, _, rfl, rfl, SqL.of (by rw [upd_ne ne]; exact upd_same), rfl, _, rfl, e, _, _, _, rfl, rfl, SqL.of (by rw [upd_ne ne]; exact upd_same), rfl, (by show 2 ≤ sizeLine; omega), fun t ht => ?_⟩
        have m6 := m5.add ht (.tup [.int x, .int y])
        refine ⟨W0, _, rfl, DPut.t (k := [Sum.inl x, Sum.inl y]) m6.hw upd_same (by omega), ?_⟩
        refine ⟨_, _, _, rfl, m6.put _, wn.put x0.1 lt' y0.2 l1 l2, ?_⟩
        have := putK_len kvs [Sum.inl x, Sum.inl y] (.int l)
        omega
      · rintro σ H4 ⟨kvs, v5, v6, rfl, mi, wn, wl⟩
        refine ⟨(by show 0 ≤ sizeLine; omega), fun R hR => ?_⟩
        have m1 := mi.add hR (.lst [])
        refine ⟨_, rfl, W0, kvs, rfl, m1.hw, fun l ts hl tl tt => ?_⟩
        have m2 := m1.add hl (.lst (ts.map V.ref))
        have nRl : l ≠ R := by intro z; subst z; rw [upd_same] at hl; cases hl
        have nRW : R ≠ W0 := by intro z; subst z; rw [mi.hw] at hR; cases hR
        have nRN : R ≠ N := by intro z; subst z; rw [mi.hn] at hR; cases hR
        have nRp : R ≠ p := mi.pn.ne hR
        have fR : H R = none := by
          cases z : H R with
          | none => rfl
          | some o => have := mi.kp R o nRp z; rw [hR] at this; cases this
        refine ⟨l, rfl, ⟨_, SqL.of upd_same⟩, ?_⟩
        refine for_list (xs := ts.map V.ref) (fun i σ H' => ∃ (vs : List V) (ws : List Way) (v8 v9 : Option V), σ = [some (.ref p), some (.int n), some (.ref N), some (.int so), some (.ref W0), v5, v6, some (.ref R), v8, v9] ∧ MI H H' p N W0 xs kvs ∧ H' l = some (.lst (ts.map V.ref)) ∧ H' R = some (.lst vs) ∧ Dats H' vs (ws.map wayD) ∧ ws.length = i ∧ vs.length = i ∧ (∀ u ∈ ws, nameB u.1 = true ∧ nameB u.2.1 = true ∧ 1 ≤ u.2.2 ∧ u.2.2 < 10 ^ 30) ∧ ∀ (i : Nat) t q, ts[i]? = some t → kvs[i]? = some q → H' t = some (.tup (q.1.map kV)))
          ⟨[], [], _, _, rfl, m2, upd_same, by rw [upd_ne nRl.symm, upd_same], .nil, rfl, rfl, fun u hu => (nomatch hu), fun i t q e1 e2 => by
            have z := tt i t q e1 e2
            rw [upd_ne (ne_of_none z hl)]; exact z⟩ (fun i σ H' _ ⟨_, _, _, _, _, _, h, _⟩ => SqL.of h) ?_ ?_
        · rintro i v σ H' hv ⟨vs, ws, v8, v9, rfl, mi, hl', hR', hd, wsl, vsl, good, tt'⟩
          obtain ⟨t, et, rfl⟩ : ∃ t, ts[i]? = some t ∧ v = .ref t := by
            rw [List.getElem?_map] at hv
            cases ex : ts[i]? with
            | none => rw [ex] at hv; cases hv
            | some x => rw [ex] at hv; exact ⟨x, rfl, (Option.some.inj hv).symm⟩
          have hi : i < ts.length := (List.getElem?_eq_some_iff.mp et).1
          have eq : kvs[i]? = some kvs[i] := List.getElem?_eq_getElem (by omega)
          obtain ⟨a, b, len, ek, a0, ab, bn, l1, l2⟩ := wn _ (List.mem_of_getElem? eq)
          have ht := tt' i t _ et eq
          rw [ek] at ht
          refine ⟨t, [.int a, .int b], rfl, SqT.of ht, rfl, _, _, rfl, _, _, rfl, rfl, ?_⟩
          obtain ⟨x, ax, mx⟩ := at_str (xs := xs) a0 (by omega)
          obtain ⟨y, ay, my⟩ := at_str (xs := xs) (i := b) (by omega) (by omega)
          refine ⟨_, rfl, .inl ⟨rfl, _, SqL.of hR'⟩, _, rfl, _, rfl, N, _, _, _, rfl, rfl, SqL.of mi.hn, ax, _, rfl, _, rfl, N, _, _, _, rfl, rfl, SqL.of mi.hn, ay, (by show 2 ≤ sizeLine; omega), fun L hL => ?_⟩
          have m1 := mi.add hL (.lst [.str x, .str y])
          refine ⟨L, [x, y], rfl, SqL.of upd_same, (by show 2 < 64; decide), fun L2 ss hL2 pm _ => ?_⟩
          have m2 := m1.add hL2 (.lst (ss.map V.str))
          obtain ⟨x', y', rfl⟩ : ∃ x y, ss = [x, y] := by
            have := pm.length_eq
            match ss, this with
            | [x, y], _ => exact ⟨x, y, rfl⟩
          refine ⟨L2, _, rfl, .inl ⟨SqL.of upd_same, fun T hT => ?_⟩⟩
          have m3 := m2.add hT (.tup ([x', y'].map V.str))
          refine ⟨_, rfl, _, rfl, _, rfl, (by show 2 ≤ sizeLine; omega), fun T2 hT2 => ?_⟩
          have m4 := m3.add hT2 (.tup [.int a, .int b])
          obtain ⟨v', ev, mv⟩ := valV_mem (kvs := kvs) (k := [Sum.inl a, Sum.inl b]) (v := .int len) (by rw [← ek]; exact List.mem_of_getElem? eq)
          obtain ⟨a', b', len', ek', _, _, _, l1', l2'⟩ := wn _ mv
          cases ek'
          refine ⟨W0, .int len', rfl, ev ▸ DGet.t (k := [Sum.inl a, Sum.inl b]) m4.hw upd_same, (by show 1 ≤ sizeLine; omega), fun T3 hT3 => ?_⟩
          have m5 := m4.add hT3 (.tup [.int len'])
          have eT : (upd (upd (upd (upd (upd H' L (.lst [.str x, .str y])) L2 (.lst ([x', y'].map V.str))) T (.tup ([x', y'].map V.str))) T2 (.tup [.int a, .int b])) T3 (.tup [.int len'])) T = some (.tup ([x', y'].map V.str)) := by
            rw [upd_ne (by intro z; subst z; rw [upd_ne (by intro z; subst z; rw [upd_same] at hT2; cases hT2), upd_same] at hT3; cases hT3), upd_ne (by intro z; subst z; rw [upd_same] at hT2; cases hT2), upd_same]
          refine ⟨T, T3, _, _, rfl, rfl, SqT.of eT, SqT.of upd_same, (by simp), (by show 2 + 1 ≤ sizeLine; omega), fun z => (by cases z), fun _ T4 hT4 => ?_⟩
          have m6 := m5.add hT4 (.tup ([x', y'].map V.str ++ [.int len']))
          have keep : ∀ (bb : Addr) (o : HO), H' bb = some o → (upd (upd (upd (upd (upd (upd H' L (.lst [.str x, .str y])) L2 (.lst ([x', y'].map V.str))) T (.tup ([x', y'].map V.str))) T2 (.tup [.int a, .int b])) T3 (.tup [.int len'])) T4 (.tup ([x', y'].map V.str ++ [.int len']))) bb = some o := fun bb o e =>
            same_upd hT4 _ _ (same_upd hT3 _ _ (same_upd hT2 _ _ (same_upd hT _ _ (same_upd hL2 _ _ (same_upd hL _ _ e)))))
          have hx' : x' = x ∨ x' = y := by simpa using pm.mem_iff.mp (show x' ∈ [x', y'] by simp)
          have hy' : y' = x ∨ y' = y := by simpa using pm.mem_iff.mp (show y' ∈ [x', y'] by simp)
          have nx : nameB x = true := xnm _ (List.mem_of_getElem? mx)
          have ny : nameB y = true := xnm _ (List.mem_of_getElem? my)
          have nT4 : T4 ≠ R := by intro z; subst z; exact absurd (same_upd hT3 _ _ (same_upd hT2 _ _ (same_upd hT _ _ (same_upd hL2 _ _ (same_upd hL _ _ hR'))))) (by rw [hT4]; exact fun z => nomatch z)
          refine ⟨R, vs, _, rfl, rfl, keep _ _ hR', by omega, ?_⟩
          refine ⟨vs ++ [.ref T4], ws ++ [(x', y', len')], _, _, rfl, ?_, ?_, upd_same, ?_, by rw [List.length_append, wsl]; rfl, by rw [List.length_append, vsl]; rfl, fun u hu => ?_, fun i t q e1 e2 => ?_⟩
          · refine ⟨m6.pn.other nRp, by rw [upd_ne nRN.symm]; exact m6.hn, by rw [upd_ne nRW.symm]; exact m6.hw, fun b o hb e => by rw [upd_ne (ne_of_none e fR)]; exact m6.kp b o hb e, nN, nW, wN, fW⟩
          · rw [upd_ne nRl]; exact keep _ _ hl'
          · have d1 : Dats (upd (upd (upd (upd (upd (upd (upd H' L (.lst [.str x, .str y])) L2 (.lst ([x', y'].map V.str))) T (.tup ([x', y'].map V.str))) T2 (.tup [.int a, .int b])) T3 (.tup [.int len'])) T4 (.tup ([x', y'].map V.str ++ [.int len']))) R (.lst (vs ++ [.ref T4]))) vs (ws.map wayD) := way_dats hd fun b ys e => by
              rw [upd_ne (by intro z; subst z; rw [hR'] at e; cases e)]; exact keep _ _ e
            rw [List.map_append]
            refine dats_app d1 (.cons (.tup (vs := [.str x', .str y', .int len']) (by rw [upd_ne nT4]; exact upd_same) (.cons (.str _) (.cons (.str _) (.cons (.int _) .nil)))) .nil)
          · rcases List.mem_append.mp hu with hu | hu
            · exact good u hu
            · rw [List.mem_singleton] at hu
              subst hu
              refine ⟨?_, ?_, l1', l2'⟩
              · rcases hx' with z | z <;> (show nameB x' = true; rw [z]; assumption)
              · rcases hy' with z | z <;> (show nameB y' = true; rw [z]; assumption)
          · have z := keep _ _ (tt' i t q e1 e2)
            rw [upd_ne (by intro y; subst y; rw [tt' i _ q e1 e2] at hR'; cases hR')]; exact z
        · rintro σ H' ⟨vs, ws, v8, v9, rfl, mi, hl', hR', hd, wsl, vsl, good, tt'⟩
          rw [List.length_map] at wsl vsl
          refine ⟨_, rfl, N, xs, rfl, SqL.of mi.hn, by omega, fun L ss hL pm _ => ?_⟩
          refine ⟨L, _, rfl, .inl ⟨SqL.of upd_same, fun T1 hT1 => ?_⟩⟩
          have m1 := (mi.add hL (.lst (ss.map V.str))).add hT1 (.tup (ss.map V.str))
          have s1 : Same H' (upd (upd H' L (.lst (ss.map V.str))) T1 (.tup (ss.map V.str))) := (same_upd hL).trans (same_upd hT1)
          refine ⟨_, rfl, R, vs, ws, rfl, SqL.of (s1 _ _ hR'), way_dats hd (fun b ys e => s1 _ _ e), fun L2 vs' ws' hL2 d2 pm2 _ => ?_⟩
          refine ⟨L2, _, rfl, .inl ⟨SqL.of upd_same, fun T2 hT2 => ?_⟩⟩
          have s2 : Same (upd (upd H' L (.lst (ss.map V.str))) T1 (.tup (ss.map V.str))) (upd (upd (upd (upd H' L (.lst (ss.map V.str))) T1 (.tup (ss.map V.str))) L2 (.lst vs')) T2 (.tup vs')) := (same_upd hL2).trans (same_upd hT2)
          refine ⟨(by show 2 ≤ sizeLine; omega), fun M hM => ?_⟩
          have m2 := ((m1.add hL2 (.lst vs')).add hT2 (.tup vs')).add hM (.tup [.ref T1, .ref T2])
          refine k _ M ss ws' m2.pn (fun b o hb e => m2.kp b o hb e) ⟨⟨T1, T2, vs', upd_same, same_upd hM _ _ (s2 _ _ upd_same), same_upd hM _ _ upd_same, way_dats d2 fun b ys e => same_upd hM _ _ (s2 _ _ e)⟩, by rw [pm.length_eq]; exact xl, pm.nodup_iff.mpr xnd, fun x hx => xnm x (pm.mem_iff.mp hx), by rw [pm2.length_eq]; omega, fun u hu => good u (pm2.mem_iff.mp hu)⟩
/-- a map, as it stands behind the top -/
structure MapF (K : PySem.W.Frag) (mg : Str → Option Value) (fS : Addr) (fdS : FuncData) : Prop where
  F : Fun K "_law_map" "_law_map" s_law_map fS fdS
  mg : mg "_law_map" = some (.ref fS)
  b : Binds K fdS ["_law_pen_here", "_law_many"] []
end
end K09
set_option maxRecDepth 100000
set_option maxHeartbeats 4000000
namespace K09
open PySem L2
section
variable {P : Program} {w : World} {K : PySem.W.Frag} {mg : Str → Option Value} {base : Heap}
theorem ok_law_rows {fS fG : Addr} {fdS fdG : FuncData} (XS : SomeF K mg fS fdS) (GS : FnOk P w K mg base CX0 2 fS fdS ["_law_pen_here", "_law_things", "_law_most"] (spSome K)) (XG : GreatF K mg fG fdG) (GG : FnOk P w K mg base CX0 2 fG fdG ["_law_pen_here", "_law_least", "_law_size"] spGreat) {f : Addr} {fd : FuncData} (F : Fun K "_law_rows" "_law_rows" s_law_rows f fd) : FnOk P w K mg base CX0 3 f fd ["_law_pen_here", "_law_places", "_law_most", "_law_least"] (spRowsL K) := by
  refine F.ok sc_law_rows (fun vs H Q E h => ?_) (fun cdv A outer s H vs Q E hr h => ?_)
  · obtain ⟨p, t, xs, m, lo, rfl, _⟩ := h
    rfl
  · obtain ⟨p, t, xs, m, lo, rfl, hP, hT, xnd, x1, x2, m1, m2, lo0, lo1, k⟩ := h
    have nd := sc_law_rows.nd
    have hu := hu_of hr
    have hu64 := hr.units
    have big : 100000 < sizeLine := by decide
    refine ⟨_, (pss_one (ps_ret (pe_comp (N := ["_law_place", "_law_pen_here", "_law_least"]) (σ0 := fun σ => [none, some 0, some 3].map fun j => j.bind fun j => (σ[j]?).join) rfl (CompOk.caught (by rfl) (by decide +kernel) rfl (by decide +kernel) (by intro y hy; simp only [List.mem_cons, List.not_mem_nil, or_false] at hy; rcases hy with rfl | rfl <;> rfl)
      (by intro y hy e; simp only [List.mem_cons, List.not_mem_nil, or_false] at hy; rcases hy with rfl | rfl | rfl | rfl | rfl <;> first | exact ⟨_, rfl⟩ | cases e)) (fun σ _ => Carry.of [none, some 0, some 3] rfl (by
      intro i j x h1 h2
      match i, h1, h2 with
      | 0, _, h2 => cases h2
      | 1, h1, h2 => cases h1; cases h2; exact ⟨rfl, .inl rfl, .inl rfl⟩
      | 2, h1, h2 => cases h1; cases h2; exact ⟨rfl, .inl rfl, .inl rfl⟩
      | n + 3, h1, _ => cases h1)) (pi_list (pe_call GS (hr.mono (by decide)) (by rfl) XS.mg XS.F.kp XS.b .nil pass0 (pa_cons (pv 0) (pa_cons (pv 1) (pa_cons (pv 2) pa_nil)))))
      (fun s2 H C fp => ⟨(pg_name (i := 0) (show (["_law_place", "_law_pen_here", "_law_least"] : List Str).Nodup by decide +kernel) rfl (Or.inl rfl)), pts_nil, (pe_tup (pa_cons (pv 0) (pa_cons (pe_call GG (hr.mono (by decide)) (by rfl) XG.mg XG.F.kp XG.b .nil pass0 (pa_cons (pv 1) (pa_cons (pv 2) (pa_cons pe_int pa_nil)))) pa_nil)))⟩)))), ?_⟩
    refine ⟨_, rfl, _, rfl, _, rfl, p, t, xs, m, rfl, hP, hT, x1, x2, m1, m2, fun H1 D1 ys zs P1 k1 f1 d1 pm l1 l2 => ?_⟩
    have nD1 : D1 ≠ p := hP.ne f1
    refine ⟨D1, rfl, ⟨_, SqL.of d1⟩, ?_⟩
    have yl : ys.length ≤ 1000 := by omega
    have ysub : ∀ y ∈ ys, y ∈ xs := fun y hy => pm.mem_iff.mp (List.mem_append_left _ hy)
    have ynd : ys.Nodup := (List.nodup_append.mp (pm.nodup_iff.mpr xnd)).1
    refine read_map over_list (xs := ys.map V.str) (fun D i σ H' acc => ∃ (v : Option V) (rs : List Row), σ = [v, some (.ref p), some (.int lo)] ∧ PnAt H' p ∧ (∀ b o, b ≠ p → H1 b = some o → H' b = some o) ∧ H' D = some (.lst acc) ∧ Dats H' acc (rs.map rowD) ∧ acc.length = i ∧ rs.map (·.1) = ys.take i ∧ ∀ r ∈ rs, lo ≤ r.2 ∧ r.2 < 10 ^ 30)
      (by rw [List.length_map]; omega) (fun D hD => ⟨_, [], rfl, P1.other (P1.ne hD), fun b o hb e => same_upd hD _ _ e, upd_same, .nil, rfl, rfl, fun r hr => (nomatch hr)⟩)
      (fun D i σ H' acc hD ⟨v, rs, _, _, kp, hDD, _, al, _⟩ => ⟨SqL.of (kp _ _ nD1 d1), hDD, al⟩) ?_ ?_
    · rintro D i σ H' acc x B hD ex ⟨v, rs, rfl, P2, k2, d2, dd, al, rt, rl⟩ hB
      obtain ⟨y, ey, rfl⟩ : ∃ y, ys[i]? = some y ∧ x = .str y := by
        rw [List.getElem?_map] at ex
        cases z : ys[i]? with
        | none => rw [z] at ex; cases ex
        | some y => rw [z] at ex; exact ⟨y, rfl, (Option.some.inj ex).symm⟩
      have nD : D ≠ p := P1.ne hD
      refine ⟨_, rfl, _, rfl, _, rfl, p, lo, 4, rfl, P2, by omega, by omega, by decide, by decide, fun l a b c la lb => ?_⟩
      refine ⟨(by show 2 ≤ sizeLine; omega), fun T hT => ?_⟩
      have d3 : (upd (upd H' p (.lst (penL a b c))) T (.tup [.str y, .int l])) D = some (.lst acc) := same_upd hT _ _ (by rw [upd_ne nD]; exact d2)
      have nT : T ≠ D := by intro z; subst z; rw [upd_ne nD, d2] at hT; cases hT
      have nTp : T ≠ p := (PnAt.set (H := H') (p := p) a b c).ne hT
      refine hB _ _ _ d3 ⟨_, rs ++ [(y, l)], rfl, ((PnAt.set a b c).other nTp).other nD, fun b' o hb e => ?_, upd_same, ?_, by rw [List.length_append, al]; rfl, ?_, fun r hr => ?_⟩
      · rw [upd_ne (ne_of_none e hD)]
        exact same_upd hT _ _ (by rw [upd_ne hb]; exact k2 b' o hb e)
      · rw [List.map_append]
        refine dats_app (row_dats dd fun b' ys e => ?_) (.cons (rowD_of (u := (y, l)) (by rw [upd_ne nT]; exact upd_same)) .nil)
        rw [upd_ne (by intro z; subst z; rw [d2] at e; cases e)]
        exact same_upd hT _ _ (by rw [upd_ne (by intro z; subst z; obtain ⟨_, _, _, z⟩ := P2; rw [z] at e; cases e)]; exact e)
      · rw [List.map_append, rt]
        have hi := (List.getElem?_eq_some_iff.mp ey)
        rw [List.take_succ, ey]
        rfl
      · rcases List.mem_append.mp hr with hr | hr
        · exact rl r hr
        · rw [List.mem_singleton] at hr
          subst hr
          exact ⟨la, lb⟩
    · rintro D σ H' acc hD ⟨v, rs, rfl, P2, k2, d2, dd, al, rt, rl⟩
      have rl2 : rs.length = ys.length := by
        have := congrArg List.length rt
        rw [List.length_map, List.length_take, List.length_map, Nat.min_self] at this
        exact this
      rw [List.length_map, List.take_length] at rt
      exact k H' D acc rs P2 (fun b o hb e => k2 b o hb (k1 b o hb e)) (P1.ne hD) d2 dd ⟨fun r hr => ysub _ (by rw [← rt]; exact List.mem_map_of_mem hr), by rw [rt]; exact ynd, rl, by omega⟩ (by omega)
theorem ok_law_handed (h_list : mg "list" = none) (h_tuple : mg "tuple" = none) {fT : Addr} {fdT : FuncData} (DK : DrawF K mg fT fdT) (GT : FnOk P w K mg base CX0 1 fT fdT ["_law_pen_here", "_law_many"] spDraw) {f : Addr} {fd : FuncData} (F : Fun K "_law_handed" "_law_handed" s_law_handed f fd) : FnOk P w K mg base CX0 2 f fd ["_law_pen_here", "_law_rows_here"] spHanded := by
  refine F.ok sc_law_handed (fun vs H Q E h => ?_) (fun cdv A outer s H vs Q E hr h => ?_)
  · obtain ⟨p, D, us, rfl, _⟩ := h
    rfl
  · obtain ⟨p, D, us, rfl, hP, nD, hD, k⟩ := h
    have nd := sc_law_handed.nd
    have hu := hu_of hr
    have hu64 := hr.units
    have big : 100000 < sizeLine := by decide
    refine ⟨_, (pss_one (ps_ret (pe_ix ix_list (pe_lst (pa_cons (pe_callTy call_list_of (by rfl) h_list PyProof.Rows.boot_list (pa_cons (pv 1) pa_nil)) (pa_cons (pe_callTy call_tuple_of (by rfl) h_tuple PyProof.Rows.boot_tuple (pa_cons (pv 1) pa_nil)) pa_nil))) (pe_call GT (hr.mono (by decide)) (by rfl) DK.mg DK.F.kp DK.b .nil pass0 (pa_cons (pv 0) (pa_cons pe_int pa_nil))) (fun _ _ => rfl)))), ?_⟩
    refine ⟨_, rfl, D, us, rfl, .inl (SqL.of hD), fun L hL => ?_⟩
    have hD2 : (upd H L (.lst us)) D = some (.lst us) := same_upd hL _ _ hD
    refine ⟨_, rfl, D, us, rfl, .inl ⟨SqL.of hD2, fun T hT => ⟨(by show 2 ≤ sizeLine; omega), fun B hB => ?_⟩⟩⟩
    have pL := hP.ne hL
    have P1 := hP.other (o := .lst us) pL
    have pT := P1.ne hT
    have P2 := P1.other (o := .tup us) pT
    have pB := P2.ne hB
    refine ⟨_, rfl, p, 2, rfl, P2.other pB, by decide, by decide, fun d a b c d0 d1 => ?_⟩
    have kp : Keep p H (upd (upd (upd (upd H L (.lst us)) T (.tup us)) B (.lst [.ref L, .ref T])) p (.lst (penL a b c))) := fun b' o hb e => by
      rw [upd_ne hb]; exact same_upd hB _ _ (same_upd hT _ _ (same_upd hL _ _ e))
    have hBB : SqL K (upd (upd (upd (upd H L (.lst us)) T (.tup us)) B (.lst [.ref L, .ref T])) p (.lst (penL a b c))) B [.ref L, .ref T] := SqL.of (by rw [upd_ne pB]; exact upd_same)
    by_cases z : d = 0
    · subst z
      exact ⟨B, _, _, _, rfl, rfl, hBB, rfl, k _ L (PnAt.set a b c) kp pL (.inl (by rw [upd_ne pL]; exact same_upd hB _ _ (same_upd hT _ _ upd_same)))⟩
    · have : d = 1 := by omega
      subst this
      exact ⟨B, _, _, _, rfl, rfl, hBB, rfl, k _ T (PnAt.set a b c) kp pT (.inr (by rw [upd_ne pT]; exact same_upd hB _ _ upd_same))⟩
theorem ok_is_whole (h_bool : mg "bool" = none) (h_int : mg "int" = none) (h_isinstance : mg "isinstance" = none) {f : Addr} {fd : FuncData} (F : Fun K "is_whole" "is_whole" s_is_whole f fd) : FnOk P w K mg base CX0 1 f fd ["thing"] spWholeI := by
  refine F.ok sc_is_whole (fun vs H Q E h => ?_) (fun cdv A outer s H vs Q E hr h => ?_)
  · obtain ⟨i, rfl, _⟩ := h
    rfl
  · obtain ⟨i, rfl, k⟩ := h
    have nd := sc_is_whole.nd
    have hu := hu_of hr
    have hu64 := hr.units
    have big : 100000 < sizeLine := by decide
    refine ⟨_, (pss_one (ps_ret (pe_and (pe_callB call_isinst (by rfl) h_isinstance PyProof.Rows.boot_isinstance (pa_cons (pv 0) (pa_cons (pe_bltn (v := .ty "int") (by rfl) h_int PyProof.Rows.boot_int rfl) pa_nil))) (pe_one (pe_not (pe_callB call_isinst (by rfl) h_isinstance PyProof.Rows.boot_isinstance (pa_cons (pv 0) (pa_cons (pe_bltn (v := .ty "bool") (by rfl) h_bool PyProof.Rows.boot_bool rfl) pa_nil)))))))), ?_⟩
    exact ⟨_, rfl, _, _, _, true, rfl, .int i, rfl, true, rfl, iteT ⟨_, rfl, _, _, _, false, rfl, .int i, rfl, false, rfl, k⟩⟩
theorem ok_is_whole_from {fW : Addr} {fdW : FuncData} (XW : Fn K mg "is_whole" s_is_whole ["thing"] fW fdW) (GW : FnOk P w K mg base CX0 1 fW fdW ["thing"] spWholeI) {f : Addr} {fd : FuncData} (F : Fun K "is_whole_from" "is_whole_from" s_is_whole_from f fd) : FnOk P w K mg base CX0 2 f fd ["thing", "least"] spWholeFromI := by
  refine F.ok sc_is_whole_from (fun vs H Q E h => ?_) (fun cdv A outer s H vs Q E hr h => ?_)
  · obtain ⟨i, j, rfl, _⟩ := h
    rfl
  · obtain ⟨i, j, rfl, k⟩ := h
    have nd := sc_is_whole_from.nd
    have hu := hu_of hr
    have hu64 := hr.units
    have big : 100000 < sizeLine := by decide
    refine ⟨_, (pss_one (ps_ret (pe_and (pe_call GW (hr.mono (by decide)) (by rfl) XW.mg XW.F.kp XW.b .nil pass0 (pa_cons (pv 0) pa_nil)) (pe_one (pe_cmpR op_ge (pv 0) (pv 1) (nomark _)))))), ?_⟩
    exact ⟨_, rfl, i, rfl, true, rfl, iteT ⟨_, rfl, _, rfl, _, _, rfl, rfl, k⟩⟩
end
end K09
set_option maxRecDepth 100000
set_option maxHeartbeats 4000000
namespace K09
open PySem L2
structure TxtN (K : PySem.W.Frag) (mg : Str → Option Value) : Prop where
  len : mg "len" = none
  isin : mg "isinstance" = none
  str : mg "str" = none
  all : mg "all" = none
  most : ∃ t, mg "MOST_LETTERS" = some (.int 6 t)
section
variable {P : Program} {w : World} {K : PySem.W.Frag} {mg : Str → Option Value} {base : Heap}
theorem ok_name {f : Addr} {fd : FuncData} (T : TxtN K mg) (F : Fun K "is_name" "is_name" s_is_name f fd) : FnOk P w K mg base CX0 1 f fd ["thing"] (spName K) := by
  refine F.ok sc_is_name (fun vs H Q E h => ?_) (fun cdv A outer s H vs Q E hr h => ?_)
  · obtain ⟨x, rfl, _⟩ := h
    rfl
  · obtain ⟨x, rfl, h⟩ := h
    obtain ⟨tk, hmost⟩ := T.most
    refine ⟨_, pss_cons (ps_if (pw_or (pt_not (pt_val (pe_callB call_isinst (by rfl) T.isin PyProof.Rows.boot_isinstance (pa_cons (pv 0) (pa_cons (pe_bltn (v := .ty "str") (by rfl) T.str PyProof.Rows.boot_str rfl) pa_nil)))))
        (pw_or1 (pt_not (pt_chain op_le op_le pe_int (pe_callB call_len_str (by rfl) T.len PySem.boot_len (pa_cons (pv 0) pa_nil)) (pe_glob (v := .int 6) (by rfl) hmost ⟨_, rfl⟩))))).pt
        (pss_one (ps_ret pe_bl)) pss_nil)
      (pss_one (ps_ret (pe_callB (call_all_bl rfl) (by rfl) T.all PyProof.Rows.boot_all (pa_cons
        (pe_comp (N := ["letter"]) (σ0 := fun _ => [none]) rfl (CompOk.plain (by decide +kernel) (by decide +kernel) rfl (by decide +kernel)) (fun σ _ => Carry.none _ _ _ ["letter"] σ) (pi_str (pv 0))
          (fun s2 H C fp => ⟨pg_name (i := 0) (show (["letter"] : List Str).Nodup by decide +kernel) rfl (Or.inl rfl), pts_nil, pe_chain op_le_str op_le_str pe_str (pv 0) pe_str⟩)) pa_nil)))), ?_⟩
    rcases h with ⟨t, rfl, ht, k⟩ | ⟨⟨ty, h1, h2⟩, k⟩
    · refine ⟨_, rfl, _, "str", _, _, rfl, TyOf.str t, rfl, _, rfl, ?_⟩
      -- not 1 <= len(thing) <= 6
      refine iteF ?_
      refine ⟨_, rfl, t, rfl, Nat.le_trans ht (by decide), _, _, rfl, rfl, _, rfl, ?_⟩
      have last : ∀ (h1 : 1 ≤ t.length) (h2 : t.length ≤ 6), tComp (iStr (tVar 0)) (gName 0) tYes (tChain (fun x y H Q => ∃ i j, x = .str i ∧ y = .str j ∧ Q (.bl (!(decide (j.cps.toList < i.cps.toList)))) H) (fun x y H Q => ∃ i j, x = .str i ∧ y = .str j ∧ Q (.bl (!(decide (j.cps.toList < i.cps.toList)))) H) (tC (.str "a")) (tVar 0) (tC (.str "z"))) (fun _ => [none]) [some (V.str t)] H
          (fun x H1 => ∃ (p : Addr) (bs : List Bool), [x] = [V.ref p] ∧ SqL K H1 p (bs.map V.bl) ∧ Q (.bl (bs.all id)) H1) := by
        intro h1 h2
        refine ⟨_, rfl, t, rfl, fun D hD => ⟨fun i m σ' H' => m = t.cps.size - i ∧ i ≤ t.cps.size ∧ (∃ v, σ' = [v]) ∧ H' = upd H D (.lst ((t.cps.toList.take i).map fun c => V.bl (lowc c))), ⟨_, rfl, Nat.zero_le _, ⟨_, rfl⟩, rfl⟩, ?_⟩⟩
        rintro i m σ' H' ⟨rfl, hi, ⟨v, rfl⟩, rfl⟩
        by_cases hlt : i < t.cps.size
        · refine .inr ⟨hlt, ?_⟩
          rintro x H2 ⟨rfl, c, hc, rfl⟩
          have hc' : t.cps.toList[i]? = some c := by simpa using hc
          have step : ∀ b, b = lowc c → ∃ acc, (upd H D (.lst ((t.cps.toList.take i).map fun c => V.bl (lowc c)))) D = some (.lst acc) ∧ acc.length < sizeLine ∧ ∃ m', m' < t.cps.size - i ∧ (m' = t.cps.size - (i + 1) ∧ i + 1 ≤ t.cps.size ∧ (∃ v, [some (V.str ⟨#[c]⟩)] = [v]) ∧
              upd (upd H D (.lst ((t.cps.toList.take i).map fun c => V.bl (lowc c)))) D (.lst (acc ++ [V.bl b])) = upd H D (.lst ((t.cps.toList.take (i + 1)).map fun c => V.bl (lowc c)))) := by
            rintro b rfl
            refine ⟨_, upd_same, ?_, _, ?_, rfl, hlt, ⟨_, rfl⟩, ?_⟩
            · rw [List.length_map, List.length_take]
              have : t.length = t.cps.size := rfl
              have : 1000 < sizeLine := by decide
              omega
            · omega
            · rw [upd_upd, take_succ_map _ _ _ _ hc']
          refine ⟨_, rfl, _, _, rfl, rfl, _, rfl, ?_⟩
          rw [leA]
          refine ite2 (fun ha => ?_) (fun ha => ?_)
          · refine ⟨_, _, rfl, rfl, ?_⟩
            rw [leZ]
            exact step _ (by unfold lowc; rw [ha]; rfl)
          · exact step _ (by unfold lowc; rw [Bool.not_eq_true] at ha; rw [ha]; rfl)
        · have e : i = t.cps.size := by omega
          subst e
          refine .inl ⟨Nat.le_refl _, D, t.cps.toList.map lowc, rfl, .inl (.inl ?_), ?_⟩
          · rw [upd_same, List.take_of_length_le (by simp), List.map_map]
            rfl
          · have e2 : (t.cps.toList.map lowc).all id = nameB t := by
              unfold nameB
              rw [List.all_map, decide_eq_true h1, decide_eq_true h2]
              rfl
            rw [e2]
            exact k _ (same_upd hD)
      refine ite2 (fun h1 => ?_) (fun h1 => ?_)
      · refine ⟨_, _, rfl, rfl, _, rfl, ?_⟩
        rw [decide_eq_true_eq] at h1
        refine ite2 (fun h2 => ?_) (fun h2 => ?_)
        · have e : nameB t = false := by
            unfold nameB
            have : ¬ t.length ≤ 6 := by
              intro z
              rw [decide_eq_true (show ((t.length : Nat) : Int) ≤ 6 by omega)] at h2
              cases h2
            rw [decide_eq_false this, Bool.and_false, Bool.false_and]
          rw [← e]
          exact k _ (Same.refl _)
        · refine last (by omega) ?_
          by_cases z : t.length ≤ 6
          · exact z
          · rw [decide_eq_false (show ¬ ((t.length : Nat) : Int) ≤ 6 by omega)] at h2
            exact absurd rfl h2
      · refine ⟨_, rfl, ?_⟩
        refine iteT ?_
        have e : nameB t = false := by
          unfold nameB
          rw [decide_eq_true_eq] at h1
          rw [decide_eq_false (show ¬ 1 ≤ t.length by omega), Bool.false_and, Bool.false_and]
        show Q (.bl false) H
        rw [← e]
        exact k _ (Same.refl _)
    · refine ⟨_, rfl, _, "str", _, _, rfl, h1, h2, _, rfl, ?_⟩
      exact k
end
end K09
set_option maxRecDepth 100000
set_option maxHeartbeats 4000000
namespace K09
open PySem L2
section
variable {P : Program} {w : World} {K : PySem.W.Frag} {mg : Str → Option Value} {base : Heap}
theorem ok_row_of (h_isinstance : mg "isinstance" = none) (h_len : mg "len" = none) (h_tuple : mg "tuple" = none) {fN fW : Addr} {fdN fdW : FuncData} (XN : Fn K mg "is_name" s_is_name ["thing"] fN fdN) (GN : FnOk P w K mg base CX0 1 fN fdN ["thing"] (spName K)) (XW : Fn K mg "is_whole_from" s_is_whole_from ["thing", "least"] fW fdW) (GW : FnOk P w K mg base CX0 2 fW fdW ["thing", "least"] spWholeFromI) {f : Addr} {fd : FuncData} (F : Fun K "row_of" "row_of" s_row_of f fd) : FnOk P w K mg base CX0 3 f fd ["web", "row", "least"] spRowOf := by
  refine F.ok sc_row_of (fun vs H Q E h => ?_) (fun cdv A outer s H vs Q E hr h => ?_)
  · obtain ⟨m, t, lo, xs, r, rfl, _⟩ := h
    rfl
  · obtain ⟨m, t, lo, xs, r, rfl, ⟨t1, t2, hm, ht1⟩, ht, hx, hn, hlo, k⟩ := h
    have nd := sc_row_of.nd
    have hu := hu_of hr
    have hu64 := hr.units
    have big : 100000 < sizeLine := by decide
    refine ⟨_, (pss_cons (ps_if (pw_or (pt_not (pt_val (pe_callB call_isinst (by rfl) h_isinstance PyProof.Rows.boot_isinstance (pa_cons (pv 1) (pa_cons (pe_bltn (v := .ty "tuple") (by rfl) h_tuple PyProof.Rows.boot_tuple rfl) pa_nil))))) (pw_or1 (pt_cmpR op_ne (pe_callB call_len_seq (by rfl) h_len PySem.boot_len (pa_cons (pv 1) pa_nil)) pe_int (nomark _)))).pt
    pss_never
    pss_nil)
    (pss_cons (ps_asg (pv 1) (pg_tup rfl (pgs_cons (pg_name (i := 3) nd rfl (Or.inl rfl)) (pgs_cons (pg_name (i := 4) nd rfl (Or.inl rfl)) pgs_nil))))
    (pss_cons (ps_if (pw_or (pt_not (pt_val (pe_call GN (hr.mono (by decide)) (by rfl) XN.mg XN.F.kp XN.b .nil pass0 (pa_cons (pv 3) pa_nil)))) (pw_or1 (pt_cmpR op_notIn_seq (pv 3) (pe_ix ix_tup (pv 0) pe_int (fun _ _ => rfl)) (by rfl)))).pt
    pss_never
    pss_nil)
    (pss_cons (ps_if (pt_not (pt_val (pe_call GW (hr.mono (by decide)) (by rfl) XW.mg XW.F.kp XW.b .nil pass0 (pa_cons (pv 4) (pa_cons (pv 2) pa_nil)))))
    pss_never
    pss_nil)
    (pss_one (ps_ret (pe_tup (pa_cons (pv 3) (pa_cons (pv 4) pa_nil))))))))), ?_⟩
    refine ⟨_, rfl, _, "tuple", _, true, rfl, TyOf.tup ht, rfl, _, rfl, iteF ?_⟩
    refine ⟨_, rfl, t, _, rfl, .inr (SqT.of ht), rfl, _, rfl, iteF ?_⟩
    refine ⟨_, rfl, t, _, rfl, SqT.of ht, rfl, _, _, rfl, _, _, rfl, rfl, ?_⟩
    obtain ⟨l1, l2, lo'⟩ := low_of hn
    refine ⟨_, rfl, .str r.1, rfl, .inl ⟨r.1, rfl, by omega, fun H1 s1 => ?_⟩⟩
    rw [hn]
    refine ⟨_, rfl, iteF ?_⟩
    refine ⟨_, rfl, _, rfl, m, _, _, _, rfl, rfl, SqT.of (s1 _ _ hm), rfl, t1, _, rfl, .inr (SqT.of (s1 _ _ ht1)), rfl, flat_strs xs, _, rfl, ?_⟩
    rw [inV_strs, decide_eq_true hx]
    refine iteF ?_
    refine ⟨_, rfl, _, rfl, r.2, lo, rfl, ?_⟩
    rw [decide_eq_true hlo]
    refine ⟨_, rfl, iteF ?_⟩
    refine ⟨_, rfl, _, rfl, (by show 2 ≤ sizeLine; omega), fun D hD => k _ D (s1.trans (same_upd hD)) upd_same⟩
theorem ok_rows_of (h_isinstance : mg "isinstance" = none) (h_len : mg "len" = none) (h_list : mg "list" = none) (h_set : mg "set" = none) (h_sorted : mg "sorted" = none) (h_tuple : mg "tuple" = none) {fR : Addr} {fdR : FuncData} (XR : Fn K mg "row_of" s_row_of ["web", "row", "least"] fR fdR) (GR : FnOk P w K mg base CX0 3 fR fdR ["web", "row", "least"] spRowOf) {f : Addr} {fd : FuncData} (F : Fun K "rows_of" "rows_of" s_rows_of f fd) : FnOk P w K mg base CX0 4 f fd ["web", "rows", "most", "least"] spRowsOf := by
  refine F.ok sc_rows_of (fun vs H Q E h => ?_) (fun cdv A outer s H vs Q E hr h => ?_)
  · obtain ⟨m, e, most, lo, xs, us, rs, rfl, _⟩ := h
    rfl
  · obtain ⟨m, e, most, lo, xs, us, rs, rfl, hm, hnm, he, hd, ok, hmost, h1000, k⟩ := h
    have nd := sc_rows_of.nd
    have hu := hu_of hr
    have hu64 := hr.units
    have big : 100000 < sizeLine := by decide
    refine ⟨_, (pss_cons (ps_if (pt_not (pt_val (pe_callB call_isinst2 (by rfl) h_isinstance PyProof.Rows.boot_isinstance (pa_cons (pv 1) (pa_cons (pe_tup (pa_cons (pe_bltn (v := .ty "list") (by rfl) h_list PyProof.Rows.boot_list rfl) (pa_cons (pe_bltn (v := .ty "tuple") (by rfl) h_tuple PyProof.Rows.boot_tuple rfl) pa_nil))) pa_nil)))))
    pss_never
    pss_nil)
    (pss_cons (ps_if (pt_not (pt_chain op_le op_le pe_int (pe_callB call_len_seq (by rfl) h_len PySem.boot_len (pa_cons (pv 1) pa_nil)) (pv 2)))
    pss_never
    pss_nil)
    (pss_cons (ps_set (i := 4) nd rfl (Or.inl rfl) (pe_callTy call_tuple_of (by rfl) h_tuple PyProof.Rows.boot_tuple (pa_cons (pe_callB call_sorted_rows (by rfl) h_sorted PyProof.Rows.boot_sorted (pa_cons (pe_comp (N := ["row", "web", "least"]) (σ0 := fun σ => [none, some 0, some 3].map fun j => j.bind fun j => (σ[j]?).join) rfl (CompOk.caught (by rfl) (by decide +kernel) rfl (by decide +kernel) (by intro y hy; simp only [List.mem_cons, List.not_mem_nil, or_false] at hy; rcases hy with rfl | rfl <;> rfl)
      (by intro y hy e; simp only [List.mem_cons, List.not_mem_nil, or_false] at hy; rcases hy with rfl | rfl | rfl | rfl | rfl <;> first | exact ⟨_, rfl⟩ | cases e)) (fun σ _ => Carry.of [none, some 0, some 3] rfl (by
      intro i j x h1 h2
      match i, h1, h2 with
      | 0, _, h2 => cases h2
      | 1, h1, h2 => cases h1; cases h2; exact ⟨rfl, .inl rfl, .inl rfl⟩
      | 2, h1, h2 => cases h1; cases h2; exact ⟨rfl, .inl rfl, .inl rfl⟩
      | n + 3, h1, _ => cases h1)) (pi_seq (pv 1))
      (fun s2 H C fp => ⟨(pg_name (i := 0) (show (["row", "web", "least"] : List Str).Nodup by decide +kernel) rfl (Or.inl rfl)), pts_nil, (pe_call GR (hr.mono (by decide)) (by rfl) XR.mg XR.F.kp XR.b .nil pass0 (pa_cons (pv 1) (pa_cons (pv 0) (pa_cons (pv 2) pa_nil))))⟩)) pa_nil)) pa_nil)))
    (pss_cons (ps_if (pt_cmpR op_lt (pe_callB call_len_setS (by rfl) h_len PySem.boot_len (pa_cons (pe_callTy (call_set_strs rfl) (by rfl) h_set PyProof.Rows.boot_set (pa_cons (pe_comp (N := ["place", "number"]) (σ0 := fun _ => [none, none]) rfl (CompOk.plain (by decide +kernel) (by decide +kernel) rfl (by decide +kernel)) (fun σ _ => Carry.none _ _ _ ["place", "number"] σ) (pi_tup (pv 4))
      (fun s2 H C fp => ⟨(pg_tupK K rfl (n := 2) rfl (pgs_cons (pg_name (i := 0) (show (["place", "number"] : List Str).Nodup by decide +kernel) rfl (Or.inl rfl)) (pgs_cons (pg_name (i := 1) (show (["place", "number"] : List Str).Nodup by decide +kernel) rfl (Or.inl rfl)) pgs_nil))), pts_nil, (pv 0)⟩)) pa_nil)) pa_nil)) (pe_callB call_len_seq (by rfl) h_len PySem.boot_len (pa_cons (pv 4) pa_nil)) (nomark _))
    pss_never
    pss_nil)
    (pss_one (ps_ret (pv 4))))))), ?_⟩
    have ul := rows_len hd
    have rone := ok.one
    refine ⟨_, rfl, (by show 2 ≤ sizeLine; omega), fun T hT => ?_⟩
    have s1 := same_upd (o := .tup [.ty "list", .ty "tuple"]) hT
    have isq : ∃ t, TyOf K (upd H T (.tup [.ty "list", .ty "tuple"])) (.ref e) t ∧ PySem.W.kitAny K t [.type "list", .type "tuple"] = some true := by
      rcases he with he | he
      · exact ⟨_, .lst (s1 _ _ he), rfl⟩
      · exact ⟨_, .tup (s1 _ _ he), rfl⟩
    obtain ⟨ty, ty1, ty2⟩ := isq
    refine ⟨_, T, "list", "tuple", ty, true, rfl, ty1, upd_same, ty2, _, rfl, iteF ?_⟩
    generalize hH1 : upd H T (.tup [.ty "list", .ty "tuple"]) = H1 at s1
    have he1 : H1 e = some (.lst us) ∨ H1 e = some (.tup us) := by
      rcases he with he | he
      · exact .inl (s1 _ _ he)
      · exact .inr (s1 _ _ he)
    have he2 : SqL K H1 e us ∨ SqT K H1 e us := by
      rcases he1 with he | he
      · exact .inl (SqL.of he)
      · exact .inr (SqT.of he)
    refine ⟨_, rfl, e, us, rfl, he2, _, _, rfl, rfl, _, rfl, ?_⟩
    rw [decide_eq_true (show (1 : Int) ≤ (us.length : Int) by omega)]
    refine iteT ?_
    refine ⟨_, rfl, _, _, rfl, rfl, _, rfl, ?_⟩
    rw [decide_eq_true (show (us.length : Int) ≤ most by omega)]
    refine iteF ?_
    refine ⟨_, rfl, e, rfl, ?_⟩
    rcases he1 with hq | hq
    · refine .inl ⟨⟨_, SqL.of hq⟩, ?_⟩
      refine read_map over_list (xs := us) (fun D i σ H' acc => ∃ v : Option V, σ = [v, some (.ref m), some (.int lo)] ∧ Same H1 H' ∧ H' D = some (.lst acc) ∧ Dats H' acc ((rs.take i).map rowD) ∧ acc.length = i)
        (by omega) (fun D hD => ⟨_, rfl, same_upd hD, upd_same, .nil, rfl⟩)
        (fun D i σ H' acc hD ⟨v, _, sa, hDD, _, al⟩ => ⟨SqL.of (sa _ _ hq), hDD, al⟩) ?_ ?_
      · rintro D i σ H' acc x B hD ex ⟨v, rfl, sa, hDD, dd, al⟩ hB
        obtain ⟨u, t, eu, rfl, ht⟩ := dats_row hd ex
        have um := List.mem_of_getElem? eu
        refine ⟨_, rfl, _, rfl, _, rfl, m, t, lo, xs, u, rfl, (hm.same s1).same sa, sa _ _ (s1 _ _ ht), ok.sub u um, hnm _ (ok.sub u um), (ok.lo u um).1, fun H2 T2 s2 hT2 => ?_⟩
        have hD2 := s2 _ _ hDD
        have nT : T2 ≠ D := ne_of hT2 hD2 (fun z => by cases z)
        refine hB _ _ _ hD2 ⟨_, rfl, fun b o z => by rw [upd_ne (ne_of_none z hD)]; exact s2 _ _ (sa _ _ z), upd_same, ?_, by rw [List.length_append, al]; rfl⟩
        rw [List.take_succ, eu, List.map_append]
        refine dats_app (row_dats dd fun b ys z => ?_) (.cons (rowD_of (by rw [upd_ne nT]; exact hT2)) .nil)
        rw [upd_ne (ne_of z hDD (fun z => by cases z))]
        exact s2 _ _ z
      · rintro D σ H' acc hD ⟨v, rfl, sa, hDD, dd, al⟩
        rw [ul, List.take_length] at dd
        refine ⟨D, acc, rs, rfl, SqL.of hDD, dd, fun l vs' rs' hl d' pm rise => ?_⟩
        refine ⟨l, _, rfl, .inl ⟨SqL.of upd_same, fun T4 hT4 => ?_⟩⟩
        have s4 : Same H' (upd (upd H' l (.lst vs')) T4 (.tup vs')) := (same_upd hl).trans (same_upd hT4)
        have h4 : (upd (upd H' l (.lst vs')) T4 (.tup vs')) T4 = some (.tup vs') := upd_same
        have d4 := row_dats d' (fun b ys z => s4 _ _ z)
        generalize hH4 : upd (upd H' l (.lst vs')) T4 (.tup vs') = H4 at s4 h4 d4
        have vl := rows_len d'
        have rl := pm.length_eq
        refine ⟨_, rfl, T4, rfl, ⟨_, SqT.of h4⟩, ?_⟩
        refine read_map over_tup (xs := vs') (fun D i σ H' acc => ∃ v1 v2 : Option V, σ = [v1, v2] ∧ Same H4 H' ∧ H' D = some (.lst acc) ∧ acc = ((rs'.take i).map (·.1)).map V.str ∧ acc.length = i)
          (by omega) (fun D hD => ⟨_, _, rfl, same_upd hD, upd_same, rfl, rfl⟩)
          (fun D i σ H' acc hD ⟨v1, v2, _, sa, hDD, _, al⟩ => ⟨SqT.of (sa _ _ h4), hDD, al⟩) ?_ ?_
        · rintro D i σ H5 acc x B hD ex ⟨v1, v2, rfl, sa5, hDD, ea, al⟩ hB
          obtain ⟨u, t, eu, rfl, ht⟩ := dats_row d4 ex
          refine ⟨t, _, rfl, SqT.of (sa5 _ _ ht), rfl, _, _, rfl, _, _, rfl, rfl, _, rfl, ?_⟩
          refine hB _ _ _ hDD ⟨_, _, rfl, fun b o z => by rw [upd_ne (ne_of_none z hD)]; exact sa5 _ _ z, upd_same, ?_, by rw [List.length_append, al]; rfl⟩
          rw [ea, List.take_succ, eu, List.map_append, List.map_append]
          rfl
        · rintro D σ H5 acc hD ⟨v1, v2, rfl, sa5, hDD, ea, al⟩
          rw [vl, List.take_length] at ea
          have nd2 : (rs'.map (·.1)).Nodup := (ok.perm pm).nd
          refine ⟨D, rs'.map (·.1), rfl, by rw [hDD, ea], by rw [List.length_map]; omega, fun Z hZ => ?_⟩
          refine ⟨Z, _, _, rfl, upd_same, _, rfl, T4, vs', rfl, .inr (SqT.of (same_upd hZ _ _ (sa5 _ _ h4))), _, _, rfl, rfl, _, rfl, ?_⟩
          rw [dedup_nodup _ nd2, List.length_map, decide_eq_false (by omega)]
          refine iteF ⟨_, rfl, ?_⟩
          exact k _ T4 vs' rs' ((((s1.trans sa).trans s4).trans sa5).trans (same_upd hZ)) (same_upd hZ _ _ (sa5 _ _ h4)) (row_dats d4 fun b ys z => same_upd hZ _ _ (sa5 _ _ z)) pm rise
    · refine .inr ⟨⟨_, SqT.of hq⟩, ?_⟩
      refine read_map over_tup (xs := us) (fun D i σ H' acc => ∃ v : Option V, σ = [v, some (.ref m), some (.int lo)] ∧ Same H1 H' ∧ H' D = some (.lst acc) ∧ Dats H' acc ((rs.take i).map rowD) ∧ acc.length = i)
        (by omega) (fun D hD => ⟨_, rfl, same_upd hD, upd_same, .nil, rfl⟩)
        (fun D i σ H' acc hD ⟨v, _, sa, hDD, _, al⟩ => ⟨SqT.of (sa _ _ hq), hDD, al⟩) ?_ ?_
      · rintro D i σ H' acc x B hD ex ⟨v, rfl, sa, hDD, dd, al⟩ hB
        obtain ⟨u, t, eu, rfl, ht⟩ := dats_row hd ex
        have um := List.mem_of_getElem? eu
        refine ⟨_, rfl, _, rfl, _, rfl, m, t, lo, xs, u, rfl, (hm.same s1).same sa, sa _ _ (s1 _ _ ht), ok.sub u um, hnm _ (ok.sub u um), (ok.lo u um).1, fun H2 T2 s2 hT2 => ?_⟩
        have hD2 := s2 _ _ hDD
        have nT : T2 ≠ D := ne_of hT2 hD2 (fun z => by cases z)
        refine hB _ _ _ hD2 ⟨_, rfl, fun b o z => by rw [upd_ne (ne_of_none z hD)]; exact s2 _ _ (sa _ _ z), upd_same, ?_, by rw [List.length_append, al]; rfl⟩
        rw [List.take_succ, eu, List.map_append]
        refine dats_app (row_dats dd fun b ys z => ?_) (.cons (rowD_of (by rw [upd_ne nT]; exact hT2)) .nil)
        rw [upd_ne (ne_of z hDD (fun z => by cases z))]
        exact s2 _ _ z
      · rintro D σ H' acc hD ⟨v, rfl, sa, hDD, dd, al⟩
        rw [ul, List.take_length] at dd
        refine ⟨D, acc, rs, rfl, SqL.of hDD, dd, fun l vs' rs' hl d' pm rise => ?_⟩
        refine ⟨l, _, rfl, .inl ⟨SqL.of upd_same, fun T4 hT4 => ?_⟩⟩
        have s4 : Same H' (upd (upd H' l (.lst vs')) T4 (.tup vs')) := (same_upd hl).trans (same_upd hT4)
        have h4 : (upd (upd H' l (.lst vs')) T4 (.tup vs')) T4 = some (.tup vs') := upd_same
        have d4 := row_dats d' (fun b ys z => s4 _ _ z)
        generalize hH4 : upd (upd H' l (.lst vs')) T4 (.tup vs') = H4 at s4 h4 d4
        have vl := rows_len d'
        have rl := pm.length_eq
        refine ⟨_, rfl, T4, rfl, ⟨_, SqT.of h4⟩, ?_⟩
        refine read_map over_tup (xs := vs') (fun D i σ H' acc => ∃ v1 v2 : Option V, σ = [v1, v2] ∧ Same H4 H' ∧ H' D = some (.lst acc) ∧ acc = ((rs'.take i).map (·.1)).map V.str ∧ acc.length = i)
          (by omega) (fun D hD => ⟨_, _, rfl, same_upd hD, upd_same, rfl, rfl⟩)
          (fun D i σ H' acc hD ⟨v1, v2, _, sa, hDD, _, al⟩ => ⟨SqT.of (sa _ _ h4), hDD, al⟩) ?_ ?_
        · rintro D i σ H5 acc x B hD ex ⟨v1, v2, rfl, sa5, hDD, ea, al⟩ hB
          obtain ⟨u, t, eu, rfl, ht⟩ := dats_row d4 ex
          refine ⟨t, _, rfl, SqT.of (sa5 _ _ ht), rfl, _, _, rfl, _, _, rfl, rfl, _, rfl, ?_⟩
          refine hB _ _ _ hDD ⟨_, _, rfl, fun b o z => by rw [upd_ne (ne_of_none z hD)]; exact sa5 _ _ z, upd_same, ?_, by rw [List.length_append, al]; rfl⟩
          rw [ea, List.take_succ, eu, List.map_append, List.map_append]
          rfl
        · rintro D σ H5 acc hD ⟨v1, v2, rfl, sa5, hDD, ea, al⟩
          rw [vl, List.take_length] at ea
          have nd2 : (rs'.map (·.1)).Nodup := (ok.perm pm).nd
          refine ⟨D, rs'.map (·.1), rfl, by rw [hDD, ea], by rw [List.length_map]; omega, fun Z hZ => ?_⟩
          refine ⟨Z, _, _, rfl, upd_same, _, rfl, T4, vs', rfl, .inr (SqT.of (same_upd hZ _ _ (sa5 _ _ h4))), _, _, rfl, rfl, _, rfl, ?_⟩
          rw [dedup_nodup _ nd2, List.length_map, decide_eq_false (by omega)]
          refine iteF ⟨_, rfl, ?_⟩
          exact k _ T4 vs' rs' ((((s1.trans sa).trans s4).trans sa5).trans (same_upd hZ)) (same_upd hZ _ _ (sa5 _ _ h4)) (row_dats d4 fun b ys z => same_upd hZ _ _ (sa5 _ _ z)) pm rise
theorem ok_case_of (g_MOST_SITES : ∃ tk, mg "MOST_SITES" = some (.int 10 tk)) (g_MOST_FOLK : ∃ tk, mg "MOST_FOLK" = some (.int 30 tk)) {fW fR : Addr} {fdW fdR : FuncData} (XW : Fn K mg "is_whole_from" s_is_whole_from ["thing", "least"] fW fdW) (GW : FnOk P w K mg base CX0 2 fW fdW ["thing", "least"] spWholeFromI) (XR : Fn K mg "rows_of" s_rows_of ["web", "rows", "most", "least"] fR fdR) (GR : FnOk P w K mg base CX0 4 fR fdR ["web", "rows", "most", "least"] spRowsOf) {f : Addr} {fd : FuncData} (F : Fun K "case_of" "case_of" s_case_of f fd) : FnOk P w K mg base CX0 5 f fd ["web", "sites", "folk", "limit"] spCaseOf := by
  refine F.ok sc_case_of (fun vs H Q E h => ?_) (fun cdv A outer s H vs Q E hr h => ?_)
  · obtain ⟨m, e1, e2, x, d, xs, us1, us2, rs1, rs2, rfl, _⟩ := h
    rfl
  · obtain ⟨m, e1, e2, x, d, xs, us1, us2, rs1, rs2, rfl, lim, hm, hnm, he1, hd1, ok1, l1, he2, hd2, ok2, l2, k⟩ := h
    have nd := sc_case_of.nd
    have hu := hu_of hr
    have hu64 := hr.units
    have big : 100000 < sizeLine := by decide
    obtain ⟨tkS, g_MOST_SITES⟩ := g_MOST_SITES
    obtain ⟨tkF, g_MOST_FOLK⟩ := g_MOST_FOLK
    refine ⟨_, (pss_cons (ps_if (pw_and (pt_cmp (pc_notN (pv 3))) (pw_and1 (pt_not (pt_val (pe_call GW (hr.mono (by decide)) (by rfl) XW.mg XW.F.kp XW.b .nil pass0 (pa_cons (pv 3) (pa_cons pe_int pa_nil))))))).pt
    pss_never
    pss_nil)
    (pss_one (ps_ret (pe_tup (pa_cons (pv 0) (pa_cons (pe_call GR (hr.mono (by decide)) (by rfl) XR.mg XR.F.kp XR.b .nil pass0 (pa_cons (pv 0) (pa_cons (pv 1) (pa_cons (pe_glob (v := .int 10) (by rfl) g_MOST_SITES ⟨_, rfl⟩) (pa_cons pe_int pa_nil))))) (pa_cons (pe_call GR (hr.mono (by decide)) (by rfl) XR.mg XR.F.kp XR.b .nil pass0 (pa_cons (pv 0) (pa_cons (pv 2) (pa_cons (pe_glob (v := .int 30) (by rfl) g_MOST_FOLK ⟨_, rfl⟩) (pa_cons pe_int pa_nil))))) (pa_cons (pv 3) pa_nil)))))))), ?_⟩
    have l10 : ((rs1.length : Nat) : Int) ≤ 10 := by omega
    have l30 : ((rs2.length : Nat) : Int) ≤ 30 := by omega
    have last : (tRet (tTup (tCons (tVar 0) (tCons (tCall spRowsOf [] E0 (tCons (tVar 0) (tCons (tVar 1) (tCons (tC (.int 10)) (tCons (tC (.int 0)) tNil))))) (tCons (tCall spRowsOf [] E0 (tCons (tVar 0) (tCons (tVar 2) (tCons (tC (.int 30)) (tCons (tC (.int 1)) tNil))))) (tCons (tVar 3) tNil)))))) { nx := fun _ H' => Q .non H', rt := Q } [some (.ref m), some (.ref e1), some (.ref e2), some x] H := by
      refine ⟨_, rfl, _, rfl, _, rfl, m, e1, 10, 0, xs, us1, rs1, rfl, hm, hnm, he1, hd1, ok1, l10, by omega, fun H1 t1 us1' rs1' s1 h1 d1 p1 r1 => ?_⟩
      have he2' : H1 e2 = some (.lst us2) ∨ H1 e2 = some (.tup us2) := by
        rcases he2 with z | z
        · exact .inl (s1 _ _ z)
        · exact .inr (s1 _ _ z)
      refine ⟨_, rfl, _, rfl, m, e2, 30, 1, xs, us2, rs2, rfl, hm.same s1, hnm, he2', row_dats hd2 (fun b ys z => s1 _ _ z), ok2, l30, by omega, fun H2 t2 us2' rs2' s2 h2 d2 p2 r2 => ?_⟩
      refine ⟨_, rfl, (by show 4 ≤ sizeLine; omega), fun D hD => ?_⟩
      have s3 := same_upd (o := .tup [.ref m, .ref t1, .ref t2, x]) hD
      exact k _ D t1 t2 us1' us2' rs1' rs2' ((s1.trans s2).trans s3) upd_same (s3 _ _ (s2 _ _ h1)) (row_dats d1 fun b ys z => s3 _ _ (s2 _ _ z)) p1 r1 (s3 _ _ h2) (row_dats d2 fun b ys z => s3 _ _ z) p2 r2
    rcases lim with ⟨rfl, rfl⟩ | ⟨i, rfl, rfl, i1, i2⟩
    · exact ⟨_, rfl, _, rfl, iteF (iteF last)⟩
    · refine ⟨_, rfl, _, rfl, iteT ⟨_, rfl, i, 1, rfl, ?_⟩⟩
      rw [decide_eq_true i1]
      exact ⟨_, rfl, iteF last⟩
end
end K09
set_option maxRecDepth 100000
set_option maxHeartbeats 4000000
namespace K09
open PySem L2
section
variable {P : Program} {w : World} {K : PySem.W.Frag} {mg : Str → Option Value} {base : Heap}
/-- what case_of tells, held against what is due -/
theorem lawB (h_list : mg "list" = none) (h_repr : mg "repr" = none) (h_tuple : mg "tuple" = none) {fC : Addr} {fdC : FuncData} (XC : Fn K mg "case_of" s_case_of ["web", "sites", "folk", "limit"] fC fdC) (GC : FnOk P w K mg base CX0 5 fC fdC ["web", "sites", "folk", "limit"] spCaseOf)
    {f : Addr} {cdv : Value} {A : Around} {outer : List Env} {s : Shared} {H : Hp} {E : XK} (hr : Room 5 (A.deeper (PyProof.Rows.envOfC "law" (defScope s_law) s.heap.objs.size f cdv))) :
    ∃ t, PSs (cxOf CX0 P w K mg base ["_law_script", "_law_k", "_law_pen_here", "_law_many", "_law_map_here", "_law_sites", "_law_folk", "_law_limit", "_law_due", "_law_handed_here", "_law_found", "_law_changed", "_law_told"] "law" (defScope s_law) f cdv A outer s H E).nox
        ((forBody ((defBody s_law).getD 0 (.Pass ⟨0, 0, 0, 0⟩))).drop 8) t ∧
      ∀ (W : Ends) (H6 : Hp) (m S F0 U L e1 e2 : Addr) (n : Nat) (xs : List Str) (ws : List Way) (us1 us2 : List V) (rs1 rs2 rs1' rs2' : List Row) (x : V) (d : PyData) (v0 v1 v2 v3 v10 v11 v12 : Option V),
        MapAt H6 m n xs ws → n ≤ 30 → H6 S = some (.lst us1) → Dats H6 us1 (rs1.map rowD) → RowsOk xs 0 rs1 → rs1.length ≤ 10 → H6 F0 = some (.lst us2) → Dats H6 us2 (rs2.map rowD) → RowsOk xs 1 rs2 → rs2.length ≤ 30 → Lim x d →
        CaseAt H6 U xs ws rs1' rs2' d → rs1'.Perm rs1 → RiseR rs1' → rs2'.Perm rs2 → RiseR rs2' → H6 L = some (.lst [.ref e1, .ref e2]) → (H6 e1 = some (.lst us1) ∨ H6 e1 = some (.tup us1)) → (H6 e2 = some (.lst us2) ∨ H6 e2 = some (.tup us2)) →
        (∀ (H7 : Hp) (v10 v11 v12 : Option V), Same H6 H7 → W.nx [v0, v1, v2, v3, some (.ref m), some (.ref S), some (.ref F0), some x, some (.ref U), some (.ref L), v10, v11, v12] H7) →
        t W [v0, v1, v2, v3, some (.ref m), some (.ref S), some (.ref F0), some x, some (.ref U), some (.ref L), v10, v11, v12] H6 := by
  have nd := sc_law.nd
  have hu64 := hr.units
  have big : 100000 < sizeLine := by decide
  refine ⟨_, (pss_cons (ps_set (i := 10) nd rfl (Or.inl rfl) (pe_call GC hr (by rfl) XC.mg XC.F.kp XC.b .nil pass0 (pa_cons (pv 4) (pa_cons (pe_ix ix_list (pv 9) pe_int (fun _ _ => rfl)) (pa_cons (pe_ix ix_list (pv 9) pe_int (fun _ _ => rfl)) (pa_cons (pv 7) pa_nil))))))
    (pss_cons (ps_if (pw_or (pt_cmpR op_ne (pe_callB (call_repr hr.gd hu64) (by rfl) h_repr PyProof.Rows.boot_repr (pa_cons (pv 10) pa_nil)) (pe_callB (call_repr hr.gd hu64) (by rfl) h_repr PyProof.Rows.boot_repr (pa_cons (pv 8) pa_nil)) (nomark _)) (pw_or (pt_cmpR (op_ne_dat hu64) (pe_callTy call_list_of (by rfl) h_list PyProof.Rows.boot_list (pa_cons (pe_ix ix_list (pv 9) pe_int (fun _ _ => rfl)) pa_nil)) (pv 5) (nomark _)) (pw_or1 (pt_cmpR (op_ne_dat hu64) (pe_callTy call_list_of (by rfl) h_list PyProof.Rows.boot_list (pa_cons (pe_ix ix_list (pv 9) pe_int (fun _ _ => rfl)) pa_nil)) (pv 6) (nomark _))))).pt
    (pss_one (ps_ret pe_bl))
    pss_nil)
    (pss_cons (ps_set (i := 11) nd rfl (Or.inl rfl) (pe_callTy call_list_of (by rfl) h_list PyProof.Rows.boot_list (pa_cons (pv 5) pa_nil)))
    (pss_cons (ps_if (pt_cmpR (op_ne_dat hu64) (pe_call GC hr (by rfl) XC.mg XC.F.kp XC.b .nil pass0 (pa_cons (pv 4) (pa_cons (pv 11) (pa_cons (pv 6) (pa_cons (pv 7) pa_nil))))) (pv 8) (nomark _))
    (pss_one (ps_ret pe_bl))
    pss_nil)
    (pss_cons (ps_set (i := 12) nd rfl (Or.inl rfl) (pe_call GC hr (by rfl) XC.mg XC.F.kp XC.b .nil pass0 (pa_cons (pv 4) (pa_cons (pv 11) (pa_cons (pe_callTy call_tuple_of (by rfl) h_tuple PyProof.Rows.boot_tuple (pa_cons (pv 6) pa_nil)) (pa_cons (pv 7) pa_nil))))))
    (pss_cons (ps_expr (pe_bm0 PySem.F.plainAttrs_list PySem.F.slot_list_clear PySem.F.type_list_clear mt_clear (pv 11)))
    (pss_one (ps_if (pw_or (pt_cmpR op_ne (pe_callB (call_repr hr.gd hu64) (by rfl) h_repr PyProof.Rows.boot_repr (pa_cons (pv 12) pa_nil)) (pe_callB (call_repr hr.gd hu64) (by rfl) h_repr PyProof.Rows.boot_repr (pa_cons (pv 8) pa_nil)) (nomark _)) (pw_or1 (pt_cmpR op_ne (pe_callB (call_repr hr.gd hu64) (by rfl) h_repr PyProof.Rows.boot_repr (pa_cons (pe_call GC hr (by rfl) XC.mg XC.F.kp XC.b .nil pass0 (pa_cons (pv 4) (pa_cons (pe_callTy call_tuple_of (by rfl) h_tuple PyProof.Rows.boot_tuple (pa_cons (pv 5) pa_nil)) (pa_cons (pv 6) (pa_cons (pv 7) pa_nil))))) pa_nil)) (pe_callB (call_repr hr.gd hu64) (by rfl) h_repr PyProof.Rows.boot_repr (pa_cons (pv 8) pa_nil)) (nomark _)))).pt
    (pss_one (ps_ret pe_bl))
    pss_nil)))))))), ?_⟩
  intro W H6 m S F0 U L e1 e2 n xs ws us1 us2 rs1 rs2 rs1' rs2' x d v0 v1 v2 v3 v10 v11 v12 hM hn hS d1 o1 l1 hF d2 o2 l2 lim hU p1 r1 p2 r2 hL he1 he2 k
  have fin : Fine (caseD xs ws rs1' rs2' d) 4 60000 := fine_case hM.nm (by rw [hM.len]; exact hn) hM.wl hM.wn (o1.perm p1) (o2.perm p2) (by decide) (by decide) (by rw [p1.length_eq]; omega) (by rw [p2.length_eq]; omega) lim
  have fl := fin.len (Nat.le_refl _)
  have fd4 : (caseD xs ws rs1' rs2' d).depth ≤ 60 := Nat.le_trans fin.dp (by decide)
  have f1 := fine_rowsL o1 (by decide) hM.nm
  have f2 := fine_rowsL o2 (by decide) hM.nm
  have same2 : ∀ {H H' : Hp} {e : Addr} {us : List V}, Same H H' → (H e = some (.lst us) ∨ H e = some (.tup us)) → (H' e = some (.lst us) ∨ H' e = some (.tup us)) := fun sm h => by
    rcases h with h | h
    · exact .inl (sm _ _ h)
    · exact .inr (sm _ _ h)
  have told : ∀ {H7 : Hp} {D t1 t2 : Addr} {q1 q2 : List V} {qs1 qs2 : List Row}, Same H6 H7 → H7 D = some (.tup [.ref m, .ref t1, .ref t2, x]) → H7 t1 = some (.tup q1) → Dats H7 q1 (qs1.map rowD) → qs1.Perm rs1 → RiseR qs1 → H7 t2 = some (.tup q2) → Dats H7 q2 (qs2.map rowD) → qs2.Perm rs2 → RiseR qs2 → CaseAt H7 D xs ws rs1' rs2' d := by
    intro H7 D t1 t2 q1 q2 qs1 qs2 sm hD h1 e1 a1 b1 h2 e2 a2 b2
    have z1 : qs1 = rs1' := riseR_one (a1.trans p1.symm) b1 r1
    have z2 : qs2 = rs2' := riseR_one (a2.trans p2.symm) b2 r2
    subst z1 z2
    exact hM.case sm hD h1 e1 h2 e2 lim
  -- found
  refine ⟨_, rfl, _, rfl, L, _, _, _, rfl, rfl, SqL.of hL, rfl, _, rfl, L, _, _, _, rfl, rfl, SqL.of hL, rfl, _, rfl, m, e1, e2, x, d, xs, us1, us2, rs1, rs2, rfl, lim, hM.places, hM.nm, he1, d1, o1, l1, he2, d2, o2, l2, fun H7 D t1 t2 q1 q2 qs1 qs2 s7 hD h1 a1 b1 c1 h2 a2 b2 c2 => ?_⟩
  have cD := told s7 hD h1 a1 b1 c1 h2 a2 b2 c2
  have cU := hU.keep fun b ys z => s7 _ _ z
  refine ⟨_, rfl, D, _, rfl, cD.dat, fin.sho, fin.nod, fd4, fl, _, rfl, U, _, rfl, cU.dat, fin.sho, fin.nod, fd4, fl, rfl, _, rfl, ?_⟩
  refine ite2 (fun z => by simp at z) (fun _ => ?_)
  refine ⟨_, rfl, L, _, _, _, rfl, rfl, SqL.of (s7 _ _ hL), rfl, e1, us1, rfl, ?_, fun l8 hl8 => ?_⟩
  · rcases same2 s7 he1 with z | z
    · exact .inl (SqL.of z)
    · exact .inr (SqT.of z)
  have s8 := same_upd (o := .lst us1) hl8
  have x8 := s7.trans s8
  refine ⟨_, rfl, .list (rs1.map rowD), .list (rs1.map rowD), .lst upd_same (row_dats d1 fun b ys z => x8 _ _ z), .lst (x8 _ _ hS) (row_dats d1 fun b ys z => x8 _ _ z), f1.lay, f1.lay, Nat.le_trans f1.dp (by decide), _, rfl, ?_⟩
  rw [eqv_one _ f1.lay]
  refine iteF ?_
  refine ⟨_, rfl, L, _, _, _, rfl, rfl, SqL.of (x8 _ _ hL), rfl, e2, us2, rfl, ?_, fun l9 hl9 => ?_⟩
  · rcases same2 x8 he2 with z | z
    · exact .inl (SqL.of z)
    · exact .inr (SqT.of z)
  have s9 := same_upd (o := .lst us2) hl9
  have x9 := x8.trans s9
  refine ⟨_, rfl, .list (rs2.map rowD), .list (rs2.map rowD), .lst upd_same (row_dats d2 fun b ys z => x9 _ _ z), .lst (x9 _ _ hF) (row_dats d2 fun b ys z => x9 _ _ z), f2.lay, f2.lay, Nat.le_trans f2.dp (by decide), _, rfl, ?_⟩
  rw [eqv_one _ f2.lay]
  refine iteF ?_
  -- changed
  generalize hH9 : upd (upd H7 l8 (.lst us1)) l9 (.lst us2) = H9 at x9
  refine ⟨_, rfl, S, us1, rfl, .inl (SqL.of (x9 _ _ hS)), fun C hC => ?_⟩
  have sC := same_upd (o := .lst us1) hC
  have xC := x9.trans sC
  have fC6 : H6 C = none := by
    cases z : H6 C with
    | none => rfl
    | some o => rw [x9 _ _ z] at hC; cases hC
  have hCC : (upd H9 C (.lst us1)) C = some (.lst us1) := upd_same
  generalize hHC : upd H9 C (.lst us1) = HC at xC hCC
  refine ⟨_, rfl, _, rfl, _, rfl, _, rfl, m, C, F0, x, d, xs, us1, us2, rs1, rs2, rfl, lim, hM.places.same xC, hM.nm, .inl hCC, row_dats d1 (fun b ys z => xC _ _ z), o1, l1, .inl (xC _ _ hF), row_dats d2 (fun b ys z => xC _ _ z), o2, l2, fun HA D2 t1 t2 q1 q2 qs1 qs2 sA hD2 h1 a1 b1 c1 h2 a2 b2 c2 => ?_⟩
  have xA := xC.trans sA
  have cD2 := told xA hD2 h1 a1 b1 c1 h2 a2 b2 c2
  refine ⟨_, rfl, _, _, cD2.dat, (hU.keep fun b ys z => xA _ _ z).dat, fin.lay, fin.lay, fd4, _, rfl, ?_⟩
  rw [eqv_one _ fin.lay]
  refine iteF ?_
  -- told
  refine ⟨_, rfl, _, rfl, _, rfl, F0, us2, rfl, .inl ⟨SqL.of (xA _ _ hF), fun T hT => ?_⟩⟩
  have sT := same_upd (o := .tup us2) hT
  have xT := xA.trans sT
  have hTT : (upd HA T (.tup us2)) T = some (.tup us2) := upd_same
  have hCT := sT _ _ (sA _ _ hCC)
  generalize hHT : upd HA T (.tup us2) = HT at xT hTT hCT
  refine ⟨_, rfl, m, C, T, x, d, xs, us1, us2, rs1, rs2, rfl, lim, hM.places.same xT, hM.nm, .inl hCT, row_dats d1 (fun b ys z => xT _ _ z), o1, l1, .inr hTT, row_dats d2 (fun b ys z => xT _ _ z), o2, l2, fun HB D3 t1 t2 q1 q2 qs1 qs2 sB hD3 h1 a1 b1 c1 h2 a2 b2 c2 => ?_⟩
  have xB := xT.trans sB
  have cD3 := told xB hD3 h1 a1 b1 c1 h2 a2 b2 c2
  have hCB := sB _ _ hCT
  -- changed.clear()
  refine ⟨_, rfl, .inl ⟨rfl, _, SqL.of hCB⟩, C, us1, rfl, rfl, hCB, ?_⟩
  have xD : Same H6 (upd HB C (.lst [])) := fun b o z => by rw [upd_ne (ne_of_none z fC6)]; exact xB _ _ z
  have tD : ∀ b ys, HB b = some (.tup ys) → (upd HB C (.lst [])) b = some (.tup ys) := fun b ys z => by rw [upd_ne (ne_of z hCB (fun y => by cases y))]; exact z
  have cD4 := cD3.keep tD
  generalize hHD : upd HB C (.lst []) = HD at xD cD4
  refine ⟨_, rfl, D3, _, rfl, cD4.dat, fin.sho, fin.nod, fd4, fl, _, rfl, U, _, rfl, (hU.keep fun b ys z => xD _ _ z).dat, fin.sho, fin.nod, fd4, fl, rfl, _, rfl, ?_⟩
  refine ite2 (fun z => by simp at z) (fun _ => ?_)
  refine ⟨_, rfl, _, rfl, S, us1, rfl, .inl ⟨SqL.of (xD _ _ hS), fun T5 hT5 => ?_⟩⟩
  have s5 := same_upd (o := .tup us1) hT5
  have x5 := xD.trans s5
  have hT55 : (upd HD T5 (.tup us1)) T5 = some (.tup us1) := upd_same
  generalize hH5 : upd HD T5 (.tup us1) = H5 at x5 hT55
  refine ⟨_, rfl, _, rfl, m, T5, F0, x, d, xs, us1, us2, rs1, rs2, rfl, lim, hM.places.same x5, hM.nm, .inr hT55, row_dats d1 (fun b ys z => x5 _ _ z), o1, l1, .inl (x5 _ _ hF), row_dats d2 (fun b ys z => x5 _ _ z), o2, l2, fun HE D5 t1 t2 q1 q2 qs1 qs2 sE hD5 h1 a1 b1 c1 h2 a2 b2 c2 => ?_⟩
  have xE := x5.trans sE
  have cD5 := told xE hD5 h1 a1 b1 c1 h2 a2 b2 c2
  refine ⟨D5, _, rfl, cD5.dat, fin.sho, fin.nod, fd4, fl, _, rfl, U, _, rfl, (hU.keep fun b ys z => xE _ _ z).dat, fin.sho, fin.nod, fd4, fl, rfl, _, rfl, ?_⟩
  refine ite2 (fun z => by simp at z) (fun _ => ?_)
  exact k _ _ _ _ xE
end
end K09
set_option Elab.async false
set_option linter.all false
set_option maxRecDepth 100000
set_option maxHeartbeats 4000000
namespace K09
open PySem L2
def spLaw (K : PySem.W.Frag) : Sp := fun vs H Q _ => ∃ (a : Addr) (ns : List Int), vs = [.ref a] ∧ Scr K H a (ns.map V.int) ∧ ns.length ≤ 63 ∧ ∀ H', Q (.bl true) H'
section
variable {P : Program} {w : World} {K : PySem.W.Frag} {mg : Str → Option Value} {base : Heap}
theorem ok_law (h_int : mg "int" = none) (h_len : mg "len" = none) (h_list : mg "list" = none) (h_max : mg "max" = none) (h_min : mg "min" = none) (h_range : mg "range" = none) (h_repr : mg "repr" = none) (h_sorted : mg "sorted" = none) (h_tuple : mg "tuple" = none)
    {fE fT fM fR fG fH fC f : Addr} {fdE fdT fdM fdR fdG fdH fdC fd : FuncData} (XE : Fn K mg "_law_pen" s_law_pen ["_law_script", "_law_k"] fE fdE) (GE : FnOk P w K mg base CX0 1 fE fdE ["_law_script", "_law_k"] (spPenL K)) (DK : DrawF K mg fT fdT)
    (XM : MapF K mg fM fdM) (GM : FnOk P w K mg base CX0 3 fM fdM ["_law_pen_here", "_law_many"] spMapL) (XR : Fn K mg "_law_rows" s_law_rows ["_law_pen_here", "_law_places", "_law_most", "_law_least"] fR fdR) (GR : FnOk P w K mg base CX0 3 fR fdR ["_law_pen_here", "_law_places", "_law_most", "_law_least"] (spRowsL K))
    (XG : GreatF K mg fG fdG) (GG : FnOk P w K mg base CX0 2 fG fdG ["_law_pen_here", "_law_least", "_law_size"] spGreat) (XH : Fn K mg "_law_handed" s_law_handed ["_law_pen_here", "_law_rows_here"] fH fdH) (GH : FnOk P w K mg base CX0 2 fH fdH ["_law_pen_here", "_law_rows_here"] spHanded)
    (XC : Fn K mg "case_of" s_case_of ["web", "sites", "folk", "limit"] fC fdC) (GC : FnOk P w K mg base CX0 5 fC fdC ["web", "sites", "folk", "limit"] spCaseOf)
    (F : Fun K "law" "law" s_law f fd) : FnOk P w K mg base CX0 6 f fd ["_law_script"] (spLaw K) := by
  have GT : FnOk P w K mg base CX0 1 fT fdT ["_law_pen_here", "_law_many"] spDraw := DK.ok
  refine F.ok sc_law (fun vs H Q E h => ?_) (fun cdv A outer s H vs Q E hr h => ?_)
  · obtain ⟨a, ns, rfl, _⟩ := h
    rfl
  · obtain ⟨a, ns, rfl, hS, hlen, k⟩ := h
    have nd := sc_law.nd
    have hu := hu_of hr
    have hu64 := hr.units
    have big : 100000 < sizeLine := by decide
    obtain ⟨tB, hB, kB⟩ := lawB (P := P) (w := w) (K := K) (mg := mg) (base := base) h_list h_repr h_tuple XC GC (f := f) (cdv := cdv) (A := A) (outer := outer) (s := s) (H := H) (E := E) hr
    refine ⟨_, (pss_cons (ps_for PassesOwn.never rfl (pi_range1 (by rfl) h_range (pa_cons (pe_callB (call_max2 rfl) (by rfl) h_max PyProof.Rows.boot_max (pa_cons pe_int (pa_cons (pe_callB (call_min2 rfl) (by rfl) h_min PyProof.Rows.boot_min (pa_cons pe_int (pa_cons (pe_callB call_len_seq (by rfl) h_len PySem.boot_len (pa_cons (pv 0) pa_nil)) pa_nil))) pa_nil))) pa_nil)) (pg_name (i := 1) nd rfl (Or.inl rfl))
    (pss_cons (ps_set (i := 2) nd rfl (Or.inl rfl) (pe_call GE (hr.mono (by decide)) (by rfl) XE.mg XE.F.kp XE.b .nil pass0 (pa_cons (pv 0) (pa_cons (pv 1) pa_nil))))
    (pss_cons (ps_set (i := 3) nd rfl (Or.inl rfl) (pe_ix ix_list (pe_lst (pa_cons (pe_op op_add pe_int (pe_call GT (hr.mono (by decide)) (by rfl) DK.mg DK.F.kp DK.b .nil pass0 (pa_cons (pv 2) (pa_cons pe_int pa_nil)))) (pa_cons pe_int pa_nil))) (pe_callTy call_int1 (by rfl) h_int PyProof.Rows.boot_int (pa_cons (pe_cmpR op_eq (pe_call GT (hr.mono (by decide)) (by rfl) DK.mg DK.F.kp DK.b .nil pass0 (pa_cons (pv 2) (pa_cons pe_int pa_nil))) pe_int (nomark _)) pa_nil)) (fun _ _ => rfl)))
    (pss_cons (ps_set (i := 4) nd rfl (Or.inl rfl) (pe_call GM (hr.mono (by decide)) (by rfl) XM.mg XM.F.kp XM.b .nil pass0 (pa_cons (pv 2) (pa_cons (pv 3) pa_nil))))
    (pss_cons (ps_set (i := 5) nd rfl (Or.inl rfl) (pe_call GR (hr.mono (by decide)) (by rfl) XR.mg XR.F.kp XR.b .nil pass0 (pa_cons (pv 2) (pa_cons (pe_ix ix_tup (pv 4) pe_int (fun _ _ => rfl)) (pa_cons pe_int (pa_cons pe_int pa_nil))))))
    (pss_cons (ps_set (i := 6) nd rfl (Or.inl rfl) (pe_call GR (hr.mono (by decide)) (by rfl) XR.mg XR.F.kp XR.b .nil pass0 (pa_cons (pv 2) (pa_cons (pe_ix ix_tup (pv 4) pe_int (fun _ _ => rfl)) (pa_cons pe_int (pa_cons pe_int pa_nil))))))
    (pss_cons (ps_set (i := 7) nd rfl (Or.inl rfl) (pe_ix ix_list (pe_lst (pa_cons pe_non (pa_cons (pe_op op_add pe_int (pe_call GT (hr.mono (by decide)) (by rfl) DK.mg DK.F.kp DK.b .nil pass0 (pa_cons (pv 2) (pa_cons pe_int pa_nil)))) (pa_cons (pe_call GG (hr.mono (by decide)) (by rfl) XG.mg XG.F.kp XG.b .nil pass0 (pa_cons (pv 2) (pa_cons pe_int (pa_cons pe_int pa_nil)))) pa_nil)))) (pe_call GT (hr.mono (by decide)) (by rfl) DK.mg DK.F.kp DK.b .nil pass0 (pa_cons (pv 2) (pa_cons pe_int pa_nil))) (fun _ _ => rfl)))
    (pss_cons (ps_set (i := 8) nd rfl (Or.inl rfl) (pe_tup (pa_cons (pv 4) (pa_cons (pe_callTy call_tuple_of (by rfl) h_tuple PyProof.Rows.boot_tuple (pa_cons (pe_callB call_sorted_rows (by rfl) h_sorted PyProof.Rows.boot_sorted (pa_cons (pv 5) pa_nil)) pa_nil)) (pa_cons (pe_callTy call_tuple_of (by rfl) h_tuple PyProof.Rows.boot_tuple (pa_cons (pe_callB call_sorted_rows (by rfl) h_sorted PyProof.Rows.boot_sorted (pa_cons (pv 6) pa_nil)) pa_nil)) (pa_cons (pv 7) pa_nil))))))
    (pss_cons (ps_set (i := 9) nd rfl (Or.inl rfl) (pe_lst (pa_cons (pe_call GH (hr.mono (by decide)) (by rfl) XH.mg XH.F.kp XH.b .nil pass0 (pa_cons (pv 2) (pa_cons (pv 5) pa_nil))) (pa_cons (pe_call GH (hr.mono (by decide)) (by rfl) XH.mg XH.F.kp XH.b .nil pass0 (pa_cons (pv 2) (pa_cons (pv 6) pa_nil))) pa_nil))))
    hB)))))))))
    (pss_one (ps_ret pe_bl))), ?_⟩
    refine ⟨_, rfl, a, _, rfl, .inl hS.sq, _, _, rfl, _, _, rfl, _, rfl, ?_, ?_, ?_⟩
    · split <;> split <;> omega
    · rw [List.length_map]
      split <;> split <;> omega
    refine for_range (lo := 0) (fun _ σ H' => ∃ (v1 v2 v3 v4 v5 v6 v7 v8 v9 v10 v11 v12 : Option V), σ = [some (.ref a), v1, v2, v3, v4, v5, v6, v7, v8, v9, v10, v11, v12] ∧ Scr K H' a (ns.map V.int)) ⟨_, _, _, _, _, _, _, _, _, _, _, _, rfl, hS⟩ ?_ (fun σ H' _ => k H')
    rintro j σ H0 hj ⟨v1, v2, v3, v4, v5, v6, v7, v8, v9, v10, v11, v12, rfl, S0⟩
    refine ⟨_, rfl, _, rfl, a, ns, 0 + (j : Int), rfl, S0, by omega, fun p y0 y1 hp => ?_⟩
    have P1 : PnAt (upd H0 p (.lst (penL y0 y1 0))) p := PnAt.set _ _ _
    have q1 : Same H0 (upd H0 p (.lst (penL y0 y1 0))) := same_upd hp
    generalize upd H0 p (.lst (penL y0 y1 0)) = H1 at P1 q1
    -- many
    refine ⟨_, rfl, p, 9, rfl, P1, by decide, by decide, fun d1 a1 b1 c1 d10 d11 => ⟨_, _, rfl, rfl, (by show 2 ≤ sizeLine; omega), fun L hL => ?_⟩⟩
    have P2 : PnAt (upd (upd H1 p (.lst (penL a1 b1 c1))) L (.lst [.int (1 + d1), .int 30])) p := (PnAt.set a1 b1 c1).other ((PnAt.set (H := H1) a1 b1 c1).ne hL)
    have nL : L ≠ p := (PnAt.set (H := H1) (p := p) a1 b1 c1).ne hL
    have q2 : Keep p H1 (upd (upd H1 p (.lst (penL a1 b1 c1))) L (.lst [.int (1 + d1), .int 30])) := Keep.upd.trans (Keep.of_same (same_upd hL))
    refine ⟨_, rfl, p, 5, rfl, P2, by decide, by decide, fun d2 a2 b2 c2 d20 d21 => ⟨rfl, .inr ⟨_, rfl, ?_⟩⟩⟩
    obtain ⟨n, hv, n1, n30⟩ : ∃ n : Nat, atI [V.int (1 + d1), V.int 30] (if decide (V.int d2 = V.int 4) = true then 1 else 0) = some (.int (n : Int)) ∧ 1 ≤ n ∧ n ≤ 30 := by
      by_cases z : decide (V.int d2 = V.int 4) = true
      · rw [if_pos z]
        exact ⟨30, rfl, by decide, by decide⟩
      · rw [if_neg z]
        obtain ⟨n, e⟩ : ∃ n : Nat, 1 + d1 = (n : Int) := ⟨(1 + d1).toNat, by omega⟩
        rw [e]
        exact ⟨n, rfl, by omega, by omega⟩
    have P3 : PnAt (upd (upd (upd H1 p (.lst (penL a1 b1 c1))) L (.lst [.int (1 + d1), .int 30])) p (.lst (penL a2 b2 c2))) p := PnAt.set _ _ _
    have q3 : Keep p H1 (upd (upd (upd H1 p (.lst (penL a1 b1 c1))) L (.lst [.int (1 + d1), .int 30])) p (.lst (penL a2 b2 c2))) := q2.trans Keep.upd
    have hLL : (upd (upd (upd H1 p (.lst (penL a1 b1 c1))) L (.lst [.int (1 + d1), .int 30])) p (.lst (penL a2 b2 c2))) L = some (.lst [.int (1 + d1), .int 30]) := by rw [upd_ne nL, upd_same]
    generalize upd (upd (upd H1 p (.lst (penL a1 b1 c1))) L (.lst [.int (1 + d1), .int 30])) p (.lst (penL a2 b2 c2)) = H3 at P3 q3 hLL
    refine ⟨L, _, _, _, rfl, rfl, SqL.of hLL, hv, ?_⟩
    -- map
    refine ⟨_, rfl, _, rfl, p, n, rfl, P3, n1, n30, fun H4 m xs ws P4 q4 hM => ?_⟩
    obtain ⟨ta, tb, mvs, hm1, hm2, hm3, hm4⟩ := hM.ex
    have xl := hM.len
    -- sites
    refine ⟨_, rfl, _, rfl, m, _, _, _, rfl, rfl, SqT.of hm1, rfl, p, ta, xs, 10, 0, rfl, P4, SqT.of hm2, hM.nd, by omega, by omega, by decide, by decide, by decide, by decide, fun H5 S us1 rs1 P5 q5 nS hS5 dS okS lS => ?_⟩
    have t5 := tupK P4 q5
    -- folk
    refine ⟨_, rfl, _, rfl, m, _, _, _, rfl, rfl, SqT.of (t5 _ _ hm1), rfl, p, ta, xs, 30, 1, rfl, P5, SqT.of (t5 _ _ hm2), hM.nd, by omega, by omega, by decide, by decide, by decide, by decide, fun H6 F0 us2 rs2 P6 q6 nF hF6 dF okF lF => ?_⟩
    have t6 := tupK P5 q6
    -- limit
    refine ⟨_, rfl, p, 12, rfl, P6, by decide, by decide, fun d3 a3 b3 c3 d30 d31 => ⟨_, _, rfl, rfl, ?_⟩⟩
    refine ⟨_, rfl, p, 1, 3, rfl, PnAt.set _ _ _, by decide, by decide, by decide, by decide, fun l3 a4 b4 c4 l30 l31 => ?_⟩
    refine ⟨(by show 3 ≤ sizeLine; omega), fun L2 hL2 => ?_⟩
    have P7 : PnAt (upd (upd H6 p (.lst (penL a3 b3 c3))) p (.lst (penL a4 b4 c4))) p := PnAt.set _ _ _
    have nL2 : L2 ≠ p := P7.ne hL2
    refine ⟨_, rfl, p, 3, rfl, P7.other nL2, by decide, by decide, fun d4 a5 b5 c5 d40 d41 => ?_⟩
    have q7 : Keep p H6 (upd (upd (upd (upd H6 p (.lst (penL a3 b3 c3))) p (.lst (penL a4 b4 c4))) L2 (.lst [.non, .int (1 + d3), .int l3])) p (.lst (penL a5 b5 c5))) := ((Keep.upd.trans Keep.upd).trans (Keep.of_same (same_upd hL2))).trans Keep.upd
    have hL7 : (upd (upd (upd (upd H6 p (.lst (penL a3 b3 c3))) p (.lst (penL a4 b4 c4))) L2 (.lst [.non, .int (1 + d3), .int l3])) p (.lst (penL a5 b5 c5))) L2 = some (.lst [.non, .int (1 + d3), .int l3]) := by rw [upd_ne nL2, upd_same]
    have P8 : PnAt (upd (upd (upd (upd H6 p (.lst (penL a3 b3 c3))) p (.lst (penL a4 b4 c4))) L2 (.lst [.non, .int (1 + d3), .int l3])) p (.lst (penL a5 b5 c5))) p := PnAt.set _ _ _
    generalize upd (upd (upd (upd H6 p (.lst (penL a3 b3 c3))) p (.lst (penL a4 b4 c4))) L2 (.lst [.non, .int (1 + d3), .int l3])) p (.lst (penL a5 b5 c5)) = H7 at q7 hL7 P8
    obtain ⟨x, dx, hx, lim⟩ : ∃ (x : V) (dx : PyData), atI [V.non, .int (1 + d3), .int l3] d4 = some x ∧ Lim x dx := by
      have : d4 = 0 ∨ d4 = 1 ∨ d4 = 2 := by omega
      rcases this with rfl | rfl | rfl
      · exact ⟨_, _, rfl, .inl ⟨rfl, rfl⟩⟩
      · exact ⟨_, _, rfl, .inr ⟨_, rfl, rfl, by omega, by omega⟩⟩
      · exact ⟨_, _, rfl, .inr ⟨_, rfl, rfl, l30, l31⟩⟩
    refine ⟨L2, _, _, x, rfl, rfl, SqL.of hL7, hx, ?_⟩
    have t7 := tupK P6 q7
    have hS7 := q7 _ _ nS (q6 _ _ nS hS5)
    have dS7 : Dats H7 us1 (rs1.map rowD) := row_dats dS fun b ys z => t7 _ _ (t6 _ _ z)
    have hF7 := q7 _ _ nF hF6
    have dF7 : Dats H7 us2 (rs2.map rowD) := row_dats dF t7
    have hM7 := (hM.keepT t5).keepT (fun b ys z => t7 _ _ (t6 _ _ z))
    -- due
    refine ⟨_, rfl, _, rfl, S, us1, rs1, rfl, SqL.of hS7, dS7, fun l1 ws1 rs1' hl1 dd1 pm1 ri1 => ⟨l1, _, rfl, .inl ⟨SqL.of upd_same, fun T1 hT1 => ?_⟩⟩⟩
    have s1 : Same H7 (upd (upd H7 l1 (.lst ws1)) T1 (.tup ws1)) := (same_upd hl1).trans (same_upd hT1)
    have hT1' : (upd (upd H7 l1 (.lst ws1)) T1 (.tup ws1)) T1 = some (.tup ws1) := upd_same
    have pT : PnAt (upd (upd H7 l1 (.lst ws1)) T1 (.tup ws1)) p := by obtain ⟨_, _, _, z⟩ := P8; exact ⟨_, _, _, s1 _ _ z⟩
    generalize upd (upd H7 l1 (.lst ws1)) T1 (.tup ws1) = H8 at s1 hT1' pT
    refine ⟨_, rfl, F0, us2, rs2, rfl, SqL.of (s1 _ _ hF7), row_dats dF7 (fun b ys z => s1 _ _ z), fun l2 ws2 rs2' hl2 dd2 pm2 ri2 => ⟨l2, _, rfl, .inl ⟨SqL.of upd_same, fun T2 hT2 => ?_⟩⟩⟩
    have s2 : Same H8 (upd (upd H8 l2 (.lst ws2)) T2 (.tup ws2)) := (same_upd hl2).trans (same_upd hT2)
    have hT2' : (upd (upd H8 l2 (.lst ws2)) T2 (.tup ws2)) T2 = some (.tup ws2) := upd_same
    generalize upd (upd H8 l2 (.lst ws2)) T2 (.tup ws2) = H9 at s2 hT2'
    refine ⟨_, rfl, (by show 4 ≤ sizeLine; omega), fun U hU => ?_⟩
    have s3 := same_upd (o := .tup [.ref m, .ref T1, .ref T2, x]) hU
    have hUU : (upd H9 U (.tup [.ref m, .ref T1, .ref T2, x])) U = some (.tup [.ref m, .ref T1, .ref T2, x]) := upd_same
    generalize upd H9 U (.tup [.ref m, .ref T1, .ref T2, x]) = HU at s3 hUU
    have s13 : Same H7 HU := (s1.trans s2).trans s3
    have cU : CaseAt HU U xs ws rs1' rs2' dx := hM7.case s13 hUU (s3 _ _ (s2 _ _ hT1')) (row_dats dd1 fun b ys z => s13 _ _ z) (s3 _ _ hT2') (row_dats dd2 fun b ys z => s3 _ _ (s2 _ _ z)) lim
    have PU : PnAt HU p := by obtain ⟨_, _, _, z⟩ := P8; exact ⟨_, _, _, s13 _ _ z⟩
    -- handed
    refine ⟨_, rfl, _, rfl, p, S, us1, rfl, PU, nS, s13 _ _ hS7, fun HA e1 PA qA ne1 he1 => ?_⟩
    have tA := tupK PU qA
    refine ⟨_, rfl, _, rfl, p, F0, us2, rfl, PA, nF, qA _ _ nF (s13 _ _ hF7), fun HB e2 PB qB ne2 he2 => ?_⟩
    have tB := tupK PA qB
    refine ⟨(by show 2 ≤ sizeLine; omega), fun LL hLL => ?_⟩
    have s4 := same_upd (o := .lst [.ref e1, .ref e2]) hLL
    have tAll : ∀ b ys, H7 b = some (.tup ys) → (upd HB LL (.lst [.ref e1, .ref e2])) b = some (.tup ys) := fun b ys z => s4 _ _ (tB _ _ (tA _ _ (s13 _ _ z)))
    have he1' : (upd HB LL (.lst [.ref e1, .ref e2])) e1 = some (.lst us1) ∨ (upd HB LL (.lst [.ref e1, .ref e2])) e1 = some (.tup us1) := by
      rcases he1 with z | z
      · exact .inl (s4 _ _ (qB _ _ ne1 z))
      · exact .inr (s4 _ _ (qB _ _ ne1 z))
    have he2' : (upd HB LL (.lst [.ref e1, .ref e2])) e2 = some (.lst us2) ∨ (upd HB LL (.lst [.ref e1, .ref e2])) e2 = some (.tup us2) := by
      rcases he2 with z | z
      · exact .inl (s4 _ _ z)
      · exact .inr (s4 _ _ z)
    refine kB _ _ m S F0 U LL e1 e2 n xs ws us1 us2 rs1 rs2 rs1' rs2' x dx _ _ _ _ _ _ _ (hM7.keepT tAll) n30 (s4 _ _ (qB _ _ nS (qA _ _ nS (s13 _ _ hS7)))) (row_dats dS7 tAll) okS (by omega) (s4 _ _ (qB _ _ nF (qA _ _ nF (s13 _ _ hF7)))) (row_dats dF7 tAll) okF (by omega) lim (cU.keep fun b ys z => s4 _ _ (tB _ _ (tA _ _ z))) pm1 ri1 pm2 ri2 upd_same he1' he2' fun H' v10 v11 v12 sm => ?_
    have z7 : Keep p H1 H7 := (((q3.trans q4).trans q5).trans q6).trans q7
    have zB : Keep p H1 HB := ((z7.trans (Keep.of_same s13)).trans qA).trans qB
    have sF : Same H0 (upd HB LL (.lst [.ref e1, .ref e2])) := fun b o z => s4 _ _ (zB b o (ne_of_none z hp) (q1 _ _ z))
    exact ⟨_, _, _, _, _, _, _, _, _, _, _, _, rfl, S0.same (sF.trans sm)⟩
end
end K09
set_option Elab.async false
set_option linter.all false
set_option maxRecDepth 100000
set_option maxHeartbeats 4000000
namespace K09
open PySem L2
theorem all_mk {l : PySem.W.OpenLaw} {w : World} {K : PySem.W.Frag} {h : Heap} {mg : Str → Option Value} {fa f1 f2 f3 f4 f5 f6 f7 f8 f9 f10 f11 f12 f13 f14 f15 : Addr} (X : K.In h) (G : h.Ns mainGlobals mg) (hfa : mg "law" = some (.ref fa))
    {od1 an1 od2 an2 od3 an3 od4 an4 od5 an5 od6 an6 od7 an7 od8 an8 od9 an9 od10 an10 od11 an11 od12 an12 od13 an13 od14 an14 od15 an15 : Option Addr} {sl1 sl2 sl3 sl4 sl5 sl6 sl7 sl8 sl9 sl10 sl11 sl12 sl13 sl14 sl15 : Array (Option Value)} {oc1 kV1 dc1 pm1 cd1 ct1 oc2 kV2 dc2 pm2 cd2 ct2 oc3 kV3 dc3 pm3 cd3 ct3 oc4 kV4 dc4 pm4 cd4 ct4 oc5 kV5 dc5 pm5 cd5 ct5 oc6 kV6 dc6 pm6 cd6 ct6 oc7 kV7 dc7 pm7 cd7 ct7 oc8 kV8 dc8 pm8 cd8 ct8 oc9 kV9 dc9 pm9 cd9 ct9 oc10 kV10 dc10 pm10 cd10 ct10 oc11 kV11 dc11 pm11 cd11 ct11 oc12 kV12 dc12 pm12 cd12 ct12 oc13 kV13 dc13 pm13 cd13 ct13 oc14 kV14 dc14 pm14 cd14 ct14 oc15 kV15 dc15 pm15 cd15 ct15 : Value}
    (a1 : PySem.W.nsIn K mainGlobals "is_name" = some (some (.ref f1))) (l1 : K.lookup f1 = some ⟨oc1, od1, .func (PySem.W.fnOf "is_name" "is_name" (defArgs s_is_name) (defBody s_is_name) (defScope s_is_name) .none kV1 dc1 pm1 an1 cd1 ct1), sl1⟩) (c1 : PySem.W.codeIn K cd1 "is_name" = true) (k1 : PySem.W.keepIn K (.ref f1) = true)
    (a2 : PySem.W.nsIn K mainGlobals "is_whole" = some (some (.ref f2))) (l2 : K.lookup f2 = some ⟨oc2, od2, .func (PySem.W.fnOf "is_whole" "is_whole" (defArgs s_is_whole) (defBody s_is_whole) (defScope s_is_whole) .none kV2 dc2 pm2 an2 cd2 ct2), sl2⟩) (c2 : PySem.W.codeIn K cd2 "is_whole" = true) (k2 : PySem.W.keepIn K (.ref f2) = true)
    (a3 : PySem.W.nsIn K mainGlobals "is_whole_from" = some (some (.ref f3))) (l3 : K.lookup f3 = some ⟨oc3, od3, .func (PySem.W.fnOf "is_whole_from" "is_whole_from" (defArgs s_is_whole_from) (defBody s_is_whole_from) (defScope s_is_whole_from) .none kV3 dc3 pm3 an3 cd3 ct3), sl3⟩) (c3 : PySem.W.codeIn K cd3 "is_whole_from" = true) (k3 : PySem.W.keepIn K (.ref f3) = true)
    (a4 : PySem.W.nsIn K mainGlobals "case_of" = some (some (.ref f4))) (l4 : K.lookup f4 = some ⟨oc4, od4, .func (PySem.W.fnOf "case_of" "case_of" (defArgs s_case_of) (defBody s_case_of) (defScope s_case_of) .none kV4 dc4 pm4 an4 cd4 ct4), sl4⟩) (c4 : PySem.W.codeIn K cd4 "case_of" = true) (k4 : PySem.W.keepIn K (.ref f4) = true)
    (a5 : PySem.W.nsIn K mainGlobals "rows_of" = some (some (.ref f5))) (l5 : K.lookup f5 = some ⟨oc5, od5, .func (PySem.W.fnOf "rows_of" "rows_of" (defArgs s_rows_of) (defBody s_rows_of) (defScope s_rows_of) .none kV5 dc5 pm5 an5 cd5 ct5), sl5⟩) (c5 : PySem.W.codeIn K cd5 "rows_of" = true) (k5 : PySem.W.keepIn K (.ref f5) = true)
    (a6 : PySem.W.nsIn K mainGlobals "row_of" = some (some (.ref f6))) (l6 : K.lookup f6 = some ⟨oc6, od6, .func (PySem.W.fnOf "row_of" "row_of" (defArgs s_row_of) (defBody s_row_of) (defScope s_row_of) .none kV6 dc6 pm6 an6 cd6 ct6), sl6⟩) (c6 : PySem.W.codeIn K cd6 "row_of" = true) (k6 : PySem.W.keepIn K (.ref f6) = true)
    (a7 : PySem.W.nsIn K mainGlobals "_law_pen" = some (some (.ref f7))) (l7 : K.lookup f7 = some ⟨oc7, od7, .func (PySem.W.fnOf "_law_pen" "_law_pen" (defArgs s_law_pen) (defBody s_law_pen) (defScope s_law_pen) .none kV7 dc7 pm7 an7 cd7 ct7), sl7⟩) (c7 : PySem.W.codeIn K cd7 "_law_pen" = true) (k7 : PySem.W.keepIn K (.ref f7) = true)
    (a8 : PySem.W.nsIn K mainGlobals "_law_draw" = some (some (.ref f8))) (l8 : K.lookup f8 = some ⟨oc8, od8, .func (PySem.W.fnOf "_law_draw" "_law_draw" (defArgs s_law_draw) (defBody s_law_draw) (defScope s_law_draw) .none kV8 dc8 pm8 an8 cd8 ct8), sl8⟩) (c8 : PySem.W.codeIn K cd8 "_law_draw" = true) (k8 : PySem.W.keepIn K (.ref f8) = true)
    (a9 : PySem.W.nsIn K mainGlobals "_law_names" = some (some (.ref f9))) (l9 : K.lookup f9 = some ⟨oc9, od9, .func (PySem.W.fnOf "_law_names" "_law_names" (defArgs s_law_names) (defBody s_law_names) (defScope s_law_names) .none kV9 dc9 pm9 an9 cd9 ct9), sl9⟩) (c9 : PySem.W.codeIn K cd9 "_law_names" = true) (k9 : PySem.W.keepIn K (.ref f9) = true)
    (a10 : PySem.W.nsIn K mainGlobals "_law_great" = some (some (.ref f10))) (l10 : K.lookup f10 = some ⟨oc10, od10, .func (PySem.W.fnOf "_law_great" "_law_great" (defArgs s_law_great) (defBody s_law_great) (defScope s_law_great) .none kV10 dc10 pm10 an10 cd10 ct10), sl10⟩) (c10 : PySem.W.codeIn K cd10 "_law_great" = true) (k10 : PySem.W.keepIn K (.ref f10) = true)
    (a11 : PySem.W.nsIn K mainGlobals "_law_map" = some (some (.ref f11))) (l11 : K.lookup f11 = some ⟨oc11, od11, .func (PySem.W.fnOf "_law_map" "_law_map" (defArgs s_law_map) (defBody s_law_map) (defScope s_law_map) .none kV11 dc11 pm11 an11 cd11 ct11), sl11⟩) (c11 : PySem.W.codeIn K cd11 "_law_map" = true) (k11 : PySem.W.keepIn K (.ref f11) = true)
    (a12 : PySem.W.nsIn K mainGlobals "_law_some" = some (some (.ref f12))) (l12 : K.lookup f12 = some ⟨oc12, od12, .func (PySem.W.fnOf "_law_some" "_law_some" (defArgs s_law_some) (defBody s_law_some) (defScope s_law_some) .none kV12 dc12 pm12 an12 cd12 ct12), sl12⟩) (c12 : PySem.W.codeIn K cd12 "_law_some" = true) (k12 : PySem.W.keepIn K (.ref f12) = true)
    (a13 : PySem.W.nsIn K mainGlobals "_law_rows" = some (some (.ref f13))) (l13 : K.lookup f13 = some ⟨oc13, od13, .func (PySem.W.fnOf "_law_rows" "_law_rows" (defArgs s_law_rows) (defBody s_law_rows) (defScope s_law_rows) .none kV13 dc13 pm13 an13 cd13 ct13), sl13⟩) (c13 : PySem.W.codeIn K cd13 "_law_rows" = true) (k13 : PySem.W.keepIn K (.ref f13) = true)
    (a14 : PySem.W.nsIn K mainGlobals "_law_handed" = some (some (.ref f14))) (l14 : K.lookup f14 = some ⟨oc14, od14, .func (PySem.W.fnOf "_law_handed" "_law_handed" (defArgs s_law_handed) (defBody s_law_handed) (defScope s_law_handed) .none kV14 dc14 pm14 an14 cd14 ct14), sl14⟩) (c14 : PySem.W.codeIn K cd14 "_law_handed" = true) (k14 : PySem.W.keepIn K (.ref f14) = true)
    (a15 : PySem.W.nsIn K mainGlobals "law" = some (some (.ref f15))) (l15 : K.lookup f15 = some ⟨oc15, od15, .func (PySem.W.fnOf "law" "law" (defArgs s_law) (defBody s_law) (defScope s_law) .none kV15 dc15 pm15 an15 cd15 ct15), sl15⟩) (c15 : PySem.W.codeIn K cd15 "law" = true) (k15 : PySem.W.keepIn K (.ref f15) = true)
    (z1 : PySem.W.nsIn K mainGlobals "len" = some none) (z2 : PySem.W.nsIn K mainGlobals "isinstance" = some none) (z3 : PySem.W.nsIn K mainGlobals "bool" = some none) (z4 : PySem.W.nsIn K mainGlobals "int" = some none) (z5 : PySem.W.nsIn K mainGlobals "str" = some none) (z6 : PySem.W.nsIn K mainGlobals "list" = some none) (z7 : PySem.W.nsIn K mainGlobals "range" = some none) (z8 : PySem.W.nsIn K mainGlobals "sorted" = some none) (z9 : PySem.W.nsIn K mainGlobals "tuple" = some none) (z10 : PySem.W.nsIn K mainGlobals "min" = some none) (z11 : PySem.W.nsIn K mainGlobals "max" = some none) (z12 : PySem.W.nsIn K mainGlobals "all" = some none) (z13 : PySem.W.nsIn K mainGlobals "set" = some none) (z14 : PySem.W.nsIn K mainGlobals "repr" = some none) {tc1 : Tok} (y1 : PySem.W.nsIn K mainGlobals "MOST_LETTERS" = some (some (.int 6 tc1))) {tc2 : Tok} (y2 : PySem.W.nsIn K mainGlobals "MOST_SITES" = some (some (.int 10 tc2))) {tc3 : Tok} (y3 : PySem.W.nsIn K mainGlobals "MOST_FOLK" = some (some (.int 30 tc3))) :
    ∃ fd : FuncData, (∀ (s : Shared) (v : Value), BindsTo s fd ⟨[v], []⟩ [("_law_script", v)]) ∧ ∀ base : Heap, K.In base → base.Ns mainGlobals mg → FnOk l.prog w K mg base CX0 6 fa fd ["_law_script"] (spLaw K) := by
  have e := hfa.symm.trans (PySem.W.mg_of X G a15)
  cases e
  have F1 := fun_mk (st := s_is_name) l1 c1 k1
  have F2 := fun_mk (st := s_is_whole) l2 c2 k2
  have F3 := fun_mk (st := s_is_whole_from) l3 c3 k3
  have F4 := fun_mk (st := s_case_of) l4 c4 k4
  have F5 := fun_mk (st := s_rows_of) l5 c5 k5
  have F6 := fun_mk (st := s_row_of) l6 c6 k6
  have F7 := fun_mk (st := s_law_pen) l7 c7 k7
  have F8 := fun_mk (st := s_law_draw) l8 c8 k8
  have F9 := fun_mk (st := s_law_names) l9 c9 k9
  have F10 := fun_mk (st := s_law_great) l10 c10 k10
  have F11 := fun_mk (st := s_law_map) l11 c11 k11
  have F12 := fun_mk (st := s_law_some) l12 c12 k12
  have F13 := fun_mk (st := s_law_rows) l13 c13 k13
  have F14 := fun_mk (st := s_law_handed) l14 c14 k14
  have F15 := fun_mk (st := s_law) l15 c15 k15
  have b1 := F1.binds (ps := ["thing"]) fun _ _ _ _ _ _ us hl => match us, hl with | [_], _ => rfl
  have b2 := F2.binds (ps := ["thing"]) fun _ _ _ _ _ _ us hl => match us, hl with | [_], _ => rfl
  have b3 := F3.binds (ps := ["thing", "least"]) fun _ _ _ _ _ _ us hl => match us, hl with | [_, _], _ => rfl
  have b4 := F4.binds (ps := ["web", "sites", "folk", "limit"]) fun _ _ _ _ _ _ us hl => match us, hl with | [_, _, _, _], _ => rfl
  have b5 := F5.binds (ps := ["web", "rows", "most", "least"]) fun _ _ _ _ _ _ us hl => match us, hl with | [_, _, _, _], _ => rfl
  have b6 := F6.binds (ps := ["web", "row", "least"]) fun _ _ _ _ _ _ us hl => match us, hl with | [_, _, _], _ => rfl
  have b7 := F7.binds (ps := ["_law_script", "_law_k"]) fun _ _ _ _ _ _ us hl => match us, hl with | [_, _], _ => rfl
  have b8 := F8.binds (ps := ["_law_pen_here", "_law_many"]) fun _ _ _ _ _ _ us hl => match us, hl with | [_, _], _ => rfl
  have b9 := F9.binds (ps := ["_law_pen_here", "_law_many"]) fun _ _ _ _ _ _ us hl => match us, hl with | [_, _], _ => rfl
  have b10 := F10.binds (ps := ["_law_pen_here", "_law_least", "_law_size"]) fun _ _ _ _ _ _ us hl => match us, hl with | [_, _, _], _ => rfl
  have b11 := F11.binds (ps := ["_law_pen_here", "_law_many"]) fun _ _ _ _ _ _ us hl => match us, hl with | [_, _], _ => rfl
  have b12 := F12.binds (ps := ["_law_pen_here", "_law_things", "_law_most"]) fun _ _ _ _ _ _ us hl => match us, hl with | [_, _, _], _ => rfl
  have b13 := F13.binds (ps := ["_law_pen_here", "_law_places", "_law_most", "_law_least"]) fun _ _ _ _ _ _ us hl => match us, hl with | [_, _, _, _], _ => rfl
  have b14 := F14.binds (ps := ["_law_pen_here", "_law_rows_here"]) fun _ _ _ _ _ _ us hl => match us, hl with | [_, _], _ => rfl
  have DK : DrawF K mg f8 _ := ⟨F8, (PySem.W.mg_of X G a8), b8⟩
  have TS : TxtS K mg := ⟨(PySem.W.mg_none_of X G z1), (PySem.W.mg_none_of X G z10), (PySem.W.mg_none_of X G z6), (PySem.W.mg_none_of X G z7)⟩
  have TN : TxtN K mg := ⟨(PySem.W.mg_none_of X G z1), (PySem.W.mg_none_of X G z2), (PySem.W.mg_none_of X G z5), (PySem.W.mg_none_of X G z12), ⟨_, PySem.W.mg_of X G y1⟩⟩
  exact ⟨PySem.W.fnOf "law" "law" (defArgs s_law) (defBody s_law) (defScope s_law) .none kV15 dc15 pm15 an15 cd15 ct15, fun s v => .of_eq rfl, fun base _ _ =>
    ok_law (PySem.W.mg_none_of X G z4) (PySem.W.mg_none_of X G z1) (PySem.W.mg_none_of X G z6) (PySem.W.mg_none_of X G z11) (PySem.W.mg_none_of X G z10) (PySem.W.mg_none_of X G z7) (PySem.W.mg_none_of X G z14) (PySem.W.mg_none_of X G z8) (PySem.W.mg_none_of X G z9) ⟨F7, (PySem.W.mg_of X G a7), b7⟩ (ok_pen (PySem.W.mg_none_of X G z1) F7) DK ⟨F11, (PySem.W.mg_of X G a11), b11⟩ (ok_mapL (PySem.W.mg_none_of X G z4) (PySem.W.mg_none_of X G z6) (PySem.W.mg_none_of X G z7) (PySem.W.mg_none_of X G z8) (PySem.W.mg_none_of X G z9) ⟨F9, (PySem.W.mg_of X G a9), b9⟩ (ok_namesL TS (PySem.W.mg_none_of X G z4) DK F9) DK ⟨F10, (PySem.W.mg_of X G a10), b10⟩ (ok_great DK F10) F11) ⟨F13, (PySem.W.mg_of X G a13), b13⟩ (ok_law_rows ⟨F12, (PySem.W.mg_of X G a12), b12⟩ (ok_some TS DK F12) ⟨F10, (PySem.W.mg_of X G a10), b10⟩ (ok_great DK F10) F13) ⟨F10, (PySem.W.mg_of X G a10), b10⟩ (ok_great DK F10) ⟨F14, (PySem.W.mg_of X G a14), b14⟩ (ok_law_handed (PySem.W.mg_none_of X G z6) (PySem.W.mg_none_of X G z9) DK DK.ok F14) ⟨F4, (PySem.W.mg_of X G a4), b4⟩ (ok_case_of ⟨_, PySem.W.mg_of X G y2⟩ ⟨_, PySem.W.mg_of X G y3⟩ ⟨F3, (PySem.W.mg_of X G a3), b3⟩ (ok_is_whole_from ⟨F2, (PySem.W.mg_of X G a2), b2⟩ (ok_is_whole (PySem.W.mg_none_of X G z3) (PySem.W.mg_none_of X G z4) (PySem.W.mg_none_of X G z2) F2) F3) ⟨F5, (PySem.W.mg_of X G a5), b5⟩ (ok_rows_of (PySem.W.mg_none_of X G z2) (PySem.W.mg_none_of X G z1) (PySem.W.mg_none_of X G z6) (PySem.W.mg_none_of X G z13) (PySem.W.mg_none_of X G z8) (PySem.W.mg_none_of X G z9) ⟨F6, (PySem.W.mg_of X G a6), b6⟩ (ok_row_of (PySem.W.mg_none_of X G z2) (PySem.W.mg_none_of X G z1) (PySem.W.mg_none_of X G z9) ⟨F1, (PySem.W.mg_of X G a1), b1⟩ (ok_name TN F1) ⟨F3, (PySem.W.mg_of X G a3), b3⟩ (ok_is_whole_from ⟨F2, (PySem.W.mg_of X G a2), b2⟩ (ok_is_whole (PySem.W.mg_none_of X G z3) (PySem.W.mg_none_of X G z4) (PySem.W.mg_none_of X G z2) F2) F3) F6) F5) F4) F15⟩
theorem scr_of {K : PySem.W.Frag} {H : Hp} {a : Addr} {xs : List V} (o : Only H) (h : SqL K H a xs) : Scr K H a xs := by
  rcases h with (h | ⟨ob, h⟩) | h
  · rcases o a with z | ⟨ob, ys, z⟩ <;> (rw [h] at z; cases z)
  · exact .inl ⟨ob, h⟩
  · exact .inr h
theorem walk {l : PySem.W.OpenLaw} {q : Program} {loose : List Str} {XP : (Str → Option Value) → Heap → Prop} {YP : World → Heap → Prop} {d : DefRec} {K : Params → PySem.W.Frag} (hn : l.most = some 63) (hdf : d.params.defaults = [])
    (hY : ∀ (w : World) (h : Heap), YP w h → (K w.params).In h)
    (F : ∀ (w : World) (mg : Str → Option Value) (fa : Addr) (h : Heap), (K w.params).In h → h.Ns mainGlobals mg → mg d.name = some (.ref fa) →
      ∃ fd : FuncData, (∀ (s : Shared) (u : Value), BindsTo s fd ⟨[u], []⟩ [("_law_script", u)]) ∧ ∀ base : Heap, (K w.params).In base → base.Ns mainGlobals mg → FnOk l.prog w (K w.params) mg base CX0 6 fa fd ["_law_script"] (spLaw (K w.params))) :
    PySem.W.WalkO q loose XP YP l.row.toRowW d [] (fun f vs => PySem.call f vs) :=
  L2.walk_of (n := 63) (k := 6) (x := "_law_script") (CX := fun _ => CX0) (sp := fun w => spLaw (K w.params)) hn (by decide) hdf ⟨rfl, by decide, by decide, rfl⟩ hY F (fun _ _ a ns hl ho hS => ⟨a, ns, rfl, scr_of ho hS, hl, fun _ => rfl⟩) fun _ _ _ _ _ z => z
end K09
open PySem PySem.W PyProof.Rows
set_option maxRecDepth 100000 in
set_option maxHeartbeats 0 in
theorem PySem.Challenge.cw_openhouses_k09_cases_made_holds : PySem.Challenge.rw_openhouses_k09_cases_made.Holds := by
  w_on; o_law; k_head; (case hw => w_witness2)
  k_fill
  refine K09.walk (l := PySem.Challenge.rw_openhouses_k09_cases_made) rfl rfl (fun w h Y => PySem.W.kIn_of Y) ?F
  case F =>
    intro w mg fa h KX G hmg
    refine' K09.all_mk KX G hmg ?a1 ?l1 ?c1 ?k1 ?a2 ?l2 ?c2 ?k2 ?a3 ?l3 ?c3 ?k3 ?a4 ?l4 ?c4 ?k4 ?a5 ?l5 ?c5 ?k5 ?a6 ?l6 ?c6 ?k6 ?a7 ?l7 ?c7 ?k7 ?a8 ?l8 ?c8 ?k8 ?a9 ?l9 ?c9 ?k9 ?a10 ?l10 ?c10 ?k10 ?a11 ?l11 ?c11 ?k11 ?a12 ?l12 ?c12 ?k12 ?a13 ?l13 ?c13 ?k13 ?a14 ?l14 ?c14 ?k14 ?a15 ?l15 ?c15 ?k15 ?z1 ?z2 ?z3 ?z4 ?z5 ?z6 ?z7 ?z8 ?z9 ?z10 ?z11 ?z12 ?z13 ?z14 ?y1 ?y2 ?y3
    (case a1 => k_is); (case l1 => k_is); (case c1 => k_is); (case k1 => k_is)
    (case a2 => k_is); (case l2 => k_is); (case c2 => k_is); (case k2 => k_is)
    (case a3 => k_is); (case l3 => k_is); (case c3 => k_is); (case k3 => k_is)
    (case a4 => k_is); (case l4 => k_is); (case c4 => k_is); (case k4 => k_is)
    (case a5 => k_is); (case l5 => k_is); (case c5 => k_is); (case k5 => k_is)
    (case a6 => k_is); (case l6 => k_is); (case c6 => k_is); (case k6 => k_is)
    (case a7 => k_is); (case l7 => k_is); (case c7 => k_is); (case k7 => k_is)
    (case a8 => k_is); (case l8 => k_is); (case c8 => k_is); (case k8 => k_is)
    (case a9 => k_is); (case l9 => k_is); (case c9 => k_is); (case k9 => k_is)
    (case a10 => k_is); (case l10 => k_is); (case c10 => k_is); (case k10 => k_is)
    (case a11 => k_is); (case l11 => k_is); (case c11 => k_is); (case k11 => k_is)
    (case a12 => k_is); (case l12 => k_is); (case c12 => k_is); (case k12 => k_is)
    (case a13 => k_is); (case l13 => k_is); (case c13 => k_is); (case k13 => k_is)
    (case a14 => k_is); (case l14 => k_is); (case c14 => k_is); (case k14 => k_is)
    (case a15 => k_is); (case l15 => k_is); (case c15 => k_is); (case k15 => k_is)
    (case z1 => k_is); (case z2 => k_is); (case z3 => k_is); (case z4 => k_is); (case z5 => k_is); (case z6 => k_is); (case z7 => k_is); (case z8 => k_is); (case z9 => k_is); (case z10 => k_is); (case z11 => k_is); (case z12 => k_is); (case z13 => k_is); (case z14 => k_is); (case y1 => k_is); (case y2 => k_is); (case y3 => k_is)
