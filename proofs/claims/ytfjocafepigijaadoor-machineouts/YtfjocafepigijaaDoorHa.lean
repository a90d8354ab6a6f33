/- reach: what has been met and what is still to be done, in plain words; how it lies; reach's visit in one word. Conditions: few states. -/
import Derived.Test.YtfjocafepigijaaDoorGa
import Derived.Test.YtfjocafepigijaaDoorRe
namespace Go.Proofs.YtfjocafepigijaaDoor.Cu
open Go.RowKit Mv Set Qp Sk Po Ps Wd Se Mp St Cm Nm Nx Ra Am Pa
open CR (nc)

/-- how many were met -/
def crd (n : Nat) (ws : List Nat) : Nat := sm n (fun k => if mem ws k = true then 1 else 0)
theorem sm_at (n P : Nat) (h : P < n) : sm n (fun k => if k = P then 1 else 0) = 1 := by
  induction n with
  | zero => omega
  | succ n ih =>
    rw [sm_up]
    rcases Nat.lt_or_ge P n with h1 | h1
    · rw [ih h1, if_neg (by omega)]
    · obtain rfl : P = n := by omega
      rw [if_pos rfl, sm_zero (fun k hk => if_neg (by omega))]
theorem crd_le (n : Nat) (ws : List Nat) : crd n ws ≤ n := by
  refine Nat.le_trans (sm_le (g := fun _ => 1) (fun k _ => ?_)) (Nat.le_of_eq (sm_one n))
  split <;> omega
theorem crd_put {n P : Nat} {ws : List Nat} (hP : P < n) (hl : P / 64 < ws.length) : crd n (put ws P) = cN ws P (crd n ws) := by
  unfold crd cN
  have e := fun k => mem_put ws P k hl
  cases hm : mem ws P with
  | true =>
    rw [if_pos rfl]
    refine sm_eq fun k _ => ?_
    rw [e]
    by_cases hk : k = P
    · subst hk; rw [hm]; rfl
    · simp [hk]
  | false =>
    rw [if_neg (by decide)]
    have : ∀ k, (if mem (put ws P) k = true then 1 else 0) = (if mem ws k = true then 1 else 0) + (if k = P then 1 else 0) := fun k => by
      rw [e]
      by_cases hk : k = P
      · subst hk; rw [hm]; simp
      · simp [hk]
    rw [sm_eq (fun k _ => this k), sm_add, sm_at n P hP]
/-- what has been met, what is to be done; ex: pairs that are under way -/
structure Iv (n SB m SA : Nat) (al : Nat → Bool) (E : Nat → Nat → Prop) (G : Nat → List Arc) (ex : Nat → Prop) (ws : List Nat) (cnt : Nat) (T hs : List Nat) : Prop where
  wl : n ≤ 64 * ws.length
  lt : ∀ k, mem ws k = true → k < n
  tm : ∀ k ∈ T, mem ws k = true
  cl : ∀ k, mem ws k = true → k ∉ T → ¬ ex k → ∀ k', E k k' → al k' = true → mem ws k' = true
  hf : ∀ t g : Nat, t < SA → g < m → mem hs (t * m + g) = true → ∀ y ∈ G g, ∀ k' : Nat, (t : Int) * (SB : Int) + y.2.1 = (k' : Int) → al k' = true → mem ws k' = true
  ct : cnt = crd n ws
  tl : T.length ≤ cnt
def aW (al : Nat → Bool) (ws : List Nat) (P : Nat) : List Nat := bif al P then put ws P else ws
def aC (al : Nat → Bool) (ws : List Nat) (P cnt : Nat) : Nat := bif al P then cN ws P cnt else cnt
def aT (al : Nat → Bool) (ws : List Nat) (P : Nat) (T : List Nat) : List Nat := bif al P then tN ws P T else T
/-- twice what is not met, and what is to be done -/
def msr (n cnt : Nat) (T : List Nat) : Nat := 2 * (n - cnt) + T.length
theorem own_base {w : World} {b b' e size n : Nat} {v : Value} {xs : List Value} (h : w.ownsRow b' e size v n xs) (hb : b ≤ b') : w.ownsRow b e size v n xs :=
  ⟨h.1, h.2.imp id (fun ⟨g, cap, cur, h1, h2, h3⟩ => ⟨g, cap, cur, h1, Nat.le_trans hb h2, h3⟩)⟩
/-- which pairs are allowed -/
def Alw (w : World) (fv : Value) (n : Nat) (al : Nat → Bool) : Prop := (fv = .func (.func 66) #[] #[] ∧ ∀ k, al k = true) ∨ ∃ va b2 n2 ws2, fv = .func (.func 68) #[va] #[] ∧ IsSet w b2 va n2 ws2 ∧ n ≤ n2 ∧ ∀ k, k < n → al k = mem ws2 k
/-- a search that goes on -/
structure Rs (w wr : World) (C F bC bA bS n nh : Nat) (fv vm vt vh : Value) (ws : List Nat) (cnt : Nat) (T hs : List Nat) : Prop where
  sr : Sr w.heap.size wr F n ws cnt T vm vt
  hw : IsSet wr w.heap.size vh nh hs
  xC : wr.heap[bC]? = some (.cells #[.pointer (some ⟨C, 0, none⟩)] 71 (0, 0))
  xA : wr.heap[bA]? = some (.cells #[fv] 114 (0, 0))
  xS : wr.heap[bS]? = some (.cells #[.pointer (some ⟨F, 0, none⟩)] 181 (0, 0))
  fge : w.heap.size ≤ F
  ne : ∀ b, vm.ownBlock = some b → vh.ownBlock ≠ some b
  below : Below w.heap.size w wr
/-- boxes of arcs lie as they lay -/
def K64 (w w' : World) : Prop := ∀ (b : Nat) (c : Array Value), w.heap[b]? = some (.cells c 64 (0, 0)) → w'.heap[b]? = some (.cells c 64 (0, 0))
/-- which of the arcs have been gone along -/
def Dn (al : Nat → Bool) (ws : List Nat) (l : List Arc) : Prop := ∀ e ∈ l, ∀ k' : Nat, e.2.1 = (k' : Int) → al k' = true → mem ws k' = true
end Go.Proofs.YtfjocafepigijaaDoor.Cu
