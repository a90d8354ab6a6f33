/- told (14) in plain words, step by step: how many answers so far, the next level so far, their bounds; what the law needs of the count. No program text; no conditions. -/
import Derived.Test.YtfjocafepigijaaDoorVa
namespace Go.Proofs.YtfjocafepigijaaDoor.Ot
open Mv Wk Bw Wd Ra

open Classical in
/-- how many of these are answers -/
noncomputable def cf (E : Int → Nat → Nat → Prop) (F : List Nat) (T : List (List Int)) : Nat := (T.filter fun t => decide (An E F t)).length
open Classical in
theorem cf_yes {E : Int → Nat → Nat → Prop} {F : List Nat} {T : List (List Int)} {t : List Int} (h : An E F t) : cf E F (T ++ [t]) = cf E F T + 1 := by
  unfold cf
  rw [List.filter_append, List.length_append]
  simp [h]
open Classical in
theorem cf_no {E : Int → Nat → Nat → Prop} {F : List Nat} {T : List (List Int)} {t : List Int} (h : ¬ An E F t) : cf E F (T ++ [t]) = cf E F T := by
  unfold cf
  rw [List.filter_append, List.length_append]
  simp [h]
open Classical in
theorem cf_nil (E : Int → Nat → Nat → Prop) (F : List Nat) : cf E F [] = 0 := rfl
open Classical in
theorem cf_le {E : Int → Nat → Nat → Prop} {F : List Nat} {T : List (List Int)} : cf E F T ≤ T.length := List.length_filter_le _ _
open Classical in
/-- a level is done -/
theorem alls_cf (E : Int → Nat → Nat → Prop) (F : List Nat) (s : List Int) (k : Nat) : (alls E F s (k + 1)).length = (alls E F s k).length + cf E F (lv s k) := by
  rw [alls_up, List.length_append]
  rfl
open Classical in
theorem alls_len {E : Int → Nat → Nat → Prop} {F : List Nat} {s : List Int} {b : Nat} : ∀ k, (∀ j, j < k → (lv s j).length ≤ b) → (alls E F s k).length ≤ k * b
  | 0, _ => by unfold alls; simp
  | k + 1, h => by
    rw [alls_cf, Nat.succ_mul]
    have h1 := alls_len (E := E) (F := F) k (fun j hj => h j (by omega))
    have h2 := cf_le (E := E) (F := F) (T := lv s k)
    have h3 := h k (by omega)
    omega
/-- the next level, as far as these texts go -/
def nxl (s : List Int) (T : List (List Int)) : List (List Int) := T.flatMap fun t => s.map fun c => t ++ [c]
theorem nxl_nil (s : List Int) : nxl s [] = [] := rfl
theorem nxl_up (s : List Int) (T : List (List Int)) (t : List Int) : nxl s (T ++ [t]) = nxl s T ++ s.map fun c => t ++ [c] := by simp [nxl]
theorem lv_nxl (s : List Int) (k : Nat) : lv s (k + 1) = nxl s (lv s k) := rfl
theorem nxl_len (s : List Int) (T : List (List Int)) : (nxl s T).length = T.length * s.length := by
  unfold nxl
  induction T with
  | nil => simp
  | cons t T ih => rw [List.flatMap_cons, List.length_append, ih, List.length_map, List.length_cons, Nat.succ_mul]; omega
/-- what told is asked: the list's length and the error fit the count -/
theorem count_fit {S : Nat} {tx : List Int} {A : List A5} {F : List Nat} {L : Nat} {bad : Bool} {l : List (List Int)} (h0 : ∀ a ∈ A, 0 ≤ a.2.2.2.1) (h : OutP (Eg S tx A) F L bad l) : (bad = false ∧ l.length = (alls (Eg S tx A) F (usd A) (L + 1)).length ∧ l.length ≤ 500) ∨ (bad = true ∧ l = [] ∧ 500 < (alls (Eg S tx A) F (usd A) (L + 1)).length) := by
  rcases h.count (alls_nodup (usd_nodup A) (L + 1)) (fun t => alls_mem h0 L t) with ⟨h1, h2, h3⟩ | h1
  · exact .inl ⟨h1, h2, by omega⟩
  · exact .inr h1
/-- a text has a cost below dear just if it is an answer -/
theorem cost_an {m : M} {S v : Nat} {tx t : List Int} (h : Rgt S m.arcs) (hf : ∀ f ∈ m.fins, (∃ s : Nat, f.1 = (s : Int) ∧ s < S) ∧ 0 ≤ f.2) (hc : IsCost m tx t true v) : v < dear ↔ An (Eg S tx m.arcs) (fn S tx m.fins) t := by
  rw [← acc_an h hf]
  rcases (isCost_iff (fun f hfm => (hf f hfm).2)).1 hc with ⟨h1, h2⟩ | ⟨h1, h2, _⟩
  · constructor
    · intro h3; omega
    · rintro ⟨x, hx⟩; exact absurd hx (h2 x)
  · exact ⟨fun _ => ⟨v, h2⟩, fun _ => h1⟩
end Go.Proofs.YtfjocafepigijaaDoor.Ot
