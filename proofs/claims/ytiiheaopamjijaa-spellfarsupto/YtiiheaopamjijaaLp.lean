/- The program's rows and the document's are the same: neighbours in a row are at most one apart. No conditions. -/
import Derived.Test.YtiiheaopamjijaaAp
namespace Go.Proofs.Ytiiheaopamjijaa.Lp
open Rw Ay Fi Nx Ap

/-- neighbours are at most one apart -/
def Lip (n : Nat) (f : Nat → Int) : Prop := ∀ j, j < n → f j ≤ f (j + 1) + 1 ∧ f (j + 1) ≤ f j + 1
theorem lip_f0 (n : Nat) : Lip n (f0 n) := by
  intro j hj
  unfold f0
  rw [if_pos (by omega), if_pos (by omega)]
  omega
theorem nx_lt (u : ByteArray) (l : List ByteArray) (f : Nat → Int) (j : Nat) (h : j < l.length) : nx u l f (j + 1) = if u = l[j] then f j else 1 + min (min (f j) (nx u l f j)) (f (j + 1)) := by
  simp only [nx]
  rw [dif_pos h]
theorem up (u : ByteArray) (l : List ByteArray) (f : Nat → Int) (h : Lip l.length f) : ∀ j, j ≤ l.length → nx u l f j ≤ f j + 1 ∧ f j ≤ nx u l f j + 1 := by
  intro j
  induction j with
  | zero => intro _; simp only [nx]; omega
  | succ j ih =>
    intro hj
    have h1 := h j (by omega)
    have h2 := ih (by omega)
    rw [nx_lt u l f j (by omega)]
    split <;> omega
theorem lip_nx (u : ByteArray) (l : List ByteArray) (f : Nat → Int) (h : Lip l.length f) : Lip l.length (nx u l f) := by
  intro j hj
  have h1 := h j hj
  have h2 := up u l f h j (by omega)
  rw [nx_lt u l f j hj]
  split <;> omega
theorem lip_fold (l : List ByteArray) : ∀ (us : List ByteArray) (f : Nat → Int), Lip l.length f → Lip l.length (us.foldl (fun f u => nx u l f) f)
  | [], _, h => h
  | u :: us, f, h => lip_fold l us (nx u l f) (lip_nx u l f h)
theorem lip_row (l us : List ByteArray) : Lip l.length (rowOf l us) := lip_fold l us _ (lip_f0 _)
theorem fold_zero (l : List ByteArray) : ∀ (us : List ByteArray) (f : Nat → Int), us.foldl (fun f u => nx u l f) f 0 = f 0 + us.length
  | [], f => by simp
  | u :: us, f => by
    rw [List.foldl_cons, fold_zero l us (nx u l f)]
    simp only [nx, List.length_cons]
    omega
theorem row_zero (l us : List ByteArray) : rowOf l us 0 = us.length := by
  unfold rowOf
  rw [fold_zero]
  simp [f0]
/-- the document's way to reckon gives the same -/
theorem same (u : ByteArray) (l : List ByteArray) (f : Nat → Int) (h : Lip l.length f) (j : Nat) (hj : j < l.length) :
    nx u l f (j + 1) = min (min (f j + if u = l[j] then 0 else 1) (f (j + 1) + 1)) (nx u l f j + 1) := by
  have h1 := h j hj
  have h2 := up u l f h j (by omega)
  rw [nx_lt u l f j hj]
  split <;> omega
end Go.Proofs.Ytiiheaopamjijaa.Lp
