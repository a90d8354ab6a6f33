/- The document's join. Condition: at most 1000 parts in all. -/
import Derived.Test.YtbmgkgoghgdbhaaRh
namespace Go.Proofs.Ytbmgkgoghgdbhaa.Te
open Go.RowKit

set_option maxHeartbeats 400000 in
set_option maxRecDepth 100000 in
theorem join_any {P : Nat → Prop} {d : Nat} (B off cap : Nat) (ls : List (List Ty)) (fl : List Ty) (hfl : ls.flatten = fl) (w : World) (hB : B < w.heap.size) (hl : ls.length ≤ 1000) (hc : ∀ i (h : i < ls.length), ∃ a c, w.cell? ⟨B, off + i, none⟩ = some (.slice a (ls[i]).length c) ∧ TyP P w (d + 1) ⟨0, 0, ls[i]⟩ a c) (hs : fl.length ≤ 1000) (hP : ∀ g, w.heap.size ≤ g → P g) :
    Calls Try.prog 52 #[.slice (some ⟨B, off, none⟩) ls.length cap] w fun e w' => ∃ a c, e = .returned (.slice a fl.length c) ∧ LsAt P w' d fl a c ∧ Below w.heap.size w w' := by
  have HS : Hid (fl.length ≤ 1000) := hs
  have HC : Hid (∀ i (h : i < ls.length), ∃ a c, w.cell? ⟨B, off + i, none⟩ = some (.slice a (ls[i]).length c) ∧ TyP P w (d + 1) ⟨0, 0, ls[i]⟩ a c) := hc
  have HF : Hid (ls.flatten = fl) := hfl
  have HP : Hid (∀ g, w.heap.size ≤ g → P g) := hP
  clear hs hc hfl hP
  go_enter Try.func52, Try.ntmps52
  go_wp2
  go_loopw [3, 4] (fun v i wr => ∃ (q : Nat) (xs : List Value), i = .int .i64 (q : Int) ∧ q ≤ ls.length ∧ wr.ownsRow w.heap.size 24 3 v (flat ls q).length xs ∧ RowOf P w d (flat ls q) (flat ls q).length xs ∧ Below w.heap.size w wr) (fun _ i _ => ls.length - (intOf i).toNat)
  case atStart => exact ⟨0, [], rfl, by omega, ⟨rfl, .inl ⟨rfl, rfl⟩⟩, fun i hi => by simp [flat] at hi, Below.refl _ _⟩
  case round =>
    obtain ⟨q, xs, rfl, hq, hown, hrow, hbw⟩ := hrel
    have hsz := hbw.size
    by_cases hql : q < ls.length
    · have hql' : (q : Int) < (ls.length : Int) := by omega
      obtain ⟨a, c, hcell, hT⟩ := HC.out q hql
      obtain ⟨ys, hsrc⟩ := src_of hT
      have hcell' : wr.cell? ⟨B, off + q, none⟩ = some (.slice a (ls[q]).length c) := (hbw.cell (p := ⟨B, off + q, none⟩) hB).trans hcell
      have e1 := flat_succ hql
      have e2 := flat_le ls (q + 1)
      rw [HF.out] at e2
      have e3 := HS.out
      have e4 := congrArg List.length e1
      rw [List.length_append] at e4
      go_wp2_with (at_builtin; refine wpList_src w rfl (.tmp 11) (.tmp 15) rfl w.heap.size _ _ _ rfl hown c rfl hsrc hbw (by omega) hsz ?_; intro v' W2 hown2 hgrow2)
      go_roundw
      case rel =>
        refine ⟨q + 1, xs ++ ys, by go_num, by omega, ?_, ?_, hbw.grown hgrow2 hsz (fun j hj => (hown.lt j hj).1)⟩
        · rw [e1, List.length_append]; exact hown2
        · rw [e1]; exact hrow.join hown.1 hsrc.2.2.1
      case measure => simp [intOf]; omega
    · have hql' : ¬ (q : Int) < (ls.length : Int) := by omega
      have ef := flat_all ls (k := q) (by omega)
      rw [HF.out] at ef
      rw [ef] at hown hrow
      clear ef
      have hle := HS.out
      have hv : ∀ V : Value, wr.ownsRow w.heap.size 24 3 V fl.length xs → ∃ x m, V = .slice x fl.length m ∧ fl.length ≤ m := by
        intro V hV
        rcases hV.2 with ⟨rfl, h0⟩ | ⟨g, cap, cur, rfl, _, _, hcap, _⟩
        · exact ⟨none, 0, by rw [h0], by omega⟩
        · exact ⟨_, _, rfl, hcap⟩
      obtain ⟨x, m, rfl, hroom⟩ := hv _ hown
      have HFF : Hid (TyP P wr (d + 1) ⟨0, 0, fl⟩ x m) := (hrow.keep (Q := P) (w' := wr) hsz (fun g hg hP => ⟨hP, hbw.block g hg⟩)).all hown (by constructor <;> decide) (by constructor <;> decide) (by omega) (fun g _ hg => HP.out g hg)
      clear hown hrow hv
      go_wp2
      go_ret
      exact ⟨x, m, rfl, ⟨HFF.out, hroom⟩, hbw⟩
end Go.Proofs.Ytbmgkgoghgdbhaa.Te
