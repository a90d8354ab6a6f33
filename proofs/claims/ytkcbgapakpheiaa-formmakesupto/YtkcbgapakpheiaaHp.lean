/- Plain facts for the document's here: place by place. No conditions beyond those named. -/
import Derived.Test.YtkcbgapakpheiaaTu
namespace Go.Proofs.Ytkcbgapakpheiaa.Hp
open Sd Md Tu

def rfit (s : Sp) (side : List Int) (k : Int) : Bool := if k < -1 then false else if k = -1 then s.edge else s.any.contains (side.getD k.toNat 0)
def rleft : List Sp → List Int → Bool
  | [], _ => true
  | s :: l, out => rfit s out ((out.length : Int) - ((l.length : Int) + 1)) && rleft l out
theorem rleft_cons (s : Sp) (l : List Sp) (out : List Int) : rleft (s :: l) out = (rfit s out ((out.length : Int) - ((l.length : Int) + 1)) && rleft l out) := rfl
theorem rfit_fits {s : Sp} {side : List Int} {k : Int} (h1 : -1 ≤ k) (h2 : k < side.length) : rfit s side k = fits s side k := by
  unfold rfit fits
  rw [if_neg (by omega)]
  by_cases h : k = -1
  · rw [if_pos h, if_pos (by omega)]
  · rw [if_neg h, if_neg (by omega)]
theorem rleft_left {c : Ch} (hg : Sd.Good c) (out : List Int) : rleft c.left out = leftB c.left out := by
  have hl := hg.l2
  have he := hg.noedge
  match h : c.left with
  | [] => rfl
  | [s] =>
    rw [rleft_cons, leftB_cons, rfit_fits (by simp; omega) (by simp; omega)]
    rfl
  | [s, t] =>
    rw [h] at he
    have he1 : t.edge = false := he t rfl
    rw [rleft_cons, leftB_cons, rleft_cons, leftB_cons]
    rw [rfit_fits (s := t) (by simp; omega) (by simp; omega)]
    by_cases h0 : out.length = 0
    · have e2 : fits t out ((out.length : Int) - ((([] : List Sp).length : Int) + 1)) = false := by
        unfold fits
        rw [if_pos (by simp; omega)]
        exact he1
      rw [e2]
      simp
    · rw [rfit_fits (s := s) (by simp; omega) (by simp; omega)]
      rfl
  | s :: t :: u :: l =>
    rw [h] at hl
    simp at hl

theorem rfit_low {s : Sp} {side : List Int} {k : Int} (h : k < -1) : rfit s side k = false := if_pos h
theorem rfit_edge {s : Sp} {side : List Int} : rfit s side (-1) = s.edge := by unfold rfit; rw [if_neg (by omega), if_pos rfl]
theorem rfit_in {s : Sp} {side : List Int} (m : Nat) : rfit s side (m : Int) = s.any.contains (side.getD m 0) := by
  unfold rfit
  rw [if_neg (by omega), if_neg (by omega), Int.toNat_natCast]

/-- From against what is to be read, place by place -/
def upTo (frm rest : List Int) (k : Nat) : Prop := rest.take k = frm.take k ∧ k ≤ rest.length
theorem upTo_zero (frm rest : List Int) : upTo frm rest 0 := ⟨rfl, Nat.zero_le _⟩
theorem upTo_step {frm rest : List Int} {k : Nat} (h : upTo frm rest k) (hk : k < frm.length) (hr : k < rest.length) (he : rest.getD k 0 = frm.getD k 0) : upTo frm rest (k + 1) := by
  refine ⟨?_, by omega⟩
  rw [List.take_succ_eq_append_getElem hr, List.take_succ_eq_append_getElem hk, h.1]
  simp [hk, hr] at he
  rw [he]
theorem upTo_end {frm rest : List Int} (h : upTo frm rest frm.length) : pre frm rest = true := by
  unfold pre
  exact decide_eq_true (by rw [h.1, List.take_length])
theorem pre_ne {frm rest : List Int} {k : Nat} (hk : k < frm.length) (he : rest.getD k 0 ≠ frm.getD k 0) : pre frm rest = false := by
  unfold pre
  refine decide_eq_false fun e => he ?_
  have : (rest.take frm.length)[k]? = frm[k]? := by rw [e]
  rw [List.getElem?_take, if_pos hk] at this
  simp [List.getD_eq_getElem?_getD, this]
theorem right_one (s : Sp) (rest : List Int) (n : Nat) (h : n ≤ rest.length) : rightB [s] rest n = if rest.length = n then s.edge else s.any.contains (rest.getD n 0) := by
  rw [rightB_cons]
  unfold fits
  by_cases e : rest.length = n
  · rw [if_pos e, if_pos (by omega)]
    simp [rightB]
  · rw [if_neg e, if_neg (by omega), Int.toNat_natCast]
    simp [rightB]
theorem getD_drop (l : List Int) (p k : Nat) : (l.drop p).getD k 0 = l.getD (p + k) 0 := by simp [List.getD_eq_getElem?_getD, List.getElem?_drop]
end Go.Proofs.Ytkcbgapakpheiaa.Hp
