/- Changes of sound in plain words: what Check says of one, what it makes of a text. No conditions. -/
import Derived.WalkKit
namespace Go.Proofs.Ytkcbgapakpheiaa.Sd

structure Sp where
  any : List Int
  edge : Bool
structure Ch where
  kinds : Int
  frm : List Int
  to : List Int
  left : List Sp
  right : List Sp

def bad (k x : Int) : Bool := decide (x < 1) || decide (k < x)
def okAll (l : List Int) (k : Int) : Bool := !l.any (bad k)
def Ch.manyB (c : Ch) : Bool := decide (c.kinds < 1) || decide (4 < c.kinds)
def Ch.sizeB (c : Ch) : Bool := decide (c.frm.length < 1) || decide (2 < c.frm.length) || decide (2 < c.to.length) || decide (2 < c.left.length) || decide (1 < c.right.length)
def wide (s : Sp) : Bool := decide (4 < s.any.length)
def Ch.longB (c : Ch) : Bool := c.sizeB || (c.left ++ c.right).any wide
def Ch.farB (c : Ch) : Bool := c.frm.any (bad c.kinds) || c.to.any (bad c.kinds) || (c.left ++ c.right).any fun s => s.any.any (bad c.kinds)
def Ch.formB (c : Ch) : Bool := (c.left.drop 1).any Sp.edge || (c.right.take (c.right.length - 1)).any Sp.edge
/-- C1 -/
def check (c : Ch) : Int := if c.manyB then 7 else if c.longB then 2 else if c.farB then 3 else if c.formB then 1 else 0

structure Good (c : Ch) : Prop where
  k1 : 1 ≤ c.kinds
  k2 : c.kinds ≤ 4
  f1 : 1 ≤ c.frm.length
  f2 : c.frm.length ≤ 2
  t2 : c.to.length ≤ 2
  l2 : c.left.length ≤ 2
  r1 : c.right.length ≤ 1
  noedge : ∀ s, c.left[1]? = some s → s.edge = false

theorem good_of {c : Ch} (h : check c = 0) : Good c := by
  unfold check at h
  split at h
  · omega
  · split at h
    · omega
    · split at h
      · omega
      · split at h
        · omega
        · rename_i h1 h2 h3 h4
          simp only [Ch.manyB, Bool.or_eq_true, decide_eq_true_eq, not_or] at h1
          simp only [Ch.longB, Ch.sizeB, Bool.or_eq_true, decide_eq_true_eq, not_or] at h2
          refine ⟨by omega, by omega, by omega, by omega, by omega, by omega, by omega, ?_⟩
          intro s hs
          simp only [Ch.formB, Bool.or_eq_true, not_or] at h4
          have := h4.1
          rw [List.any_eq_true] at this
          cases he : s.edge with
          | false => rfl
          | true =>
            exact absurd ⟨s, by
              rw [List.mem_iff_getElem?]
              exact ⟨0, by rw [List.getElem?_drop]; exact hs⟩, he⟩ this

/-- one spot against a side, at a place -/
def fits (s : Sp) (side : List Int) (k : Int) : Bool := if k < 0 ∨ (side.length : Int) ≤ k then s.edge else s.any.contains (side.getD k.toNat 0)
def leftB (l : List Sp) (out : List Int) : Bool := match l with
  | [] => true
  | s :: l => fits s out ((out.length : Int) - ((l.length : Int) + 1)) && leftB l out
def rightB (l : List Sp) (text : List Int) (k : Nat) : Bool := match l with
  | [] => true
  | s :: l => fits s text k && rightB l text (k + 1)
def pre (f text : List Int) : Bool := decide (text.take f.length = f)
/-- does a change turn what is to be read, behind what was written? -/
def here (c : Ch) (out text : List Int) : Bool := pre c.frm text && leftB c.left out && rightB c.right text c.frm.length

def chg (c : Ch) : Nat → List Int → List Int → List Int
  | 0, out, _ => out
  | _ + 1, out, [] => out
  | n + 1, out, x :: rest => if here c out (x :: rest) then chg c n (out ++ c.to) ((x :: rest).drop c.frm.length) else chg c n (out ++ [x]) rest
theorem chg_fuel (c : Ch) (hc : 1 ≤ c.frm.length) : ∀ (n m : Nat) (out rest : List Int), rest.length ≤ n → rest.length ≤ m → chg c n out rest = chg c m out rest := by
  intro n
  induction n with
  | zero =>
    intro m out rest h1 h2
    have : rest = [] := List.length_eq_zero_iff.1 (by omega)
    subst this
    cases m <;> rfl
  | succ n ih =>
    intro m out rest h1 h2
    cases rest with
    | nil => cases m <;> rfl
    | cons x rest =>
      cases m with
      | zero => simp at h2
      | succ m =>
        simp only [List.length_cons] at h1 h2
        simp only [chg]
        split
        · refine ih m _ _ ?_ ?_ <;> simp only [List.length_drop, List.length_cons] <;> omega
        · exact ih m _ _ (by omega) (by omega)
/-- C2: what a change makes of a text -/
def change (c : Ch) (text : List Int) : List Int := chg c text.length [] text
def going (c : Ch) (out rest : List Int) : List Int := chg c rest.length out rest
theorem going_nil (c : Ch) (out : List Int) : going c out [] = out := rfl
theorem going_yes {c : Ch} (hc : 1 ≤ c.frm.length) {out rest : List Int} (hr : rest ≠ []) (h : here c out rest = true) : going c out rest = going c (out ++ c.to) (rest.drop c.frm.length) := by
  cases rest with
  | nil => exact absurd rfl hr
  | cons x rest =>
    unfold going
    conv => lhs; simp only [List.length_cons, chg, h, if_true]
    exact chg_fuel c hc _ _ _ _ (by simp only [List.length_drop, List.length_cons]; omega) (Nat.le_refl _)
theorem going_no {c : Ch} {out : List Int} {x : Int} {rest : List Int} (h : here c out (x :: rest) = false) : going c out (x :: rest) = going c (out ++ [x]) rest := by
  unfold going
  simp only [List.length_cons, chg, h]
  rfl
theorem here_len {c : Ch} {out rest : List Int} (h : here c out rest = true) : c.frm.length ≤ rest.length := by
  simp only [here, pre, Bool.and_eq_true, decide_eq_true_eq] at h
  have := congrArg List.length h.1.1
  rw [List.length_take] at this
  omega
theorem going_len (c : Ch) (hc : Good c) : ∀ (n : Nat) (out rest : List Int), rest.length ≤ n → (going c out rest).length ≤ out.length + 2 * rest.length := by
  intro n
  induction n with
  | zero =>
    intro out rest h
    have : rest = [] := List.length_eq_zero_iff.1 (by omega)
    subst this
    simp [going_nil]
  | succ n ih =>
    intro out rest h
    cases rest with
    | nil => simp [going_nil]
    | cons x rest =>
      cases hh : here c out (x :: rest) with
      | true =>
        rw [going_yes hc.f1 (by simp) hh]
        have := ih (out ++ c.to) ((x :: rest).drop c.frm.length) (by have := hc.f1; simp only [List.length_drop, List.length_cons] at h ⊢; omega)
        simp only [List.length_append, List.length_drop, List.length_cons] at this h ⊢
        have := hc.t2
        have := hc.f1
        omega
      | false =>
        rw [going_no hh]
        have := ih (out ++ [x]) rest (by simpa using h)
        simp only [List.length_append, List.length_cons, List.length_nil] at this ⊢
        omega
/-- C2: errors of Apply -/
def applyE (c : Ch) (text : List Int) : Int := if check c ≠ 0 then check c else if 60 < text.length then 2 else if text.any (bad c.kinds) then 3 else 0
end Go.Proofs.Ytkcbgapakpheiaa.Sd
