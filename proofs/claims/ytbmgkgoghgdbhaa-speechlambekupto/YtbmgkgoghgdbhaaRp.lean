/- The document's RightProof, whole; asksRight. Conditions: the parts are right, no left is too long. -/
import Derived.Test.YtbmgkgoghgdbhaaRo1M
import Derived.Test.YtbmgkgoghgdbhaaRo2
import Derived.Test.YtbmgkgoghgdbhaaRo3
import Derived.Test.YtbmgkgoghgdbhaaRo4
import Derived.Test.YtbmgkgoghgdbhaaRo5
import Derived.Test.YtbmgkgoghgdbhaaRo6
namespace Go.Proofs.Ytbmgkgoghgdbhaa.Te
open Go.RowKit

theorem rp_any : ∀ (e : Nat) {P : Nat → Prop} {d : Nat} (p : Pf) (x : Pl) (w : World) (r : Bool), PfAt P w d e p x → Gpf p → Lpf p → (r = true ↔ Rt p) → Calls Try.prog 19 #[vpf p x] w fun e w' => e = .returned (.bool r) ∧ Below w.heap.size w w' := by
  intro e
  induction e with
  | zero => intro P d p x w r h; exact h.elim
  | succ e ih =>
    intro P d p x w r h hg hl hr
    by_cases hb : p.left.length = 0 ∨ p.step < 1 ∨ 6 < p.step
    · exact rp_B ih p x w r h hg hl hr hb
    · have hs : p.step = 1 ∨ p.step = 2 ∨ p.step = 3 ∨ p.step = 4 ∨ p.step = 5 ∨ p.step = 6 := by omega
      have h0 : p.left.length ≠ 0 := by omega
      rcases hs with hs | hs | hs | hs | hs | hs
      · exact rp_1 ih p x w r h hg hl hr ⟨h0, hs⟩
      · exact rp_2 ih p x w r h hg hl hr ⟨h0, hs⟩
      · exact rp_3 ih p x w r h hg hl hr ⟨h0, hs⟩
      · exact rp_4 ih p x w r h hg hl hr ⟨h0, hs⟩
      · exact rp_5 ih p x w r h hg hl hr ⟨h0, hs⟩
      · exact rp_6 ih p x w r h hg hl hr ⟨h0, hs⟩
end Go.Proofs.Ytbmgkgoghgdbhaa.Te
