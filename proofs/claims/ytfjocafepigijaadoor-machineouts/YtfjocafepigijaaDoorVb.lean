/- told (14): its flags and its list of symbols: how they lie. No conditions. -/
import Derived.Test.YtfjocafepigijaaDoorUz
import Derived.Test.YtfjocafepigijaaDoorVa
namespace Go.Proofs.YtfjocafepigijaaDoor.Ot
open Go.RowKit Mv Sy Po Ps Cm Pa Am Wd St Ra Set

theorem run_mk67 (W : World) : (Instr.makeSlice 67 (.int .i64 61) (.int .i64 61)).run Tryd.prog W = .ok (.slice (some ⟨W.heap.size, 0, none⟩) 61 61) (W.alloc (.cells (madeCells #[.bool false] 61) 4)) := by
  obtain ⟨i0, hi, hz0, hz1, hz2⟩ := info_parts inf4
  have hr := run_make (P := Tryd.prog) W 67 4 i0 (.bool false) Tryd.underlying67 hi hz0 .i64 .i64 61 61 (by omega) (Int.le_refl _) (by rw [hz2]; omega) (by omega)
  simp only [hz1, Nat.mul_one] at hr
  exact hr
/-- the flags and the list, when so many arcs were looked at -/
structure Fl (w wr : World) (bx fb : Nat) (mb : Array Value) (vs : Value) (fl : List Bool) (u : List Int) : Prop where
  box : wr.heap[bx]? = some (.cells mb 25 (0, 0))
  flags : wr.ownsRow w.heap.size 4 1 (.slice (some ⟨fb, 0, none⟩) 61 61) 61 (fl.map Value.bool)
  len : fl.length = 61
  is : ∀ c : Nat, c < 61 → fl[c]? = some (decide ((c : Int) ∈ u))
  row : wr.ownsRow w.heap.size 3 1 vs u.length (ints u)
  below : Below w.heap.size w wr
/-- a new symbol: its flag -/
theorem Fl.flag {w wr : World} {bx fb c : Nat} {mb : Array Value} {vs : Value} {fl : List Bool} {u : List Int} (h : Fl w wr bx fb mb vs fl u) (hc : c < 61) : ∃ fl' : List Bool, fl'.length = 61 ∧ (∀ d : Nat, d < 61 → fl'[d]? = some (decide ((d : Int) ∈ u ++ [(c : Int)]))) ∧ (wr.setCell ⟨fb, c, none⟩ (.bool true)).heap[bx]? = some (.cells mb 25 (0, 0)) ∧ (wr.setCell ⟨fb, c, none⟩ (.bool true)).ownsRow w.heap.size 4 1 (.slice (some ⟨fb, 0, none⟩) 61 61) 61 (fl'.map Value.bool) ∧ (wr.setCell ⟨fb, c, none⟩ (.bool true)).ownsRow w.heap.size 3 1 vs u.length (ints u) ∧ Below w.heap.size w (wr.setCell ⟨fb, c, none⟩ (.bool true)) := by
  have hk : Kp (fun b => b = fb) wr (wr.setCell ⟨fb, c, none⟩ (.bool true)) := (Kp.refl _ wr).setCell _ _ _ (fun _ => rfl)
  obtain ⟨d, hd⟩ := own_ty h.flags (k := fb) rfl
  have hge := (h.flags.lt fb rfl).1
  have hst := (h.flags.stored c (.bool true)).1
  refine ⟨fl.set c true, by rw [List.length_set]; exact h.len, fun e he => ?_, (hk.block _ (lt_at h.box) (fun e => by subst e; exact ty_ne h.box hd (by decide))).trans h.box, by rw [List.map_set]; exact hst, own_kp2 h.row hk (fun b hb e => by subst e; obtain ⟨d', hd'⟩ := own_ty h.row hb; exact ty_ne hd' hd (by decide)), ⟨hk.os.trans h.below.os, hk.tape.trans h.below.tape, hk.output.trans h.below.output, Nat.le_trans h.below.size hk.size, fun k hlt => (hk.block k (Nat.lt_of_lt_of_le hlt h.below.size) (fun e => by omega)).trans (h.below.block k hlt)⟩⟩
  by_cases ec : c = e
  · subst ec
    rw [List.getElem?_set_self (by rw [h.len]; exact hc)]
    simp
  · rw [List.getElem?_set_ne ec, h.is e he]
    have e2 : ¬ (e : Int) = (c : Int) := by omega
    simp [e2]
/-- and its place in the list -/
theorem Fl.sym {w wr w1 : World} {bx fb : Nat} {mb : Array Value} {vs v1 : Value} {fl' : List Bool} {u : List Int} {c : Int} (hl : fl'.length = 61) (his : ∀ d : Nat, d < 61 → fl'[d]? = some (decide ((d : Int) ∈ u ++ [c]))) (hbx : wr.heap[bx]? = some (.cells mb 25 (0, 0))) (hfl : wr.ownsRow w.heap.size 4 1 (.slice (some ⟨fb, 0, none⟩) 61 61) 61 (fl'.map Value.bool)) (hr : wr.ownsRow w.heap.size 3 1 vs u.length (ints u)) (hb : Below w.heap.size w wr)
    (ho : w1.ownsRow w.heap.size 3 1 v1 (u.length + 1) (ints u ++ [.int .i64 c])) (hg : wr.grownBy w1 vs.ownBlock) : Fl w w1 bx fb mb v1 fl' (u ++ [c]) := by
  have hk : Kp (fun b => vs.ownBlock = some b) wr w1 := (Kp.refl _ wr).grown hg (fun b hb _ => hb)
  have nt : ∀ {b : Nat} {d : Array Value} {ty : TypeId}, wr.heap[b]? = some (.cells d ty (0, 0)) → ty ≠ 3 → ¬ vs.ownBlock = some b := fun {b d ty} hb hne e => by
    obtain ⟨d', hd'⟩ := own_ty hr e; exact ty_ne hb hd' hne
  exact ⟨(hk.block _ (lt_at hbx) (nt hbx (by decide))).trans hbx, own_kp2 hfl hk (fun b hb1 => by obtain ⟨d, hd⟩ := own_ty hfl hb1; exact nt hd (by decide)), hl, his, by rw [List.length_append, show ints (u ++ [c]) = ints u ++ [.int .i64 c] by simp [ints]]; exact ho, hb.grown hg hb.size (fun b hb1 => (hr.lt _ hb1).1)⟩
end Go.Proofs.YtfjocafepigijaaDoor.Ot
