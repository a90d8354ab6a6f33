/- The program's apart. Condition: both texts have at most 200 units. -/
import Derived.Test.YtiiheaopamjijaaNx
namespace Go.Proofs.Ytiiheaopamjijaa.Ap
open Go.RowKit Uni UnitsP Rw Ay Fi Nx

/-- the row behind some units -/
def rowOf (l us : List ByteArray) : Nat → Int := us.foldl (fun f u => nx u l f) (f0 l.length)
theorem rowOf_snoc (l us : List ByteArray) (u : ByteArray) : rowOf l (us ++ [u]) = nx u l (rowOf l us) := by simp [rowOf]
theorem rowOf_take (l us : List ByteArray) (k : Nat) (h : k < us.length) : rowOf l (us.take (k + 1)) = nx us[k] l (rowOf l (us.take k)) := by
  rw [List.take_add_one, List.getElem?_eq_getElem h]
  exact rowOf_snoc _ _ _
theorem fold_bd (l : List ByteArray) : ∀ (us : List ByteArray) (f : Nat → Int) (M : Int), (∀ j, 0 ≤ f j ∧ f j ≤ M) → ∀ j, 0 ≤ us.foldl (fun f u => nx u l f) f j ∧ us.foldl (fun f u => nx u l f) f j ≤ M + us.length
  | [], f, M, h, j => by simpa using h j
  | u :: us, f, M, h, j => by
    have := fold_bd l us (nx u l f) (M + 1) (nx_bd u l f M h) j
    rw [List.foldl_cons, List.length_cons]
    omega
theorem rowOf_bd (l us : List ByteArray) (hl : l.length ≤ 200) (j : Nat) : 0 ≤ rowOf l us j ∧ rowOf l us j ≤ 200 + us.length :=
  fold_bd l us (f0 l.length) 200 (fun j => by unfold f0; split <;> omega) j

set_option maxHeartbeats 1000000 in
set_option maxRecDepth 100000 in
theorem apart_any (v v' : Value) (us l : List ByteArray) (w : World) (h : IsZ w v us) (h' : IsZ w v' l) (hn : us.length ≤ 200) (hn' : l.length ≤ 200) :
    Calls Try.prog 12 #[v, v'] w fun e w' => e = .returned (.int .i64 (rowOf l us l.length)) ∧ Below w.heap.size w w' := by
  obtain ⟨a, cap, rfl, hc⟩ := h.len
  have hz := z52
  obtain ⟨a', cap', rfl, hc'⟩ := h'.len
  have c1 := first_any (.slice a' l.length cap') l w h' hn'
  have hbd := fun k => rowOf_bd l (us.take k) hn'
  go_enter Try.func12, Try.ntmps12
  go_wp2_with (first
    | (go_at_call 21; refine c1.mono ?_; rintro e w1 ⟨rfl, hb1⟩)
    | (with_reducible show wpList _ _ _ ({ dst := _, op := Op.store 52 _ _, type := _, pos := _, after := _, guard := _ } :: _) _ _; refine wpList_st rfl (.tmp 5) (.tmp 9) rfl _ _ _ rfl rfl (Arr.new _ _) ?_))
  obtain ⟨W, hW⟩ : ∃ W, (w1.alloc (Obj.cells (cs fun x => 0) 52)).setRow w1.heap.size (cs (f0 l.length)) = W := ⟨_, rfl⟩
  have A0 : Arr W w1.heap.size (rowOf l []) := by rw [← hW]; exact (Arr.new _ _).row _
  have BW : Below w1.heap.size w1 W := by rw [← hW]; exact below_setRow ((Below.refl _ _).alloc (Nat.le_refl _) _) (Nat.le_refl _) _
  go_wp2
  rw [hW]
  clear hW hz c1
  go_loopw [12] (fun i wr => ∃ k : Nat, i = .int .i64 k ∧ k ≤ us.length ∧ Arr wr w1.heap.size (rowOf l (us.take k)) ∧ Below w1.heap.size w1 wr) (fun i _ => us.length - (intOf i).toNat)
  case atStart => exact ⟨0, rfl, by omega, A0, BW⟩
  case round =>
    obtain ⟨k, rfl, hk, R0, RB⟩ := hrel
    have RW := hb1.trans (RB.mono hb1.size)
    by_cases hlt : k < us.length
    · obtain ⟨bl, ol, rfl⟩ := h.addr (by omega)
      have hat := h.at k hlt
      have p := (RW.cell (p := ⟨bl, ol + k, none⟩) hat.1).trans hat.2
      have c2 := next_any (rowOf l (us.take k)) us[k] (.slice a' l.length cap') l wr (h'.below RW) hn' (fun j => by have := hbd k j; rw [List.length_take] at this; omega)
      have eS := rowOf_take l us k hlt
      clear hat
      go_wp2_with (first
        | (go_at_call 22; refine c2.mono ?_; rintro e w2 ⟨rfl, hb2⟩; have R2 := R0.below hb2 R0.lt)
        | (with_reducible show wpList _ _ _ ({ dst := _, op := Op.load 52 _, type := _, pos := _, after := _, guard := _ } :: _) _ _; refine wpList_ld rfl (.tmp 5) rfl _ _ rfl R0 ?_)
        | (with_reducible show wpList _ _ _ ({ dst := _, op := Op.store 52 _ _, type := _, pos := _, after := _, guard := _ } :: _) _ _; refine wpList_st rfl (.tmp 5) (.tmp 19) rfl _ _ _ rfl rfl R2 ?_))
      have R3 := (R2.row (nx us[k] l (rowOf l (us.take k)))).congr (g := rowOf l (us.take (k + 1))) (fun j _ => by rw [eS])
      exact ⟨⟨k + 1, by simp, by omega, R3, below_setRow (RB.trans (hb2.mono RB.size)) (Nat.le_refl _) _⟩, by simp [intOf]; omega⟩
    · have : k = us.length := by omega
      subst this
      have c := R0.cell l.length (by omega)
      rw [List.take_length] at c
      go_wp2
      go_ret
      exact ⟨rfl, RW⟩
end Go.Proofs.Ytiiheaopamjijaa.Ap
