/- The program's next row. Condition: the numbers of the row are at most 1000. -/
import Derived.Test.YtiiheaopamjijaaFi
import Derived.Lib.SlicesS
namespace Go.Proofs.Ytiiheaopamjijaa.Nx
open Go.RowKit Uni UnitsP Rw Ay

/-- the next row -/
def nx (u : ByteArray) (l : List ByteArray) (f : Nat → Int) : Nat → Int
  | 0 => f 0 + 1
  | n + 1 => if h : n < l.length then (if u = l[n] then f n else 1 + min (min (f n) (nx u l f n)) (f (n + 1))) else f (n + 1)
/-- so many of it have been laid -/
def half (u : ByteArray) (l : List ByteArray) (f : Nat → Int) (k : Nat) : Nat → Int := fun j => if j ≤ k then nx u l f j else f j
theorem half_zero (u : ByteArray) (l : List ByteArray) (f : Nat → Int) (j : Nat) : upd f 0 (f 0 + 1) j = half u l f 0 j := by
  unfold upd half
  by_cases e : j = 0
  · subst e
    simp [nx]
  · rw [if_neg e, if_neg (by omega)]
theorem half_all (u : ByteArray) (l : List ByteArray) (f : Nat → Int) (j : Nat) : half u l f l.length j = nx u l f j := by
  unfold half
  by_cases h : j ≤ l.length
  · rw [if_pos h]
  · rw [if_neg h]
    obtain ⟨j, rfl⟩ : ∃ i, j = i + 1 := ⟨j - 1, by omega⟩
    simp only [nx]
    rw [dif_neg (by omega)]
theorem half_succ (u : ByteArray) (l : List ByteArray) (f : Nat → Int) (k j : Nat) : upd (half u l f k) (k + 1) (nx u l f (k + 1)) j = half u l f (k + 1) j := by
  unfold upd half
  by_cases e : j = k + 1
  · subst e
    simp
  · rw [if_neg e]
    by_cases h : j ≤ k
    · rw [if_pos h, if_pos (by omega)]
    · rw [if_neg h, if_neg (by omega)]
theorem nx_bd (u : ByteArray) (l : List ByteArray) (f : Nat → Int) (M : Int) (hf : ∀ j, 0 ≤ f j ∧ f j ≤ M) : ∀ j, 0 ≤ nx u l f j ∧ nx u l f j ≤ M + 1 := by
  intro j
  induction j with
  | zero => have := hf 0; simp only [nx]; omega
  | succ j ih =>
    have h1 := hf j
    have h2 := hf (j + 1)
    simp only [nx]
    split
    · split <;> omega
    · omega

set_option maxHeartbeats 1000000 in
set_option maxRecDepth 100000 in
theorem next_any (f : Nat → Int) (u : ByteArray) (v : Value) (l : List ByteArray) (w : World) (h : IsZ w v l) (hn : l.length ≤ 200) (hf : ∀ j, 0 ≤ f j ∧ f j ≤ 1000) :
    Calls Try.prog 22 #[.agg (cs f), .string u, v] w fun e w' => e = .returned (.agg (cs (nx u l f))) ∧ Below w.heap.size w w' := by
  obtain ⟨a, cap, rfl, hc⟩ := h.len
  have hz := z52
  have c0 : ∀ o, ((w.alloc (Obj.cells (cs f) 52)).alloc o).cell? ⟨w.heap.size, 0, none⟩ = some (.int .i64 (f 0)) := fun o => ((Arr.new w f).alloc o).cell 0 (by decide)
  have c1 : ∀ o, ((w.alloc (Obj.cells (cs f) 52)).alloc o).frozen? ⟨w.heap.size, 0, none⟩ = false := fun o => ((Arr.new w f).alloc o).frozen 0
  have hw0 : IntKind.i64.wrap (f 0 + 1) = f 0 + 1 := by
    have := hf 0
    rw [IntKind.wrap_i64]
    omega
  go_enter Try.func22, Try.ntmps22
  go_wp2
  obtain ⟨W, hW⟩ : ∃ W, (w.alloc (Obj.cells ((cs f).setIfInBounds 0 (.int .i64 (f 0 + 1))) 52)).alloc (Obj.cells (cs fun x => 0) 52) = W := ⟨_, rfl⟩
  rw [hW]
  rw [cs_upd, cs_ext (fun j _ => half_zero u l f j)] at hW
  have A0 : Arr W w.heap.size (half u l f 0) := by rw [← hW]; exact (Arr.new w _).alloc _
  have A1 : Arr W (w.heap.size + 1) (fun _ => 0) := by
    have := Arr.new (w.alloc (Obj.cells (cs (half u l f 0)) 52)) (fun _ => 0)
    rw [World.size_alloc] at this
    rw [← hW]
    exact this
  have BW : Below w.heap.size w W := by rw [← hW]; exact ((Below.refl _ _).alloc (Nat.le_refl _) _).alloc (by simp) _
  clear hW hz c0 c1 hw0
  have hg := nx_bd u l f 1000 hf
  go_loopw [7, 19] (fun x i wr => ∃ k : Nat, x = .int .i64 (f k) ∧ i = .int .i64 k ∧ k ≤ l.length ∧ Arr wr w.heap.size (half u l f k) ∧ Arr wr (w.heap.size + 1) (fun _ => 0) ∧ Below w.heap.size w wr) (fun _ i _ => l.length - (intOf i).toNat)
  case atStart => exact ⟨0, rfl, rfl, by omega, A0, A1, BW⟩
  case round =>
    obtain ⟨k, rfl, rfl, hk, R0, R1, RB⟩ := hrel
    by_cases hlt : k < l.length
    · obtain ⟨bl, ol, rfl⟩ := h.addr (by omega)
      have hat := h.at k hlt
      have p := (RB.cell (p := ⟨bl, ol + k, none⟩) hat.1).trans hat.2
      have c1 := R0.cell k (by omega)
      have c2 := R0.cell (k + 1) (by omega)
      have c3 := R0.frozen (k + 1)
      have e1 : half u l f k k = nx u l f k := by simp [half]
      have e2 : half u l f k (k + 1) = f (k + 1) := by unfold half; rw [if_neg (by omega)]
      rw [e1] at c1
      rw [e2] at c2
      have b1 := hf k
      have b2 := hf (k + 1)
      have b3 := hg k
      have S := fun j => half_succ u l f k j
      by_cases hu : u = l[k]
      · have hub : (u.toList == l[k].toList) = true := (Go.Lib.bytes_beq_iff _ _).2 hu
        have hS : nx u l f (k + 1) = f k := by simp only [nx]; rw [dif_pos hlt, if_pos hu]
        have HS : Hid (∀ j, j < 201 → upd (half u l f k) (k + 1) (f k) j = half u l f (k + 1) j) := fun j _ => by rw [← hS]; exact S j
        clear S hS hu e1 e2 hat
        go_wp2
        exact ⟨⟨k + 1, rfl, by simp, by omega, (R0.set (k + 1) _).congr HS.out, R1.setOther (by simp) _, RB.setCell (Nat.le_refl _) _⟩, by simp [intOf]; omega⟩
      · have hub : (u.toList == l[k].toList) = false := (Go.Lib.bytes_beq_false_iff _ _).2 hu
        have hS : nx u l f (k + 1) = 1 + min (min (f k) (nx u l f k)) (f (k + 1)) := by simp only [nx]; rw [dif_pos hlt, if_neg hu]
        have HS : Hid (∀ j, j < 201 → upd (half u l f k) (k + 1) (1 + min (min (f k) (nx u l f k)) (f (k + 1))) j = half u l f (k + 1) j) := fun j _ => by rw [← hS]; exact S j
        clear S hS hu e1 e2 hat
        obtain ⟨x, hx⟩ : ∃ x, f k = x := ⟨_, rfl⟩
        obtain ⟨y, hy⟩ : ∃ y, nx u l f k = y := ⟨_, rfl⟩
        obtain ⟨z, hz⟩ : ∃ z, f (k + 1) = z := ⟨_, rfl⟩
        rw [hx, hy, hz] at HS
        rw [hx] at b1
        rw [hy] at c1 b3
        rw [hz] at c2 b2
        rw [hx]
        have FIN : Hid (Value.int .i64 z = Value.int .i64 (f (k + 1))) := by rw [hz]; trivial
        clear hx hy hz
        have hm : 0 ≤ min (min x y) z ∧ min (min x y) z ≤ 1000 := by omega
        go_wp2
        go_region
        go_wp2
        have eM : (1 + if z < if y < x then y else x then z else if y < x then y else x) = 1 + min (min x y) z := by
          split <;> split <;> omega
        rw [eM]
        exact ⟨⟨k + 1, FIN.out, by simp, by omega, ((R0.set (k + 1) _).congr HS.out).drew, (R1.setOther (by simp) _).drew, (RB.setCell (Nat.le_refl _) _).drew⟩, by simp [intOf]; omega⟩
    · have : k = l.length := by omega
      subst this
      have R0' := R0.congr (fun j _ => half_all u l f j)
      have R2 := R1.row (nx u l f)
      go_wp2_with (first
        | (with_reducible show wpList _ _ _ ({ dst := _, op := Op.load 52 _, type := _, pos := _, after := _, guard := _ } :: _) _ _; refine wpList_ld rfl (.tmp 3) rfl _ _ rfl R0' ?_)
        | (with_reducible show wpList _ _ _ ({ dst := _, op := Op.store 52 _ _, type := _, pos := _, after := _, guard := _ } :: _) _ _; refine wpList_st rfl (.tmp 6) (.tmp 47) rfl _ _ _ rfl rfl R1 ?_))
      exact bodyPost_ret (results_arr rfl rfl R2) rfl ⟨rfl, below_setRow RB (by omega) _⟩
end Go.Proofs.Ytiiheaopamjijaa.Nx
