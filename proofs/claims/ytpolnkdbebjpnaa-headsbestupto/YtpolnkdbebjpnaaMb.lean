/- highest (36): each word hangs where that is worth the most. Condition: at most 1000 words. -/
import Derived.Test.YtpolnkdbebjpnaaMa
import Derived.Deep.RegionHeld
import Derived.Deep.Cut
import Derived.Deep.CutRange
namespace Go.Proofs.Ytpolnkdbebjpnaa.Hd
open Go.RowKit

/-- words 1 to i hang best -/
def HiN (n : Nat) (s : Nat → Nat → Int) (u : Nat → Nat) (i : Nat) : Prop := ∀ w, 1 ≤ w → w ≤ i → u w ≤ n ∧ u w ≠ w ∧ ∀ h, h ≤ n → h ≠ w → s h w ≤ s (u w) w
/-- word i + 1 hangs best of all below h -/
def HiH (n : Nat) (s : Nat → Nat → Int) (c i h : Nat) : Prop := c ≤ n ∧ c ≠ i + 1 ∧ ∀ h', h' < h → h' ≠ i + 1 → s h' (i + 1) ≤ s c (i + 1)
/-- the slice of a tree that is made -/
structure Ul (w wr : World) (g n : Nat) (ul : List Nat) : Prop where
  row : wr.ownsRow w.heap.size 3 1 (.slice (some ⟨g, 0, none⟩) n n) n (ns ul)
  len : ul.length = n
  below : Below w.heap.size w wr
theorem Ul.laid {w wr w1 : World} {g n : Nat} {ul : List Nat} (h : Ul w wr g n ul) (hb : Below wr.heap.size wr w1) : Ul w w1 g n ul :=
  ⟨own_kp2 h.row (kp_below hb (fun _ => False)) (fun _ _ => id), h.len, h.below.trans (hb.mono h.below.size)⟩
theorem Ul.set {w wr : World} {g n : Nat} {ul : List Nat} (h : Ul w wr g n ul) (i x : Nat) : Ul w (wr.setCell ⟨g, i, none⟩ (.int .i64 (x : Int))) g n (ul.set i x) := by
  have hs := (h.row.stored i (.int .i64 (x : Int))).1
  rw [ns_set] at hs
  exact ⟨hs, by rw [List.length_set]; exact h.len, below_kp h.below ((Kp.refl (fun b => b = g) wr).setCell _ _ _ (fun _ => rfl)) (fun b hb e => by have := (h.row.lt g rfl).1; omega)⟩
theorem Ul.cell {w wr : World} {g n : Nat} {ul : List Nat} (h : Ul w wr g n ul) {i : Nat} (hi : i < n) : wr.cell? ⟨g, i, none⟩ = some (.int .i64 (uv ul (i + 1) : Int)) :=
  (h.row.cellAt i (by omega)).trans (ns_uv (by rw [h.len]; exact hi))
/-- what is handed back: a new list of n numbers -/
def UpQ (n : Nat) (P : List Nat → Prop) (w : World) (e : Ending) (w' : World) : Prop := ∃ g ul, e = .returned (.slice (some ⟨g, 0, none⟩) n n) ∧ Ul w w' g n ul ∧ P ul
set_option maxHeartbeats 4000000 in
set_option maxRecDepth 100000 in
theorem highest_any (n b off cap : Nat) (ra : Nat → Option Addr) (rc : Nat → Nat) (s : Nat → Nat → Int) (w : World) (hS : Sc w b off n ra rc s) (hn : n ≤ 1000) :
    Calls Try.prog 36 #[.slice (some ⟨b, off, none⟩) (n + 1) cap] w (UpQ n (fun ul => Hi n s (uv ul)) w) := by
  have hmk := run_mk26n n (by omega)
  have HS : Hid (∀ W, Below w.heap.size w W → Sc W b off n ra rc s) := fun W hW => hS.below hW
  have HU : Hid (Ul w (w.alloc (.cells (madeCells #[.int .i64 0] n) 3)) w.heap.size n (List.replicate n 0)) := ⟨own_mk26n _ _ _ (Nat.le_refl _) (by omega), List.length_replicate, below_al _ _⟩
  obtain ⟨m, hm⟩ : ∃ m, n + 1 = m := ⟨_, rfl⟩
  have HM : Hid (n + 1 = m) := hm
  have hw1 : wrap64 ((m : Int) - 1) = (n : Int) := by unfold wrap64; omega
  have HN : Hid (n ≤ 1000) := hn
  rw [hm]
  clear hS hm hn
  go_enter Try.func36, Try.ntmps36
  go_upto_region 2 with fail
  clear hmk hw1
  obtain ⟨g, hg⟩ : ∃ g, w.heap.size = g := ⟨_, rfl⟩
  have HU0 : Hid (Ul w (w.alloc (.cells (madeCells #[.int .i64 0] n) 3)) g n (List.replicate n 0) ∧ HiN n s (uv (List.replicate n 0)) 0) := ⟨by have h := HU.out; rw [hg] at h; exact h, fun w h1 h2 => by omega⟩
  try rw [hg]
  clear HU hg
  generalize w.alloc (.cells (madeCells #[.int .i64 0] n) 3) = W0 at *
  go_upto_region 3 with fail
  go_loopw [12] (fun a wr => ∃ (i : Nat) (ul : List Nat), a = .int .i64 (i : Int) ∧ i ≤ n ∧ Ul w wr g n ul ∧ HiN n s (uv ul) i ∧ ∀ j, i < j → j ≤ n → uv ul j = 0) (fun a _ => n - (intOf a).toNat)
  case atStart => exact ⟨0, _, rfl, Nat.zero_le _, HU0.out.1, HU0.out.2, fun j h1 h2 => by
    cases j with
    | zero => rfl
    | succ j => show (List.replicate n 0).getD j 0 = 0; rw [List.getD_eq_getElem?_getD, List.getElem?_replicate]; split <;> rfl⟩
  case round =>
    clear HU0
    obtain ⟨i, ul, rfl, hi, hul, hhi, hze⟩ := hrel
    have HL : Hid (Ul w wr g n ul ∧ HiN n s (uv ul) i ∧ ∀ j, i < j → j ≤ n → uv ul j = 0) := ⟨hul, hhi, hze⟩
    clear hul hhi hze
    by_cases hlt : i < n
    · have hii : (i : Int) < (n : Int) := by omega
      have hnb := HN.out
      have hw2 : wrap64 ((i : Int) + 1) = ((i + 1 : Nat) : Int) := by unfold wrap64; omega
      have HL0 : Hid (Ul w wr g n ul ∧ HiN n s (uv ul) i ∧ (∀ j, i + 1 < j → j ≤ n → uv ul j = 0) ∧ HiH n s (uv ul (i + 1)) i 0) := ⟨HL.out.1, HL.out.2.1, fun j h1 h2 => HL.out.2.2 j (by omega) h2, by rw [HL.out.2.2 (i + 1) (by omega) (by omega)]; exact ⟨by omega, by omega, fun h' h => absurd h (Nat.not_lt_zero _)⟩⟩
      clear HL hw2
      go_upto_region 6 with fail
      go_loopw [17] (fun a wr => ∃ (h : Nat) (ul : List Nat), a = .int .i64 (h : Int) ∧ h ≤ m ∧ Ul w wr g n ul ∧ HiN n s (uv ul) i ∧ (∀ j, i + 1 < j → j ≤ n → uv ul j = 0) ∧ HiH n s (uv ul (i + 1)) i h) (fun a _ => m - (intOf a).toNat)
      case atStart => exact ⟨0, _, rfl, Nat.zero_le _, HL0.out.1, HL0.out.2.1, HL0.out.2.2.1, HL0.out.2.2.2⟩
      case round =>
        clear HL0
        obtain ⟨h, ul, rfl, hh, hul, hhi, hze, hhh⟩ := hrel
        obtain ⟨c, hc⟩ : ∃ c, uv ul (i + 1) = c := ⟨_, rfl⟩
        rw [hc] at hhh
        have HC : Hid (uv ul (i + 1) = c) := hc
        have HL : Hid (Ul w wr g n ul ∧ HiN n s (uv ul) i ∧ (∀ j, i + 1 < j → j ≤ n → uv ul j = 0) ∧ HiH n s c i h) := ⟨hul, hhi, hze, hhh⟩
        have hcn : c ≤ n := hhh.1
        have HMM : Hid (m ≤ 1001) := by have := HM.out; have := HN.out; show _ ≤ _; omega
        clear hul hhi hze hhh hc
        by_cases hlt2 : h < m
        · have hhi : (h : Int) < (m : Int) := by omega
          have hhn : h ≤ n := by have := HM.out; omega
          obtain ⟨rbh, roh, e1, _, hc1⟩ := (HS.out _ HL.out.1.below).num h hhn (by omega)
          obtain ⟨rbc, roc, e2, _, hc2⟩ := (HS.out _ HL.out.1.below).num c hcn (by omega)
          obtain ⟨xh, hxh⟩ : ∃ x, s h (i + 1) = x := ⟨_, rfl⟩
          obtain ⟨xc, hxc⟩ : ∃ x, s c (i + 1) = x := ⟨_, rfl⟩
          have HX : Hid (s h (i + 1) = xh ∧ s c (i + 1) = xc) := ⟨hxh, hxc⟩
          obtain ⟨kh, hkh⟩ : ∃ k, rc h = k := ⟨_, rfl⟩
          obtain ⟨kc, hkc⟩ : ∃ k, rc c = k := ⟨_, rfl⟩
          have HBX : Hid (∀ W, Below wr.heap.size wr W → W.cell? ⟨b, off + h, none⟩ = some (.slice (some ⟨rbh, roh, none⟩) n kh) ∧ W.cell? ⟨rbh, roh + i, none⟩ = some (.int .i64 xh) ∧ W.cell? ⟨g, i, none⟩ = some (.int .i64 (c : Int)) ∧ W.cell? ⟨b, off + c, none⟩ = some (.slice (some ⟨rbc, roc, none⟩) n kc) ∧ W.cell? ⟨rbc, roc + i, none⟩ = some (.int .i64 xc)) := fun W hW => by
            have hs := HS.out W (HL.out.1.laid hW).below
            have h1 := hs.row h hhn
            have h2 := hs.row c hcn
            obtain ⟨rb1, ro1, f1, _, g1⟩ := hs.num h hhn (by omega)
            obtain ⟨rb2, ro2, f2, _, g2⟩ := hs.num c hcn (by omega)
            rw [e1] at f1 h1
            rw [e2] at f2 h2
            cases f1
            cases f2
            have h3 := (HL.out.1.laid hW).cell hlt
            rw [HC.out] at h3
            rw [hkh] at h1
            rw [hkc] at h2
            have h4 := g1 i hlt
            have h5 := g2 i hlt
            rw [hxh] at h4
            rw [hxc] at h5
            exact ⟨h1, h4, h3, h2, h5⟩
          clear e1 hc1 e2 hc2 hxh hxc hkh hkc
          have hci : (c : Int) < (m : Int) := by have := HM.out; omega
          by_cases hne : h = i + 1
          · have q1 : ((h : Int) != (i : Int) + 1) = false := by rw [hne]; simp
            have hw2 : IntKind.i64.wrap ((i : Int) + 1) = (i : Int) + 1 := by rw [IntKind.wrap_i64]; omega
            go_upto_region 8 with fail
            refine wp_region_held_drew (S := fun W => Below wr.heap.size wr W) (by kernel_rfl) (by exact below_drewN (Below.refl _ _) 1) (fun hHeld => ?_)
            have hS0 := hHeld
            generalize hV0 : wr.drew = V0 at *
            clear hV0
            refine wpAnyH_take (i := 0) (oi := { dst := some 20, op := Op.move (Operand.tmp 5), type := 3, pos := "best.go:27", after := #[], guard := none }) (v := ?_) rfl (by kernel_rfl) (by kernel_rfl) (by kernel_rfl) (fun _ _ _ h => h) (Or.inl ⟨by rfl, ?_⟩) (by assumption) ?_
            case refine_2 => intro w hSw; (try dsimp only at hSw); go_simp; (try with_reducible rfl)
            simp only [Act.put, List.setIfInBounds_toArray, List.set_cons_zero, List.set_cons_succ]
            refine wpAnyH_take (i := 1) (oi := { dst := some 21, op := Op.move (Operand.tmp 4), type := 3, pos := "best.go:27", after := #[], guard := none }) (v := ?_) rfl (by kernel_rfl) (by kernel_rfl) (by kernel_rfl) (fun _ _ _ h => h) (Or.inl ⟨by rfl, ?_⟩) (by assumption) ?_
            case refine_2 => intro w hSw; (try dsimp only at hSw); go_simp; (try with_reducible rfl)
            simp only [Act.put, List.setIfInBounds_toArray, List.set_cons_zero, List.set_cons_succ]
            refine wpAnyH_take (i := 2) (oi := { dst := some 22, op := Op.binOp BinOp.add 3 (Operand.tmp 21) (Operand.const (Value.int IntKind.i64 1)) 3, type := 3, pos := "best.go:27", after := #[{ on := 1, ground := Ground.data }], guard := none }) (v := ?_) rfl (by kernel_rfl) (by kernel_rfl) (by kernel_rfl) (fun _ _ _ h => h) (Or.inl ⟨by rfl, ?_⟩) (by assumption) ?_
            case refine_2 => intro w hSw; (try dsimp only at hSw); go_simp; (try with_reducible rfl)
            simp only [Act.put, List.setIfInBounds_toArray, List.set_cons_zero, List.set_cons_succ]
            refine wpAnyH_take (i := 3) (oi := { dst := some 23, op := Op.binOp BinOp.neq 3 (Operand.tmp 20) (Operand.tmp 22) 3, type := 4, pos := "best.go:27", after := #[{ on := 0, ground := Ground.data }, { on := 2, ground := Ground.data }], guard := none }) (v := ?_) rfl (by kernel_rfl) (by kernel_rfl) (by kernel_rfl) (fun _ _ _ h => h) (Or.inl ⟨by rfl, ?_⟩) (by assumption) ?_
            case refine_2 => intro w hSw; (try dsimp only at hSw); go_simp; (try with_reducible rfl)
            simp only [Act.put, List.setIfInBounds_toArray, List.set_cons_zero, List.set_cons_succ]
            refine wpAnyH_take (i := 4) (oi := { dst := some 24, op := Op.move (Operand.tmp 23), type := 4, pos := "best.go:27", after := #[{ on := 3, ground := Ground.data }], guard := none }) (v := ?_) rfl (by kernel_rfl) (by kernel_rfl) (by kernel_rfl) (fun _ _ _ h => h) (Or.inl ⟨by rfl, ?_⟩) (by assumption) ?_
            case refine_2 => intro w hSw; (try dsimp only at hSw); go_simp; (try with_reducible rfl)
            simp only [Act.put, List.setIfInBounds_toArray, List.set_cons_zero, List.set_cons_succ]
            refine wpAnyH_take (i := 5) (oi := { dst := some 25, op := Op.move (Operand.tmp 0), type := 22, pos := "best.go:27", after := #[{ on := 4, ground := Ground.guard }], guard := some (4, true) }) (v := undef) rfl (by kernel_rfl) (by kernel_rfl) (by kernel_rfl) (fun _ _ _ h => h) (Or.inr ⟨by rfl, rfl⟩) (by assumption) ?_
            simp only [Act.put, List.setIfInBounds_toArray, List.set_cons_zero, List.set_cons_succ]
            refine wpAnyH_take (i := 6) (oi := { dst := some 26, op := Op.move (Operand.tmp 5), type := 3, pos := "best.go:27", after := #[{ on := 4, ground := Ground.guard }], guard := some (4, true) }) (v := undef) rfl (by kernel_rfl) (by kernel_rfl) (by kernel_rfl) (fun _ _ _ h => h) (Or.inr ⟨by rfl, rfl⟩) (by assumption) ?_
            simp only [Act.put, List.setIfInBounds_toArray, List.set_cons_zero, List.set_cons_succ]
            refine wpAnyH_take (i := 7) (oi := { dst := some 27, op := Op.indexAddr 22 (Operand.tmp 25) (Operand.tmp 26), type := 0, pos := "best.go:27", after := #[{ on := 5, ground := Ground.data }, { on := 6, ground := Ground.data }, { on := 4, ground := Ground.guard }], guard := some (4, true) }) (v := undef) rfl (by kernel_rfl) (by kernel_rfl) (by kernel_rfl) (fun _ _ _ h => h) (Or.inr ⟨by rfl, rfl⟩) (by assumption) ?_
            simp only [Act.put, List.setIfInBounds_toArray, List.set_cons_zero, List.set_cons_succ]
            refine wpAnyH_take (i := 8) (oi := { dst := some 28, op := Op.load 26 (Operand.tmp 27), type := 26, pos := "best.go:27", after := #[{ on := 7, ground := Ground.data }, { on := 4, ground := Ground.guard }], guard := some (4, true) }) (v := undef) rfl (by kernel_rfl) (by kernel_rfl) (by kernel_rfl) (fun _ _ _ h => h) (Or.inr ⟨by rfl, rfl⟩) (by assumption) ?_
            simp only [Act.put, List.setIfInBounds_toArray, List.set_cons_zero, List.set_cons_succ]
            refine wpAnyH_take (i := 9) (oi := { dst := some 29, op := Op.move (Operand.tmp 4), type := 3, pos := "best.go:27", after := #[{ on := 4, ground := Ground.guard }], guard := some (4, true) }) (v := undef) rfl (by kernel_rfl) (by kernel_rfl) (by kernel_rfl) (fun _ _ _ h => h) (Or.inr ⟨by rfl, rfl⟩) (by assumption) ?_
            simp only [Act.put, List.setIfInBounds_toArray, List.set_cons_zero, List.set_cons_succ]
            refine wpAnyH_take (i := 10) (oi := { dst := some 30, op := Op.indexAddr 26 (Operand.tmp 28) (Operand.tmp 29), type := 0, pos := "best.go:27", after := #[{ on := 8, ground := Ground.data }, { on := 9, ground := Ground.data }, { on := 4, ground := Ground.guard }], guard := some (4, true) }) (v := undef) rfl (by kernel_rfl) (by kernel_rfl) (by kernel_rfl) (fun _ _ _ h => h) (Or.inr ⟨by rfl, rfl⟩) (by assumption) ?_
            simp only [Act.put, List.setIfInBounds_toArray, List.set_cons_zero, List.set_cons_succ]
            refine wpAnyH_take (i := 11) (oi := { dst := some 31, op := Op.load 3 (Operand.tmp 30), type := 3, pos := "best.go:27", after := #[{ on := 10, ground := Ground.data }, { on := 4, ground := Ground.guard }], guard := some (4, true) }) (v := undef) rfl (by kernel_rfl) (by kernel_rfl) (by kernel_rfl) (fun _ _ _ h => h) (Or.inr ⟨by rfl, rfl⟩) (by assumption) ?_
            simp only [Act.put, List.setIfInBounds_toArray, List.set_cons_zero, List.set_cons_succ]
            refine wpAnyH_take (i := 12) (oi := { dst := some 32, op := Op.move (Operand.tmp 0), type := 22, pos := "best.go:27", after := #[{ on := 4, ground := Ground.guard }], guard := some (4, true) }) (v := undef) rfl (by kernel_rfl) (by kernel_rfl) (by kernel_rfl) (fun _ _ _ h => h) (Or.inr ⟨by rfl, rfl⟩) (by assumption) ?_
            simp only [Act.put, List.setIfInBounds_toArray, List.set_cons_zero, List.set_cons_succ]
            refine wpAnyH_take (i := 13) (oi := { dst := some 33, op := Op.move (Operand.tmp 3), type := 26, pos := "best.go:27", after := #[{ on := 4, ground := Ground.guard }], guard := some (4, true) }) (v := undef) rfl (by kernel_rfl) (by kernel_rfl) (by kernel_rfl) (fun _ _ _ h => h) (Or.inr ⟨by rfl, rfl⟩) (by assumption) ?_
            simp only [Act.put, List.setIfInBounds_toArray, List.set_cons_zero, List.set_cons_succ]
            refine wpAnyH_take (i := 14) (oi := { dst := some 34, op := Op.move (Operand.tmp 4), type := 3, pos := "best.go:27", after := #[{ on := 4, ground := Ground.guard }], guard := some (4, true) }) (v := undef) rfl (by kernel_rfl) (by kernel_rfl) (by kernel_rfl) (fun _ _ _ h => h) (Or.inr ⟨by rfl, rfl⟩) (by assumption) ?_
            simp only [Act.put, List.setIfInBounds_toArray, List.set_cons_zero, List.set_cons_succ]
            refine wpAnyH_take (i := 15) (oi := { dst := some 35, op := Op.indexAddr 26 (Operand.tmp 33) (Operand.tmp 34), type := 0, pos := "best.go:27", after := #[{ on := 13, ground := Ground.data }, { on := 14, ground := Ground.data }, { on := 4, ground := Ground.guard }], guard := some (4, true) }) (v := undef) rfl (by kernel_rfl) (by kernel_rfl) (by kernel_rfl) (fun _ _ _ h => h) (Or.inr ⟨by rfl, rfl⟩) (by assumption) ?_
            simp only [Act.put, List.setIfInBounds_toArray, List.set_cons_zero, List.set_cons_succ]
            refine wpAnyH_take (i := 16) (oi := { dst := some 36, op := Op.load 3 (Operand.tmp 35), type := 3, pos := "best.go:27", after := #[{ on := 15, ground := Ground.data }, { on := 4, ground := Ground.guard }], guard := some (4, true) }) (v := undef) rfl (by kernel_rfl) (by kernel_rfl) (by kernel_rfl) (fun _ _ _ h => h) (Or.inr ⟨by rfl, rfl⟩) (by assumption) ?_
            simp only [Act.put, List.setIfInBounds_toArray, List.set_cons_zero, List.set_cons_succ]
            refine wpAnyH_take (i := 17) (oi := { dst := some 37, op := Op.indexAddr 22 (Operand.tmp 32) (Operand.tmp 36), type := 0, pos := "best.go:27", after := #[{ on := 12, ground := Ground.data }, { on := 16, ground := Ground.data }, { on := 4, ground := Ground.guard }], guard := some (4, true) }) (v := undef) rfl (by kernel_rfl) (by kernel_rfl) (by kernel_rfl) (fun _ _ _ h => h) (Or.inr ⟨by rfl, rfl⟩) (by assumption) ?_
            simp only [Act.put, List.setIfInBounds_toArray, List.set_cons_zero, List.set_cons_succ]
            refine wpAnyH_take (i := 18) (oi := { dst := some 38, op := Op.load 26 (Operand.tmp 37), type := 26, pos := "best.go:27", after := #[{ on := 17, ground := Ground.data }, { on := 4, ground := Ground.guard }], guard := some (4, true) }) (v := undef) rfl (by kernel_rfl) (by kernel_rfl) (by kernel_rfl) (fun _ _ _ h => h) (Or.inr ⟨by rfl, rfl⟩) (by assumption) ?_
            simp only [Act.put, List.setIfInBounds_toArray, List.set_cons_zero, List.set_cons_succ]
            refine wpAnyH_take (i := 19) (oi := { dst := some 39, op := Op.move (Operand.tmp 4), type := 3, pos := "best.go:27", after := #[{ on := 4, ground := Ground.guard }], guard := some (4, true) }) (v := undef) rfl (by kernel_rfl) (by kernel_rfl) (by kernel_rfl) (fun _ _ _ h => h) (Or.inr ⟨by rfl, rfl⟩) (by assumption) ?_
            simp only [Act.put, List.setIfInBounds_toArray, List.set_cons_zero, List.set_cons_succ]
            refine wpAnyH_take (i := 20) (oi := { dst := some 40, op := Op.indexAddr 26 (Operand.tmp 38) (Operand.tmp 39), type := 0, pos := "best.go:27", after := #[{ on := 18, ground := Ground.data }, { on := 19, ground := Ground.data }, { on := 4, ground := Ground.guard }], guard := some (4, true) }) (v := undef) rfl (by kernel_rfl) (by kernel_rfl) (by kernel_rfl) (fun _ _ _ h => h) (Or.inr ⟨by rfl, rfl⟩) (by assumption) ?_
            simp only [Act.put, List.setIfInBounds_toArray, List.set_cons_zero, List.set_cons_succ]
            refine wpAnyH_take (i := 21) (oi := { dst := some 41, op := Op.load 3 (Operand.tmp 40), type := 3, pos := "best.go:27", after := #[{ on := 20, ground := Ground.data }, { on := 4, ground := Ground.guard }], guard := some (4, true) }) (v := undef) rfl (by kernel_rfl) (by kernel_rfl) (by kernel_rfl) (fun _ _ _ h => h) (Or.inr ⟨by rfl, rfl⟩) (by assumption) ?_
            simp only [Act.put, List.setIfInBounds_toArray, List.set_cons_zero, List.set_cons_succ]
            refine wpAnyH_take (i := 22) (oi := { dst := some 42, op := Op.binOp BinOp.gtr 3 (Operand.tmp 31) (Operand.tmp 41) 3, type := 4, pos := "best.go:27", after := #[{ on := 11, ground := Ground.data }, { on := 21, ground := Ground.data }, { on := 4, ground := Ground.guard }], guard := some (4, true) }) (v := undef) rfl (by kernel_rfl) (by kernel_rfl) (by kernel_rfl) (fun _ _ _ h => h) (Or.inr ⟨by rfl, rfl⟩) (by assumption) ?_
            simp only [Act.put, List.setIfInBounds_toArray, List.set_cons_zero, List.set_cons_succ]
            refine wpAnyH_take (i := 23) (oi := { dst := some 43, op := Op.pick (Operand.tmp 24) (Operand.tmp 42) (Operand.const (Value.bool false)), type := 4, pos := "best.go:27", after := #[{ on := 4, ground := Ground.data }, { on := 22, ground := Ground.data }], guard := none }) (v := ?_) rfl (by kernel_rfl) (by kernel_rfl) (by kernel_rfl) (fun _ _ _ h => h) (Or.inl ⟨by rfl, ?_⟩) (by assumption) ?_
            case refine_2 => intro w hSw; (try dsimp only at hSw); go_simp; (try with_reducible rfl)
            simp only [Act.put, List.setIfInBounds_toArray, List.set_cons_zero, List.set_cons_succ]
            refine wpAnyH_done (by kernel_rfl) ?_ _
            have hB0 := hS0
            clear hS0
            have HL2 : Hid (Ul w V0 g n ul) := HL.out.1.laid hB0
            clear hB0
            go_wp2
            go_roundw
            case rel => exact ⟨h + 1, ul, by go_num, by omega, HL2.out, HL.out.2.1, HL.out.2.2.1, by rw [HC.out]; exact ⟨HL.out.2.2.2.1, HL.out.2.2.2.2.1, fun h' h1 h2 => HL.out.2.2.2.2.2 h' (by omega) h2⟩⟩
            case measure => simp [intOf]; omega
          · have q1 : ((h : Int) != (i : Int) + 1) = true := by simp; omega
            have hw2 : IntKind.i64.wrap ((i : Int) + 1) = (i : Int) + 1 := by rw [IntKind.wrap_i64]; omega
            go_upto_region 8 with fail
            by_cases hgt : xc < xh
            · have q2 : decide (xc < xh) = true := decide_eq_true hgt
              have HCE : Hid _ := fun (W : World) (hSw : Below wr.heap.size wr W) => (And.intro ((HBX.out W hSw).1) (And.intro ((HBX.out W hSw).2.1) (And.intro ((HBX.out W hSw).2.2.1) (And.intro ((HBX.out W hSw).2.2.2.1) ((HBX.out W hSw).2.2.2.2)))))
              refine wp_region_held_drew (S := fun W => Below wr.heap.size wr W) (by kernel_rfl) (by exact below_drewN (Below.refl _ _) 1) (fun hHeld => ?_)
              have hS0 := hHeld
              generalize hV0 : wr.drew = V0 at *
              clear hV0
              refine wpAnyH_take (i := 0) (oi := { dst := some 20, op := Op.move (Operand.tmp 5), type := 3, pos := "best.go:27", after := #[], guard := none }) (v := ?_) rfl (by kernel_rfl) (by kernel_rfl) (by kernel_rfl) (fun _ _ _ h => h) (Or.inl ⟨by rfl, ?_⟩) (by assumption) ?_
              case refine_2 => intro w hSw; (try dsimp only at hSw); obtain ⟨z1, z2, z3, z4, z5⟩ := HCE.out _ hSw; go_simp; (try with_reducible rfl)
              simp only [Act.put, List.setIfInBounds_toArray, List.set_cons_zero, List.set_cons_succ]
              refine wpAnyH_take (i := 1) (oi := { dst := some 21, op := Op.move (Operand.tmp 4), type := 3, pos := "best.go:27", after := #[], guard := none }) (v := ?_) rfl (by kernel_rfl) (by kernel_rfl) (by kernel_rfl) (fun _ _ _ h => h) (Or.inl ⟨by rfl, ?_⟩) (by assumption) ?_
              case refine_2 => intro w hSw; (try dsimp only at hSw); obtain ⟨z1, z2, z3, z4, z5⟩ := HCE.out _ hSw; go_simp; (try with_reducible rfl)
              simp only [Act.put, List.setIfInBounds_toArray, List.set_cons_zero, List.set_cons_succ]
              refine wpAnyH_take (i := 2) (oi := { dst := some 22, op := Op.binOp BinOp.add 3 (Operand.tmp 21) (Operand.const (Value.int IntKind.i64 1)) 3, type := 3, pos := "best.go:27", after := #[{ on := 1, ground := Ground.data }], guard := none }) (v := ?_) rfl (by kernel_rfl) (by kernel_rfl) (by kernel_rfl) (fun _ _ _ h => h) (Or.inl ⟨by rfl, ?_⟩) (by assumption) ?_
              case refine_2 => intro w hSw; (try dsimp only at hSw); obtain ⟨z1, z2, z3, z4, z5⟩ := HCE.out _ hSw; go_simp; (try with_reducible rfl)
              simp only [Act.put, List.setIfInBounds_toArray, List.set_cons_zero, List.set_cons_succ]
              refine wpAnyH_take (i := 3) (oi := { dst := some 23, op := Op.binOp BinOp.neq 3 (Operand.tmp 20) (Operand.tmp 22) 3, type := 4, pos := "best.go:27", after := #[{ on := 0, ground := Ground.data }, { on := 2, ground := Ground.data }], guard := none }) (v := ?_) rfl (by kernel_rfl) (by kernel_rfl) (by kernel_rfl) (fun _ _ _ h => h) (Or.inl ⟨by rfl, ?_⟩) (by assumption) ?_
              case refine_2 => intro w hSw; (try dsimp only at hSw); obtain ⟨z1, z2, z3, z4, z5⟩ := HCE.out _ hSw; go_simp; (try with_reducible rfl)
              simp only [Act.put, List.setIfInBounds_toArray, List.set_cons_zero, List.set_cons_succ]
              refine wpAnyH_take (i := 4) (oi := { dst := some 24, op := Op.move (Operand.tmp 23), type := 4, pos := "best.go:27", after := #[{ on := 3, ground := Ground.data }], guard := none }) (v := ?_) rfl (by kernel_rfl) (by kernel_rfl) (by kernel_rfl) (fun _ _ _ h => h) (Or.inl ⟨by rfl, ?_⟩) (by assumption) ?_
              case refine_2 => intro w hSw; (try dsimp only at hSw); obtain ⟨z1, z2, z3, z4, z5⟩ := HCE.out _ hSw; go_simp; (try with_reducible rfl)
              simp only [Act.put, List.setIfInBounds_toArray, List.set_cons_zero, List.set_cons_succ]
              refine wpAnyH_take (i := 5) (oi := { dst := some 25, op := Op.move (Operand.tmp 0), type := 22, pos := "best.go:27", after := #[{ on := 4, ground := Ground.guard }], guard := some (4, true) }) (v := ?_) rfl (by kernel_rfl) (by kernel_rfl) (by kernel_rfl) (fun _ _ _ h => h) (Or.inl ⟨by rfl, ?_⟩) (by assumption) ?_
              case refine_2 => intro w hSw; (try dsimp only at hSw); obtain ⟨z1, z2, z3, z4, z5⟩ := HCE.out _ hSw; go_simp; (try with_reducible rfl)
              simp only [Act.put, List.setIfInBounds_toArray, List.set_cons_zero, List.set_cons_succ]
              refine wpAnyH_take (i := 6) (oi := { dst := some 26, op := Op.move (Operand.tmp 5), type := 3, pos := "best.go:27", after := #[{ on := 4, ground := Ground.guard }], guard := some (4, true) }) (v := ?_) rfl (by kernel_rfl) (by kernel_rfl) (by kernel_rfl) (fun _ _ _ h => h) (Or.inl ⟨by rfl, ?_⟩) (by assumption) ?_
              case refine_2 => intro w hSw; (try dsimp only at hSw); obtain ⟨z1, z2, z3, z4, z5⟩ := HCE.out _ hSw; go_simp; (try with_reducible rfl)
              simp only [Act.put, List.setIfInBounds_toArray, List.set_cons_zero, List.set_cons_succ]
              refine wpAnyH_take (i := 7) (oi := { dst := some 27, op := Op.indexAddr 22 (Operand.tmp 25) (Operand.tmp 26), type := 0, pos := "best.go:27", after := #[{ on := 5, ground := Ground.data }, { on := 6, ground := Ground.data }, { on := 4, ground := Ground.guard }], guard := some (4, true) }) (v := ?_) rfl (by kernel_rfl) (by kernel_rfl) (by kernel_rfl) (fun _ _ _ h => h) (Or.inl ⟨by rfl, ?_⟩) (by assumption) ?_
              case refine_2 => intro w hSw; (try dsimp only at hSw); obtain ⟨z1, z2, z3, z4, z5⟩ := HCE.out _ hSw; go_simp; (try with_reducible rfl)
              simp only [Act.put, List.setIfInBounds_toArray, List.set_cons_zero, List.set_cons_succ]
              refine wpAnyH_take (i := 8) (oi := { dst := some 28, op := Op.load 26 (Operand.tmp 27), type := 26, pos := "best.go:27", after := #[{ on := 7, ground := Ground.data }, { on := 4, ground := Ground.guard }], guard := some (4, true) }) (v := ?_) rfl (by kernel_rfl) (by kernel_rfl) (by kernel_rfl) (fun _ _ _ h => h) (Or.inl ⟨by rfl, ?_⟩) (by assumption) ?_
              case refine_2 => intro w hSw; (try dsimp only at hSw); obtain ⟨z1, z2, z3, z4, z5⟩ := HCE.out _ hSw; go_simp; (try with_reducible rfl)
              simp only [Act.put, List.setIfInBounds_toArray, List.set_cons_zero, List.set_cons_succ]
              refine wpAnyH_take (i := 9) (oi := { dst := some 29, op := Op.move (Operand.tmp 4), type := 3, pos := "best.go:27", after := #[{ on := 4, ground := Ground.guard }], guard := some (4, true) }) (v := ?_) rfl (by kernel_rfl) (by kernel_rfl) (by kernel_rfl) (fun _ _ _ h => h) (Or.inl ⟨by rfl, ?_⟩) (by assumption) ?_
              case refine_2 => intro w hSw; (try dsimp only at hSw); obtain ⟨z1, z2, z3, z4, z5⟩ := HCE.out _ hSw; go_simp; (try with_reducible rfl)
              simp only [Act.put, List.setIfInBounds_toArray, List.set_cons_zero, List.set_cons_succ]
              refine wpAnyH_take (i := 10) (oi := { dst := some 30, op := Op.indexAddr 26 (Operand.tmp 28) (Operand.tmp 29), type := 0, pos := "best.go:27", after := #[{ on := 8, ground := Ground.data }, { on := 9, ground := Ground.data }, { on := 4, ground := Ground.guard }], guard := some (4, true) }) (v := ?_) rfl (by kernel_rfl) (by kernel_rfl) (by kernel_rfl) (fun _ _ _ h => h) (Or.inl ⟨by rfl, ?_⟩) (by assumption) ?_
              case refine_2 => intro w hSw; (try dsimp only at hSw); obtain ⟨z1, z2, z3, z4, z5⟩ := HCE.out _ hSw; go_simp; (try with_reducible rfl)
              simp only [Act.put, List.setIfInBounds_toArray, List.set_cons_zero, List.set_cons_succ]
              refine wpAnyH_take (i := 11) (oi := { dst := some 31, op := Op.load 3 (Operand.tmp 30), type := 3, pos := "best.go:27", after := #[{ on := 10, ground := Ground.data }, { on := 4, ground := Ground.guard }], guard := some (4, true) }) (v := ?_) rfl (by kernel_rfl) (by kernel_rfl) (by kernel_rfl) (fun _ _ _ h => h) (Or.inl ⟨by rfl, ?_⟩) (by assumption) ?_
              case refine_2 => intro w hSw; (try dsimp only at hSw); obtain ⟨z1, z2, z3, z4, z5⟩ := HCE.out _ hSw; go_simp; (try with_reducible rfl)
              simp only [Act.put, List.setIfInBounds_toArray, List.set_cons_zero, List.set_cons_succ]
              refine wpAnyH_take (i := 12) (oi := { dst := some 32, op := Op.move (Operand.tmp 0), type := 22, pos := "best.go:27", after := #[{ on := 4, ground := Ground.guard }], guard := some (4, true) }) (v := ?_) rfl (by kernel_rfl) (by kernel_rfl) (by kernel_rfl) (fun _ _ _ h => h) (Or.inl ⟨by rfl, ?_⟩) (by assumption) ?_
              case refine_2 => intro w hSw; (try dsimp only at hSw); obtain ⟨z1, z2, z3, z4, z5⟩ := HCE.out _ hSw; go_simp; (try with_reducible rfl)
              simp only [Act.put, List.setIfInBounds_toArray, List.set_cons_zero, List.set_cons_succ]
              refine wpAnyH_take (i := 13) (oi := { dst := some 33, op := Op.move (Operand.tmp 3), type := 26, pos := "best.go:27", after := #[{ on := 4, ground := Ground.guard }], guard := some (4, true) }) (v := ?_) rfl (by kernel_rfl) (by kernel_rfl) (by kernel_rfl) (fun _ _ _ h => h) (Or.inl ⟨by rfl, ?_⟩) (by assumption) ?_
              case refine_2 => intro w hSw; (try dsimp only at hSw); obtain ⟨z1, z2, z3, z4, z5⟩ := HCE.out _ hSw; go_simp; (try with_reducible rfl)
              simp only [Act.put, List.setIfInBounds_toArray, List.set_cons_zero, List.set_cons_succ]
              refine wpAnyH_take (i := 14) (oi := { dst := some 34, op := Op.move (Operand.tmp 4), type := 3, pos := "best.go:27", after := #[{ on := 4, ground := Ground.guard }], guard := some (4, true) }) (v := ?_) rfl (by kernel_rfl) (by kernel_rfl) (by kernel_rfl) (fun _ _ _ h => h) (Or.inl ⟨by rfl, ?_⟩) (by assumption) ?_
              case refine_2 => intro w hSw; (try dsimp only at hSw); obtain ⟨z1, z2, z3, z4, z5⟩ := HCE.out _ hSw; go_simp; (try with_reducible rfl)
              simp only [Act.put, List.setIfInBounds_toArray, List.set_cons_zero, List.set_cons_succ]
              refine wpAnyH_take (i := 15) (oi := { dst := some 35, op := Op.indexAddr 26 (Operand.tmp 33) (Operand.tmp 34), type := 0, pos := "best.go:27", after := #[{ on := 13, ground := Ground.data }, { on := 14, ground := Ground.data }, { on := 4, ground := Ground.guard }], guard := some (4, true) }) (v := ?_) rfl (by kernel_rfl) (by kernel_rfl) (by kernel_rfl) (fun _ _ _ h => h) (Or.inl ⟨by rfl, ?_⟩) (by assumption) ?_
              case refine_2 => intro w hSw; (try dsimp only at hSw); obtain ⟨z1, z2, z3, z4, z5⟩ := HCE.out _ hSw; go_simp; (try with_reducible rfl)
              simp only [Act.put, List.setIfInBounds_toArray, List.set_cons_zero, List.set_cons_succ]
              refine wpAnyH_take (i := 16) (oi := { dst := some 36, op := Op.load 3 (Operand.tmp 35), type := 3, pos := "best.go:27", after := #[{ on := 15, ground := Ground.data }, { on := 4, ground := Ground.guard }], guard := some (4, true) }) (v := ?_) rfl (by kernel_rfl) (by kernel_rfl) (by kernel_rfl) (fun _ _ _ h => h) (Or.inl ⟨by rfl, ?_⟩) (by assumption) ?_
              case refine_2 => intro w hSw; (try dsimp only at hSw); obtain ⟨z1, z2, z3, z4, z5⟩ := HCE.out _ hSw; go_simp; (try with_reducible rfl)
              simp only [Act.put, List.setIfInBounds_toArray, List.set_cons_zero, List.set_cons_succ]
              refine wpAnyH_take (i := 17) (oi := { dst := some 37, op := Op.indexAddr 22 (Operand.tmp 32) (Operand.tmp 36), type := 0, pos := "best.go:27", after := #[{ on := 12, ground := Ground.data }, { on := 16, ground := Ground.data }, { on := 4, ground := Ground.guard }], guard := some (4, true) }) (v := ?_) rfl (by kernel_rfl) (by kernel_rfl) (by kernel_rfl) (fun _ _ _ h => h) (Or.inl ⟨by rfl, ?_⟩) (by assumption) ?_
              case refine_2 => intro w hSw; (try dsimp only at hSw); obtain ⟨z1, z2, z3, z4, z5⟩ := HCE.out _ hSw; go_simp; (try with_reducible rfl)
              simp only [Act.put, List.setIfInBounds_toArray, List.set_cons_zero, List.set_cons_succ]
              refine wpAnyH_take (i := 18) (oi := { dst := some 38, op := Op.load 26 (Operand.tmp 37), type := 26, pos := "best.go:27", after := #[{ on := 17, ground := Ground.data }, { on := 4, ground := Ground.guard }], guard := some (4, true) }) (v := ?_) rfl (by kernel_rfl) (by kernel_rfl) (by kernel_rfl) (fun _ _ _ h => h) (Or.inl ⟨by rfl, ?_⟩) (by assumption) ?_
              case refine_2 => intro w hSw; (try dsimp only at hSw); obtain ⟨z1, z2, z3, z4, z5⟩ := HCE.out _ hSw; go_simp; (try with_reducible rfl)
              simp only [Act.put, List.setIfInBounds_toArray, List.set_cons_zero, List.set_cons_succ]
              refine wpAnyH_take (i := 19) (oi := { dst := some 39, op := Op.move (Operand.tmp 4), type := 3, pos := "best.go:27", after := #[{ on := 4, ground := Ground.guard }], guard := some (4, true) }) (v := ?_) rfl (by kernel_rfl) (by kernel_rfl) (by kernel_rfl) (fun _ _ _ h => h) (Or.inl ⟨by rfl, ?_⟩) (by assumption) ?_
              case refine_2 => intro w hSw; (try dsimp only at hSw); obtain ⟨z1, z2, z3, z4, z5⟩ := HCE.out _ hSw; go_simp; (try with_reducible rfl)
              simp only [Act.put, List.setIfInBounds_toArray, List.set_cons_zero, List.set_cons_succ]
              refine wpAnyH_take (i := 20) (oi := { dst := some 40, op := Op.indexAddr 26 (Operand.tmp 38) (Operand.tmp 39), type := 0, pos := "best.go:27", after := #[{ on := 18, ground := Ground.data }, { on := 19, ground := Ground.data }, { on := 4, ground := Ground.guard }], guard := some (4, true) }) (v := ?_) rfl (by kernel_rfl) (by kernel_rfl) (by kernel_rfl) (fun _ _ _ h => h) (Or.inl ⟨by rfl, ?_⟩) (by assumption) ?_
              case refine_2 => intro w hSw; (try dsimp only at hSw); obtain ⟨z1, z2, z3, z4, z5⟩ := HCE.out _ hSw; go_simp; (try with_reducible rfl)
              simp only [Act.put, List.setIfInBounds_toArray, List.set_cons_zero, List.set_cons_succ]
              refine wpAnyH_take (i := 21) (oi := { dst := some 41, op := Op.load 3 (Operand.tmp 40), type := 3, pos := "best.go:27", after := #[{ on := 20, ground := Ground.data }, { on := 4, ground := Ground.guard }], guard := some (4, true) }) (v := ?_) rfl (by kernel_rfl) (by kernel_rfl) (by kernel_rfl) (fun _ _ _ h => h) (Or.inl ⟨by rfl, ?_⟩) (by assumption) ?_
              case refine_2 => intro w hSw; (try dsimp only at hSw); obtain ⟨z1, z2, z3, z4, z5⟩ := HCE.out _ hSw; go_simp; (try with_reducible rfl)
              simp only [Act.put, List.setIfInBounds_toArray, List.set_cons_zero, List.set_cons_succ]
              refine wpAnyH_take (i := 22) (oi := { dst := some 42, op := Op.binOp BinOp.gtr 3 (Operand.tmp 31) (Operand.tmp 41) 3, type := 4, pos := "best.go:27", after := #[{ on := 11, ground := Ground.data }, { on := 21, ground := Ground.data }, { on := 4, ground := Ground.guard }], guard := some (4, true) }) (v := ?_) rfl (by kernel_rfl) (by kernel_rfl) (by kernel_rfl) (fun _ _ _ h => h) (Or.inl ⟨by rfl, ?_⟩) (by assumption) ?_
              case refine_2 => intro w hSw; (try dsimp only at hSw); obtain ⟨z1, z2, z3, z4, z5⟩ := HCE.out _ hSw; go_simp; (try with_reducible rfl)
              simp only [Act.put, List.setIfInBounds_toArray, List.set_cons_zero, List.set_cons_succ]
              refine wpAnyH_take (i := 23) (oi := { dst := some 43, op := Op.pick (Operand.tmp 24) (Operand.tmp 42) (Operand.const (Value.bool false)), type := 4, pos := "best.go:27", after := #[{ on := 4, ground := Ground.data }, { on := 22, ground := Ground.data }], guard := none }) (v := ?_) rfl (by kernel_rfl) (by kernel_rfl) (by kernel_rfl) (fun _ _ _ h => h) (Or.inl ⟨by rfl, ?_⟩) (by assumption) ?_
              case refine_2 => intro w hSw; (try dsimp only at hSw); obtain ⟨z1, z2, z3, z4, z5⟩ := HCE.out _ hSw; go_simp; (try with_reducible rfl)
              simp only [Act.put, List.setIfInBounds_toArray, List.set_cons_zero, List.set_cons_succ]
              refine wpAnyH_done (by kernel_rfl) ?_ _
              have hB0 := hS0
              clear hS0
              have HL2 : Hid (Ul w V0 g n ul) := HL.out.1.laid hB0
              clear hB0
              have y0 := HL2.out.cell hlt
              have f0 := HL2.out.row.frozenAt i
              go_wp2
              have HLS : Hid (Ul w (V0.setCell ⟨g, i, none⟩ (.int .i64 (h : Int))) g n (ul.set i h)) := HL2.out.set i h
              have hil : i < ul.length := by rw [HL2.out.len]; exact hlt
              go_roundw
              case rel => exact ⟨h + 1, ul.set i h, by go_num, by omega, HLS.out, fun x h1 h2 => by
                rw [uv_set hil, if_neg (by omega)]
                exact HL.out.2.1 x h1 h2, fun j h1 h2 => by
                rw [uv_set hil, if_neg (by omega)]
                exact HL.out.2.2.1 j h1 h2, by
                rw [uv_set hil, if_pos rfl]
                refine ⟨hhn, hne, fun h' h1 h2 => ?_⟩
                by_cases e : h' = h
                · rw [e]; exact Int.le_refl _
                · have := HL.out.2.2.2.2.2 h' (by omega) h2
                  rw [HX.out.1]
                  rw [HX.out.2] at this
                  omega⟩
              case measure => simp [intOf]; omega
            · have q2 : decide (xc < xh) = false := decide_eq_false hgt
              have HCE : Hid _ := fun (W : World) (hSw : Below wr.heap.size wr W) => (And.intro ((HBX.out W hSw).1) (And.intro ((HBX.out W hSw).2.1) (And.intro ((HBX.out W hSw).2.2.1) (And.intro ((HBX.out W hSw).2.2.2.1) ((HBX.out W hSw).2.2.2.2)))))
              refine wp_region_held_drew (S := fun W => Below wr.heap.size wr W) (by kernel_rfl) (by exact below_drewN (Below.refl _ _) 1) (fun hHeld => ?_)
              have hS0 := hHeld
              generalize hV0 : wr.drew = V0 at *
              clear hV0
              refine wpAnyH_take (i := 0) (oi := { dst := some 20, op := Op.move (Operand.tmp 5), type := 3, pos := "best.go:27", after := #[], guard := none }) (v := ?_) rfl (by kernel_rfl) (by kernel_rfl) (by kernel_rfl) (fun _ _ _ h => h) (Or.inl ⟨by rfl, ?_⟩) (by assumption) ?_
              case refine_2 => intro w hSw; (try dsimp only at hSw); obtain ⟨z1, z2, z3, z4, z5⟩ := HCE.out _ hSw; go_simp; (try with_reducible rfl)
              simp only [Act.put, List.setIfInBounds_toArray, List.set_cons_zero, List.set_cons_succ]
              refine wpAnyH_take (i := 1) (oi := { dst := some 21, op := Op.move (Operand.tmp 4), type := 3, pos := "best.go:27", after := #[], guard := none }) (v := ?_) rfl (by kernel_rfl) (by kernel_rfl) (by kernel_rfl) (fun _ _ _ h => h) (Or.inl ⟨by rfl, ?_⟩) (by assumption) ?_
              case refine_2 => intro w hSw; (try dsimp only at hSw); obtain ⟨z1, z2, z3, z4, z5⟩ := HCE.out _ hSw; go_simp; (try with_reducible rfl)
              simp only [Act.put, List.setIfInBounds_toArray, List.set_cons_zero, List.set_cons_succ]
              refine wpAnyH_take (i := 2) (oi := { dst := some 22, op := Op.binOp BinOp.add 3 (Operand.tmp 21) (Operand.const (Value.int IntKind.i64 1)) 3, type := 3, pos := "best.go:27", after := #[{ on := 1, ground := Ground.data }], guard := none }) (v := ?_) rfl (by kernel_rfl) (by kernel_rfl) (by kernel_rfl) (fun _ _ _ h => h) (Or.inl ⟨by rfl, ?_⟩) (by assumption) ?_
              case refine_2 => intro w hSw; (try dsimp only at hSw); obtain ⟨z1, z2, z3, z4, z5⟩ := HCE.out _ hSw; go_simp; (try with_reducible rfl)
              simp only [Act.put, List.setIfInBounds_toArray, List.set_cons_zero, List.set_cons_succ]
              refine wpAnyH_take (i := 3) (oi := { dst := some 23, op := Op.binOp BinOp.neq 3 (Operand.tmp 20) (Operand.tmp 22) 3, type := 4, pos := "best.go:27", after := #[{ on := 0, ground := Ground.data }, { on := 2, ground := Ground.data }], guard := none }) (v := ?_) rfl (by kernel_rfl) (by kernel_rfl) (by kernel_rfl) (fun _ _ _ h => h) (Or.inl ⟨by rfl, ?_⟩) (by assumption) ?_
              case refine_2 => intro w hSw; (try dsimp only at hSw); obtain ⟨z1, z2, z3, z4, z5⟩ := HCE.out _ hSw; go_simp; (try with_reducible rfl)
              simp only [Act.put, List.setIfInBounds_toArray, List.set_cons_zero, List.set_cons_succ]
              refine wpAnyH_take (i := 4) (oi := { dst := some 24, op := Op.move (Operand.tmp 23), type := 4, pos := "best.go:27", after := #[{ on := 3, ground := Ground.data }], guard := none }) (v := ?_) rfl (by kernel_rfl) (by kernel_rfl) (by kernel_rfl) (fun _ _ _ h => h) (Or.inl ⟨by rfl, ?_⟩) (by assumption) ?_
              case refine_2 => intro w hSw; (try dsimp only at hSw); obtain ⟨z1, z2, z3, z4, z5⟩ := HCE.out _ hSw; go_simp; (try with_reducible rfl)
              simp only [Act.put, List.setIfInBounds_toArray, List.set_cons_zero, List.set_cons_succ]
              refine wpAnyH_take (i := 5) (oi := { dst := some 25, op := Op.move (Operand.tmp 0), type := 22, pos := "best.go:27", after := #[{ on := 4, ground := Ground.guard }], guard := some (4, true) }) (v := ?_) rfl (by kernel_rfl) (by kernel_rfl) (by kernel_rfl) (fun _ _ _ h => h) (Or.inl ⟨by rfl, ?_⟩) (by assumption) ?_
              case refine_2 => intro w hSw; (try dsimp only at hSw); obtain ⟨z1, z2, z3, z4, z5⟩ := HCE.out _ hSw; go_simp; (try with_reducible rfl)
              simp only [Act.put, List.setIfInBounds_toArray, List.set_cons_zero, List.set_cons_succ]
              refine wpAnyH_take (i := 6) (oi := { dst := some 26, op := Op.move (Operand.tmp 5), type := 3, pos := "best.go:27", after := #[{ on := 4, ground := Ground.guard }], guard := some (4, true) }) (v := ?_) rfl (by kernel_rfl) (by kernel_rfl) (by kernel_rfl) (fun _ _ _ h => h) (Or.inl ⟨by rfl, ?_⟩) (by assumption) ?_
              case refine_2 => intro w hSw; (try dsimp only at hSw); obtain ⟨z1, z2, z3, z4, z5⟩ := HCE.out _ hSw; go_simp; (try with_reducible rfl)
              simp only [Act.put, List.setIfInBounds_toArray, List.set_cons_zero, List.set_cons_succ]
              refine wpAnyH_take (i := 7) (oi := { dst := some 27, op := Op.indexAddr 22 (Operand.tmp 25) (Operand.tmp 26), type := 0, pos := "best.go:27", after := #[{ on := 5, ground := Ground.data }, { on := 6, ground := Ground.data }, { on := 4, ground := Ground.guard }], guard := some (4, true) }) (v := ?_) rfl (by kernel_rfl) (by kernel_rfl) (by kernel_rfl) (fun _ _ _ h => h) (Or.inl ⟨by rfl, ?_⟩) (by assumption) ?_
              case refine_2 => intro w hSw; (try dsimp only at hSw); obtain ⟨z1, z2, z3, z4, z5⟩ := HCE.out _ hSw; go_simp; (try with_reducible rfl)
              simp only [Act.put, List.setIfInBounds_toArray, List.set_cons_zero, List.set_cons_succ]
              refine wpAnyH_take (i := 8) (oi := { dst := some 28, op := Op.load 26 (Operand.tmp 27), type := 26, pos := "best.go:27", after := #[{ on := 7, ground := Ground.data }, { on := 4, ground := Ground.guard }], guard := some (4, true) }) (v := ?_) rfl (by kernel_rfl) (by kernel_rfl) (by kernel_rfl) (fun _ _ _ h => h) (Or.inl ⟨by rfl, ?_⟩) (by assumption) ?_
              case refine_2 => intro w hSw; (try dsimp only at hSw); obtain ⟨z1, z2, z3, z4, z5⟩ := HCE.out _ hSw; go_simp; (try with_reducible rfl)
              simp only [Act.put, List.setIfInBounds_toArray, List.set_cons_zero, List.set_cons_succ]
              refine wpAnyH_take (i := 9) (oi := { dst := some 29, op := Op.move (Operand.tmp 4), type := 3, pos := "best.go:27", after := #[{ on := 4, ground := Ground.guard }], guard := some (4, true) }) (v := ?_) rfl (by kernel_rfl) (by kernel_rfl) (by kernel_rfl) (fun _ _ _ h => h) (Or.inl ⟨by rfl, ?_⟩) (by assumption) ?_
              case refine_2 => intro w hSw; (try dsimp only at hSw); obtain ⟨z1, z2, z3, z4, z5⟩ := HCE.out _ hSw; go_simp; (try with_reducible rfl)
              simp only [Act.put, List.setIfInBounds_toArray, List.set_cons_zero, List.set_cons_succ]
              refine wpAnyH_take (i := 10) (oi := { dst := some 30, op := Op.indexAddr 26 (Operand.tmp 28) (Operand.tmp 29), type := 0, pos := "best.go:27", after := #[{ on := 8, ground := Ground.data }, { on := 9, ground := Ground.data }, { on := 4, ground := Ground.guard }], guard := some (4, true) }) (v := ?_) rfl (by kernel_rfl) (by kernel_rfl) (by kernel_rfl) (fun _ _ _ h => h) (Or.inl ⟨by rfl, ?_⟩) (by assumption) ?_
              case refine_2 => intro w hSw; (try dsimp only at hSw); obtain ⟨z1, z2, z3, z4, z5⟩ := HCE.out _ hSw; go_simp; (try with_reducible rfl)
              simp only [Act.put, List.setIfInBounds_toArray, List.set_cons_zero, List.set_cons_succ]
              refine wpAnyH_take (i := 11) (oi := { dst := some 31, op := Op.load 3 (Operand.tmp 30), type := 3, pos := "best.go:27", after := #[{ on := 10, ground := Ground.data }, { on := 4, ground := Ground.guard }], guard := some (4, true) }) (v := ?_) rfl (by kernel_rfl) (by kernel_rfl) (by kernel_rfl) (fun _ _ _ h => h) (Or.inl ⟨by rfl, ?_⟩) (by assumption) ?_
              case refine_2 => intro w hSw; (try dsimp only at hSw); obtain ⟨z1, z2, z3, z4, z5⟩ := HCE.out _ hSw; go_simp; (try with_reducible rfl)
              simp only [Act.put, List.setIfInBounds_toArray, List.set_cons_zero, List.set_cons_succ]
              refine wpAnyH_take (i := 12) (oi := { dst := some 32, op := Op.move (Operand.tmp 0), type := 22, pos := "best.go:27", after := #[{ on := 4, ground := Ground.guard }], guard := some (4, true) }) (v := ?_) rfl (by kernel_rfl) (by kernel_rfl) (by kernel_rfl) (fun _ _ _ h => h) (Or.inl ⟨by rfl, ?_⟩) (by assumption) ?_
              case refine_2 => intro w hSw; (try dsimp only at hSw); obtain ⟨z1, z2, z3, z4, z5⟩ := HCE.out _ hSw; go_simp; (try with_reducible rfl)
              simp only [Act.put, List.setIfInBounds_toArray, List.set_cons_zero, List.set_cons_succ]
              refine wpAnyH_take (i := 13) (oi := { dst := some 33, op := Op.move (Operand.tmp 3), type := 26, pos := "best.go:27", after := #[{ on := 4, ground := Ground.guard }], guard := some (4, true) }) (v := ?_) rfl (by kernel_rfl) (by kernel_rfl) (by kernel_rfl) (fun _ _ _ h => h) (Or.inl ⟨by rfl, ?_⟩) (by assumption) ?_
              case refine_2 => intro w hSw; (try dsimp only at hSw); obtain ⟨z1, z2, z3, z4, z5⟩ := HCE.out _ hSw; go_simp; (try with_reducible rfl)
              simp only [Act.put, List.setIfInBounds_toArray, List.set_cons_zero, List.set_cons_succ]
              refine wpAnyH_take (i := 14) (oi := { dst := some 34, op := Op.move (Operand.tmp 4), type := 3, pos := "best.go:27", after := #[{ on := 4, ground := Ground.guard }], guard := some (4, true) }) (v := ?_) rfl (by kernel_rfl) (by kernel_rfl) (by kernel_rfl) (fun _ _ _ h => h) (Or.inl ⟨by rfl, ?_⟩) (by assumption) ?_
              case refine_2 => intro w hSw; (try dsimp only at hSw); obtain ⟨z1, z2, z3, z4, z5⟩ := HCE.out _ hSw; go_simp; (try with_reducible rfl)
              simp only [Act.put, List.setIfInBounds_toArray, List.set_cons_zero, List.set_cons_succ]
              refine wpAnyH_take (i := 15) (oi := { dst := some 35, op := Op.indexAddr 26 (Operand.tmp 33) (Operand.tmp 34), type := 0, pos := "best.go:27", after := #[{ on := 13, ground := Ground.data }, { on := 14, ground := Ground.data }, { on := 4, ground := Ground.guard }], guard := some (4, true) }) (v := ?_) rfl (by kernel_rfl) (by kernel_rfl) (by kernel_rfl) (fun _ _ _ h => h) (Or.inl ⟨by rfl, ?_⟩) (by assumption) ?_
              case refine_2 => intro w hSw; (try dsimp only at hSw); obtain ⟨z1, z2, z3, z4, z5⟩ := HCE.out _ hSw; go_simp; (try with_reducible rfl)
              simp only [Act.put, List.setIfInBounds_toArray, List.set_cons_zero, List.set_cons_succ]
              refine wpAnyH_take (i := 16) (oi := { dst := some 36, op := Op.load 3 (Operand.tmp 35), type := 3, pos := "best.go:27", after := #[{ on := 15, ground := Ground.data }, { on := 4, ground := Ground.guard }], guard := some (4, true) }) (v := ?_) rfl (by kernel_rfl) (by kernel_rfl) (by kernel_rfl) (fun _ _ _ h => h) (Or.inl ⟨by rfl, ?_⟩) (by assumption) ?_
              case refine_2 => intro w hSw; (try dsimp only at hSw); obtain ⟨z1, z2, z3, z4, z5⟩ := HCE.out _ hSw; go_simp; (try with_reducible rfl)
              simp only [Act.put, List.setIfInBounds_toArray, List.set_cons_zero, List.set_cons_succ]
              refine wpAnyH_take (i := 17) (oi := { dst := some 37, op := Op.indexAddr 22 (Operand.tmp 32) (Operand.tmp 36), type := 0, pos := "best.go:27", after := #[{ on := 12, ground := Ground.data }, { on := 16, ground := Ground.data }, { on := 4, ground := Ground.guard }], guard := some (4, true) }) (v := ?_) rfl (by kernel_rfl) (by kernel_rfl) (by kernel_rfl) (fun _ _ _ h => h) (Or.inl ⟨by rfl, ?_⟩) (by assumption) ?_
              case refine_2 => intro w hSw; (try dsimp only at hSw); obtain ⟨z1, z2, z3, z4, z5⟩ := HCE.out _ hSw; go_simp; (try with_reducible rfl)
              simp only [Act.put, List.setIfInBounds_toArray, List.set_cons_zero, List.set_cons_succ]
              refine wpAnyH_take (i := 18) (oi := { dst := some 38, op := Op.load 26 (Operand.tmp 37), type := 26, pos := "best.go:27", after := #[{ on := 17, ground := Ground.data }, { on := 4, ground := Ground.guard }], guard := some (4, true) }) (v := ?_) rfl (by kernel_rfl) (by kernel_rfl) (by kernel_rfl) (fun _ _ _ h => h) (Or.inl ⟨by rfl, ?_⟩) (by assumption) ?_
              case refine_2 => intro w hSw; (try dsimp only at hSw); obtain ⟨z1, z2, z3, z4, z5⟩ := HCE.out _ hSw; go_simp; (try with_reducible rfl)
              simp only [Act.put, List.setIfInBounds_toArray, List.set_cons_zero, List.set_cons_succ]
              refine wpAnyH_take (i := 19) (oi := { dst := some 39, op := Op.move (Operand.tmp 4), type := 3, pos := "best.go:27", after := #[{ on := 4, ground := Ground.guard }], guard := some (4, true) }) (v := ?_) rfl (by kernel_rfl) (by kernel_rfl) (by kernel_rfl) (fun _ _ _ h => h) (Or.inl ⟨by rfl, ?_⟩) (by assumption) ?_
              case refine_2 => intro w hSw; (try dsimp only at hSw); obtain ⟨z1, z2, z3, z4, z5⟩ := HCE.out _ hSw; go_simp; (try with_reducible rfl)
              simp only [Act.put, List.setIfInBounds_toArray, List.set_cons_zero, List.set_cons_succ]
              refine wpAnyH_take (i := 20) (oi := { dst := some 40, op := Op.indexAddr 26 (Operand.tmp 38) (Operand.tmp 39), type := 0, pos := "best.go:27", after := #[{ on := 18, ground := Ground.data }, { on := 19, ground := Ground.data }, { on := 4, ground := Ground.guard }], guard := some (4, true) }) (v := ?_) rfl (by kernel_rfl) (by kernel_rfl) (by kernel_rfl) (fun _ _ _ h => h) (Or.inl ⟨by rfl, ?_⟩) (by assumption) ?_
              case refine_2 => intro w hSw; (try dsimp only at hSw); obtain ⟨z1, z2, z3, z4, z5⟩ := HCE.out _ hSw; go_simp; (try with_reducible rfl)
              simp only [Act.put, List.setIfInBounds_toArray, List.set_cons_zero, List.set_cons_succ]
              refine wpAnyH_take (i := 21) (oi := { dst := some 41, op := Op.load 3 (Operand.tmp 40), type := 3, pos := "best.go:27", after := #[{ on := 20, ground := Ground.data }, { on := 4, ground := Ground.guard }], guard := some (4, true) }) (v := ?_) rfl (by kernel_rfl) (by kernel_rfl) (by kernel_rfl) (fun _ _ _ h => h) (Or.inl ⟨by rfl, ?_⟩) (by assumption) ?_
              case refine_2 => intro w hSw; (try dsimp only at hSw); obtain ⟨z1, z2, z3, z4, z5⟩ := HCE.out _ hSw; go_simp; (try with_reducible rfl)
              simp only [Act.put, List.setIfInBounds_toArray, List.set_cons_zero, List.set_cons_succ]
              refine wpAnyH_take (i := 22) (oi := { dst := some 42, op := Op.binOp BinOp.gtr 3 (Operand.tmp 31) (Operand.tmp 41) 3, type := 4, pos := "best.go:27", after := #[{ on := 11, ground := Ground.data }, { on := 21, ground := Ground.data }, { on := 4, ground := Ground.guard }], guard := some (4, true) }) (v := ?_) rfl (by kernel_rfl) (by kernel_rfl) (by kernel_rfl) (fun _ _ _ h => h) (Or.inl ⟨by rfl, ?_⟩) (by assumption) ?_
              case refine_2 => intro w hSw; (try dsimp only at hSw); obtain ⟨z1, z2, z3, z4, z5⟩ := HCE.out _ hSw; go_simp; (try with_reducible rfl)
              simp only [Act.put, List.setIfInBounds_toArray, List.set_cons_zero, List.set_cons_succ]
              refine wpAnyH_take (i := 23) (oi := { dst := some 43, op := Op.pick (Operand.tmp 24) (Operand.tmp 42) (Operand.const (Value.bool false)), type := 4, pos := "best.go:27", after := #[{ on := 4, ground := Ground.data }, { on := 22, ground := Ground.data }], guard := none }) (v := ?_) rfl (by kernel_rfl) (by kernel_rfl) (by kernel_rfl) (fun _ _ _ h => h) (Or.inl ⟨by rfl, ?_⟩) (by assumption) ?_
              case refine_2 => intro w hSw; (try dsimp only at hSw); obtain ⟨z1, z2, z3, z4, z5⟩ := HCE.out _ hSw; go_simp; (try with_reducible rfl)
              simp only [Act.put, List.setIfInBounds_toArray, List.set_cons_zero, List.set_cons_succ]
              refine wpAnyH_done (by kernel_rfl) ?_ _
              have hB0 := hS0
              clear hS0
              have HL2 : Hid (Ul w V0 g n ul) := HL.out.1.laid hB0
              clear hB0
              go_wp2
              go_roundw
              case rel => exact ⟨h + 1, ul, by go_num, by omega, HL2.out, HL.out.2.1, HL.out.2.2.1, by
                rw [HC.out]
                refine ⟨HL.out.2.2.2.1, HL.out.2.2.2.2.1, fun h' h1 h2 => ?_⟩
                by_cases e : h' = h
                · rw [e, HX.out.1, HX.out.2]; omega
                · exact HL.out.2.2.2.2.2 h' (by omega) h2⟩
              case measure => simp [intOf]; omega
        · obtain rfl : h = m := by omega
          have HE : Hid (HiN n s (uv ul) (i + 1)) := fun x h1 h2 => by
            by_cases hx : x ≤ i
            · exact HL.out.2.1 x h1 hx
            · obtain rfl : x = i + 1 := by omega
              rw [HC.out]
              obtain ⟨k1, k2, k3⟩ := HL.out.2.2.2
              exact ⟨k1, k2, fun h' h3 h4 => k3 h' (by have := HM.out; omega) h4⟩
          go_wp2
          go_roundw
          case rel => exact ⟨i + 1, ul, by go_num, by omega, HL.out.1, HE.out, HL.out.2.2.1⟩
          case measure => simp [intOf]; omega
    · obtain rfl : i = n := by omega
      go_wp2
      go_ret
      exact ⟨g, ul, rfl, HL.out.1, ⟨rfl, fun w h1 h2 => (HL.out.2.1 w h1 h2).1, fun w h1 h2 => (HL.out.2.1 w h1 h2).2.1, fun w h h1 h2 h3 h4 => (HL.out.2.1 w h1 h2).2.2 h h3 h4⟩⟩
end Go.Proofs.Ytpolnkdbebjpnaa.Hd
