/- Spans in memory; what areSpans keeps while it tells words from below; span.with (46). No conditions but sizes. -/
import Derived.Test.YtpolnkdbebjpnaaOg
namespace Go.Proofs.Ytpolnkdbebjpnaa.Hd
open Go.RowKit

/-- a block of so many numbers -/
def Iz (W : World) (p k : Nat) (ty : TypeId) (C : Nat → Int) : Prop := ∃ arr : Array Value, W.heap[p]? = some (.cells arr ty (0, 0)) ∧ arr.size = k ∧ ∀ i, i < k → arr[i]? = some (.int .i64 (C i))
section
variable {W W' : World} {p k : Nat} {ty : TypeId} {C : Nat → Int}
theorem Iz.lt (h : Iz W p k ty C) : p < W.heap.size := by obtain ⟨arr, h1, _⟩ := h; exact lt_at h1
theorem Iz.cell (h : Iz W p k ty C) {i : Nat} (hi : i < k) : W.cell? ⟨p, i, none⟩ = some (.int .i64 (C i)) := by
  obtain ⟨arr, h1, _, h3⟩ := h
  exact (cell_of_row _ _ i _ _ _ h1).trans (h3 i hi)
theorem Iz.froz (h : Iz W p k ty C) (i : Nat) : W.frozen? ⟨p, i, none⟩ = false := by
  obtain ⟨arr, h1, _, _⟩ := h
  exact frozen_of_row _ _ i _ _ h1
theorem Iz.set (h : Iz W p k ty C) (i : Nat) (x : Int) (hi : i < k) : Iz (W.setCell ⟨p, i, none⟩ (.int .i64 x)) p k ty (upC C i x) := by
  obtain ⟨arr, h1, h2, h3⟩ := h
  refine ⟨_, heap_setCell_same W p i arr ty _ h1, by simp [h2], fun j hj => ?_⟩
  unfold upC
  by_cases e : j = i
  · subst e; rw [if_pos rfl]; simp [h2, hj]
  · rw [if_neg e, ← h3 j hj]
    exact Array.getElem?_setIfInBounds_ne (fun e2 => e e2.symm)
theorem Iz.kept {X : Nat → Prop} (h : Iz W p k ty C) (hk : Kp X W W') (hx : ¬ X p) : Iz W' p k ty C := by
  have hl := h.lt
  obtain ⟨arr, h1, h2, h3⟩ := h
  exact ⟨arr, (hk.block p hl hx).trans h1, h2, h3⟩
end
theorem made1 (W : World) (n : Nat) : Iz (W.alloc (.cells (madeCells #[.int .i64 0] n) 3)) W.heap.size n 3 (fun _ => 0) :=
  ⟨_, heap_alloc_new _ _, size_madeCells _ _, fun i hi => by unfold madeCells; simp [hi, Nat.mod_one]⟩
theorem made3 (W : World) (n : Nat) : Iz (W.alloc (.cells (madeCells #[.int .i64 0, .int .i64 0, .int .i64 0] n) 66)) W.heap.size n 66 (fun _ => 0) :=
  ⟨_, heap_alloc_new _ _, size_madeCells _ _, fun i hi => by
    have e : ∀ k, k < 3 → (#[Value.int .i64 0, .int .i64 0, .int .i64 0] : Array Value)[k]! = .int .i64 0 := fun k hk => by
      match k, hk with
      | 0, _ => rfl
      | 1, _ => rfl
      | 2, _ => rfl
    unfold madeCells
    rw [Array.getElem?_map, Array.getElem?_range, if_pos hi]
    exact congrArg some (e _ (Nat.mod_lt _ (by decide)))⟩
theorem inf66 : (Try.prog.info? 66).map (fun i => (i.zero, i.size, i.bytes)) = some (some (.agg #[.int .i64 0, .int .i64 0, .int .i64 0]), 3, 24) := by kernel_rfl
theorem run_mk64n (n : Nat) (hn : n ≤ 2000000) (W : World) : (Instr.makeSlice 64 (.int .i64 (n : Int)) (.int .i64 (n : Int))).run Try.prog W = .ok (.slice (some ⟨W.heap.size, 0, none⟩) n n) (W.alloc (.cells (madeCells #[.int .i64 0, .int .i64 0, .int .i64 0] (n * 3)) 66)) := by
  obtain ⟨i0, hi, hz0, hz1, hz2⟩ := info_parts inf66
  have hr := run_make (P := Try.prog) W 64 66 i0 _ Try.underlying64 hi hz0 .i64 .i64 (n : Int) (n : Int) (by omega) (Int.le_refl _) (by rw [hz2]; omega) (by omega)
  simp only [Int.toNat_natCast, hz1] at hr
  exact hr
/-- what lies about while words are told -/
structure Ar (w wr : World) (p g n : Nat) (S D : Nat → Int) : Prop where
  sp : Iz wr p (n * 3 + 3) 66 S
  wt : Iz wr g (n + 1) 3 D
  ne : p ≠ g
  lp : w.heap.size ≤ p
  lg : w.heap.size ≤ g
  below : Below w.heap.size w wr
section
variable {w W W' : World} {p g n : Nat} {S D : Nat → Int}
theorem Ar.kept (h : Ar w W p g n S D) (hk : Kp (fun _ => False) W W') : Ar w W' p g n S D :=
  ⟨h.sp.kept hk id, h.wt.kept hk id, h.ne, h.lp, h.lg, below_kp h.below hk (fun _ _ => id)⟩
theorem Ar.setS (h : Ar w W p g n S D) (i : Nat) (x : Int) (hi : i < n * 3 + 3) : Ar w (W.setCell ⟨p, i, none⟩ (.int .i64 x)) p g n (upC S i x) D := by
  have hk : Kp (fun b => b = p) W (W.setCell ⟨p, i, none⟩ (.int .i64 x)) := (Kp.refl _ W).setCell _ _ _ (fun _ => rfl)
  exact ⟨h.sp.set i x hi, h.wt.kept hk (fun e => h.ne e.symm), h.ne, h.lp, h.lg, below_kp h.below hk (fun b hb e => by have e2 : b = p := e; have := h.lp; omega)⟩
theorem Ar.setD (h : Ar w W p g n S D) (i : Nat) (x : Int) (hi : i < n + 1) : Ar w (W.setCell ⟨g, i, none⟩ (.int .i64 x)) p g n S (upC D i x) := by
  have hk : Kp (fun b => b = g) W (W.setCell ⟨g, i, none⟩ (.int .i64 x)) := (Kp.refl _ W).setCell _ _ _ (fun _ => rfl)
  exact ⟨h.sp.kept hk (fun e => h.ne e), h.wt.set i x hi, h.ne, h.lp, h.lg, below_kp h.below hk (fun b hb e => by have e2 : b = g := e; have := h.lg; omega)⟩
def up3 (S : Nat → Int) (h : Nat) (x y z : Int) : Nat → Int := upC (upC (upC S (h * 3) x) (h * 3 + 1) y) (h * 3 + 2) z
theorem up3_at (S : Nat → Int) (h : Nat) (x y z : Int) : up3 S h x y z (h * 3) = x ∧ up3 S h x y z (h * 3 + 1) = y ∧ up3 S h x y z (h * 3 + 2) = z := by
  unfold up3 upC
  refine ⟨?_, ?_, ?_⟩
  · rw [if_neg (by omega), if_neg (by omega), if_pos rfl]
  · rw [if_neg (by omega), if_pos rfl]
  · rw [if_pos rfl]
theorem up3_ne (S : Nat → Int) {h k : Nat} (x y z : Int) (hk : k ≠ h) : up3 S h x y z (k * 3) = S (k * 3) ∧ up3 S h x y z (k * 3 + 1) = S (k * 3 + 1) ∧ up3 S h x y z (k * 3 + 2) = S (k * 3 + 2) := by
  unfold up3 upC
  refine ⟨?_, ?_, ?_⟩
  · rw [if_neg (by omega), if_neg (by omega), if_neg (by omega)]
  · rw [if_neg (by omega), if_neg (by omega), if_neg (by omega)]
  · rw [if_neg (by omega), if_neg (by omega), if_neg (by omega)]
theorem Ar.set3 (hA : Ar w W p g n S D) (h : Nat) (x y z : Int) (hh : h ≤ n) : Ar w (((W.setCell ⟨p, h * 3, none⟩ (.int .i64 x)).setCell ⟨p, h * 3 + 1, none⟩ (.int .i64 y)).setCell ⟨p, h * 3 + 2, none⟩ (.int .i64 z)) p g n (up3 S h x y z) D :=
  ((hA.setS _ x (by omega)).setS _ y (by omega)).setS _ z (by omega)
end
/-- what is known of all words while they are told -/
structure St (n : Nat) (u : Nat → Nat) (told : Nat → Bool) (L : Nat → List Nat) (S D : Nat → Int) : Prop where
  sp : Sp n u told L
  sn : ∀ w, 1 ≤ w → w ≤ n → Sn (L w) (S (w * 3)) (S (w * 3 + 1)) (S (w * 3 + 2))
  dw : ∀ w, w ≤ n → D w = if told w = true then -1 else (kids n u told w : Int)
section
variable {n : Nat} {u : Nat → Nat} {told : Nat → Bool} {L : Nat → List Nat} {S D : Nat → Int} {z : Nat}
theorem St.start (hS : ∀ w, w ≤ n → S (w * 3) = w ∧ S (w * 3 + 1) = w ∧ S (w * 3 + 2) = 1) (hD : ∀ w, w ≤ n → D w = (kc u n w : Int)) : St n u (fun _ => false) (fun w => [w]) S D :=
  ⟨Sp.start n u, fun w _ hw => by obtain ⟨e1, e2, e3⟩ := hS w hw; rw [e1, e2, e3]; exact Sn.one w, fun w hw => by rw [hD w hw, kids_kc]; rfl⟩
theorem St.zero_of (h : St n u told L S D) (hz : z ≤ n) (h0 : D z = 0) : told z = false ∧ kids n u told z = 0 := by
  have h1 := h.dw z hz
  rw [h0] at h1
  cases ht : told z with
  | true => rw [ht] at h1; cases h1
  | false =>
    rw [ht, if_neg (by decide)] at h1
    exact ⟨rfl, by omega⟩
theorem St.not_zero (h : St n u told L S D) (hz : z ≤ n) (h0 : D z ≠ 0) : told z = true ∨ kids n u told z ≠ 0 := by
  have h1 := h.dw z hz
  cases ht : told z with
  | true => exact .inl rfl
  | false =>
    rw [ht, if_neg (by decide)] at h1
    exact .inr (by omega)
theorem Sp.mem_le (h : Sp n u told L) {w x : Nat} (h1 : 1 ≤ w) (h2 : w ≤ n) (hx : x ∈ L w) : x ≤ n := by
  rcases (h.mem w h1 h2 x).1 hx with e | ⟨c, _, _, _, _, hx, _⟩
  · omega
  · exact hx
theorem St.small (h : St n u told L S D) {w : Nat} (h1 : 1 ≤ w) (h2 : w ≤ n) : 0 ≤ S (w * 3) ∧ S (w * 3) ≤ n ∧ 0 ≤ S (w * 3 + 1) ∧ S (w * 3 + 1) ≤ n ∧ 0 ≤ S (w * 3 + 2) ∧ S (w * 3 + 2) ≤ n + 1 := by
  have hs := h.sn w h1 h2
  obtain ⟨x, hx, e1⟩ := hs.lo_mem
  obtain ⟨y, hy, e2⟩ := hs.hi_mem
  have hx2 := h.sp.mem_le h1 h2 hx
  have hy2 := h.sp.mem_le h1 h2 hy
  have hl := nodup_len (m := List.range' 0 (n + 1)) (h.sp.nodup w h1 h2) fun a ha => by
    have := h.sp.mem_le h1 h2 ha
    rw [List.mem_range'_1]
    omega
  rw [List.length_range'] at hl
  have := hs.len
  omega
theorem St.cv (h : St n u told L S D) (hT : Tr n u) (h1 : 1 ≤ z) (h2 : z ≤ n) (hk : kids n u told z = 0) : S (z * 3 + 1) - S (z * 3) + 1 = S (z * 3 + 2) ↔ Cv n u z :=
  sn_cv (h.sn z h1 h2) (h.sp.nodup z h1 h2) (h.sp.full hT h1 h2 hk)
theorem St.up_untold (h : St n u told L S D) (h1 : 1 ≤ z) (h2 : z ≤ n) (ht : told z = false) : told (u z) = false := by
  cases he : told (u z) with
  | false => rfl
  | true => rw [h.sp.down z h1 h2 he] at ht; cases ht
theorem St.step (h : St n u told L S D) (hT : Tr n u) (h1 : 1 ≤ z) (h2 : z ≤ n) (ht : told z = false) (hk : kids n u told z = 0) (hC : Cv n u z) {x y m : Int}
    (hx : 1 ≤ u z → x = min (S (u z * 3)) (S (z * 3)) ∧ y = max (S (u z * 3 + 1)) (S (z * 3 + 1)) ∧ m = S (u z * 3 + 2) + S (z * 3 + 2)) : St n u (tellT told z) (tellL L (u z) z) (up3 S (u z) x y m) (upC (upC D (u z) (D (u z) - 1)) z (-1)) := by
  refine ⟨h.sp.tell hT h1 h2 ht hk hC, fun w hw1 hw2 => ?_, fun w hw => ?_⟩
  · by_cases e : w = u z
    · subst e
      obtain ⟨e1, e2, e3⟩ := up3_at S (u z) x y m
      obtain ⟨f1, f2, f3⟩ := hx hw1
      rw [e1, e2, e3, f1, f2, f3]
      have eL : tellL L (u z) z (u z) = L (u z) ++ L z := by unfold tellL; rw [if_pos rfl]
      rw [eL]
      exact (h.sn _ hw1 hw2).append (h.sn z h1 h2)
    · obtain ⟨e1, e2, e3⟩ := up3_ne S x y m e
      have eL : tellL L (u z) z w = L w := by unfold tellL; rw [if_neg e]
      rw [e1, e2, e3, eL]
      exact h.sn w hw1 hw2
  · have hne : u z ≠ z := hT.ne h1 h2
    unfold upC
    by_cases e : w = z
    · subst e
      rw [if_pos rfl, if_pos (by unfold tellT; simp)]
    · rw [if_neg e]
      have hd := h.dw w hw
      have htt : tellT told z w = told w := by unfold tellT; simp [e]
      by_cases e2 : w = u z
      · subst e2
        have hu := h.up_untold h1 h2 ht
        have := kids_up (n := n) (u := u) h1 h2 ht
        rw [if_pos rfl, htt, hu, if_neg (by decide)]
        rw [hu, if_neg (by decide)] at hd
        rw [hd, this]
        omega
      · rw [if_neg e2, htt, kids_other e2]
        exact hd
end
theorem row66 : (Try.prog.info? 66).map (·.size) = some 3 := by kernel_rfl
theorem third (w : World) (o1 o2 o3 : Obj) : (((w.alloc o1).alloc o2).alloc o3).heap[w.heap.size + 1 + 1]? = some o3 := by
  have h := heap_alloc_new ((w.alloc o1).alloc o2) o3
  have e : ((w.alloc o1).alloc o2).heap.size = w.heap.size + 1 + 1 := by simp
  rw [e] at h
  exact h
set_option maxHeartbeats 2000000 in
set_option maxRecDepth 100000 in
theorem with_any (a b c x y z : Int) (w : World) :
    Calls Try.prog 46 #[.agg #[.int .i64 a, .int .i64 b, .int .i64 c], .agg #[.int .i64 x, .int .i64 y, .int .i64 z]] w fun e w' => e = .returned (.agg #[.int .i64 (min a x), .int .i64 (max b y), .int .i64 (wrap64 (c + z))]) ∧ Below w.heap.size w w' := by
  go_enter Try.func46, Try.ntmps46
  go_wp2
  all_goals refine bodyPost_ret (results_cell_row rfl _ _ (w.heap.size + 1 + 1) 66 _ (0, 0) _ rfl (third _ _ _ _) Try.underlying66 rfl row66) rfl ?_
  all_goals refine ⟨by (first | rw [Int.min_eq_left (by omega)] | rw [Int.min_eq_right (by omega)]); (first | rw [Int.max_eq_left (by omega)] | rw [Int.max_eq_right (by omega)]), ((below_al _ _).alloc (by simp) _).alloc (by simp; omega) _⟩
end Go.Proofs.Ytpolnkdbebjpnaa.Hd
