/- ringOf (38): the words of a ring. Condition: the word is in a ring; at most 1000 words. -/
import Derived.Test.YtpolnkdbebjpnaaMc
import Derived.Maps.AppendAt
namespace Go.Proofs.Ytpolnkdbebjpnaa.Hd
open Go.RowKit

theorem own_nil_new (W : World) (u : Value) (base ty : Nat) (hb : base ≤ W.heap.size) : (W.alloc (.cells #[u] ty)).ownsRow base ty 1 (.slice (some ⟨W.heap.size, 0, none⟩) 1 1) 1 [u] := ⟨rfl, .inr ⟨W.heap.size, 1, #[u], rfl, hb, heap_alloc_new _ _, Nat.le_refl _, by unfold maxLen; omega, rfl, rfl⟩⟩
theorem inj_len : ∀ (n : Nat) (l : List Nat), l.Nodup → (∀ x ∈ l, x < n) → l.length ≤ n
  | 0, l, _, h => by
    cases l with
    | nil => exact Nat.le_refl _
    | cons x l => exact absurd (h x List.mem_cons_self) (Nat.not_lt_zero x)
  | n + 1, l, hd, h => by
    by_cases hm : n ∈ l
    · have h2 := inj_len n (l.erase n) (hd.erase n) (fun x hx => by
        have h3 := h x (List.mem_of_mem_erase hx)
        have h4 : x ≠ n := fun e => by subst e; exact (List.Nodup.not_mem_erase hd) hx
        omega)
      rw [List.length_erase_of_mem hm] at h2
      omega
    · have h2 := inj_len n l hd (fun x hx => by
        have h3 := h x hx
        have h4 : x ≠ n := fun e => by subst e; exact hm hx
        omega)
      omega
theorem it_le {n : Nat} {u : Nat → Nat} (hu : ∀ x, 1 ≤ x → x ≤ n → u x ≤ n) (h0 : u 0 = 0) : ∀ (k x : Nat), x ≤ n → it u k x ≤ n
  | 0, _, hx => hx
  | k + 1, x, hx => it_le hu h0 k (u x) (by
    rcases Nat.eq_zero_or_pos x with rfl | h
    · rw [h0]; omega
    · exact hu x h hx)
/-- the least number of steps after which one is back -/
theorem least_back {u : Nat → Nat} {w : Nat} : ∀ (k : Nat), 0 < k → it u k w = w → ∃ p, 0 < p ∧ it u p w = w ∧ ∀ j, 0 < j → j < p → it u j w ≠ w := by
  intro k
  induction k using Nat.strongRecOn with
  | _ k ih =>
    intro h0 h
    by_cases hx : ∃ j, 0 < j ∧ j < k ∧ it u j w = w
    · obtain ⟨j, h1, h2, h3⟩ := hx
      exact ih j h2 h1 h3
    · exact ⟨k, h0, h, fun j h1 h2 h3 => hx ⟨j, h1, h2, h3⟩⟩
def orb (u : Nat → Nat) (w j : Nat) : List Nat := (List.range j).map fun i => it u i w
theorem orb_up (u : Nat → Nat) (w j : Nat) : orb u w (j + 1) = orb u w j ++ [it u j w] := by
  unfold orb
  rw [List.range_succ, List.map_append]
  rfl
theorem orb_len (u : Nat → Nat) (w j : Nat) : (orb u w j).length = j := by simp [orb]
theorem orb_rg {n : Nat} {u : Nat → Nat} {w p : Nat} (hu : ∀ x, 1 ≤ x → x ≤ n → u x ≤ n) (h0 : u 0 = 0) (hw : 1 ≤ w) (hwn : w ≤ n) (hp : 0 < p) (hb : it u p w = w) (hm : ∀ j, 0 < j → j < p → it u j w ≠ w) : Rg n u (orb u w p) := by
  have mem : ∀ x, x ∈ orb u w p ↔ ∃ i, i < p ∧ it u i w = x := fun x => by
    unfold orb
    rw [List.mem_map]
    constructor
    · rintro ⟨i, hi, e⟩; exact ⟨i, List.mem_range.1 hi, e⟩
    · rintro ⟨i, hi, e⟩; exact ⟨i, List.mem_range.2 hi, e⟩
  refine ⟨?_, fun r hr => ?_, fun r hr => ?_, fun a ha b hb2 => ?_, fun e => ?_⟩
  · unfold orb
    rw [List.nodup_iff_pairwise_ne, List.pairwise_map]
    refine (List.pairwise_lt_range (n := p)).imp_of_mem fun {i j} hi hj hij e => ?_
    have hjp := List.mem_range.1 hj
    refine hm (i + (p - j)) (by omega) (by omega) ?_
    rw [it_add, e, ← it_add, show j + (p - j) = p by omega, hb]
  · obtain ⟨i, hi, rfl⟩ := (mem r).1 hr
    refine ⟨?_, it_le hu h0 i w hwn⟩
    rcases Nat.eq_zero_or_pos (it u i w) with e | e
    · have h := hb
      rw [show p = i + (p - i) by omega, it_add, e, it_zero h0] at h
      omega
    · exact e
  · obtain ⟨i, hi, rfl⟩ := (mem r).1 hr
    rw [← it_succ u i w]
    by_cases e : i + 1 = p
    · exact (mem _).2 ⟨0, hp, by rw [e, hb]; rfl⟩
    · exact (mem _).2 ⟨i + 1, by omega, rfl⟩
  · obtain ⟨i, hi, rfl⟩ := (mem a).1 ha
    obtain ⟨j, hj, rfl⟩ := (mem b).1 hb2
    refine ⟨(p - i) + j, ?_⟩
    rw [it_add u (p - i) j, ← it_add u i (p - i) w, show i + (p - i) = p by omega, hb]
  · have := orb_len u w p
    rw [e] at this
    simp at this
    omega
theorem sz3' : (Try.prog.info? 3).map (·.size) = some 1 := by kernel_rfl
/-- a new list of numbers, as long as may be -/
def RoQ (P : List Nat → Prop) (w : World) (e : Ending) (w' : World) : Prop := ∃ g c R, e = .returned (.slice (some ⟨g, 0, none⟩) (List.length R) c) ∧ w'.ownsRow w.heap.size 3 1 (.slice (some ⟨g, 0, none⟩) R.length c) R.length (ns R) ∧ Below w.heap.size w w' ∧ P R
set_option maxHeartbeats 4000000 in
set_option maxRecDepth 100000 in
theorem ringOf_any (n : Nat) (ul : List Nat) (v : Value) (x : Nat) (w : World) (hR : Row w v 1 n (ns ul)) (hl : ul.length = n) (hu : ∀ x, 1 ≤ x → x ≤ n → uv ul x ≤ n) (hn : n ≤ 1000) (hx : 1 ≤ x) (hxn : x ≤ n) (hb : ∃ k, 0 < k ∧ it (uv ul) k x = x) :
    Calls Try.prog 38 #[v, .int .i64 (x : Int)] w (RoQ (fun R => Rg n (uv ul) R) w) := by
  obtain ⟨i3, hi3, hx0', hx1', hx2'⟩ := info_parts inf3
  obtain ⟨k0, hk0, hk1⟩ := hb
  obtain ⟨p, hp, hpb, hpm⟩ := least_back k0 hk0 hk1
  have HRG : Hid (Rg n (uv ul) (orb (uv ul) x p)) := orb_rg hu rfl hx hxn hp hpb hpm
  have hpn : p ≤ n + 1 := by
    have h3 := inj_len (n + 1) _ HRG.out.nodup fun y hy => by have := HRG.out.pos y hy; omega
    rw [orb_len] at h3
    exact h3
  have HP : Hid (0 < p ∧ it (uv ul) p x = x ∧ (∀ j, 0 < j → j < p → it (uv ul) j x ≠ x) ∧ p ≤ n + 1 ∧ n ≤ 1000) := ⟨hp, hpb, hpm, hpn, hn⟩
  obtain ⟨hy1, a, cap, rfl, hy2, hc⟩ := hR
  clear hy1 hy2
  obtain ⟨b, off, rfl, hbl, hcc⟩ := hc.resolve_left (by omega)
  have HC : Hid (∀ W, Below w.heap.size w W → ∀ j, 1 ≤ j → j ≤ n → W.cell? ⟨b, off + (j - 1), none⟩ = some (.int .i64 (uv ul j : Int))) := fun W hW j h1 h2 => by
    have h := (hW.cell (p := ⟨b, off + (j - 1), none⟩) hbl).trans (hcc (j - 1) _ (ns_uv (by rw [hl]; omega)))
    rw [show j - 1 + 1 = j by omega] at h
    exact h
  have HU : Hid ((∀ x, 1 ≤ x → x ≤ n → uv ul x ≤ n) ∧ ul.length = n) := ⟨hu, hl⟩
  obtain ⟨x', hx'⟩ : ∃ y, x = y + 1 := ⟨x - 1, by omega⟩
  have hw1 : wrap64 ((x : Int) - 1) = (x' : Int) := by unfold wrap64; omega
  have hxi : (x' : Int) < (n : Int) := by omega
  have HB0 : Hid ((w.alloc (.cells #[.int .i64 (x : Int)] 3)).ownsRow w.heap.size 3 1 (.slice (some ⟨w.heap.size, 0, none⟩) 1 1) 1 (ns (orb (uv ul) x 1)) ∧ Below w.heap.size w (w.alloc (.cells #[.int .i64 (x : Int)] 3))) := ⟨own_nil_new w (.int .i64 (x : Int)) w.heap.size 3 (Nat.le_refl _), below_al _ _⟩
  have c0 := HC.out _ HB0.out.2 x hx hxn
  rw [show x - 1 = x' by omega] at c0
  obtain ⟨y, hy⟩ : ∃ y, uv ul x = y := ⟨_, rfl⟩
  rw [hy] at c0
  have HY : Hid (uv ul x = y) := hy
  clear hc hbl hcc hl hu hp hpb hpm hpn hn hk0 hk1 hy hx'
  go_enter Try.func38, Try.ntmps38
  go_upto_region 3 with fail
  clear c0 hw1 hxi
  obtain ⟨g, hg⟩ : ∃ g, w.heap.size = g := ⟨_, rfl⟩
  have HB1 : Hid ((w.alloc (.cells #[.int .i64 (x : Int)] 3)).ownsRow w.heap.size 3 1 (.slice (some ⟨g, 0, none⟩) 1 1) 1 (ns (orb (uv ul) x 1)) ∧ Below w.heap.size w (w.alloc (.cells #[.int .i64 (x : Int)] 3))) := by have h := HB0.out; rw [hg] at h; rw [hg]; exact h
  try rw [hg]
  clear HB0 hg
  generalize w.alloc (.cells #[.int .i64 (x : Int)] 3) = W0 at *
  go_loopg [5, 6] (p - 1) (fun gk a c wr => ∃ (j : Nat) (va : Value) (z : Nat), a = va ∧ c = .int .i64 (z : Int) ∧ wr.ownsRow w.heap.size 3 1 va j (ns (orb (uv ul) x j)) ∧ Below w.heap.size w wr ∧ z = it (uv ul) j x ∧ 1 ≤ j ∧ j ≤ p ∧ gk = p - j)
  case atStart => exact ⟨1, _, y, rfl, rfl, HB1.out.1, HB1.out.2, HY.out.symm, Nat.le_refl _, HP.out.1, rfl⟩
  case round =>
    clear HB1
    obtain ⟨j, va, z, rfl, rfl, hrow, hbe, hz, h1, h2, hgk⟩ := hrel
    obtain ⟨av, cv, rfl⟩ := oslice hrow
    have HJ : Hid (wr.ownsRow w.heap.size 3 1 (.slice av j cv) j (ns (orb (uv ul) x j)) ∧ Below w.heap.size w wr ∧ z = it (uv ul) j x ∧ gk = p - j) := ⟨hrow, hbe, hz, hgk⟩
    have hzr := HRG.out.pos z (by
      rw [hz]
      by_cases e : j = p
      · rw [e, HP.out.2.1]
        unfold orb
        exact List.mem_map.2 ⟨0, List.mem_range.2 HP.out.1, rfl⟩
      · unfold orb
        exact List.mem_map.2 ⟨j, List.mem_range.2 (by omega), rfl⟩)
    clear hrow hbe hz hgk
    by_cases hzx : z = x
    · have HE : Hid (j = p) := by
        show j = p
        by_cases e : j = p
        · exact e
        · exact absurd (HJ.out.2.2.1.symm.trans hzx) (HP.out.2.2.1 j (by omega) (by omega))
      subst hzx
      have hrow := HJ.out.1
      obtain ⟨g2, c2, he, _, _⟩ := own_some hrow (by omega)
      injection he with e1 e2 e3
      subst e1
      clear hrow e2 e3
      go_wp2
      go_ret
      refine ⟨g2, cv, orb (uv ul) z p, ?_, ?_, HJ.out.2.1, HRG.out⟩
      · rw [orb_len, ← HE.out]; rfl
      · have h := HJ.out.1
        rw [HE.out] at h
        rw [orb_len]
        exact h
    · have q0 : ((z : Int) != (x : Int)) = true := by simp; omega
      have q1 : ¬ (z : Int) = (x : Int) := by omega
      have hjb : j ≤ 1001 := by have := HP.out; omega
      have HJP : Hid (j < p) := by
        show j < p
        by_cases e : j = p
        · exact absurd (HJ.out.2.2.1.trans (by rw [e, HP.out.2.1])) hzx
        · omega
      obtain ⟨z', hz'⟩ : ∃ y, z = y + 1 := ⟨z - 1, by omega⟩
      obtain ⟨y2, hy2⟩ : ∃ y, uv ul z = y := ⟨_, rfl⟩
      have HZ' : Hid (z = z' + 1 ∧ uv ul z = y2) := ⟨hz', hy2⟩
      clear hz' hy2
      have hw3 : wrap64 ((z : Int) - 1) = (z' : Int) := by have h8 := HP.out.2.2.2.2; have h9 := hzr; have h10 := HZ'.out.1; unfold wrap64; omega
      have hzi : (z' : Int) < (n : Int) := by have h9 := hzr; have h10 := HZ'.out.1; omega
      have HSZ : Hid (w.heap.size ≤ wr.heap.size) := HJ.out.2.1.size
      go_wp2_with (refine wpList_append_own_at _ rfl _ _ 26 rfl w.heap.size 3 i3 (.int .i64 0) 1 8 Try.underlying26 hi3 hx0' hx1' hx2' rfl (by decide) _ _ _ rfl (HJ.out.1.alloc _) ⟨_, 0, none⟩ 1 1 [.int .i64 (z : Int)] rfl rfl (cell_one_new _ _ _) (sl_one _ rfl) (by unfold maxLen; omega) (by omega) (by have h := HSZ.out; simp; omega) ?_; intro v7 w7 ho7 hg7 _ hl7; obtain ⟨g7, c7, rfl, _, _⟩ := own_some ho7 (Nat.succ_pos _); have hba := below_al wr (.cells #[.int .i64 (z : Int)] 3); have HO3 : Hid (w7.ownsRow w.heap.size 3 1 (.slice (some ⟨g7, 0, none⟩) (j + 1) c7) (j + 1) (ns (orb (uv ul) x (j + 1))) ∧ Below w.heap.size w w7) := ⟨by rw [orb_up, ns_snoc, ← HJ.out.2.2.1]; exact ho7, (HJ.out.2.1.trans (hba.mono HJ.out.2.1.size)).grown hg7 (HJ.out.2.1.trans (hba.mono HJ.out.2.1.size)).size (fun b hb => (HJ.out.1.lt b hb).1)⟩; have c9 := HC.out _ HO3.out.2 z hzr.1 hzr.2; rw [show z - 1 = z' by have := HZ'.out.1; omega, HZ'.out.2] at c9; clear ho7 hg7 hl7 hba)
      go_roundg (p - (j + 1))
      case measure => have h8 := HJP.out; have h9 : gk = p - j := HJ.out.2.2.2; omega
      case rel => exact ⟨j + 1, _, y2, rfl, rfl, HO3.out.1, HO3.out.2, by rw [it_succ, ← HJ.out.2.2.1, HZ'.out.2], by omega, HJP.out, rfl⟩
end Go.Proofs.Ytpolnkdbebjpnaa.Hd
