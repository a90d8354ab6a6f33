/- The document's Pieces: a new slice that holds the text's pieces. Condition: the text has at most 1048576 bytes. -/
import Derived.Test.YtglfaibihckhnaaPcR
import Derived.Test.YtglfaibihckhnaaPiecesP
import Derived.Test.YtglfaibihckhnaaBytes
import Derived.Deep.RegionLaw
namespace Go.Proofs.Ytglfaibihckhnaa.PiecesR
open Go.RowKit Uni Kinds Pc UnitsP Begun LU PiecesP

/-- an append onto an owned row, as one step of a region that draws its order -/
theorem step_append_own {P : Program} {ops : Array Oper} {o : Oper} {a : Act} {w : World} {K : Act → World → Prop} {Q : Exit → Act → World → Prop} {E : Prop}
    (hgd : o.guard = none) (s x : Operand) (t : TypeId) (ho : o.op = .call { callee := .builtin .append, args := #[s, x], argTypes := #[t, t] })
    (base : Nat) (e : TypeId) (i : TypeInfo) (z : Value) (size bytes : Nat) (ht : P.underlying t = some (.slice e)) (hi : P.info? e = some i) (hz : i.zero = some z)
    (hsize : i.size = size) (hby : i.bytes = bytes) (hzs : z.cells.size = size) (hsz : 0 < size)
    (v : Value) (n : Nat) (xs : List Value) (hs : a.eval s = v) (hown : w.ownsRow base e size v n xs)
    (ad : Addr) (m c : Nat) (news : List Value) (hx : a.eval x = .slice (some ad) m c) (hl : news.length = m * size) (hnews : ∀ j u, news[j]? = some u → w.cell? (ad.add j) = some u) (h1 : ∀ u ∈ news, u.oneCell' = true)
    (h63 : n + m ≤ maxLen) (hbytes : (n + m) * bytes ≤ 140737488355328) (hbase : base ≤ w.heap.size)
    (h : ∀ v' w', w'.ownsRow base e size v' (n + m) (xs ++ news) → w.grownBy w' v.ownBlock → K (a.put o.dst v') w') :
    if Region.wanted o (yielded ops a.tmps) = true then Oper.wp P o a w K Q else E := by
  have hw : Region.wanted o (yielded ops a.tmps) = true := by simp [Region.wanted, hgd]
  rw [if_pos hw]
  exact wp_append_own w s x t ho base e i z size bytes ht hi hz hsize hby hzs hsz v n xs hs hown ad m c news hx hl hnews h1 h63 hbytes hbase fun v' w' h2 h3 _ => h v' w' h2 h3

theorem unitsFrom_mem' (s : ByteArray) (k : Nat) (h : k < (units s).length) : -1 ≤ ((units s)[k]).2.2 ∧ ((units s)[k]).2.2 ≤ 1114111 ∧ ((units s)[k]).1 < s.size := by
  obtain ⟨i, hi, hu⟩ := unit_at s k h
  have f := ua_facts s i hi
  rw [hu]
  exact ⟨f.2.2.2.1, f.2.2.2.2.1, hi⟩

theorem three_one (a b c : Int) : ∀ x ∈ [Value.int .i64 a, .int .i64 b, .int .i64 c], x.oneCell' = true := by
  intro x hx
  simp at hx
  rcases hx with rfl | rfl | rfl <;> rfl

theorem cell_three_drew (w : World) (g : Nat) (a b c : Value) (t : TypeId) (hg : g = w.heap.size) : ∀ j u, [a, b, c][j]? = some u → (w.alloc (.cells #[a, b, c] t)).drew.cell? ((⟨g, 0, none⟩ : Addr).add j) = some u :=
  cell_three_at w g a b c t hg

/-- the row behind the append is the row of one piece more -/
theorem own_group {W : World} {base : Nat} {v : Value} {s : ByteArray} {k m a b : Nat} {c : Int} (hg : group s k m (kind c) a) (hb : atU s (units s) m = b) (hbs : b ≤ 1048576)
    (h : W.ownsRow base 35 3 v ((pk s k).length + 1) (pcs (pk s k) ++ [.int .i64 (kind c), .int .i64 a, .int .i64 (IntKind.i64.wrap ((b : Int) - (a : Int)))])) : W.ownsRow base 35 3 v (pk s m).length (pcs (pk s m)) := by
  have hle := hg.2
  have e : IntKind.i64.wrap ((b : Int) - (a : Int)) = ((atU s (units s) m - a : Nat) : Int) := by
    rw [wrap_small _ (by omega) (by omega)]
    omega
  rw [e] at h
  rw [hg.1, pcs_snoc, List.length_append]
  exact h

theorem own_mono {w : World} {base base' : Nat} {e : TypeId} {size : Nat} {v : Value} {n : Nat} {xs : List Value} (h : w.ownsRow base e size v n xs) (hb : base' ≤ base) : w.ownsRow base' e size v n xs := by
  refine ⟨h.1, ?_⟩
  rcases h.2 with hn | ⟨g, cap, cur, hv, hbb, rest⟩
  · exact .inl hn
  · exact .inr ⟨g, cap, cur, hv, by omega, rest⟩

set_option maxHeartbeats 4000000 in
set_option maxRecDepth 100000 in
theorem pieces_ne (s : ByteArray) (w : World) (hs : s.size ≤ 1048576) (hn : 0 < (units s).length) :
    Calls Try.prog 14 #[.string s] w fun e w' => ∃ v, e = .returned v ∧ w'.ownsRow w.heap.size 35 3 v (pieces s).length (pcs (pieces s)) ∧ Below w.heap.size w w' := by
  obtain ⟨i0, hi, hz0, hz1, hz2⟩ := info_parts info35
  have hul := units_length s
  go_enter Try.func14, Try.ntmps14
  go_wp2_with (go_at_call 9; refine (ref_ne s _ hs hn).mono ?_; rintro e w1 ⟨g, cap, rfl, hg, ha, hb1⟩)
  go_loopw [3, 5] (fun v i wr => ∃ k : Nat, i = .int .i64 k ∧ k ≤ (units s).length ∧ wr.ownsRow w1.heap.size 35 3 v (pk s k).length (pcs (pk s k)) ∧ Below w1.heap.size w1 wr ∧ begins s k) (fun _ i _ => (units s).length - (intOf i).toNat)
  case atStart => exact ⟨0, rfl, by omega, by rw [pk_zero]; exact World.ownsRow_nil _ _ _ _, Below.refl _ _, begins_zero s⟩
  case round =>
    obtain ⟨k, rfl, hk, hown, hbw, hbeg⟩ := hrel
    by_cases hlt : k < (units s).length
    · have hA := ha.below hg hbw
      have hplk := pk_length s k
      have hws := hbw.size
      have u := ucs_at (units s) k hlt
      have p1 := hA _ _ u.1
      have p3 := hA _ _ u.2.2
      have hm := unitsFrom_mem' s k hlt
      have hG := group_one s k hlt hbeg
      obtain ⟨a, ea⟩ : ∃ a, a = (units s)[k].1 := ⟨_, rfl⟩
      obtain ⟨c, ec⟩ : ∃ c, c = (units s)[k].2.2 := ⟨_, rfl⟩
      rw [← ea] at p1 hG
      rw [← ec] at p3 hG hm
      have HA : Hid (a = (units s)[k].1) := ea
      have HC : Hid (c = (units s)[k].2.2) := ec
      have hkb := kind_bd c
      obtain ⟨hk0, hk1⟩ := hkb
      obtain ⟨hc0, hc1, hax⟩ := hm
      rw [← ea] at hax
      clear u ea ec
      go_wp2_with (go_at_call 42; refine (ref_any _ _ hc0 hc1).mono ?_; rintro e w' ⟨rfl, hw⟩; obtain rfl := hw.symm; clear hw)
      go_loop [7] (fun j => ∃ m : Nat, j = .int .i64 m ∧ k + 1 ≤ m ∧ m ≤ (units s).length ∧ group s k m (kind c) a) (fun j => (units s).length - (intOf j).toNat)
      case atStart => exact ⟨k + 1, by go_num, Nat.le_refl _, hlt, hG⟩
      case round =>
        obtain ⟨m, rfl, hm1, hm2, hgr⟩ := hrel
        by_cases hml : m < (units s).length
        · have u := ucs_at (units s) m hml
          have q1 := hA _ _ u.1
          have q3 := hA _ _ u.2.2
          have hmm := unitsFrom_mem' s m hml
          have eA := atU_lt s m hml
          have hGM := group_more s k m (kind c) a hml hgr
          have hGE := group_ends s k m (kind c) a hgr
          obtain ⟨b, eb⟩ : ∃ b, b = (units s)[m].1 := ⟨_, rfl⟩
          obtain ⟨d, ed⟩ : ∃ d, d = (units s)[m].2.2 := ⟨_, rfl⟩
          rw [← eb] at q1 eA
          rw [← ed] at q3 hGM
          have HGE : Hid (¬ (kind d = kind c ∧ kind c < 4) → begins s m) := fun hh => hGE fun _ => by rw [← ed]; exact hh
          rw [← eb, ← ed] at hmm
          obtain ⟨hd0, hd1, hbx⟩ := hmm
          have hab : a ≤ b := by have := hgr.2; omega
          have HEA : Hid (atU s (units s) m = b) := eA
          have HGR : Hid (group s k m (kind c) a) := hgr
          have HGM : Hid (kind d = kind c → kind c < 4 → group s k (m + 1) (kind c) a) := hGM
          clear u eb ed eA hgr hGM hGE hG HA HC hbeg
          by_cases h4 : kind c < 4
          · by_cases hkk : kind d = kind c
            · have hkb : (kind d == kind c) = true := by simpa using hkk
              have HKK : Hid (kind d = kind c) := hkk
              clear hkk
              go_wp2_with (go_at_call 42; refine (ref_any _ _ hd0 hd1).mono ?_; rintro e w' ⟨rfl, hw⟩; obtain rfl := hw.symm; clear hw)
              go_round
              case rel => exact ⟨m + 1, by go_num, by omega, by omega, HGM.out HKK.out h4⟩
              case measure => simp [intOf]; omega
            · have hkb : (kind d == kind c) = false := by simpa using hkk
              have HKK : Hid (¬ kind d = kind c) := hkk
              clear hkk
              go_wp2_with (go_at_call 42; refine (ref_any _ _ hd0 hd1).mono ?_; rintro e w' ⟨rfl, hw⟩; obtain rfl := hw.symm; clear hw)
              go_region_law (refine step_append_own rfl (.tmp 54) (.tmp 69) 31 rfl w1.heap.size 35 i0 (.agg #[.int .i64 0, .int .i64 0, .int .i64 0]) 3 24 Try.underlying31 hi hz0 hz1 hz2 rfl (by decide) _ _ _ rfl (hown.alloc _).drew ⟨_, 0, none⟩ 1 1 [.int .i64 (kind c), .int .i64 a, .int .i64 (IntKind.i64.wrap ((b : Int) - (a : Int)))] rfl rfl (cell_three_drew _ _ _ _ _ _ rfl) (three_one _ _ _) (by unfold maxLen; omega) (by omega) (by simp; omega) ?_; intro v' W2 hown3 hgrow3)
              all_goals go_wp2
              all_goals exact ⟨⟨m, rfl, hm2, own_group HGR.out HEA.out (by omega) hown3, ((hbw.alloc hws _).drew).grown hgrow3 (by simp; omega) (fun j hj => (hown.lt j hj).1), HGE.out (fun h => HKK.out h.1)⟩, by simp [intOf]; omega⟩
          · go_wp2
            go_region_law (refine step_append_own rfl (.tmp 54) (.tmp 69) 31 rfl w1.heap.size 35 i0 (.agg #[.int .i64 0, .int .i64 0, .int .i64 0]) 3 24 Try.underlying31 hi hz0 hz1 hz2 rfl (by decide) _ _ _ rfl (hown.alloc _).drew ⟨_, 0, none⟩ 1 1 [.int .i64 (kind c), .int .i64 a, .int .i64 (IntKind.i64.wrap ((b : Int) - (a : Int)))] rfl rfl (cell_three_drew _ _ _ _ _ _ rfl) (three_one _ _ _) (by unfold maxLen; omega) (by omega) (by simp; omega) ?_; intro v' W2 hown3 hgrow3)
            all_goals go_wp2
            all_goals exact ⟨⟨m, rfl, hm2, own_group HGR.out HEA.out (by omega) hown3, ((hbw.alloc hws _).drew).grown hgrow3 (by simp; omega) (fun j hj => (hown.lt j hj).1), HGE.out (fun h => absurd h.2 (by omega))⟩, by simp [intOf]; omega⟩
        · have hmn : m = (units s).length := by omega
          have HMN : Hid (m = (units s).length) := hmn
          have HGR : Hid (group s k m (kind c) a) := hgr
          have HEA : Hid (atU s (units s) m = s.size) := atU_end s m (by omega)
          have HGE : Hid (begins s m) := fun h => absurd h hml
          have hab : a ≤ s.size := by omega
          clear hgr hmn hG HA HC hbeg
          by_cases h4 : kind c < 4
          · go_wp2
            go_region_law (refine step_append_own rfl (.tmp 54) (.tmp 69) 31 rfl w1.heap.size 35 i0 (.agg #[.int .i64 0, .int .i64 0, .int .i64 0]) 3 24 Try.underlying31 hi hz0 hz1 hz2 rfl (by decide) _ _ _ rfl (hown.alloc _).drew ⟨_, 0, none⟩ 1 1 [.int .i64 (kind c), .int .i64 a, .int .i64 (IntKind.i64.wrap ((s.size : Int) - (a : Int)))] rfl rfl (cell_three_drew _ _ _ _ _ _ rfl) (three_one _ _ _) (by unfold maxLen; omega) (by omega) (by simp; omega) ?_; intro v' W2 hown3 hgrow3)
            all_goals go_wp2
            all_goals exact ⟨⟨m, rfl, hm2, own_group HGR.out HEA.out (by omega) hown3, ((hbw.alloc hws _).drew).grown hgrow3 (by simp; omega) (fun j hj => (hown.lt j hj).1), HGE.out⟩, by simp [intOf]; omega⟩
          · go_wp2
            go_region_law (refine step_append_own rfl (.tmp 54) (.tmp 69) 31 rfl w1.heap.size 35 i0 (.agg #[.int .i64 0, .int .i64 0, .int .i64 0]) 3 24 Try.underlying31 hi hz0 hz1 hz2 rfl (by decide) _ _ _ rfl (hown.alloc _).drew ⟨_, 0, none⟩ 1 1 [.int .i64 (kind c), .int .i64 a, .int .i64 (IntKind.i64.wrap ((s.size : Int) - (a : Int)))] rfl rfl (cell_three_drew _ _ _ _ _ _ rfl) (three_one _ _ _) (by unfold maxLen; omega) (by omega) (by simp; omega) ?_; intro v' W2 hown3 hgrow3)
            all_goals go_wp2
            all_goals exact ⟨⟨m, rfl, hm2, own_group HGR.out HEA.out (by omega) hown3, ((hbw.alloc hws _).drew).grown hgrow3 (by simp; omega) (fun j hj => (hown.lt j hj).1), HGE.out⟩, by simp [intOf]; omega⟩
    · go_wp2
      go_ret
      rw [pk_all s k (by omega)] at hown
      exact ⟨_, rfl, own_mono hown hb1.size, hb1.trans (hbw.mono hb1.size)⟩

theorem pieces_e (s : ByteArray) (w : World) (hs : s.size ≤ 1048576) (hn : (units s).length = 0) :
    Calls Try.prog 14 #[.string s] w fun e w' => ∃ v, e = .returned v ∧ w'.ownsRow w.heap.size 35 3 v (pieces s).length (pcs (pieces s)) ∧ Below w.heap.size w w' := by
  have hf : pieces s = [] := by unfold pieces; rw [List.eq_nil_of_length_eq_zero hn]; rfl
  rw [hf]
  go_enter Try.func14, Try.ntmps14
  go_wp2_with (go_at_call 9; refine (ref_e s _ hs hn).mono ?_; rintro e w1 ⟨a, cap, rfl, hb1⟩)
  refine wp_loop_rounds 1 ?_
  rw [rounds_succ]
  go_wp2
  go_ret
  exact ⟨_, rfl, World.ownsRow_nil _ _ _ _, hb1⟩

theorem pieces_any (s : ByteArray) (w : World) (hs : s.size ≤ 1048576) :
    Calls Try.prog 14 #[.string s] w fun e w' => ∃ v, e = .returned v ∧ w'.ownsRow w.heap.size 35 3 v (pieces s).length (pcs (pieces s)) ∧ Below w.heap.size w w' := by
  by_cases h : (units s).length = 0
  · exact pieces_e s w hs h
  · exact pieces_ne s w hs (by omega)
end Go.Proofs.Ytglfaibihckhnaa.PiecesR
