/- written: how many parts stand in a text of one. Condition: the text is no longer than any that comes in. -/
import Derived.Test.YtbmgkgoghgdbhaaKb
import Derived.WalkSmall
import Derived.Laws.OwnMore
import Derived.Lib.SmallJoins
namespace Go.Proofs.Ytbmgkgoghgdbhaa.Te
open Go.RowKit Go.Joins

theorem nb_drop {s : ByteArray} {i : Nat} (h : i < s.size) : (nb s).drop i = (s[i]'h).toNat :: (nb s).drop (i + 1) := by
  have hl : i < (nb s).length := by simp [nb]; exact h
  rw [List.drop_eq_getElem_cons hl]
  congr 1
  simp [nb]
  rfl
theorem nb_len (s : ByteArray) : (nb s).length = s.size := by simp [nb]
theorem info4 : (Try.prog.info? 4).map (fun i => (i.zero, i.size, i.bytes)) = some (some (.bool false), 1, 1) := by kernel_rfl
theorem own_addr {w : World} {base n cap : Nat} {e : TypeId} {a : Option Addr} {xs : List Value} (h : w.ownsRow base e 1 (.slice a (n + 1) cap) (n + 1) xs) : ∃ g, a = some ⟨g, 0, none⟩ ∧ base ≤ g ∧ g < w.heap.size := by
  obtain ⟨g, c, e⟩ := ownsRow_form h (by omega)
  simp only [Value.slice.injEq, true_and] at e
  obtain ⟨rfl, rfl⟩ := e
  exact ⟨g, rfl, h.lt g rfl⟩
/-- what written answers -/
def WrQ (ans : Option Nat) (e : Ending) : Prop := ∃ n : Int, ∃ b : Bool, e = .returned (.tuple #[.int .i64 n, .bool b]) ∧ (b = true → ∃ k : Nat, ans = some k ∧ n = k) ∧ (b = false → ans = none)
theorem wrq_no {ans : Option Nat} (n : Int) (h : none = ans) : WrQ ans (.returned (.tuple #[.int .i64 n, .bool false])) := ⟨n, false, rfl, fun h => (by cases h), fun _ => h.symm⟩
theorem wrq_yes {ans : Option Nat} {m : Nat} (h : some m = ans) : WrQ ans (.returned (.tuple #[.int .i64 (m : Int), .bool true])) := ⟨_, true, rfl, fun _ => ⟨m, h.symm, rfl⟩, fun h => (by cases h)⟩
set_option maxRecDepth 100000 in
set_option maxHeartbeats 4000000 in
theorem written_any (s : ByteArray) (w : World) (hs : s.size ≤ 140737488355328) : Calls Try.prog 40 #[.string s] w fun e w' => WrQ (mc (nb s) 0 [] false) e ∧ Below w.heap.size w w' := by
  obtain ⟨i0, hi0, hz0, hz1, hz2⟩ := info_parts info4
  obtain ⟨ans, hans⟩ : ∃ ans, mc (nb s) 0 [] false = ans := ⟨_, rfl⟩
  rw [hans]
  have HA : Hid (mc (nb s) 0 [] false = ans) := hans
  clear hans
  go_enter Try.func40, Try.ntmps40
  go_wp2
  go_loopw [4, 5, 6, 12] (fun v4 v5 v6 v12 wr => ∃ (i m cap : Nat) (o : List Bool) (e : Bool) (a5 : Option Addr), v5 = .slice a5 o.length cap ∧ v4 = .int .i64 (m : Int) ∧ v6 = .bool e ∧ v12 = .int .i64 (i : Int) ∧ i ≤ s.size ∧ m ≤ i ∧ o.length ≤ i ∧ wr.ownsRow w.heap.size 4 1 (.slice a5 o.length cap) o.length (o.reverse.map .bool) ∧ Below w.heap.size w wr ∧ mc ((nb s).drop i) m o e = ans) (fun _ _ _ iv _ => s.size - (intOf iv).toNat)
  case atStart => exact ⟨0, 0, 0, [], false, none, rfl, rfl, rfl, rfl, by omega, by omega, by simp, World.ownsRow_nil _ _ _ _, Below.refl _ _, HA.out⟩
  case round =>
    obtain ⟨i, m, cap, o, e, a5, rfl, rfl, rfl, rfl, hi, hm, ho, hown, hB, hmc⟩ := hrel
    have HO : Hid (wr.ownsRow w.heap.size 4 1 (.slice a5 o.length cap) o.length (o.reverse.map .bool)) := hown
    clear hown
    by_cases hil : i < s.size
    · have hil' : (i : Int) < (s.size : Int) := by omega
      rw [nb_drop hil] at hmc
      go_upto_region 10 with fail
      generalize s[i].toNat = c at *
      rw [mc] at hmc
      cases e with
      | false =>
        by_cases h40 : c = 40
        · have HM : Hid (mc ((nb s).drop (i + 1)) (m + 1) (false :: o) false = ans) := by rw [if_pos ⟨rfl, h40⟩] at hmc; exact hmc
          clear hmc
          subst h40
          have hbw : w.heap.size ≤ wr.heap.size := hB.size
          go_wp2_with (at_builtin; refine wpList_append_own _ rfl (.tmp 30) (.tmp 31) 86 rfl w.heap.size 4 i0 (.bool false) 1 1 Try.underlying86 hi0 hz0 hz1 hz2 rfl (by decide) _ _ _ rfl (HO.out.alloc _) ⟨wr.heap.size, 0, none⟩ 1 1 [.bool false] rfl rfl (fun j u hu => by (cases j with | zero => (simp at hu; subst hu; exact cell_of_row _ _ 0 _ _ _ (heap_alloc_new wr _)) | succ j => simp at hu)) (by intro u hu; simp at hu; subst hu; rfl) (by unfold maxLen; omega) (by omega) (by simp; omega) ?_; intro v' W2 hown3 hgrow3 _)
          obtain ⟨g', cap', hv'⟩ := ownsRow_form hown3 (by omega)
          subst hv'
          go_roundw
          case rel =>
            refine ⟨i + 1, m + 1, cap', false :: o, false, some ⟨g', 0, none⟩, rfl, by go_num, rfl, by go_num, by omega, by omega, by simp at ho ⊢; omega, ?_, ?_, HM.out⟩
            · rw [List.reverse_cons, List.map_append]
              exact hown3
            · exact (hB.alloc hbw _).grown hgrow3 (by simp; omega) (fun j hj => (HO.out.lt j hj).1)
          case measure => simp [intOf]; omega
        · by_cases h97 : 97 ≤ c ∧ c < 107
          · have HM : Hid (mc ((nb s).drop (i + 1)) (m + 1) o true = ans) := by rw [if_neg (fun h => h40 h.2), if_pos ⟨rfl, h97⟩] at hmc; exact hmc
            have hc1 : (97 : Int) ≤ (c : Int) := by omega
            have hc2 : (c : Int) < 107 := by omega
            have b40 : ((c : Int) == 40) = false := by simp; omega
            clear hmc h40 h97
            go_wp2_with fail
            go_roundw
            case rel =>
              refine ⟨i + 1, m + 1, cap, o, true, a5, rfl, by go_num, rfl, by go_num, by omega, by omega, by omega, HO.out, hB, HM.out⟩
            case measure => simp [intOf]; omega
          · have HM : Hid (none = ans) := by rw [if_neg (fun h => h40 h.2), if_neg (fun h => h97 h.2), if_neg (by simp), if_neg (by simp)] at hmc; exact hmc
            have b40 : ((c : Int) == 40) = false := by simp; omega
            have b47 : ((c : Int) == 47) = ((c : Int) == 47) := rfl
            clear hmc
            by_cases hc1 : (97 : Int) ≤ (c : Int)
            · have hc2 : ¬ (c : Int) < 107 := by omega
              clear h40 h97 b47
              go_wp2_with fail
              go_ret2
              exact ⟨wrq_no 0 HM.out, hB⟩
            · clear h40 h97 b47
              go_wp2_with fail
              go_ret2
              exact ⟨wrq_no 0 HM.out, hB⟩
      | true =>
        rw [if_neg (by simp), if_neg (by simp)] at hmc
        by_cases h47 : c = 47
        · subst h47
          cases o with
          | nil =>
            have HM : Hid (none = ans) := by rw [if_neg (by simp), if_neg (by simp)] at hmc; exact hmc
            clear hmc
            go_wp2_with fail
            go_ret2
            exact ⟨wrq_no 0 HM.out, hB⟩
          | cons b o =>
            rw [List.length_cons] at HO ho ⊢
            obtain ⟨g, rfl, hg1, hg2⟩ := own_addr HO.out
            have hcell := HO.out.cellAt o.length (by omega)
            rw [List.reverse_cons, List.map_append, List.getElem?_append_right (by simp)] at hcell
            simp only [List.length_map, List.length_reverse, Nat.sub_self, List.map_cons, List.map_nil, List.getElem?_cons_zero] at hcell
            cases b with
            | false =>
              have HM : Hid (mc ((nb s).drop (i + 1)) m (true :: o) false = ans) := by rw [if_pos ⟨rfl, by simp, rfl⟩] at hmc; exact hmc
              clear hmc
              have hfz := HO.out.frozenAt o.length
              have hst := HO.out.stored o.length (.bool true)
              go_wp2_with fail
              go_roundw
              case rel =>
                refine ⟨i + 1, m, cap, true :: o, false, some ⟨g, 0, none⟩, rfl, rfl, rfl, by go_num, by omega, by omega, by simp at ho ⊢; omega, ?_, ?_, HM.out⟩
                · rw [List.reverse_cons, List.map_append] at hst ⊢
                  have e1 : (List.map Value.bool o.reverse ++ List.map Value.bool [false]).set o.length (.bool true) = List.map Value.bool o.reverse ++ List.map Value.bool [true] := by
                    rw [List.set_append_right _ _ (by simp)]
                    simp
                  rw [e1] at hst
                  exact hst.1
                · exact hB.grown hst.2 hB.size (fun j hj => by simp only [Option.some.injEq] at hj; omega)
              case measure => simp [intOf]; omega
            | true =>
              have HM : Hid (none = ans) := by rw [if_neg (by simp), if_neg (by simp)] at hmc; exact hmc
              clear hmc
              go_wp2_with fail
              go_ret2
              exact ⟨wrq_no 0 HM.out, hB⟩
        · by_cases h92 : c = 92
          · subst h92
            clear h47
            cases o with
            | nil =>
              have HM : Hid (none = ans) := by rw [if_neg (by simp), if_neg (by simp)] at hmc; exact hmc
              clear hmc
              go_wp2_with fail
              go_ret2
              exact ⟨wrq_no 0 HM.out, hB⟩
            | cons b o =>
              rw [List.length_cons] at HO ho ⊢
              obtain ⟨g, rfl, hg1, hg2⟩ := own_addr HO.out
              have hcell := HO.out.cellAt o.length (by omega)
              rw [List.reverse_cons, List.map_append, List.getElem?_append_right (by simp)] at hcell
              simp only [List.length_map, List.length_reverse, Nat.sub_self, List.map_cons, List.map_nil, List.getElem?_cons_zero] at hcell
              cases b with
              | false =>
                have HM : Hid (mc ((nb s).drop (i + 1)) m (true :: o) false = ans) := by rw [if_pos ⟨rfl, by simp, rfl⟩] at hmc; exact hmc
                clear hmc
                have hfz := HO.out.frozenAt o.length
                have hst := HO.out.stored o.length (.bool true)
                go_wp2_with fail
                go_roundw
                case rel =>
                  refine ⟨i + 1, m, cap, true :: o, false, some ⟨g, 0, none⟩, rfl, rfl, rfl, by go_num, by omega, by omega, by simp at ho ⊢; omega, ?_, ?_, HM.out⟩
                  · rw [List.reverse_cons, List.map_append] at hst ⊢
                    have e1 : (List.map Value.bool o.reverse ++ List.map Value.bool [false]).set o.length (.bool true) = List.map Value.bool o.reverse ++ List.map Value.bool [true] := by
                      rw [List.set_append_right _ _ (by simp)]
                      simp
                    rw [e1] at hst
                    exact hst.1
                  · exact hB.grown hst.2 hB.size (fun j hj => by simp only [Option.some.injEq] at hj; omega)
                case measure => simp [intOf]; omega
              | true =>
                have HM : Hid (none = ans) := by rw [if_neg (by simp), if_neg (by simp)] at hmc; exact hmc
                clear hmc
                go_wp2_with fail
                go_ret2
                exact ⟨wrq_no 0 HM.out, hB⟩
          · by_cases h41 : c = 41
            · subst h41
              clear h47 h92
              cases o with
              | nil =>
                have HM : Hid (none = ans) := by rw [if_neg (by simp), if_neg (by simp)] at hmc; exact hmc
                clear hmc
                go_wp2_with fail
                go_ret2
                exact ⟨wrq_no 0 HM.out, hB⟩
              | cons b o =>
                rw [List.length_cons] at HO ho ⊢
                obtain ⟨g, rfl, hg1, hg2⟩ := own_addr HO.out
                have hcell := HO.out.cellAt o.length (by omega)
                rw [List.reverse_cons, List.map_append, List.getElem?_append_right (by simp)] at hcell
                simp only [List.length_map, List.length_reverse, Nat.sub_self, List.map_cons, List.map_nil, List.getElem?_cons_zero] at hcell
                cases b with
                | true =>
                  have HM : Hid (mc ((nb s).drop (i + 1)) m o true = ans) := by rw [if_neg (by simp), if_pos ⟨rfl, rfl, rfl⟩] at hmc; exact hmc
                  clear hmc
                  have hcl : o.length + 1 ≤ cap := by
                    rcases HO.out.2 with ⟨h1, _⟩ | ⟨g1, c1, _, h1, _, _, h2, _⟩
                    · cases h1
                    · simp only [Value.slice.injEq, true_and] at h1
                      obtain ⟨_, rfl⟩ := h1
                      exact h2
                  go_wp2_with fail
                  go_roundw
                  case rel =>
                    refine ⟨i + 1, m, cap, o, true, some ⟨g, 0, none⟩, rfl, rfl, rfl, by go_num, by omega, by omega, by omega, ?_, hB, HM.out⟩
                    have := HO.out
                    rw [List.reverse_cons, List.map_append] at this
                    exact ownsRow_pop (by simp) this
                  case measure => simp [intOf]; omega
                | false =>
                  have HM : Hid (none = ans) := by rw [if_neg (by simp), if_neg (by simp)] at hmc; exact hmc
                  clear hmc
                  go_wp2_with fail
                  go_ret2
                  exact ⟨wrq_no 0 HM.out, hB⟩
            · have HM : Hid (none = ans) := by rw [if_neg (fun h => by have := h.2.1; omega), if_neg (fun h => h41 h.2.1)] at hmc; exact hmc
              have b47 : ((c : Int) == 47) = false := by simp; omega
              have b92 : ((c : Int) == 92) = false := by simp; omega
              have b41 : ((c : Int) == 41) = false := by simp; omega
              clear h47 h92 h41
              clear hmc
              go_wp2_with fail
              go_ret2
              exact ⟨wrq_no 0 HM.out, hB⟩
    · have hil' : ¬ (i : Int) < (s.size : Int) := by omega
      have hd : (nb s).drop i = [] := List.drop_eq_nil_of_le (by rw [nb_len]; omega)
      rw [hd, mc] at hmc
      cases e with
      | false =>
        have HM : Hid (none = ans) := by (show none = ans); simpa using hmc
        clear hmc
        go_wp2_with fail
        go_ret2
        exact ⟨wrq_no _ HM.out, hB⟩
      | true =>
        cases o with
        | nil =>
          have HM : Hid (some m = ans) := by (show some m = ans); simpa using hmc
          clear hmc
          go_wp2_with fail
          go_ret2
          exact ⟨wrq_yes HM.out, hB⟩
        | cons b o =>
          have HM : Hid (none = ans) := by (show none = ans); simpa using hmc
          have hne : ((((b :: o).length : Nat) : Int) == 0) = false := by simp; omega
          clear hmc
          go_wp2_with fail
          go_ret2
          exact ⟨wrq_no _ HM.out, hB⟩
end Go.Proofs.Ytbmgkgoghgdbhaa.Te
