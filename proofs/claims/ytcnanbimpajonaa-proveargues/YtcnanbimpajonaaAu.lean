/- checkEach, checkAll, Argue. Conditions: what holds of the lines, step by step, bounds them. -/
import Derived.Test.YtcnanbimpajonaaNd
import Derived.Test.YtcnanbimpajonaaFd
import Derived.Test.YtcnanbimpajonaaBg
namespace Go.Proofs.Ytcnanbimpajonaa.Au
open Go.RowKit Cl Co Cp Mq Nu Ag Cs Ce Ua Us Bg Bw Kp Nd

/-- what Check says of claims, in order -/
def ckAll (ps : List C) : Int := if ps.all okC then 0 else 3
theorem ck_two (c : C) : ckC c = 0 ∨ ckC c = 3 := by unfold ckC; split <;> simp

set_option maxHeartbeats 2000000 in
set_option maxRecDepth 100000 in
theorem each_any (v : Value) (ps : List C) (w : World) (hp : IsC w v ps) : Calls Try.prog 22 #[v] w fun e w' => e = .returned (.int .i64 (ckAll ps)) ∧ Below w.heap.size w w' := by
  obtain ⟨hxl, ap, cp, rfl, hnp, hC⟩ := hp
  have HC : Hid (ps.length = 0 ∨ ∃ b off, ap = some ⟨b, off, none⟩ ∧ b < w.heap.size ∧ ∀ j u, (ccs ps)[j]? = some u → w.cell? ⟨b, off + j, none⟩ = some u) := hC
  clear hC hxl
  go_enter Try.func22, Try.ntmps22
  go_wp2
  go_loopw [8] (fun iv wr => ∃ (k : Nat), iv = .int .i64 (k : Int) ∧ k ≤ ps.length ∧ (∀ c ∈ ps.take k, okC c = true) ∧ Below w.heap.size w wr) (fun iv _ => ps.length - (intOf iv).toNat)
  case atStart => exact ⟨0, rfl, Nat.zero_le _, fun c hc => by simp at hc, Below.refl _ _⟩
  case round =>
    obtain ⟨k, rfl, hk, hall, hb⟩ := hrel
    by_cases hlt : k < ps.length
    · obtain ⟨b, off, rfl, hbl, hcs⟩ := HC.out.resolve_left (by omega)
      obtain ⟨⟨p0, p1, p2⟩, hp⟩ : ∃ p, ps[k] = p := ⟨_, rfl⟩
      have hat := ccs_at ps k hlt
      rw [hp] at hat
      have d0 : wr.cell? ⟨b, off + k * 3, none⟩ = some (.bool p0) := (hb.cell hbl).trans (hcs _ _ hat.1)
      have d1 : wr.cell? ⟨b, off + k * 3 + 1, none⟩ = some (.int .i64 p1) := (hb.cell hbl).trans (hcs _ _ hat.2.1)
      have d2 : wr.cell? ⟨b, off + k * 3 + 2, none⟩ = some (.int .i64 p2) := (hb.cell hbl).trans (hcs _ _ hat.2.2)
      have HP : Hid (ps[k] = (p0, p1, p2)) := hp
      have HALL : Hid _ := hall
      have HB : Hid _ := hb
      have con := fun W => check_any (p0, p1, p2) W
      unfold vc at con
      dsimp only at con
      clear hat hp hall hb hcs
      cases hok : okC (p0, p1, p2) with
      | true =>
        have e0 : ckC (p0, p1, p2) = 0 := by unfold ckC; rw [hok]; rfl
        rw [e0] at con
        have HOK : Hid _ := hok
        clear hok e0
        go_wp2_with (go_at_call 23; refine (con _).mono ?_; rintro e w2 ⟨rfl, hb2⟩; have HB2 : Hid (Below w.heap.size w w2) := HB.out.trans ((((Below.refl _ wr).alloc (Nat.le_refl _) _).trans (hb2.mono (by simp))).mono HB.out.size); clear hb2)
        go_roundw
        case rel =>
          refine ⟨k + 1, by go_num, hlt, fun c hc => ?_, HB2.out⟩
          rw [List.take_succ_eq_append_getElem hlt, List.mem_append, List.mem_singleton, HP.out] at hc
          rcases hc with hc | hc
          · exact HALL.out c hc
          · rw [hc]; exact HOK.out
        case measure => simp [intOf]; omega
      | false =>
        have e0 : ckC (p0, p1, p2) = 3 := by unfold ckC; rw [hok]; rfl
        have e1 : ckAll ps = 3 := by
          unfold ckAll
          rw [if_neg]
          intro h
          have := List.all_eq_true.1 h _ (List.getElem_mem hlt)
          rw [HP.out, hok] at this
          cases this
        rw [e0] at con
        have HE : Hid _ := e1
        clear hok e0 e1
        go_wp2_with (go_at_call 23; refine (con _).mono ?_; rintro e w2 ⟨rfl, hb2⟩; have HB2 : Hid (Below w.heap.size w w2) := HB.out.trans ((((Below.refl _ wr).alloc (Nat.le_refl _) _).trans (hb2.mono (by simp))).mono HB.out.size); clear hb2)
        go_ret
        rw [HE.out]
        exact ⟨rfl, HB2.out⟩
    · have ek : k = ps.length := by omega
      subst ek
      rw [List.take_length] at hall
      have e1 : ckAll ps = 0 := by unfold ckAll; rw [if_pos (List.all_eq_true.2 hall)]
      have HE : Hid _ := e1
      clear hall e1
      go_wp2
      go_ret
      rw [HE.out]
      exact ⟨rfl, hb⟩

def checkAllP (ps : List C) (c : C) : Int := if 20 < ps.length then 7 else if ckAll ps = 0 then ckC c else ckAll ps
theorem ckAll_two (ps : List C) : ckAll ps = 0 ∨ ckAll ps = 3 := by unfold ckAll; split <;> simp
set_option maxHeartbeats 2000000 in
set_option maxRecDepth 100000 in
theorem checkAll_any (v : Value) (ps : List C) (c : C) (w : World) (hp : IsC w v ps) : Calls Try.prog 16 #[v, vc c] w fun e w' => e = .returned (.int .i64 (checkAllP ps c)) ∧ Below w.heap.size w w' := by
  have hb0 : ∀ o, Below w.heap.size w (w.alloc o) := fun o => (Below.refl _ w).alloc (Nat.le_refl _) o
  have c20 := fun o => each_any v ps (w.alloc o) (IsC.below hp (hb0 o))
  obtain ⟨hxl, ap, cp, rfl, hnp, hC⟩ := hp
  clear hC hxl
  obtain ⟨c0, c1, c2⟩ := c
  have c9 := fun W => check_any (c0, c1, c2) W
  unfold checkAllP
  by_cases h : 20 < ps.length
  · rw [if_pos h]
    have h' : (20 : Int) < (ps.length : Int) := by omega
    unfold vc
    go_enter Try.func16, Try.ntmps16
    go_wp2
    go_ret
    exact ⟨rfl, hb0 _⟩
  · rw [if_neg h]
    have h' : ¬ (20 : Int) < (ps.length : Int) := by omega
    rcases ckAll_two ps with e | e
    · rw [e] at c20
      rw [e, if_pos rfl]
      unfold vc at c9 ⊢
      dsimp only at c9 ⊢
      clear e
      go_enter Try.func16, Try.ntmps16
      go_wp2_with (first | (go_at_call 22; refine (c20 _).mono ?_; rintro e w2 ⟨rfl, hb2⟩; have hw2 : Below w.heap.size w w2 := (hb0 _).trans (hb2.mono (hb0 _).size); have g : w2.heap[w.heap.size]? = some (.cells #[.bool c0, .int .i64 c1, .int .i64 c2] 24 (0, 0)) := (hb2.block _ (by simp)).trans (heap_alloc_new w _); have g0 := cell_of_row _ _ 0 _ 24 (0, 0) g; have g1 := cell_of_row _ _ 1 _ 24 (0, 0) g; have g2 := cell_of_row _ _ 2 _ 24 (0, 0) g; dsimp at g0 g1 g2; clear g hb2) | (go_at_call 23; refine (c9 _).mono ?_; rintro e w3 ⟨rfl, hb3⟩; have hw3 : Below w.heap.size w w3 := hw2.trans (hb3.mono hw2.size); clear hb3))
      go_ret
      exact ⟨rfl, hw3⟩
    · rw [e] at c20
      rw [e, if_neg (by decide)]
      unfold vc
      dsimp only
      clear e
      go_enter Try.func16, Try.ntmps16
      go_wp2_with (go_at_call 22; refine (c20 _).mono ?_; rintro e w2 ⟨rfl, hb2⟩; have hw2 : Below w.heap.size w w2 := (hb0 _).trans (hb2.mono (hb0 _).size); clear hb2)
      go_ret
      exact ⟨rfl, hw2⟩

/-- what is asked of the lines, step by step -/
structure Steps (g : C) (I : Nat → List Ln → Prop) (N : Nat) : Prop where
  bound : ∀ i L, I i L → L.length ≤ N ∧ L.length < 80000 ∧ (∀ l ∈ L, Sm l.2.1) ∧ Ahead L ∧ ∀ l ∈ L, l.2.2.length ≤ 1000
  next : ∀ i L (h : i < L.length), I i L → idx L g = none → I (i + 1) (Ytcnanbimpajonaa.Fd.useL g L (L[i]).2.1)
/-- what Argue tells -/
def Argued (base : Nat) (g : C) (I : Nat → List Ln → Prop) (e : Ending) (w' : World) : Prop :=
  ∃ i L, I i L ∧ ((L.length ≤ i ∧ e = .returned (.tuple #[.slice none 0 0, .bool false, .int .i64 0])) ∨
    ∃ (n : Nat) (bs : List Bool) (v' : Value), idx L g = some n ∧ e = .returned (.tuple #[v', .bool true, .int .i64 0]) ∧ bs.length = n + 1 ∧ bs[n]? = some true ∧ Closed bs (L.take (n + 1)) 0 ∧ LinesAt base w' v' (keptL bs (L.take (n + 1)) (n + 1)))
theorem idx_lt {L : List Ln} {g : C} {n : Nat} (h : idx L g = some n) : n < L.length := by
  unfold idx at h
  exact (List.findIdx?_eq_some_iff_getElem.1 h).1
theorem ahead_take {L : List Ln} (h : Ahead L) (n : Nat) : Ahead (L.take n) := by
  intro i l hl
  rw [List.getElem?_take] at hl
  split at hl
  · exact h i l hl
  · cases hl
theorem zcs_take (Z : List (Ln × Value)) (m : Nat) : zcs (Z.take m) = (zcs Z).take (m * 5) := by
  induction Z generalizing m with
  | nil => simp [zcs]
  | cons z Z ih =>
    cases m with
    | zero => simp [zcs]
    | succ m =>
      have e : (m + 1) * 5 = m * 5 + 5 := by omega
      have ih' := ih m
      unfold zcs at ih' ⊢
      rw [List.take_succ_cons, List.flatMap_cons, List.flatMap_cons, ih', e]
      have hl : (zc z).length = 5 := rfl
      rw [List.take_append, hl]
      simp
      exact (List.take_of_length_le (by rw [hl]; omega)).symm

theorem cut_lines {base : Nat} {w : World} {A mb : Nat} {g : C} {L : List Ln} {N n : Nat} (h : Arg base w A mb g L) (hn : idx L g = some n) (hb : L.length ≤ N ∧ L.length < 80000 ∧ (∀ l ∈ L, Sm l.2.1) ∧ Ahead L ∧ ∀ l ∈ L, l.2.2.length ≤ 1000) :
    ∃ gb cap, w.cell? ⟨A, 3, none⟩ = some (.slice (some ⟨gb, 0, none⟩) L.length cap) ∧ L.length ≤ cap ∧ n < L.length ∧ Calls Try.prog 19 #[.slice (some ⟨gb, 0, none⟩) (n + 1) cap] w fun e w' => ∃ v' bs, e = .returned v' ∧ bs.length = n + 1 ∧ bs[n]? = some true ∧ Closed bs (L.take (n + 1)) 0 ∧ LinesAt w.heap.size w' v' (keptL bs (L.take (n + 1)) (n + 1)) ∧ Below w.heap.size w w' := by
  obtain ⟨v, m, Z, h⟩ := h
  have hnl := idx_lt hn
  have hZl := h.len
  rcases h.row.2 with ⟨_, h0⟩ | ⟨gb, cap, cur, hv, _, hg, hcap, _, _, ht⟩
  · omega
  · refine ⟨gb, cap, by rw [← hv]; exact h.cell.2.2.2.1, hcap, hnl, ?_⟩
    have e1 : (Z.take (n + 1)).map Prod.fst = L.take (n + 1) := by rw [← h.fst, List.map_take]
    have con := needed_any (Z.take (n + 1)) n gb cap w (by rw [List.length_take]; omega) (by omega) ⟨cur, hg, fun j u hu => ?_⟩ (fun z hz => h.frm z (List.mem_of_mem_take hz)) (by rw [e1]; exact ahead_take hb.2.2.2.1 _) (fun z hz => ?_)
    · rw [e1] at con
      exact con
    · rw [zcs_take] at hu
      have hj : j < (n + 1) * 5 := by
        have := (List.getElem?_eq_some_iff.1 hu).1
        rw [List.length_take] at this
        omega
      rw [List.getElem?_take_of_lt hj, ← ht, List.getElem?_take_of_lt (by omega), Array.getElem?_toList] at hu
      exact hu
    · refine hb.2.2.2.2 z.1 ?_
      rw [← h.fst]
      exact List.mem_map.2 ⟨z, List.mem_of_mem_take hz, rfl⟩

set_option maxHeartbeats 4000000 in
set_option maxRecDepth 100000 in
theorem argue_any (ps : List C) (g : C) (I : Nat → List Ln → Prop) (N : Nat) (hI : Steps g I N) (h0 : I 0 (begunL ps)) (v : Value) (w : World) (hp : IsC w v ps) (hc : checkAllP ps g = 0) (hps : ∀ p ∈ ps, Sm p) (hg : Sm g) (hl : ps.length ≤ 20) :
    Calls Try.prog 5 #[v, vc g] w fun e w' => Argued w.heap.size g I e w' ∧ Below w.heap.size w w' := by
  have hb0 : ∀ o, Below w.heap.size w (w.alloc o) := fun o => (Below.refl _ w).alloc (Nat.le_refl _) o
  have c26 := fun W (hW : Below w.heap.size w W) => checkAll_any v ps g W (IsC.below hp hW)
  have c27 := fun W (hW : Below w.heap.size w W) => begun_any ps g v W (IsC.below hp hW) hps (by omega)
  rw [hc] at c26
  obtain ⟨hxl, ap, cp, rfl, hnp, hC⟩ := hp
  clear hC hxl hnp hc hps
  obtain ⟨g0, g1, g2⟩ := g
  have HI : Hid _ := hI
  have H0 : Hid _ := h0
  unfold vc at c26 c27 ⊢
  dsimp only at c26 c27 ⊢
  clear hI h0
  go_enter Try.func5, Try.ntmps5
  go_wp2_with (first | (go_at_call 16; refine (c26 _ (hb0 _)).mono ?_; rintro e w2 ⟨rfl, hb2⟩; have hw2 : Below w.heap.size w w2 := (hb0 _).trans (hb2.mono (hb0 _).size); have gb : w2.heap[w.heap.size]? = some (.cells #[.bool g0, .int .i64 g1, .int .i64 g2] 24 (0, 0)) := (hb2.block _ (by simp)).trans (heap_alloc_new w _); have e0 := cell_of_row _ _ 0 _ 24 (0, 0) gb; have e1 := cell_of_row _ _ 1 _ 24 (0, 0) gb; have e2 := cell_of_row _ _ 2 _ 24 (0, 0) gb; dsimp at e0 e1 e2; clear gb hb2 c26) | (go_at_call 17; refine (c27 _ hw2).mono ?_; rintro e w3 ⟨A, mb, rfl, hA3, hb3⟩; have HA3 : Hid (Arg w2.heap.size w3 A mb (g0, g1, g2) (begunL ps)) := hA3; have HB3 : Hid (Below w2.heap.size w2 w3) := hb3; clear hA3 hb3 c27) | (go_at_call 18; refine (Ytcnanbimpajonaa.Fd.find_any w2.heap.size A mb (g0, g1, g2) I N (begunL ps) w3 HA3.out H0.out hg (fun i L h => ⟨(HI.out.bound i L h).1, (HI.out.bound i L h).2.1, (HI.out.bound i L h).2.2.1⟩) HI.out.next).mono ?_; rintro e w4 ⟨i, L, hIL, hA4, hK4, hres⟩; have HIL : Hid (I i L) := hIL; have HA4 : Hid (Arg w2.heap.size w4 A mb (g0, g1, g2) L) := hA4; have HW4 : Hid (Below w2.heap.size w2 w4) := HB3.out.trans hK4.below; clear hA4 hK4 hIL; rcases hres with ⟨hLi, rfl⟩ | ⟨n, hn, rfl⟩; all_goals (try (obtain ⟨gb, cap, q3, hcap, hnl, con⟩ := cut_lines HA4.out hn (HI.out.bound i L HIL.out); have hn7 : n < 80000 := (by have := (HI.out.bound i L HIL.out).2.1; omega)))) | (go_at_call 19; refine con.mono ?_; rintro e w5 ⟨v5, bs, rfl, h51, h52, h53, h54, hb5⟩))
  · go_ret3
    exact ⟨⟨i, L, HIL.out, .inl ⟨hLi, rfl⟩⟩, hw2.trans (HW4.out.mono hw2.size)⟩
  · go_ret3
    have hs4 : w.heap.size ≤ w4.heap.size := Nat.le_trans hw2.size HW4.out.size
    refine ⟨⟨i, L, HIL.out, .inr ⟨n, bs, v5, hn, rfl, h51, h52, h53, ?_⟩⟩, (hw2.trans (HW4.out.mono hw2.size)).trans (hb5.mono hs4)⟩
    obtain ⟨Z, h1, h2, h3⟩ := h54
    exact ⟨Z, h1, ⟨h2.1, h2.2.imp id (fun ⟨gg, c, cur, a1, a2, a3⟩ => ⟨gg, c, cur, a1, by omega, a3⟩)⟩, h3⟩
end Go.Proofs.Ytcnanbimpajonaa.Au
