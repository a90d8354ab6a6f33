/- The document's Follows, walked. Conditions: the claims are of literals; at most 20 premises. -/
import Derived.Test.YtcnanbimpajonaaFl
import Derived.Test.YtcnanbimpajonaaAx
import Derived.Deep.RegionHeld3
import Derived.Deep.RegionHeldLaw
namespace Go.Proofs.Ytcnanbimpajonaa.Fw
open Go.RowKit Cl Cf Cs Ce Hd He Pq Ax Fl

def mup (ps : List C) (k : Nat) : List Int := (people.take k).filter (okM ps)
theorem mup_next (ps : List C) (k : Nat) (h : k < 64) : mup ps (k + 1) = mup ps k ++ (if okM ps (k : Int) then [(k : Int)] else []) := by
  unfold mup
  have hl : k < people.length := by rw [people_len]; exact h
  have e : people[k] = (k : Int) := by
    have := people_at k h
    rw [List.getElem?_eq_getElem hl] at this
    exact Option.some.inj this
  rw [List.take_succ_eq_append_getElem hl, List.filter_append, e]
  cases hm : okM ps (k : Int) <;> simp [hm]
theorem mup_end (ps : List C) : mup ps 64 = mayL ps := by
  unfold mup mayL
  rw [List.take_of_length_le (by rw [people_len]; exact Nat.le_refl _)]
theorem mup_le (ps : List C) (k : Nat) : (mup ps k).length ≤ 64 := by
  unfold mup
  refine Nat.le_trans (List.length_filter_le _ _) ?_
  rw [List.length_take, people_len]
  omega
theorem may_le (ps : List C) : (mayL ps).length ≤ 64 := by rw [← mup_end]; exact mup_le _ _
theorem may_low {ps : List C} {x : Int} (h : x ∈ mayL ps) : Low [x] := fun y hy => by rw [List.mem_singleton.1 hy]; exact (mem_may.1 h).1
theorem low_one {k : Nat} (h : k < 64) : Low [(k : Int)] := fun y hy => by rw [List.mem_singleton.1 hy]; omega
theorem isI_at {W : World} {g o cap : Nat} {y : Int} (h : W.cell? ⟨g, o, none⟩ = some (.int .i64 y)) : IsI W (.slice (some ⟨g, o, none⟩) 1 cap) [y] := by
  refine ⟨rfl, _, cap, rfl, by simp, .inr ⟨g, o, rfl, World.block_lt_of_cell? W _ h, fun j u hu => ?_⟩⟩
  match j, hu with
  | 0, hu => simp [nv] at hu; rw [← hu]; exact h
theorem isI_one (W : World) (x : Int) : IsI (W.alloc (.cells #[.int .i64 x] 3)) (.slice (some ⟨W.heap.size, 0, none⟩) 1 1) [x] :=
  isI_at (cell_of_row _ _ 0 _ 3 (0, 0) (heap_alloc_new W (.cells #[.int .i64 x] 3)))

/-- what the loops keep -/
structure Kf (w : World) (c : C) (xs : List Int) (v : Value) (wr : World) : Prop where
  cbox : wr.heap[w.heap.size]? = some (.cells #[.bool c.1, .int .i64 c.2.1, .int .i64 c.2.2] 24 (0, 0))
  row : wr.ownsRow (w.heap.size + 1) 3 1 v xs.length (nv xs)
  bel : Below w.heap.size w wr
theorem Kf.below {w : World} {c : C} {xs : List Int} {v : Value} {wr w' : World} (h : Kf w c xs v wr) (hb : Below wr.heap.size wr w') : Kf w c xs v w' :=
  ⟨(hb.block _ (Array.getElem?_eq_some_iff.1 h.cbox).1).trans h.cbox, Ag.own_below h.row hb, h.bel.trans (hb.mono h.bel.size)⟩
theorem Kf.big {w : World} {c : C} {xs : List Int} {v : Value} {wr : World} (h : Kf w c xs v wr) : w.heap.size + 1 ≤ wr.heap.size := (Array.getElem?_eq_some_iff.1 h.cbox).1
theorem Kf.a {w : World} {c : C} {xs : List Int} {v : Value} {wr : World} (h : Kf w c xs v wr) : wr.cell? ⟨w.heap.size, 0, none⟩ = some (.bool c.1) := cell_of_row _ _ 0 _ 24 (0, 0) h.cbox
theorem Kf.b {w : World} {c : C} {xs : List Int} {v : Value} {wr : World} (h : Kf w c xs v wr) : wr.cell? ⟨w.heap.size, 1, none⟩ = some (.int .i64 c.2.1) := cell_of_row _ _ 1 _ 24 (0, 0) h.cbox
theorem Kf.c {w : World} {c : C} {xs : List Int} {v : Value} {wr : World} (h : Kf w c xs v wr) : wr.cell? ⟨w.heap.size, 2, none⟩ = some (.int .i64 c.2.2) := cell_of_row _ _ 2 _ 24 (0, 0) h.cbox
theorem Kf.app {w : World} {c : C} {xs : List Int} {v : Value} {wr w1 : World} (h : Kf w c xs v wr) {x : Int} {v1 : Value} (ho : w1.ownsRow (w.heap.size + 1) 3 1 v1 (xs.length + 1) (nv xs ++ nv [x])) (hg : (wr.alloc (.cells #[.int .i64 x] 3)).grownBy w1 v.ownBlock) : Kf w c (xs ++ [x]) v1 w1 := by
  have hr := h.row.alloc (.cells #[.int .i64 x] 3)
  have hz := h.big
  have hB : Below (w.heap.size + 1) (wr.alloc (.cells #[.int .i64 x] 3)) w1 := Rj.below_of_grown hg hr (by simp; omega)
  have hB' : Below (w.heap.size + 1) wr w1 := ((Below.refl _ wr).alloc (by omega) _).trans hB
  refine ⟨(hB'.block _ (by omega)).trans h.cbox, ?_, h.bel.trans (hB'.mono (by omega))⟩
  have e : nv (xs ++ [x]) = nv xs ++ nv [x] := by simp [nv]
  rw [e, List.length_append, List.length_singleton]
  exact ho
/-- one of those who may be there, as a list of one -/
theorem Kf.at {w : World} {c : C} {xs : List Int} {v : Value} {wr : World} (h : Kf w c xs v wr) (k : Nat) (hk : k < xs.length) : ∃ g cap, v = .slice (some ⟨g, 0, none⟩) xs.length cap ∧ xs.length ≤ cap ∧ g < wr.heap.size ∧ wr.cell? ⟨g, k, none⟩ = some (.int .i64 xs[k]) := by
  obtain ⟨hl, hr⟩ := h.row
  rcases hr with ⟨_, h0⟩ | ⟨g, cap, cur, hv, _, hg, hcap, _, _, ht⟩
  · omega
  · refine ⟨g, cap, hv, hcap, (Array.getElem?_eq_some_iff.1 hg).1, ?_⟩
    rw [cell_of_row _ _ k _ 3 (0, 0) hg]
    have hu : (nv xs)[k]? = some (.int .i64 xs[k]) := by simp [nv, hk]
    rw [← ht, List.getElem?_take_of_lt (by omega), Array.getElem?_toList] at hu
    exact hu
theorem cell_drew {W : World} {a : Addr} {u : Value} (h : W.cell? a = some u) : W.drew.cell? a = some u := h
def pm (x : Int) (p : C) : Bool := p.1 || holdsP [x] p
theorem okM_eq (ps : List C) (x : Int) : okM ps x = ps.all (pm x) := rfl
theorem all_next {α : Type} (f : α → Bool) (l : List α) (k : Nat) (h : k < l.length) : (l.take (k + 1)).all f = ((l.take k).all f && f l[k]) := by
  rw [List.take_succ_eq_append_getElem h, List.all_append]; simp
theorem any_next {α : Type} (f : α → Bool) (l : List α) (k : Nat) (h : k < l.length) : (l.take (k + 1)).any f = ((l.take k).any f || f l[k]) := by
  rw [List.take_succ_eq_append_getElem h, List.any_append]; simp

set_option maxHeartbeats 16000000 in
set_option maxRecDepth 100000 in
theorem follows_any (ps : List C) (c : C) (vp : Value) (w : World) (hp : IsC w vp ps) (hps : ∀ p ∈ ps, okC p = true) (hc : okC c = true) (hl : ps.length ≤ 20) :
    Calls Try.prog 9 #[vp, vc c] w fun e w' => e = .returned (.bool (followsP ps c)) ∧ Below w.heap.size w w' := by
  have HPS : Hid (∀ p ∈ ps, okC p = true) := hps
  have HCO : Hid (okC c = true) := hc
  obtain ⟨_, ap, kp, hv, hnp, hpc⟩ := hp
  subst hv
  have HPC : Hid (ps.length = 0 ∨ ∃ b off, ap = some ⟨b, off, none⟩ ∧ b < w.heap.size ∧ ∀ j u, (ccs ps)[j]? = some u → w.cell? ⟨b, off + j, none⟩ = some u) := hpc
  obtain ⟨i0, hi, hz0, hz1, hz2⟩ := info_parts Nu.info3
  obtain ⟨c0, c1, c2⟩ := c
  have HK0 : Hid (Kf w (c0, c1, c2) (mup ps 0) (.slice none 0 0) (w.alloc (.cells #[.bool c0, .int .i64 c1, .int .i64 c2] 24))) := ⟨heap_alloc_new _ _, World.ownsRow_nil _ _ _ _, (Below.refl _ w).alloc (Nat.le_refl _) _⟩
  clear hpc hps hc
  unfold vc
  dsimp only
  go_enter Try.func9, Try.ntmps9
  go_wp2
  go_loopw [5, 6] (fun v iv wr => ∃ (k : Nat) (a : Option Addr) (n m : Nat), v = .slice a n m ∧ iv = .int .i64 (k : Int) ∧ k ≤ 64 ∧ Kf w (c0, c1, c2) (mup ps k) v wr) (fun _ iv _ => 64 - (intOf iv).toNat)
  case atStart => exact ⟨0, none, 0, 0, rfl, rfl, by omega, HK0.out⟩
  case round =>
    obtain ⟨k, a, n, m, rfl, rfl, hk, hK⟩ := hrel
    have HK : Hid (Kf w (c0, c1, c2) (mup ps k) (.slice a n m) wr) := hK
    clear hK HK0
    by_cases hlt : k < 64
    · have hlt1 : (k : Int) < 64 := by omega
      have hlt2 : decide ((k : Int) < 64) = true := by simpa using hlt1
      go_wp2
      go_loopw [7, 8] (fun bv iv wr => ∃ (j : Nat) (b' : Bool), bv = .bool b' ∧ iv = .int .i64 (j : Int) ∧ j ≤ ps.length ∧ b' = (ps.take j).all (pm (k : Int)) ∧ Kf w (c0, c1, c2) (mup ps k) (.slice a n m) wr) (fun _ iv _ => ps.length - (intOf iv).toNat)
      case atStart => exact ⟨0, true, rfl, rfl, Nat.zero_le _, by simp, HK.out⟩
      case round =>
        rename_i wr1
        obtain ⟨j, b', rfl, rfl, hj, hb', hK⟩ := hrel
        have HK1 : Hid (Kf w (c0, c1, c2) (mup ps k) (.slice a n m) wr) := hK
        have HB1 : Hid (b' = (ps.take j).all (pm (k : Int))) := hb'
        clear hK hb'
        by_cases hjl : j < ps.length
        · obtain ⟨pb, po, rfl, hpb, hpcs⟩ := HPC.out.resolve_left (by omega)
          have hat := ccs_at ps j hjl
          have hnx := all_next (pm (k : Int)) ps j hjl
          have hok := HPS.out ps[j] (List.getElem_mem hjl)
          have con := fun (W : World) hI => ref_holds [(k : Int)] ps[j] (.slice (some ⟨W.heap.size, 0, none⟩) 1 1) (W.alloc (.cells #[.int .i64 (k : Int)] 3)) hI (by simp) (low_one hlt) hok
          obtain ⟨⟨p0, p1, p2⟩, hpk⟩ : ∃ p, ps[j] = p := ⟨_, rfl⟩
          rw [hpk] at hat con hnx
          have d0 : wr.cell? ⟨pb, po + j * 3, none⟩ = some (.bool p0) := (HK1.out.bel.cell hpb).trans (hpcs _ _ hat.1)
          have d1 : wr.cell? ⟨pb, po + j * 3 + 1, none⟩ = some (.int .i64 p1) := (HK1.out.bel.cell hpb).trans (hpcs _ _ hat.2.1)
          have d2 : wr.cell? ⟨pb, po + j * 3 + 2, none⟩ = some (.int .i64 p2) := (HK1.out.bel.cell hpb).trans (hpcs _ _ hat.2.2)
          have hpw : pb < wr.heap.size := Nat.lt_of_lt_of_le hpb HK1.out.bel.size
          have HNX : Hid _ := hnx
          unfold vc at con
          dsimp only at con
          clear hat hpk hpcs hnx hok
          cases b' with
          | false =>
            clear con
            go_wp2
            go_roundw
            case rel => exact ⟨j + 1, false, rfl, by go_num, hjl, by rw [HNX.out, ← HB1.out]; rfl, HK1.out⟩
            case measure => simp [intOf]; omega
          | true =>
            cases p0 with
            | true =>
              clear con
              go_wp2
              go_roundw
              case rel => exact ⟨j + 1, true, rfl, by go_num, hjl, by rw [HNX.out, ← HB1.out]; rfl, HK1.out⟩
              case measure => simp [intOf]; omega
            | false =>
              cases hh : holdsP [(k : Int)] (false, p1, p2) with
              | false =>
                rw [hh] at con
                have HH : Hid (holdsP [(k : Int)] (false, p1, p2) = false) := hh
                clear hh
                go_wp2_with (go_at_call 11; refine (con _ (isI_one _ _)).mono ?_; rintro e w2 ⟨rfl, hb2⟩; have HK2 : Hid (Kf w (c0, c1, c2) (mup ps k) (.slice a n m) w2) := HK1.out.below (((Below.refl _ wr).alloc (Nat.le_refl _) _).trans (hb2.mono (by simp))); clear hb2 con)
                go_roundw
                case rel => exact ⟨j + 1, false, rfl, by go_num, hjl, by rw [HNX.out, ← HB1.out]; unfold pm; rw [HH.out]; rfl, HK2.out⟩
                case measure => simp [intOf]; omega
              | true =>
                rw [hh] at con
                have HH : Hid (holdsP [(k : Int)] (false, p1, p2) = true) := hh
                clear hh
                go_wp2_with (go_at_call 11; refine (con _ (isI_one _ _)).mono ?_; rintro e w2 ⟨rfl, hb2⟩; have HK2 : Hid (Kf w (c0, c1, c2) (mup ps k) (.slice a n m) w2) := HK1.out.below (((Below.refl _ wr).alloc (Nat.le_refl _) _).trans (hb2.mono (by simp))); clear hb2 con)
                go_roundw
                case rel => exact ⟨j + 1, true, rfl, by go_num, hjl, by rw [HNX.out, ← HB1.out]; unfold pm; rw [HH.out]; rfl, HK2.out⟩
                case measure => simp [intOf]; omega
        · have ej : j = ps.length := by omega
          subst ej
          have hm : b' = okM ps (k : Int) := by rw [HB1.out, List.take_length]; rfl
          have hun := mup_next ps k hlt
          rw [← hm] at hun
          have hle := mup_le ps k
          have hbig := HK1.out.big
          have HU : Hid _ := hun
          clear hm hun HB1
          cases b' with
          | false =>
            go_wp2
            go_roundw
            case rel =>
              refine ⟨k + 1, a, n, m, rfl, by go_num, hlt, ?_⟩
              have e := HU.out
              simp at e
              rw [e]
              exact HK1.out
            case measure => simp [intOf]; omega
          | true =>
            go_wp2_with (refine wpList_append_own_at _ rfl _ _ 29 rfl (w.heap.size + 1) 3 i0 (.int .i64 0) 1 8 Try.underlying29 hi hz0 hz1 hz2 rfl (by decide) _ _ _ rfl (HK1.out.row.alloc _) ⟨_, 0, none⟩ 1 1 (nv [(k : Int)]) rfl rfl (nv_at _ _) (nv_one _) (by unfold maxLen; omega) (by omega) (by simp; omega) ?_; intro v1 w1 ho1 hg1 _ _; obtain ⟨g1, m1, hv1⟩ : ∃ g m, v1 = .slice (some ⟨g, 0, none⟩) ((mup ps k).length + 1) m := (ho1.2.resolve_left (fun h => by have := h.2; omega)).elim fun g h => h.elim fun m h => h.elim fun _ h => ⟨g, m, h.1⟩; subst hv1; have HAP : Hid _ := HK1.out.app ho1 hg1; clear ho1 hg1)
            go_roundw
            case rel =>
              refine ⟨k + 1, some ⟨g1, 0, none⟩, _, m1, rfl, by go_num, hlt, ?_⟩
              have e := HU.out
              simp at e
              rw [e]
              exact HAP.out
            case measure => simp [intOf]; omega
    · have ek : k = 64 := by omega
      have hK := HK.out
      rw [ek, mup_end] at hK
      have hlt1 : ¬ (k : Int) < 64 := by omega
      have hlt2 : decide ((k : Int) < 64) = false := by simpa using hlt1
      have HKM : Hid (Kf w (c0, c1, c2) (mayL ps) (.slice a n m) wr) := hK
      have hml := may_le ps
      clear hK HK ek
      go_wp2
      go_loopw [9, 10] (fun lv iv wr => ∃ (i : Nat) (b' : Bool), lv = .bool b' ∧ iv = .int .i64 (i : Int) ∧ i ≤ ps.length ∧ b' = (ps.take i).any (fun p => p.1 && sureX ps (c0, c1, c2) p) ∧ (ps.take i).any (fun p => p.1 && noneX ps p) = false ∧ Kf w (c0, c1, c2) (mayL ps) (.slice a n m) wr) (fun _ iv _ => ps.length - (intOf iv).toNat)
      case atStart => exact ⟨0, false, rfl, rfl, Nat.zero_le _, by simp, by simp, HKM.out⟩
      case round =>
        rename_i wr1
        obtain ⟨i, b', rfl, rfl, hil, hb', hno, hK⟩ := hrel
        have HKI : Hid (Kf w (c0, c1, c2) (mayL ps) (.slice a n m) wr) := hK
        have HBI : Hid (b' = (ps.take i).any (fun p => p.1 && sureX ps (c0, c1, c2) p)) := hb'
        have HNI : Hid ((ps.take i).any (fun p => p.1 && noneX ps p) = false) := hno
        clear hK hb' hno HKM
        by_cases hlp : i < ps.length
        · obtain ⟨pb, po, rfl, hpb, hpcs⟩ := HPC.out.resolve_left (by omega)
          have hat := ccs_at ps i hlp
          have hs1 := any_next (fun p => p.1 && sureX ps (c0, c1, c2) p) ps i hlp
          have hs2 := any_next (fun p => p.1 && noneX ps p) ps i hlp
          have hok := HPS.out ps[i] (List.getElem_mem hlp)
          have hmem : ps[i] ∈ ps := List.getElem_mem hlp
          obtain ⟨⟨p0, p1, p2⟩, hpk⟩ : ∃ p, ps[i] = p := ⟨_, rfl⟩
          rw [hpk] at hat hs1 hs2 hok hmem
          have DD : Hid (∀ W, Below w.heap.size w W → W.cell? ⟨pb, po + i * 3, none⟩ = some (.bool p0) ∧ W.cell? ⟨pb, po + i * 3 + 1, none⟩ = some (.int .i64 p1) ∧ W.cell? ⟨pb, po + i * 3 + 2, none⟩ = some (.int .i64 p2)) := fun W hW => ⟨(hW.cell hpb).trans (hpcs _ _ hat.1), (hW.cell hpb).trans (hpcs _ _ hat.2.1), (hW.cell hpb).trans (hpcs _ _ hat.2.2)⟩
          have d0 := (DD.out wr HKI.out.bel).1
          have HS1 : Hid _ := hs1
          have HS2 : Hid _ := hs2
          have HOK : Hid (okC (p0, p1, p2) = true) := hok
          have HME : Hid ((p0, p1, p2) ∈ ps) := hmem
          clear hat hpk hpcs hs1 hs2 hok hmem
          cases p0 with
          | false =>
            go_wp2
            go_roundw
            case rel => exact ⟨i + 1, b', rfl, by go_num, hlp, by rw [HS1.out, ← HBI.out]; simp, by rw [HS2.out, HNI.out]; rfl, HKI.out⟩
            case measure => simp [intOf]; omega
          | true =>
            have hil1 : (i : Int) < (ps.length : Int) := by omega
            have hil2 : decide ((i : Int) < (ps.length : Int)) = true := by simp; omega
            go_wp2
            clear d0
            go_loopw [11, 12, 13] (fun nv' sv iv wr => ∃ (k : Nat) (b1 b2 : Bool), nv' = .bool b1 ∧ sv = .bool b2 ∧ iv = .int .i64 (k : Int) ∧ k ≤ (mayL ps).length ∧ b1 = !(((mayL ps).take k).any fun x => holdsP [x] (true, p1, p2)) ∧ b2 = ((mayL ps).take k).all (fun x => !holdsP [x] (true, p1, p2) || holdsP [x] (c0, c1, c2)) ∧ Kf w (c0, c1, c2) (mayL ps) (.slice a n m) wr) (fun _ _ iv _ => (mayL ps).length - (intOf iv).toNat)
            case atStart => exact ⟨0, true, true, rfl, rfl, rfl, Nat.zero_le _, by simp, by simp, HKI.out⟩
            case round =>
              rename_i wr2
              obtain ⟨k, b1, b2, rfl, rfl, rfl, hkl, hb1, hb2, hK⟩ := hrel
              have HKK : Hid (Kf w (c0, c1, c2) (mayL ps) (.slice a n m) wr) := hK
              have HB1 : Hid (b1 = !(((mayL ps).take k).any fun x => holdsP [x] (true, p1, p2))) := hb1
              have HB2 : Hid (b2 = ((mayL ps).take k).all (fun x => !holdsP [x] (true, p1, p2) || holdsP [x] (c0, c1, c2))) := hb2
              have hnl : n = (mayL ps).length := (by
                have hr := hK.row.2
                rcases hr with ⟨h1, h0⟩ | ⟨g, cap, cur, h1, _⟩
                · simp only [Value.slice.injEq] at h1; omega
                · simp only [Value.slice.injEq] at h1; omega)
              subst hnl
              clear hK hb1 hb2 HKI
              by_cases hlt3 : k < (mayL ps).length
              · obtain ⟨g, cap, hv, hcap, hgw, hcell⟩ := HKK.out.at k hlt3
                have hx1 := any_next (fun x => holdsP [x] (true, p1, p2)) (mayL ps) k hlt3
                have hx2 := all_next (fun x => !holdsP [x] (true, p1, p2) || holdsP [x] (c0, c1, c2)) (mayL ps) k hlt3
                have hlow := may_low (List.getElem_mem hlt3)
                simp only [Value.slice.injEq] at hv
                obtain ⟨rfl, _, rfl⟩ := hv
                obtain ⟨x, hxe⟩ : ∃ x, (mayL ps)[k] = x := ⟨_, rfl⟩
                rw [hxe] at hx1 hx2 hlow hcell
                have con := fun o cp W hI => ref_holds [x] (true, p1, p2) (.slice (some ⟨g, o, none⟩) 1 cp) W hI (by simp) hlow HOK.out
                have conc := fun o cp W hI => ref_holds [x] (c0, c1, c2) (.slice (some ⟨g, o, none⟩) 1 cp) W hI (by simp) hlow HCO.out
                have HX1 : Hid _ := hx1
                have HX2 : Hid _ := hx2
                have HCL : Hid (∀ W, Below wr.heap.size wr W → W.cell? ⟨g, k, none⟩ = some (.int .i64 x)) := fun W hW => (hW.cell hgw).trans hcell
                have hd := DD.out wr HKK.out.bel
                obtain ⟨d0, d1, d2⟩ := hd
                have f1 : (k : Int) < ((mayL ps).length : Int) := by omega
                have f2 : (0 : Int) ≤ (k : Int) := by omega
                have f3 : IntKind.i64.wrap ((k : Int) + 1) = ((k + 1 : Nat) : Int) := by rw [IntKind.wrap_i64]; omega
                have f4 : ((k + 1 : Nat) : Int) ≤ (m : Int) := by omega
                have f5 : ¬ m = k := by omega
                have f6 : k + 1 ≤ m := by omega
                have f7 : k ≤ m := by omega
                unfold vc at con conc
                dsimp only at con conc
                clear hx1 hx2 hlow hcell hxe
                cases hh : holdsP [x] (true, p1, p2) with
                | false =>
                  rw [hh] at con
                  have HH : Hid (holdsP [x] (true, p1, p2) = false) := hh
                  clear hh conc
                  go_upto_region 21 with fail
                  (refine wp_region_noPanic ?_; go_region_held_law (fun W => W.cell? ⟨pb, po + i * 3, none⟩ = some (.bool true) ∧ W.cell? ⟨pb, po + i * 3 + 1, none⟩ = some (.int .i64 p1) ∧ W.cell? ⟨pb, po + i * 3 + 2, none⟩ = some (.int .i64 p2)) (first | exact DD.out _ HK2.out.bel | exact DD.out _ HKK.out.bel | exact DD.out _ HKK.out.bel.drew) (first | (go_at_call 11; refine (con _ _ _ (isI_at (HCL.out _ (Below.refl _ _).drew))).mono ?_; rintro e w2 ⟨rfl, hb2⟩; have HK2 : Hid (Kf w (c0, c1, c2) (mayL ps) (.slice (some ⟨g, 0, none⟩) (mayL ps).length m) w2) := HKK.out.below ((Below.refl _ wr).drew.trans hb2); have HCL2 : Hid (w2.cell? ⟨g, k, none⟩ = some (.int .i64 x)) := HCL.out _ ((Below.refl _ wr).drew.trans hb2); clear hb2 con)); refine NoPanic.normal ?_)
                  go_wp2
                  go_roundw
                  case rel => exact ⟨k + 1, b1, b2, rfl, rfl, by go_num, hlt3, by rw [HX1.out, HH.out, Bool.or_false]; exact HB1.out, by rw [HX2.out, HH.out]; simpa using HB2.out, HK2.out⟩
                  case measure => simp [intOf]; omega
                | true =>
                  rw [hh] at con
                  have HH : Hid (holdsP [x] (true, p1, p2) = true) := hh
                  clear hh
                  go_upto_region 21 with fail
                  (refine wp_region_noPanic ?_; go_region_held_law (fun W => W.cell? ⟨pb, po + i * 3, none⟩ = some (.bool true) ∧ W.cell? ⟨pb, po + i * 3 + 1, none⟩ = some (.int .i64 p1) ∧ W.cell? ⟨pb, po + i * 3 + 2, none⟩ = some (.int .i64 p2)) (first | exact DD.out _ HK2.out.bel | exact DD.out _ HKK.out.bel | exact DD.out _ HKK.out.bel.drew) (first | (go_at_call 11; refine (con _ _ _ (isI_at (HCL.out _ (Below.refl _ _).drew))).mono ?_; rintro e w2 ⟨rfl, hb2⟩; have HK2 : Hid (Kf w (c0, c1, c2) (mayL ps) (.slice (some ⟨g, 0, none⟩) (mayL ps).length m) w2) := HKK.out.below ((Below.refl _ wr).drew.trans hb2); have HCL2 : Hid (w2.cell? ⟨g, k, none⟩ = some (.int .i64 x)) := HCL.out _ ((Below.refl _ wr).drew.trans hb2); clear hb2 con)); refine NoPanic.normal ?_)
                  cases b2 with
                  | false =>
                    clear conc
                    go_upto_region 23 with fail
                    go_quiet (fail)
                    go_wp2
                    go_roundw
                    case rel => exact ⟨k + 1, false, false, rfl, rfl, by go_num, hlt3, by rw [HX1.out, HH.out]; simp, by rw [HX2.out, ← HB2.out]; rfl, HK2.out.below (below_drewN (Below.refl _ _) _)⟩
                    case measure => simp [intOf]; omega
                  | true =>
                    cases hq : holdsP [x] (c0, c1, c2) <;> rw [hq] at conc
                    all_goals
                      have HQ : Hid (holdsP [x] (c0, c1, c2) = _) := hq
                      clear hq
                      go_upto_region 23 with fail
                      go_region_held3 (fun W => W.cell? ⟨w.heap.size, 0, none⟩ = some (.bool c0) ∧ W.cell? ⟨w.heap.size, 1, none⟩ = some (.int .i64 c1) ∧ W.cell? ⟨w.heap.size, 2, none⟩ = some (.int .i64 c2)) (first | exact ⟨HK3.out.a, HK3.out.b, HK3.out.c⟩ | exact ⟨HK2.out.a, HK2.out.b, HK2.out.c⟩) (first | (go_at_call 11; refine (conc _ _ w2.drew (isI_at (cell_drew HCL2.out))).mono ?_; rintro e w3 ⟨rfl, hb3⟩; have HK3 : Hid (Kf w (c0, c1, c2) (mayL ps) (.slice (some ⟨g, 0, none⟩) (mayL ps).length m) w3) := HK2.out.below ((Below.refl _ w2).drew.trans hb3); clear hb3 conc))
                      go_wp2
                      go_roundw
                      case rel => exact ⟨k + 1, false, _, rfl, rfl, by go_num, hlt3, by rw [HX1.out, HH.out]; simp, by rw [HX2.out, ← HB2.out, HH.out, HQ.out]; rfl, HK3.out⟩
                      case measure => simp [intOf]; omega
              · have ek : k = (mayL ps).length := by omega
                subst ek
                have e1 : b1 = noneX ps (true, p1, p2) := by rw [HB1.out, List.take_length]; rfl
                have e2 : b2 = sureX ps (c0, c1, c2) (true, p1, p2) := by rw [HB2.out, List.take_length]; rfl
                have E1 : Hid _ := e1
                have E2 : Hid _ := e2
                clear e1 e2
                cases b1 with
                | true =>
                  go_wp2
                  go_ret
                  have hf : followsP ps (c0, c1, c2) = true := by
                    unfold followsP
                    rw [Bool.or_eq_true]
                    exact .inl (List.any_eq_true.2 ⟨_, HME.out, by rw [← E1.out]; rfl⟩)
                  rw [hf]
                  exact ⟨rfl, HKK.out.bel⟩
                | false =>
                  cases b' with
                  | true =>
                    go_wp2
                    go_roundw
                    case rel => exact ⟨i + 1, true, rfl, by go_num, hlp, by rw [HS1.out, ← HBI.out, ← E2.out]; rfl, by rw [HS2.out, HNI.out, ← E1.out]; rfl, HKK.out⟩
                    case measure => simp [intOf]; omega
                  | false =>
                    cases b2 with
                    | true =>
                      go_wp2
                      go_roundw
                      case rel => exact ⟨i + 1, true, rfl, by go_num, hlp, by rw [HS1.out, ← HBI.out, ← E2.out]; rfl, by rw [HS2.out, HNI.out, ← E1.out]; rfl, HKK.out⟩
                      case measure => simp [intOf]; omega
                    | false =>
                      go_wp2
                      go_roundw
                      case rel => exact ⟨i + 1, false, rfl, by go_num, hlp, by rw [HS1.out, ← HBI.out, ← E2.out]; rfl, by rw [HS2.out, HNI.out, ← E1.out]; rfl, HKK.out⟩
                      case measure => simp [intOf]; omega
        · have ei : i = ps.length := by omega
          subst ei
          have e1 : b' = ps.any (fun p => p.1 && sureX ps (c0, c1, c2) p) := by rw [HBI.out, List.take_length]
          have e2 : ps.any (fun p => p.1 && noneX ps p) = false := by have := HNI.out; rwa [List.take_length] at this
          have r0 := HKI.out.a
          have r1 := HKI.out.b
          have r2 := HKI.out.c
          dsimp only at r0 r1 r2
          cases c0 with
          | true =>
            have HF : Hid (followsP ps (true, c1, c2) = b') := by
              show followsP ps (true, c1, c2) = b'
              unfold followsP
              rw [e2, e1]
              rfl
            clear e1 e2
            go_wp2
            go_ret
            rw [HF.out]
            exact ⟨rfl, HKI.out.bel⟩
          | false =>
            have HF : Hid (followsP ps (false, c1, c2) = holdsP (mayL ps) (false, c1, c2)) := by
              show followsP ps (false, c1, c2) = holdsP (mayL ps) (false, c1, c2)
              unfold followsP
              rw [e2]
              rfl
            have hrow := HKI.out.row
            have con := ref_holds (mayL ps) (false, c1, c2) (.slice a n m) wr (own_isI hrow (by omega)).1 (by omega) (fun x hx => (mem_may.1 hx).1) HCO.out
            unfold vc at con
            dsimp only at con
            clear e1 e2 hrow
            go_wp2_with (go_at_call 11; refine con.mono ?_; rintro e w2 ⟨rfl, hb2⟩; have HB2 : Hid (Below w.heap.size w w2) := HKI.out.bel.trans (hb2.mono HKI.out.bel.size); clear hb2 con)
            go_ret
            rw [HF.out]
            exact ⟨rfl, HB2.out⟩
end Go.Proofs.Ytcnanbimpajonaa.Fw
