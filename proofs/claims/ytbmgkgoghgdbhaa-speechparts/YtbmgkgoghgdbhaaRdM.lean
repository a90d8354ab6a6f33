/- How many steps a proof has: nest.Count of proofs. Condition: the bound is at most 1000. -/
import Derived.Test.YtbmgkgoghgdbhaaRa
namespace Go.Proofs.Ytbmgkgoghgdbhaa.Te
open Go.RowKit

def szp (p : Pf) : Nat := 1 + (p.kids.map szp).sum
termination_by SizeOf.sizeOf p
decreasing_by exact Pf.lt_kids ‹_›
def psp (t : Pf) (j : Nat) : Nat := 1 + ((t.kids.take j).map szp).sum
theorem psp_zero (t : Pf) : psp t 0 = 1 := by simp [psp]
theorem psp_succ {t : Pf} {j : Nat} (h : j < t.kids.length) : psp t (j + 1) = psp t j + szp t.kids[j] := by
  unfold psp
  rw [← List.take_append_getElem h, List.map_append, List.sum_append]
  simp
  omega
theorem psp_all (t : Pf) : psp t t.kids.length = szp t := by
  unfold psp
  rw [szp, List.take_length]
theorem psp_le (t : Pf) (j : Nat) : psp t j ≤ szp t := by
  rw [← psp_all]
  unfold psp
  have : t.kids.take t.kids.length = t.kids.take j ++ (t.kids.take t.kids.length).drop j := by
    rw [List.take_length]
    exact (List.take_append_drop j t.kids).symm
  rw [this, List.map_append, List.sum_append]
  omega
theorem pkids_any (p : Pf) (x : Pl) (w : World) : Calls Try.prog 45 #[vpf p x] w fun e w' => e = .returned (.slice x.ka p.kids.length x.kc) ∧ Below w.heap.size w w' := by
  unfold vpf
  have hb : ∀ o, Below w.heap.size w (w.alloc o) := fun o => (Below.refl _ w).alloc (Nat.le_refl _) o
  go_enter Try.func45, Try.ntmps45
  go_wp2
  go_ret
  exact ⟨rfl, hb _⟩
set_option maxRecDepth 100000 in
set_option maxHeartbeats 2000000 in
theorem pcount_any : ∀ (e : Nat) {P : Nat → Prop} {d : Nat} (p : Pf) (x : Pl) (w : World) (m : Nat), PfAt P w d e p x → m ≤ 1000 → Calls Try.prog 44 #[vpf p x, .func (.func 45) #[] #[], .int .i64 (m : Int)] w fun e w' => e = .returned (.int .i64 (cap (szp p) m : Nat)) ∧ Below w.heap.size w w' := by
  intro e
  induction e with
  | zero => intro P d p x w m h; exact h.elim
  | succ e ih =>
    intro P d p x w m h hm
    have K24 := pkids_any p x
    obtain ⟨_, _, _, _, _, hfew, hK⟩ := h
    obtain ⟨q, hq⟩ : ∃ q, p = q := ⟨_, rfl⟩
    have HQ : Hid (p = q) := hq
    have hpsz : ∀ j, psp p j = psp q j := fun j => by rw [hq]
    obtain ⟨R, hR⟩ : ∃ R, cap (szp p) m = R := ⟨_, rfl⟩
    rw [hR]
    have HRR : Hid (cap (szp q) m = R) := by show _ = R; rw [← hq]; exact hR
    obtain ⟨step, left, goal, ix, n, kids⟩ := p
    obtain ⟨la, lc, ga, gc, ka, kc⟩ := x
    have hqk : q.kids = kids := by rw [← hq]
    have HQK : Hid (q.kids = kids) := hqk
    unfold vpf at K24 ⊢
    dsimp only at hfew hK K24 ⊢
    obtain ⟨W0, hW0⟩ : ∃ W0, w.alloc (.cells #[.int .i64 step, .slice la left.length lc, .int .i64 goal.kind, .int .i64 goal.n, .slice ga goal.kids.length gc, .int .i64 ix, .int .i64 n, .slice ka kids.length kc] 37) = W0 := ⟨_, rfl⟩
    have hb0 : Below w.heap.size w W0 := hW0 ▸ (Below.refl w.heap.size w).alloc (Nat.le_refl _) _
    have HK : Hid (kids.length = 0 ∨ ∃ g off, ka = some ⟨g, off, none⟩ ∧ g < w.heap.size ∧ P g ∧ ∀ j (h : j < kids.length), ∃ y, C8 w g (off + j * 8) kids[j] y ∧ PfAt P w d e kids[j] y) := hK
    have HW0 : Hid (w.alloc (.cells #[.int .i64 step, .slice la left.length lc, .int .i64 goal.kind, .int .i64 goal.n, .slice ga goal.kids.length gc, .int .i64 ix, .int .i64 n, .slice ka kids.length kc] 37) = W0) := hW0
    clear hW0 hR hq hK hpsz hqk
    go_enter Try.func44, Try.ntmps44
    go_wp2_with (go_at_call 45; (with_reducible refine (K24 _).mono ?_); rintro e1 w1 ⟨rfl, hb1⟩)
    rw [HW0.out] at hb1
    clear K24 HW0
    go_loopw [7, 9, 14] (fun nv _ iv wr => ∃ j : Nat, iv = .int .i64 (j : Int) ∧ nv = .int .i64 (cap (psp q j) m : Nat) ∧ j ≤ kids.length ∧ Below W0.heap.size W0 wr) (fun _ _ iv _ => kids.length - (intOf iv).toNat)
    case atStart => exact ⟨0, rfl, by rw [psp_zero, cap_one]; rfl, by omega, hb1⟩
    case round =>
      clear hb1
      obtain ⟨j, rfl, rfl, hj, hB⟩ := hrel
      have hfin : Below w.heap.size w wr := hb0.trans (hB.mono hb0.size)
      have hle := psp_le q j
      by_cases hjl : j < kids.length
      · have hjl' : (j : Int) < (kids.length : Int) := by omega
        obtain ⟨kg, ko, rfl, hkg, _, hkk⟩ : ∃ g off, ka = some ⟨g, off, none⟩ ∧ g < w.heap.size ∧ P g ∧ ∀ j (h : j < kids.length), ∃ y, C8 w g (off + j * 8) kids[j] y ∧ PfAt P w d e kids[j] y := by
          rcases HK.out with h | h
          · omega
          · exact h
        obtain ⟨y, hc8, hpk⟩ := hkk j hjl
        have hpk := hpk.below hfin
        obtain ⟨c0, c1, c2, c3, c4, c5, c6, c7⟩ := hc8.below hkg hfin
        clear hc8 hkk
        by_cases hpm : psp q j ≤ m
        · have HR : Hid (cap (psp q (j + 1)) m = psp q j + cap (szp kids[j]) (m - psp q j)) := by
            show cap (psp q (j + 1)) m = _
            have hj2 : j < q.kids.length := by rw [HQK.out]; exact hjl
            rw [cap_step hpm, psp_succ (t := q) hj2]
            simp only [HQK.out]
          have hsc := cap_bound (szp kids[j]) (m - psp q j)
          rw [cap_le hpm]
          have K37 := fun W' (hW : Below wr.heap.size wr W') => ih kids[j] y W' (m - psp q j) (hpk.below hW) (by omega)
          unfold vpf at K37
          generalize psp q j = p at *
          generalize cap (szp kids[j]) (m - p) = r at *
          have hpm' : ¬ (m : Int) < (p : Int) := by omega
          have hw1 : IntKind.i64.wrap ((m : Int) - (p : Int)) = ((m - p : Nat) : Int) := by rw [wrap_id (by omega) (by omega)]; omega
          have hbA : ∀ o, Below wr.heap.size wr (wr.alloc o) := fun o => (Below.refl _ wr).alloc (Nat.le_refl _) o
          clear hle hpk
          go_wp2_with (go_at_call 44; (with_reducible refine (K37 _ (hbA _)).mono ?_); rintro e1 w2 ⟨rfl, hb2⟩)
          go_roundw
          case rel => exact ⟨j + 1, by go_num, by rw [HR.out]; simp, by omega, hB.trans (((hbA _).trans (hb2.mono (hbA _).size)).mono hB.size)⟩
          case measure => simp [intOf]; omega
        · obtain ⟨e1, e2⟩ := cap_stop hpm hle
          rw [e1]
          rw [HRR.out] at e2
          have HE2 : Hid (R = m + 1) := e2
          have hpm2 : (m : Int) < ((m + 1 : Nat) : Int) := by omega
          have hfin2 : ∀ o, Below w.heap.size w (wr.alloc o) := fun o => hfin.alloc hfin.size o
          clear e1 e2 hle hpm hpk
          go_wp2
          go_ret
          exact ⟨by rw [HE2.out]; rfl, hfin2 _⟩
      · have hjl' : ¬ (j : Int) < (kids.length : Int) := by omega
        have ej : j = q.kids.length := by rw [HQK.out]; omega
        have es : psp q j = szp q := by rw [ej]; exact psp_all q
        rw [es, HRR.out]
        clear es ej hle
        go_wp2
        go_ret
        exact ⟨rfl, hfin⟩
end Go.Proofs.Ytbmgkgoghgdbhaa.Te
/- hasLong: whether too many parts stand in a left of a proof; the library's ContainsFunc at it. No conditions. -/
namespace Go.Proofs.Ytbmgkgoghgdbhaa.Te
open Go.RowKit

def lgp (p : Pf) : Bool := decide (20 < p.left.length) || (p.kids.map lgp).any id
termination_by SizeOf.sizeOf p
decreasing_by exact Pf.lt_kids ‹_›
def LongOk (e : Nat) : Prop := ∀ (P : Nat → Prop) (d : Nat) (p : Pf) (x : Pl) (w : World), PfAt P w d e p x → Calls Try.prog 46 #[vpf p x] w fun e w' => e = .returned (.bool (lgp p)) ∧ Below w.heap.size w w'
def KidsAt (P : Nat → Prop) (w : World) (d e : Nat) (kids : List Pf) (ka : Option Addr) : Prop := kids.length = 0 ∨ ∃ g off, ka = some ⟨g, off, none⟩ ∧ g < w.heap.size ∧ P g ∧ ∀ j (h : j < kids.length), ∃ y, C8 w g (off + j * 8) kids[j] y ∧ PfAt P w d e kids[j] y
theorem KidsAt.below {P : Nat → Prop} {w w' : World} {d e : Nat} {kids : List Pf} {ka : Option Addr} (h : KidsAt P w d e kids ka) (hb : Below w.heap.size w w') : KidsAt P w' d e kids ka := by
  rcases h with h | ⟨g, off, h1, h2, h3, h4⟩
  · exact .inl h
  · refine .inr ⟨g, off, h1, Nat.lt_of_lt_of_le h2 hb.size, h3, fun j hj => ?_⟩
    obtain ⟨y, hc, hp⟩ := h4 j hj
    exact ⟨y, hc.below h2 hb, hp.below hb⟩
set_option maxHeartbeats 2000000 in
theorem index_long {e : Nat} (ih : LongOk e) {P : Nat → Prop} {d : Nat} (kids : List Pf) (ka : Option Addr) (kc : Nat) (w : World) (r : Bool) (hr : (kids.map lgp).any id = r) (hk : kids.length ≤ 140737488355328) (h : KidsAt P w d e kids ka) :
    Calls Try.prog 80 #[.slice ka kids.length kc, .func (.func 46) #[] #[]] w fun e w' => ∃ i : Int, e = .returned (.int .i64 i) ∧ (if r = true then 0 ≤ i else i = -1) ∧ Below w.heap.size w w' := by
  have HK : Hid (KidsAt P w d e kids ka) := h
  have HI : Hid (LongOk e) := ih
  have HR : Hid ((kids.map lgp).any id = r) := hr
  clear h ih hr
  go_enter Try.func80, Try.ntmps80
  go_wp2
  go_loopw [8] (fun iv wr => ∃ k : Nat, iv = .int .i64 (k : Int) ∧ k ≤ kids.length ∧ Below w.heap.size w wr ∧ (∀ j (h : j < kids.length), j < k → lgp kids[j] = false)) (fun iv _ => kids.length - (intOf iv).toNat)
  case atStart => exact ⟨0, rfl, by omega, Below.refl _ _, fun _ _ h => by omega⟩
  case round =>
    obtain ⟨k, rfl, hkl', hB, hz⟩ := hrel
    have HZ : Hid (∀ j (h : j < kids.length), j < k → lgp kids[j] = false) := hz
    clear hz
    by_cases hkl : k < kids.length
    · have hkl2 : (k : Int) < (kids.length : Int) := by omega
      obtain ⟨kg, ko, rfl, hkg, _, hkk⟩ : ∃ g off, ka = some ⟨g, off, none⟩ ∧ g < wr.heap.size ∧ P g ∧ ∀ j (h : j < kids.length), ∃ y, C8 wr g (off + j * 8) kids[j] y ∧ PfAt P wr d e kids[j] y := by
        rcases HK.out.below hB with h | h
        · omega
        · exact h
      obtain ⟨y, hc8, hpk⟩ := hkk k hkl
      obtain ⟨c0, c1, c2, c3, c4, c5, c6, c7⟩ := hc8
      have K46 := HI.out P d kids[k] y wr hpk
      unfold vpf at K46
      obtain ⟨b, hb⟩ : ∃ b, lgp kids[k] = b := ⟨_, rfl⟩
      rw [hb] at K46
      have HBB : Hid (lgp kids[k] = b) := hb
      clear hb hpk hkk
      cases b with
      | false =>
        go_wp2_with (go_at_call 46; (with_reducible refine K46.mono ?_); rintro e1 w1 ⟨rfl, hb1⟩; clear K46)
        go_roundw
        case rel =>
          refine ⟨k + 1, by go_num, by omega, hB.trans (hb1.mono hB.size), fun j h1 h2 => ?_⟩
          by_cases hjk : j < k
          · exact HZ.out j h1 hjk
          · obtain rfl : j = k := by omega
            exact HBB.out
        case measure => simp [intOf]; omega
      | true =>
        have hrt : r = true := by
          rw [← HR.out, List.any_eq_true]
          exact ⟨true, List.mem_map.2 ⟨kids[k], List.getElem_mem hkl, HBB.out⟩, rfl⟩
        subst hrt
        go_wp2_with (go_at_call 46; (with_reducible refine K46.mono ?_); rintro e1 w1 ⟨rfl, hb1⟩; clear K46)
        go_ret
        exact ⟨(k : Int), rfl, by omega, hB.trans (hb1.mono hB.size)⟩
    · have hkl2 : ¬ (k : Int) < (kids.length : Int) := by omega
      have hrf : r = false := by
        rw [← HR.out, List.any_eq_false]
        intro b hb
        obtain ⟨q, hq, rfl⟩ := List.mem_map.1 hb
        obtain ⟨j, hj, rfl⟩ := List.getElem_of_mem hq
        rw [HZ.out j hj (by omega)]
        decide
      subst hrf
      go_wp2
      go_ret
      exact ⟨-1, rfl, by decide, hB⟩
set_option maxHeartbeats 1000000 in
theorem contains_long {e : Nat} (ih : LongOk e) {P : Nat → Prop} {d : Nat} (kids : List Pf) (ka : Option Addr) (kc : Nat) (w : World) (hk : kids.length ≤ 140737488355328) (h : KidsAt P w d e kids ka) :
    Calls Try.prog 64 #[.slice ka kids.length kc, .func (.func 46) #[] #[]] w fun e w' => e = .returned (.bool ((kids.map lgp).any id)) ∧ Below w.heap.size w w' := by
  obtain ⟨r, hr⟩ : ∃ r, (kids.map lgp).any id = r := ⟨_, rfl⟩
  have K80 := index_long ih kids ka kc w r hr hk h
  rw [hr]
  clear ih hr h hk
  cases r with
  | false =>
    go_enter Try.func64, Try.ntmps64
    go_wp2_with (go_at_call 80; (with_reducible refine K80.mono ?_); rintro e1 w1 ⟨i, rfl, hi, hb1⟩; clear K80; obtain rfl : i = -1 := by simpa using hi)
    go_ret
    exact ⟨rfl, hb1⟩
  | true =>
    go_enter Try.func64, Try.ntmps64
    go_wp2_with (go_at_call 80; (with_reducible refine K80.mono ?_); rintro e1 w1 ⟨i, rfl, hi, hb1⟩; clear K80; have hi : 0 ≤ i := by simpa using hi)
    go_ret
    exact ⟨rfl, hb1⟩
set_option maxHeartbeats 1000000 in
theorem long_any : ∀ e, LongOk e := by
  intro e
  induction e with
  | zero => intro P d p x w h; exact h.elim
  | succ e ih =>
    intro P d p x w h
    obtain ⟨_, _, _, hL, _, hk, hK⟩ := h
    obtain ⟨step, left, goal, ix, n, kids⟩ := p
    obtain ⟨la, lc, ga, gc, ka, kc⟩ := x
    dsimp only at hL hk hK
    have hlb := hL.1.2.2.1
    dsimp only at hlb
    have hVb : Below w.heap.size w (w.alloc (.cells #[.int .i64 step, .slice la left.length lc, .int .i64 goal.kind, .int .i64 goal.n, .slice ga goal.kids.length gc, .int .i64 ix, .int .i64 n, .slice ka kids.length kc] 37)) := (Below.refl _ w).alloc (Nat.le_refl _) _
    have HK : Hid (KidsAt P w d e kids ka) := hK
    have K64 := contains_long ih kids ka kc _ hk (HK.out.below hVb)
    rw [lgp]
    unfold vpf
    dsimp only
    obtain ⟨b, hb⟩ : ∃ b, (kids.map lgp).any id = b := ⟨_, rfl⟩
    rw [hb] at K64 ⊢
    clear hL hK hb ih
    by_cases h20 : 20 < left.length
    · have h20' : (20 : Int) < (left.length : Int) := by omega
      rw [show (decide (20 < left.length) || b) = true by simp [h20]]
      clear K64 h20
      go_enter Try.func46, Try.ntmps46
      go_wp2
      go_ret
      exact ⟨rfl, hVb⟩
    · have h20' : ¬ (20 : Int) < (left.length : Int) := by omega
      rw [show (decide (20 < left.length) || b) = b by simp [h20]]
      clear h20
      go_enter Try.func46, Try.ntmps46
      go_wp2_with (go_at_call 64; (with_reducible refine K64.mono ?_); rintro e1 w1 ⟨rfl, hb1⟩; clear K64)
      go_ret
      exact ⟨rfl, hVb.trans (hb1.mono hVb.size)⟩
end Go.Proofs.Ytbmgkgoghgdbhaa.Te
/- Right. No conditions. -/
namespace Go.Proofs.Ytbmgkgoghgdbhaa.Te
open Go.RowKit

/-- what Right says of a proof, but for whether it is right -/
def rtE (p : Pf) : Int := if 200 < szp p ∨ lgp p = true then 7 else cpf p
theorem crow_zero : ∀ {l : List Ty} {g : Ty}, crow l g = 0 → (∀ t ∈ l, ck t = 0) ∧ ck g = 0
  | [], _, h => ⟨fun _ h => by (cases h), h⟩
  | t :: l, g, h => by
    rw [crow] at h
    by_cases h0 : ck t = 0
    · rw [if_pos h0] at h
      obtain ⟨h1, h2⟩ := crow_zero h
      refine ⟨fun x hx => ?_, h2⟩
      rcases List.mem_cons.1 hx with rfl | hx
      · exact h0
      · exact h1 x hx
    · rw [if_neg h0] at h; exact absurd h h0
theorem ck_gp {t : Ty} (h : ck t = 0) : Gp t := by
  unfold ck at h
  by_cases h0 : 15 < sz t
  · rw [if_pos h0] at h; cases h
  · rw [if_neg h0] at h; exact h
theorem gpf_of : ∀ (s : Nat) (p : Pf), SizeOf.sizeOf p ≤ s → cpf p = 0 → Gpf p := by
  intro s
  induction s with
  | zero => intro p h; obtain ⟨_, _, _, _, _, _⟩ := p; simp at h
  | succ s ih =>
    intro p hp h
    rw [cpf] at h
    by_cases h0 : crow p.left p.goal = 0
    · rw [if_pos h0] at h
      obtain ⟨h1, h2⟩ := crow_zero h0
      rw [Gpf]
      refine ⟨fun t ht => ck_gp (h1 t ht), ck_gp h2, fun ⟨x, hx⟩ => ?_⟩
      exact ih x (by have := Pf.lt_kids hx; omega) (fz_all h _ (List.mem_map.2 ⟨x, hx, rfl⟩))
    · rw [if_neg h0] at h; exact absurd h h0
theorem lpf_of : ∀ (s : Nat) (p : Pf), SizeOf.sizeOf p ≤ s → lgp p = false → Lpf p := by
  intro s
  induction s with
  | zero => intro p h; obtain ⟨_, _, _, _, _, _⟩ := p; simp at h
  | succ s ih =>
    intro p hp h
    rw [lgp, Bool.or_eq_false_iff] at h
    rw [Lpf]
    refine ⟨by have := of_decide_eq_false h.1; omega, fun ⟨x, hx⟩ => ?_⟩
    have := List.any_eq_false.1 h.2 (lgp x) (List.mem_map.2 ⟨x, hx, rfl⟩)
    exact ih x (by have := Pf.lt_kids hx; omega) (by simpa using this)
/-- what Right answers -/
def RightQ (p : Pf) (r : Bool) (w : World) (e : Ending) (w' : World) : Prop := e = .returned (.tuple #[.bool (if rtE p = 0 then r else false), .int .i64 (rtE p)]) ∧ Below w.heap.size w w'
set_option maxRecDepth 100000 in
set_option maxHeartbeats 2000000 in
theorem Right_any {P : Nat → Prop} {d e : Nat} (p : Pf) (x : Pl) (w : World) (r : Bool) (h : PfAt P w d e p x) (hr : r = true ↔ Rt p) : Calls Try.prog 17 #[vpf p x] w fun e w' => RightQ p r w e w' := by
  have HP : Hid (PfAt P w d e p x) := h
  have HR : Hid (r = true ↔ Rt p) := hr
  have K44 : ∀ W, Below w.heap.size w W → Calls Try.prog 44 #[vpf p x, .func (.func 45) #[] #[], .int .i64 200] W fun e w' => e = .returned (.int .i64 (cap (szp p) 200 : Nat)) ∧ Below W.heap.size W w' := fun W hW => pcount_any e p x W 200 (HP.out.below hW) (by omega)
  have K46 := fun W (hW : Below w.heap.size w W) => long_any e P d p x W (HP.out.below hW)
  have K47 := fun W (hW : Below w.heap.size w W) => cpf_any e p x W (HP.out.below hW)
  have K48 := fun W (hW : Below w.heap.size w W) (hc : cpf p = 0) (hl : lgp p = false) => right_any e p x W r (HP.out.below hW) (gpf_of _ p (Nat.le_refl _) hc) (lpf_of _ p (Nat.le_refl _) hl) HR.out
  obtain ⟨cp, hcp⟩ : ∃ cp, cap (szp p) 200 = cp := ⟨_, rfl⟩
  obtain ⟨lg, hlg⟩ : ∃ lg, lgp p = lg := ⟨_, rfl⟩
  obtain ⟨ce, hce⟩ : ∃ ce, cpf p = ce := ⟨_, rfl⟩
  obtain ⟨o, ho⟩ : ∃ o, rtE p = o := ⟨_, rfl⟩
  have hcp2 : 200 < szp p ↔ 200 < cp := by rw [← hcp]; unfold cap; split <;> omega
  have hcp3 : cp ≤ 201 := by rw [← hcp]; exact cap_bound _ _
  have HO : Hid ((if 200 < cp ∨ lg = true then 7 else ce) = o) := by
    show _ = o
    rw [← ho, rtE, hlg, hce]
    simp only [hcp2]
  have hQ : RightQ p r = fun w e w' => e = .returned (.tuple #[.bool (if o = 0 then r else false), .int .i64 o]) ∧ Below w.heap.size w w' := by
    funext w e w'
    unfold RightQ
    rw [ho]
  rw [hQ]
  rw [hcp] at K44
  rw [hlg] at K46 K48
  rw [hce] at K47 K48
  clear hcp hlg hce ho hcp2 hQ h hr HR HP
  obtain ⟨step, left, goal, ix, n, kids⟩ := p
  obtain ⟨la, lc, ga, gc, ka, kc⟩ := x
  unfold vpf at K44 K46 K47 K48 ⊢
  dsimp only at K44 K46 K47 K48 ⊢
  go_enter Try.func17, Try.ntmps17
  go_upto_region 1 with fail
  have hVb : Below w.heap.size w (w.alloc (.cells #[.int .i64 step, .slice la left.length lc, .int .i64 goal.kind, .int .i64 goal.n, .slice ga goal.kids.length gc, .int .i64 ix, .int .i64 n, .slice ka kids.length kc] 37)) := (Below.refl _ w).alloc (Nat.le_refl _) _
  have x1 := heap_alloc_new w (.cells #[.int .i64 step, .slice la left.length lc, .int .i64 goal.kind, .int .i64 goal.n, .slice ga goal.kids.length gc, .int .i64 ix, .int .i64 n, .slice ka kids.length kc] 37)
  generalize hV : w.alloc (.cells #[.int .i64 step, .slice la left.length lc, .int .i64 goal.kind, .int .i64 goal.n, .slice ga goal.kids.length gc, .int .i64 ix, .int .i64 n, .slice ka kids.length kc] 37) = V at *
  clear hV
  have i0 := cell_of_row _ _ 0 _ _ _ x1
  have i1 := cell_of_row _ _ 1 _ _ _ x1
  have i2 := cell_of_row _ _ 2 _ _ _ x1
  have i3 := cell_of_row _ _ 3 _ _ _ x1
  have i4 := cell_of_row _ _ 4 _ _ _ x1
  have i5 := cell_of_row _ _ 5 _ _ _ x1
  have i6 := cell_of_row _ _ 6 _ _ _ x1
  have i7 := cell_of_row _ _ 7 _ _ _ x1
  by_cases h2 : 200 < cp
  · have h2' : (200 : Int) < (cp : Int) := by omega
    obtain rfl : (7 : Int) = o := by have := HO.out; rw [if_pos (.inl h2)] at this; exact this
    go_wp2_with (go_at_call 44; (with_reducible refine (K44 _ hVb).mono ?_); rintro e1 w1 ⟨rfl, hb1⟩; have x2 := (hb1.block _ (lt_of_get x1)).trans x1; have hB1 := hVb.trans (hb1.mono hVb.size); have j0 := cell_of_row _ _ 0 _ _ _ x2; have j1 := cell_of_row _ _ 1 _ _ _ x2; have j2 := cell_of_row _ _ 2 _ _ _ x2; have j3 := cell_of_row _ _ 3 _ _ _ x2; have j4 := cell_of_row _ _ 4 _ _ _ x2; have j5 := cell_of_row _ _ 5 _ _ _ x2; have j6 := cell_of_row _ _ 6 _ _ _ x2; have j7 := cell_of_row _ _ 7 _ _ _ x2)
    go_ret2
    exact ⟨rfl, hB1⟩
  have h2' : ¬ (200 : Int) < (cp : Int) := by omega
  cases lg with
  | true =>
    obtain rfl : (7 : Int) = o := by have := HO.out; rw [if_pos (.inr rfl)] at this; exact this
    go_wp2_with (first | (go_at_call 44; (with_reducible refine (K44 _ hVb).mono ?_); rintro e1 w1 ⟨rfl, hb1⟩; have x2 := (hb1.block _ (lt_of_get x1)).trans x1; have hB1 := hVb.trans (hb1.mono hVb.size); have j0 := cell_of_row _ _ 0 _ _ _ x2; have j1 := cell_of_row _ _ 1 _ _ _ x2; have j2 := cell_of_row _ _ 2 _ _ _ x2; have j3 := cell_of_row _ _ 3 _ _ _ x2; have j4 := cell_of_row _ _ 4 _ _ _ x2; have j5 := cell_of_row _ _ 5 _ _ _ x2; have j6 := cell_of_row _ _ 6 _ _ _ x2; have j7 := cell_of_row _ _ 7 _ _ _ x2) | (go_at_call 46; (with_reducible refine (K46 _ hB1).mono ?_); rintro e2 w2 ⟨rfl, hb2⟩; have x3 := (hb2.block _ (lt_of_get x2)).trans x2; have hB2 := hB1.trans (hb2.mono hB1.size); have k0 := cell_of_row _ _ 0 _ _ _ x3; have k1 := cell_of_row _ _ 1 _ _ _ x3; have k2 := cell_of_row _ _ 2 _ _ _ x3; have k3 := cell_of_row _ _ 3 _ _ _ x3; have k4 := cell_of_row _ _ 4 _ _ _ x3; have k5 := cell_of_row _ _ 5 _ _ _ x3; have k6 := cell_of_row _ _ 6 _ _ _ x3; have k7 := cell_of_row _ _ 7 _ _ _ x3))
    go_ret2
    exact ⟨rfl, hB2⟩
  | false =>
    obtain rfl : ce = o := by have := HO.out; rw [if_neg (by simp; omega)] at this; exact this
    by_cases h0 : ce = 0
    · subst h0
      have K48' := fun W (hW : Below w.heap.size w W) => K48 W hW rfl rfl
      clear K48
      go_wp2_with (first | (go_at_call 44; (with_reducible refine (K44 _ hVb).mono ?_); rintro e1 w1 ⟨rfl, hb1⟩; have x2 := (hb1.block _ (lt_of_get x1)).trans x1; have hB1 := hVb.trans (hb1.mono hVb.size); have j0 := cell_of_row _ _ 0 _ _ _ x2; have j1 := cell_of_row _ _ 1 _ _ _ x2; have j2 := cell_of_row _ _ 2 _ _ _ x2; have j3 := cell_of_row _ _ 3 _ _ _ x2; have j4 := cell_of_row _ _ 4 _ _ _ x2; have j5 := cell_of_row _ _ 5 _ _ _ x2; have j6 := cell_of_row _ _ 6 _ _ _ x2; have j7 := cell_of_row _ _ 7 _ _ _ x2) | (go_at_call 46; (with_reducible refine (K46 _ hB1).mono ?_); rintro e2 w2 ⟨rfl, hb2⟩; have x3 := (hb2.block _ (lt_of_get x2)).trans x2; have hB2 := hB1.trans (hb2.mono hB1.size); have k0 := cell_of_row _ _ 0 _ _ _ x3; have k1 := cell_of_row _ _ 1 _ _ _ x3; have k2 := cell_of_row _ _ 2 _ _ _ x3; have k3 := cell_of_row _ _ 3 _ _ _ x3; have k4 := cell_of_row _ _ 4 _ _ _ x3; have k5 := cell_of_row _ _ 5 _ _ _ x3; have k6 := cell_of_row _ _ 6 _ _ _ x3; have k7 := cell_of_row _ _ 7 _ _ _ x3) | (go_at_call 47; (with_reducible refine (K47 _ hB2).mono ?_); rintro e3 w3 ⟨rfl, hb3⟩; have x4 := (hb3.block _ (lt_of_get x3)).trans x3; have hB3 := hB2.trans (hb3.mono hB2.size); have m0 := cell_of_row _ _ 0 _ _ _ x4; have m1 := cell_of_row _ _ 1 _ _ _ x4; have m2 := cell_of_row _ _ 2 _ _ _ x4; have m3 := cell_of_row _ _ 3 _ _ _ x4; have m4 := cell_of_row _ _ 4 _ _ _ x4; have m5 := cell_of_row _ _ 5 _ _ _ x4; have m6 := cell_of_row _ _ 6 _ _ _ x4; have m7 := cell_of_row _ _ 7 _ _ _ x4) | (go_at_call 48; (with_reducible refine (K48' _ hB3).mono ?_); rintro e4 w4 ⟨rfl, hb4⟩; have hB4 := hB3.trans (hb4.mono hB3.size)))
      go_ret2
      exact ⟨by rfl, hB4⟩
    · clear K48
      go_wp2_with (first | (go_at_call 44; (with_reducible refine (K44 _ hVb).mono ?_); rintro e1 w1 ⟨rfl, hb1⟩; have x2 := (hb1.block _ (lt_of_get x1)).trans x1; have hB1 := hVb.trans (hb1.mono hVb.size); have j0 := cell_of_row _ _ 0 _ _ _ x2; have j1 := cell_of_row _ _ 1 _ _ _ x2; have j2 := cell_of_row _ _ 2 _ _ _ x2; have j3 := cell_of_row _ _ 3 _ _ _ x2; have j4 := cell_of_row _ _ 4 _ _ _ x2; have j5 := cell_of_row _ _ 5 _ _ _ x2; have j6 := cell_of_row _ _ 6 _ _ _ x2; have j7 := cell_of_row _ _ 7 _ _ _ x2) | (go_at_call 46; (with_reducible refine (K46 _ hB1).mono ?_); rintro e2 w2 ⟨rfl, hb2⟩; have x3 := (hb2.block _ (lt_of_get x2)).trans x2; have hB2 := hB1.trans (hb2.mono hB1.size); have k0 := cell_of_row _ _ 0 _ _ _ x3; have k1 := cell_of_row _ _ 1 _ _ _ x3; have k2 := cell_of_row _ _ 2 _ _ _ x3; have k3 := cell_of_row _ _ 3 _ _ _ x3; have k4 := cell_of_row _ _ 4 _ _ _ x3; have k5 := cell_of_row _ _ 5 _ _ _ x3; have k6 := cell_of_row _ _ 6 _ _ _ x3; have k7 := cell_of_row _ _ 7 _ _ _ x3) | (go_at_call 47; (with_reducible refine (K47 _ hB2).mono ?_); rintro e3 w3 ⟨rfl, hb3⟩; have x4 := (hb3.block _ (lt_of_get x3)).trans x3; have hB3 := hB2.trans (hb3.mono hB2.size); have m0 := cell_of_row _ _ 0 _ _ _ x4; have m1 := cell_of_row _ _ 1 _ _ _ x4; have m2 := cell_of_row _ _ 2 _ _ _ x4; have m3 := cell_of_row _ _ 3 _ _ _ x4; have m4 := cell_of_row _ _ 4 _ _ _ x4; have m5 := cell_of_row _ _ 5 _ _ _ x4; have m6 := cell_of_row _ _ 6 _ _ _ x4; have m7 := cell_of_row _ _ 7 _ _ _ x4))
      go_ret2
      exact ⟨by first | rfl | simp, hB3⟩
end Go.Proofs.Ytbmgkgoghgdbhaa.Te
