/- HangAll (18, 35) at HeadsBest's closure: all trees of so many words are told, and none is worth more. Conditions: at most 12 words; none is worth more than what the boxes hold. -/
import Derived.Test.YtpolnkdbebjpnaaOj
namespace Go.Proofs.Ytpolnkdbebjpnaa.Hd
open Go.RowKit

def f17 (ps po pn pm pk : Nat) : Value := .func (.func 17) #[] #[.pointer (some ⟨ps, 0, none⟩), .pointer (some ⟨po, 0, none⟩), .pointer (some ⟨pn, 0, none⟩), .pointer (some ⟨pm, 0, none⟩), .pointer (some ⟨pk, 0, none⟩)]
def f35 (q1 q2 q3 q4 : Nat) : Value := .func (.func 35) #[] #[.pointer (some ⟨q1, 0, none⟩), .pointer (some ⟨q2, 0, none⟩), .pointer (some ⟨q3, 0, none⟩), .pointer (some ⟨q4, 0, none⟩)]
/-- what lies about while trees are made -/
structure Ge (B W : World) (q1 q2 q3 q4 g n ps po pn pm pk : Nat) (vs : Value) (N M K : Int) (C : Nat → Int) : Prop where
  bx : Bx W ps po pn pm pk vs N M K
  c1 : W.cell? ⟨q1, 0, none⟩ = some (.int .i64 (n : Int))
  c2 : W.cell? ⟨q2, 0, none⟩ = some (.slice (some ⟨g, 0, none⟩) n n)
  c3 : W.cell? ⟨q3, 0, none⟩ = some (f17 ps po pn pm pk)
  c4 : W.cell? ⟨q4, 0, none⟩ = some (f35 q1 q2 q3 q4)
  up : Iz W g n 3 C
  bd : ∀ i, i < n → 0 ≤ C i ∧ C i ≤ n
  ne : ∀ b ∈ [q1, q2, q3, q4, ps, pn, pm, pk], b ≠ po ∧ b ≠ g
  n2 : po ≠ g
  bel : Below B.heap.size B W
  lo : B.heap.size ≤ po
  lg : B.heap.size ≤ g
section
variable {B W W' : World} {q1 q2 q3 q4 g n ps po pn pm pk : Nat} {vs : Value} {N M K : Int} {C : Nat → Int}
theorem Ge.keep (h : Ge B W q1 q2 q3 q4 g n ps po pn pm pk vs N M K C) (hk : Kp (fun b => b = po) W W') (ho : W'.heap[po]? = some (.cells #[.bool true] 4 (0, 0))) : Ge B W' q1 q2 q3 q4 g n ps po pn pm pk vs N M K C := by
  have hc : ∀ b ∈ [q1, q2, q3, q4, ps, pn, pm, pk], ∀ {v : Value}, W.cell? ⟨b, 0, none⟩ = some v → W'.cell? ⟨b, 0, none⟩ = some v := fun b hb v hv => (hk.cell (World.block_lt_of_cell? _ _ hv) (h.ne b hb).1).trans hv
  exact ⟨⟨hc ps (by simp) h.bx.cs, ho, hc pn (by simp) h.bx.cn, hc pm (by simp) h.bx.cm, hc pk (by simp) h.bx.ck⟩, hc q1 (by simp) h.c1, hc q2 (by simp) h.c2, hc q3 (by simp) h.c3, hc q4 (by simp) h.c4, h.up.kept hk (fun e => h.n2 e.symm), h.bd, h.ne, h.n2, below_kp h.bel hk (fun b hb e => by have e2 : b = po := e; have := h.lo; omega), h.lo, h.lg⟩
theorem Ge.laid (h : Ge B W q1 q2 q3 q4 g n ps po pn pm pk vs N M K C) (hb : Below W.heap.size W W') : Ge B W' q1 q2 q3 q4 g n ps po pn pm pk vs N M K C :=
  h.keep (kp_below hb _) ((hb.block _ (lt_at h.bx.ro)).trans h.bx.ro)
theorem Ge.set (h : Ge B W q1 q2 q3 q4 g n ps po pn pm pk vs N M K C) (i : Nat) (x : Int) (hi : i < n) (h0 : 0 ≤ x) (h1 : x ≤ n) : Ge B (W.setCell ⟨g, i, none⟩ (.int .i64 x)) q1 q2 q3 q4 g n ps po pn pm pk vs N M K (upC C i x) := by
  have hk : Kp (fun b => b = g) W (W.setCell ⟨g, i, none⟩ (.int .i64 x)) := (Kp.refl _ W).setCell _ _ _ (fun _ => rfl)
  have hc : ∀ b ∈ [q1, q2, q3, q4, ps, pn, pm, pk], ∀ {v : Value}, W.cell? ⟨b, 0, none⟩ = some v → (W.setCell ⟨g, i, none⟩ (.int .i64 x)).cell? ⟨b, 0, none⟩ = some v := fun b hb v hv => (hk.cell (World.block_lt_of_cell? _ _ hv) (h.ne b hb).2).trans hv
  exact ⟨⟨hc ps (by simp) h.bx.cs, (hk.block _ (lt_at h.bx.ro) h.n2).trans h.bx.ro, hc pn (by simp) h.bx.cn, hc pm (by simp) h.bx.cm, hc pk (by simp) h.bx.ck⟩, hc q1 (by simp) h.c1, hc q2 (by simp) h.c2, hc q3 (by simp) h.c3, hc q4 (by simp) h.c4, h.up.set i x hi, fun j hj => by
    unfold upC
    split
    · exact ⟨h0, h1⟩
    · exact h.bd j hj, h.ne, h.n2, below_kp h.bel hk (fun b hb e => by have e2 : b = g := e; have := h.lg; omega), h.lo, h.lg⟩
def lC (n : Nat) (C : Nat → Int) : List Int := (List.range n).map C
theorem lC_len (n : Nat) (C : Nat → Int) : (lC n C).length = n := by simp [lC]
theorem lC_at {n : Nat} (C : Nat → Int) {i : Nat} (hi : i < n) : (lC n C).getD i 0 = C i := by
  unfold lC
  rw [List.getD_eq_getElem?_getD, List.getElem?_map, List.getElem?_range hi]
  rfl
theorem Ge.rl (h : Ge B W q1 q2 q3 q4 g n ps po pn pm pk vs N M K C) : Rl W (some ⟨g, 0, none⟩) (lC n C) := fun h0 =>
  ⟨g, 0, rfl, h.up.lt, fun i hi => by
    rw [lC_len] at hi
    rw [lC_at C hi, Nat.zero_add]
    exact h.up.cell hi⟩
end
set_option maxHeartbeats 4000000 in
set_option maxRecDepth 100000 in
theorem go1_any (B : World) (n b off cap q1 q2 q3 q4 g ps po pn pm pk : Nat) (ra : Nat → Option Addr) (rc : Nat → Nat) (s : Nat → Nat → Int) (N M K : Int) (hS : ∀ W, Below B.heap.size B W → Sc W b off n ra rc s) (hn : n ≤ 12) (hs : ∀ h x, h ≤ n → 1 ≤ x → x ≤ n → -1000000 ≤ s h x ∧ s h x ≤ 1000000)
    (ho : ∀ l : List Int, l.length = n → isTr l → wo s n (un l) ≤ N ∧ (Fl n (un l) → wo s n (un l) ≤ M) ∧ (rt n (un l) = 1 → wo s n (un l) ≤ K)) : ∀ d k, k + d = n → ∀ (C : Nat → Int) (w : World), Ge B w q1 q2 q3 q4 g n ps po pn pm pk (.slice (some ⟨b, off, none⟩) (n + 1) cap) N M K C →
    Calls Try.prog 35 #[.int .i64 (k : Int), .pointer (some ⟨q1, 0, none⟩), .pointer (some ⟨q2, 0, none⟩), .pointer (some ⟨q3, 0, none⟩), .pointer (some ⟨q4, 0, none⟩)] w fun e w' => e = .returned (.tuple #[]) ∧ ∃ C', Ge B w' q1 q2 q3 q4 g n ps po pn pm pk (.slice (some ⟨b, off, none⟩) (n + 1) cap) N M K C' := by
  intro d
  induction d with
  | zero =>
    intro k hk C w hG
    obtain rfl : k = n := by omega
    have HG : Hid (Ge B w q1 q2 q3 q4 g k ps po pn pm pk (.slice (some ⟨b, off, none⟩) (k + 1) cap) N M K C) := hG
    have K12 := hangTree_any (lC k C) (some ⟨g, 0, none⟩) k w hG.rl (by rw [lC_len]; omega)
    have K17 : Hid (isTr (lC k C) → ∀ W, Below w.heap.size w W → Calls Try.prog 17 #[.slice (some ⟨g, 0, none⟩) k k, .pointer (some ⟨ps, 0, none⟩), .pointer (some ⟨po, 0, none⟩), .pointer (some ⟨pn, 0, none⟩), .pointer (some ⟨pm, 0, none⟩), .pointer (some ⟨pk, 0, none⟩)] W fun e w' => e = .returned (.tuple #[]) ∧ Kp (fun k => k = po) W w' ∧ w'.heap[po]? = some (.cells #[.bool true] 4 (0, 0))) := fun hT W hW => by
      obtain ⟨h1, h2, h3⟩ := ho (lC k C) (lC_len k C) hT
      have hg := hG.laid hW
      exact none_any (lC k C) k b off cap k ps po pn pm pk _ ra rc s N M K W (hS W hg.bel) hn hs hg.rl hT (lC_len k C) hg.bx h1 h2 h3
    rw [lC_len] at K12
    have c1 := hG.c1
    have c2 := hG.c2
    clear hG hS hs ho hk
    go_enter Try.func35, Try.ntmps35
    by_cases hT : isTr (lC k C)
    · have HT : Hid (isTr (lC k C)) := hT
      clear hT
      go_wp2_with (first | (go_at_call 12; (with_reducible refine K12.mono ?_); clear K12; rintro e w1 ⟨z, rfl, hz, hb⟩; obtain rfl : z = true := hz.2 HT.out; have HG1 : Hid (Ge B w1 q1 q2 q3 q4 g k ps po pn pm pk (.slice (some ⟨b, off, none⟩) (k + 1) cap) N M K C) := HG.out.laid hb; clear c1 c2; have c2 := HG1.out.c2; have c3 := HG1.out.c3; unfold f17 at c3; have K := K17.out HT.out w1 hb; clear hz hb) | (go_at_call 17; (with_reducible refine K.mono ?_); clear K; rintro e w2 ⟨rfl, hk, hp⟩; have HG2 : Hid (Ge B w2 q1 q2 q3 q4 g k ps po pn pm pk (.slice (some ⟨b, off, none⟩) (k + 1) cap) N M K C) := HG1.out.keep hk hp; clear hk hp))
      first | go_end0 | refine bodyPost_ret (results_none rfl _ _ _) rfl ?_
      exact ⟨rfl, C, HG2.out⟩
    · have HT : Hid (¬ isTr (lC k C)) := hT
      clear hT
      go_wp2_with (go_at_call 12; (with_reducible refine K12.mono ?_); clear K12; rintro e w1 ⟨z, rfl, hz, hb⟩; obtain rfl : z = false := eq_false_of_ne_true (fun e => HT.out (hz.1 e)); have HG1 : Hid (Ge B w1 q1 q2 q3 q4 g k ps po pn pm pk (.slice (some ⟨b, off, none⟩) (k + 1) cap) N M K C) := HG.out.laid hb; clear hz hb)
      first | go_end0 | refine bodyPost_ret (results_none rfl _ _ _) rfl ?_
      exact ⟨rfl, C, HG1.out⟩
  | succ d ih =>
    intro k hk C w hG
    have HG : Hid (Ge B w q1 q2 q3 q4 g n ps po pn pm pk (.slice (some ⟨b, off, none⟩) (n + 1) cap) N M K C) := hG
    have HK : Hid (∀ (C : Nat → Int) (w : World), Ge B w q1 q2 q3 q4 g n ps po pn pm pk (.slice (some ⟨b, off, none⟩) (n + 1) cap) N M K C → Calls Try.prog 35 #[.int .i64 ((k + 1 : Nat) : Int), .pointer (some ⟨q1, 0, none⟩), .pointer (some ⟨q2, 0, none⟩), .pointer (some ⟨q3, 0, none⟩), .pointer (some ⟨q4, 0, none⟩)] w fun e w' => e = .returned (.tuple #[]) ∧ ∃ C', Ge B w' q1 q2 q3 q4 g n ps po pn pm pk (.slice (some ⟨b, off, none⟩) (n + 1) cap) N M K C') := ih (k + 1) (by omega)
    obtain ⟨k1, hk1⟩ : ∃ k1, k + 1 = k1 := ⟨_, rfl⟩
    have HN : Hid (k < n ∧ n ≤ 12 ∧ k + 1 = k1) := ⟨by omega, hn, hk1⟩
    have c1 := hG.c1
    have hkn : (k : Int) < (n : Int) := by omega
    have q0 : ((k : Int) == (n : Int)) = false := by simp; omega
    have q0' : ¬ (k : Int) = (n : Int) := by omega
    rw [hk1] at HK
    clear hG hS hs ho hk ih hn hk1
    go_enter Try.func35, Try.ntmps35
    go_upto_region 4 with fail
    clear c1
    go_loopw [6] (fun c wr => ∃ (h : Nat) (C : Nat → Int), c = .int .i64 (h : Int) ∧ h ≤ n + 1 ∧ Ge B wr q1 q2 q3 q4 g n ps po pn pm pk (.slice (some ⟨b, off, none⟩) (n + 1) cap) N M K C) (fun c _ => n + 1 - (intOf c).toNat)
    case atStart => exact ⟨0, C, rfl, Nat.zero_le _, HG.out⟩
    case round =>
      clear HG
      obtain ⟨h, C, rfl, hh, hG⟩ := hrel
      have HG : Hid (Ge B wr q1 q2 q3 q4 g n ps po pn pm pk (.slice (some ⟨b, off, none⟩) (n + 1) cap) N M K C) := hG
      clear hG
      have c1 := HG.out.c1
      by_cases hlt : h ≤ n
      · have hii : (h : Int) ≤ (n : Int) := by omega
        have hn12 := HN.out.2.1
        have c2 := HG.out.c2
        have y0 := HG.out.up.cell HN.out.1
        have f0 := HG.out.up.froz k
        have HG2 : Hid (Ge B (wr.setCell ⟨g, k, none⟩ (.int .i64 (h : Int))) q1 q2 q3 q4 g n ps po pn pm pk (.slice (some ⟨b, off, none⟩) (n + 1) cap) N M K (upC C k (h : Int))) := HG.out.set k (h : Int) HN.out.1 (by omega) hii
        go_upto_region 7 with fail
        clear c1 c2 y0 f0
        generalize wr.setCell ⟨g, k, none⟩ (.int .i64 (h : Int)) = W1 at *
        have c4 := HG2.out.c4
        unfold f35 at c4
        have wk : wrap64 ((k : Int) + 1) = (k1 : Int) := by have := HN.out; unfold wrap64; omega
        have KK := HK.out _ W1 HG2.out
        clear hkn
        go_wp2_with (go_at_call 35; (with_reducible refine KK.mono ?_); clear KK; rintro e w2 ⟨rfl, C', hG⟩; have HG3 : Hid (Ge B w2 q1 q2 q3 q4 g n ps po pn pm pk (.slice (some ⟨b, off, none⟩) (n + 1) cap) N M K C') := hG; clear hG)
        go_roundw
        case rel => exact ⟨h + 1, C', by go_num, by omega, HG3.out⟩
        case measure => simp [intOf]; omega
      · have hii : ¬ (h : Int) ≤ (n : Int) := by omega
        go_wp2
        first | go_end0 | refine bodyPost_ret (results_none rfl _ _ _) rfl ?_
        exact ⟨rfl, C, HG.out⟩
end Go.Proofs.Ytpolnkdbebjpnaa.Hd
