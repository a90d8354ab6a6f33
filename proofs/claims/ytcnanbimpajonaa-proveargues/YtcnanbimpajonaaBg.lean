/- begun: an argument with the premises and with each literal itself. Conditions: few premises, of literals. -/
import Derived.Test.YtcnanbimpajonaaUa
namespace Go.Proofs.Ytcnanbimpajonaa.Bg
open Go.RowKit Cl Co Cp Mq Nu Ag Cs Ce Ua

/-- the premises' lines, from number i on -/
def givenL (L : List Ln) (i : Nat) (ps : List C) : List Ln := match ps with
  | [] => L
  | p :: ps => givenL (putL L 1 p [(i : Int)]) (i + 1) ps
theorem givenL_snoc (L : List Ln) (i : Nat) (ps : List C) (p : C) : givenL L i (ps ++ [p]) = putL (givenL L i ps) 1 p [((i + ps.length : Nat) : Int)] := by
  induction ps generalizing L i with
  | nil => rfl
  | cons q ps ih =>
    show givenL (putL L 1 q [(i : Int)]) (i + 1) (ps ++ [p]) = _
    rw [ih]
    have e : i + 1 + ps.length = i + (q :: ps).length := by simp; omega
    rw [e]
    rfl
theorem givenL_len (L : List Ln) (i : Nat) (ps : List C) : (givenL L i ps).length ≤ L.length + ps.length := by
  induction ps generalizing L i with
  | nil => exact Nat.le_refl _
  | cons q ps ih =>
    have h1 := ih (putL L 1 q [(i : Int)]) (i + 1)
    have h2 := put_len L 1 q [(i : Int)]
    show (givenL (putL L 1 q [(i : Int)]) (i + 1) ps).length ≤ _
    simp only [List.length_cons]
    omega
def selfL (L : List Ln) (x : Int) : List Ln := putL L 2 (false, x, x) []
def begunL (ps : List C) : List Ln := lits.foldl selfL (givenL [] 0 ps)

theorem arg_new (w : World) (g : C) (o : Obj) : Arg w.heap.size (((w.alloc o).alloc (.map #[] 0)).alloc (.cells #[.bool g.1, .int .i64 g.2.1, .int .i64 g.2.2, .slice none 0 0, .map (some (w.heap.size + 1))] 53)) (w.heap.size + 1 + 1) (w.heap.size + 1) g [] := by
  have e1 : (w.alloc o).heap.size = w.heap.size + 1 := by simp
  have e2 : ((w.alloc o).alloc (.map #[] 0)).heap.size = w.heap.size + 1 + 1 := by simp
  refine ⟨.slice none 0 0, 0, [], rfl, ?_, World.ownsRow_nil _ _ _ _, fun z hz => absurd hz List.not_mem_nil, ?_, ⟨by omega, by omega⟩, Nat.le_refl _⟩
  · have := heap_alloc_new ((w.alloc o).alloc (.map #[] 0)) (.cells #[.bool g.1, .int .i64 g.2.1, .int .i64 g.2.2, .slice none 0 0, .map (some (w.heap.size + 1))] 53)
    rw [e2] at this
    exact this
  · have h0 := made (w.alloc o)
    rw [e1] at h0
    exact h0.kept (heap_alloc_old _ _ h0.lt)

theorem isN_lit1 {W : World} {g : Nat} {x : Int} (h : W.heap[g]? = some (.cells #[.int .i64 x] 3 (0, 0))) : IsN W (.slice (some ⟨g, 0, none⟩) 1 1) [x] :=
  ⟨_, 1, rfl, .inr ⟨g, 0, _, (0, 0), rfl, h, fun j y hy => by rw [Nat.zero_add]; match j, hy with | 0, hy => simp at hy; subst hy; rfl⟩⟩
theorem isN_nil (W : World) : IsN W (.slice none 0 0) [] := ⟨none, 0, rfl, .inl ⟨rfl, rfl, rfl⟩⟩
theorem nwa (w : World) (a b : Obj) : ((w.alloc a).alloc b).heap[w.heap.size + 1]? = some b := by
  have e : (w.alloc a).heap.size = w.heap.size + 1 := by simp
  rw [← e]
  exact heap_alloc_new _ _
theorem bla (w : World) (a b : Obj) : Below w.heap.size w ((w.alloc a).alloc b) := ((Below.refl _ w).alloc (Nat.le_refl _) a).alloc (by simp) b
theorem blb (w : World) (a b c : Obj) : Below w.heap.size w (((w.alloc a).alloc b).alloc c) := (bla w a b).alloc (by simp; omega) c
theorem selfL_len (L : List Ln) (x : Int) : (selfL L x).length ≤ L.length + 1 := put_len _ _ _ _

set_option maxHeartbeats 4000000 in
set_option maxRecDepth 100000 in
theorem begun_any (ps : List C) (g : C) (vp : Value) (w : World) (hp : IsC w vp ps) (hps : ∀ p ∈ ps, Sm p) (hl : ps.length ≤ 1000) :
    Calls Try.prog 17 #[vp, vc g] w fun e w' => ∃ A mb, e = .returned (.pointer (some ⟨A, 0, none⟩)) ∧ Arg w.heap.size w' A mb g (begunL ps) ∧ Below w.heap.size w w' := by
  obtain ⟨hxl, ap, cp, rfl, hnp, hC⟩ := hp
  have HC : Hid (ps.length = 0 ∨ ∃ b off, ap = some ⟨b, off, none⟩ ∧ b < w.heap.size ∧ ∀ j u, (ccs ps)[j]? = some u → w.cell? ⟨b, off + j, none⟩ = some u) := hC
  have HPS : Hid (∀ p ∈ ps, Sm p) := hps
  have hmm := @run_makeMap Try.prog
  clear hC hxl hnp hps
  obtain ⟨g0, g1, g2⟩ := g
  unfold vc
  dsimp only
  go_enter Try.func17, Try.ntmps17
  go_wp2
  have h0 := arg_new w (g0, g1, g2) (.cells #[.bool g0, .int .i64 g1, .int .i64 g2] 24)
  dsimp only at h0
  have H0 : Hid _ := h0
  clear h0 hmm
  go_loopw [16] (fun iv wr => ∃ (k : Nat), iv = .int .i64 (k : Int) ∧ k ≤ ps.length ∧ Arg w.heap.size wr (w.heap.size + 1 + 1) (w.heap.size + 1) (g0, g1, g2) (givenL [] 0 (ps.take k)) ∧ Kt w.heap.size w wr) (fun iv _ => ps.length - (intOf iv).toNat)
  case atStart => exact ⟨0, rfl, Nat.zero_le _, H0.out, Kt.of_below (blb _ _ _ _) (Nat.le_refl _)⟩
  case round =>
    obtain ⟨k, rfl, hk, hA, hK⟩ := hrel
    clear H0
    by_cases hlt : k < ps.length
    · obtain ⟨b, off, rfl, hbl, hcs⟩ := HC.out.resolve_left (by omega)
      obtain ⟨⟨p0, p1, p2⟩, hp⟩ : ∃ p, ps[k] = p := ⟨_, rfl⟩
      have hat := ccs_at ps k hlt
      rw [hp] at hat
      have d0 : wr.cell? ⟨b, off + k * 3, none⟩ = some (.bool p0) := (hK.below.cell hbl).trans (hcs _ _ hat.1)
      have d1 : wr.cell? ⟨b, off + k * 3 + 1, none⟩ = some (.int .i64 p1) := (hK.below.cell hbl).trans (hcs _ _ hat.2.1)
      have d2 : wr.cell? ⟨b, off + k * 3 + 2, none⟩ = some (.int .i64 p2) := (hK.below.cell hbl).trans (hcs _ _ hat.2.2)
      have hpm := HPS.out ps[k] (List.getElem_mem hlt)
      rw [hp] at hpm
      have HP : Hid (ps[k] = (p0, p1, p2)) := hp
      have HA : Hid _ := hA
      have HK : Hid _ := hK
      have HPM : Hid (Sm (p0, p1, p2)) := hpm
      have hll := givenL_len [] 0 (ps.take k)
      have htk : (ps.take k).length ≤ ps.length := by rw [List.length_take]; exact Nat.min_le_right _ _
      have hl2 : (givenL [] 0 (ps.take k)).length < 100000 := by simp only [List.length_nil] at hll; omega
      have HL2 : Hid _ := hl2
      clear hat hp hA hK hcs hpm hll htk hl2
      go_wp2_with (go_at_call 28; refine (Pt.put_any w.heap.size (w.heap.size + 1 + 1) (w.heap.size + 1) (g0, g1, g2) _ 1 (p0, p1, p2) _ [(k : Int)] _ (Arg.below HA.out (bla _ _ _)) (wc_sm HPM.out) (isN_lit1 (nwa _ _ _)) HL2.out (by simp)).mono ?_; rintro e w2 ⟨rfl, hA2, hK2⟩; have HA2 : Hid _ := hA2; have HK2 : Hid _ := hK2; clear hA2 hK2)
      go_roundw
      case rel =>
        refine ⟨k + 1, by go_num, hlt, ?_, (HK.out.trans (Kt.of_below (bla _ _ _) (Arg.le HA.out))).trans HK2.out⟩
        have e := HA2.out
        rw [List.take_succ_eq_append_getElem hlt, givenL_snoc, HP.out, List.length_take, Nat.min_eq_left (Nat.le_of_lt hlt), Nat.zero_add]
        exact e
      case measure => simp [intOf]; omega
    · have ek : k = ps.length := by omega
      subst ek
      rw [List.take_length] at hA
      have HA : Hid _ := hA
      have HK : Hid _ := hK
      have hll := givenL_len [] 0 ps
      simp only [List.length_nil, Nat.zero_add] at hll
      obtain ⟨L0, hE⟩ : ∃ l, givenL [] 0 ps = l := ⟨_, rfl⟩
      rw [hE] at HA hll
      have HE : Hid (givenL [] 0 ps = L0) := hE
      clear hA hK hE hlt hk
      go_wp2_with (go_at_call 29; refine (literals_any _).mono ?_; rintro e w3 ⟨v3, rfl, hN3, hb3⟩; have HN3 : Hid _ := hN3; have HB3 : Hid _ := hb3; clear hN3 hb3; obtain ⟨av, kv, hv3, _⟩ := HN3.out; have e12 : lits.length = 12 := rfl; rw [e12] at hv3; subst hv3; clear e12)
      go_loopw [29] (fun iv wq => ∃ (k : Nat), iv = .int .i64 (k : Int) ∧ k ≤ 12 ∧ Arg w.heap.size wq (w.heap.size + 1 + 1) (w.heap.size + 1) (g0, g1, g2) ((lits.take k).foldl selfL L0) ∧ Kt w.heap.size w wq ∧ IsN wq (.slice av 12 kv) lits) (fun iv _ => 12 - (intOf iv).toNat)
      case atStart => exact ⟨0, rfl, Nat.zero_le _, Arg.below HA.out HB3.out, HK.out.trans (Kt.of_below HB3.out (Arg.le HA.out)), HN3.out⟩
      case round =>
        obtain ⟨k, rfl, hk, hA, hK, hN⟩ := hrel
        clear HA HK HN3 HB3
        by_cases hlt : k < 12
        · obtain ⟨a', c', hv', hcs⟩ := hN.cells
          have e12 : lits.length = 12 := rfl
          rw [e12] at hv'
          simp only [Value.slice.injEq, true_and] at hv'
          obtain ⟨rfl, rfl⟩ := hv'
          have q2 : decide ((k : Int) < 12) = true := by simp; omega
          obtain ⟨bl, ol, rfl, hbl, hcl⟩ := hcs.resolve_left (by decide)
          have d0 := hcl k hlt
          obtain ⟨x, hx⟩ : ∃ x, lits[k]'hlt = x := ⟨_, rfl⟩
          have hxs := lits_sm (hx ▸ List.getElem_mem hlt)
          rw [hx] at d0
          have HX : Hid (lits[k]'hlt = x) := hx
          have hLk := fold_len selfL_len (lits.take k) L0
          have htk : (lits.take k).length ≤ 12 := by rw [List.length_take]; exact Nat.min_le_right _ _
          obtain ⟨Lk, hE⟩ : ∃ l, (lits.take k).foldl selfL L0 = l := ⟨_, rfl⟩
          rw [hE] at hA hLk
          have HE2 : Hid ((lits.take k).foldl selfL L0 = Lk) := hE
          have HN : Hid (IsN wr (.slice (some ⟨bl, ol, none⟩) 12 kv) lits) := hN
          have HA : Hid (Arg w.heap.size wr (w.heap.size + 1 + 1) (w.heap.size + 1) (g0, g1, g2) Lk) := hA
          have HK : Hid (Kt w.heap.size w wr) := hK
          have hLk2 : Lk.length < 100000 := by omega
          have hsx : Sm (false, x, x) := ⟨⟨hxs.1, hxs.2⟩, hxs.1, hxs.2⟩
          have HSX : Hid _ := hsx
          clear hE hcs hcl hx hN hLk htk e12 hA hK hsx
          go_wp2_with (first | (go_at_call 30; refine (all_any _ _ _).mono ?_; rintro e w4 ⟨rfl, rfl⟩) | (go_at_call 28; refine (Pt.put_any w.heap.size (w.heap.size + 1 + 1) (w.heap.size + 1) (g0, g1, g2) Lk 2 (false, x, x) _ [] _ (Arg.below HA.out ((Below.refl _ _).alloc (Nat.le_refl _) _)) (wc_sm HSX.out) (isN_nil _) hLk2 (by simp)).mono ?_; rintro e w2 ⟨rfl, hA2, hK2⟩; have HA2 : Hid _ := hA2; have HK2 : Hid (Kt w.heap.size _ w2) := hK2; clear hA2 hK2))
          go_roundw
          case rel =>
            have hkk := (Kt.of_below ((Below.refl _ wr).alloc (Nat.le_refl _) _) (Arg.le HA.out)).trans HK2.out
            refine ⟨k + 1, by go_num, hlt, ?_, HK.out.trans hkk, hkk.isN HN.out⟩
            rw [fold_snoc L0 hlt, HX.out, HE2.out]
            exact HA2.out
          case measure => simp [intOf]; omega
        · have ek : k = 12 := by omega
          subst ek
          have HA : Hid (Arg w.heap.size wr (w.heap.size + 1 + 1) (w.heap.size + 1) (g0, g1, g2) (lits.foldl selfL L0)) := hA
          have HK : Hid (Kt w.heap.size w wr) := hK
          clear hA hK hN
          go_wp2
          go_ret
          refine ⟨w.heap.size + 1 + 1, w.heap.size + 1, rfl, ?_, HK.out.below⟩
          unfold begunL
          rw [HE.out]
          exact HA.out
end Go.Proofs.Ytcnanbimpajonaa.Bg
