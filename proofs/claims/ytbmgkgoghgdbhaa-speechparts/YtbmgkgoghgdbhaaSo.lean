/- proveFrom, on condition of what it calls for less: the tries. Condition: the sequent is small. -/
import Derived.Test.YtbmgkgoghgdbhaaSn
namespace Go.Proofs.Ytbmgkgoghgdbhaa.Te
open Go.RowKit

/-- a try that goes through -/
def Fd (ok : Nat → Prop) (D L : Nat → List Ty) (y : Ty) (t : Nat → Nat) (g : Ty) (n : Nat) : Prop := ok n ∧ E (D n) y ∧ ∃ h : t n < (L n).length, EH ((L n).take (t n)) (L n)[t n] ((L n).drop (t n + 1)) g
theorem fix_prop (p : Prop) : ∃ r : Bool, (r = true ↔ p) := by
  classical
  exact ⟨decide p, by simp⟩
theorem no_more {l : List Ty} {g : Ty} {k : Nat} {kd : Int} {r : Bool} {ok : Nat → Prop} {D L : Nat → List Ty} {y : Ty} {t : Nat → Nat} (hs : Sr l g k kd r ok D L y t) {n : Nat} (hz : ∀ n', 1 ≤ n' → n' < n → ¬ Fd ok D L y t g n') (hno : ¬ ok n) : r = false := by
  cases hr : r
  · rfl
  · obtain ⟨n', h1, h2, h3, h4⟩ := hs.res.1 hr
    by_cases h : n' < n
    · exact (hz n' h1 h ⟨h2, h3, h4⟩).elim
    · exact (hno (hs.down n n' (by omega) h2)).elim
/-- two proofs laid side by side -/
theorem pf_two {P : Nat → Prop} {w : World} {d e1 e2 b : Nat} {l : List Ty} {g : Ty} {a ag : Option Addr} {c cg : Nat} {st ix n : Int} {p1 p2 : Pf} {x1 x2 : Pl} (hl : LsAt P w d l a c) (hg : TyP P w d g ag cg) (h1 : i64B st) (h2 : i64B ix) (h3 : i64B n) (hb : P b)
    (hh : w.heap[b]? = some (.cells #[.int .i64 p1.step, .slice x1.la p1.left.length x1.lc, .int .i64 p1.goal.kind, .int .i64 p1.goal.n, .slice x1.ga p1.goal.kids.length x1.gc, .int .i64 p1.ix, .int .i64 p1.n, .slice x1.ka p1.kids.length x1.kc, .int .i64 p2.step, .slice x2.la p2.left.length x2.lc, .int .i64 p2.goal.kind, .int .i64 p2.goal.n, .slice x2.ga p2.goal.kids.length x2.gc, .int .i64 p2.ix, .int .i64 p2.n, .slice x2.ka p2.kids.length x2.kc] 37 (0, 0)))
    (hp1 : PfAt P w d e1 p1 x1) (hp2 : PfAt P w d e2 p2 x2) : PfAt P w d (e1 + e2 + 1) ⟨st, l, g, ix, n, [p1, p2]⟩ ⟨a, c, ag, cg, some ⟨b, 0, none⟩, 2⟩ := by
  refine ⟨h1, h2, h3, hl, hg, by simp, .inr ⟨b, 0, rfl, lt_of_get hh, hb, fun j hj => ?_⟩⟩
  have hj2 : j = 0 ∨ j = 1 := by simp at hj; omega
  rcases hj2 with rfl | rfl
  · exact ⟨x1, ⟨cell_of_row _ _ 0 _ _ _ hh, cell_of_row _ _ 1 _ _ _ hh, cell_of_row _ _ 2 _ _ _ hh, cell_of_row _ _ 3 _ _ _ hh, cell_of_row _ _ 4 _ _ _ hh, cell_of_row _ _ 5 _ _ _ hh, cell_of_row _ _ 6 _ _ _ hh, cell_of_row _ _ 7 _ _ _ hh⟩, hp1.upto (by omega)⟩
  · exact ⟨x2, ⟨cell_of_row _ _ 8 _ _ _ hh, cell_of_row _ _ 9 _ _ _ hh, cell_of_row _ _ 10 _ _ _ hh, cell_of_row _ _ 11 _ _ _ hh, cell_of_row _ _ 12 _ _ _ hh, cell_of_row _ _ 13 _ _ _ hh, cell_of_row _ _ 14 _ _ _ hh, cell_of_row _ _ 15 _ _ _ hh⟩, hp2.upto (by omega)⟩
/-- carried over, where P's blocks are as they were, and to other blocks -/
theorem PfAt.keep {P Q : Nat → Prop} {w w' : World} {d : Nat} (hs : w.heap.size ≤ w'.heap.size) (hk : ∀ g, g < w.heap.size → P g → Q g ∧ w'.heap[g]? = w.heap[g]?) : ∀ {e : Nat} {p : Pf} {x : Pl}, PfAt P w d e p x → PfAt Q w' d e p x := by
  intro e
  induction e with
  | zero => intro p x h; exact h.elim
  | succ e ih =>
    intro p x h
    obtain ⟨h1, h2, h3, h4, h5, h6, h⟩ := h
    refine ⟨h1, h2, h3, ⟨h4.1.keep hs hk, h4.2⟩, h5.keep hs hk, h6, ?_⟩
    rcases h with h | ⟨g, off, ha, hg, hPg, h⟩
    · exact .inl h
    · have q := hk g hg hPg
      refine .inr ⟨g, off, ha, by omega, q.1, fun j hj => ?_⟩
      obtain ⟨y, hc, ht⟩ := h j hj
      exact ⟨y, ⟨(cell_same q.2).trans hc.c0, (cell_same q.2).trans hc.c1, (cell_same q.2).trans hc.c2, (cell_same q.2).trans hc.c3, (cell_same q.2).trans hc.c4, (cell_same q.2).trans hc.c5, (cell_same q.2).trans hc.c6, (cell_same q.2).trans hc.c7⟩, ih ht⟩
theorem LsAt.keep {P Q : Nat → Prop} {w w' : World} {d : Nat} (hs : w.heap.size ≤ w'.heap.size) (hk : ∀ g, g < w.heap.size → P g → Q g ∧ w'.heap[g]? = w.heap[g]?) {l : List Ty} {a : Option Addr} {c : Nat} (h : LsAt P w d l a c) : LsAt Q w' d l a c := ⟨h.1.keep hs hk, h.2⟩
set_option maxRecDepth 100000 in
set_option maxHeartbeats 1500000 in
theorem from_loop {P : Nat → Prop} {d M : Nat} (l : List Ty) (a : Option Addr) (c : Nat) (b : Int) (ag : Option Addr) (cg k : Nat) (hk : k < l.length) (w : World) (r : Bool) (hM : szs l + 1 ≤ M) (hM2 : M ≤ 700) (hP : ∀ q, w.heap.size ≤ q → P q) (hl : LsAt P w d l a c) (hg : TyP P w d (bs b) ag cg) (gl : ∀ t ∈ l, Gp t) (gg : Gp (bs b))
    (kd : Int) (hkd : l[k].kind = kd) (hk1 : ¬ kd = 1) {ok : Nat → Prop} {D L : Nat → List Ty} {y : Ty} {t : Nat → Nat} (hs : Sr l (bs b) k kd r ok D L y t) (ihP : ∀ M', M' < M → ProveOk d M') (ihF : ∀ M', M' < M → FromOk d M') :
    Calls Try.prog 73 #[vsq l a c (bs b) ag cg, .int .i64 (k : Int)] w fun e w' => PrQ P d l (bs b) r w e w' := by
  have hle : l.length < 700 := by have := szs_len l; omega
  obtain ⟨ga, off, rfl, hga⟩ := hl.addr (by omega)
  obtain ⟨a', c', _, y0, _, _, _⟩ := hl.at (j := k) hk
  rw [hkd] at y0
  have hk' : (k : Int) < (l.length : Int) := by omega
  have b1 : (0 : Int) ≤ k ∧ (k : Int) < 700 := by omega
  have HL : Hid (LsAt P w d l (some ⟨ga, off, none⟩) c) := hl
  have HG : Hid (TyP P w d (bs b) ag cg) := hg
  have GL : Hid (∀ t ∈ l, Gp t) := gl
  have GG : Hid (Gp (bs b)) := gg
  have HS : Hid (Sr l (bs b) k kd r ok D L y t) := hs
  have HP : Hid (∀ q, w.heap.size ≤ q → P q) := hP
  have IP : Hid (∀ M', M' < M → ProveOk d M') := ihP
  have IF : Hid (∀ M', M' < M → FromOk d M') := ihF
  have HM : Hid (szs l + 1 ≤ M) := hM
  have HK : Hid (l[k].kind = kd) := hkd
  clear hl hg gl gg hs hP ihP ihF hM hM2 hkd
  unfold vsq
  rw [show (bs b).kind = 1 from rfl, show (bs b).n = b from rfl, show (bs b).kids.length = 0 from rfl]
  go_enter Try.func73, Try.ntmps73
  go_upto_region 1 with fail
  obtain ⟨x1, x2, hVs, hVb⟩ := two_boxes w (.cells #[.slice (some ⟨ga, off, none⟩) l.length c, .int .i64 1, .int .i64 b, .slice ag 0 cg] 79) (.cells #[.int .i64 0, .slice none 0 0, .int .i64 0, .int .i64 0, .slice none 0 0, .int .i64 0, .int .i64 0, .slice none 0 0] 37)
  generalize hV : (w.alloc (.cells #[.slice (some ⟨ga, off, none⟩) l.length c, .int .i64 1, .int .i64 b, .slice ag 0 cg] 79)).alloc (.cells #[.int .i64 0, .slice none 0 0, .int .i64 0, .int .i64 0, .slice none 0 0, .int .i64 0, .int .i64 0, .slice none 0 0] 37) = V at *
  clear hV
  have y0 := (hVb.cell (p := ⟨ga, _, none⟩) hga).trans y0
  have s0 := cell_of_row _ _ 0 _ _ _ x1
  have s1 := cell_of_row _ _ 1 _ _ _ x1
  have s2 := cell_of_row _ _ 2 _ _ _ x1
  have s3 := cell_of_row _ _ 3 _ _ _ x1
  go_wp2
  rw [show (kd == 1) = false from by simpa using hk1]
  clear s0 s1 s2 s3 y0
  go_loopw [9] (fun iv wr => ∃ n : Nat, iv = .int .i64 (n : Int) ∧ 1 ≤ n ∧ n ≤ l.length ∧ Below w.heap.size w wr ∧ wr.heap[w.heap.size]? = some (.cells #[.slice (some ⟨ga, off, none⟩) l.length c, .int .i64 1, .int .i64 b, .slice ag 0 cg] 79 (0, 0)) ∧ wr.heap[w.heap.size + 1]? = some (.cells #[.int .i64 0, .slice none 0 0, .int .i64 0, .int .i64 0, .slice none 0 0, .int .i64 0, .int .i64 0, .slice none 0 0] 37 (0, 0)) ∧ (∀ n', 1 ≤ n' → n' < n → ¬ Fd ok D L y t (bs b) n')) (fun iv _ => l.length - (intOf iv).toNat)
  case atStart => exact ⟨1, rfl, Nat.le_refl _, by omega, hVb, x1, x2, fun n' h1 h2 => by omega⟩
  case round =>
    obtain ⟨n, rfl, hn1, hnl, hB, z1, z2, hz⟩ := hrel
    have HZ : Hid (∀ n', 1 ≤ n' → n' < n → ¬ Fd ok D L y t (bs b) n') := hz
    clear hz x1 x2 hVb hVs
    have s0 := cell_of_row _ _ 0 _ _ _ z1
    have s1 := cell_of_row _ _ 1 _ _ _ z1
    have s2 := cell_of_row _ _ 2 _ _ _ z1
    have s3 := cell_of_row _ _ 3 _ _ _ z1
    by_cases hlt : n < l.length
    · have hlt' : (n : Int) < (l.length : Int) := by omega
      obtain ⟨st, ix, hst, is1, is2⟩ := takeK_is (l := l) (g := bs b) (k := k) (n := n) (kd := kd) (by omega) (by omega)
      have HST : Hid (∀ ks, takeK l (bs b) k n kd ks = ⟨st, l, bs b, ix, n, ks⟩) := hst
      have IS1 : Hid (i64B st) := is1
      have IS2 : Hid (i64B ix) := is2
      obtain ⟨th, hth⟩ : ∃ th, takeN k n kd = th := ⟨_, rfl⟩
      have HTH : Hid (takeN k n kd = th) := hth
      have K87 := take_any (P := P) (d := d) l (some ⟨ga, off, none⟩) c (bs b) ag cg k n wr (HL.out.below hB) hk (by omega) (by omega)
      rw [HK.out, hth, takeP_K, hst] at K87
      unfold TakeQ vpf vsq at K87
      dsimp only at K87
      rw [show (bs b).kind = 1 from rfl, show (bs b).n = b from rfl, show (bs b).kids.length = 0 from rfl, show ([] : List Pf).length = 0 from rfl] at K87
      clear hst is1 is2 hth
      go_upto_region 9 with (go_at_call 87; (with_reducible refine K87.mono ?_); rintro e1 w1 ⟨rfl, hb1⟩; clear K87)
      have hB1 := hB.trans (hb1.mono hB.size)
      have hb10 : Below w1.heap.size w1 (w1.alloc (.cells #[.int .i64 st, .slice (some ⟨ga, off, none⟩) l.length c, .int .i64 1, .int .i64 b, .slice ag 0 cg, .int .i64 ix, .int .i64 n, .slice none 0 0] 37)) := (Below.refl _ w1).alloc (Nat.le_refl _) _
      have hB2 := hB1.trans (hb10.mono hB1.size)
      have x3 := heap_alloc_new w1 (.cells #[.int .i64 st, .slice (some ⟨ga, off, none⟩) l.length c, .int .i64 1, .int .i64 b, .slice ag 0 cg, .int .i64 ix, .int .i64 n, .slice none 0 0] 37)
      have hszW : (w1.alloc (.cells #[.int .i64 st, .slice (some ⟨ga, off, none⟩) l.length c, .int .i64 1, .int .i64 b, .slice ag 0 cg, .int .i64 ix, .int .i64 n, .slice none 0 0] 37)).heap.size = w1.heap.size + 1 := by simp
      have z1 := ((hb1.trans (hb10.mono hb1.size)).block _ (lt_of_get z1)).trans z1
      have hlt10 : w.heap.size + 2 ≤ w1.heap.size := by have := lt_of_get z2; have := hb1.size; omega
      have z2 := ((hb1.trans (hb10.mono hb1.size)).block _ (lt_of_get z2)).trans z2
      generalize hV : w1.alloc (.cells #[.int .i64 st, .slice (some ⟨ga, off, none⟩) l.length c, .int .i64 1, .int .i64 b, .slice ag 0 cg, .int .i64 ix, .int .i64 n, .slice none 0 0] 37) = W1 at *
      clear hV s0 s1 s2 s3
      generalize w1.heap.size = b10 at *
      have K66 := bef_any (P := fun q => P q ∧ q ≠ w.heap.size + 1 ∧ q ≠ b10) (d := d) (e0 := 0) ⟨st, l, bs b, ix, n, []⟩ ⟨some ⟨ga, off, none⟩, c, ag, cg, none, 0⟩ W1 (pf_bare (HL.out.keep hB2.size (fun q hq hp => ⟨⟨hp, by omega, by omega⟩, hB2.block q hq⟩)) (HG.out.keep hB2.size (fun q hq hp => ⟨⟨hp, by omega, by omega⟩, hB2.block q hq⟩)) IS1.out IS2.out (by constructor <;> omega)) GL.out GG.out (by dsimp only; omega) (fun q hq => ⟨HP.out q (by omega), by omega, by omega⟩)
      unfold vpf at K66
      dsimp only at K66
      rw [show (bs b).kind = 1 from rfl, show (bs b).n = b from rfl, show (bs b).kids.length = 0 from rfl, show ([] : List Pf).length = 0 from rfl] at K66
      have m0 := cell_of_row _ _ 0 _ _ _ x3
      have m1 := cell_of_row _ _ 1 _ _ _ x3
      have m2 := cell_of_row _ _ 2 _ _ _ x3
      have m3 := cell_of_row _ _ 3 _ _ _ x3
      have m4 := cell_of_row _ _ 4 _ _ _ x3
      have m5 := cell_of_row _ _ 5 _ _ _ x3
      have m6 := cell_of_row _ _ 6 _ _ _ x3
      have m7 := cell_of_row _ _ 7 _ _ _ x3
      go_upto_region 10 with (go_at_call 66; (with_reducible refine K66.mono ?_); rintro e2 w2 ⟨v2, r2, rfl, hb2, hn2, hs2⟩; clear K66)
      clear m0 m1 m2 m3 m4 m5 m6 m7
      have hb2' := hB2.trans (hb2.mono hB2.size)
      have z1 := (hb2.block _ (lt_of_get z1)).trans z1
      have z2 := (hb2.block _ (lt_of_get z2)).trans z2
      have x3 := (hb2.block _ (lt_of_get x3)).trans x3
      have hs2' := hb2.size
      by_cases hok : ok n
      · obtain ⟨hr2, hsq⟩ := hs2 _ ((congrArg bef (HST.out []).symm).trans (HS.out.some n [] hn1 hok))
        subst hr2
        obtain ⟨bq, hv2, hq⟩ := hsq
        rw [show ([(D n, y), (L n, bs b)] : List (List Ty × Ty)).length = 2 from rfl] at hv2
        subst hv2
        rcases hq with hq | ⟨gq, rfl, hgq, hqq⟩
        · simp at hq
        obtain ⟨a1, c1, ay, cy, C1, hl1, hty1⟩ := hqq 0 (by simp)
        obtain ⟨a2, c2, ag2, cg2, C2, hl2, htg2⟩ := hqq 1 (by simp)
        simp only [List.getElem_cons_zero, List.getElem_cons_succ, Nat.zero_mul, Nat.one_mul] at C1 hl1 hty1 C2 hl2 htg2
        have d0 : w2.cell? ⟨gq, 0, none⟩ = some (.slice a1 (D n).length c1) := C1.c0
        have d1 : w2.cell? ⟨gq, 1, none⟩ = some (.int .i64 y.kind) := C1.c1
        have d2 : w2.cell? ⟨gq, 2, none⟩ = some (.int .i64 y.n) := C1.c2
        have d3 : w2.cell? ⟨gq, 3, none⟩ = some (.slice ay y.kids.length cy) := C1.c3
        have d4 : w2.cell? ⟨gq, 4, none⟩ = some (.slice a2 (L n).length c2) := C2.c0
        have d5 : w2.cell? ⟨gq, 5, none⟩ = some (.int .i64 1) := C2.c1
        have d6 : w2.cell? ⟨gq, 6, none⟩ = some (.int .i64 b) := C2.c2
        have d7 : w2.cell? ⟨gq, 7, none⟩ = some (.slice ag2 0 cg2) := C2.c3
        have HOK : Hid (ok n) := hok
        obtain ⟨r3, hr3⟩ := fix_prop (E (D n) y)
        have HR3 : Hid (r3 = true ↔ E (D n) y) := hr3
        have hsd := HS.out.sd n hok
        have K54 := IP.out (szs (D n) + sz y) (by have := HM.out; omega) (fun q => P q ∧ q ≠ w.heap.size + 1 ∧ q ≠ b10) (D n) a1 c1 y ay cy w2 r3 (Nat.le_refl _) (fun q hq => ⟨HP.out q (by omega), by omega, by omega⟩) hl1 hty1 (HS.out.gd n hok) HS.out.gy (HS.out.ne n hn1 hok) hr3
        have HL2 : Hid (LsAt (fun q => P q ∧ q ≠ w.heap.size + 1 ∧ q ≠ b10) w2 d (L n) a2 c2) := hl2
        have HT2 : Hid (TyP (fun q => P q ∧ q ≠ w.heap.size + 1 ∧ q ≠ b10) w2 d (bs b) ag2 cg2) := htg2
        unfold vsq at K54
        clear hl1 hty1 hl2 htg2 C1 C2 hqq hn2 hs2 hr3 hok hsd
        go_upto_region 12 with (go_at_call 54; (with_reducible refine K54.mono ?_); rintro e3 w3 ⟨p3, q3, rfl, hb3, hg3⟩; clear K54; unfold vpf)
        have x14 := heap_alloc_new w3 (.cells #[.int .i64 p3.step, .slice q3.la p3.left.length q3.lc, .int .i64 p3.goal.kind, .int .i64 p3.goal.n, .slice q3.ga p3.goal.kids.length q3.gc, .int .i64 p3.ix, .int .i64 p3.n, .slice q3.ka p3.kids.length q3.kc] 37)
        have hb14 : Below w3.heap.size w3 (w3.alloc (.cells #[.int .i64 p3.step, .slice q3.la p3.left.length q3.lc, .int .i64 p3.goal.kind, .int .i64 p3.goal.n, .slice q3.ga p3.goal.kids.length q3.gc, .int .i64 p3.ix, .int .i64 p3.n, .slice q3.ka p3.kids.length q3.kc] 37)) := (Below.refl _ w3).alloc (Nat.le_refl _) _
        have hs14 : (w3.alloc (.cells #[.int .i64 p3.step, .slice q3.la p3.left.length q3.lc, .int .i64 p3.goal.kind, .int .i64 p3.goal.n, .slice q3.ga p3.goal.kids.length q3.gc, .int .i64 p3.ix, .int .i64 p3.n, .slice q3.ka p3.kids.length q3.kc] 37)).heap.size = w3.heap.size + 1 := by simp
        have hbW := hb3.trans (hb14.mono hb3.size)
        have hB3 := hb2'.trans (hbW.mono hb2'.size)
        have z1 := (hbW.block _ (lt_of_get z1)).trans z1
        have z2 := (hbW.block _ (lt_of_get z2)).trans z2
        have x3 := (hbW.block _ (lt_of_get x3)).trans x3
        have d4 := (hbW.cell (p := ⟨gq, 4, none⟩) hgq).trans d4
        have d5 := (hbW.cell (p := ⟨gq, 5, none⟩) hgq).trans d5
        have d6 := (hbW.cell (p := ⟨gq, 6, none⟩) hgq).trans d6
        have d7 := (hbW.cell (p := ⟨gq, 7, none⟩) hgq).trans d7
        have HG3 : Hid (r3 = true → ∃ e0, PfAt (fun q => P q ∧ q ≠ w.heap.size + 1 ∧ q ≠ b10) w3 d e0 p3 q3 ∧ Good (D n) y p3) := hg3
        have hs3 := hb3.size
        clear hg3 d0 d1 d2 d3
        generalize hV : w3.alloc (.cells #[.int .i64 p3.step, .slice q3.la p3.left.length q3.lc, .int .i64 p3.goal.kind, .int .i64 p3.goal.n, .slice q3.ga p3.goal.kids.length q3.gc, .int .i64 p3.ix, .int .i64 p3.n, .slice q3.ka p3.kids.length q3.kc] 37) = W3 at *
        clear hV
        cases r3 with
        | false =>
          go_wp2_with fail
          go_roundw
          case rel =>
            refine ⟨n + 1, by go_num, by omega, by omega, hB3, z1, z2, fun n' h1 h2 hf => ?_⟩
            by_cases hnn : n' < n
            · exact HZ.out n' h1 hnn hf
            · obtain rfl : n' = n := by omega
              have := HR3.out.2 hf.2.1
              cases this
          case measure => simp [intOf]; omega
        | true =>
          obtain ⟨hth1, hth2⟩ := HS.out.thn n hn1 HOK.out
          obtain rfl : th = (t n : Int) := HTH.out.symm.trans hth1
          obtain ⟨r4, hr4⟩ := fix_prop (EH ((L n).take (t n)) (L n)[t n] ((L n).drop (t n + 1)) (bs b))
          have HR4 : Hid (r4 = true ↔ EH ((L n).take (t n)) (L n)[t n] ((L n).drop (t n + 1)) (bs b)) := hr4
          have hsl := HS.out.sl n HOK.out
          have K73 := IF.out (szs (L n) + 1) (by have := HM.out; omega) (fun q => P q ∧ q ≠ w.heap.size + 1 ∧ q ≠ b10) (L n) a2 c2 b ag2 cg2 (t n) hth2 W3 r4 (Nat.le_refl _) (fun q hq => ⟨HP.out q (by omega), by omega, by omega⟩) (HL2.out.below hbW) (HT2.out.below hbW) (HS.out.gl n HOK.out) GG.out hr4
          unfold vsq at K73
          rw [show (bs b).kind = 1 from rfl, show (bs b).n = b from rfl, show (bs b).kids.length = 0 from rfl] at K73
          have HTL : Hid (t n < (L n).length) := hth2
          clear hr4 hsl hth1
          go_upto_region 14 with (go_at_call 73; (with_reducible refine K73.mono ?_); rintro e4 w4 ⟨p4, q4, rfl, hb4, hg4⟩; clear K73; unfold vpf)
          have x15 := heap_alloc_new w4 (.cells #[.int .i64 p4.step, .slice q4.la p4.left.length q4.lc, .int .i64 p4.goal.kind, .int .i64 p4.goal.n, .slice q4.ga p4.goal.kids.length q4.gc, .int .i64 p4.ix, .int .i64 p4.n, .slice q4.ka p4.kids.length q4.kc] 37)
          have hb15 : Below w4.heap.size w4 (w4.alloc (.cells #[.int .i64 p4.step, .slice q4.la p4.left.length q4.lc, .int .i64 p4.goal.kind, .int .i64 p4.goal.n, .slice q4.ga p4.goal.kids.length q4.gc, .int .i64 p4.ix, .int .i64 p4.n, .slice q4.ka p4.kids.length q4.kc] 37)) := (Below.refl _ w4).alloc (Nat.le_refl _) _
          have hs15 : (w4.alloc (.cells #[.int .i64 p4.step, .slice q4.la p4.left.length q4.lc, .int .i64 p4.goal.kind, .int .i64 p4.goal.n, .slice q4.ga p4.goal.kids.length q4.gc, .int .i64 p4.ix, .int .i64 p4.n, .slice q4.ka p4.kids.length q4.kc] 37)).heap.size = w4.heap.size + 1 := by simp
          have hbX := hb4.trans (hb15.mono hb4.size)
          have hB4 := hB3.trans (hbX.mono hB3.size)
          have z1 := (hbX.block _ (lt_of_get z1)).trans z1
          have z2 := (hbX.block _ (lt_of_get z2)).trans z2
          have x3 := (hbX.block _ (lt_of_get x3)).trans x3
          have x14 := (hbX.block _ (lt_of_get x14)).trans x14
          have HG4 : Hid (r4 = true → ∃ e0, PfAt (fun q => P q ∧ q ≠ w.heap.size + 1 ∧ q ≠ b10) w4 d e0 p4 q4 ∧ Good (L n) (bs b) p4) := hg4
          have hs4 := hb4.size
          clear hg4 d4 d5 d6 d7
          generalize hV : w4.alloc (.cells #[.int .i64 p4.step, .slice q4.la p4.left.length q4.lc, .int .i64 p4.goal.kind, .int .i64 p4.goal.n, .slice q4.ga p4.goal.kids.length q4.gc, .int .i64 p4.ix, .int .i64 p4.n, .slice q4.ka p4.kids.length q4.kc] 37) = W4 at *
          clear hV
          cases r4 with
          | false =>
            go_wp2_with fail
            go_roundw
            case rel =>
              refine ⟨n + 1, by go_num, by omega, by omega, hB4, z1, z2, fun n' h1 h2 hf => ?_⟩
              by_cases hnn : n' < n
              · exact HZ.out n' h1 hnn hf
              · obtain rfl : n' = n := by omega
                have := HR4.out.2 hf.2.2.2
                cases this
            case measure => simp [intOf]; omega
          | true =>
            obtain ⟨e3', hp3, good3⟩ := HG3.out (by trivial)
            obtain ⟨e4', hp4, good4⟩ := HG4.out (by trivial)
            have HP3 : Hid (PfAt (fun q => P q ∧ q ≠ w.heap.size + 1 ∧ q ≠ b10) w3 d e3' p3 q3) := hp3
            have HP4 : Hid (PfAt (fun q => P q ∧ q ≠ w.heap.size + 1 ∧ q ≠ b10) w4 d e4' p4 q4) := hp4
            have HGG : Hid (Good l (bs b) ⟨st, l, bs b, ix, n, [p3, p4]⟩) := by
              have := good_two (fun ks => HS.out.some n ks hn1 HOK.out) good3 good4
              rw [HST.out] at this
              exact this
            have hr : r = true := HS.out.res.2 ⟨n, hn1, HOK.out, HR3.out.1 (by trivial), HTL.out, HR4.out.1 (by trivial)⟩
            clear hp3 hp4 good3 good4
            have v0 := cell_of_row _ _ 0 _ _ _ x14
            have v1 := cell_of_row _ _ 1 _ _ _ x14
            have v2 := cell_of_row _ _ 2 _ _ _ x14
            have v3 := cell_of_row _ _ 3 _ _ _ x14
            have v4 := cell_of_row _ _ 4 _ _ _ x14
            have v5 := cell_of_row _ _ 5 _ _ _ x14
            have v6 := cell_of_row _ _ 6 _ _ _ x14
            have v7 := cell_of_row _ _ 7 _ _ _ x14
            have o0 := cell_of_row _ _ 0 _ _ _ x15
            have o1 := cell_of_row _ _ 1 _ _ _ x15
            have o2 := cell_of_row _ _ 2 _ _ _ x15
            have o3 := cell_of_row _ _ 3 _ _ _ x15
            have o4 := cell_of_row _ _ 4 _ _ _ x15
            have o5 := cell_of_row _ _ 5 _ _ _ x15
            have o6 := cell_of_row _ _ 6 _ _ _ x15
            have o7 := cell_of_row _ _ 7 _ _ _ x15
            have hb16 : Below W4.heap.size W4 (W4.alloc (.cells #[.int .i64 p3.step, .slice q3.la p3.left.length q3.lc, .int .i64 p3.goal.kind, .int .i64 p3.goal.n, .slice q3.ga p3.goal.kids.length q3.gc, .int .i64 p3.ix, .int .i64 p3.n, .slice q3.ka p3.kids.length q3.kc, .int .i64 p4.step, .slice q4.la p4.left.length q4.lc, .int .i64 p4.goal.kind, .int .i64 p4.goal.n, .slice q4.ga p4.goal.kids.length q4.gc, .int .i64 p4.ix, .int .i64 p4.n, .slice q4.ka p4.kids.length q4.kc] 37)) := (Below.refl _ W4).alloc (Nat.le_refl _) _
            have x16 := heap_alloc_new W4 (.cells #[.int .i64 p3.step, .slice q3.la p3.left.length q3.lc, .int .i64 p3.goal.kind, .int .i64 p3.goal.n, .slice q3.ga p3.goal.kids.length q3.gc, .int .i64 p3.ix, .int .i64 p3.n, .slice q3.ka p3.kids.length q3.kc, .int .i64 p4.step, .slice q4.la p4.left.length q4.lc, .int .i64 p4.goal.kind, .int .i64 p4.goal.n, .slice q4.ga p4.goal.kids.length q4.gc, .int .i64 p4.ix, .int .i64 p4.n, .slice q4.ka p4.kids.length q4.kc] 37)
            have y3 := (hb16.block _ (lt_of_get x3)).trans x3
            have g7 := cell_of_row _ _ 7 _ _ _ y3
            have k7 := frozen_of_row _ _ 7 _ 37 y3
            have HY3 : Hid _ := y3
            have HX16 : Hid _ := x16
            have HS15 : Hid (W4.heap.size = w4.heap.size + 1) := hs15
            clear y3 x16 hs15
            go_upto_region 16 with fail
            have y3 := HY3.out
            have x16 := HX16.out
            clear HY3 HX16
            have y2 := (hb16.block _ (lt_of_get z2)).trans z2
            have h7 := heap_setCell_same _ b10 7 _ 37 (.slice (some ⟨W4.heap.size, 0, none⟩) 2 2) y3
            have ko : ∀ q, q ≠ b10 → ((W4.alloc (.cells #[.int .i64 p3.step, .slice q3.la p3.left.length q3.lc, .int .i64 p3.goal.kind, .int .i64 p3.goal.n, .slice q3.ga p3.goal.kids.length q3.gc, .int .i64 p3.ix, .int .i64 p3.n, .slice q3.ka p3.kids.length q3.kc, .int .i64 p4.step, .slice q4.la p4.left.length q4.lc, .int .i64 p4.goal.kind, .int .i64 p4.goal.n, .slice q4.ga p4.goal.kids.length q4.gc, .int .i64 p4.ix, .int .i64 p4.n, .slice q4.ka p4.kids.length q4.kc] 37)).setCell ⟨b10, 7, none⟩ (.slice (some ⟨W4.heap.size, 0, none⟩) 2 2)).heap[q]? = (W4.alloc (.cells #[.int .i64 p3.step, .slice q3.la p3.left.length q3.lc, .int .i64 p3.goal.kind, .int .i64 p3.goal.n, .slice q3.ga p3.goal.kids.length q3.gc, .int .i64 p3.ix, .int .i64 p3.n, .slice q3.ka p3.kids.length q3.kc, .int .i64 p4.step, .slice q4.la p4.left.length q4.lc, .int .i64 p4.goal.kind, .int .i64 p4.goal.n, .slice q4.ga p4.goal.kids.length q4.gc, .int .i64 p4.ix, .int .i64 p4.n, .slice q4.ka p4.kids.length q4.kc] 37)).heap[q]? := fun q hq => heap_setCell_other _ _ _ _ hq
            have hrow : ((W4.alloc (.cells #[.int .i64 p3.step, .slice q3.la p3.left.length q3.lc, .int .i64 p3.goal.kind, .int .i64 p3.goal.n, .slice q3.ga p3.goal.kids.length q3.gc, .int .i64 p3.ix, .int .i64 p3.n, .slice q3.ka p3.kids.length q3.kc, .int .i64 p4.step, .slice q4.la p4.left.length q4.lc, .int .i64 p4.goal.kind, .int .i64 p4.goal.n, .slice q4.ga p4.goal.kids.length q4.gc, .int .i64 p4.ix, .int .i64 p4.n, .slice q4.ka p4.kids.length q4.kc] 37)).setCell ⟨b10, 7, none⟩ (.slice (some ⟨W4.heap.size, 0, none⟩) 2 2)).heap[b10]? = some (.cells #[.int .i64 st, .slice (some ⟨ga, off, none⟩) l.length c, .int .i64 1, .int .i64 b, .slice ag 0 cg, .int .i64 ix, .int .i64 n, .slice (some ⟨W4.heap.size, 0, none⟩) 2 2] 37 (0, 0)) := by simpa using h7
            have hl10 : b10 < W4.heap.size := lt_of_get x3
            have u16 := (ko W4.heap.size (by omega)).trans x16
            have u2 := (ko (w.heap.size + 1) (by omega)).trans y2
            have hBU := (hB4.trans (hb16.mono hB4.size)).setCell (p := ⟨b10, 7, none⟩) (by show w.heap.size ≤ b10; omega) (.slice (some ⟨W4.heap.size, 0, none⟩) 2 2)
            have kU : ∀ q, q < W4.heap.size → q ≠ b10 → ((W4.alloc (.cells #[.int .i64 p3.step, .slice q3.la p3.left.length q3.lc, .int .i64 p3.goal.kind, .int .i64 p3.goal.n, .slice q3.ga p3.goal.kids.length q3.gc, .int .i64 p3.ix, .int .i64 p3.n, .slice q3.ka p3.kids.length q3.kc, .int .i64 p4.step, .slice q4.la p4.left.length q4.lc, .int .i64 p4.goal.kind, .int .i64 p4.goal.n, .slice q4.ga p4.goal.kids.length q4.gc, .int .i64 p4.ix, .int .i64 p4.n, .slice q4.ka p4.kids.length q4.kc] 37)).setCell ⟨b10, 7, none⟩ (.slice (some ⟨W4.heap.size, 0, none⟩) 2 2)).heap[q]? = W4.heap[q]? := fun q hq hn => (ko q hn).trans (hb16.block q hq)
            have sU : ((W4.alloc (.cells #[.int .i64 p3.step, .slice q3.la p3.left.length q3.lc, .int .i64 p3.goal.kind, .int .i64 p3.goal.n, .slice q3.ga p3.goal.kids.length q3.gc, .int .i64 p3.ix, .int .i64 p3.n, .slice q3.ka p3.kids.length q3.kc, .int .i64 p4.step, .slice q4.la p4.left.length q4.lc, .int .i64 p4.goal.kind, .int .i64 p4.goal.n, .slice q4.ga p4.goal.kids.length q4.gc, .int .i64 p4.ix, .int .i64 p4.n, .slice q4.ka p4.kids.length q4.kc] 37)).setCell ⟨b10, 7, none⟩ (.slice (some ⟨W4.heap.size, 0, none⟩) 2 2)).heap.size = W4.heap.size + 1 := by simp
            clear h7 ko v0 v1 v2 v3 v4 v5 v6 v7 o0 o1 o2 o3 o4 o5 o6 o7 g7 k7 y2 y3
            generalize hV : (W4.alloc (.cells #[.int .i64 p3.step, .slice q3.la p3.left.length q3.lc, .int .i64 p3.goal.kind, .int .i64 p3.goal.n, .slice q3.ga p3.goal.kids.length q3.gc, .int .i64 p3.ix, .int .i64 p3.n, .slice q3.ka p3.kids.length q3.kc, .int .i64 p4.step, .slice q4.la p4.left.length q4.lc, .int .i64 p4.goal.kind, .int .i64 p4.goal.n, .slice q4.ga p4.goal.kids.length q4.gc, .int .i64 p4.ix, .int .i64 p4.n, .slice q4.ka p4.kids.length q4.kc] 37)).setCell ⟨b10, 7, none⟩ (.slice (some ⟨W4.heap.size, 0, none⟩) 2 2) = U at *
            clear hV
            have hB16 : w.heap.size ≤ W4.heap.size := hB4.size
            generalize hb16e : W4.heap.size = b16 at *
            have zp0 := cell_of_row _ _ 0 _ _ _ hrow
            have zp1 := cell_of_row _ _ 1 _ _ _ hrow
            have zp2 := cell_of_row _ _ 2 _ _ _ hrow
            have zp3 := cell_of_row _ _ 3 _ _ _ hrow
            have zp4 := cell_of_row _ _ 4 _ _ _ hrow
            have zp5 := cell_of_row _ _ 5 _ _ _ hrow
            have zp6 := cell_of_row _ _ 6 _ _ _ hrow
            have zp7 := cell_of_row _ _ 7 _ _ _ hrow
            have zq0 := cell_of_row _ _ 0 _ _ _ u2
            have zq1 := cell_of_row _ _ 1 _ _ _ u2
            have zq2 := cell_of_row _ _ 2 _ _ _ u2
            have zq3 := cell_of_row _ _ 3 _ _ _ u2
            have zq4 := cell_of_row _ _ 4 _ _ _ u2
            have zq5 := cell_of_row _ _ 5 _ _ _ u2
            have zq6 := cell_of_row _ _ 6 _ _ _ u2
            have zq7 := cell_of_row _ _ 7 _ _ _ u2
            have ze0 := frozen_of_row _ _ 0 _ 37 u2
            have ze1 := frozen_of_row _ _ 1 _ 37 u2
            have ze2 := frozen_of_row _ _ 2 _ 37 u2
            have ze3 := frozen_of_row _ _ 3 _ 37 u2
            have ze4 := frozen_of_row _ _ 4 _ 37 u2
            have ze5 := frozen_of_row _ _ 5 _ 37 u2
            have ze6 := frozen_of_row _ _ 6 _ 37 u2
            have ze7 := frozen_of_row _ _ 7 _ 37 u2
            go_wp2_with fail
            refine bodyPost_ret (results_37 rfl _ _ (w.heap.size + 1) _ rfl (laid8 u2 _ _ _ _ _ _ _ _) rfl) rfl ?_
            have hs4' := HS15.out
            have hF := below8 hBU (b := w.heap.size + 1) (by omega) (.int .i64 st) (.slice (some ⟨ga, off, none⟩) l.length c) (.int .i64 1) (.int .i64 b) (.slice ag 0 cg) (.int .i64 ix) (.int .i64 n) (.slice (some ⟨b16, 0, none⟩) 2 2)
            have kF := ko8 U (w.heap.size + 1) (.int .i64 st) (.slice (some ⟨ga, off, none⟩) l.length c) (.int .i64 1) (.int .i64 b) (.slice ag 0 cg) (.int .i64 ix) (.int .i64 n) (.slice (some ⟨b16, 0, none⟩) 2 2)
            have hFs := hF.size
            have sF : U.heap.size = ((((((((U.setCell ⟨w.heap.size + 1, 0, none⟩ (.int .i64 st)).setCell ⟨w.heap.size + 1, 1, none⟩ (.slice (some ⟨ga, off, none⟩) l.length c)).setCell ⟨w.heap.size + 1, 2, none⟩ (.int .i64 1)).setCell ⟨w.heap.size + 1, 3, none⟩ (.int .i64 b)).setCell ⟨w.heap.size + 1, 4, none⟩ (.slice ag 0 cg)).setCell ⟨w.heap.size + 1, 5, none⟩ (.int .i64 ix)).setCell ⟨w.heap.size + 1, 6, none⟩ (.int .i64 n)).setCell ⟨w.heap.size + 1, 7, none⟩ (.slice (some ⟨b16, 0, none⟩) 2 2)).heap.size := by simp
            generalize (((((((U.setCell ⟨w.heap.size + 1, 0, none⟩ (.int .i64 st)).setCell ⟨w.heap.size + 1, 1, none⟩ (.slice (some ⟨ga, off, none⟩) l.length c)).setCell ⟨w.heap.size + 1, 2, none⟩ (.int .i64 1)).setCell ⟨w.heap.size + 1, 3, none⟩ (.int .i64 b)).setCell ⟨w.heap.size + 1, 4, none⟩ (.slice ag 0 cg)).setCell ⟨w.heap.size + 1, 5, none⟩ (.int .i64 ix)).setCell ⟨w.heap.size + 1, 6, none⟩ (.int .i64 n)).setCell ⟨w.heap.size + 1, 7, none⟩ (.slice (some ⟨b16, 0, none⟩) 2 2) = F at *
            subst hr
            refine ⟨⟨st, l, bs b, ix, n, [p3, p4]⟩, ⟨some ⟨ga, off, none⟩, c, ag, cg, some ⟨b16, 0, none⟩, 2⟩, by rfl, hF, fun _ => ⟨e3' + e4' + 1, ?_, HGG.out⟩⟩
            refine pf_two (HL.out.below hF) (HG.out.below hF) IS1.out IS2.out (by constructor <;> omega) (HP.out _ (by omega)) ((kF b16 (by omega)).trans u16) ?_ ?_
            · exact HP3.out.keep (by omega) (fun q hq hp => ⟨hp.1, (kF q hp.2.1).trans ((kU q (by omega) hp.2.2).trans ((hbX.block q (by omega)).trans (hb14.block q hq)))⟩)
            · exact HP4.out.keep (by omega) (fun q hq hp => ⟨hp.1, (kF q hp.2.1).trans ((kU q (by omega) hp.2.2).trans (hb15.block q hq))⟩)
      · have hr2 := hn2 ((congrArg bef (HST.out []).symm).trans (HS.out.none n [] hn1 hok))
        subst hr2
        have HRF : r = false := no_more HS.out HZ.out hok
        clear hs2 hn2
        have q0 := cell_of_row _ _ 0 _ _ _ z2
        have q1 := cell_of_row _ _ 1 _ _ _ z2
        have q2 := cell_of_row _ _ 2 _ _ _ z2
        have q3 := cell_of_row _ _ 3 _ _ _ z2
        have q4 := cell_of_row _ _ 4 _ _ _ z2
        have q5 := cell_of_row _ _ 5 _ _ _ z2
        have q6 := cell_of_row _ _ 6 _ _ _ z2
        have q7 := cell_of_row _ _ 7 _ _ _ z2
        have e0 := frozen_of_row _ _ 0 _ 37 z2
        have e1 := frozen_of_row _ _ 1 _ 37 z2
        have e2 := frozen_of_row _ _ 2 _ 37 z2
        have e3 := frozen_of_row _ _ 3 _ 37 z2
        have e4 := frozen_of_row _ _ 4 _ 37 z2
        have e5 := frozen_of_row _ _ 5 _ 37 z2
        have e6 := frozen_of_row _ _ 6 _ 37 z2
        have e7 := frozen_of_row _ _ 7 _ 37 z2
        go_wp2_with fail
        refine bodyPost_ret (results_37 rfl _ _ (w.heap.size + 1) _ rfl (laid8 z2 _ _ _ _ _ _ _ _) rfl) rfl ?_
        subst HRF
        exact prQ_false (below8 hb2' (by omega) _ _ _ _ _ _ _ _) ⟨0, [], ⟨0, 0, []⟩, 0, 0, []⟩ ⟨none, 0, none, 0, none, 0⟩ rfl
    · have hlt' : ¬ (n : Int) < (l.length : Int) := by omega
      have HRF : r = false := no_more HS.out HZ.out (fun h => hlt (HS.out.len n h))
      have q0 := cell_of_row _ _ 0 _ _ _ z2
      have q1 := cell_of_row _ _ 1 _ _ _ z2
      have q2 := cell_of_row _ _ 2 _ _ _ z2
      have q3 := cell_of_row _ _ 3 _ _ _ z2
      have q4 := cell_of_row _ _ 4 _ _ _ z2
      have q5 := cell_of_row _ _ 5 _ _ _ z2
      have q6 := cell_of_row _ _ 6 _ _ _ z2
      have q7 := cell_of_row _ _ 7 _ _ _ z2
      have e0 := frozen_of_row _ _ 0 _ 37 z2
      have e1 := frozen_of_row _ _ 1 _ 37 z2
      have e2 := frozen_of_row _ _ 2 _ 37 z2
      have e3 := frozen_of_row _ _ 3 _ 37 z2
      have e4 := frozen_of_row _ _ 4 _ 37 z2
      have e5 := frozen_of_row _ _ 5 _ 37 z2
      have e6 := frozen_of_row _ _ 6 _ 37 z2
      have e7 := frozen_of_row _ _ 7 _ 37 z2
      go_wp2_with fail
      refine bodyPost_ret (results_37 rfl _ _ (w.heap.size + 1) _ rfl (laid8 z2 _ _ _ _ _ _ _ _) rfl) rfl ?_
      subst HRF
      exact prQ_false (below8 hB (by omega) _ _ _ _ _ _ _ _) ⟨0, [], ⟨0, 0, []⟩, 0, 0, []⟩ ⟨none, 0, none, 0, none, 0⟩ rfl
end Go.Proofs.Ytbmgkgoghgdbhaa.Te
