/- partsCopy, partCopy: what they hand back lies in new blocks. Condition: there are at most 1000 parts in it. -/
import Derived.Test.YtbmgkgoghgdbhaaSv
namespace Go.Proofs.Ytbmgkgoghgdbhaa.Te
open Go.RowKit

theorem wpList_at {w : World} {ops : Array Oper} {rest : List Oper} {o : Oper} {a : Act} {Q : Exit → Act → World → Prop} (hgd : o.guard = none) (s x : Operand)
    (ho : o.op = .call { callee := .builtin .append, args := #[s, x], argTypes := #[22, 22] })
    (base : Nat) (v : Value) (n : Nat) (xs : List Value) (hs : a.eval s = v) (hown : w.ownsRow base 24 3 v n xs)
    (ad : Addr) (news : List Value) (hx : a.eval x = .slice (some ad) 1 1) (hl : news.length = 1 * 3) (hnews : ∀ j u, news[j]? = some u → w.cell? (ad.add j) = some u) (h1 : ∀ u ∈ news, u.oneCell' = true) (hle : n + 1 ≤ 1000) (hbase : base ≤ w.heap.size)
    (h : ∀ v' w', w'.ownsRow base 24 3 v' (n + 1) (xs ++ news) → w.grownBy w' v.ownBlock → (v'.ownBlock = v.ownBlock ∨ v'.ownBlock = some w.heap.size) → wpList Try.prog ops Q rest (a.put o.dst v') w') : wpList Try.prog ops Q (o :: rest) a w := by
  refine wpList_plain hgd fun K hK => ?_
  obtain ⟨i0, hi, hz0, hz1, hz2⟩ := info_parts info24
  obtain ⟨v', w', hr, h2, h3, h4, h5⟩ := run_append_own_at (P := Try.prog) w base 22 o.type 24 i0 _ 3 40 Try.underlying22 hi hz0 hz1 hz2 rfl (by decide) v n xs hown ad 1 1 news hl hnews h1 (by unfold maxLen; omega) (by omega) hbase
  unfold Oper.wp execOp
  simp only [ho, resolve, invoke, builtin, Sem.run_bind, Sem.run_pure, Result.andThen_ok, List.map_toArray, List.map_cons, List.map_nil, hs, hx, hr]
  exact hK _ _ (h v' w' h2 h3 h5)
/-- what is copied so far -/
structure Cy (w : World) (d : Nat) (l : List Ty) (j : Nat) (v : Value) (wr : World) : Prop where
  bel : Below w.heap.size w wr
  row : ∃ xs, wr.ownsRow w.heap.size 24 3 v j xs ∧ RowOf (fun g => w.heap.size ≤ g ∧ some g ≠ v.ownBlock) wr d l j xs
theorem Cy.push {w : World} {d : Nat} {l : List Ty} {j : Nat} {v v' : Value} {wr w5 W6 : World} {xs : List Value} {o : Obj} {B : Nat} (hbel : Below w.heap.size w wr) (hown : wr.ownsRow w.heap.size 24 3 v j xs) (hrow : RowOf (fun g => w.heap.size ≤ g ∧ some g ≠ v.ownBlock) wr d l j xs) (hb5 : Below wr.heap.size wr w5) (hB : wr.heap.size ≤ B) (hj : j < l.length) {a2 : Option Addr} {c2 : Nat} (ht : TyP (fun g => B ≤ g) w5 d l[j] a2 c2)
    (ho6 : W6.ownsRow w.heap.size 24 3 v' (j + 1) (xs ++ tyc l[j] a2 c2)) (hg6 : (w5.alloc o).grownBy W6 v.ownBlock) (hat : v'.ownBlock = v.ownBlock ∨ v'.ownBlock = some (w5.alloc o).heap.size) : Cy w d l (j + 1) v' W6 := by
  have hs5 : (w5.alloc o).heap.size = w5.heap.size + 1 := by simp
  have hba : Below w5.heap.size w5 (w5.alloc o) := (Below.refl _ w5).alloc (Nat.le_refl _) o
  have hs6 := hg6.size
  have hsw := hb5.size
  have hsb := hbel.size
  have k6 : ∀ g, g < w5.heap.size → some g ≠ v.ownBlock → W6.heap[g]? = w5.heap[g]? := fun g hl hne => (hg6.block g (by omega) hne).trans (hba.block g hl)
  have hne : ∀ g, g < w5.heap.size → some g ≠ v.ownBlock → some g ≠ v'.ownBlock := fun g h1 h2 e => by
    rcases hat with h' | h'
    · exact h2 (e.trans h')
    · rw [h'] at e
      simp only [Option.some.injEq] at e
      omega
  have hB5 := hbel.trans (hb5.mono hbel.size)
  refine ⟨(hB5.alloc hB5.size o).grown hg6 (by omega) (fun q hq => (hown.lt q hq).1), xs ++ tyc l[j] a2 c2, ho6, ?_⟩
  have r1 := hrow.keep (Q := fun g => w.heap.size ≤ g ∧ some g ≠ v'.ownBlock) (w' := W6) (by omega) (fun g hg hP => ⟨⟨hP.1, hne g (by omega) hP.2⟩, (k6 g (by omega) hP.2).trans (hb5.block g hg)⟩)
  have t1 := ht.keep (Q := fun g => w.heap.size ≤ g ∧ some g ≠ v'.ownBlock) (w' := W6) (by omega) (fun g hg hP => by
    have hP' : B ≤ g := hP
    have e : some g ≠ v.ownBlock := fun e => by
      have := (hown.lt g e.symm).2
      omega
    exact ⟨⟨by omega, hne g hg e⟩, k6 g hg e⟩)
  exact r1.push hown.1 hj t1
def PartOk (d : Nat) : Prop := ∀ (t : Ty) (a : Option Addr) (c : Nat) (w : World), TyAt w d t a c → sz t ≤ 900 → Calls Try.prog 75 #[vty t a c] w fun e w' => ∃ a' c', e = .returned (vty t a' c') ∧ TyP (fun g => w.heap.size ≤ g) w' d t a' c' ∧ Below w.heap.size w w'
def PartsOk (d : Nat) : Prop := ∀ (l : List Ty) (a : Option Addr) (c : Nat) (w : World), TyAt w (d + 1) ⟨0, 0, l⟩ a c → szs l ≤ 900 → Calls Try.prog 74 #[.slice a l.length c] w fun e w' => ∃ a' c', e = .returned (.slice a' l.length c') ∧ LsAt (fun g => w.heap.size ≤ g) w' d l a' c' ∧ Below w.heap.size w w'
set_option maxHeartbeats 1500000 in
theorem parts_of {d : Nat} (ih : PartOk d) : PartsOk d := by
  intro l a c w hl hsz
  have hlen := szs_len l
  have HL : Hid (TyAt w (d + 1) ⟨0, 0, l⟩ a c) := hl
  have HK : Hid (∀ j (hj : j < l.length), sz l[j] ≤ 900) := fun j hj => by have := szs_take l j hj; omega
  have HI : Hid (PartOk d) := ih
  have hll : l.length ≤ 900 := by omega
  clear hl hsz ih hlen
  go_enter Try.func74, Try.ntmps74
  go_wp2
  go_loopw [3, 8] (fun v iv wr => ∃ j : Nat, iv = .int .i64 (j : Int) ∧ j ≤ l.length ∧ Cy w d l j v wr) (fun _ iv _ => l.length - (intOf iv).toNat)
  case atStart => exact ⟨0, rfl, by omega, ⟨Below.refl _ _, [], ⟨by simp, .inl ⟨rfl, rfl⟩⟩, fun i _ h => by omega⟩⟩
  case round =>
    obtain ⟨j, rfl, hj, hC⟩ := hrel
    obtain ⟨hB, xs, hown, hrow⟩ := hC
    by_cases hjl : j < l.length
    · have hjl' : (j : Int) < (l.length : Int) := by omega
      obtain ⟨g, off, a', c', rfl, hg, y0, y1, y2, hT⟩ := HL.out.kid (j := j) hjl
      dsimp only at y0 y1 y2 hT
      have HT : Hid (TyAt w d l[j] a' c') := hT
      have y0 := (hB.cell (p := ⟨g, _, none⟩) hg).trans y0
      have y1 := (hB.cell (p := ⟨g, _, none⟩) hg).trans y1
      have y2 := (hB.cell (p := ⟨g, _, none⟩) hg).trans y2
      clear hT
      go_upto_region 5 with fail
      have hbb : Below wr.heap.size wr (wr.alloc (.cells #[.int .i64 l[j].kind, .int .i64 l[j].n, .slice a' l[j].kids.length c'] 24)) := (Below.refl _ wr).alloc (Nat.le_refl _) _
      have x5 := heap_alloc_new wr (.cells #[.int .i64 l[j].kind, .int .i64 l[j].n, .slice a' l[j].kids.length c'] 24)
      generalize hV : wr.alloc (.cells #[.int .i64 l[j].kind, .int .i64 l[j].n, .slice a' l[j].kids.length c'] 24) = Wb at *
      clear hV
      have K75 := HI.out l[j] a' c' Wb (HT.out.below (hB.trans (hbb.mono hB.size))) (HK.out j hjl)
      unfold vty at K75
      have i0 := cell_of_row _ _ 0 _ _ _ x5
      have i1 := cell_of_row _ _ 1 _ _ _ x5
      have i2 := cell_of_row _ _ 2 _ _ _ x5
      have HOWN : Hid _ := hown
      have HROW : Hid _ := hrow
      go_wp2_with (first | (go_at_call 75; (with_reducible refine K75.mono ?_); rintro e5 w5 ⟨a2, c2, rfl, ht5, hb5⟩; clear K75; have hbb5 := hbb.trans (hb5.mono hbb.size)) | (at_builtin; refine wpList_at rfl (.tmp 12) (.tmp 15) rfl w.heap.size _ _ xs rfl ((own_below HOWN.out hbb5).alloc _) ⟨w5.heap.size, 0, none⟩ (tyc l[j] a2 c2) rfl rfl (cell_one _ _ rfl _ _ _ _ _) (tyc_one l[j] a2 c2) (by omega) (by have := hB.size; have := hbb5.size; simp; omega) ?_; intro v6 W6 ho6 hg6 hat6))
      go_roundw
      case rel => exact ⟨j + 1, by go_num, by omega, Cy.push hB HOWN.out HROW.out hbb5 hbb.size hjl ht5 ho6 hg6 hat6⟩
      case measure => simp [intOf]; omega
    · have hjl' : ¬ (j : Int) < (l.length : Int) := by omega
      obtain rfl : j = l.length := by omega
      have hv : ∀ V : Value, wr.ownsRow w.heap.size 24 3 V l.length xs → ∃ x m, V = .slice x l.length m ∧ l.length ≤ m := by
        intro V hV
        rcases hV.2 with ⟨rfl, h0⟩ | ⟨g, cap, cur, rfl, _, _, hcap, _⟩
        · exact ⟨none, 0, by rw [h0], by omega⟩
        · exact ⟨_, _, rfl, hcap⟩
      obtain ⟨x, m, rfl, hroom⟩ := hv _ hown
      have HF : Hid (TyP (fun g => w.heap.size ≤ g) wr (d + 1) ⟨0, 0, l⟩ x m) := (hrow.keep (Q := fun g => w.heap.size ≤ g) (Nat.le_refl _) (fun g _ hP => ⟨hP.1, rfl⟩)).all hown (by constructor <;> decide) (by constructor <;> decide) (by omega) (fun g _ hg => hg)
      clear hown hrow hv
      go_wp2
      go_ret
      exact ⟨x, m, rfl, ⟨HF.out, hroom⟩, hB⟩
end Go.Proofs.Ytbmgkgoghgdbhaa.Te
/- partCopy, partsCopy. Condition: there are at most 900 parts in it. -/
namespace Go.Proofs.Ytbmgkgoghgdbhaa.Te
open Go.RowKit

theorem TyP.as {P : Nat → Prop} {w : World} {d : Nat} {k0 n0 k n : Int} {ks : List Ty} {a : Option Addr} {c : Nat} (h : TyP P w (d + 1) ⟨k0, n0, ks⟩ a c) (hk : i64B k) (hn : i64B n) : TyP P w (d + 1) ⟨k, n, ks⟩ a c := ⟨hk, hn, h.2.2.1, h.2.2.2⟩
theorem TyAt.as {w : World} {d : Nat} {k0 n0 k n : Int} {ks : List Ty} {a : Option Addr} {c : Nat} (h : TyAt w (d + 1) ⟨k0, n0, ks⟩ a c) (hk : i64B k) (hn : i64B n) : TyAt w (d + 1) ⟨k, n, ks⟩ a c := ⟨hk, hn, h.2.2.1, h.2.2.2⟩
set_option maxHeartbeats 1500000 in
theorem part_of {d : Nat} (ih : PartsOk d) : PartOk (d + 1) := by
  intro t a c w h hsz
  obtain ⟨k, n, ks⟩ := t
  have hks : szs ks ≤ 900 := by
    rw [sz] at hsz
    unfold szs
    dsimp only at hsz
    omega
  have HB : Hid (i64B k ∧ i64B n) := ⟨h.1, h.2.1⟩
  have h0 : TyAt w (d + 1) ⟨0, 0, ks⟩ a c := h.as (by constructor <;> decide) (by constructor <;> decide)
  have HT : Hid (TyAt w (d + 1) ⟨0, 0, ks⟩ a c) := h0
  unfold vty
  dsimp only
  clear h h0 hsz
  go_enter Try.func75, Try.ntmps75
  go_upto_region 1 with fail
  obtain ⟨x1, x2, hVs, hVb⟩ := two_boxes w (.cells #[.int .i64 k, .int .i64 n, .slice a ks.length c] 24) (.cells #[.int .i64 0, .int .i64 0, .slice none 0 0] 24)
  generalize hV : (w.alloc (.cells #[.int .i64 k, .int .i64 n, .slice a ks.length c] 24)).alloc (.cells #[.int .i64 0, .int .i64 0, .slice none 0 0] 24) = V at *
  clear hV
  have K74 := ih ks a c V (HT.out.below hVb) hks
  have i2 := cell_of_row _ _ 2 _ _ _ x1
  go_upto_region 2 with (go_at_call 74; (with_reducible refine K74.mono ?_); rintro e5 w5 ⟨a5, c5, rfl, hT5, hb5⟩; clear K74; have s1 := (hb5.block _ (lt_of_get x1)).trans x1; have m2 := cell_of_row _ _ 2 _ _ _ s1; have f2 := frozen_of_row _ _ 2 _ 24 s1)
  have s2 := (hb5.block _ (lt_of_get x2)).trans x2
  have hB5 := hVb.trans (hb5.mono hVb.size)
  have h2 := heap_setCell_same w5 w.heap.size 2 _ 24 (.slice a5 ks.length c5) s1
  have hrow : (w5.setCell ⟨w.heap.size, 2, none⟩ (.slice a5 ks.length c5)).heap[w.heap.size]? = some (.cells #[.int .i64 k, .int .i64 n, .slice a5 ks.length c5] 24 (0, 0)) := by simpa using h2
  have u2 : (w5.setCell ⟨w.heap.size, 2, none⟩ (.slice a5 ks.length c5)).heap[w.heap.size + 1]? = some (.cells #[.int .i64 0, .int .i64 0, .slice none 0 0] 24 (0, 0)) := (heap_setCell_other _ _ _ _ (by show w.heap.size + 1 ≠ w.heap.size; omega)).trans s2
  have hBU := hB5.setCell (p := ⟨w.heap.size, 2, none⟩) (Nat.le_refl _) (.slice a5 ks.length c5)
  have HT6 : Hid (TyP (fun g => w.heap.size + 2 ≤ g) (w5.setCell ⟨w.heap.size, 2, none⟩ (.slice a5 ks.length c5)) (d + 1) ⟨k, n, ks⟩ a5 c5) := ((hT5.1.as HB.out.1 HB.out.2).keep (by simp) (fun g _ hP => ⟨by have hP' : V.heap.size ≤ g := hP; omega, heap_setCell_other _ _ _ _ (by have hP' : V.heap.size ≤ g := hP; show g ≠ w.heap.size; omega)⟩))
  clear h2 m2 f2 i2 s1 s2
  generalize hV : w5.setCell ⟨w.heap.size, 2, none⟩ (.slice a5 ks.length c5) = U at *
  clear hV
  have p0 := cell_of_row _ _ 0 _ _ _ hrow
  have p1 := cell_of_row _ _ 1 _ _ _ hrow
  have p2 := cell_of_row _ _ 2 _ _ _ hrow
  have q0 := cell_of_row _ _ 0 _ _ _ u2
  have q1 := cell_of_row _ _ 1 _ _ _ u2
  have q2 := cell_of_row _ _ 2 _ _ _ u2
  have f0 := frozen_of_row _ _ 0 _ 24 u2
  have f1 := frozen_of_row _ _ 1 _ 24 u2
  have f2 := frozen_of_row _ _ 2 _ 24 u2
  go_wp2_with fail
  have hl3 := laid_box u2 k n a5 ks.length c5
  refine bodyPost_ret (results_cell_row rfl _ _ (w.heap.size + 1) 24 _ (0, 0) _ rfl hl3 Try.underlying24 rfl size24) rfl ⟨a5, c5, rfl, ?_, ?_⟩
  · exact HT6.out.keep (by simp) (fun g _ hP => ⟨by have hP' : w.heap.size + 2 ≤ g := hP; omega, ko3 U (w.heap.size + 1) (.int .i64 k) (.int .i64 n) (.slice a5 ks.length c5) g (by have hP' : w.heap.size + 2 ≤ g := hP; omega)⟩)
  · exact ((hBU.setCell (p := ⟨w.heap.size + 1, 0, none⟩) (by show w.heap.size ≤ w.heap.size + 1; omega) _).setCell (p := ⟨w.heap.size + 1, 1, none⟩) (by show w.heap.size ≤ w.heap.size + 1; omega) _).setCell (p := ⟨w.heap.size + 1, 2, none⟩) (by show w.heap.size ≤ w.heap.size + 1; omega) _
theorem part_any : ∀ d, PartOk d := by
  intro d
  induction d with
  | zero => intro t a c w h; exact h.elim
  | succ d ih => exact part_of (parts_of ih)
theorem parts_any (d : Nat) : PartsOk d := parts_of (part_any d)
end Go.Proofs.Ytbmgkgoghgdbhaa.Te
