/- The texts of parts: text, PartText. Condition: the part is right and not too big. -/
import Derived.Test.YtbmgkgoghgdbhaaKa
import Derived.Test.YtbmgkgoghgdbhaaSa
import Derived.Lib.Strings
import Derived.Laws.BytesString
import Derived.Deep.CutRange
namespace Go.Proofs.Ytbmgkgoghgdbhaa.Te
open Go.RowKit

/-- bytes as a text, and back -/
def tb (l : List Nat) : ByteArray := ⟨(l.map UInt8.ofNat).toArray⟩
def nb (s : ByteArray) : List Nat := s.data.toList.map UInt8.toNat
theorem tb_append (a b : List Nat) : tb a ++ tb b = tb (a ++ b) := by
  apply ByteArray.ext
  simp [tb]
theorem tb_size (l : List Nat) : (tb l).size = l.length := by simp [tb, ByteArray.size]
theorem tb_one (c : Nat) : (⟨#[UInt8.ofNat c]⟩ : ByteArray) = tb [c] := rfl
theorem tx_len : ∀ (s : Nat) (p : Ty), sz p ≤ s → Gp p → (tx p).length ≤ 4 * sz p := by
  intro s
  induction s with
  | zero => intro p hs; rw [sz] at hs; omega
  | succ s ih =>
    intro p hs h
    rcases gp_cases h with ⟨k, rfl, h0, h9⟩ | ⟨x, y, rfl, hx, hy⟩ | ⟨y, x, rfl, hy, hx⟩
    · rw [tx_bs, sz_bs]; simp
    · rw [sz_ov] at hs ⊢
      have h1 := ih x (by omega) hx
      have h2 := ih y (by omega) hy
      rw [tx_ov]
      simp only [List.length_cons, List.length_append, List.length_nil]
      omega
    · rw [sz_un] at hs ⊢
      have h1 := ih x (by omega) hx
      have h2 := ih y (by omega) hy
      rw [tx_un]
      simp only [List.length_cons, List.length_append, List.length_nil]
      omega
theorem conv_new (w : World) (ns : List Int) :
    (convert 63 9 (.slice (some ⟨w.heap.size, 0, none⟩) ns.length ns.length)).run Try.prog (w.alloc (.cells (ns.map (Value.int .u8)).toArray 5)) =
      .ok (.string (ns.foldl (fun r n => r.push (UInt8.ofNat n.toNat)) ByteArray.empty)) (w.alloc (.cells (ns.map (Value.int .u8)).toArray 5)) := by
  rw [run_convert_bytes_string _ 63 9 5 _ _ _ Try.underlying63 Try.underlying5 Try.underlying9]
  refine run_bytesToString _ _ _ _ _ ?_
  have h := run_loadCells_list (P := Try.prog) (w.alloc (.cells (ns.map (Value.int .u8)).toArray 5)) ⟨w.heap.size, 0, none⟩ (ns.map (Value.int .u8)) (by
    intro j v hv
    have e : (⟨w.heap.size, 0, none⟩ : Addr).add j = ⟨w.heap.size, j, none⟩ := by unfold Addr.add; split <;> simp_all
    rw [e, cell_of_row _ _ _ _ _ _ (heap_alloc_new w _)]
    simpa using hv)
  simpa using h
theorem conv1 (a : Int) (w : World) : (convert 63 9 (.slice (some ⟨w.heap.size, 0, none⟩) 1 1)).run Try.prog (w.alloc (.cells #[.int .u8 a] 5)) =
    .ok (.string ⟨#[UInt8.ofNat a.toNat]⟩) (w.alloc (.cells #[.int .u8 a] 5)) := conv_new w [a]
theorem ten {k : Int} (h0 : 0 ≤ k) (h9 : k ≤ 9) : k = 0 ∨ k = 1 ∨ k = 2 ∨ k = 3 ∨ k = 4 ∨ k = 5 ∨ k = 6 ∨ k = 7 ∨ k = 8 ∨ k = 9 := by omega
theorem enc_ten {k : Int} (h0 : 0 ≤ k) (h9 : k ≤ 9) : Utf8.encode (97 + k) = tb (tx (bs k)) := by
  rw [tx_bs]
  rcases ten h0 h9 with rfl | rfl | rfl | rfl | rfl | rfl | rfl | rfl | rfl | rfl <;> rfl
set_option maxRecDepth 100000 in
theorem text_bs (k : Int) (a : Option Addr) (c : Nat) (w : World) (h0 : 0 ≤ k) (h9 : k ≤ 9) : Calls Try.prog 35 #[vty (bs k) a c] w fun e w' => e = .returned (.string (tb (tx (bs k)))) ∧ Below w.heap.size w w' := by
  rw [← enc_ten h0 h9]
  unfold vty bs
  dsimp only
  go_enter Try.func35, Try.ntmps35
  go_wp2
  go_ret
  exact ⟨rfl, (Below.refl _ w).alloc (Nat.le_refl _) _⟩
set_option maxRecDepth 100000 in
theorem doc_bs (k : Int) (a : Option Addr) (c : Nat) (w : World) (h0 : 0 ≤ k) (h9 : k ≤ 9) : Calls Try.prog 13 #[vty (bs k) a c] w fun e w' => e = .returned (.string (tb (tx (bs k)))) ∧ Below w.heap.size w w' := by
  have e1 : tb (tx (bs k)) = ⟨#[UInt8.ofNat (97 + k).toNat]⟩ := by
    rw [tx_bs, show (97 + k).toNat = 97 + k.toNat by omega]
    rfl
  rw [e1]
  unfold vty bs
  dsimp only
  go_enter Try.func13, Try.ntmps13
  go_upto_region 1 with fail
  have hbx : Below w.heap.size w (w.alloc (.cells #[.int .i64 1, .int .i64 k, .slice a 0 c] 24)) := (Below.refl _ w).alloc (Nat.le_refl _) _
  have x1 := heap_alloc_new w (.cells #[.int .i64 1, .int .i64 k, .slice a 0 c] 24)
  have e0 : ([] : List Ty).length = 0 := rfl
  try rw [e0]
  generalize w.alloc (.cells #[.int .i64 1, .int .i64 k, .slice a 0 c] 24) = V at *
  have i0 := cell_of_row _ _ 0 _ _ _ x1
  have i1 := cell_of_row _ _ 1 _ _ _ x1
  have hcv := conv1
  go_wp2
  go_ret
  exact ⟨rfl, hbx.trans (((Below.refl _ V).alloc (Nat.le_refl _) _).mono hbx.size)⟩
set_option maxRecDepth 100000 in
set_option maxHeartbeats 4000000 in
theorem text_any : ∀ (d : Nat) (p : Ty) (a : Option Addr) (c : Nat) (w : World), TyAt w d p a c → Gp p → sz p ≤ 15 → Calls Try.prog 35 #[vty p a c] w fun e w' => e = .returned (.string (tb (tx p))) ∧ Below w.heap.size w w' := by
  intro d
  induction d with
  | zero => intro p a c w h; exact h.elim
  | succ d ih =>
    intro p a c w h hp hs
    rcases gp_cases hp with ⟨k, rfl, h0, h9⟩ | ⟨x, y, rfl, hx, hy⟩ | ⟨y, x, rfl, hy, hx⟩
    · exact text_bs k a c w h0 h9
    · rw [sz_ov] at hs
      have lx := tx_len _ _ (Nat.le_refl _) hx
      have ly := tx_len _ _ (Nat.le_refl _) hy
      have sx := tb_size (tx x)
      have sy := tb_size (tx y)
      rw [tx_ov]
      obtain ⟨g, off, a1, c1, rfl, hg, y0, y1, y2, ht⟩ := h.kid (j := 0) (by simp [ov])
      obtain ⟨g', off', a2, c2, e, hg', z0, z1, z2, hu⟩ := h.kid (j := 1) (by simp [ov])
      simp only [Option.some.injEq, Addr.mk.injEq, and_true] at e
      obtain ⟨rfl, rfl⟩ := e
      have hbx : Below w.heap.size w (w.alloc (.cells #[.int .i64 2, .int .i64 0, .slice (some ⟨g, off, none⟩) 2 c] 24)) := (Below.refl _ w).alloc (Nat.le_refl _) _
      have x1 := heap_alloc_new w (.cells #[.int .i64 2, .int .i64 0, .slice (some ⟨g, off, none⟩) 2 c] 24)
      change w.cell? ⟨g, off + 0 * 3, none⟩ = some (.int .i64 x.kind) at y0
      change w.cell? ⟨g, off + 0 * 3 + 1, none⟩ = some (.int .i64 x.n) at y1
      change w.cell? ⟨g, off + 0 * 3 + 2, none⟩ = some (.slice a1 x.kids.length c1) at y2
      change w.cell? ⟨g, off + 1 * 3, none⟩ = some (.int .i64 y.kind) at z0
      change w.cell? ⟨g, off + 1 * 3 + 1, none⟩ = some (.int .i64 y.n) at z1
      change w.cell? ⟨g, off + 1 * 3 + 2, none⟩ = some (.slice a2 y.kids.length c2) at z2
      change TyAt w d x a1 c1 at ht
      change TyAt w d y a2 c2 at hu
      have y0 := (hbx.cell (p := ⟨g, off + 0 * 3, none⟩) hg).trans y0
      have y1 := (hbx.cell (p := ⟨g, off + 0 * 3 + 1, none⟩) hg).trans y1
      have y2 := (hbx.cell (p := ⟨g, off + 0 * 3 + 2, none⟩) hg).trans y2
      have z0 := (hbx.cell (p := ⟨g, off + 1 * 3, none⟩) hg).trans z0
      have z1 := (hbx.cell (p := ⟨g, off + 1 * 3 + 1, none⟩) hg).trans z1
      have z2 := (hbx.cell (p := ⟨g, off + 1 * 3 + 2, none⟩) hg).trans z2
      have hg := Nat.lt_of_lt_of_le hg hbx.size
      have ht := ht.below hbx
      have hu := hu.below hbx
      unfold vty ov
      dsimp only
      rw [show ([x, y] : List Ty).length = 2 from rfl]
      go_enter Try.func35, Try.ntmps35
      go_upto_region 1 with fail
      generalize w.alloc (.cells #[.int .i64 2, .int .i64 0, .slice (some ⟨g, off, none⟩) 2 c] 24) = V at *
      have i0 := cell_of_row _ _ 0 _ _ _ x1
      have i2 := cell_of_row _ _ 2 _ _ _ x1
      go_upto_region 3 with fail
      have f2 := fun p : After V => (p.h.cell (p := ⟨w.heap.size, 2, none⟩) (lt_of_get x1)).trans i2
      have u0 := fun p : After V => (p.h.cell (p := ⟨g, off + 0 * 3, none⟩) hg).trans y0
      have u1 := fun p : After V => (p.h.cell (p := ⟨g, off + 0 * 3 + 1, none⟩) hg).trans y1
      have u2 := fun p : After V => (p.h.cell (p := ⟨g, off + 0 * 3 + 2, none⟩) hg).trans y2
      have v0 := fun p : After V => (p.h.cell (p := ⟨g, off + 1 * 3, none⟩) hg).trans z0
      have v1 := fun p : After V => (p.h.cell (p := ⟨g, off + 1 * 3 + 1, none⟩) hg).trans z1
      have v2 := fun p : After V => (p.h.cell (p := ⟨g, off + 1 * 3 + 2, none⟩) hg).trans z2
      simp only [Nat.zero_mul, Nat.one_mul, Nat.add_zero] at u0 u1 u2 v0 v1 v2
      have KX := fun p : After V => ih x a1 c1 p.W (ht.below p.h) hx (by omega)
      have KY := fun p : After V => ih y a2 c2 p.W (hu.below p.h) hy (by omega)
      unfold vty at KX KY
      clear ih i0 i2 y0 y1 y2 z0 z1 z2
      haveI : Inhabited (After V) := ⟨⟨V, Below.refl _ _⟩⟩
      refine wp_region_after (by kernel_rfl) (by kernel_rfl) ?_
      repeat (go_big_quiet_step (first | (go_at_call 35; (with_reducible refine after_of (KX _))) | (go_at_call 35; (with_reducible refine after_of (KY _)))))
      refine wpQuiet_nil ?_
      intro W' hw'
      obtain ⟨⟨w1, hb1⟩, rfl⟩ := hw'
      clear KX KY f2 u0 u1 u2 v0 v1 v2
      go_wp2_with fail
      go_ret
      refine ⟨?_, hbx.trans (hb1.mono hbx.size)⟩
      show Ending.returned (.string (tb [40] ++ tb (tx x) ++ tb [47] ++ tb (tx y) ++ tb [41])) = _
      rw [tb_append, tb_append, tb_append, tb_append]
      simp only [List.append_assoc, List.cons_append, List.nil_append]
    · rw [sz_un] at hs
      have lx := tx_len _ _ (Nat.le_refl _) hx
      have ly := tx_len _ _ (Nat.le_refl _) hy
      have sx := tb_size (tx x)
      have sy := tb_size (tx y)
      rw [tx_un]
      obtain ⟨g, off, a1, c1, rfl, hg, y0, y1, y2, ht⟩ := h.kid (j := 0) (by simp [un])
      obtain ⟨g', off', a2, c2, e, hg', z0, z1, z2, hu⟩ := h.kid (j := 1) (by simp [un])
      simp only [Option.some.injEq, Addr.mk.injEq, and_true] at e
      obtain ⟨rfl, rfl⟩ := e
      have hbx : Below w.heap.size w (w.alloc (.cells #[.int .i64 3, .int .i64 0, .slice (some ⟨g, off, none⟩) 2 c] 24)) := (Below.refl _ w).alloc (Nat.le_refl _) _
      have x1 := heap_alloc_new w (.cells #[.int .i64 3, .int .i64 0, .slice (some ⟨g, off, none⟩) 2 c] 24)
      change w.cell? ⟨g, off + 0 * 3, none⟩ = some (.int .i64 y.kind) at y0
      change w.cell? ⟨g, off + 0 * 3 + 1, none⟩ = some (.int .i64 y.n) at y1
      change w.cell? ⟨g, off + 0 * 3 + 2, none⟩ = some (.slice a1 y.kids.length c1) at y2
      change w.cell? ⟨g, off + 1 * 3, none⟩ = some (.int .i64 x.kind) at z0
      change w.cell? ⟨g, off + 1 * 3 + 1, none⟩ = some (.int .i64 x.n) at z1
      change w.cell? ⟨g, off + 1 * 3 + 2, none⟩ = some (.slice a2 x.kids.length c2) at z2
      change TyAt w d y a1 c1 at ht
      change TyAt w d x a2 c2 at hu
      have y0 := (hbx.cell (p := ⟨g, off + 0 * 3, none⟩) hg).trans y0
      have y1 := (hbx.cell (p := ⟨g, off + 0 * 3 + 1, none⟩) hg).trans y1
      have y2 := (hbx.cell (p := ⟨g, off + 0 * 3 + 2, none⟩) hg).trans y2
      have z0 := (hbx.cell (p := ⟨g, off + 1 * 3, none⟩) hg).trans z0
      have z1 := (hbx.cell (p := ⟨g, off + 1 * 3 + 1, none⟩) hg).trans z1
      have z2 := (hbx.cell (p := ⟨g, off + 1 * 3 + 2, none⟩) hg).trans z2
      have hg := Nat.lt_of_lt_of_le hg hbx.size
      have ht := ht.below hbx
      have hu := hu.below hbx
      unfold vty un
      dsimp only
      rw [show ([y, x] : List Ty).length = 2 from rfl]
      go_enter Try.func35, Try.ntmps35
      go_upto_region 1 with fail
      generalize w.alloc (.cells #[.int .i64 3, .int .i64 0, .slice (some ⟨g, off, none⟩) 2 c] 24) = V at *
      have i0 := cell_of_row _ _ 0 _ _ _ x1
      have i2 := cell_of_row _ _ 2 _ _ _ x1
      go_upto_region 5 with fail
      have f2 := fun p : After V => (p.h.cell (p := ⟨w.heap.size, 2, none⟩) (lt_of_get x1)).trans i2
      have u0 := fun p : After V => (p.h.cell (p := ⟨g, off + 0 * 3, none⟩) hg).trans y0
      have u1 := fun p : After V => (p.h.cell (p := ⟨g, off + 0 * 3 + 1, none⟩) hg).trans y1
      have u2 := fun p : After V => (p.h.cell (p := ⟨g, off + 0 * 3 + 2, none⟩) hg).trans y2
      have v0 := fun p : After V => (p.h.cell (p := ⟨g, off + 1 * 3, none⟩) hg).trans z0
      have v1 := fun p : After V => (p.h.cell (p := ⟨g, off + 1 * 3 + 1, none⟩) hg).trans z1
      have v2 := fun p : After V => (p.h.cell (p := ⟨g, off + 1 * 3 + 2, none⟩) hg).trans z2
      simp only [Nat.zero_mul, Nat.one_mul, Nat.add_zero] at u0 u1 u2 v0 v1 v2
      have KX := fun p : After V => ih y a1 c1 p.W (ht.below p.h) hy (by omega)
      have KY := fun p : After V => ih x a2 c2 p.W (hu.below p.h) hx (by omega)
      unfold vty at KX KY
      clear ih i0 i2 y0 y1 y2 z0 z1 z2
      haveI : Inhabited (After V) := ⟨⟨V, Below.refl _ _⟩⟩
      refine wp_region_after (by kernel_rfl) (by kernel_rfl) ?_
      repeat (go_big_quiet_step (first | (go_at_call 35; (with_reducible refine after_of (KX _))) | (go_at_call 35; (with_reducible refine after_of (KY _)))))
      refine wpQuiet_nil ?_
      intro W' hw'
      obtain ⟨⟨w1, hb1⟩, rfl⟩ := hw'
      clear KX KY f2 u0 u1 u2 v0 v1 v2
      go_wp2_with fail
      go_ret
      refine ⟨?_, hbx.trans (hb1.mono hbx.size)⟩
      show Ending.returned (.string (tb [40] ++ tb (tx y) ++ tb [92] ++ tb (tx x) ++ tb [41])) = _
      rw [tb_append, tb_append, tb_append, tb_append]
      simp only [List.append_assoc, List.cons_append, List.nil_append]
set_option maxRecDepth 100000 in
set_option maxHeartbeats 4000000 in
theorem textd_any : ∀ (d : Nat) (p : Ty) (a : Option Addr) (c : Nat) (w : World), TyAt w d p a c → Gp p → sz p ≤ 15 → Calls Try.prog 13 #[vty p a c] w fun e w' => e = .returned (.string (tb (tx p))) ∧ Below w.heap.size w w' := by
  intro d
  induction d with
  | zero => intro p a c w h; exact h.elim
  | succ d ih =>
    intro p a c w h hp hs
    rcases gp_cases hp with ⟨k, rfl, h0, h9⟩ | ⟨x, y, rfl, hx, hy⟩ | ⟨y, x, rfl, hy, hx⟩
    · exact doc_bs k a c w h0 h9
    · rw [sz_ov] at hs
      have lx := tx_len _ _ (Nat.le_refl _) hx
      have ly := tx_len _ _ (Nat.le_refl _) hy
      have sx := tb_size (tx x)
      have sy := tb_size (tx y)
      rw [tx_ov]
      obtain ⟨g, off, a1, c1, rfl, hg, y0, y1, y2, ht⟩ := h.kid (j := 0) (by simp [ov])
      obtain ⟨g', off', a2, c2, e, hg', z0, z1, z2, hu⟩ := h.kid (j := 1) (by simp [ov])
      simp only [Option.some.injEq, Addr.mk.injEq, and_true] at e
      obtain ⟨rfl, rfl⟩ := e
      have hbx : Below w.heap.size w (w.alloc (.cells #[.int .i64 2, .int .i64 0, .slice (some ⟨g, off, none⟩) 2 c] 24)) := (Below.refl _ w).alloc (Nat.le_refl _) _
      have x1 := heap_alloc_new w (.cells #[.int .i64 2, .int .i64 0, .slice (some ⟨g, off, none⟩) 2 c] 24)
      change w.cell? ⟨g, off + 0 * 3, none⟩ = some (.int .i64 x.kind) at y0
      change w.cell? ⟨g, off + 0 * 3 + 1, none⟩ = some (.int .i64 x.n) at y1
      change w.cell? ⟨g, off + 0 * 3 + 2, none⟩ = some (.slice a1 x.kids.length c1) at y2
      change w.cell? ⟨g, off + 1 * 3, none⟩ = some (.int .i64 y.kind) at z0
      change w.cell? ⟨g, off + 1 * 3 + 1, none⟩ = some (.int .i64 y.n) at z1
      change w.cell? ⟨g, off + 1 * 3 + 2, none⟩ = some (.slice a2 y.kids.length c2) at z2
      change TyAt w d x a1 c1 at ht
      change TyAt w d y a2 c2 at hu
      have y0 := (hbx.cell (p := ⟨g, off + 0 * 3, none⟩) hg).trans y0
      have y1 := (hbx.cell (p := ⟨g, off + 0 * 3 + 1, none⟩) hg).trans y1
      have y2 := (hbx.cell (p := ⟨g, off + 0 * 3 + 2, none⟩) hg).trans y2
      have z0 := (hbx.cell (p := ⟨g, off + 1 * 3, none⟩) hg).trans z0
      have z1 := (hbx.cell (p := ⟨g, off + 1 * 3 + 1, none⟩) hg).trans z1
      have z2 := (hbx.cell (p := ⟨g, off + 1 * 3 + 2, none⟩) hg).trans z2
      have hg := Nat.lt_of_lt_of_le hg hbx.size
      have ht := ht.below hbx
      have hu := hu.below hbx
      unfold vty ov
      dsimp only
      rw [show ([x, y] : List Ty).length = 2 from rfl]
      go_enter Try.func13, Try.ntmps13
      go_upto_region 1 with fail
      generalize w.alloc (.cells #[.int .i64 2, .int .i64 0, .slice (some ⟨g, off, none⟩) 2 c] 24) = V at *
      have i0 := cell_of_row _ _ 0 _ _ _ x1
      have i2 := cell_of_row _ _ 2 _ _ _ x1
      go_upto_region 6 with fail
      have f2 := fun p : After V => (p.h.cell (p := ⟨w.heap.size, 2, none⟩) (lt_of_get x1)).trans i2
      have u0 := fun p : After V => (p.h.cell (p := ⟨g, off + 0 * 3, none⟩) hg).trans y0
      have u1 := fun p : After V => (p.h.cell (p := ⟨g, off + 0 * 3 + 1, none⟩) hg).trans y1
      have u2 := fun p : After V => (p.h.cell (p := ⟨g, off + 0 * 3 + 2, none⟩) hg).trans y2
      have v0 := fun p : After V => (p.h.cell (p := ⟨g, off + 1 * 3, none⟩) hg).trans z0
      have v1 := fun p : After V => (p.h.cell (p := ⟨g, off + 1 * 3 + 1, none⟩) hg).trans z1
      have v2 := fun p : After V => (p.h.cell (p := ⟨g, off + 1 * 3 + 2, none⟩) hg).trans z2
      simp only [Nat.zero_mul, Nat.one_mul, Nat.add_zero] at u0 u1 u2 v0 v1 v2
      have KX := fun p : After V => ih x a1 c1 p.W (ht.below p.h) hx (by omega)
      have KY := fun p : After V => ih y a2 c2 p.W (hu.below p.h) hy (by omega)
      unfold vty at KX KY
      clear ih i0 i2 y0 y1 y2 z0 z1 z2
      haveI : Inhabited (After V) := ⟨⟨V, Below.refl _ _⟩⟩
      refine wp_region_after (by kernel_rfl) (by kernel_rfl) ?_
      repeat (go_big_quiet_step (first | (go_at_call 13; (with_reducible refine after_of (KX _))) | (go_at_call 13; (with_reducible refine after_of (KY _)))))
      refine wpQuiet_nil ?_
      intro W' hw'
      obtain ⟨⟨w1, hb1⟩, rfl⟩ := hw'
      clear KX KY f2 u0 u1 u2 v0 v1 v2
      go_wp2_with fail
      go_ret
      refine ⟨?_, hbx.trans (hb1.mono hbx.size)⟩
      show Ending.returned (.string (tb [40] ++ tb (tx x) ++ tb [47] ++ tb (tx y) ++ tb [41])) = _
      rw [tb_append, tb_append, tb_append, tb_append]
      simp only [List.append_assoc, List.cons_append, List.nil_append]
    · rw [sz_un] at hs
      have lx := tx_len _ _ (Nat.le_refl _) hx
      have ly := tx_len _ _ (Nat.le_refl _) hy
      have sx := tb_size (tx x)
      have sy := tb_size (tx y)
      rw [tx_un]
      obtain ⟨g, off, a1, c1, rfl, hg, y0, y1, y2, ht⟩ := h.kid (j := 0) (by simp [un])
      obtain ⟨g', off', a2, c2, e, hg', z0, z1, z2, hu⟩ := h.kid (j := 1) (by simp [un])
      simp only [Option.some.injEq, Addr.mk.injEq, and_true] at e
      obtain ⟨rfl, rfl⟩ := e
      have hbx : Below w.heap.size w (w.alloc (.cells #[.int .i64 3, .int .i64 0, .slice (some ⟨g, off, none⟩) 2 c] 24)) := (Below.refl _ w).alloc (Nat.le_refl _) _
      have x1 := heap_alloc_new w (.cells #[.int .i64 3, .int .i64 0, .slice (some ⟨g, off, none⟩) 2 c] 24)
      change w.cell? ⟨g, off + 0 * 3, none⟩ = some (.int .i64 y.kind) at y0
      change w.cell? ⟨g, off + 0 * 3 + 1, none⟩ = some (.int .i64 y.n) at y1
      change w.cell? ⟨g, off + 0 * 3 + 2, none⟩ = some (.slice a1 y.kids.length c1) at y2
      change w.cell? ⟨g, off + 1 * 3, none⟩ = some (.int .i64 x.kind) at z0
      change w.cell? ⟨g, off + 1 * 3 + 1, none⟩ = some (.int .i64 x.n) at z1
      change w.cell? ⟨g, off + 1 * 3 + 2, none⟩ = some (.slice a2 x.kids.length c2) at z2
      change TyAt w d y a1 c1 at ht
      change TyAt w d x a2 c2 at hu
      have y0 := (hbx.cell (p := ⟨g, off + 0 * 3, none⟩) hg).trans y0
      have y1 := (hbx.cell (p := ⟨g, off + 0 * 3 + 1, none⟩) hg).trans y1
      have y2 := (hbx.cell (p := ⟨g, off + 0 * 3 + 2, none⟩) hg).trans y2
      have z0 := (hbx.cell (p := ⟨g, off + 1 * 3, none⟩) hg).trans z0
      have z1 := (hbx.cell (p := ⟨g, off + 1 * 3 + 1, none⟩) hg).trans z1
      have z2 := (hbx.cell (p := ⟨g, off + 1 * 3 + 2, none⟩) hg).trans z2
      have hg := Nat.lt_of_lt_of_le hg hbx.size
      have ht := ht.below hbx
      have hu := hu.below hbx
      unfold vty un
      dsimp only
      rw [show ([y, x] : List Ty).length = 2 from rfl]
      go_enter Try.func13, Try.ntmps13
      go_upto_region 1 with fail
      generalize w.alloc (.cells #[.int .i64 3, .int .i64 0, .slice (some ⟨g, off, none⟩) 2 c] 24) = V at *
      have i0 := cell_of_row _ _ 0 _ _ _ x1
      have i2 := cell_of_row _ _ 2 _ _ _ x1
      go_upto_region 6 with fail
      have f2 := fun p : After V => (p.h.cell (p := ⟨w.heap.size, 2, none⟩) (lt_of_get x1)).trans i2
      have u0 := fun p : After V => (p.h.cell (p := ⟨g, off + 0 * 3, none⟩) hg).trans y0
      have u1 := fun p : After V => (p.h.cell (p := ⟨g, off + 0 * 3 + 1, none⟩) hg).trans y1
      have u2 := fun p : After V => (p.h.cell (p := ⟨g, off + 0 * 3 + 2, none⟩) hg).trans y2
      have v0 := fun p : After V => (p.h.cell (p := ⟨g, off + 1 * 3, none⟩) hg).trans z0
      have v1 := fun p : After V => (p.h.cell (p := ⟨g, off + 1 * 3 + 1, none⟩) hg).trans z1
      have v2 := fun p : After V => (p.h.cell (p := ⟨g, off + 1 * 3 + 2, none⟩) hg).trans z2
      simp only [Nat.zero_mul, Nat.one_mul, Nat.add_zero] at u0 u1 u2 v0 v1 v2
      have KX := fun p : After V => ih y a1 c1 p.W (ht.below p.h) hy (by omega)
      have KY := fun p : After V => ih x a2 c2 p.W (hu.below p.h) hx (by omega)
      unfold vty at KX KY
      clear ih i0 i2 y0 y1 y2 z0 z1 z2
      haveI : Inhabited (After V) := ⟨⟨V, Below.refl _ _⟩⟩
      refine wp_region_after (by kernel_rfl) (by kernel_rfl) ?_
      repeat (go_big_quiet_step (first | (go_at_call 13; (with_reducible refine after_of (KX _))) | (go_at_call 13; (with_reducible refine after_of (KY _)))))
      refine wpQuiet_nil ?_
      intro W' hw'
      obtain ⟨⟨w1, hb1⟩, rfl⟩ := hw'
      clear KX KY f2 u0 u1 u2 v0 v1 v2
      go_wp2_with fail
      go_ret
      refine ⟨?_, hbx.trans (hb1.mono hbx.size)⟩
      show Ending.returned (.string (tb [40] ++ tb (tx y) ++ tb [92] ++ tb (tx x) ++ tb [41])) = _
      rw [tb_append, tb_append, tb_append, tb_append]
      simp only [List.append_assoc, List.cons_append, List.nil_append]
end Go.Proofs.Ytbmgkgoghgdbhaa.Te
