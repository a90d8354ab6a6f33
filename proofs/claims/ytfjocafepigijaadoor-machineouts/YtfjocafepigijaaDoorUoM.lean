/- key (75): a set's key is its words' bytes. Condition: a set of few words. -/
import Derived.Test.YtfjocafepigijaaDoorUcM
import Derived.Test.YtfjocafepigijaaDoorOdM
import Derived.Test.YtfjocafepigijaaDoorCkRM
import Derived.Laws.BytesArg
import Derived.Laws.MakeOwn
import Derived.Sort.CutIn
import Derived.BigFrameIn
namespace Go.Proofs.YtfjocafepigijaaDoor.Ot
open Go.RowKit Mv Sy Po Ps Cm Pa Am Wd St Ra Set

theorem inf5 : (Tryd.prog.info? 5).map (fun i => (i.zero, i.size, i.bytes)) = some (some (.int .u8 0), 1, 1) := by kernel_rfl
def bc (l : List Nat) : List Value := l.map fun (x : Nat) => Value.int .u8 (x : Int)
theorem run_mk188 (N : Nat) (hN : N ≤ 100000) (W : World) : (Instr.makeSlice 188 (.int .i64 0) (.int .i64 (N : Int))).run Tryd.prog W = .ok (.slice (some ⟨W.heap.size, 0, none⟩) 0 N) (W.alloc (.cells (madeCells #[.int .u8 0] N) 5)) := by
  obtain ⟨i0, hi, hz0, hz1, hz2⟩ := info_parts inf5
  have hr := run_make (P := Tryd.prog) W 188 5 i0 (.int .u8 0) Tryd.underlying188 hi hz0 .i64 .i64 0 (N : Int) (by omega) (by omega) (by rw [hz2]; omega) (by omega)
  simp only [Int.toNat_natCast, hz1, Nat.mul_one] at hr
  exact hr
theorem own_mk188 (W : World) (base N : Nat) (hb : base ≤ W.heap.size) (hN : N ≤ 100000) : (W.alloc (.cells (madeCells #[.int .u8 0] N) 5)).ownsRow base 5 1 (.slice (some ⟨W.heap.size, 0, none⟩) 0 N) 0 (bc []) := by
  refine ⟨rfl, .inr ⟨W.heap.size, N, madeCells #[.int .u8 0] N, rfl, hb, heap_alloc_new _ _, Nat.zero_le _, by unfold maxLen; omega, ?_, by simp [bc]⟩⟩
  rw [← Array.length_toList, toList_madeCells_one]; simp
theorem bc_one (k : Nat) : ∀ x ∈ bc [k], x.oneCell' = true := by
  intro x hx
  simp [bc] at hx
  subst hx
  rfl
theorem cell_byte (w : World) (g k : Nat) (hg : g = w.heap.size) : ∀ j u, (bc [k])[j]? = some u → (w.alloc (.cells #[.int .u8 (k : Int)] 5)).cell? ((⟨g, 0, none⟩ : Addr).add j) = some u := by
  subst hg
  exact cell_one_new w (.int .u8 (k : Int)) 5
theorem byte_at (x j : Nat) (h : j < 8) : ∃ b : Nat, (x : Int) / 2 ^ (8 * j) % 256 = (b : Int) ∧ (bs x).take (j + 1) = (bs x).take j ++ [b] := by
  have e : (bs x)[j]? = some (x / 2 ^ (8 * j) % 256) := by
    match j, h with
    | 0, _ => simp [bs]
    | 1, _ => simp [bs]
    | 2, _ => simp [bs]
    | 3, _ => simp [bs]
    | 4, _ => simp [bs]
    | 5, _ => simp [bs]
    | 6, _ => simp [bs]
    | 7, _ => simp [bs]
  refine ⟨x / 2 ^ (8 * j) % 256, by simp, ?_⟩
  obtain ⟨h1, h2⟩ := List.getElem?_eq_some_iff.1 e
  rw [List.take_succ_eq_append_getElem h1, h2]
theorem bc_app (l m : List Nat) : bc (l ++ m) = bc l ++ bc m := by simp [bc]
set_option maxHeartbeats 8000000 in
set_option maxRecDepth 100000 in
theorem key_any (base n : Nat) (v : Value) (ws : List Nat) (w : World) (h : IsSet w base v n ws) (hl : ws.length ≤ 1000) (hpos : 0 < ws.length) :
    Calls Tryd.prog 75 #[v] w fun e w' => e = .returned (.string (strOfNums ((kb ws).map fun (x : Nat) => (x : Int)))) ∧ Below w.heap.size w w' := by
  obtain ⟨i0, hi, hz0, hz1, hz2⟩ := info_parts inf5
  obtain ⟨av, cv, rfl⟩ := oslice h.1
  have HS : Hid (IsSet w base (.slice av ws.length cv) n ws) := h
  obtain ⟨N8, hN8, hmul⟩ : ∃ N8 : Nat, N8 = 8 * ws.length ∧ (8 : Int) * (ws.length : Int) = (N8 : Int) := ⟨8 * ws.length, rfl, by simp⟩
  have hN9 : N8 ≤ 8000 := by omega
  have hmk := run_mk188 N8 (by omega)
  obtain ⟨lw, hlw⟩ : ∃ lw, ws.length = lw := ⟨_, rfl⟩
  rw [hlw] at hmul HS hl hpos ⊢
  have HLW : Hid (ws.length = lw) := hlw
  have HB0 : Hid (Below w.heap.size w (w.alloc (.cells (madeCells #[.int .u8 0] N8) 5))) := (Below.refl _ w).alloc (Nat.le_refl _) _
  have HO0 : Hid ((w.alloc (.cells (madeCells #[.int .u8 0] N8) 5)).ownsRow w.heap.size 5 1 (.slice (some ⟨w.heap.size, 0, none⟩) 0 N8) 0 (bc [])) := own_mk188 w w.heap.size N8 (Nat.le_refl _) (by omega)
  clear h hN8 hlw
  go_enter Tryd.func75, Tryd.ntmps75
  go_upto_region 2 with fail
  clear hmk
  generalize w.alloc (.cells (madeCells #[.int .u8 0] N8) 5) = V0 at *
  have HWS : Hid (w.heap.size ≤ w.heap.size) := Nat.le_refl _
  go_wp2
  go_loopw [3, 13] (fun a i wr => ∃ (y : Nat) (vK : Value), a = vK ∧ i = .int .i64 y ∧ y ≤ lw ∧ wr.ownsRow w.heap.size 5 1 vK (8 * y) (bc (kb (ws.take y))) ∧ Below w.heap.size w wr) (fun _ i _ => lw - (intOf i).toNat)
  case atStart => exact ⟨0, _, rfl, rfl, Nat.zero_le _, HO0.out, HB0.out⟩
  case round =>
    clear HO0 HB0
    obtain ⟨y, vK, rfl, rfl, hy, hrow, hbl⟩ := hrel
    obtain ⟨ak, ck, rfl⟩ := oslice hrow
    have HRW : Hid (wr.ownsRow w.heap.size 5 1 (.slice ak (8 * y) ck) (8 * y) (bc (kb (ws.take y)))) := hrow
    have HBL : Hid (Below w.heap.size w wr) := hbl
    by_cases hlt : y < lw
    · obtain ⟨sg, scap, hve, _, hsg⟩ := own_some HS.out.1 (by rw [HLW.out]; omega)
      rw [HLW.out, Value.slice.injEq] at hve
      obtain ⟨hav, _, hcv⟩ := hve
      subst hav hcv
      have hyl : y < ws.length := by rw [HLW.out]; exact hlt
      have hS1 := HS.out.1
      rw [HLW.out] at hS1
      have hc := (hbl.cell (p := ⟨sg, y, none⟩) hsg).trans (hS1.cellAt y (by omega))
      clear hS1
      obtain ⟨x, hx⟩ : ∃ x, ws[y] = x := ⟨_, rfl⟩
      rw [show (cellsW ws)[y]? = some (.int .u64 (x : Int)) by rw [← hx]; simp [cellsW, hyl]] at hc
      have hx64 : x < 18446744073709551616 := by rw [← hx]; exact HS.out.2.1 _ (List.getElem_mem hyl)
      have HX : Hid (ws.take (y + 1) = ws.take y ++ [x] ∧ x < 18446744073709551616) := ⟨by rw [List.take_succ_eq_append_getElem hyl, hx], hx64⟩
      obtain ⟨y8, hy8⟩ : ∃ y8, 8 * y = y8 := ⟨_, rfl⟩
      rw [hy8] at HRW ⊢
      have HY8 : Hid (8 * y = y8) := hy8
      have hy88 : y8 ≤ 8000 := by omega
      clear hrow hbl hx hy8 hyl hx64
      go_upto_region 6 with fail
      go_loopw [3, 6] (fun a i wr => ∃ (j : Nat) (vK : Value), a = vK ∧ i = .int .i64 ((8 * j : Nat) : Int) ∧ j ≤ 8 ∧ wr.ownsRow w.heap.size 5 1 vK (y8 + j) (bc (kb (ws.take y) ++ (bs x).take j)) ∧ Below w.heap.size w wr) (fun _ i _ => 64 - (intOf i).toNat)
      case atStart => exact ⟨0, _, rfl, rfl, Nat.zero_le _, by simpa using HRW.out, HBL.out⟩
      case round =>
        clear HRW HBL
        obtain ⟨j, vK, rfl, rfl, hj, hrow, hbl⟩ := hrel
        obtain ⟨ak1, ck1, rfl⟩ := oslice hrow
        have HRW : Hid (wr.ownsRow w.heap.size 5 1 (.slice ak1 (y8 + j) ck1) (y8 + j) (bc (kb (ws.take y) ++ (bs x).take j))) := hrow
        have HBL : Hid (Below w.heap.size w wr) := hbl
        clear hrow hbl
        by_cases hj8 : j < 8
        · obtain ⟨bj, hbj, htk⟩ := byte_at x j hj8
          have HTK : Hid ((bs x).take (j + 1) = (bs x).take j ++ [bj]) := htk
          have hsz : w.heap.size ≤ wr.heap.size := HBL.out.size
          clear htk
          go_wp2_with (refine wpList_append_own_at _ rfl _ _ 188 rfl w.heap.size 5 i0 (.int .u8 0) 1 1 Tryd.underlying188 hi hz0 hz1 hz2 rfl (by decide) _ _ _ rfl (HRW.out.alloc _) ⟨_, 0, none⟩ 1 1 (bc [bj]) rfl rfl (cell_byte _ _ _ rfl) (bc_one _) (by unfold maxLen; omega) (by omega) (by simp; omega) ?_; intro v1 w4 ho1 hg1 _ hl1; have HN : Hid (w4.ownsRow w.heap.size 5 1 v1 (y8 + (j + 1)) (bc (kb (ws.take y) ++ (bs x).take (j + 1))) ∧ Below w.heap.size w w4) := ⟨by rw [HTK.out, ← List.append_assoc, bc_app]; exact ho1, ((HBL.out.alloc HBL.out.size _).grown hg1 (Nat.le_trans HBL.out.size (by simp)) (fun b hb => (HRW.out.lt _ hb).1))⟩; obtain ⟨gg, cc, rfl, _, _⟩ := own_some ho1 (Nat.succ_pos _); clear ho1 hg1 hl1)
          go_roundw
          case rel => exact ⟨j + 1, _, rfl, congrArg (Value.int .i64) (by omega), hj8, HN.out.1, HN.out.2⟩
          case measure => simp [intOf]; omega
        · obtain rfl : j = 8 := by omega
          have HN : Hid (wr.ownsRow w.heap.size 5 1 (.slice ak1 (y8 + 8) ck1) (8 * (y + 1)) (bc (kb (ws.take (y + 1))))) := by
            have h1 := HRW.out
            rw [show (bs x).take 8 = bs x from rfl] at h1
            rw [HX.out.1, kb_up, show 8 * (y + 1) = y8 + 8 by have := HY8.out; omega]
            exact h1
          clear HRW
          go_wp2
          go_roundw
          case rel => exact ⟨y + 1, _, rfl, by go_num, hlt, HN.out, HBL.out⟩
          case measure => simp [intOf]; omega
    · obtain rfl : y = lw := by omega
      obtain ⟨kg, kcap, hke, _, _⟩ := own_some hrow (by omega)
      rw [Value.slice.injEq] at hke
      obtain ⟨hka, _, hkc⟩ := hke
      subst hka hkc
      rw [← HLW.out, List.take_length, HLW.out] at hrow
      have hcv := run_convert_bytes_arg (P := Tryd.prog) wr 188 5 Tryd.underlying188 Tryd.underlying5 kg 0 (8 * y) ck ((kb ws).map fun (x : Nat) => (x : Int)) (by rw [List.length_map, kb_len, HLW.out]; omega) (fun i hi => by
        rw [Nat.zero_add, hrow.cellAt i (by omega)]
        have hik : i < (kb ws).length := by rw [kb_len, HLW.out]; omega
        simp [bc, List.getD_eq_getElem?_getD, hik]) 9 Tryd.underlying9
      clear hrow HRW
      go_wp2
      go_ret
      exact ⟨rfl, HBL.out⟩
end Go.Proofs.YtfjocafepigijaaDoor.Ot
/- Fronts: how the starts, the sets and their ends lie; a set, an end, a start more. No conditions. -/
namespace Go.Proofs.YtfjocafepigijaaDoor.Ot
open Go.RowKit Mv Sy Po Ps Cm Pa Am Wd St Ra Set

def stc (l : List (Value × Nat)) : List Value := l.flatMap fun p => [p.1, .int .i64 ((p.2 : Nat) : Int)]
/-- a front lies at f -/
structure Fr (base : Nat) (w : World) (f : Nat) (vs vk ve : Value) (sts : List (Value × Nat)) (ks : List (Value × List Nat)) (es : List Bool) (M : Nat) : Prop where
  row : w.heap[f]? = some (.cells #[vs, vk, ve] 122 (0, 0))
  fge : base ≤ f
  starts : w.ownsRow base 125 2 vs sts.length (stc sts)
  sets : w.ownsRow base 77 1 vk ks.length (ks.map Prod.fst)
  ends : w.ownsRow base 4 1 ve es.length (es.map Value.bool)
  each : ∀ p ∈ ks, IsSet w base p.1 M p.2 ∧ p.2.length = (M + 63) / 64
  apart : ks.Pairwise fun p q => ∀ b, p.1.ownBlock = some b → q.1.ownBlock ≠ some b
def FrX (f : Nat) (vs vk ve : Value) (ks : List (Value × List Nat)) (b : Nat) : Prop := b = f ∨ vs.ownBlock = some b ∨ vk.ownBlock = some b ∨ ve.ownBlock = some b ∨ ∃ p ∈ ks, p.1.ownBlock = some b
section
variable {base : Nat} {w w1 w' : World} {f M : Nat} {vs vk ve : Value} {sts : List (Value × Nat)} {ks : List (Value × List Nat)} {es : List Bool}
theorem Fr.kept {X : Nat → Prop} (h : Fr base w f vs vk ve sts ks es M) (hk : Kp X w w') (hX : ∀ b, X b → ¬ FrX f vs vk ve ks b) : Fr base w' f vs vk ve sts ks es M :=
  ⟨(hk.block _ (lt_at h.row) (fun e => hX _ e (.inl rfl))).trans h.row, h.fge, own_kp2 h.starts hk (fun b hb e => hX b e (.inr (.inl hb))), own_kp2 h.sets hk (fun b hb e => hX b e (.inr (.inr (.inl hb)))), own_kp2 h.ends hk (fun b hb e => hX b e (.inr (.inr (.inr (.inl hb))))), fun p hp => ⟨⟨own_kp2 (h.each p hp).1.1 hk (fun b hb e => hX b e (.inr (.inr (.inr (.inr ⟨p, hp, hb⟩))))), (h.each p hp).1.2⟩, (h.each p hp).2⟩, h.apart⟩
theorem Fr.below (h : Fr base w f vs vk ve sts ks es M) (hb : Below w.heap.size w w') : Fr base w' f vs vk ve sts ks es M := h.kept (kp_below hb (fun _ => False)) (fun _ e => e.elim)
theorem Fr.X (h : Fr base w f vs vk ve sts ks es M) {b : Nat} (hb : FrX f vs vk ve ks b) : base ≤ b ∧ ∃ c ty, w.heap[b]? = some (.cells c ty (0, 0)) ∧ (ty = 122 ∨ ty = 125 ∨ ty = 77 ∨ ty = 4 ∨ ty = 136) := by
  rcases hb with rfl | hb | hb | hb | ⟨p, hp, hb⟩
  · exact ⟨h.fge, _, _, h.row, .inl rfl⟩
  · obtain ⟨c, hc⟩ := own_ty h.starts hb
    exact ⟨(h.starts.lt _ hb).1, c, _, hc, .inr (.inl rfl)⟩
  · obtain ⟨c, hc⟩ := own_ty h.sets hb
    exact ⟨(h.sets.lt _ hb).1, c, _, hc, .inr (.inr (.inl rfl))⟩
  · obtain ⟨c, hc⟩ := own_ty h.ends hb
    exact ⟨(h.ends.lt _ hb).1, c, _, hc, .inr (.inr (.inr (.inl rfl)))⟩
  · have hs := (h.each p hp).1.1
    obtain ⟨c, hc⟩ := own_ty hs hb
    exact ⟨(hs.lt _ hb).1, c, _, hc, .inr (.inr (.inr (.inr rfl)))⟩
/-- a row of a front is grown and laid into the front again: what is kept -/
theorem grow_kp {f j : Nat} {v v' : Value} (hg : w.grownBy w1 v.ownBlock) : Kp (fun b => b = f ∨ v.ownBlock = some b) w (w1.setCell ⟨f, j, none⟩ v') :=
  kp_then ((Kp.refl (fun b => b = f ∨ v.ownBlock = some b) w).grown hg (fun _ hb _ => .inr hb)) ((Kp.refl (fun b => b = f) w1).setCell _ _ _ (fun _ => rfl)) (fun _ _ e => .inl e)
theorem own_grow {e s n j : Nat} {v v' : Value} {xs : List Value} (ho : w1.ownsRow base e s v' n xs) (hf : w1.heap[f]? = some (.cells #[vs, vk, ve] 122 (0, 0))) (he : e ≠ 122) : (w1.setCell ⟨f, j, none⟩ v).ownsRow base e s v' n xs :=
  own_kp2 ho ((Kp.refl (fun b => b = f) w1).setCell _ _ _ (fun _ => rfl)) (fun b hb e1 => by subst e1; obtain ⟨c, hc⟩ := own_ty ho hb; exact ty_ne hc hf he)
theorem Fr.f1 {v : Value} {e s n : Nat} {xs : List Value} (h : Fr base w f vs vk ve sts ks es M) (hr : w.ownsRow base e s v n xs) (he : e ≠ 122) (hg : w.grownBy w1 v.ownBlock) : w1.heap[f]? = some (.cells #[vs, vk, ve] 122 (0, 0)) :=
  (((Kp.refl (fun b => v.ownBlock = some b) w).grown hg (fun b hb _ => hb)).block f (lt_at h.row) (fun e1 => by obtain ⟨c, hc⟩ := own_ty hr e1; exact ty_ne hc h.row he)).trans h.row
/-- a set more -/
theorem Fr.addSet {v v' : Value} {ws : List Nat} (h : Fr base w f vs vk ve sts ks es M) (ho : w1.ownsRow base 77 1 v' (ks.length + 1) (ks.map Prod.fst ++ [v])) (hg : w.grownBy w1 vk.ownBlock) (hs : IsSet w base v M ws) (hl : ws.length = (M + 63) / 64) (hap : ∀ p ∈ ks, ∀ b, p.1.ownBlock = some b → v.ownBlock ≠ some b) :
    Fr base (w1.setCell ⟨f, 1, none⟩ v') f vs v' ve sts (ks ++ [(v, ws)]) es M ∧ Kp (fun b => b = f ∨ vk.ownBlock = some b) w (w1.setCell ⟨f, 1, none⟩ v') := by
  have hf := h.f1 h.sets (by decide) hg
  have hk := grow_kp (f := f) (j := 1) (v' := v') hg
  have nt : ∀ {b : Nat} {c : Array Value} {ty : TypeId}, w.heap[b]? = some (.cells c ty (0, 0)) → ty ≠ 122 → ty ≠ 77 → ¬ (b = f ∨ vk.ownBlock = some b) := fun {b c ty} hb h1 h2 e => by
    rcases e with e | e
    · subst e; exact ty_ne hb h.row h1
    · obtain ⟨d, hd⟩ := own_ty h.sets e; exact ty_ne hb hd h2
  have old : ∀ {e s n : Nat} {v : Value} {xs : List Value}, w.ownsRow base e s v n xs → e ≠ 122 → e ≠ 77 → (w1.setCell ⟨f, 1, none⟩ v').ownsRow base e s v n xs := fun {e s n v xs} hr h1 h2 => own_kp2 hr hk (fun b hb => by obtain ⟨c, hc⟩ := own_ty hr hb; exact nt hc h1 h2)
  refine ⟨⟨heap_setCell_same w1 f 1 _ 122 v' hf, h.fge, old h.starts (by decide) (by decide), ?_, old h.ends (by decide) (by decide), fun p hp => ?_, List.pairwise_append.2 ⟨h.apart, List.pairwise_singleton _ _, fun p hp q hq b hb => ?_⟩⟩, hk⟩
  · rw [List.length_append, List.map_append]
    exact own_grow ho hf (by decide)
  · rcases List.mem_append.1 hp with hp | hp
    · exact ⟨⟨old (h.each p hp).1.1 (by decide) (by decide), (h.each p hp).1.2⟩, (h.each p hp).2⟩
    · rw [List.mem_singleton.1 hp]; exact ⟨⟨old hs.1 (by decide) (by decide), hs.2⟩, hl⟩
  · rw [List.mem_singleton.1 hq]; exact hap p hp b hb
/-- an end more -/
theorem Fr.addEnd {v' : Value} {b : Bool} (h : Fr base w f vs vk ve sts ks es M) (ho : w1.ownsRow base 4 1 v' (es.length + 1) (es.map Value.bool ++ [.bool b])) (hg : w.grownBy w1 ve.ownBlock) :
    Fr base (w1.setCell ⟨f, 2, none⟩ v') f vs vk v' sts ks (es ++ [b]) M ∧ Kp (fun b => b = f ∨ ve.ownBlock = some b) w (w1.setCell ⟨f, 2, none⟩ v') := by
  have hf := h.f1 h.ends (by decide) hg
  have hk := grow_kp (f := f) (j := 2) (v' := v') hg
  have nt : ∀ {b : Nat} {c : Array Value} {ty : TypeId}, w.heap[b]? = some (.cells c ty (0, 0)) → ty ≠ 122 → ty ≠ 4 → ¬ (b = f ∨ ve.ownBlock = some b) := fun {b c ty} hb h1 h2 e => by
    rcases e with e | e
    · subst e; exact ty_ne hb h.row h1
    · obtain ⟨d, hd⟩ := own_ty h.ends e; exact ty_ne hb hd h2
  have old : ∀ {e s n : Nat} {v : Value} {xs : List Value}, w.ownsRow base e s v n xs → e ≠ 122 → e ≠ 4 → (w1.setCell ⟨f, 2, none⟩ v').ownsRow base e s v n xs := fun {e s n v xs} hr h1 h2 => own_kp2 hr hk (fun b hb => by obtain ⟨c, hc⟩ := own_ty hr hb; exact nt hc h1 h2)
  refine ⟨⟨heap_setCell_same w1 f 2 _ 122 v' hf, h.fge, old h.starts (by decide) (by decide), old h.sets (by decide) (by decide), ?_, fun p hp => ⟨⟨old (h.each p hp).1.1 (by decide) (by decide), (h.each p hp).1.2⟩, (h.each p hp).2⟩, h.apart⟩, hk⟩
  rw [List.length_append, List.map_append]
  exact own_grow ho hf (by decide)
/-- a start more -/
theorem Fr.addStart {v' t : Value} {k : Nat} (h : Fr base w f vs vk ve sts ks es M) (ho : w1.ownsRow base 125 2 v' (sts.length + 1) (stc sts ++ [t, .int .i64 ((k : Nat) : Int)])) (hg : w.grownBy w1 vs.ownBlock) :
    Fr base (w1.setCell ⟨f, 0, none⟩ v') f v' vk ve (sts ++ [(t, k)]) ks es M ∧ Kp (fun b => b = f ∨ vs.ownBlock = some b) w (w1.setCell ⟨f, 0, none⟩ v') := by
  have hf := h.f1 h.starts (by decide) hg
  have hk := grow_kp (f := f) (j := 0) (v' := v') hg
  have nt : ∀ {b : Nat} {c : Array Value} {ty : TypeId}, w.heap[b]? = some (.cells c ty (0, 0)) → ty ≠ 122 → ty ≠ 125 → ¬ (b = f ∨ vs.ownBlock = some b) := fun {b c ty} hb h1 h2 e => by
    rcases e with e | e
    · subst e; exact ty_ne hb h.row h1
    · obtain ⟨d, hd⟩ := own_ty h.starts e; exact ty_ne hb hd h2
  have old : ∀ {e s n : Nat} {v : Value} {xs : List Value}, w.ownsRow base e s v n xs → e ≠ 122 → e ≠ 125 → (w1.setCell ⟨f, 0, none⟩ v').ownsRow base e s v n xs := fun {e s n v xs} hr h1 h2 => own_kp2 hr hk (fun b hb => by obtain ⟨c, hc⟩ := own_ty hr hb; exact nt hc h1 h2)
  refine ⟨⟨heap_setCell_same w1 f 0 _ 122 v' hf, h.fge, ?_, old h.sets (by decide) (by decide), old h.ends (by decide) (by decide), fun p hp => ⟨⟨old (h.each p hp).1.1 (by decide) (by decide), (h.each p hp).1.2⟩, (h.each p hp).2⟩, h.apart⟩, hk⟩
  rw [List.length_append, show stc (sts ++ [(t, k)]) = stc sts ++ [t, .int .i64 ((k : Nat) : Int)] by simp [stc]]
  exact own_grow ho hf (by decide)
end
/-- has a set a node from which nothing need be written? -/
def en (N : Nat → Nat) (ws : List Nat) : Bool := (Za.ms ws).any fun v => N v == 0
theorem en_iff {N : Nat → Nat} {ws : List Nat} {M : Nat} (hn : M ≤ 64 * ws.length) (hmb : ∀ v, mem ws v = true → v < M) : en N ws = true ↔ ∃ v, mem ws v = true ∧ N v = 0 := by
  unfold en
  rw [Za.ms_all ws M hn hmb, List.any_eq_true]
  constructor
  · rintro ⟨v, hv, h⟩
    exact ⟨v, (List.mem_filter.1 hv).2, by simpa using h⟩
  · rintro ⟨v, hv, h⟩
    exact ⟨v, List.mem_filter.2 ⟨List.mem_range.2 (hmb v hv), hv⟩, by simpa using h⟩
end Go.Proofs.YtfjocafepigijaaDoor.Ot
/- put (63): a set more in a front, and whether one of its nodes needs nothing. Conditions: as in spread; at most 100,000 sets. -/
namespace Go.Proofs.YtfjocafepigijaaDoor.Ot
open Go.RowKit Go.Shelf Mv Sy Po Ps Cm Pa Am Wd St Ra Set Rf Tz Za
attribute [local go_sem] Oper.semAt_some

theorem inf77 : (Tryd.prog.info? 77).map (fun i => (i.zero, i.size, i.bytes)) = some (some (.slice none 0 0), 1, 24) := by kernel_rfl
theorem inf4 : (Tryd.prog.info? 4).map (fun i => (i.zero, i.size, i.bytes)) = some (some (.bool false), 1, 1) := by kernel_rfl
/-- what holds between two rounds -/
def InvE (w : World) (N : Nat → Nat) (T bE p4 : Nat) (pre : List Nat) (O : Nat → Prop) (A : World) : Prop :=
  Boxed A bE 4 (.bool (pre.any fun v => N v == 0)) ∧ Boxed A p4 60 (.pointer (some ⟨T, 0, none⟩)) ∧ Below w.heap.size w A ∧ O = (fun q => q = bE)
theorem InvE.past {w : World} {N : Nat → Nat} {T bE p4 l : Nat} {pre : List Nat} {O : Nat → Prop} {A B : World} (h : InvE w N T bE p4 pre O A) (hp : Past l A B) (h1 : bE < l) (h2 : p4 < l) (h3 : w.heap.size ≤ l) : InvE w N T bE p4 pre O B :=
  ⟨(hp.block _ h.1.lt (by omega)).trans h.1, (hp.block _ h.2.1.lt (by omega)).trans h.2.1, below_past hp h.2.2.1 h.2.2.1.size h3, h.2.2.2⟩
theorem sl_one (v : Value) (h : v.oneCell' = true) : ∀ u ∈ [v], u.oneCell' = true := fun u hu => by rw [List.mem_singleton.1 hu]; exact h
theorem below_al (W : World) (o : Obj) : Below W.heap.size W (W.alloc o) := (Below.refl _ _).alloc (Nat.le_refl _) _
theorem grown_undrew {w w' : World} {r : Option Nat} (h : w.drew.grownBy w' r) : w.grownBy w' r := ⟨h.os, h.tape, h.output, h.size, h.block⟩
theorem cell_bool (w : World) (g : Nat) (b : Bool) (hg : g = w.heap.size) : ∀ j u, [Value.bool b][j]? = some u → (w.alloc (.cells #[.bool b] 4)).drew.cell? ((⟨g, 0, none⟩ : Addr).add j) = some u := by
  subst hg
  exact cell_one_new w (.bool b) 4
theorem own_new {u v : Value} {n m : Nat} (h : u.ownBlock = v.ownBlock ∨ u.ownBlock = some m) (hn : n ≤ m) : ∀ b, u.ownBlock = some b → v.ownBlock = some b ∨ n ≤ b := fun b hb => by
  rcases h with h | h
  · exact .inl (h ▸ hb)
  · rw [h] at hb; cases hb; exact .inr hn
theorem endE {w A : World} {N : Nat → Nat} {T bE p4 x : Nat} {pre : List Nat} {b b' : Bool} (hE : Boxed A bE 4 (.bool b)) (h4 : Boxed A p4 60 (.pointer (some ⟨T, 0, none⟩))) (hB : Below w.heap.size w A) (hle : w.heap.size ≤ bE) (hb : ((pre ++ [x]).any fun v => N v == 0) = b') :
    ∃ O', Kept (fun q => q = bE) O' A (A.setCell ⟨bE, 0, none⟩ (.bool b')) ∧ InvE w N T bE p4 (pre ++ [x]) O' (A.setCell ⟨bE, 0, none⟩ (.bool b')) := by
  have hk : Kp (fun b => b = bE) A (A.setCell ⟨bE, 0, none⟩ (.bool b')) := (Kp.refl _ A).setCell _ _ _ (fun _ => rfl)
  refine ⟨fun q => q = bE, ⟨hk.os, hk.tape, hk.output, hk.size, fun q hq hn => ⟨hn, hk.block q hq hn⟩⟩, by rw [hb]; exact hE.set _, (hk.block _ h4.lt (fun e => by subst e; exact ty_ne h4 hE (by decide))).trans h4, ?_, rfl⟩
  exact ⟨hk.os.trans hB.os, hk.tape.trans hB.tape, hk.output.trans hB.output, Nat.le_trans hB.size hk.size, fun k hk2 => (hk.block k (Nat.lt_of_lt_of_le hk2 hB.size) (fun e => by omega)).trans (hB.block k hk2)⟩
def PuQ (base f M : Nat) (w : World) (vs vk ve v : Value) (sts : List (Value × Nat)) (ks : List (Value × List Nat)) (es : List Bool) (ws : List Nat) (N : Nat → Nat) (e : Ending) (w' : World) : Prop :=
  e = .returned (.int .i64 (ks.length : Int)) ∧ ∃ vk' ve', Fr base w' f vs vk' ve' sts (ks ++ [(v, ws)]) (es ++ [en N ws]) M ∧ Kp (fun b => b = f ∨ vk.ownBlock = some b ∨ ve.ownBlock = some b) w w' ∧ (∀ b, vk'.ownBlock = some b → vk.ownBlock = some b ∨ w.heap.size ≤ b) ∧ ∀ b, ve'.ownBlock = some b → ve.ownBlock = some b ∨ w.heap.size ≤ b
set_option maxHeartbeats 4000000 in
set_option maxRecDepth 100000 in
theorem put_any (base b2 f T S sb ci nb cN M : Nat) (ai : Option Addr) (tx : List Int) (R : Nat → List Arc) (V : Nat → Value) (N : Nat → Nat) (vs vk ve v : Value) (sts : List (Value × Nat)) (ks : List (Value × List Nat)) (es : List Bool) (ws : List Nat) (w : World)
    (hT : Tr b2 w T S sb ci nb cN M ai tx R V N) (hTab : TabAt 0 Lib.deBruijn64tab w) (hF : Fr base w f vs vk ve sts ks es M) (hset : IsSet w base v M ws) (hlen : ws.length = (M + 63) / 64) (hmb : ∀ x, mem ws x = true → x < M) (hap : ∀ p ∈ ks, ∀ b, p.1.ownBlock = some b → v.ownBlock ≠ some b) (hks : ks.length ≤ 100000) (hes : es.length = ks.length) (hbs : base ≤ w.heap.size) :
    Calls Tryd.prog 63 #[.pointer (some ⟨f, 0, none⟩), .pointer (some ⟨T, 0, none⟩), v] w (PuQ base f M w vs vk ve v sts ks es ws N) := by
  obtain ⟨i7, hi7, hy0, hy1, hy2⟩ := info_parts inf77
  obtain ⟨i4, hi4, hx0, hx1, hx2⟩ := info_parts inf4
  obtain ⟨av, cv, rfl⟩ := oslice hset.1
  have h00 : 0 < w.heap.size := Nat.lt_of_le_of_lt (Nat.zero_le _) (lt_at hT.trk)
  have HML : Hid (∀ x ∈ ms ws, x < M) := by
    intro x hx
    rw [ms_all ws M hset.2.2.1 hmb] at hx
    exact hmb x (List.mem_filter.1 hx).2
  refine (callsIn_wide (n := 5)).1 ?_
  refine callsIn_of_wp_marks Tryd.func63 rfl trivial (wpIn_wide.2 ?_) rfl
  simp only [Tryd.ntmps63, List.size_toArray, List.length_cons, List.length_nil, Nat.reduceAdd, Nat.reduceSub, Array.replicate_succ, Array.replicate_zero, List.push_toArray, List.append_toArray, List.nil_append, List.cons_append]
  have b1 := (Below.refl w.heap.size w).alloc (Nat.le_refl _) (.cells #[.pointer (some ⟨T, 0, none⟩)] 60)
  have b2' := b1.alloc b1.size (.cells #[.bool false] 4)
  have b3 := b2'.alloc b2'.size (.cells #[.slice av ws.length cv] 77)
  have s1 : (w.alloc (.cells #[.pointer (some ⟨T, 0, none⟩)] 60)).heap.size = w.heap.size + 1 := by simp
  have s2 : ((w.alloc (.cells #[.pointer (some ⟨T, 0, none⟩)] 60)).alloc (.cells #[.bool false] 4)).heap.size = w.heap.size + 2 := by simp
  have s3 : (((w.alloc (.cells #[.pointer (some ⟨T, 0, none⟩)] 60)).alloc (.cells #[.bool false] 4)).alloc (.cells #[.slice av ws.length cv] 77)).heap.size = w.heap.size + 3 := by simp
  have x4 : Boxed (((w.alloc (.cells #[.pointer (some ⟨T, 0, none⟩)] 60)).alloc (.cells #[.bool false] 4)).alloc (.cells #[.slice av ws.length cv] 77)) w.heap.size 60 (.pointer (some ⟨T, 0, none⟩)) := ((Boxed.new w 60 _).alloc _).alloc _
  have x7 : Boxed (((w.alloc (.cells #[.pointer (some ⟨T, 0, none⟩)] 60)).alloc (.cells #[.bool false] 4)).alloc (.cells #[.slice av ws.length cv] 77)) (w.heap.size + 1) 4 (.bool false) := by
    rw [← s1]; exact (Boxed.new _ 4 _).alloc _
  have xB : (((w.alloc (.cells #[.pointer (some ⟨T, 0, none⟩)] 60)).alloc (.cells #[.bool false] 4)).alloc (.cells #[.slice av ws.length cv] 77)).heap[w.heap.size + 2]? = some (.cells #[.slice av ws.length cv] 77 (0, 0)) := by
    rw [← s2]; exact heap_alloc_new _ _
  have K43 := members_any av ws.length cv ((w.alloc (.cells #[.pointer (some ⟨T, 0, none⟩)] 60)).alloc (.cells #[.bool false] 4))
  have HBV : Hid (Below w.heap.size w (((w.alloc (.cells #[.pointer (some ⟨T, 0, none⟩)] 60)).alloc (.cells #[.bool false] 4)).alloc (.cells #[.slice av ws.length cv] 77))) := b3
  have HX : Hid (Boxed (((w.alloc (.cells #[.pointer (some ⟨T, 0, none⟩)] 60)).alloc (.cells #[.bool false] 4)).alloc (.cells #[.slice av ws.length cv] 77)) w.heap.size 60 (.pointer (some ⟨T, 0, none⟩)) ∧ Boxed (((w.alloc (.cells #[.pointer (some ⟨T, 0, none⟩)] 60)).alloc (.cells #[.bool false] 4)).alloc (.cells #[.slice av ws.length cv] 77)) (w.heap.size + 1) 4 (.bool false) ∧ (((w.alloc (.cells #[.pointer (some ⟨T, 0, none⟩)] 60)).alloc (.cells #[.bool false] 4)).alloc (.cells #[.slice av ws.length cv] 77)).heap[w.heap.size + 2]? = some (.cells #[.slice av ws.length cv] 77 (0, 0)) ∧ (((w.alloc (.cells #[.pointer (some ⟨T, 0, none⟩)] 60)).alloc (.cells #[.bool false] 4)).alloc (.cells #[.slice av ws.length cv] 77)).heap.size = w.heap.size + 3) := ⟨x4, x7, xB, s3⟩
  have HH : Hid (Tr b2 w T S sb ci nb cN M ai tx R V N ∧ TabAt 0 Lib.deBruijn64tab w ∧ Fr base w f vs vk ve sts ks es M ∧ IsSet w base (.slice av ws.length cv) M ws ∧ ws.length = (M + 63) / 64 ∧ (∀ p ∈ ks, ∀ b, p.1.ownBlock = some b → (Value.slice av ws.length cv).ownBlock ≠ some b) ∧ es.length = ks.length ∧ base ≤ w.heap.size ∧ 0 < w.heap.size) := ⟨hT, hTab, hF, hset, hlen, hap, hes, hbs, h00⟩
  clear hT hTab hF hset hlen hmb hap hes hbs b1 b2' b3 s1 s2 s3 x4 x7 xB h00
  go_wp2_with (go_at_call 43; (with_reducible refine K43.mono ?_); clear K43; rintro e w1 ⟨rfl, rfl⟩)
  generalize ((w.alloc (.cells #[.pointer (some ⟨T, 0, none⟩)] 60)).alloc (.cells #[.bool false] 4)).alloc (.cells #[.slice av ws.length cv] 77) = V1 at *
  have hs3 := HX.out.2.2.2
  refine wpIn_wide.1 (range_tells (n := 5) rfl (by omega) (gf := 70) (lb := #[.pointer (some ⟨w.heap.size + 2, 0, none⟩)]) ?hgg trivial (enters_of Tryd.func70 (by kernel_rfl) rfl)
    (members_tells ws M base (.slice av ws.length cv) w V1 (w.heap.size + 2) (5 - 1) (by omega) HH.out.2.2.2.1 HH.out.2.1 HH.out.2.2.2.2.2.2.2.2 HBV.out HX.out.2.2.1 HH.out.2.2.2.1.2.2.2) (Below.refl _ _) ?hX (fun _ => rfl) (InvE w N T (w.heap.size + 1) w.heap.size) ?hI ?hO (fun q => q = w.heap.size + 1) ?h0 ?hround ?hdone)
  case hgg => rfl
  case hX =>
    rintro q (hq | rfl)
    · omega
    · omega
  case hI =>
    intro pre O A B hi hr hp
    exact hi.past hp (by omega) (by omega) (by omega)
  case hO =>
    rintro pre O A q ⟨h1, h2, h3, rfl⟩ rfl
    exact ⟨by omega, h1.lt, by omega, by omega⟩
  case h0 =>
    intro A hA
    exact ⟨(hA.block _ (by omega)).trans HX.out.2.1, (hA.block _ (by omega)).trans HX.out.1, HBV.out.trans (hA.mono HBV.out.size), rfl⟩
  case hround =>
    rintro pre O x A hA hrec hinv hpre
    have hxM : x < M := HML.out x (hpre.subset (by simp))
    refine ⟨{ tmps := #[.pointer (some ⟨f, 0, none⟩), .pointer (some ⟨T, 0, none⟩), .slice av ws.length cv, undef, .pointer (some ⟨w.heap.size, 0, none⟩), undef, .int .i64 0, .pointer (some ⟨w.heap.size + 1, 0, none⟩), .int .i64 (x : Int), .slice av ws.length cv, .func (.func 70) #[] #[.pointer (some ⟨w.heap.size + 1 + 1, 0, none⟩)], .int .i64 (x : Int), undef, undef, undef, undef, undef, undef, undef, undef, undef, undef, undef, undef, undef, undef, undef, undef, undef, undef, undef, undef, undef, undef, undef, undef, undef, undef, undef, undef, undef, undef, undef, undef, undef, undef, undef, undef, undef], defers := [] }, A, ?_, Below.refl _ _, ?_⟩
    · intro K hK
      clear hs3
      gi_wp2
      exact hK
    · intro r
      obtain ⟨A', hA'⟩ : ∃ A', A.putObj (V1.heap.size + 1) (.loop r) = A' := ⟨_, rfl⟩
      have hP : Past (V1.heap.size + 1) A A' := by rw [← hA']; exact Past.put _ _ _
      have hinv' := hinv.past hP (by omega) (by omega) (by omega)
      rw [hA']
      clear hA' hP hinv hrec hpre
      obtain ⟨hE, h4, hBA, rfl⟩ := hinv'
      have HI : Hid (Boxed A' (w.heap.size + 1) 4 (.bool (pre.any fun v => N v == 0)) ∧ Boxed A' w.heap.size 60 (.pointer (some ⟨T, 0, none⟩)) ∧ Below w.heap.size w A') := ⟨hE, h4, hBA⟩
      have hc := hE.cell
      have hfz := hE.frozen
      have hc4 := h4.cell
      have hT2 := HH.out.1.below (hBA.mono HH.out.1.le)
      have t3 := cell_of_row _ _ 3 _ _ _ hT2.trk
      have nc := hT2.need x hxM
      have hcN := hT2.cap
      obtain ⟨nx, hnx⟩ : ∃ nx, N x = nx := ⟨_, rfl⟩
      rw [hnx] at nc
      have HNX : Hid (N x = nx) := hnx
      obtain ⟨pa, hpa⟩ : ∃ pa, (pre.any fun v => N v == 0) = pa := ⟨_, rfl⟩
      rw [hpa] at hc
      have HPA : Hid ((pre.any fun v => N v == 0) = pa) := hpa
      clear hE h4 hBA hT2 hnx hpa hs3
      cases pa with
      | true =>
        gi_wp2
        exact endE HI.out.1 HI.out.2.1 HI.out.2.2 (by omega) (by rw [List.any_append, HPA.out, Bool.true_or])
      | false =>
        gi_wp2
        exact endE HI.out.1 HI.out.2.1 HI.out.2.2 (by omega) (by rw [List.any_append, HPA.out]; show (false || ((N x == 0) || false)) = _; rw [HNX.out, Bool.false_or, Bool.or_false]; first | rfl | (cases nx <;> rfl) | (by_cases h : nx = 0 <;> simp [h]))
  case hdone =>
    rintro ys O A hA hS ⟨hE, h4, hBA, rfl⟩ hdf
    subst hS
    have hFA : Fr base A f vs vk ve sts ks es M := HH.out.2.2.1.below hBA
    obtain ⟨ak, ck, rfl⟩ := oslice hFA.sets
    obtain ⟨ae, ce, rfl⟩ := oslice hFA.ends
    have HFA : Hid (Fr base (A.alloc (.cells #[.slice av ws.length cv] 77)) f vs (.slice ak ks.length ck) (.slice ae es.length ce) sts ks es M) := hFA.below ((Below.refl _ _).alloc (Nat.le_refl _) _)
    have HSA : Hid (IsSet (A.alloc (.cells #[.slice av ws.length cv] 77)) base (.slice av ws.length cv) M ws) := ⟨(own_kp2 HH.out.2.2.2.1.1 (kp_below hBA (fun _ => False)) (fun _ _ => id)).alloc _, HH.out.2.2.2.1.2⟩
    have HB : Hid (Boxed A (w.heap.size + 1) 4 (.bool (en N ws)) ∧ Below w.heap.size w A ∧ A.heap[V1.heap.size]? = some (.deferred (some [])) ∧ w.heap.size + 3 ≤ A.heap.size) := ⟨hE, hBA, hdf, by omega⟩
    have k1 := cell_of_row _ _ 1 _ _ _ hFA.row
    have HK0 : Hid (Kp (fun _ => False) w (A.alloc (.cells #[.slice av ws.length cv] 77))) := (kp_below hBA _).trans (kp_below ((Below.refl _ _).alloc (Nat.le_refl _) _) _)
    have hsz : base ≤ A.heap.size := Nat.le_trans HH.out.2.2.2.2.2.2.2.1 hBA.size
    have HS3 : Hid (V1.heap.size = w.heap.size + 3) := hs3
    clear hFA hE h4 hBA hdf hs3
    try simp only [Exit.inBlock, Exit.then]
    go_wp2_with (refine wpList_append_own_at _ rfl _ _ 120 rfl base 77 i7 (.slice none 0 0) 1 24 Tryd.underlying120 hi7 hy0 hy1 hy2 rfl (by decide) _ _ _ rfl HFA.out.sets ⟨_, 0, none⟩ 1 1 [.slice av ws.length cv] rfl rfl (cell_one_new _ _ _) (sl_one _ rfl) (by unfold maxLen; omega) (by omega) (by simp; omega) ?_; intro v1 w5 ho1 hg1 _ hl1; obtain ⟨g1, c1, rfl, _, _⟩ := own_some ho1 (Nat.succ_pos _); have hfr := HFA.out.f1 HFA.out.sets (by decide) hg1; have k2 := cell_of_row _ _ 1 _ _ _ hfr; have k3 := frozen_of_row _ _ 1 _ _ hfr; have HN : Hid _ := HFA.out.addSet ho1 hg1 HSA.out HH.out.2.2.2.2.1 HH.out.2.2.2.2.2.1; have HL1 : Hid (∀ b, (Value.slice (some ⟨g1, 0, none⟩) (ks.length + 1) c1).ownBlock = some b → (Value.slice ak ks.length ck).ownBlock = some b ∨ w.heap.size ≤ b) := own_new hl1 HK0.out.size; clear ho1 hg1 hl1 hfr)
    have HB2 : Hid (Boxed (w5.setCell ⟨f, 1, none⟩ (.slice (some ⟨g1, 0, none⟩) (ks.length + 1) c1)) (w.heap.size + 1) 4 (.bool (en N ws)) ∧ (w5.setCell ⟨f, 1, none⟩ (.slice (some ⟨g1, 0, none⟩) (ks.length + 1) c1)).heap[V1.heap.size]? = some (.deferred (some [])) ∧ Kp (fun b => b = f ∨ (Value.slice ak ks.length ck).ownBlock = some b ∨ (Value.slice ae es.length ce).ownBlock = some b) w (w5.setCell ⟨f, 1, none⟩ (.slice (some ⟨g1, 0, none⟩) (ks.length + 1) c1))) := by
      have hfl : f < w.heap.size := lt_at HH.out.2.2.1.row
      have hb1 := (HB.out.1.alloc (.cells #[.slice av ws.length cv] 77))
      have hd1 := (heap_alloc_old A (.cells #[.slice av ws.length cv] 77) (lt_at HB.out.2.2.1)).trans HB.out.2.2.1
      refine ⟨(HN.out.2.block _ hb1.lt (fun e => ?_)).trans hb1, (HN.out.2.block _ (lt_at hd1) (fun e => ?_)).trans hd1, kp_then ((HK0.out).mono (fun _ _ e => e.elim)) HN.out.2 (fun i _ e => ?_)⟩
      · rcases e with e | e
        · omega
        · obtain ⟨c, hc⟩ := own_ty HFA.out.sets e; exact ty_ne hc hb1 (by decide)
      · rcases e with e | e
        · have := HS3.out; omega
        · obtain ⟨c, hc⟩ := own_ty HFA.out.sets e; rw [hd1] at hc; cases hc
      · rcases e with e | e
        · exact .inl e
        · exact .inr (.inl e)
    have HF2 : Hid (Fr base (w5.setCell ⟨f, 1, none⟩ (.slice (some ⟨g1, 0, none⟩) (ks.length + 1) c1)) f vs (.slice (some ⟨g1, 0, none⟩) (ks.length + 1) c1) (.slice ae es.length ce) sts (ks ++ [(.slice av ws.length cv, ws)]) es M) := HN.out.1
    have HZ2 : Hid (base ≤ (w5.setCell ⟨f, 1, none⟩ (.slice (some ⟨g1, 0, none⟩) (ks.length + 1) c1)).heap.size) := Nat.le_trans HH.out.2.2.2.2.2.2.2.1 HB2.out.2.2.size
    clear HN k1 k2 k3 HFA HSA HB HK0 hsz
    generalize w5.setCell ⟨f, 1, none⟩ (.slice (some ⟨g1, 0, none⟩) (ks.length + 1) c1) = W2 at *
    have k2 := cell_of_row _ _ 2 _ _ _ HF2.out.row
    have k22 : ∀ o, (W2.alloc o).cell? ⟨f, 2, none⟩ = some (.slice ae es.length ce) := fun o => cell_of_row _ _ 2 _ _ _ (HF2.out.below ((Below.refl _ _).alloc (Nat.le_refl _) o)).row
    have kE := HB2.out.1.cell
    have HES : Hid (es.length ≤ 100000) := by show _ ≤ _; rw [HH.out.2.2.2.2.2.2.1]; exact hks
    go_cut [] from 33 to 43 (fun wx => ∃ v2, Fr base wx f vs (.slice (some ⟨g1, 0, none⟩) (ks.length + 1) c1) v2 sts (ks ++ [(.slice av ws.length cv, ws)]) (es ++ [en N ws]) M ∧ Kp (fun b => b = f ∨ (Value.slice ae es.length ce).ownBlock = some b) W2 wx ∧ ∀ b, v2.ownBlock = some b → (Value.slice ae es.length ce).ownBlock = some b ∨ W2.heap.size ≤ b)
    case first =>
      refine wp_region_noPanic ?_
      go_region_law (refine step_append_at rfl (.tmp 37) (.tmp 39) 67 rfl base 4 i4 (.bool false) 1 1 Tryd.underlying67 hi4 hx0 hx1 hx2 rfl (by decide) _ _ _ rfl (HF2.out.ends.alloc _).drew ⟨_, 0, none⟩ 1 1 [.bool (en N ws)] rfl rfl (cell_bool _ _ _ (by simp)) (sl_one _ rfl) (by have := HES.out; unfold maxLen; omega) (by have := HES.out; omega) (by have := HZ2.out; simp; omega) ?_; intro v1 w6 ho1 hg1 hl1; obtain ⟨g2, c2, rfl, _, _⟩ := own_some ho1 (Nat.succ_pos _); have hfr := (HF2.out.below ((below_al W2 (.cells #[.bool (en N ws)] 4)))).f1 (HF2.out.ends.alloc _) (by decide) (grown_undrew hg1); have q2 := cell_of_row _ _ 2 _ _ _ hfr; have q3 := frozen_of_row _ _ 2 _ _ hfr; have HN : Hid _ := (HF2.out.below (below_al W2 (.cells #[.bool (en N ws)] 4))).addEnd ho1 (grown_undrew hg1); have HL2 : Hid _ := own_new hl1 (below_al W2 (.cells #[.bool (en N ws)] 4)).size; clear ho1 hg1 hl1 hfr)
      all_goals (refine NoPanic.normal ?_; go_wp2_with fail; go_meet)
      all_goals exact ⟨_, HN.out.1, kp_then (kp_below (below_al W2 (.cells #[.bool (en N ws)] 4)) _) HN.out.2 (fun _ _ e => e), HL2.out⟩
    case rest =>
    obtain ⟨v2, hf3, hk3, hl3⟩ := hcut
    have HL3 : Hid (∀ b, v2.ownBlock = some b → (Value.slice ae es.length ce).ownBlock = some b ∨ w.heap.size ≤ b) := fun b hb => (hl3 b hb).imp id (Nat.le_trans HB2.out.2.2.size)
    clear hl3
    have HF3 : Hid (Fr base wc f vs (.slice (some ⟨g1, 0, none⟩) (ks.length + 1) c1) v2 sts (ks ++ [(.slice av ws.length cv, ws)]) (es ++ [en N ws]) M) := hf3
    have HK3 : Hid (Kp (fun b => b = f ∨ (Value.slice ak ks.length ck).ownBlock = some b ∨ (Value.slice ae es.length ce).ownBlock = some b) w wc ∧ wc.heap[V1.heap.size]? = some (.deferred (some []))) := by
      refine ⟨kp_then HB2.out.2.2 hk3 (fun i _ e => e.imp id .inr), (hk3.block _ (lt_at HB2.out.2.1) (fun e => ?_)).trans HB2.out.2.1⟩
      rcases e with e | e
      · have := lt_at HH.out.2.2.1.row; have := HS3.out; omega
      · obtain ⟨c, hc⟩ := own_ty HF2.out.ends e; rw [HB2.out.2.1] at hc; cases hc
    have m1 := cell_of_row _ _ 1 _ _ _ hf3.row
    clear hf3 hk3 k2 k22 kE
    go_wp2
    refine ⟨by simp, .inl ⟨_, _, rfl, run_takeDeferred HK3.out.2, ?_⟩⟩
    have hP := Past.put V1.heap.size wc (.deferred none)
    have hkp : Kp (fun b => b = V1.heap.size) wc (wc.putObj V1.heap.size (.deferred none)) := ⟨hP.os, hP.tape, hP.output, hP.size, fun k hk hn => hP.block k hk hn⟩
    refine ⟨_, results_tmp rfl _ _ _, ?_, _, _, HF3.out.kept hkp (fun b e1 e2 => ?_), kp_then HK3.out.1 hkp (fun i hi e => ?_), HL1.out, HL3.out⟩
    · show Ending.returned (.int .i64 _) = _
      congr 2
    · subst e1
      obtain ⟨_, c, ty, hc, _⟩ := HF3.out.X e2
      rw [HK3.out.2] at hc
      cases hc
    · have := HS3.out; omega
end Go.Proofs.YtfjocafepigijaaDoor.Ot
