/- The field's map from labels to arcs, as a function of both numbers. Condition: both are numbers of 64 bits. -/
import Derived.Test.YtfjocafepigijaaDoorSeM
import Derived.Maps.Own
import Derived.Maps.Views
import Derived.DeepKeys4
import Derived.WideKeyEntry
namespace Go.Proofs.YtfjocafepigijaaDoor.Mp
open Go.RowKit Mv Po Se Wd
open Go.WideMaps Go.WideElems
open Go.ChangeMaps (setBlock heap_setBlock_same heap_setBlock_other)
open Go.Maps (Keyed)

theorem laid : laidOutB Tryd.prog = true := by kernel_rfl
theorem row61 : (169 : TypeId) < Tryd.prog.types.size := of_decide_eq_true (by kernel_rfl)
theorem wide61 : (match Tryd.prog.underlying 169 with | some (.array _ _) | some (.struct _) => true | _ => false) = true := by kernel_rfl
set_option maxRecDepth 1000000 in
theorem law61 : KeyLaw Tryd.prog 169 := deep_law_laid laid (m := 3) (by omega) row61 (by kernel_rfl) wide61
set_option maxRecDepth 1000000 in
theorem keyed : Keyed Tryd.prog 169 := Keyed.of_law law61
set_option maxRecDepth 1000000 in
theorem keyType61 : Tryd.prog.keyType 169 = true := by kernel_rfl
theorem cells61 : Tryd.prog.cellsOf 169 = 2 := by kernel_rfl
theorem cells3 : Tryd.prog.cellsOf 3 = 1 := by kernel_rfl
theorem size89 : ∃ d, Tryd.prog.types.size + 1 = d + 1 + 1 := ⟨213, by kernel_rfl⟩
theorem lits3 (d : Nat) (n : Int) (h : (Lit.int .i64 n).wf = true) : Tryd.prog.keyLits (d + 1) 3 [.int .i64 n] = some [.int .i64 n] := by
  unfold Program.keyLits
  simp [Tryd.underlying3, h]
def W64 (i : Int) : Prop := (Lit.int .i64 i).wf = true
def kl (i o : Int) : Lit := .string (keyBytes [.int .i64 i, .int .i64 o])
theorem keyOf_label (i o : Int) (hi : W64 i) (ho : W64 o) : keyOf Tryd.prog 169 (.agg #[.int .i64 i, .int .i64 o]) = some (kl i o) := by
  unfold W64 at hi ho
  unfold keyOf
  simp only [Tryd.underlying169]
  obtain ⟨d, hd⟩ := size89
  rw [if_pos (by simp [keyType61, Value.formed, Tryd.underlying169, cells61]), hd]
  unfold Program.keyLits
  simp only [Tryd.underlying169, Value.cells]
  rw [if_pos (by rw [cells61]; exact ⟨rfl, by kernel_rfl⟩)]
  simp [cells3, lits3, hi, ho, kl]
theorem kl_inj {i o i' o' : Int} (hi : W64 i) (ho : W64 o) (hi' : W64 i') (ho' : W64 o') (h : kl i o = kl i' o') : i = i' ∧ o = o' := by
  have := keyed.inj (keyOf_label i o hi ho) (h ▸ keyOf_label i' o' hi' ho')
  simpa using this

def nilS : Value := .slice none 0 0
def El (v : Value) : Option (DataW Value × List MemPlace) := some (.held v, [])
theorem zero22 (w : World) : (zeroValue 22).run Tryd.prog w = .ok nilS w := by kernel_rfl

/-- block b is a map that has G i o at each label -/
def IsMp (w : World) (b n : Nat) (G : Int → Int → Value) : Prop :=
  ∃ D : DataW Value, w.ownsMap Tryd.prog 169 El b n D ∧ ∀ i o, W64 i → W64 o → D.atKey (kl i o) (.held nilS) = .held (G i o)
theorem IsMp.lt {w : World} {b n : Nat} {G : Int → Int → Value} (h : IsMp w b n G) : b < w.heap.size := by
  obtain ⟨D, h, _⟩ := h
  exact h.lt
theorem IsMp.kept {w w' : World} {b n : Nat} {G : Int → Int → Value} (h : IsMp w b n G) (hb : w'.heap[b]? = w.heap[b]?) : IsMp w' b n G := by
  obtain ⟨D, ⟨es, clock, h1, h2⟩, h3⟩ := h
  exact ⟨D, ⟨es, clock, hb.trans h1, h2⟩, h3⟩
theorem IsMp.look {w : World} {b n : Nat} {G : Int → Int → Value} (h : IsMp w b n G) {i o : Int} (hi : W64 i) (ho : W64 o) : (Instr.lookup 163 (.map (some b)) (.agg #[.int .i64 i, .int .i64 o]) false).run Tryd.prog w = .ok (G i o) w := by
  obtain ⟨D, h1, h2⟩ := h
  obtain ⟨v, ps, hr, hv⟩ := h1.lookup keyed Tryd.underlying163 (zero22 w) (zd := .held nilS) (zp := []) rfl (keyOf_label i o hi ho)
  rw [h2 i o hi ho] at hv
  have : v = G i o := by simp [El] at hv; exact hv.1
  rw [← this]
  exact hr
theorem made (w : World) : IsMp (w.alloc (.map #[] 0)) w.heap.size 0 (fun _ _ => nilS) :=
  ⟨_, World.ownsMap_made w Tryd.prog 169 El, fun _ _ _ _ => rfl⟩
end Go.Proofs.YtfjocafepigijaaDoor.Mp
/- The program's step: it goes along all arcs of a label at once. Conditions: the field lies apart from both rows. -/
namespace Go.Proofs.YtfjocafepigijaaDoor.St
open Go.RowKit Mv Qp Sk Po Ps Wd Se Mp
open CR (nc)

structure Stp (S : Nat) (L : List Arc) (Rf H : List Nat) (y : Nat) (H' : List Nat) : Prop where
  len : H'.length = S
  le : ∀ s, cv H' s ≤ cv H s
  real : ∀ s, cv H' s = cv H s ∨ ∃ a ∈ L, ∃ f W : Nat, a.1 = (f : Int) ∧ a.2.1 = (s : Int) ∧ a.2.2.2.2 = (W : Int) ∧ cv Rf f < far ∧ cv H' s = cv Rf f + W
  done : ∀ k, k < y → ∀ h : k < L.length, ∀ f t W : Nat, (L[k]).1 = (f : Int) → (L[k]).2.1 = (t : Int) → (L[k]).2.2.2.2 = (W : Int) → cv Rf f < far → cv H' t ≤ cv Rf f + W
theorem Stp.start {S : Nat} {L : List Arc} {Rf H : List Nat} (h : H.length = S) : Stp S L Rf H 0 H := ⟨h, fun _ => Nat.le_refl _, fun _ => .inl rfl, fun k hk => absurd hk (Nat.not_lt_zero k)⟩
theorem Stp.skip {S : Nat} {L : List Arc} {Rf H H' : List Nat} {y f : Nat} (h : Stp S L Rf H y H') (hy : y < L.length) (hf : (L[y]).1 = (f : Int)) (hr : ¬ cv Rf f < far) : Stp S L Rf H (y + 1) H' := by
  refine ⟨h.len, h.le, h.real, fun k hk hkl f' t W e1 e2 e3 hd => ?_⟩
  by_cases e : k = y
  · subst e
    obtain rfl : f' = f := by omega
    exact absurd hd hr
  · exact h.done k (by omega) hkl f' t W e1 e2 e3 hd
theorem Stp.took {S : Nat} {L : List Arc} {Rf H H' : List Nat} {y f t W v : Nat} (h : Stp S L Rf H y H') (hy : y < L.length) (hf : (L[y]).1 = (f : Int)) (ht : (L[y]).2.1 = (t : Int)) (hW : (L[y]).2.2.2.2 = (W : Int)) (hts : t < S) (hr : cv Rf f < far) (hv : v = min (cv H' t) (cv Rf f + W)) : Stp S L Rf H (y + 1) (H'.set t v) := by
  have htl : t < H'.length := by rw [h.len]; exact hts
  have hle : ∀ s, cv (H'.set t v) s ≤ cv H' s := by
    intro s
    rw [cv_set H' t v s htl]
    split
    · rename_i e; subst e; omega
    · omega
  refine ⟨by rw [List.length_set]; exact h.len, fun s => Nat.le_trans (hle s) (h.le s), fun s => ?_, fun k hk hkl f' t' W' e1 e2 e3 hd => ?_⟩
  · rw [cv_set H' t v s htl]
    split
    · rename_i e
      subst e
      by_cases hc : cv H' t ≤ cv Rf f + W
      · rw [hv, Nat.min_eq_left hc]
        exact h.real t
      · exact .inr ⟨L[y], List.getElem_mem hy, f, W, hf, ht, hW, hr, by rw [hv, Nat.min_eq_right (by omega)]⟩
    · exact h.real s
  · by_cases e : k = y
    · subst e
      have : f' = f := by omega
      have : t' = t := by omega
      have : W' = W := by omega
      subst_vars
      rw [cv_set H' _ _ _ htl, if_pos rfl]
      omega
    · exact Nat.le_trans (hle t') (h.done k (by omega) hkl f' t' W' e1 e2 e3 hd)

/-- the map of a field: the arcs of each label -/
structure Fld (w : World) (F K0 mb sb S n : Nat) (A : List Arc) (G : Int → Int → Value) : Prop where
  sils : Sil w F K0 sb S A
  mlt : mb < K0
  mne : mb ≠ F
  mp : IsMp w mb n G
  labs : ∀ i o : Int, 0 ≤ i → i ≤ 60 → 0 ≤ o → o ≤ 60 → ¬ (i = 0 ∧ o = 0) → Lies w F K0 (G i o) (lab A i o)
theorem Fld.kept {w w' : World} {F K0 mb sb S n : Nat} {A : List Arc} {G : Int → Int → Value} {X : Nat → Prop} (h : Fld w F K0 mb sb S n A G) (hk : Kp X w w') (hX : ∀ k, k < K0 → k ≠ F → ¬ X k) : Fld w' F K0 mb sb S n A G :=
  ⟨h.sils.kept hk hX, h.mlt, h.mne, h.mp.kept (hk.block mb h.mp.lt (hX mb h.mlt h.mne)), fun i o h1 h2 h3 h4 h5 => (h.labs i o h1 h2 h3 h4 h5).kept hk hX h.sils.size⟩
theorem w64 {i : Int} (h1 : 0 ≤ i) (h2 : i ≤ 60) : W64 i := by
  unfold W64
  exact WalkArith.wf_i64 (by omega)
theorem own_kp {w w' : World} {base e size g n cap : Nat} {xs : List Value} {X : Nat → Prop} (h : w.ownsRow base e size (.slice (some ⟨g, 0, none⟩) n cap) n xs) (hk : Kp X w w') (hx : ¬ X g) : w'.ownsRow base e size (.slice (some ⟨g, 0, none⟩) n cap) n xs := by
  have hlt := (h.lt g rfl).2
  refine ⟨h.1, ?_⟩
  rcases h.2 with hn | ⟨g', cap', cur, hv, hb, hg, rest⟩
  · exact .inl hn
  · refine .inr ⟨g', cap', cur, hv, hb, ?_, rest⟩
    simp only [Value.slice.injEq, Option.some.injEq, Addr.mk.injEq, and_true, true_and] at hv
    rw [← hv.1] at hg ⊢
    exact (hk.block g hlt hx).trans hg

theorem put1 {w : World} {base g cap n : Nat} {R : List Nat} (h : w.ownsRow base 3 1 (.slice (some ⟨g, 0, none⟩) n cap) n (nc R)) (t v : Nat) : (w.setCell ⟨g, t, none⟩ (.int .i64 (v : Int))).ownsRow base 3 1 (.slice (some ⟨g, 0, none⟩) n cap) n (nc (R.set t v)) := by
  have := (h.stored t (.int .i64 (v : Int))).1
  rw [Se.nc_set] at this
  exact this

set_option maxHeartbeats 4000000 in
set_option maxRecDepth 100000 in
theorem step_any (F K0 mb sb S n C capC D capD : Nat) (A : List Arc) (G : Int → Int → Value) (Rf H : List Nat) (i o : Int) (a2 v : Value) (w : World) (hF : IsF w F (.int .i64 S) (.map (some mb)) a2 v) (hFl : Fld w F K0 mb sb S n A G)
    (hC : w.ownsRow K0 3 1 (.slice (some ⟨C, 0, none⟩) S capC) S (nc H)) (hD : w.ownsRow K0 3 1 (.slice (some ⟨D, 0, none⟩) S capD) S (nc Rf)) (hCD : C ≠ D) (hHl : H.length = S) (hRl : Rf.length = S) (hAl : A.length ≤ 120) (hA : ∀ a ∈ A, arcB (S : Int) a = true)
    (hi0 : 0 ≤ i) (hi1 : i ≤ 60) (ho0 : 0 ≤ o) (ho1 : o ≤ 60) (hio : ¬ (i = 0 ∧ o = 0)) (hRt : ∀ s, cv Rf s < far → cv Rf s ≤ 100000000000) (hRT : ∀ s, cv Rf s ≤ far) :
    Calls Tryd.prog 88 #[.pointer (some ⟨F, 0, none⟩), .slice (some ⟨D, 0, none⟩) S capD, .slice (some ⟨C, 0, none⟩) S capC, .agg #[.int .i64 i, .int .i64 o]] w fun e w' => e = .returned (.tuple #[]) ∧ ∃ H', Stp S (lab A i o) Rf H (lab A i o).length H' ∧ w'.ownsRow K0 3 1 (.slice (some ⟨C, 0, none⟩) S capC) S (nc H') ∧ Kp (fun k => k = C) w w' := by
  have hCK : K0 ≤ C := (hC.lt C rfl).1
  have hCw : C < w.heap.size := (hC.lt C rfl).2
  have hDw : D < w.heap.size := (hD.lt D rfl).2
  have hfl := hF.lt
  have q1 : ∀ o1, (w.alloc o1).cell? ⟨F, 1, none⟩ = some (.map (some mb)) := fun o1 => by rw [World.cell?_alloc_past _ _ _ hfl]; exact hF.cell 1
  have hlk : (Instr.lookup 163 (.map (some mb)) (.agg #[.int .i64 i, .int .i64 o]) false).run Tryd.prog (w.alloc (.cells #[.int .i64 i, .int .i64 o] 169)).drew = .ok (G i o) (w.alloc (.cells #[.int .i64 i, .int .i64 o] 169)).drew :=
    (hFl.mp.kept (w' := (w.alloc (.cells #[.int .i64 i, .int .i64 o] 169)).drew) (heap_alloc_old w _ hFl.mp.lt)).look (w64 hi0 hi1) (w64 ho0 ho1)
  have hL := hFl.labs i o hi0 hi1 ho0 ho1 hio
  have HL : Hid (Lies w F K0 (G i o) (lab A i o)) := hL
  obtain ⟨af, capf, hGv, _⟩ := hL
  have HL2 : Hid (Lies w F K0 (.slice af (lab A i o).length capf) (lab A i o)) := by have := HL.out; rw [hGv] at this; exact this
  rw [hGv] at hlk
  have HA : Hid _ := hA
  have HCo : Hid (w.ownsRow K0 3 1 (.slice (some ⟨C, 0, none⟩) S capC) S (nc H)) := hC
  have HDo : Hid (w.ownsRow K0 3 1 (.slice (some ⟨D, 0, none⟩) S capD) S (nc Rf)) := hD
  have HFl : Hid (Fld w F K0 mb sb S n A G) := hFl
  have HRt : Hid (∀ s, cv Rf s < far → cv Rf s ≤ 100000000000) := hRt
  have HRT : Hid (∀ s, cv Rf s ≤ far) := hRT
  have hll : (lab A i o).length ≤ 120 := Nat.le_trans (List.length_filter_le _ _) hAl
  clear hA hC hD hF hFl hRt hRT HL hGv
  go_enter Tryd.func88, Tryd.ntmps88
  go_wp2
  go_region
  go_wp2
  go_loopw [17] (fun a wr => ∃ (y : Nat) (H' : List Nat), a = .int .i64 y ∧ y ≤ (lab A i o).length ∧ wr.ownsRow K0 3 1 (.slice (some ⟨C, 0, none⟩) S capC) S (nc H') ∧ Stp S (lab A i o) Rf H y H' ∧ Kp (fun k => k = C) w wr) (fun a _ => (lab A i o).length - (intOf a).toNat)
  case atStart => exact ⟨0, H, rfl, Nat.zero_le _, (HCo.out.alloc _).drew, Stp.start hHl, ((Kp.refl _ w).alloc _).drewN 1⟩
  case round =>
    obtain ⟨y, H', rfl, hy, hown, hstp, hkp⟩ := hrel
    by_cases hlt : y < (lab A i o).length
    · obtain ⟨a', cap', he, hl⟩ := HL2.out.kept hkp (fun k hk _ hx => by omega) HFl.out.sils.size
      cases he
      obtain ⟨b, rfl, hbK, hbF, hcs⟩ := hl.resolve_left (by omega)
      have u := acs_at (lab A i o) y hlt
      have hma : (lab A i o)[y] ∈ A := (List.mem_filter.1 (List.getElem_mem hlt)).1
      have hab := HA.out _ hma
      obtain ⟨fI, tI, iI, oI, xI, ea⟩ : ∃ f t i1 o1 x, (lab A i o)[y] = (f, t, i1, o1, x) := ⟨_, _, _, _, _, rfl⟩
      rw [ea] at u hab
      unfold arcB at hab
      simp only [decide_eq_true_eq] at hab
      obtain ⟨g0, g1, g2, g3, g4, g5, g6, g7, g8, g9⟩ := hab
      obtain ⟨f, rfl⟩ : ∃ n : Nat, fI = (n : Int) := ⟨fI.toNat, by omega⟩
      obtain ⟨t, rfl⟩ : ∃ n : Nat, tI = (n : Int) := ⟨tI.toNat, by omega⟩
      obtain ⟨x, rfl⟩ : ∃ n : Nat, xI = (n : Int) := ⟨xI.toNat, by omega⟩
      have hf : f < S := Int.ofNat_lt.1 g1
      have ht : t < S := Int.ofNat_lt.1 g3
      have hxb : x ≤ 1000000 := CR.nat_le g9
      have p0 := hcs _ _ u.1
      have p1 := hcs _ _ u.2.1
      have p2 := hcs _ _ u.2.2.1
      have p3 := hcs _ _ u.2.2.2.1
      have p4 := hcs _ _ u.2.2.2.2
      have hownD := own_kp HDo.out hkp (fun h => hCD h.symm)
      have cD : ∀ o1, (wr.alloc o1).cell? ⟨D, f, none⟩ = some (.int .i64 (cv Rf f : Nat)) := fun o1 => by
        rw [(hownD.alloc o1).cellAt f (by omega)]; exact nc_at (by omega)
      have cC : ∀ o1, (wr.alloc o1).cell? ⟨C, t, none⟩ = some (.int .i64 (cv H' t : Nat)) := fun o1 => by
        rw [(hown.alloc o1).cellAt t (by omega)]; exact nc_at (by rw [hstp.len]; exact ht)
      have fC : ∀ o1, (wr.alloc o1).frozen? ⟨C, t, none⟩ = false := fun o1 => (hown.alloc o1).frozenAt t
      obtain ⟨r, hr⟩ : ∃ z, cv Rf f = z := ⟨_, rfl⟩
      obtain ⟨z, hz⟩ : ∃ z, cv H' t = z := ⟨_, rfl⟩
      rw [hr] at cD
      rw [hz] at cC
      have HE : Hid (((lab A i o)[y]).1 = (f : Int) ∧ ((lab A i o)[y]).2.1 = (t : Int) ∧ ((lab A i o)[y]).2.2.2.2 = (x : Int)) := by rw [ea]; exact ⟨rfl, rfl, rfl⟩
      have HR : Hid (cv Rf f = r) := hr
      have HZ : Hid (cv H' t = z) := hz
      have HO : Hid (wr.ownsRow K0 3 1 (.slice (some ⟨C, 0, none⟩) S capC) S (nc H')) := hown
      have HS : Hid _ := hstp
      have HK : Hid _ := hkp
      clear hr hz ea u hcs hma g0 g1 g2 g3 g4 g5 g6 g7 g8 g9 hown hstp hkp hownD
      by_cases hrf : r < far
      · have d1 := not_far hrf
        have d3 := not_far3 hrf
        obtain ⟨rw1, erw, m7, m8⟩ : ∃ m : Nat, m = r + x ∧ wrap64 ((r : Int) + (x : Int)) = (m : Int) ∧ IntKind.i64.wrap ((r : Int) + (x : Int)) = (m : Int) := by
          have h1 := HRt.out f (by rw [HR.out]; exact hrf)
          rw [HR.out] at h1
          refine ⟨r + x, rfl, ?_, ?_⟩
          · unfold wrap64; omega
          · rw [IntKind.wrap_i64]; omega
        have HRW : Hid (rw1 = r + x) := erw
        have HRF : Hid (r < far) := hrf
        clear erw hrf
        by_cases hbet : rw1 < z
        · have nb : (rw1 : Int) < (z : Int) := Int.ofNat_lt.2 hbet
          have HV : Hid (rw1 = min (cv H' t) (cv Rf f + x)) := by rw [HZ.out, HR.out, ← HRW.out]; exact (Nat.min_eq_right (Nat.le_of_lt hbet)).symm
          go_wp2
          go_region
          go_wp2
          exact ⟨⟨y + 1, H'.set t rw1, by go_num, by omega, put1 (HO.out.alloc _).drew t rw1, HS.out.took hlt HE.out.1 HE.out.2.1 HE.out.2.2 ht (by rw [HR.out]; exact HRF.out) HV.out, ((HK.out.alloc _).drewN 1).setCell _ _ _ (fun _ => rfl)⟩, by simp [intOf]; omega⟩
        · have nb : ¬ (rw1 : Int) < (z : Int) := fun h => hbet (Int.ofNat_lt.1 h)
          have nb2 : (z : Int) ≤ (rw1 : Int) := Int.not_lt.1 nb
          have HV : Hid (z = min (cv H' t) (cv Rf f + x)) := by rw [HZ.out, HR.out, ← HRW.out]; exact (Nat.min_eq_left (Nat.not_lt.1 hbet)).symm
          go_wp2
          go_region
          go_wp2
          exact ⟨⟨y + 1, H'.set t z, by go_num, by omega, put1 (HO.out.alloc _).drew t z, HS.out.took hlt HE.out.1 HE.out.2.1 HE.out.2.2 ht (by rw [HR.out]; exact HRF.out) HV.out, ((HK.out.alloc _).drewN 1).setCell _ _ _ (fun _ => rfl)⟩, by simp [intOf]; omega⟩
      · have e1 : r = far := by have := HRT.out f; rw [HR.out] at this; omega
        have cD2 : ∀ o1, (wr.alloc o1).cell? ⟨D, f, none⟩ = some (.int .i64 9223372036854775807) := fun o1 => by rw [cD, e1, far_int]
        have HRF : Hid (¬ r < far) := hrf
        clear cD e1 hrf
        go_wp2
        exact ⟨⟨y + 1, H', by go_num, by omega, HO.out.alloc _, HS.out.skip hlt HE.out.1 (by rw [HR.out]; exact HRF.out), HK.out.alloc _⟩, by simp [intOf]; omega⟩
    · have eY : y = (lab A i o).length := by omega
      have HS : Hid (Stp S (lab A i o) Rf H (lab A i o).length H') := eY ▸ hstp
      have HO : Hid (wr.ownsRow K0 3 1 (.slice (some ⟨C, 0, none⟩) S capC) S (nc H')) := hown
      have HK : Hid _ := hkp
      clear hown hstp hkp eY
      go_wp2
      go_end0
      exact ⟨rfl, H', HS.out, HO.out, HK.out⟩
end Go.Proofs.YtfjocafepigijaaDoor.St
/- Plain facts on the rows of least costs, place by place. No conditions beyond that the machine is right. -/
namespace Go.Proofs.YtfjocafepigijaaDoor.Wg
open Mv Wk Wd St

def Bd (S p : Nat) : Nat := 1000000 * ((S + 1) * p + 1)
theorem Bd_le {S p : Nat} (hS : S ≤ 40) (hp : p ≤ 122) : Bd S p ≤ 5100000000 := by
  unfold Bd
  have : (S + 1) * p ≤ 41 * 122 := Nat.mul_le_mul (by omega) hp
  omega
abbrev Pl (m : M) (inn out : List Int) (i j : Nat) (s c : Nat) : Prop := Wk.Reach m inn out true s i j c
/-- a row that has the least cost of coming to each state at a place -/
structure Fine (m : M) (inn out : List Int) (S i j : Nat) (R : List Nat) : Prop where
  row : Wd.Row S (Pl m inn out i j) (Bd S (i + j)) R
  low : ∀ s c, Wk.Reach m inn out true s i j c → cv R s ≤ c ∧ cv R s < far
theorem Fine.top2 {m : M} {inn out : List Int} {S i j : Nat} {R : List Nat} (h : Fine m inn out S i j R) : ∀ s, cv R s < far → cv R s + 1000000 ≤ Bd S (i + j + 1) := by
  intro s hs
  have h1 := h.row.small s hs
  have h2 := fin_le R
  rw [h.row.len] at h2
  have h3 : 1000000 * fin R ≤ 1000000 * S := Nat.mul_le_mul_left _ h2
  unfold Bd at h1 ⊢
  have : (S + 1) * (i + j + 1) = (S + 1) * (i + j) + (S + 1) := Nat.mul_succ _ _
  rw [this]
  omega
theorem Bd_mono (S : Nat) {p q : Nat} (h : p ≤ q) : Bd S p ≤ Bd S q := by
  unfold Bd
  have : (S + 1) * p ≤ (S + 1) * q := Nat.mul_le_mul_left _ h
  omega
/-- a row ahead of its silent arcs -/
structure Pre (S : Nat) (P : Nat → Nat → Prop) (bd : Nat) (H : List Nat) : Prop where
  len : H.length = S
  top : ∀ s, cv H s ≤ far
  real : ∀ s, s < S → cv H s < far → P s (cv H s)
  small : ∀ s, cv H s < far → cv H s ≤ bd
theorem Pre.toRow {S : Nat} {P : Nat → Nat → Prop} {bd : Nat} {H : List Nat} (h : Pre S P bd H) : Wd.Row S P bd H := ⟨h.len, h.top, h.real, fun s hs => Nat.le_trans (h.small s hs) (Nat.le_add_right _ _)⟩
theorem cv_none (S s : Nat) : cv (List.replicate S far) s = far := by
  unfold cv
  rw [List.getD_eq_getElem?_getD, List.getElem?_replicate]
  split <;> rfl
theorem pre_none (S : Nat) (P : Nat → Nat → Prop) (bd : Nat) : Pre S P bd (List.replicate S far) :=
  ⟨List.length_replicate, fun s => by rw [cv_none]; exact Nat.le_refl _, fun s _ h => by rw [cv_none] at h; exact absurd h (Nat.lt_irrefl _), fun s h => by rw [cv_none] at h; exact absurd h (Nat.lt_irrefl _)⟩
theorem Pre.step {S : Nat} {P : Nat → Nat → Prop} {bd : Nat} {H H' Rf : List Nat} {L : List Arc} (h : Pre S P bd H) (hs : Stp S L Rf H L.length H')
    (hP : ∀ a ∈ L, ∀ f t W : Nat, a.1 = (f : Int) → a.2.1 = (t : Int) → a.2.2.2.2 = (W : Int) → cv Rf f < far → P t (cv Rf f + W) ∧ cv Rf f + W ≤ bd) : Pre S P bd H' := by
  refine ⟨hs.len, fun s => Nat.le_trans (hs.le s) (h.top s), fun s hss hd => ?_, fun s hd => ?_⟩
  · rcases hs.real s with e | ⟨a, ha, f, W, e1, e2, e3, hf, e⟩
    · rw [e] at hd ⊢; exact h.real s hss hd
    · rw [e]; exact (hP a ha f s W e1 e2 e3 hf).1
  · rcases hs.real s with e | ⟨a, ha, f, W, e1, e2, e3, hf, e⟩
    · rw [e] at hd ⊢; exact h.small s hd
    · rw [e]; exact (hP a ha f s W e1 e2 e3 hf).2
/-- what comes of a step from a good row -/
theorem stepped {m : M} {inn out : List Int} {S i j i' j' : Nat} {Rf H H' : List Nat} {a b : Int} (hr : Right m S) (hg : Fine m inn out S i' j' Rf) (hp : Pre S (Pl m inn out i j) (Bd S (i + j)) H) (hs : Stp S (lab m.arcs a b) Rf H (lab m.arcs a b).length H') (hij : i' + j' + 1 ≤ i + j)
    (hm : ∀ x ∈ lab m.arcs a b, Wk.Move inn out true x i' j' i j) :
    Pre S (Pl m inn out i j) (Bd S (i + j)) H' ∧ (∀ s, cv H' s ≤ cv H s) ∧ ∀ x ∈ lab m.arcs a b, ∀ f t W c : Nat, x.1 = (f : Int) → x.2.1 = (t : Int) → x.2.2.2.2 = (W : Int) → Wk.Reach m inn out true f i' j' c → cv H' t ≤ c + W ∧ cv H' t ≤ Bd S (i + j) := by
  refine ⟨hp.step hs (fun x hx f t W e1 e2 e3 hf => ⟨?_, ?_⟩), hs.le, fun x hx f t W c e1 e2 e3 hR => ?_⟩
  · have hmem := (List.mem_filter.1 hx).1
    obtain ⟨k, hk, rfl⟩ := List.getElem_of_mem hmem
    have hfs : f < S := by
      have ha := hr.2.2 k hk
      unfold arcB at ha
      simp only [decide_eq_true_eq] at ha
      have := hr.1
      omega
    obtain ⟨t0, ht0⟩ := hg.row.real f hfs hf
    exact ⟨t0 + 1, f, i', j', cv Rf f, k, hk, ht0, e1, e2, hm _ hx, by rw [e3]; omega⟩
  · have h1 := hg.top2 f hf
    have h2 := Bd_mono S hij
    have hmem := (List.mem_filter.1 hx).1
    obtain ⟨k, hk, rfl⟩ := List.getElem_of_mem hmem
    have ha := hr.2.2 k hk
    unfold arcB at ha
    simp only [decide_eq_true_eq] at ha
    omega
  · have h1 := hg.low f c hR
    obtain ⟨k, hk, rfl⟩ := List.getElem_of_mem hx
    have h2 := hs.done k hk hk f t W e1 e2 e3 h1.2
    have h3 := hg.top2 f h1.2
    have h4 := Bd_mono S hij
    have hmem := (List.mem_filter.1 hx).1
    obtain ⟨k', hk', e⟩ := List.getElem_of_mem hmem
    have ha := hr.2.2 k' hk'
    rw [e] at ha
    unfold arcB at ha
    simp only [decide_eq_true_eq] at ha
    omega
/-- all that comes from other places is there -/
def Comp (m : M) (inn out : List Int) (i j : Nat) (H : List Nat) : Prop := ∀ x (hx : x < m.arcs.length), ∀ f t W c i' j' : Nat, (m.arcs[x]).1 = (f : Int) → (m.arcs[x]).2.1 = (t : Int) → (m.arcs[x]).2.2.2.2 = (W : Int) → Wk.Move inn out true m.arcs[x] i' j' i j → ¬ ((m.arcs[x]).2.2.1 = 0 ∧ (m.arcs[x]).2.2.2.1 = 0) → Wk.Reach m inn out true f i' j' c → cv H t ≤ c + W ∧ cv H t < far
def From (m : M) (inn out : List Int) (H : List Nat) (a b : Int) (i' j' : Nat) : Prop := ∀ x ∈ lab m.arcs a b, ∀ f t W c : Nat, x.1 = (f : Int) → x.2.1 = (t : Int) → x.2.2.2.2 = (W : Int) → Wk.Reach m inn out true f i' j' c → cv H t ≤ c + W ∧ cv H t < far
theorem From.le {m : M} {inn out : List Int} {H H' : List Nat} {a b : Int} {i' j' : Nat} (h : From m inn out H a b i' j') (hle : ∀ s, cv H' s ≤ cv H s) : From m inn out H' a b i' j' := fun x hx f t W c e1 e2 e3 hR => by
  have := h x hx f t W c e1 e2 e3 hR
  have := hle t
  omega
theorem comp_of {m : M} {inn out : List Int} {i j : Nat} {H : List Nat} (h1 : ∀ i1 a, i = i1 + 1 → inn[i1]? = some a → From m inn out H a 0 i1 j) (h2 : ∀ j1 b, j = j1 + 1 → out[j1]? = some b → From m inn out H 0 b i j1)
    (h3 : ∀ i1 j1 a b, i = i1 + 1 → j = j1 + 1 → inn[i1]? = some a → out[j1]? = some b → From m inn out H a b i1 j1) : Comp m inn out i j H := by
  intro x hx f t W c i' j' e1 e2 e3 hm hns hR
  have hmem : ∀ a b : Int, (m.arcs[x]).2.2.1 = a → (m.arcs[x]).2.2.2.1 = b → m.arcs[x] ∈ lab m.arcs a b := fun a b ha hb => List.mem_filter.2 ⟨List.getElem_mem hx, by simp [ha, hb]⟩
  obtain ⟨hA, hB⟩ := hm
  rcases hA with ⟨a0, ei⟩ | ⟨a0, ai, ei⟩ <;> rcases hB with ⟨b0, ej⟩ | ⟨b0, _, bj, ej⟩
  · rcases b0 with b0 | b0
    · exact absurd ⟨a0, b0⟩ hns
    · cases b0
  · subst ei
    exact h2 j' _ ej bj _ (hmem 0 _ a0 rfl) f t W c e1 e2 e3 hR
  · rcases b0 with b0 | b0
    · subst ej
      exact h1 i' _ ei ai _ (hmem _ 0 rfl b0) f t W c e1 e2 e3 hR
    · cases b0
  · exact h3 i' j' _ _ ei ej ai bj _ (hmem _ _ rfl rfl) f t W c e1 e2 e3 hR
/-- what is settled behind all that comes from other places is good -/
theorem settled {m : M} {inn out : List Int} {S i j : Nat} {H R : List Nat} (hr : Right m S) (hs : Settled m.arcs S (Pl m inn out i j) (Bd S (i + j)) H R)
    (h0 : i = 0 → j = 0 → cv H 0 = 0)
    (hc : Comp m inn out i j H) (hb : Bd S (i + j) + 1000000 * S + 1000000 < far) : Fine m inn out S i j R := by
  refine ⟨hs.row, ?_⟩
  have key : ∀ n s i2 j2 c, Wk.ReachN m inn out true n s i2 j2 c → i2 = i → j2 = j → cv R s ≤ c ∧ cv R s < far := by
    intro n
    induction n with
    | zero =>
      intro s i2 j2 c h e1 e2
      obtain ⟨rfl, rfl, rfl, rfl⟩ := h
      have := h0 e1.symm e2.symm
      have h1 := hs.le 0
      rw [this] at h1
      exact ⟨h1, by unfold far; omega⟩
    | succ n ih =>
      intro s i2 j2 c h e1 e2
      obtain ⟨f, i', j', c', x, hx, hR, a1, a2, hm, hcc⟩ := h
      subst e1 e2
      have ha := hr.2.2 x hx
      unfold arcB at ha
      simp only [decide_eq_true_eq] at ha
      have hst := hr.1
      obtain ⟨W, hW⟩ : ∃ W : Nat, (m.arcs[x]).2.2.2.2 = (W : Int) := ⟨(m.arcs[x]).2.2.2.2.toNat, by omega⟩
      by_cases hsil : (m.arcs[x]).2.2.1 = 0 ∧ (m.arcs[x]).2.2.2.1 = 0
      · have hij : i' = i2 ∧ j' = j2 := by
          obtain ⟨h1, h2⟩ := hm
          constructor
          · rcases h1 with ⟨_, e⟩ | ⟨h, _⟩
            · exact e.symm
            · omega
          · rcases h2 with ⟨_, e⟩ | ⟨h, _⟩
            · exact e.symm
            · omega
        have hI := ih f i' j' c' hR hij.1 hij.2
        have hfs : f < S := by omega
        have hmem : m.arcs[x] ∈ sil m.arcs f := List.mem_filter.2 ⟨List.getElem_mem hx, by simp [hsil.1, hsil.2, a1]⟩
        have hd := hs.done f hfs hI.2 _ hmem s W a2 hW
        have hsm := hs.row.small f hI.2
        have hfl := fin_le R
        rw [hs.row.len] at hfl
        have hmul : 1000000 * fin R ≤ 1000000 * S := Nat.mul_le_mul_left _ hfl
        refine ⟨by omega, ?_⟩
        have : W ≤ 1000000 := by omega
        omega
      · have h1 := hc x hx f s W c' i' j' a1 a2 hW hm hsil ⟨n, hR⟩
        have h3 := hs.le s
        exact ⟨by omega, by omega⟩
  intro s c hR
  obtain ⟨n, hn⟩ := hR
  exact key n s i j c hn rfl rfl
end Go.Proofs.YtfjocafepigijaaDoor.Wg
/- The program's nowhere and cheapestEnd. Conditions: few states; the machine is right. -/
namespace Go.Proofs.YtfjocafepigijaaDoor.Nw
open Go.RowKit Mv Wk Po Wd Se St Wg
open CR (nc)

theorem all_far {B : List Nat} {S : Nat} (hl : B.length = S) (h : ∀ r, r < S → cv B r = far) : B = List.replicate S far := by
  apply List.ext_getElem
  · rw [List.length_replicate, hl]
  · intro r h1 h2
    have := h r (by omega)
    unfold cv at this
    rw [List.getD_eq_getElem?_getD, List.getElem?_eq_getElem h1, Option.getD_some] at this
    rw [this, List.getElem_replicate]
set_option maxHeartbeats 1000000 in
set_option maxRecDepth 100000 in
theorem nowhere_any (S : Nat) (w : World) (h0 : 0 < S) (hS : S ≤ 40) :
    Calls Tryd.prog 87 #[.int .i64 S] w fun e w' => e = .returned (.slice (some ⟨w.heap.size, 0, none⟩) S S) ∧ w'.ownsRow w.heap.size 3 1 (.slice (some ⟨w.heap.size, 0, none⟩) S S) S (nc (List.replicate S far)) ∧ Below w.heap.size w w' := by
  obtain ⟨i3, hi3, hz30, hz31, hz32⟩ := info_parts CR.info3
  go_enter Tryd.func87, Tryd.ntmps87
  go_wp2_with (at_make; refine wpList_make_full _ rfl _ _ 26 rfl w.heap.size 3 i3 (.int .i64 0) 1 Tryd.underlying26 hi3 hz30 hz31 .i64 .i64 _ _ S rfl rfl rfl rfl (by rw [hz32]; omega) (by unfold maxLen; omega) (Nat.le_refl _) ?_; intro w1 hown0 hgrow0)
  have e : (madeCells (Value.cells (.int .i64 0)) (S * 1)).toList = nc (List.replicate S 0) := by
    rw [Nat.mul_one]
    show (madeCells #[.int .i64 0] S).toList = _
    rw [toList_madeCells_one]
    simp [nc]
  rw [e] at hown0
  have hb0 : Below w.heap.size w w1 := (Below.refl _ _).grown hgrow0 (Nat.le_refl _) (by simp)
  go_loopw [9] (fun i wr => ∃ (q : Nat) (B : List Nat), i = .int .i64 q ∧ q ≤ S ∧ wr.ownsRow w.heap.size 3 1 (.slice (some ⟨w.heap.size, 0, none⟩) S S) S (nc B) ∧ B.length = S ∧ (∀ r, r < q → cv B r = far) ∧ Below w.heap.size w wr) (fun i _ => S - (intOf i).toNat)
  case atStart => exact ⟨0, _, rfl, by omega, hown0, by simp, fun r h => by omega, hb0⟩
  case round =>
    clear hown0 hgrow0 hb0
    obtain ⟨q, B, rfl, hq, hown, hl, hfar, hb⟩ := hrel
    by_cases hlt : q < S
    · have c1 : wr.cell? ⟨w.heap.size, q, none⟩ = some (.int .i64 (cv B q : Nat)) := by rw [hown.cellAt q (by omega)]; exact Se.nc_at (by omega)
      have f1 := hown.frozenAt q
      have HF : Hid (∀ r, r < q → cv B r = far) := hfar
      have HO : Hid (wr.ownsRow w.heap.size 3 1 (.slice (some ⟨w.heap.size, 0, none⟩) S S) S (nc B)) := hown
      have HB : Hid (Below w.heap.size w wr) := hb
      clear hfar hown hb
      go_wp2
      go_roundw
      case rel =>
        have hst := put1 HO.out q far
        rw [far_int] at hst
        refine ⟨q + 1, B.set q far, by go_num, by omega, hst, by rw [List.length_set]; exact hl, fun r hr => ?_, HB.out.setCell (Nat.le_refl _) _⟩
        rw [cv_set B q far r (by omega)]
        split
        · rfl
        · exact HF.out r (by omega)
      case measure => simp [intOf]; omega
    · have hB : B = List.replicate S far := all_far hl (fun r hr => hfar r (by omega))
      subst hB
      go_wp2
      go_ret
      exact ⟨rfl, hown, hb⟩

/-- the least of the first y ends, out of a row -/
structure Lf (fins : List (Int × Int)) (R : List Nat) (y v : Nat) : Prop where
  top : v ≤ far
  low : ∀ y' (h : y' < fins.length), y' < y → ∀ f : Nat, (fins[y']).1 = (f : Int) → cv R f < far → (v : Int) ≤ cv R f + (fins[y']).2
  real : v < far → ∃ y', ∃ h : y' < fins.length, ∃ f : Nat, (fins[y']).1 = (f : Int) ∧ cv R f < far ∧ (v : Int) = cv R f + (fins[y']).2
theorem Lf.start (fins : List (Int × Int)) (R : List Nat) : Lf fins R 0 far := ⟨Nat.le_refl _, fun _ _ h => absurd h (Nat.not_lt_zero _), fun h => absurd h (Nat.lt_irrefl _)⟩
theorem Lf.keep {fins : List (Int × Int)} {R : List Nat} {y v f : Nat} (h : Lf fins R y v) (hy : y < fins.length) (hf : (fins[y]).1 = (f : Int)) (hk : cv R f < far → (v : Int) ≤ cv R f + (fins[y]).2) : Lf fins R (y + 1) v := by
  refine ⟨h.top, fun y' h' hlt f' e hd => ?_, h.real⟩
  by_cases e' : y' = y
  · subst e'
    obtain rfl : f' = f := by omega
    exact hk hd
  · exact h.low y' h' (by omega) f' e hd
theorem Lf.took {fins : List (Int × Int)} {R : List Nat} {y v f p W : Nat} (h : Lf fins R y v) (hy : y < fins.length) (hf : (fins[y]).1 = (f : Int)) (hW : (fins[y]).2 = (W : Int)) (hp : cv R f = p) (hpd : p < far) (hlt : p + W < v) : Lf fins R (y + 1) (p + W) := by
  refine ⟨by have := h.top; omega, fun y' h' hlt' f' e hd => ?_, fun _ => ⟨y, hy, f, hf, by rw [hp]; exact hpd, by rw [hp, hW]; omega⟩⟩
  by_cases e' : y' = y
  · subst e'
    obtain rfl : f' = f := by omega
    rw [hp, hW]
    omega
  · have := h.low y' h' (by omega) f' e hd
    omega

set_option maxHeartbeats 1000000 in
set_option maxRecDepth 100000 in
theorem end_any (S C capC : Nat) (va vf : Value) (fins : List (Int × Int)) (R : List Nat) (w : World) (hrow : Mv.Row w vf 2 fins.length (fcs fins)) (hfin : ∀ x (h : x < fins.length), finB (S : Int) fins[x] = true) (hlF : fins.length ≤ 40) (base : Nat) (hC : w.ownsRow base 3 1 (.slice (some ⟨C, 0, none⟩) S capC) S (nc R)) (hRl : R.length = S) (hRt : ∀ s, cv R s < far → cv R s ≤ 100000000000) (hRT : ∀ s, cv R s ≤ far) :
    Calls Tryd.prog 54 #[.agg #[.int .i64 S, va, vf], .slice (some ⟨C, 0, none⟩) S capC] w fun e w' => ∃ v : Nat, e = .returned (.int .i64 (v : Int)) ∧ Lf fins R fins.length v ∧ Below w.heap.size w w' := by
  obtain ⟨hxl, af, cf, rfl, _, hF⟩ := hrow
  have HFt : Hid (∀ x (h : x < fins.length), finB (S : Int) fins[x] = true) := hfin
  have HFx : Hid (fins.length = 0 ∨ ∃ b off, af = some ⟨b, off, none⟩ ∧ b < w.heap.size ∧ ∀ j u, (fcs fins)[j]? = some u → w.cell? ⟨b, off + j, none⟩ = some u) := hF
  have HC : Hid (w.ownsRow base 3 1 (.slice (some ⟨C, 0, none⟩) S capC) S (nc R)) := hC
  have HRt : Hid (∀ s, cv R s < far → cv R s ≤ 100000000000) := hRt
  have HRT : Hid (∀ s, cv R s ≤ far) := hRT
  have hCw := (hC.lt C rfl).2
  clear hfin hF hC hRt hRT hxl
  go_enter Tryd.func54, Tryd.ntmps54
  go_wp2
  go_loopw [5, 11] (fun a x wr => ∃ l X : Nat, a = .int .i64 (l : Int) ∧ x = .int .i64 X ∧ X ≤ fins.length ∧ Below w.heap.size w wr ∧ Lf fins R X l) (fun _ x _ => fins.length - (intOf x).toNat)
  case atStart => exact ⟨far, 0, by rw [← far_int], rfl, Nat.zero_le _, (Below.refl _ _).alloc (Nat.le_refl _) _, Lf.start _ _⟩
  case round =>
    obtain ⟨l, X, rfl, rfl, hX, hb, hl⟩ := hrel
    by_cases hlt : X < fins.length
    · have hbx : ∃ b off, af = some ⟨b, off, none⟩ ∧ b < w.heap.size ∧ ∀ j u, (fcs fins)[j]? = some u → wr.cell? ⟨b, off + j, none⟩ = some u := by
        rcases HFx.out with h | ⟨b, off, e, hb1, hc⟩
        · omega
        · exact ⟨b, off, e, hb1, fun j u hu => (hb.cell hb1).trans (hc j u hu)⟩
      obtain ⟨b, off, rfl, hbl, hcs⟩ := hbx
      have u := fcs_at fins X hlt
      obtain ⟨f, x, ea⟩ : ∃ f x, fins[X] = (f, x) := ⟨_, _, rfl⟩
      have hab := HFt.out X hlt
      rw [ea] at u hab
      unfold finB at hab
      simp only [decide_eq_true_eq] at hab
      obtain ⟨g0, g1, g2, g3⟩ := hab
      obtain ⟨f, rfl⟩ : ∃ n : Nat, f = (n : Int) := ⟨f.toNat, by omega⟩
      obtain ⟨x, rfl⟩ : ∃ n : Nat, x = (n : Int) := ⟨x.toNat, by omega⟩
      have hfS : f < S := Int.ofNat_lt.1 g1
      have hxb : x ≤ 1000000 := CR.nat_le g3
      have p0 := hcs _ _ u.1
      have p1 := hcs _ _ u.2
      rw [← Nat.add_assoc] at p1
      have cC : ∀ o1, (wr.alloc o1).cell? ⟨C, f, none⟩ = some (.int .i64 (cv R f : Nat)) := fun o1 => by
        rw [World.cell?_alloc_past _ _ _ (Nat.lt_of_lt_of_le hCw hb.size), hb.cell hCw, HC.out.cellAt f (by omega)]; exact Se.nc_at (by omega)
      obtain ⟨r, hr⟩ : ∃ z, cv R f = z := ⟨_, rfl⟩
      rw [hr] at cC
      have HR : Hid (cv R f = r) := hr
      have HE : Hid ((fins[X]).1 = (f : Int) ∧ (fins[X]).2 = (x : Int)) := by rw [ea]; exact ⟨rfl, rfl⟩
      have HL : Hid (Lf fins R X l) := hl
      have HB : Hid (Below w.heap.size w wr) := hb
      have HHS : Hid (w.heap.size ≤ wr.heap.size) := hb.size
      clear hr ea u hcs g0 g1 g2 g3 hl hb
      by_cases hrf : r < far
      · have d1 := not_far hrf
        have d3 := not_far3 hrf
        obtain ⟨rw1, erw, m7, m8⟩ : ∃ m : Nat, m = r + x ∧ wrap64 ((r : Int) + (x : Int)) = (m : Int) ∧ IntKind.i64.wrap ((r : Int) + (x : Int)) = (m : Int) := by
          have h1 := HRt.out f (by rw [HR.out]; exact hrf)
          rw [HR.out] at h1
          refine ⟨r + x, rfl, ?_, ?_⟩
          · unfold wrap64; omega
          · rw [IntKind.wrap_i64]; omega
        have HRW : Hid (rw1 = r + x) := erw
        have HRF : Hid (r < far) := hrf
        clear erw hrf
        by_cases hbet : rw1 < l
        · have nb : (rw1 : Int) < (l : Int) := Int.ofNat_lt.2 hbet
          have HV : Hid (Lf fins R (X + 1) rw1) := by rw [HRW.out]; exact HL.out.took hlt HE.out.1 HE.out.2 HR.out HRF.out (by rw [← HRW.out]; exact hbet)
          go_wp2
          go_region
          go_wp2
          exact ⟨⟨rw1, X + 1, by first | rfl | go_num, by go_num, by omega, by first | exact HB.out.alloc HHS.out _ | exact (HB.out.alloc HHS.out _).drew, HV.out⟩, by simp [intOf]; omega⟩
        · have nb : ¬ (rw1 : Int) < (l : Int) := fun h => hbet (Int.ofNat_lt.1 h)
          have nb2 : (l : Int) ≤ (rw1 : Int) := Int.not_lt.1 nb
          have HV : Hid (Lf fins R (X + 1) l) := HL.out.keep hlt HE.out.1 (fun _ => by rw [HR.out, HE.out.2]; rw [HRW.out] at nb2; exact nb2)
          go_wp2
          go_region
          go_wp2
          exact ⟨⟨l, X + 1, by first | rfl | go_num, by go_num, by omega, by first | exact HB.out.alloc HHS.out _ | exact (HB.out.alloc HHS.out _).drew, HV.out⟩, by simp [intOf]; omega⟩
      · have e1 : r = far := by have := HRT.out f; rw [HR.out] at this; omega
        have cC2 : ∀ o1, (wr.alloc o1).cell? ⟨C, f, none⟩ = some (.int .i64 9223372036854775807) := fun o1 => by rw [cC, e1, far_int]
        have HV : Hid (Lf fins R (X + 1) l) := HL.out.keep hlt HE.out.1 (fun h => absurd h (by rw [HR.out]; exact hrf))
        clear cC e1 hrf
        go_wp2
        exact ⟨⟨l, X + 1, by first | rfl | go_num, by go_num, by omega, HB.out.alloc HHS.out _, HV.out⟩, by simp [intOf]; omega⟩
    · have eX : X = fins.length := by omega
      have HL : Hid (Lf fins R fins.length l) := eX ▸ hl
      clear eX hl
      go_wp2
      go_ret
      exact ⟨l, rfl, HL.out, hb⟩
end Go.Proofs.YtfjocafepigijaaDoor.Nw
