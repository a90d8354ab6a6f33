/- The field's map from labels to arcs, as a function of both numbers. Condition: both are numbers of 64 bits. -/
import Derived.Test.YtfjocafepigijaaDoorSe
import Derived.Maps.Own
import Derived.Maps.Views
import Derived.DeepKeys4
import Derived.WideKeyEntry
namespace Go.Proofs.YtfjocafepigijaaDoor.Mp
open Go.RowKit Mv Po Se Wd
open Go.WideMaps Go.WideElems
open Go.ChangeMaps (setBlock heap_setBlock_same heap_setBlock_other)
open Go.Maps (Keyed)

theorem laid : laidOutB Tryd.prog = true := by kernel_rfl
theorem row61 : (169 : TypeId) < Tryd.prog.types.size := of_decide_eq_true (by kernel_rfl)
theorem wide61 : (match Tryd.prog.underlying 169 with | some (.array _ _) | some (.struct _) => true | _ => false) = true := by kernel_rfl
set_option maxRecDepth 1000000 in
theorem law61 : KeyLaw Tryd.prog 169 := deep_law_laid laid (m := 3) (by omega) row61 (by kernel_rfl) wide61
set_option maxRecDepth 1000000 in
theorem keyed : Keyed Tryd.prog 169 := Keyed.of_law law61
set_option maxRecDepth 1000000 in
theorem keyType61 : Tryd.prog.keyType 169 = true := by kernel_rfl
theorem cells61 : Tryd.prog.cellsOf 169 = 2 := by kernel_rfl
theorem cells3 : Tryd.prog.cellsOf 3 = 1 := by kernel_rfl
theorem size89 : ∃ d, Tryd.prog.types.size + 1 = d + 1 + 1 := ⟨213, by kernel_rfl⟩
theorem lits3 (d : Nat) (n : Int) (h : (Lit.int .i64 n).wf = true) : Tryd.prog.keyLits (d + 1) 3 [.int .i64 n] = some [.int .i64 n] := by
  unfold Program.keyLits
  simp [Tryd.underlying3, h]
def W64 (i : Int) : Prop := (Lit.int .i64 i).wf = true
def kl (i o : Int) : Lit := .string (keyBytes [.int .i64 i, .int .i64 o])
theorem keyOf_label (i o : Int) (hi : W64 i) (ho : W64 o) : keyOf Tryd.prog 169 (.agg #[.int .i64 i, .int .i64 o]) = some (kl i o) := by
  unfold W64 at hi ho
  unfold keyOf
  simp only [Tryd.underlying169]
  obtain ⟨d, hd⟩ := size89
  rw [if_pos (by simp [keyType61, Value.formed, Tryd.underlying169, cells61]), hd]
  unfold Program.keyLits
  simp only [Tryd.underlying169, Value.cells]
  rw [if_pos (by rw [cells61]; exact ⟨rfl, by kernel_rfl⟩)]
  simp [cells3, lits3, hi, ho, kl]
theorem kl_inj {i o i' o' : Int} (hi : W64 i) (ho : W64 o) (hi' : W64 i') (ho' : W64 o') (h : kl i o = kl i' o') : i = i' ∧ o = o' := by
  have := keyed.inj (keyOf_label i o hi ho) (h ▸ keyOf_label i' o' hi' ho')
  simpa using this

def nilS : Value := .slice none 0 0
def El (v : Value) : Option (DataW Value × List MemPlace) := some (.held v, [])
theorem zero22 (w : World) : (zeroValue 22).run Tryd.prog w = .ok nilS w := by kernel_rfl

/-- block b is a map that has G i o at each label -/
def IsMp (w : World) (b n : Nat) (G : Int → Int → Value) : Prop :=
  ∃ D : DataW Value, w.ownsMap Tryd.prog 169 El b n D ∧ ∀ i o, W64 i → W64 o → D.atKey (kl i o) (.held nilS) = .held (G i o)
theorem IsMp.lt {w : World} {b n : Nat} {G : Int → Int → Value} (h : IsMp w b n G) : b < w.heap.size := by
  obtain ⟨D, h, _⟩ := h
  exact h.lt
theorem IsMp.kept {w w' : World} {b n : Nat} {G : Int → Int → Value} (h : IsMp w b n G) (hb : w'.heap[b]? = w.heap[b]?) : IsMp w' b n G := by
  obtain ⟨D, ⟨es, clock, h1, h2⟩, h3⟩ := h
  exact ⟨D, ⟨es, clock, hb.trans h1, h2⟩, h3⟩
theorem IsMp.look {w : World} {b n : Nat} {G : Int → Int → Value} (h : IsMp w b n G) {i o : Int} (hi : W64 i) (ho : W64 o) : (Instr.lookup 163 (.map (some b)) (.agg #[.int .i64 i, .int .i64 o]) false).run Tryd.prog w = .ok (G i o) w := by
  obtain ⟨D, h1, h2⟩ := h
  obtain ⟨v, ps, hr, hv⟩ := h1.lookup keyed Tryd.underlying163 (zero22 w) (zd := .held nilS) (zp := []) rfl (keyOf_label i o hi ho)
  rw [h2 i o hi ho] at hv
  have : v = G i o := by simp [El] at hv; exact hv.1
  rw [← this]
  exact hr
theorem made (w : World) : IsMp (w.alloc (.map #[] 0)) w.heap.size 0 (fun _ _ => nilS) :=
  ⟨_, World.ownsMap_made w Tryd.prog 169 El, fun _ _ _ _ => rfl⟩
end Go.Proofs.YtfjocafepigijaaDoor.Mp
/- The map from arcs (without their cost) to numbers. Condition: an arc's numbers have 64 bits. -/
namespace Go.Proofs.YtfjocafepigijaaDoor.Am
open Go.RowKit Mv Po Se Wd Mp
open Go.WideMaps Go.WideElems
open Go.ChangeMaps (setBlock heap_setBlock_same heap_setBlock_other)
open Go.Maps (Keyed)

/-- an arc's name: all but its cost -/
abbrev Nam := Int × Int × Int × Int
def nam (a : Arc) : Nam := (a.1, a.2.1, a.2.2.1, a.2.2.2.1)
def Ok4 (n : Nam) : Prop := W64 n.1 ∧ W64 n.2.1 ∧ W64 n.2.2.1 ∧ W64 n.2.2.2
def vn (n : Nam) : Value := .agg #[.int .i64 n.1, .int .i64 n.2.1, .int .i64 n.2.2.1, .int .i64 n.2.2.2, .int .i64 0]
def kn (n : Nam) : Lit := .string (keyBytes [.int .i64 n.1, .int .i64 n.2.1, .int .i64 n.2.2.1, .int .i64 n.2.2.2, .int .i64 0])
/-- block b is a map that has G at each name -/
def IsAm (w : World) (b n : Nat) (G : Nam → Option Nat) : Prop :=
  ∃ D : DataW Value, w.ownsMap Tryd.prog 64 El b n D ∧ ∀ a, Ok4 a → ∀ z, D.atKey (kn a) z = (match G a with | some c => .held (.int .i64 (c : Int)) | none => z)
end Go.Proofs.YtfjocafepigijaaDoor.Am
/- The program's step: it goes along all arcs of a label at once. Conditions: the field lies apart from both rows. -/
namespace Go.Proofs.YtfjocafepigijaaDoor.St
open Go.RowKit Mv Qp Sk Po Ps Wd Se Mp
open CR (nc)

structure Stp (S : Nat) (L : List Arc) (Rf H : List Nat) (y : Nat) (H' : List Nat) : Prop where
  len : H'.length = S
  le : ∀ s, cv H' s ≤ cv H s
  real : ∀ s, cv H' s = cv H s ∨ ∃ a ∈ L, ∃ f W : Nat, a.1 = (f : Int) ∧ a.2.1 = (s : Int) ∧ a.2.2.2.2 = (W : Int) ∧ cv Rf f < far ∧ cv H' s = cv Rf f + W
  done : ∀ k, k < y → ∀ h : k < L.length, ∀ f t W : Nat, (L[k]).1 = (f : Int) → (L[k]).2.1 = (t : Int) → (L[k]).2.2.2.2 = (W : Int) → cv Rf f < far → cv H' t ≤ cv Rf f + W
theorem Stp.start {S : Nat} {L : List Arc} {Rf H : List Nat} (h : H.length = S) : Stp S L Rf H 0 H := ⟨h, fun _ => Nat.le_refl _, fun _ => .inl rfl, fun k hk => absurd hk (Nat.not_lt_zero k)⟩
theorem Stp.skip {S : Nat} {L : List Arc} {Rf H H' : List Nat} {y f : Nat} (h : Stp S L Rf H y H') (hy : y < L.length) (hf : (L[y]).1 = (f : Int)) (hr : ¬ cv Rf f < far) : Stp S L Rf H (y + 1) H' := by
  refine ⟨h.len, h.le, h.real, fun k hk hkl f' t W e1 e2 e3 hd => ?_⟩
  by_cases e : k = y
  · subst e
    obtain rfl : f' = f := by omega
    exact absurd hd hr
  · exact h.done k (by omega) hkl f' t W e1 e2 e3 hd
theorem Stp.took {S : Nat} {L : List Arc} {Rf H H' : List Nat} {y f t W v : Nat} (h : Stp S L Rf H y H') (hy : y < L.length) (hf : (L[y]).1 = (f : Int)) (ht : (L[y]).2.1 = (t : Int)) (hW : (L[y]).2.2.2.2 = (W : Int)) (hts : t < S) (hr : cv Rf f < far) (hv : v = min (cv H' t) (cv Rf f + W)) : Stp S L Rf H (y + 1) (H'.set t v) := by
  have htl : t < H'.length := by rw [h.len]; exact hts
  have hle : ∀ s, cv (H'.set t v) s ≤ cv H' s := by
    intro s
    rw [cv_set H' t v s htl]
    split
    · rename_i e; subst e; omega
    · omega
  refine ⟨by rw [List.length_set]; exact h.len, fun s => Nat.le_trans (hle s) (h.le s), fun s => ?_, fun k hk hkl f' t' W' e1 e2 e3 hd => ?_⟩
  · rw [cv_set H' t v s htl]
    split
    · rename_i e
      subst e
      by_cases hc : cv H' t ≤ cv Rf f + W
      · rw [hv, Nat.min_eq_left hc]
        exact h.real t
      · exact .inr ⟨L[y], List.getElem_mem hy, f, W, hf, ht, hW, hr, by rw [hv, Nat.min_eq_right (by omega)]⟩
    · exact h.real s
  · by_cases e : k = y
    · subst e
      have : f' = f := by omega
      have : t' = t := by omega
      have : W' = W := by omega
      subst_vars
      rw [cv_set H' _ _ _ htl, if_pos rfl]
      omega
    · exact Nat.le_trans (hle t') (h.done k (by omega) hkl f' t' W' e1 e2 e3 hd)

/-- the map of a field: the arcs of each label -/
structure Fld (w : World) (F K0 mb sb S n : Nat) (A : List Arc) (G : Int → Int → Value) : Prop where
  sils : Sil w F K0 sb S A
  mlt : mb < K0
  mne : mb ≠ F
  mp : IsMp w mb n G
  labs : ∀ i o : Int, 0 ≤ i → i ≤ 60 → 0 ≤ o → o ≤ 60 → ¬ (i = 0 ∧ o = 0) → Lies w F K0 (G i o) (lab A i o)
theorem Fld.kept {w w' : World} {F K0 mb sb S n : Nat} {A : List Arc} {G : Int → Int → Value} {X : Nat → Prop} (h : Fld w F K0 mb sb S n A G) (hk : Kp X w w') (hX : ∀ k, k < K0 → k ≠ F → ¬ X k) : Fld w' F K0 mb sb S n A G :=
  ⟨h.sils.kept hk hX, h.mlt, h.mne, h.mp.kept (hk.block mb h.mp.lt (hX mb h.mlt h.mne)), fun i o h1 h2 h3 h4 h5 => (h.labs i o h1 h2 h3 h4 h5).kept hk hX h.sils.size⟩
theorem w64 {i : Int} (h1 : 0 ≤ i) (h2 : i ≤ 60) : W64 i := by
  unfold W64
  exact WalkArith.wf_i64 (by omega)
theorem own_kp {w w' : World} {base e size g n cap : Nat} {xs : List Value} {X : Nat → Prop} (h : w.ownsRow base e size (.slice (some ⟨g, 0, none⟩) n cap) n xs) (hk : Kp X w w') (hx : ¬ X g) : w'.ownsRow base e size (.slice (some ⟨g, 0, none⟩) n cap) n xs := by
  have hlt := (h.lt g rfl).2
  refine ⟨h.1, ?_⟩
  rcases h.2 with hn | ⟨g', cap', cur, hv, hb, hg, rest⟩
  · exact .inl hn
  · refine .inr ⟨g', cap', cur, hv, hb, ?_, rest⟩
    simp only [Value.slice.injEq, Option.some.injEq, Addr.mk.injEq, and_true, true_and] at hv
    rw [← hv.1] at hg ⊢
    exact (hk.block g hlt hx).trans hg

theorem put1 {w : World} {base g cap n : Nat} {R : List Nat} (h : w.ownsRow base 3 1 (.slice (some ⟨g, 0, none⟩) n cap) n (nc R)) (t v : Nat) : (w.setCell ⟨g, t, none⟩ (.int .i64 (v : Int))).ownsRow base 3 1 (.slice (some ⟨g, 0, none⟩) n cap) n (nc (R.set t v)) := by
  have := (h.stored t (.int .i64 (v : Int))).1
  rw [Se.nc_set] at this
  exact this

set_option maxHeartbeats 4000000 in
set_option maxRecDepth 100000 in
theorem step_any (F K0 mb sb S n C capC D capD : Nat) (A : List Arc) (G : Int → Int → Value) (Rf H : List Nat) (i o : Int) (a2 v : Value) (w : World) (hF : IsF w F (.int .i64 S) (.map (some mb)) a2 v) (hFl : Fld w F K0 mb sb S n A G)
    (hC : w.ownsRow K0 3 1 (.slice (some ⟨C, 0, none⟩) S capC) S (nc H)) (hD : w.ownsRow K0 3 1 (.slice (some ⟨D, 0, none⟩) S capD) S (nc Rf)) (hCD : C ≠ D) (hHl : H.length = S) (hRl : Rf.length = S) (hAl : A.length ≤ 120) (hA : ∀ a ∈ A, arcB (S : Int) a = true)
    (hi0 : 0 ≤ i) (hi1 : i ≤ 60) (ho0 : 0 ≤ o) (ho1 : o ≤ 60) (hio : ¬ (i = 0 ∧ o = 0)) (hRt : ∀ s, cv Rf s < far → cv Rf s ≤ 100000000000) (hRT : ∀ s, cv Rf s ≤ far) :
    Calls Tryd.prog 88 #[.pointer (some ⟨F, 0, none⟩), .slice (some ⟨D, 0, none⟩) S capD, .slice (some ⟨C, 0, none⟩) S capC, .agg #[.int .i64 i, .int .i64 o]] w fun e w' => e = .returned (.tuple #[]) ∧ ∃ H', Stp S (lab A i o) Rf H (lab A i o).length H' ∧ w'.ownsRow K0 3 1 (.slice (some ⟨C, 0, none⟩) S capC) S (nc H') ∧ Kp (fun k => k = C) w w' := by
  have hCK : K0 ≤ C := (hC.lt C rfl).1
  have hCw : C < w.heap.size := (hC.lt C rfl).2
  have hDw : D < w.heap.size := (hD.lt D rfl).2
  have hfl := hF.lt
  have q1 : ∀ o1, (w.alloc o1).cell? ⟨F, 1, none⟩ = some (.map (some mb)) := fun o1 => by rw [World.cell?_alloc_past _ _ _ hfl]; exact hF.cell 1
  have hlk : (Instr.lookup 163 (.map (some mb)) (.agg #[.int .i64 i, .int .i64 o]) false).run Tryd.prog (w.alloc (.cells #[.int .i64 i, .int .i64 o] 169)).drew = .ok (G i o) (w.alloc (.cells #[.int .i64 i, .int .i64 o] 169)).drew :=
    (hFl.mp.kept (w' := (w.alloc (.cells #[.int .i64 i, .int .i64 o] 169)).drew) (heap_alloc_old w _ hFl.mp.lt)).look (w64 hi0 hi1) (w64 ho0 ho1)
  have hL := hFl.labs i o hi0 hi1 ho0 ho1 hio
  have HL : Hid (Lies w F K0 (G i o) (lab A i o)) := hL
  obtain ⟨af, capf, hGv, _⟩ := hL
  have HL2 : Hid (Lies w F K0 (.slice af (lab A i o).length capf) (lab A i o)) := by have := HL.out; rw [hGv] at this; exact this
  rw [hGv] at hlk
  have HA : Hid _ := hA
  have HCo : Hid (w.ownsRow K0 3 1 (.slice (some ⟨C, 0, none⟩) S capC) S (nc H)) := hC
  have HDo : Hid (w.ownsRow K0 3 1 (.slice (some ⟨D, 0, none⟩) S capD) S (nc Rf)) := hD
  have HFl : Hid (Fld w F K0 mb sb S n A G) := hFl
  have HRt : Hid (∀ s, cv Rf s < far → cv Rf s ≤ 100000000000) := hRt
  have HRT : Hid (∀ s, cv Rf s ≤ far) := hRT
  have hll : (lab A i o).length ≤ 120 := Nat.le_trans (List.length_filter_le _ _) hAl
  clear hA hC hD hF hFl hRt hRT HL hGv
  go_enter Tryd.func88, Tryd.ntmps88
  go_wp2
  go_region
  go_wp2
  go_loopw [17] (fun a wr => ∃ (y : Nat) (H' : List Nat), a = .int .i64 y ∧ y ≤ (lab A i o).length ∧ wr.ownsRow K0 3 1 (.slice (some ⟨C, 0, none⟩) S capC) S (nc H') ∧ Stp S (lab A i o) Rf H y H' ∧ Kp (fun k => k = C) w wr) (fun a _ => (lab A i o).length - (intOf a).toNat)
  case atStart => exact ⟨0, H, rfl, Nat.zero_le _, (HCo.out.alloc _).drew, Stp.start hHl, ((Kp.refl _ w).alloc _).drewN 1⟩
  case round =>
    obtain ⟨y, H', rfl, hy, hown, hstp, hkp⟩ := hrel
    by_cases hlt : y < (lab A i o).length
    · obtain ⟨a', cap', he, hl⟩ := HL2.out.kept hkp (fun k hk _ hx => by omega) HFl.out.sils.size
      cases he
      obtain ⟨b, rfl, hbK, hbF, hcs⟩ := hl.resolve_left (by omega)
      have u := acs_at (lab A i o) y hlt
      have hma : (lab A i o)[y] ∈ A := (List.mem_filter.1 (List.getElem_mem hlt)).1
      have hab := HA.out _ hma
      obtain ⟨fI, tI, iI, oI, xI, ea⟩ : ∃ f t i1 o1 x, (lab A i o)[y] = (f, t, i1, o1, x) := ⟨_, _, _, _, _, rfl⟩
      rw [ea] at u hab
      unfold arcB at hab
      simp only [decide_eq_true_eq] at hab
      obtain ⟨g0, g1, g2, g3, g4, g5, g6, g7, g8, g9⟩ := hab
      obtain ⟨f, rfl⟩ : ∃ n : Nat, fI = (n : Int) := ⟨fI.toNat, by omega⟩
      obtain ⟨t, rfl⟩ : ∃ n : Nat, tI = (n : Int) := ⟨tI.toNat, by omega⟩
      obtain ⟨x, rfl⟩ : ∃ n : Nat, xI = (n : Int) := ⟨xI.toNat, by omega⟩
      have hf : f < S := Int.ofNat_lt.1 g1
      have ht : t < S := Int.ofNat_lt.1 g3
      have hxb : x ≤ 1000000 := CR.nat_le g9
      have p0 := hcs _ _ u.1
      have p1 := hcs _ _ u.2.1
      have p2 := hcs _ _ u.2.2.1
      have p3 := hcs _ _ u.2.2.2.1
      have p4 := hcs _ _ u.2.2.2.2
      have hownD := own_kp HDo.out hkp (fun h => hCD h.symm)
      have cD : ∀ o1, (wr.alloc o1).cell? ⟨D, f, none⟩ = some (.int .i64 (cv Rf f : Nat)) := fun o1 => by
        rw [(hownD.alloc o1).cellAt f (by omega)]; exact nc_at (by omega)
      have cC : ∀ o1, (wr.alloc o1).cell? ⟨C, t, none⟩ = some (.int .i64 (cv H' t : Nat)) := fun o1 => by
        rw [(hown.alloc o1).cellAt t (by omega)]; exact nc_at (by rw [hstp.len]; exact ht)
      have fC : ∀ o1, (wr.alloc o1).frozen? ⟨C, t, none⟩ = false := fun o1 => (hown.alloc o1).frozenAt t
      obtain ⟨r, hr⟩ : ∃ z, cv Rf f = z := ⟨_, rfl⟩
      obtain ⟨z, hz⟩ : ∃ z, cv H' t = z := ⟨_, rfl⟩
      rw [hr] at cD
      rw [hz] at cC
      have HE : Hid (((lab A i o)[y]).1 = (f : Int) ∧ ((lab A i o)[y]).2.1 = (t : Int) ∧ ((lab A i o)[y]).2.2.2.2 = (x : Int)) := by rw [ea]; exact ⟨rfl, rfl, rfl⟩
      have HR : Hid (cv Rf f = r) := hr
      have HZ : Hid (cv H' t = z) := hz
      have HO : Hid (wr.ownsRow K0 3 1 (.slice (some ⟨C, 0, none⟩) S capC) S (nc H')) := hown
      have HS : Hid _ := hstp
      have HK : Hid _ := hkp
      clear hr hz ea u hcs hma g0 g1 g2 g3 g4 g5 g6 g7 g8 g9 hown hstp hkp hownD
      by_cases hrf : r < far
      · have d1 := not_far hrf
        have d3 := not_far3 hrf
        obtain ⟨rw1, erw, m7, m8⟩ : ∃ m : Nat, m = r + x ∧ wrap64 ((r : Int) + (x : Int)) = (m : Int) ∧ IntKind.i64.wrap ((r : Int) + (x : Int)) = (m : Int) := by
          have h1 := HRt.out f (by rw [HR.out]; exact hrf)
          rw [HR.out] at h1
          refine ⟨r + x, rfl, ?_, ?_⟩
          · unfold wrap64; omega
          · rw [IntKind.wrap_i64]; omega
        have HRW : Hid (rw1 = r + x) := erw
        have HRF : Hid (r < far) := hrf
        clear erw hrf
        by_cases hbet : rw1 < z
        · have nb : (rw1 : Int) < (z : Int) := Int.ofNat_lt.2 hbet
          have HV : Hid (rw1 = min (cv H' t) (cv Rf f + x)) := by rw [HZ.out, HR.out, ← HRW.out]; exact (Nat.min_eq_right (Nat.le_of_lt hbet)).symm
          go_wp2
          go_region
          go_wp2
          exact ⟨⟨y + 1, H'.set t rw1, by go_num, by omega, put1 (HO.out.alloc _).drew t rw1, HS.out.took hlt HE.out.1 HE.out.2.1 HE.out.2.2 ht (by rw [HR.out]; exact HRF.out) HV.out, ((HK.out.alloc _).drewN 1).setCell _ _ _ (fun _ => rfl)⟩, by simp [intOf]; omega⟩
        · have nb : ¬ (rw1 : Int) < (z : Int) := fun h => hbet (Int.ofNat_lt.1 h)
          have nb2 : (z : Int) ≤ (rw1 : Int) := Int.not_lt.1 nb
          have HV : Hid (z = min (cv H' t) (cv Rf f + x)) := by rw [HZ.out, HR.out, ← HRW.out]; exact (Nat.min_eq_left (Nat.not_lt.1 hbet)).symm
          go_wp2
          go_region
          go_wp2
          exact ⟨⟨y + 1, H'.set t z, by go_num, by omega, put1 (HO.out.alloc _).drew t z, HS.out.took hlt HE.out.1 HE.out.2.1 HE.out.2.2 ht (by rw [HR.out]; exact HRF.out) HV.out, ((HK.out.alloc _).drewN 1).setCell _ _ _ (fun _ => rfl)⟩, by simp [intOf]; omega⟩
      · have e1 : r = far := by have := HRT.out f; rw [HR.out] at this; omega
        have cD2 : ∀ o1, (wr.alloc o1).cell? ⟨D, f, none⟩ = some (.int .i64 9223372036854775807) := fun o1 => by rw [cD, e1, far_int]
        have HRF : Hid (¬ r < far) := hrf
        clear cD e1 hrf
        go_wp2
        exact ⟨⟨y + 1, H', by go_num, by omega, HO.out.alloc _, HS.out.skip hlt HE.out.1 (by rw [HR.out]; exact HRF.out), HK.out.alloc _⟩, by simp [intOf]; omega⟩
    · have eY : y = (lab A i o).length := by omega
      have HS : Hid (Stp S (lab A i o) Rf H (lab A i o).length H') := eY ▸ hstp
      have HO : Hid (wr.ownsRow K0 3 1 (.slice (some ⟨C, 0, none⟩) S capC) S (nc H')) := hown
      have HK : Hid _ := hkp
      clear hown hstp hkp eY
      go_wp2
      go_end0
      exact ⟨rfl, H', HS.out, HO.out, HK.out⟩
end Go.Proofs.YtfjocafepigijaaDoor.St
/- The map from pairs to their numbers. Condition: the pairs' numbers are small. -/
namespace Go.Proofs.YtfjocafepigijaaDoor.Na
open Go.RowKit Mv Po Se Wd Mp Am
open Go.WideMaps Go.WideElems
open Go.Maps (Keyed)

/-- block b is a map that has G at each number -/
def IsNm (w : World) (b n : Nat) (G : Nat → Option Nat) : Prop :=
  ∃ D : DataW Value, w.ownsMap Tryd.prog 3 El b n D ∧ ∀ a : Nat, a ≤ 1000000 → ∀ z, D.atKey (.int .i64 (a : Int)) z = (match G a with | some c => .held (.int .i64 (c : Int)) | none => z)
end Go.Proofs.YtfjocafepigijaaDoor.Na
