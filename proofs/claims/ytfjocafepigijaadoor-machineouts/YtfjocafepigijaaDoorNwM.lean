/- Plain facts on the rows of least costs, place by place. No conditions beyond that the machine is right. -/
import Derived.Test.YtfjocafepigijaaDoorNaM
namespace Go.Proofs.YtfjocafepigijaaDoor.Wg
open Mv Wk Wd St

def Bd (S p : Nat) : Nat := 1000000 * ((S + 1) * p + 1)
theorem Bd_le {S p : Nat} (hS : S ≤ 40) (hp : p ≤ 122) : Bd S p ≤ 5100000000 := by
  unfold Bd
  have : (S + 1) * p ≤ 41 * 122 := Nat.mul_le_mul (by omega) hp
  omega
abbrev Pl (m : M) (inn out : List Int) (i j : Nat) (s c : Nat) : Prop := Wk.Reach m inn out true s i j c
/-- a row that has the least cost of coming to each state at a place -/
structure Fine (m : M) (inn out : List Int) (S i j : Nat) (R : List Nat) : Prop where
  row : Wd.Row S (Pl m inn out i j) (Bd S (i + j)) R
  low : ∀ s c, Wk.Reach m inn out true s i j c → cv R s ≤ c ∧ cv R s < far
theorem Fine.top2 {m : M} {inn out : List Int} {S i j : Nat} {R : List Nat} (h : Fine m inn out S i j R) : ∀ s, cv R s < far → cv R s + 1000000 ≤ Bd S (i + j + 1) := by
  intro s hs
  have h1 := h.row.small s hs
  have h2 := fin_le R
  rw [h.row.len] at h2
  have h3 : 1000000 * fin R ≤ 1000000 * S := Nat.mul_le_mul_left _ h2
  unfold Bd at h1 ⊢
  have : (S + 1) * (i + j + 1) = (S + 1) * (i + j) + (S + 1) := Nat.mul_succ _ _
  rw [this]
  omega
theorem Bd_mono (S : Nat) {p q : Nat} (h : p ≤ q) : Bd S p ≤ Bd S q := by
  unfold Bd
  have : (S + 1) * p ≤ (S + 1) * q := Nat.mul_le_mul_left _ h
  omega
/-- a row ahead of its silent arcs -/
structure Pre (S : Nat) (P : Nat → Nat → Prop) (bd : Nat) (H : List Nat) : Prop where
  len : H.length = S
  top : ∀ s, cv H s ≤ far
  real : ∀ s, s < S → cv H s < far → P s (cv H s)
  small : ∀ s, cv H s < far → cv H s ≤ bd
theorem Pre.toRow {S : Nat} {P : Nat → Nat → Prop} {bd : Nat} {H : List Nat} (h : Pre S P bd H) : Wd.Row S P bd H := ⟨h.len, h.top, h.real, fun s hs => Nat.le_trans (h.small s hs) (Nat.le_add_right _ _)⟩
theorem cv_none (S s : Nat) : cv (List.replicate S far) s = far := by
  unfold cv
  rw [List.getD_eq_getElem?_getD, List.getElem?_replicate]
  split <;> rfl
theorem pre_none (S : Nat) (P : Nat → Nat → Prop) (bd : Nat) : Pre S P bd (List.replicate S far) :=
  ⟨List.length_replicate, fun s => by rw [cv_none]; exact Nat.le_refl _, fun s _ h => by rw [cv_none] at h; exact absurd h (Nat.lt_irrefl _), fun s h => by rw [cv_none] at h; exact absurd h (Nat.lt_irrefl _)⟩
theorem Pre.step {S : Nat} {P : Nat → Nat → Prop} {bd : Nat} {H H' Rf : List Nat} {L : List Arc} (h : Pre S P bd H) (hs : Stp S L Rf H L.length H')
    (hP : ∀ a ∈ L, ∀ f t W : Nat, a.1 = (f : Int) → a.2.1 = (t : Int) → a.2.2.2.2 = (W : Int) → cv Rf f < far → P t (cv Rf f + W) ∧ cv Rf f + W ≤ bd) : Pre S P bd H' := by
  refine ⟨hs.len, fun s => Nat.le_trans (hs.le s) (h.top s), fun s hss hd => ?_, fun s hd => ?_⟩
  · rcases hs.real s with e | ⟨a, ha, f, W, e1, e2, e3, hf, e⟩
    · rw [e] at hd ⊢; exact h.real s hss hd
    · rw [e]; exact (hP a ha f s W e1 e2 e3 hf).1
  · rcases hs.real s with e | ⟨a, ha, f, W, e1, e2, e3, hf, e⟩
    · rw [e] at hd ⊢; exact h.small s hd
    · rw [e]; exact (hP a ha f s W e1 e2 e3 hf).2
/-- what comes of a step from a good row -/
theorem stepped {m : M} {inn out : List Int} {S i j i' j' : Nat} {Rf H H' : List Nat} {a b : Int} (hr : Right m S) (hg : Fine m inn out S i' j' Rf) (hp : Pre S (Pl m inn out i j) (Bd S (i + j)) H) (hs : Stp S (lab m.arcs a b) Rf H (lab m.arcs a b).length H') (hij : i' + j' + 1 ≤ i + j)
    (hm : ∀ x ∈ lab m.arcs a b, Wk.Move inn out true x i' j' i j) :
    Pre S (Pl m inn out i j) (Bd S (i + j)) H' ∧ (∀ s, cv H' s ≤ cv H s) ∧ ∀ x ∈ lab m.arcs a b, ∀ f t W c : Nat, x.1 = (f : Int) → x.2.1 = (t : Int) → x.2.2.2.2 = (W : Int) → Wk.Reach m inn out true f i' j' c → cv H' t ≤ c + W ∧ cv H' t ≤ Bd S (i + j) := by
  refine ⟨hp.step hs (fun x hx f t W e1 e2 e3 hf => ⟨?_, ?_⟩), hs.le, fun x hx f t W c e1 e2 e3 hR => ?_⟩
  · have hmem := (List.mem_filter.1 hx).1
    obtain ⟨k, hk, rfl⟩ := List.getElem_of_mem hmem
    have hfs : f < S := by
      have ha := hr.2.2 k hk
      unfold arcB at ha
      simp only [decide_eq_true_eq] at ha
      have := hr.1
      omega
    obtain ⟨t0, ht0⟩ := hg.row.real f hfs hf
    exact ⟨t0 + 1, f, i', j', cv Rf f, k, hk, ht0, e1, e2, hm _ hx, by rw [e3]; omega⟩
  · have h1 := hg.top2 f hf
    have h2 := Bd_mono S hij
    have hmem := (List.mem_filter.1 hx).1
    obtain ⟨k, hk, rfl⟩ := List.getElem_of_mem hmem
    have ha := hr.2.2 k hk
    unfold arcB at ha
    simp only [decide_eq_true_eq] at ha
    omega
  · have h1 := hg.low f c hR
    obtain ⟨k, hk, rfl⟩ := List.getElem_of_mem hx
    have h2 := hs.done k hk hk f t W e1 e2 e3 h1.2
    have h3 := hg.top2 f h1.2
    have h4 := Bd_mono S hij
    have hmem := (List.mem_filter.1 hx).1
    obtain ⟨k', hk', e⟩ := List.getElem_of_mem hmem
    have ha := hr.2.2 k' hk'
    rw [e] at ha
    unfold arcB at ha
    simp only [decide_eq_true_eq] at ha
    omega
/-- all that comes from other places is there -/
def Comp (m : M) (inn out : List Int) (i j : Nat) (H : List Nat) : Prop := ∀ x (hx : x < m.arcs.length), ∀ f t W c i' j' : Nat, (m.arcs[x]).1 = (f : Int) → (m.arcs[x]).2.1 = (t : Int) → (m.arcs[x]).2.2.2.2 = (W : Int) → Wk.Move inn out true m.arcs[x] i' j' i j → ¬ ((m.arcs[x]).2.2.1 = 0 ∧ (m.arcs[x]).2.2.2.1 = 0) → Wk.Reach m inn out true f i' j' c → cv H t ≤ c + W ∧ cv H t < far
def From (m : M) (inn out : List Int) (H : List Nat) (a b : Int) (i' j' : Nat) : Prop := ∀ x ∈ lab m.arcs a b, ∀ f t W c : Nat, x.1 = (f : Int) → x.2.1 = (t : Int) → x.2.2.2.2 = (W : Int) → Wk.Reach m inn out true f i' j' c → cv H t ≤ c + W ∧ cv H t < far
theorem From.le {m : M} {inn out : List Int} {H H' : List Nat} {a b : Int} {i' j' : Nat} (h : From m inn out H a b i' j') (hle : ∀ s, cv H' s ≤ cv H s) : From m inn out H' a b i' j' := fun x hx f t W c e1 e2 e3 hR => by
  have := h x hx f t W c e1 e2 e3 hR
  have := hle t
  omega
theorem comp_of {m : M} {inn out : List Int} {i j : Nat} {H : List Nat} (h1 : ∀ i1 a, i = i1 + 1 → inn[i1]? = some a → From m inn out H a 0 i1 j) (h2 : ∀ j1 b, j = j1 + 1 → out[j1]? = some b → From m inn out H 0 b i j1)
    (h3 : ∀ i1 j1 a b, i = i1 + 1 → j = j1 + 1 → inn[i1]? = some a → out[j1]? = some b → From m inn out H a b i1 j1) : Comp m inn out i j H := by
  intro x hx f t W c i' j' e1 e2 e3 hm hns hR
  have hmem : ∀ a b : Int, (m.arcs[x]).2.2.1 = a → (m.arcs[x]).2.2.2.1 = b → m.arcs[x] ∈ lab m.arcs a b := fun a b ha hb => List.mem_filter.2 ⟨List.getElem_mem hx, by simp [ha, hb]⟩
  obtain ⟨hA, hB⟩ := hm
  rcases hA with ⟨a0, ei⟩ | ⟨a0, ai, ei⟩ <;> rcases hB with ⟨b0, ej⟩ | ⟨b0, _, bj, ej⟩
  · rcases b0 with b0 | b0
    · exact absurd ⟨a0, b0⟩ hns
    · cases b0
  · subst ei
    exact h2 j' _ ej bj _ (hmem 0 _ a0 rfl) f t W c e1 e2 e3 hR
  · rcases b0 with b0 | b0
    · subst ej
      exact h1 i' _ ei ai _ (hmem _ 0 rfl b0) f t W c e1 e2 e3 hR
    · cases b0
  · exact h3 i' j' _ _ ei ej ai bj _ (hmem _ _ rfl rfl) f t W c e1 e2 e3 hR
/-- what is settled behind all that comes from other places is good -/
theorem settled {m : M} {inn out : List Int} {S i j : Nat} {H R : List Nat} (hr : Right m S) (hs : Settled m.arcs S (Pl m inn out i j) (Bd S (i + j)) H R)
    (h0 : i = 0 → j = 0 → cv H 0 = 0)
    (hc : Comp m inn out i j H) (hb : Bd S (i + j) + 1000000 * S + 1000000 < far) : Fine m inn out S i j R := by
  refine ⟨hs.row, ?_⟩
  have key : ∀ n s i2 j2 c, Wk.ReachN m inn out true n s i2 j2 c → i2 = i → j2 = j → cv R s ≤ c ∧ cv R s < far := by
    intro n
    induction n with
    | zero =>
      intro s i2 j2 c h e1 e2
      obtain ⟨rfl, rfl, rfl, rfl⟩ := h
      have := h0 e1.symm e2.symm
      have h1 := hs.le 0
      rw [this] at h1
      exact ⟨h1, by unfold far; omega⟩
    | succ n ih =>
      intro s i2 j2 c h e1 e2
      obtain ⟨f, i', j', c', x, hx, hR, a1, a2, hm, hcc⟩ := h
      subst e1 e2
      have ha := hr.2.2 x hx
      unfold arcB at ha
      simp only [decide_eq_true_eq] at ha
      have hst := hr.1
      obtain ⟨W, hW⟩ : ∃ W : Nat, (m.arcs[x]).2.2.2.2 = (W : Int) := ⟨(m.arcs[x]).2.2.2.2.toNat, by omega⟩
      by_cases hsil : (m.arcs[x]).2.2.1 = 0 ∧ (m.arcs[x]).2.2.2.1 = 0
      · have hij : i' = i2 ∧ j' = j2 := by
          obtain ⟨h1, h2⟩ := hm
          constructor
          · rcases h1 with ⟨_, e⟩ | ⟨h, _⟩
            · exact e.symm
            · omega
          · rcases h2 with ⟨_, e⟩ | ⟨h, _⟩
            · exact e.symm
            · omega
        have hI := ih f i' j' c' hR hij.1 hij.2
        have hfs : f < S := by omega
        have hmem : m.arcs[x] ∈ sil m.arcs f := List.mem_filter.2 ⟨List.getElem_mem hx, by simp [hsil.1, hsil.2, a1]⟩
        have hd := hs.done f hfs hI.2 _ hmem s W a2 hW
        have hsm := hs.row.small f hI.2
        have hfl := fin_le R
        rw [hs.row.len] at hfl
        have hmul : 1000000 * fin R ≤ 1000000 * S := Nat.mul_le_mul_left _ hfl
        refine ⟨by omega, ?_⟩
        have : W ≤ 1000000 := by omega
        omega
      · have h1 := hc x hx f s W c' i' j' a1 a2 hW hm hsil ⟨n, hR⟩
        have h3 := hs.le s
        exact ⟨by omega, by omega⟩
  intro s c hR
  obtain ⟨n, hn⟩ := hR
  exact key n s i j c hn rfl rfl
end Go.Proofs.YtfjocafepigijaaDoor.Wg
/- The program's nowhere and cheapestEnd. Conditions: few states; the machine is right. -/
namespace Go.Proofs.YtfjocafepigijaaDoor.Nw
open Go.RowKit Mv Wk Po Wd Se St Wg
open CR (nc)

theorem all_far {B : List Nat} {S : Nat} (hl : B.length = S) (h : ∀ r, r < S → cv B r = far) : B = List.replicate S far := by
  apply List.ext_getElem
  · rw [List.length_replicate, hl]
  · intro r h1 h2
    have := h r (by omega)
    unfold cv at this
    rw [List.getD_eq_getElem?_getD, List.getElem?_eq_getElem h1, Option.getD_some] at this
    rw [this, List.getElem_replicate]
set_option maxHeartbeats 1000000 in
set_option maxRecDepth 100000 in
theorem nowhere_any (S : Nat) (w : World) (h0 : 0 < S) (hS : S ≤ 40) :
    Calls Tryd.prog 87 #[.int .i64 S] w fun e w' => e = .returned (.slice (some ⟨w.heap.size, 0, none⟩) S S) ∧ w'.ownsRow w.heap.size 3 1 (.slice (some ⟨w.heap.size, 0, none⟩) S S) S (nc (List.replicate S far)) ∧ Below w.heap.size w w' := by
  obtain ⟨i3, hi3, hz30, hz31, hz32⟩ := info_parts CR.info3
  go_enter Tryd.func87, Tryd.ntmps87
  go_wp2_with (at_make; refine wpList_make_full _ rfl _ _ 26 rfl w.heap.size 3 i3 (.int .i64 0) 1 Tryd.underlying26 hi3 hz30 hz31 .i64 .i64 _ _ S rfl rfl rfl rfl (by rw [hz32]; omega) (by unfold maxLen; omega) (Nat.le_refl _) ?_; intro w1 hown0 hgrow0)
  have e : (madeCells (Value.cells (.int .i64 0)) (S * 1)).toList = nc (List.replicate S 0) := by
    rw [Nat.mul_one]
    show (madeCells #[.int .i64 0] S).toList = _
    rw [toList_madeCells_one]
    simp [nc]
  rw [e] at hown0
  have hb0 : Below w.heap.size w w1 := (Below.refl _ _).grown hgrow0 (Nat.le_refl _) (by simp)
  go_loopw [9] (fun i wr => ∃ (q : Nat) (B : List Nat), i = .int .i64 q ∧ q ≤ S ∧ wr.ownsRow w.heap.size 3 1 (.slice (some ⟨w.heap.size, 0, none⟩) S S) S (nc B) ∧ B.length = S ∧ (∀ r, r < q → cv B r = far) ∧ Below w.heap.size w wr) (fun i _ => S - (intOf i).toNat)
  case atStart => exact ⟨0, _, rfl, by omega, hown0, by simp, fun r h => by omega, hb0⟩
  case round =>
    clear hown0 hgrow0 hb0
    obtain ⟨q, B, rfl, hq, hown, hl, hfar, hb⟩ := hrel
    by_cases hlt : q < S
    · have c1 : wr.cell? ⟨w.heap.size, q, none⟩ = some (.int .i64 (cv B q : Nat)) := by rw [hown.cellAt q (by omega)]; exact Se.nc_at (by omega)
      have f1 := hown.frozenAt q
      have HF : Hid (∀ r, r < q → cv B r = far) := hfar
      have HO : Hid (wr.ownsRow w.heap.size 3 1 (.slice (some ⟨w.heap.size, 0, none⟩) S S) S (nc B)) := hown
      have HB : Hid (Below w.heap.size w wr) := hb
      clear hfar hown hb
      go_wp2
      go_roundw
      case rel =>
        have hst := put1 HO.out q far
        rw [far_int] at hst
        refine ⟨q + 1, B.set q far, by go_num, by omega, hst, by rw [List.length_set]; exact hl, fun r hr => ?_, HB.out.setCell (Nat.le_refl _) _⟩
        rw [cv_set B q far r (by omega)]
        split
        · rfl
        · exact HF.out r (by omega)
      case measure => simp [intOf]; omega
    · have hB : B = List.replicate S far := all_far hl (fun r hr => hfar r (by omega))
      subst hB
      go_wp2
      go_ret
      exact ⟨rfl, hown, hb⟩

/-- the least of the first y ends, out of a row -/
structure Lf (fins : List (Int × Int)) (R : List Nat) (y v : Nat) : Prop where
  top : v ≤ far
  low : ∀ y' (h : y' < fins.length), y' < y → ∀ f : Nat, (fins[y']).1 = (f : Int) → cv R f < far → (v : Int) ≤ cv R f + (fins[y']).2
  real : v < far → ∃ y', ∃ h : y' < fins.length, ∃ f : Nat, (fins[y']).1 = (f : Int) ∧ cv R f < far ∧ (v : Int) = cv R f + (fins[y']).2
theorem Lf.start (fins : List (Int × Int)) (R : List Nat) : Lf fins R 0 far := ⟨Nat.le_refl _, fun _ _ h => absurd h (Nat.not_lt_zero _), fun h => absurd h (Nat.lt_irrefl _)⟩
theorem Lf.keep {fins : List (Int × Int)} {R : List Nat} {y v f : Nat} (h : Lf fins R y v) (hy : y < fins.length) (hf : (fins[y]).1 = (f : Int)) (hk : cv R f < far → (v : Int) ≤ cv R f + (fins[y]).2) : Lf fins R (y + 1) v := by
  refine ⟨h.top, fun y' h' hlt f' e hd => ?_, h.real⟩
  by_cases e' : y' = y
  · subst e'
    obtain rfl : f' = f := by omega
    exact hk hd
  · exact h.low y' h' (by omega) f' e hd
theorem Lf.took {fins : List (Int × Int)} {R : List Nat} {y v f p W : Nat} (h : Lf fins R y v) (hy : y < fins.length) (hf : (fins[y]).1 = (f : Int)) (hW : (fins[y]).2 = (W : Int)) (hp : cv R f = p) (hpd : p < far) (hlt : p + W < v) : Lf fins R (y + 1) (p + W) := by
  refine ⟨by have := h.top; omega, fun y' h' hlt' f' e hd => ?_, fun _ => ⟨y, hy, f, hf, by rw [hp]; exact hpd, by rw [hp, hW]; omega⟩⟩
  by_cases e' : y' = y
  · subst e'
    obtain rfl : f' = f := by omega
    rw [hp, hW]
    omega
  · have := h.low y' h' (by omega) f' e hd
    omega

set_option maxHeartbeats 1000000 in
set_option maxRecDepth 100000 in
theorem end_any (S C capC : Nat) (va vf : Value) (fins : List (Int × Int)) (R : List Nat) (w : World) (hrow : Mv.Row w vf 2 fins.length (fcs fins)) (hfin : ∀ x (h : x < fins.length), finB (S : Int) fins[x] = true) (hlF : fins.length ≤ 40) (base : Nat) (hC : w.ownsRow base 3 1 (.slice (some ⟨C, 0, none⟩) S capC) S (nc R)) (hRl : R.length = S) (hRt : ∀ s, cv R s < far → cv R s ≤ 100000000000) (hRT : ∀ s, cv R s ≤ far) :
    Calls Tryd.prog 54 #[.agg #[.int .i64 S, va, vf], .slice (some ⟨C, 0, none⟩) S capC] w fun e w' => ∃ v : Nat, e = .returned (.int .i64 (v : Int)) ∧ Lf fins R fins.length v ∧ Below w.heap.size w w' := by
  obtain ⟨hxl, af, cf, rfl, _, hF⟩ := hrow
  have HFt : Hid (∀ x (h : x < fins.length), finB (S : Int) fins[x] = true) := hfin
  have HFx : Hid (fins.length = 0 ∨ ∃ b off, af = some ⟨b, off, none⟩ ∧ b < w.heap.size ∧ ∀ j u, (fcs fins)[j]? = some u → w.cell? ⟨b, off + j, none⟩ = some u) := hF
  have HC : Hid (w.ownsRow base 3 1 (.slice (some ⟨C, 0, none⟩) S capC) S (nc R)) := hC
  have HRt : Hid (∀ s, cv R s < far → cv R s ≤ 100000000000) := hRt
  have HRT : Hid (∀ s, cv R s ≤ far) := hRT
  have hCw := (hC.lt C rfl).2
  clear hfin hF hC hRt hRT hxl
  go_enter Tryd.func54, Tryd.ntmps54
  go_wp2
  go_loopw [5, 11] (fun a x wr => ∃ l X : Nat, a = .int .i64 (l : Int) ∧ x = .int .i64 X ∧ X ≤ fins.length ∧ Below w.heap.size w wr ∧ Lf fins R X l) (fun _ x _ => fins.length - (intOf x).toNat)
  case atStart => exact ⟨far, 0, by rw [← far_int], rfl, Nat.zero_le _, (Below.refl _ _).alloc (Nat.le_refl _) _, Lf.start _ _⟩
  case round =>
    obtain ⟨l, X, rfl, rfl, hX, hb, hl⟩ := hrel
    by_cases hlt : X < fins.length
    · have hbx : ∃ b off, af = some ⟨b, off, none⟩ ∧ b < w.heap.size ∧ ∀ j u, (fcs fins)[j]? = some u → wr.cell? ⟨b, off + j, none⟩ = some u := by
        rcases HFx.out with h | ⟨b, off, e, hb1, hc⟩
        · omega
        · exact ⟨b, off, e, hb1, fun j u hu => (hb.cell hb1).trans (hc j u hu)⟩
      obtain ⟨b, off, rfl, hbl, hcs⟩ := hbx
      have u := fcs_at fins X hlt
      obtain ⟨f, x, ea⟩ : ∃ f x, fins[X] = (f, x) := ⟨_, _, rfl⟩
      have hab := HFt.out X hlt
      rw [ea] at u hab
      unfold finB at hab
      simp only [decide_eq_true_eq] at hab
      obtain ⟨g0, g1, g2, g3⟩ := hab
      obtain ⟨f, rfl⟩ : ∃ n : Nat, f = (n : Int) := ⟨f.toNat, by omega⟩
      obtain ⟨x, rfl⟩ : ∃ n : Nat, x = (n : Int) := ⟨x.toNat, by omega⟩
      have hfS : f < S := Int.ofNat_lt.1 g1
      have hxb : x ≤ 1000000 := CR.nat_le g3
      have p0 := hcs _ _ u.1
      have p1 := hcs _ _ u.2
      rw [← Nat.add_assoc] at p1
      have cC : ∀ o1, (wr.alloc o1).cell? ⟨C, f, none⟩ = some (.int .i64 (cv R f : Nat)) := fun o1 => by
        rw [World.cell?_alloc_past _ _ _ (Nat.lt_of_lt_of_le hCw hb.size), hb.cell hCw, HC.out.cellAt f (by omega)]; exact Se.nc_at (by omega)
      obtain ⟨r, hr⟩ : ∃ z, cv R f = z := ⟨_, rfl⟩
      rw [hr] at cC
      have HR : Hid (cv R f = r) := hr
      have HE : Hid ((fins[X]).1 = (f : Int) ∧ (fins[X]).2 = (x : Int)) := by rw [ea]; exact ⟨rfl, rfl⟩
      have HL : Hid (Lf fins R X l) := hl
      have HB : Hid (Below w.heap.size w wr) := hb
      have HHS : Hid (w.heap.size ≤ wr.heap.size) := hb.size
      clear hr ea u hcs g0 g1 g2 g3 hl hb
      by_cases hrf : r < far
      · have d1 := not_far hrf
        have d3 := not_far3 hrf
        obtain ⟨rw1, erw, m7, m8⟩ : ∃ m : Nat, m = r + x ∧ wrap64 ((r : Int) + (x : Int)) = (m : Int) ∧ IntKind.i64.wrap ((r : Int) + (x : Int)) = (m : Int) := by
          have h1 := HRt.out f (by rw [HR.out]; exact hrf)
          rw [HR.out] at h1
          refine ⟨r + x, rfl, ?_, ?_⟩
          · unfold wrap64; omega
          · rw [IntKind.wrap_i64]; omega
        have HRW : Hid (rw1 = r + x) := erw
        have HRF : Hid (r < far) := hrf
        clear erw hrf
        by_cases hbet : rw1 < l
        · have nb : (rw1 : Int) < (l : Int) := Int.ofNat_lt.2 hbet
          have HV : Hid (Lf fins R (X + 1) rw1) := by rw [HRW.out]; exact HL.out.took hlt HE.out.1 HE.out.2 HR.out HRF.out (by rw [← HRW.out]; exact hbet)
          go_wp2
          go_region
          go_wp2
          exact ⟨⟨rw1, X + 1, by first | rfl | go_num, by go_num, by omega, by first | exact HB.out.alloc HHS.out _ | exact (HB.out.alloc HHS.out _).drew, HV.out⟩, by simp [intOf]; omega⟩
        · have nb : ¬ (rw1 : Int) < (l : Int) := fun h => hbet (Int.ofNat_lt.1 h)
          have nb2 : (l : Int) ≤ (rw1 : Int) := Int.not_lt.1 nb
          have HV : Hid (Lf fins R (X + 1) l) := HL.out.keep hlt HE.out.1 (fun _ => by rw [HR.out, HE.out.2]; rw [HRW.out] at nb2; exact nb2)
          go_wp2
          go_region
          go_wp2
          exact ⟨⟨l, X + 1, by first | rfl | go_num, by go_num, by omega, by first | exact HB.out.alloc HHS.out _ | exact (HB.out.alloc HHS.out _).drew, HV.out⟩, by simp [intOf]; omega⟩
      · have e1 : r = far := by have := HRT.out f; rw [HR.out] at this; omega
        have cC2 : ∀ o1, (wr.alloc o1).cell? ⟨C, f, none⟩ = some (.int .i64 9223372036854775807) := fun o1 => by rw [cC, e1, far_int]
        have HV : Hid (Lf fins R (X + 1) l) := HL.out.keep hlt HE.out.1 (fun h => absurd h (by rw [HR.out]; exact hrf))
        clear cC e1 hrf
        go_wp2
        exact ⟨⟨l, X + 1, by first | rfl | go_num, by go_num, by omega, HB.out.alloc HHS.out _, HV.out⟩, by simp [intOf]; omega⟩
    · have eX : X = fins.length := by omega
      have HL : Hid (Lf fins R fins.length l) := eX ▸ hl
      clear eX hl
      go_wp2
      go_ret
      exact ⟨l, rfl, HL.out, hb⟩
end Go.Proofs.YtfjocafepigijaaDoor.Nw
