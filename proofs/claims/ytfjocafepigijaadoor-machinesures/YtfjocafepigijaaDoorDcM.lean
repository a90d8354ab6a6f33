/- The document's Closed (97): a set with all to which one comes reading nothing. Condition: the machine is right. -/
import Derived.Test.YtfjocafepigijaaDoorCnM
import Derived.Deep.QuietTactic
import Derived.BigQuiet
import Derived.Deep.Cut
import Derived.Deep.LoopGhost
namespace Go.Proofs.YtfjocafepigijaaDoor.Su
open Go.RowKit Mv Po Ps Cm

/-- how many are not in the set -/
def outs (l : List Bool) : Nat := l.count false
theorem outs_set : ∀ {l : List Bool} {t : Nat}, l[t]? = some false → outs (l.set t true) < outs l
  | [], t, h => by simp at h
  | b :: l, 0, h => by
    simp at h
    subst h
    simp [outs]
  | b :: l, t + 1, h => by
    have ih := outs_set (l := l) (t := t) (by simpa using h)
    unfold outs at ih ⊢
    rw [List.set_cons_succ, List.count_cons, List.count_cons]
    omega
theorem has_set {l : List Bool} {t v : Nat} (ht : t < l.length) : has (l.set t true) v ↔ has l v ∨ v = t := by
  unfold has
  by_cases e : t = v
  · subst e
    rw [List.getElem?_set_self ht]
    simp
  · rw [List.getElem?_set_ne e]
    constructor
    · exact .inl
    · rintro (h | h)
      · exact h
      · exact absurd h.symm e
/-- a set on its way -/
def Inv (A : List (Int × Int × Int × Int × Int)) (bs out : List Bool) : Prop := (∀ v, has bs v → has out v) ∧ ∀ v, has out v → ∃ u, has bs u ∧ Cl A u v
/-- so many arcs lead nowhere new -/
def Shut (A : List (Int × Int × Int × Int × Int)) (out : List Bool) (X : Nat) : Prop := ∀ k (h : k < A.length), k < X → ∀ f t : Nat, (A[k]).1 = (f : Int) → (A[k]).2.1 = (t : Int) → (A[k]).2.2.1 = 0 → has out f → has out t
theorem Shut.all {A : List (Int × Int × Int × Int × Int)} {out : List Bool} (h : Shut A out A.length) {u v : Nat} (hu : has out u) : Cl A u v → has out v := by
  rintro ⟨n, hn⟩
  induction n generalizing v with
  | zero => rw [← show u = v from hn]; exact hu
  | succ n ih =>
    obtain ⟨x, h1, a, ha, h2, h3, h4⟩ := hn
    obtain ⟨k, hk, rfl⟩ := List.getElem_of_mem ha
    exact h k hk hk x v h2 h3 h4 (ih h1)
theorem clo_of {S : Nat} {A : List (Int × Int × Int × Int × Int)} {bs out : List Bool} (hl : out.length = S) (hi : Inv A bs out) (hs : Shut A out A.length) : out = clo S A bs :=
  mk_eq hl fun v _ => ⟨hi.2 v, fun ⟨u, h1, h2⟩ => hs.all (hi.1 u h1) h2⟩
theorem Inv.add {A : List (Int × Int × Int × Int × Int)} {bs out : List Bool} {k f t : Nat} (h : Inv A bs out) (hk : k < A.length) (h1 : (A[k]).1 = (f : Int)) (h2 : (A[k]).2.1 = (t : Int)) (h3 : (A[k]).2.2.1 = 0) (hf : has out f) (ht : t < out.length) : Inv A bs (out.set t true) := by
  refine ⟨fun v hv => (has_set ht).2 (.inl (h.1 v hv)), fun v hv => ?_⟩
  rcases (has_set ht).1 hv with hv | rfl
  · exact h.2 v hv
  · obtain ⟨u, h4, h5⟩ := h.2 f hf
    exact ⟨u, h4, h5.step ⟨A[k], List.getElem_mem hk, h1, h2, h3⟩⟩
theorem Shut.up {A : List (Int × Int × Int × Int × Int)} {out : List Bool} {k f t : Nat} (h : Shut A out k) (hk : k < A.length) (h1 : (A[k]).1 = (f : Int)) (h2 : (A[k]).2.1 = (t : Int)) (hc : (A[k]).2.2.1 = 0 → has out f → has out t) : Shut A out (k + 1) := by
  intro j hj hjk f' t' e1 e2 e3 hf
  by_cases e : j = k
  · subst e
    have e4 : f' = f := by rw [h1] at e1; omega
    have e5 : t' = t := by rw [h2] at e2; omega
    subst e4 e5
    exact hc e3 hf
  · exact h j hj (by omega) f' t' e1 e2 e3 hf
/-- what one pass over the arcs has done so far -/
def Pass (A : List (Int × Int × Int × Int × Int)) (out0 out : List Bool) (b : Bool) (X : Nat) : Prop := (b = false → out = out0 ∧ Shut A out X) ∧ (b = true → outs out < outs out0)
theorem Pass.keep {A : List (Int × Int × Int × Int × Int)} {out0 out : List Bool} {b : Bool} {k f t : Nat} (h : Pass A out0 out b k) (hk : k < A.length) (h1 : (A[k]).1 = (f : Int)) (h2 : (A[k]).2.1 = (t : Int)) (hc : (A[k]).2.2.1 = 0 → has out f → has out t) : Pass A out0 out b (k + 1) :=
  ⟨fun hb => ⟨(h.1 hb).1, (h.1 hb).2.up hk h1 h2 hc⟩, h.2⟩
theorem Pass.more {A : List (Int × Int × Int × Int × Int)} {out0 out : List Bool} {b : Bool} {k t : Nat} (h : Pass A out0 out b k) (ht : out[t]? = some false) : Pass A out0 (out.set t true) true (k + 1) := by
  refine ⟨fun hb => (by cases hb), fun _ => ?_⟩
  have h1 := outs_set ht
  cases b with
  | false => rw [← (h.1 rfl).1]; exact h1
  | true => have := h.2 rfl; omega
set_option maxHeartbeats 4000000 in
set_option maxRecDepth 100000 in
theorem closed_any (S : Nat) (A : List (Int × Int × Int × Int × Int)) (aa af ab : Option Addr) (ca nf cf cb : Nat) (bs : List Bool) (w : World) (hG : Gd S A) (hA : Mv.Row w (.slice aa A.length ca) 5 A.length (acs A)) (hB : IsB w (.slice ab S cb) bs) (hl : bs.length = S) :
    Calls Tryd.prog 97 #[.agg #[.int .i64 (S : Int), .slice aa A.length ca, .slice af nf cf], .slice ab S cb] w fun e w' => ∃ (a : Option Addr) (c : Nat), e = .returned (.slice a S c) ∧ w'.ownsRow w.heap.size 4 1 (.slice a S c) S (bcs (clo S A bs)) ∧ Below w.heap.size w w' := by
  obtain ⟨i4, hi4, hz0, hz1, hz2⟩ := info_parts inf4
  have hS0 := hG.pos
  have hS3 := hG.few
  have hlA := hG.len
  obtain ⟨b, off, rfl, hbl, hcb⟩ : ∃ b off, ab = some ⟨b, off, none⟩ ∧ b < w.heap.size ∧ ∀ j u, (bcs bs)[j]? = some u → w.cell? ⟨b, off + j, none⟩ = some u := by
    obtain ⟨_, a', c', e, _, hx⟩ := hB
    rw [Value.slice.injEq] at e
    obtain ⟨rfl, _, rfl⟩ := e
    exact hx.resolve_left (by omega)
  obtain ⟨O1, hO1⟩ : ∃ O1 : Obj, Obj.cells #[.int .i64 (S : Int), .slice aa A.length ca, .slice af nf cf] 25 = O1 := ⟨_, rfl⟩
  have B1 := below_al w O1
  have B2 : Below w.heap.size w ((w.alloc O1).alloc (.cells #[] 4)) := B1.alloc B1.size _
  have HCB : Hid (∀ j u, (bcs bs)[j]? = some u → ((w.alloc O1).alloc (.cells #[] 4)).cell? ((⟨b, off, none⟩ : Addr).add j) = some u) := fun j u hu => by
    have hadd : (⟨b, off, none⟩ : Addr).add j = ⟨b, off + j, none⟩ := by unfold Addr.add; split <;> simp_all
    rw [hadd]
    exact (B2.cell (p := ⟨b, off + j, none⟩) hbl).trans (hcb j u hu)
  have HOW : Hid (((w.alloc O1).alloc (.cells #[] 4)).ownsRow w.heap.size 4 1 (.slice (some ⟨w.heap.size + 1, 0, none⟩) 0 0) 0 []) := by
    have h := World.ownsRow_made (w.alloc O1) #[] 0 (base := w.heap.size) (e := 4) (size := 1) B1.size (by decide) rfl
    rw [show (w.alloc O1).heap.size = w.heap.size + 1 by simp] at h
    exact h
  have HBX : Hid (((w.alloc O1).alloc (.cells #[] 4)).heap[w.heap.size]? = some (.cells #[.int .i64 (S : Int), .slice aa A.length ca, .slice af nf cf] 25 (0, 0))) := by
    show _ = _
    rw [heap_alloc_old _ _ (by simp), ← hO1]
    exact heap_alloc_new _ _
  have HB2 : Hid (Below w.heap.size w ((w.alloc O1).alloc (.cells #[] 4))) := B2
  have HA : Hid (Gd S A ∧ Mv.Row w (.slice aa A.length ca) 5 A.length (acs A) ∧ bs.length = S) := ⟨hG, hA, hl⟩
  clear hG hA hB hcb B1 B2
  go_enter Tryd.func97, Tryd.ntmps97
  go_upto_region 1 with fail
  go_wp2_with (refine wpList_append_own_at _ rfl _ _ 67 rfl w.heap.size 4 i4 (.bool false) 1 1 Tryd.underlying67 hi4 hz0 hz1 hz2 rfl (by decide) _ _ _ rfl HOW.out ⟨b, off, none⟩ S cb (bcs bs) rfl (by rw [bcs_len, hl, Nat.mul_one]) HCB.out (bcs_one bs) (by unfold maxLen; omega) (by omega) HB2.out.size ?_; intro v5 w5 ho5 hg5 _ hl5; rw [Nat.zero_add, List.nil_append] at ho5; obtain ⟨g, c, rfl, _, _⟩ := own_some ho5 hS0; have HC0 : Hid (Cs w w5 w.heap.size #[.int .i64 (S : Int), .slice aa A.length ca, .slice af nf cf] (.slice (some ⟨g, 0, none⟩) S c) S bs) := ⟨(hg5.block _ (lt_at HBX.out) (fun e => by have e2 : some w.heap.size = some (w.heap.size + 1) := e; simp at e2)).trans HBX.out, ho5, hl, HB2.out.grown hg5 HB2.out.size (fun x hx => (HOW.out.lt _ hx).1)⟩; clear ho5 hg5 hl5)
  obtain ⟨bx, hbx⟩ : ∃ bx, w.heap.size = bx := ⟨_, rfl⟩
  have HBW : Hid (w.heap.size = bx) := hbx
  rw [hbx] at HC0
  clear HCB HOW HBX HB2 hO1 hbl hi4 hz0 hz1 hz2 hl
  have hbx0 : Obj.cells #[.int .i64 (S : Int), .slice aa A.length ca, .slice af nf cf] 25 = O1 → True := fun _ => trivial
  clear hbx0
  rw [hbx]
  clear hbx
  go_upto_region 3 with fail
  go_loopg [6] (outs bs + 1) (fun gk a wr => ∃ (ag : Bool) (out : List Bool), a = .bool ag ∧ Cs w wr bx #[.int .i64 (S : Int), .slice aa A.length ca, .slice af nf cf] (.slice (some ⟨g, 0, none⟩) S c) S out ∧ Inv A bs out ∧ (ag = true → gk = outs out + 1) ∧ (ag = false → gk = 0 ∧ Shut A out A.length))
  case atStart => exact ⟨true, bs, rfl, HC0.out, ⟨fun _ h => h, fun v h => ⟨v, h, Cl.refl v⟩⟩, fun _ => rfl, fun h => by cases h⟩
  case round =>
    clear HC0
    obtain ⟨ag, out, rfl, hcs, hinv, hk1, hk2⟩ := hrel
    have HCS : Hid (Cs w wr bx #[.int .i64 (S : Int), .slice aa A.length ca, .slice af nf cf] (.slice (some ⟨g, 0, none⟩) S c) S out) := hcs
    have HIV : Hid (Inv A bs out) := hinv
    cases ag with
    | false =>
      have HSH : Hid (Shut A out A.length) := (hk2 rfl).2
      clear hk1 hk2 hcs hinv
      go_wp2
      go_ret
      exact ⟨_, _, rfl, by rw [← clo_of HCS.out.len HIV.out HSH.out]; exact HCS.out.own, HCS.out.below⟩
    | true =>
      have HGK : Hid (gk = outs out + 1) := hk1 rfl
      clear hk1 hk2 hcs hinv
      go_upto_region 6 with fail
      go_loopw [6, 7] (fun a x wr => ∃ (ag : Bool) (out1 : List Bool) (X : Nat), a = .bool ag ∧ x = .int .i64 (X : Int) ∧ X ≤ A.length ∧ Cs w wr bx #[.int .i64 (S : Int), .slice aa A.length ca, .slice af nf cf] (.slice (some ⟨g, 0, none⟩) S c) S out1 ∧ Inv A bs out1 ∧ Pass A out out1 ag X) (fun _ x _ => A.length - (intOf x).toNat)
      case atStart => exact ⟨false, out, 0, rfl, rfl, Nat.zero_le _, HCS.out, HIV.out, ⟨fun _ => ⟨rfl, fun k h hk => absurd hk (Nat.not_lt_zero k)⟩, fun h => by cases h⟩⟩
      case round =>
        clear HCS HIV
        obtain ⟨ag, out1, X, rfl, rfl, hX, hcs, hinv, hpass⟩ := hrel
        have HIV : Hid (Inv A bs out1) := hinv
        have HPS : Hid (Pass A out out1 ag X) := hpass
        have b1 := cell_of_row _ _ 1 _ _ _ hcs.box
        by_cases hlt : X < A.length
        · obtain ⟨f, t, I, o, x, heA, hf, ht, hI, _, _⟩ := HA.out.1.nat hlt
          have hrow : Mv.Row wr (.slice aa A.length ca) 5 A.length (acs A) := HA.out.2.1.below hcs.below
          obtain ⟨ab, ao, rfl, hab, p0, p1, p2, p3, p4⟩ := arc_cells hrow hlt heA
          have HEA : Hid (A[X] = ((f : Int), (t : Int), (I : Int), (o : Int), (x : Int))) := heA
          have HCS : Hid (Cs w wr bx #[.int .i64 (S : Int), .slice (some ⟨ab, ao, none⟩) A.length ca, .slice af nf cf] (.slice (some ⟨g, 0, none⟩) S c) S out1) := hcs
          clear hcs hinv hpass hrow heA
          go_upto_region 9 with fail
          have HC1 : Hid (Cs w (wr.alloc (.cells #[.int .i64 (f : Int), .int .i64 (t : Int), .int .i64 (I : Int), .int .i64 (o : Int), .int .i64 (x : Int)] 64)) bx #[.int .i64 (S : Int), .slice (some ⟨ab, ao, none⟩) A.length ca, .slice af nf cf] (.slice (some ⟨g, 0, none⟩) S c) S out1) := HCS.out.laid (below_al _ _)
          have HNB : Hid ((wr.alloc (.cells #[.int .i64 (f : Int), .int .i64 (t : Int), .int .i64 (I : Int), .int .i64 (o : Int), .int .i64 (x : Int)] 64)).heap[wr.heap.size]? = some (.cells #[.int .i64 (f : Int), .int .i64 (t : Int), .int .i64 (I : Int), .int .i64 (o : Int), .int .i64 (x : Int)] 64 (0, 0))) := heap_alloc_new _ _
          clear HCS p0 p1 p2 p3 p4 b1 hab
          generalize wr.alloc (.cells #[.int .i64 (f : Int), .int .i64 (t : Int), .int .i64 (I : Int), .int .i64 (o : Int), .int .i64 (x : Int)] 64) = W1 at *
          generalize wr.heap.size = nb at *
          obtain ⟨bf, hbf, cf1⟩ := HC1.out.cell hf
          obtain ⟨bt, hbt, ct1⟩ := HC1.out.cell ht
          have q0 := cell_of_row _ _ 0 _ _ _ HNB.out
          have q1 := cell_of_row _ _ 1 _ _ _ HNB.out
          have q2 := cell_of_row _ _ 2 _ _ _ HNB.out
          have hfz := HC1.out.frozen t
          have hf0 : (0 : Int) ≤ (f : Int) := by omega
          have ht0 : (0 : Int) ≤ (t : Int) := by omega
          by_cases hI0 : I = 0
          · subst hI0
            cases bf with
            | false =>
              have HPK : Hid (Pass A out out1 ag (X + 1)) := HPS.out.keep hlt (by rw [HEA.out]) (by rw [HEA.out]) (fun _ h => by unfold has at h; rw [hbf] at h; cases h)
              clear hbf hbt
              go_wp2
              repeat (go_quiet (fail); go_wp2)
              go_roundw
              case rel => exact ⟨ag, out1, X + 1, rfl, by go_num, hlt, by first | exact HC1.out | exact HC1.out.laid (below_drewN (Below.refl _ _) _), HIV.out, HPK.out⟩
              case measure => simp [intOf]; omega
            | true =>
              cases bt with
              | true =>
                have HPK : Hid (Pass A out out1 ag (X + 1)) := HPS.out.keep hlt (by rw [HEA.out]) (by rw [HEA.out]) (fun _ _ => hbt)
                clear hbf hbt
                go_wp2
                repeat (go_quiet (fail); go_wp2)
                go_roundw
                case rel => exact ⟨ag, out1, X + 1, rfl, by go_num, hlt, by first | exact HC1.out | exact HC1.out.laid (below_drewN (Below.refl _ _) _), HIV.out, HPK.out⟩
                case measure => simp [intOf]; omega
              | false =>
                have htl : t < out1.length := by rw [HC1.out.len]; exact ht
                have HPK : Hid (Pass A out (out1.set t true) true (X + 1)) := HPS.out.more hbt
                have HIN : Hid (Inv A bs (out1.set t true)) := HIV.out.add hlt (by rw [HEA.out]) (by rw [HEA.out]) (by rw [HEA.out]; rfl) hbf htl
                clear hbf hbt htl
                go_wp2
                go_roundw
                case rel => exact ⟨true, out1.set t true, X + 1, rfl, by go_num, hlt, HC1.out.set, HIN.out, HPK.out⟩
                case measure => simp [intOf]; omega
          · have hIn : ((I : Int) == 0) = false := by simpa using hI0
            have HPK : Hid (Pass A out out1 ag (X + 1)) := HPS.out.keep hlt (by rw [HEA.out]) (by rw [HEA.out]) (fun h _ => by rw [HEA.out] at h; dsimp only at h; omega)
            clear hbf hbt hI0
            go_wp2
            repeat (go_quiet (fail); go_wp2)
            go_roundw
            case rel => exact ⟨ag, out1, X + 1, rfl, by go_num, hlt, by first | exact HC1.out | exact HC1.out.laid (below_drewN (Below.refl _ _) _), HIV.out, HPK.out⟩
            case measure => simp [intOf]; omega
        · obtain rfl : X = A.length := by omega
          have HCS : Hid (Cs w wr bx #[.int .i64 (S : Int), .slice aa A.length ca, .slice af nf cf] (.slice (some ⟨g, 0, none⟩) S c) S out1) := hcs
          clear hcs hinv hpass
          go_wp2
          cases ag with
          | false =>
            have HSH : Hid (Shut A out1 A.length) := (HPS.out.1 rfl).2
            go_roundg 0
            case measure => rw [HGK.out]; omega
            case rel => exact ⟨false, out1, rfl, HCS.out, HIV.out, fun h => (by cases h), fun _ => ⟨rfl, HSH.out⟩⟩
          | true =>
            have HLT : Hid (outs out1 < outs out) := HPS.out.2 rfl
            go_roundg (outs out1 + 1)
            case measure => rw [HGK.out]; have := HLT.out; omega
            case rel => exact ⟨true, out1, rfl, HCS.out, HIV.out, fun _ => rfl, fun h => (by cases h)⟩
end Go.Proofs.YtfjocafepigijaaDoor.Su
/- The document's First (78) and Next (79): the sets of states at which reading begins, and behind a symbol. Condition: the machine is right. -/
namespace Go.Proofs.YtfjocafepigijaaDoor.Su
open Go.RowKit Mv Po Ps Cm

theorem run_mkB (n : Nat) (hn : n ≤ 100000) (W : World) : (Instr.makeSlice 67 (.int .i64 (n : Int)) (.int .i64 (n : Int))).run Tryd.prog W = .ok (.slice (some ⟨W.heap.size, 0, none⟩) n n) (W.alloc (.cells (madeCells #[.bool false] n) 4)) := by
  obtain ⟨i0, hi, hz0, hz1, hz2⟩ := info_parts inf4
  have hr := run_make (P := Tryd.prog) W 67 4 i0 (.bool false) Tryd.underlying67 hi hz0 .i64 .i64 (n : Int) (n : Int) (by omega) (Int.le_refl _) (by rw [hz2]; omega) (by omega)
  simp only [Int.toNat_natCast, hz1, Nat.mul_one] at hr
  exact hr
theorem own_mkB (W : World) (base n : Nat) (hb : base ≤ W.heap.size) (hn : n ≤ 100000) : (W.alloc (.cells (madeCells #[.bool false] n) 4)).ownsRow base 4 1 (.slice (some ⟨W.heap.size, 0, none⟩) n n) n (bcs (List.replicate n false)) := by
  have e : (madeCells #[.bool false] n).toList = bcs (List.replicate n false) := by rw [toList_madeCells_one]; simp [bcs]
  refine ⟨by simp [bcs], .inr ⟨W.heap.size, n, madeCells #[.bool false] n, rfl, hb, heap_alloc_new _ _, Nat.le_refl _, by unfold maxLen; omega, ?_, ?_⟩⟩
  · rw [← Array.length_toList, e]; simp [bcs]
  · rw [e]; simp [bcs]
theorem has_rep {n v : Nat} : ¬ has (List.replicate n false) v := by
  unfold has
  rw [List.getElem?_replicate]
  split <;> simp
set_option maxHeartbeats 4000000 in
set_option maxRecDepth 100000 in
theorem first_any (S : Nat) (A : List (Int × Int × Int × Int × Int)) (aa af : Option Addr) (ca nf cf : Nat) (w : World) (hG : Gd S A) (hA : Mv.Row w (.slice aa A.length ca) 5 A.length (acs A)) :
    Calls Tryd.prog 78 #[.agg #[.int .i64 (S : Int), .slice aa A.length ca, .slice af nf cf]] w fun e w' => ∃ (a : Option Addr) (c : Nat), e = .returned (.slice a S c) ∧ w'.ownsRow w.heap.size 4 1 (.slice a S c) S (bcs (first S A)) ∧ Below w.heap.size w w' := by
  have hS0 := hG.pos
  have hS3 := hG.few
  have hmk := run_mkB S (by omega)
  obtain ⟨O1, hO1⟩ : ∃ O1 : Obj, Obj.cells #[.int .i64 (S : Int), .slice aa A.length ca, .slice af nf cf] 25 = O1 := ⟨_, rfl⟩
  have B1 := below_al w O1
  have k0 : (w.alloc O1).cell? ⟨w.heap.size, 0, none⟩ = some (.int .i64 (S : Int)) := by rw [← hO1]; exact cell_of_row _ _ 0 _ _ _ (heap_alloc_new w _)
  have HC0 : Hid (Cs w ((w.alloc O1).alloc (.cells (madeCells #[.bool false] S) 4)) w.heap.size #[.int .i64 (S : Int), .slice aa A.length ca, .slice af nf cf] (.slice (some ⟨w.heap.size + 1, 0, none⟩) S S) S (List.replicate S false)) := by
    have h := own_mkB (w.alloc O1) w.heap.size S B1.size (by omega)
    rw [show (w.alloc O1).heap.size = w.heap.size + 1 by simp] at h
    refine ⟨?_, h, by simp, B1.alloc B1.size _⟩
    rw [heap_alloc_old _ _ (by simp), ← hO1]
    exact heap_alloc_new _ _
  have HG : Hid (Gd S A ∧ Mv.Row w (.slice aa A.length ca) 5 A.length (acs A)) := ⟨hG, hA⟩
  clear hG hA B1
  go_enter Tryd.func78, Tryd.ntmps78
  go_upto_region 2 with fail
  generalize (w.alloc O1).alloc (.cells (madeCells #[.bool false] S) 4) = W1 at *
  obtain ⟨g, hg⟩ : ∃ g, w.heap.size + 1 = g := ⟨_, rfl⟩
  obtain ⟨bx, hbx⟩ : ∃ bx, w.heap.size = bx := ⟨_, rfl⟩
  rw [hg, hbx] at HC0
  rw [hg, hbx]
  have hfz := HC0.out.frozen 0
  obtain ⟨_, _, c0⟩ := HC0.out.cell (t := 0) hS0
  have HC1 : Hid _ := HC0.out.set (t := 0)
  clear hg hmk hO1 k0
  go_upto_region 3 with fail
  clear c0 hfz
  generalize W1.setCell ⟨g, 0, none⟩ (.bool true) = W2 at *
  have b0 := cell_of_row _ _ 0 _ _ _ HC1.out.box
  have b1 := cell_of_row _ _ 1 _ _ _ HC1.out.box
  have b2 := cell_of_row _ _ 2 _ _ _ HC1.out.box
  have hbs : ((List.replicate S false).set 0 true).length = S := HC1.out.len
  have K97 := closed_any S A aa af (some ⟨g, 0, none⟩) ca nf cf S ((List.replicate S false).set 0 true) W2 HG.out.1 (HG.out.2.below HC1.out.below) (by have h := own_row HC1.out.own (by omega); rw [show IsB W2 (.slice (some ⟨g, 0, none⟩) S S) ((List.replicate S false).set 0 true) = Mv.Row W2 (.slice (some ⟨g, 0, none⟩) S S) 1 ((List.replicate S false).set 0 true).length (bcs ((List.replicate S false).set 0 true)) from rfl, hbs]; exact h) hbs
  have e : (List.replicate S false).set 0 true = mk S fun v => v = 0 := mk_eq hbs fun v _ => by
    rw [has_set (by simp; exact hS0)]
    exact ⟨fun h => h.resolve_left has_rep, .inr⟩
  have HE : Hid (clo S A ((List.replicate S false).set 0 true) = first S A) := by show _ = _; rw [e]; rfl
  have HBL : Hid (Below w.heap.size w W2) := HC1.out.below
  have HBX : Hid (w.heap.size = bx) := hbx
  clear e hbs hbx HC0
  go_wp2_with (go_at_call 97; (with_reducible refine K97.mono ?_); clear K97; rintro e w3 ⟨a3, c3, rfl, ho3, hb3⟩; have HO : Hid _ := ho3; have HB3 : Hid _ := hb3; clear ho3 hb3)
  go_ret
  exact ⟨_, _, rfl, by rw [← HE.out]; exact own_le HO.out HBL.out.size, HBL.out.trans (HB3.out.mono HBL.out.size)⟩
end Go.Proofs.YtfjocafepigijaaDoor.Su
/- The document's Next (79): the set of states behind a symbol. Condition: the machine is right. -/
namespace Go.Proofs.YtfjocafepigijaaDoor.Su
open Go.RowKit Mv Po Ps Cm

/-- the states to which so many arcs lead -/
def Lead (A : List (Int × Int × Int × Int × Int)) (bs : List Bool) (c X v : Nat) : Prop := ∃ k, ∃ h : k < A.length, k < X ∧ ∃ u : Nat, (A[k]).1 = (u : Int) ∧ (A[k]).2.1 = (v : Int) ∧ (A[k]).2.2.1 = (c : Int) ∧ has bs u
theorem Lead.up {A : List (Int × Int × Int × Int × Int)} {bs : List Bool} {c X v f t : Nat} (h : X < A.length) (h1 : (A[X]).1 = (f : Int)) (h2 : (A[X]).2.1 = (t : Int)) : Lead A bs c (X + 1) v ↔ Lead A bs c X v ∨ ((A[X]).2.2.1 = (c : Int) ∧ has bs f ∧ v = t) := by
  constructor
  · rintro ⟨k, hk, hkX, u, e1, e2, e3, e4⟩
    by_cases e : k = X
    · subst e
      have e5 : u = f := by rw [h1] at e1; omega
      have e6 : v = t := by rw [h2] at e2; omega
      subst e5
      exact .inr ⟨e3, e4, e6⟩
    · exact .inl ⟨k, hk, by omega, u, e1, e2, e3, e4⟩
  · rintro (⟨k, hk, hkX, u, e1, e2, e3, e4⟩ | ⟨e3, e4, rfl⟩)
    · exact ⟨k, hk, by omega, u, e1, e2, e3, e4⟩
    · exact ⟨X, h, by omega, f, h1, h2, e3, e4⟩
theorem Lead.all {A : List (Int × Int × Int × Int × Int)} {bs : List Bool} {c v : Nat} : Lead A bs c A.length v ↔ ∃ u, has bs u ∧ Ed A (c : Int) u v := by
  constructor
  · rintro ⟨k, hk, _, u, e1, e2, e3, e4⟩
    exact ⟨u, e4, A[k], List.getElem_mem hk, e1, e2, e3⟩
  · rintro ⟨u, e4, a, ha, e1, e2, e3⟩
    obtain ⟨k, hk, rfl⟩ := List.getElem_of_mem ha
    exact ⟨k, hk, hk, u, e1, e2, e3, e4⟩
set_option maxHeartbeats 4000000 in
set_option maxRecDepth 100000 in
theorem next_any (S : Nat) (A : List (Int × Int × Int × Int × Int)) (aa af asx : Option Addr) (ca nf cf cs c : Nat) (bs : List Bool) (w : World) (hG : Gd S A) (hA : Mv.Row w (.slice aa A.length ca) 5 A.length (acs A)) (hB : IsB w (.slice asx S cs) bs) (hl : bs.length = S) (hc : c ≤ 60) :
    Calls Tryd.prog 79 #[.agg #[.int .i64 (S : Int), .slice aa A.length ca, .slice af nf cf], .slice asx S cs, .int .i64 (c : Int)] w fun e w' => ∃ (a : Option Addr) (c1 : Nat), e = .returned (.slice a S c1) ∧ w'.ownsRow w.heap.size 4 1 (.slice a S c1) S (bcs (nx S A bs c)) ∧ Below w.heap.size w w' := by
  have hS0 := hG.pos
  have hS3 := hG.few
  have hlA := hG.len
  have hmk := run_mkB S (by omega)
  obtain ⟨sb, so, rfl, hsb, hcb⟩ : ∃ b off, asx = some ⟨b, off, none⟩ ∧ b < w.heap.size ∧ ∀ j u, (bcs bs)[j]? = some u → w.cell? ⟨b, off + j, none⟩ = some u := by
    obtain ⟨_, a', c', e, _, hx⟩ := hB
    rw [Value.slice.injEq] at e
    obtain ⟨rfl, _, rfl⟩ := e
    exact hx.resolve_left (by omega)
  obtain ⟨O1, hO1⟩ : ∃ O1 : Obj, Obj.cells #[.int .i64 (S : Int), .slice aa A.length ca, .slice af nf cf] 25 = O1 := ⟨_, rfl⟩
  have B1 := below_al w O1
  have k0 : (w.alloc O1).cell? ⟨w.heap.size, 0, none⟩ = some (.int .i64 (S : Int)) := by rw [← hO1]; exact cell_of_row _ _ 0 _ _ _ (heap_alloc_new w _)
  have HC0 : Hid (Cs w ((w.alloc O1).alloc (.cells (madeCells #[.bool false] S) 4)) w.heap.size #[.int .i64 (S : Int), .slice aa A.length ca, .slice af nf cf] (.slice (some ⟨w.heap.size + 1, 0, none⟩) S S) S (List.replicate S false)) := by
    have h := own_mkB (w.alloc O1) w.heap.size S B1.size (by omega)
    rw [show (w.alloc O1).heap.size = w.heap.size + 1 by simp] at h
    refine ⟨?_, h, by simp, B1.alloc B1.size _⟩
    rw [heap_alloc_old _ _ (by simp), ← hO1]
    exact heap_alloc_new _ _
  have HA : Hid (Gd S A ∧ Mv.Row w (.slice aa A.length ca) 5 A.length (acs A) ∧ bs.length = S) := ⟨hG, hA, hl⟩
  have HSB : Hid (∀ (W : World) (j : Nat) (b : Bool), Below w.heap.size w W → bs[j]? = some b → W.cell? ⟨sb, so + j, none⟩ = some (.bool b)) := fun W j b hW hb => (hW.cell (p := ⟨sb, so + j, none⟩) hsb).trans (hcb j _ (bcs_at hb))
  clear hG hA hB hcb hsb hl
  go_enter Tryd.func79, Tryd.ntmps79
  go_upto_region 2 with fail
  generalize (w.alloc O1).alloc (.cells (madeCells #[.bool false] S) 4) = W1 at *
  obtain ⟨g, hg⟩ : ∃ g, w.heap.size + 1 = g := ⟨_, rfl⟩
  obtain ⟨bx, hbx⟩ : ∃ bx, w.heap.size = bx := ⟨_, rfl⟩
  rw [hg, hbx] at HC0
  rw [hg, hbx]
  clear hg hmk hO1 k0 B1
  go_upto_region 3 with fail
  go_loopw [8] (fun x wr => ∃ (X : Nat) (out1 : List Bool), x = .int .i64 (X : Int) ∧ X ≤ A.length ∧ Cs w wr bx #[.int .i64 (S : Int), .slice aa A.length ca, .slice af nf cf] (.slice (some ⟨g, 0, none⟩) S S) S out1 ∧ ∀ v, v < S → (has out1 v ↔ Lead A bs c X v)) (fun x _ => A.length - (intOf x).toNat)
  case atStart => exact ⟨0, _, rfl, Nat.zero_le _, HC0.out, fun v _ => ⟨fun h => absurd h has_rep, fun ⟨k, _, h, _⟩ => absurd h (Nat.not_lt_zero k)⟩⟩
  case round =>
    clear HC0
    obtain ⟨X, out1, rfl, hX, hcs, hinv⟩ := hrel
    have HI0 : Hid (∀ v, v < S → (has out1 v ↔ Lead A bs c X v)) := hinv
    have b1 := cell_of_row _ _ 1 _ _ _ hcs.box
    by_cases hlt : X < A.length
    · obtain ⟨f, t, I, o, x, heA, hf, ht, hI, _, _⟩ := HA.out.1.nat hlt
      have hrow : Mv.Row wr (.slice aa A.length ca) 5 A.length (acs A) := HA.out.2.1.below hcs.below
      obtain ⟨ab, ao, rfl, hab, p0, p1, p2, p3, p4⟩ := arc_cells hrow hlt heA
      have HUP : Hid (∀ v, Lead A bs c (X + 1) v ↔ Lead A bs c X v ∨ ((I : Int) = (c : Int) ∧ has bs f ∧ v = t)) := fun v => by
        have h := Lead.up (bs := bs) (c := c) (v := v) (f := f) (t := t) hlt (by rw [heA]) (by rw [heA])
        rw [heA] at h
        exact h
      have HCS : Hid (Cs w wr bx #[.int .i64 (S : Int), .slice (some ⟨ab, ao, none⟩) A.length ca, .slice af nf cf] (.slice (some ⟨g, 0, none⟩) S S) S out1) := hcs
      clear hcs hinv hrow heA
      go_upto_region 6 with fail
      have HC1 : Hid (Cs w (wr.alloc (.cells #[.int .i64 (f : Int), .int .i64 (t : Int), .int .i64 (I : Int), .int .i64 (o : Int), .int .i64 (x : Int)] 64)) bx #[.int .i64 (S : Int), .slice (some ⟨ab, ao, none⟩) A.length ca, .slice af nf cf] (.slice (some ⟨g, 0, none⟩) S S) S out1) := HCS.out.laid (below_al _ _)
      have HNB : Hid ((wr.alloc (.cells #[.int .i64 (f : Int), .int .i64 (t : Int), .int .i64 (I : Int), .int .i64 (o : Int), .int .i64 (x : Int)] 64)).heap[wr.heap.size]? = some (.cells #[.int .i64 (f : Int), .int .i64 (t : Int), .int .i64 (I : Int), .int .i64 (o : Int), .int .i64 (x : Int)] 64 (0, 0))) := heap_alloc_new _ _
      clear HCS p0 p1 p2 p3 p4 b1 hab
      generalize wr.alloc (.cells #[.int .i64 (f : Int), .int .i64 (t : Int), .int .i64 (I : Int), .int .i64 (o : Int), .int .i64 (x : Int)] 64) = W2 at *
      generalize wr.heap.size = nb at *
      obtain ⟨bf, hbf⟩ : ∃ b, bs[f]? = some b := ⟨_, List.getElem?_eq_getElem (by rw [HA.out.2.2]; exact hf)⟩
      have cf1 := HSB.out W2 f bf HC1.out.below hbf
      obtain ⟨_, _, ct1⟩ := HC1.out.cell ht
      have q0 := cell_of_row _ _ 0 _ _ _ HNB.out
      have q1 := cell_of_row _ _ 1 _ _ _ HNB.out
      have q2 := cell_of_row _ _ 2 _ _ _ HNB.out
      have hfz := HC1.out.frozen t
      have hf0 : (0 : Int) ≤ (f : Int) := by omega
      have ht0 : (0 : Int) ≤ (t : Int) := by omega
      by_cases hIc : I = c
      · subst hIc
        cases bf with
        | false =>
          have HIV : Hid (∀ v, v < S → (has out1 v ↔ Lead A bs I (X + 1) v)) := fun v hv => by
            rw [HUP.out v, HI0.out v hv]
            exact ⟨.inl, fun h => h.resolve_right (fun h2 => by have h3 := h2.2.1; unfold has at h3; rw [hbf] at h3; cases h3)⟩
          clear hbf
          go_wp2
          repeat (go_quiet (fail); go_wp2)
          go_roundw
          case rel => exact ⟨X + 1, out1, by go_num, hlt, by first | exact HC1.out | exact HC1.out.laid (below_drewN (Below.refl _ _) _), HIV.out⟩
          case measure => simp [intOf]; omega
        | true =>
          have HIV : Hid (∀ v, v < S → (has (out1.set t true) v ↔ Lead A bs I (X + 1) v)) := fun v hv => by
            rw [HUP.out v, has_set (by rw [HC1.out.len]; exact ht), HI0.out v hv]
            exact ⟨fun h => h.imp id (fun e => ⟨rfl, hbf, e⟩), fun h => h.imp id (fun e => e.2.2)⟩
          clear hbf
          go_wp2
          go_roundw
          case rel => exact ⟨X + 1, out1.set t true, by go_num, hlt, HC1.out.set, HIV.out⟩
          case measure => simp [intOf]; omega
      · have hIn : ((I : Int) == (c : Int)) = false := by have h : ¬ (I : Int) = (c : Int) := (by omega); simpa using h
        have HIV : Hid (∀ v, v < S → (has out1 v ↔ Lead A bs c (X + 1) v)) := fun v hv => by
          rw [HUP.out v, HI0.out v hv]
          exact ⟨.inl, fun h => h.resolve_right (fun h2 => hIc (by have := h2.1; omega))⟩
        clear hbf hIc
        go_wp2
        repeat (go_quiet (fail); go_wp2)
        go_roundw
        case rel => exact ⟨X + 1, out1, by go_num, hlt, by first | exact HC1.out | exact HC1.out.laid (below_drewN (Below.refl _ _) _), HIV.out⟩
        case measure => simp [intOf]; omega
    · obtain rfl : X = A.length := by omega
      have HC1 : Hid (Cs w wr bx #[.int .i64 (S : Int), .slice aa A.length ca, .slice af nf cf] (.slice (some ⟨g, 0, none⟩) S S) S out1) := hcs
      have b0 := cell_of_row _ _ 0 _ _ _ hcs.box
      have b2 := cell_of_row _ _ 2 _ _ _ hcs.box
      have hbs : out1.length = S := hcs.len
      have K97 := closed_any S A aa af (some ⟨g, 0, none⟩) ca nf cf S out1 wr HA.out.1 (HA.out.2.1.below hcs.below) (by have h := own_row hcs.own (by omega); rw [show IsB wr (.slice (some ⟨g, 0, none⟩) S S) out1 = Mv.Row wr (.slice (some ⟨g, 0, none⟩) S S) 1 out1.length (bcs out1) from rfl, hbs]; exact h) hbs
      have HE : Hid (clo S A out1 = nx S A bs c) := by
        show _ = _
        unfold nx
        rw [← mk_eq (p := fun v => ∃ u, has bs u ∧ Ed A (c : Int) u v) hbs (fun v hv => by rw [HI0.out v hv]; exact Lead.all)]
      have HBL : Hid (Below w.heap.size w wr) := hcs.below
      have HBX : Hid (w.heap.size = bx) := hbx
      clear hbs hcs hinv hbx HI0
      go_wp2_with (go_at_call 97; (with_reducible refine K97.mono ?_); clear K97; rintro e w3 ⟨a3, c3, rfl, ho3, hb3⟩; have HO : Hid _ := ho3; have HB3 : Hid _ := hb3; clear ho3 hb3)
      go_ret
      exact ⟨_, _, rfl, by rw [← HE.out]; exact own_le HO.out HBL.out.size, HBL.out.trans (HB3.out.mono HBL.out.size)⟩
end Go.Proofs.YtfjocafepigijaaDoor.Su
