/- The document's Void (80), sameSet (81), Ends (82): is a set empty, are two the same, is one of a set final? Conditions: a set has at most 100,000 places; finals are states. -/
import Derived.Test.YtfjocafepigijaaDoorDcM
import Derived.Deep.RegionHeld3
namespace Go.Proofs.YtfjocafepigijaaDoor.Su
open Go.RowKit Mv Po Ps Cm

theorem isb_cells {w : World} {a : Option Addr} {c n : Nat} {bs : List Bool} (h : IsB w (.slice a n c) bs) (hn : bs.length = n) (h0 : 0 < n) : ∃ b off, a = some ⟨b, off, none⟩ ∧ b < w.heap.size ∧ ∀ j x, bs[j]? = some x → w.cell? ⟨b, off + j, none⟩ = some (.bool x) := by
  obtain ⟨_, a', c', e, _, hx⟩ := h
  rw [Value.slice.injEq] at e
  obtain ⟨rfl, _, rfl⟩ := e
  obtain ⟨b, off, rfl, hb, hc⟩ := hx.resolve_left (by omega)
  exact ⟨b, off, rfl, hb, fun j x hj => hc j _ (bcs_at hj)⟩
theorem void_at {bs : List Bool} {k : Nat} (h : bs[k]? = some true) : void bs = false := by
  cases e : void bs with
  | false => rfl
  | true => exact absurd h (void_iff.1 e k)
theorem void_no {bs : List Bool} (h : ∀ j, j < bs.length → bs[j]? = some false) : void bs = true := void_iff.2 fun v hv => by
  have hl := (List.getElem?_eq_some_iff.1 hv).1
  have := h v hl
  unfold has at hv
  rw [hv] at this
  cases this
set_option maxHeartbeats 1000000 in
set_option maxRecDepth 100000 in
theorem void_any (a : Option Addr) (c n : Nat) (bs : List Bool) (w : World) (h : IsB w (.slice a n c) bs) (hn : bs.length = n) (hl : n ≤ 100000) : Calls Tryd.prog 80 #[.slice a n c] w fun e w' => e = .returned (.bool (void bs)) ∧ Below w.heap.size w w' := by
  have HB : Hid (IsB w (.slice a n c) bs ∧ bs.length = n) := ⟨h, hn⟩
  clear h hn
  go_enter Tryd.func80, Tryd.ntmps80
  go_wp2
  go_loopw [3] (fun i wr => ∃ k : Nat, i = .int .i64 (k : Int) ∧ k ≤ n ∧ wr = w ∧ ∀ j, j < k → bs[j]? = some false) (fun i _ => n - (intOf i).toNat)
  case atStart => exact ⟨0, rfl, Nat.zero_le _, rfl, fun j h => absurd h (Nat.not_lt_zero j)⟩
  case round =>
    obtain ⟨k, rfl, hk, rfl, hz⟩ := hrel
    have HZ : Hid (∀ j, j < k → bs[j]? = some false) := hz
    clear hz
    by_cases hlt : k < n
    · obtain ⟨b, off, rfl, _, hc⟩ := isb_cells HB.out.1 HB.out.2 (by omega)
      obtain ⟨x, hx⟩ : ∃ x, bs[k]? = some x := ⟨_, List.getElem?_eq_getElem (by rw [HB.out.2]; exact hlt)⟩
      have c0 := hc k x hx
      clear hc
      cases x with
      | true =>
        have HV : Hid (void bs = false) := void_at hx
        clear hx
        go_wp2
        go_ret
        exact ⟨(by rw [HV.out]; rfl), Below.refl _ _⟩
      | false =>
        have HX : Hid (∀ j, j < k + 1 → bs[j]? = some false) := fun j hj => by
          by_cases e : j = k
          · subst e; exact hx
          · exact HZ.out j (by omega)
        clear hx
        go_wp2
        go_roundw
        case rel => exact ⟨k + 1, by go_num, hlt, trivial, HX.out⟩
        case measure => simp [intOf]; omega
    · obtain rfl : k = n := by omega
      have HV : Hid (void bs = true) := void_no (fun j hj => HZ.out j (by rw [← HB.out.2]; exact hj))
      go_wp2
      go_ret
      exact ⟨(by rw [HV.out]; rfl), Below.refl _ _⟩
theorem same_no {a b : List Bool} {k : Nat} {x y : Bool} (ha : a[k]? = some x) (hb : b[k]? = some y) (h : x ≠ y) : decide (a = b) = false := decide_eq_false fun e => by
  subst e
  rw [ha] at hb
  exact h (by simpa using hb)
theorem same_yes {a b : List Bool} (hl : a.length = b.length) (h : ∀ j, j < a.length → a[j]? = b[j]?) : decide (a = b) = true := decide_eq_true (List.ext_getElem? fun j => by
  by_cases hj : j < a.length
  · exact h j hj
  · rw [List.getElem?_eq_none (by omega), List.getElem?_eq_none (by omega)])
set_option maxHeartbeats 1000000 in
set_option maxRecDepth 100000 in
theorem sameSet_any (aa ab : Option Addr) (ca cb n : Nat) (a b : List Bool) (w : World) (ha : IsB w (.slice aa n ca) a) (hb : IsB w (.slice ab n cb) b) (hla : a.length = n) (hlb : b.length = n) (hl : n ≤ 100000) : Calls Tryd.prog 81 #[.slice aa n ca, .slice ab n cb] w fun e w' => e = .returned (.bool (decide (a = b))) ∧ Below w.heap.size w w' := by
  have HB : Hid (IsB w (.slice aa n ca) a ∧ IsB w (.slice ab n cb) b ∧ a.length = n ∧ b.length = n) := ⟨ha, hb, hla, hlb⟩
  clear ha hb hla hlb
  go_enter Tryd.func81, Tryd.ntmps81
  go_wp2
  go_loopw [5] (fun i wr => ∃ k : Nat, i = .int .i64 (k : Int) ∧ k ≤ n ∧ Below w.heap.size w wr ∧ ∀ j, j < k → a[j]? = b[j]?) (fun i _ => n - (intOf i).toNat)
  case atStart => exact ⟨0, rfl, Nat.zero_le _, Below.refl _ _, fun j h => absurd h (Nat.not_lt_zero j)⟩
  case round =>
    obtain ⟨k, rfl, hk, hbw, hz⟩ := hrel
    have HZ : Hid (∀ j, j < k → a[j]? = b[j]?) := hz
    have HW : Hid (Below w.heap.size w wr) := hbw
    clear hz hbw
    by_cases hlt : k < n
    · obtain ⟨b1, o1, rfl, hb1, hc1⟩ := isb_cells HB.out.1 HB.out.2.2.1 (by omega)
      obtain ⟨b2, o2, rfl, hb2, hc2⟩ := isb_cells HB.out.2.1 HB.out.2.2.2 (by omega)
      obtain ⟨x, hx⟩ : ∃ x, a[k]? = some x := ⟨_, List.getElem?_eq_getElem (by rw [HB.out.2.2.1]; exact hlt)⟩
      obtain ⟨y, hy⟩ : ∃ y, b[k]? = some y := ⟨_, List.getElem?_eq_getElem (by rw [HB.out.2.2.2]; exact hlt)⟩
      have c1 : wr.cell? ⟨b1, o1 + k, none⟩ = some (.bool x) := (HW.out.cell (p := ⟨b1, o1 + k, none⟩) hb1).trans (hc1 k x hx)
      have c2 : wr.cell? ⟨b2, o2 + k, none⟩ = some (.bool y) := (HW.out.cell (p := ⟨b2, o2 + k, none⟩) hb2).trans (hc2 k y hy)
      clear hc1 hc2 hb1 hb2
      by_cases e : x = y
      · have HX : Hid (∀ j, j < k + 1 → a[j]? = b[j]?) := fun j hj => by
          by_cases e2 : j = k
          · subst e2; rw [hx, hy, e]
          · exact HZ.out j (by omega)
        subst e
        clear hx hy
        go_wp2
        go_region_held3 (fun W => W.cell? ⟨b1, o1 + k, none⟩ = some (.bool x) ∧ W.cell? ⟨b2, o2 + k, none⟩ = some (.bool x)) (go_keep) (fail)
        all_goals go_wp2
        all_goals go_roundw
        all_goals first
          | exact ⟨k + 1, by go_num, hlt, HW.out.drew, HX.out⟩
          | (simp [intOf]; omega)
      · have HV : Hid (decide (a = b) = false) := same_no hx hy e
        have hne : (x != y) = true := by simpa using e
        have hne2 : (x == y) = false := by simpa using e
        clear hx hy e
        go_wp2
        go_region_held3 (fun W => W.cell? ⟨b1, o1 + k, none⟩ = some (.bool x) ∧ W.cell? ⟨b2, o2 + k, none⟩ = some (.bool y)) (go_keep) (fail)
        all_goals go_wp2
        all_goals go_ret
        all_goals exact ⟨(by rw [HV.out]; rfl), HW.out.drew⟩
    · obtain rfl : k = n := by omega
      have HV : Hid (decide (a = b) = true) := same_yes (by rw [HB.out.2.2.1, HB.out.2.2.2]) (fun j hj => HZ.out j (by rw [← HB.out.2.2.1]; exact hj))
      go_wp2
      go_ret
      exact ⟨(by rw [HV.out]; rfl), HW.out⟩
/-- is one of the set final? -/
def fi (F : List (Int × Int)) (bs : List Bool) : Bool := F.any fun f => bs.getD f.1.toNat false
theorem fi_yes {F : List (Int × Int)} {bs : List Bool} {k s : Nat} (hk : k < F.length) (h1 : (F[k]).1 = (s : Int)) (h2 : bs[s]? = some true) : fi F bs = true := by
  unfold fi
  rw [List.any_eq_true]
  refine ⟨F[k], List.getElem_mem hk, ?_⟩
  rw [h1, Int.toNat_natCast, List.getD_eq_getElem?_getD, h2]
  rfl
theorem fi_no {F : List (Int × Int)} {bs : List Bool} (h : ∀ k (hk : k < F.length), ∃ s : Nat, (F[k]).1 = (s : Int) ∧ bs[s]? = some false) : fi F bs = false := by
  unfold fi
  rw [List.any_eq_false]
  intro f hf
  obtain ⟨k, hk, rfl⟩ := List.getElem_of_mem hf
  obtain ⟨s, h1, h2⟩ := h k hk
  rw [h1, Int.toNat_natCast, List.getD_eq_getElem?_getD, h2]
  simp
theorem fin_cells {w : World} {a : Option Addr} {c : Nat} {F : List (Int × Int)} (h : Mv.Row w (.slice a F.length c) 2 F.length (fcs F)) {k : Nat} (hk : k < F.length) {s x : Int} (he : F[k] = (s, x)) :
    ∃ b off, a = some ⟨b, off, none⟩ ∧ b < w.heap.size ∧ w.cell? ⟨b, off + k * 2, none⟩ = some (.int .i64 s) ∧ w.cell? ⟨b, off + k * 2 + 1, none⟩ = some (.int .i64 x) := by
  obtain ⟨_, a', c', e, _, hx⟩ := h
  rw [Value.slice.injEq] at e
  obtain ⟨rfl, _, rfl⟩ := e
  obtain ⟨b, off, rfl, hb, hc⟩ := hx.resolve_left (by omega)
  have u := fcs_at F k hk
  rw [he] at u
  have p1 := hc _ _ u.2
  rw [← Nat.add_assoc] at p1
  exact ⟨b, off, rfl, hb, hc _ _ u.1, p1⟩
set_option maxHeartbeats 1000000 in
set_option maxRecDepth 100000 in
theorem ends_any (S : Nat) (F : List (Int × Int)) (aa af ab : Option Addr) (ca na cf cb : Nat) (bs : List Bool) (w : World) (hF : Mv.Row w (.slice af F.length cf) 2 F.length (fcs F)) (hf : ∀ k (h : k < F.length), finB (S : Int) F[k] = true) (hB : IsB w (.slice ab S cb) bs) (hl : bs.length = S) (hS0 : 0 < S) :
    Calls Tryd.prog 82 #[.agg #[.int .i64 (S : Int), .slice aa na ca, .slice af F.length cf], .slice ab S cb] w fun e w' => e = .returned (.bool (fi F bs)) ∧ Below w.heap.size w w' := by
  obtain ⟨sb, so, rfl, hsb, hcb⟩ := isb_cells hB hl hS0
  have hFl : F.length ≤ 140737488355328 := by obtain ⟨_, _, _, _, h, _⟩ := hF; exact h
  have HA : Hid (Mv.Row w (.slice af F.length cf) 2 F.length (fcs F) ∧ (∀ k (h : k < F.length), finB (S : Int) F[k] = true) ∧ bs.length = S) := ⟨hF, hf, hl⟩
  have HSB : Hid (∀ (W : World) (j : Nat) (b : Bool), Below w.heap.size w W → bs[j]? = some b → W.cell? ⟨sb, so + j, none⟩ = some (.bool b)) := fun W j b hW hb => (hW.cell (p := ⟨sb, so + j, none⟩) hsb).trans (hcb j _ hb)
  clear hF hf hB hcb hsb hl
  obtain ⟨O1, hO1⟩ : ∃ O1 : Obj, Obj.cells #[.int .i64 (S : Int), .slice aa na ca, .slice af F.length cf] 25 = O1 := ⟨_, rfl⟩
  have HBX : Hid (Below w.heap.size w (w.alloc O1) ∧ (w.alloc O1).heap[w.heap.size]? = some (.cells #[.int .i64 (S : Int), .slice aa na ca, .slice af F.length cf] 25 (0, 0))) := ⟨below_al _ _, by rw [← hO1]; exact heap_alloc_new _ _⟩
  go_enter Tryd.func82, Tryd.ntmps82
  go_upto_region 1 with fail
  clear hO1
  generalize w.alloc O1 = W1 at *
  obtain ⟨bx, hbx⟩ : ∃ bx, w.heap.size = bx := ⟨_, rfl⟩
  have HBX2 : Hid (Below w.heap.size w W1 ∧ W1.heap[bx]? = some (.cells #[.int .i64 (S : Int), .slice aa na ca, .slice af F.length cf] 25 (0, 0))) := by have h := HBX.out; rw [hbx] at h ⊢; exact h
  rw [hbx]
  clear hbx HBX
  go_upto_region 2 with fail
  go_loopw [5] (fun i wr => ∃ k : Nat, i = .int .i64 (k : Int) ∧ k ≤ F.length ∧ wr = W1 ∧ ∀ j (hj : j < F.length), j < k → ∃ s : Nat, (F[j]).1 = (s : Int) ∧ bs[s]? = some false) (fun i _ => F.length - (intOf i).toNat)
  case atStart => exact ⟨0, rfl, Nat.zero_le _, rfl, fun j _ h => absurd h (Nat.not_lt_zero j)⟩
  case round =>
    obtain ⟨k, rfl, hk, rfl, hz⟩ := hrel
    have HZ : Hid (∀ j (hj : j < F.length), j < k → ∃ s : Nat, (F[j]).1 = (s : Int) ∧ bs[s]? = some false) := hz
    clear hz
    have b2 := cell_of_row _ _ 2 _ _ _ HBX2.out.2
    by_cases hlt : k < F.length
    · have hfb := HA.out.2.1 k hlt
      unfold finB at hfb
      have hfb := of_decide_eq_true hfb
      obtain ⟨s, hs⟩ : ∃ s : Nat, (F[k]).1 = (s : Int) := ⟨(F[k]).1.toNat, by omega⟩
      have hsS : s < S := by omega
      obtain ⟨x, hx⟩ : ∃ x, (F[k]).2 = x := ⟨_, rfl⟩
      obtain ⟨fb, fo, rfl, hfbl, p0, _⟩ := fin_cells (HA.out.1.below HBX2.out.1) hlt (s := (s : Int)) (x := x) (by rw [← hs, ← hx])
      obtain ⟨y, hy⟩ : ∃ y, bs[s]? = some y := ⟨_, List.getElem?_eq_getElem (by rw [HA.out.2.2]; exact hsS)⟩
      have c1 := HSB.out wr s y HBX2.out.1 hy
      have hs0 : (0 : Int) ≤ (s : Int) := by omega
      clear hfb hx
      cases y with
      | true =>
        have HV : Hid (fi F bs = true) := fi_yes hlt hs hy
        clear hy hs
        go_wp2
        go_ret
        exact ⟨(by rw [HV.out]; rfl), HBX2.out.1⟩
      | false =>
        have HX : Hid (∀ j (hj : j < F.length), j < k + 1 → ∃ s : Nat, (F[j]).1 = (s : Int) ∧ bs[s]? = some false) := fun j hj hjk => by
          by_cases e : j = k
          · subst e; exact ⟨s, hs, hy⟩
          · exact HZ.out j hj (by omega)
        clear hy hs
        go_wp2
        go_roundw
        case rel => exact ⟨k + 1, by go_num, hlt, trivial, HX.out⟩
        case measure => simp [intOf]; omega
    · obtain rfl : k = F.length := by omega
      have HV : Hid (fi F bs = false) := fi_no (fun j hj => HZ.out j hj hj)
      go_wp2
      go_ret
      exact ⟨(by rw [HV.out]; rfl), HBX2.out.1⟩
end Go.Proofs.YtfjocafepigijaaDoor.Su
/- The document's table of sets while it is made: how its parts lie, a set more, a number more of a row, a row more. No conditions. -/
namespace Go.Proofs.YtfjocafepigijaaDoor.Su
open Go.RowKit Mv Po Ps Cm

/-- a set lies in a block of its own -/
def Bl (w : World) (v : Value) (S : Nat) (bs : List Bool) : Prop := bs.length = S ∧ ∃ b c cs, v = .slice (some ⟨b, 0, none⟩) S c ∧ w.heap[b]? = some (.cells cs 4 (0, 0)) ∧ ∀ j x, bs[j]? = some x → w.cell? ⟨b, j, none⟩ = some (.bool x)
theorem Bl.kept {w w' : World} {v : Value} {S : Nat} {bs : List Bool} {X : Nat → Prop} (h : Bl w v S bs) (hk : Kp X w w') (hX : ∀ b, v.ownBlock = some b → ¬ X b) : Bl w' v S bs := by
  obtain ⟨hl, b, c, cs, rfl, h1, h2⟩ := h
  have e := hk.block b (lt_at h1) (hX b rfl)
  exact ⟨hl, b, c, cs, rfl, e.trans h1, fun j x hj => (World.cell?_of_block (w := w) e).trans (h2 j x hj)⟩
theorem Bl.own {w : World} {base S : Nat} {v : Value} {bs : List Bool} (h : w.ownsRow base 4 1 v S (bcs bs)) (hl : bs.length = S) (h0 : 0 < S) : Bl w v S bs := by
  obtain ⟨g, c, rfl, _, _⟩ := own_some h h0
  obtain ⟨d, hd⟩ := own_ty h (k := g) rfl
  exact ⟨hl, g, c, d, rfl, hd, fun j x hj => (h.cellAt j (by have := (List.getElem?_eq_some_iff.1 hj).1; omega)).trans (bcs_at hj)⟩
theorem Bl.isb {w : World} {v : Value} {S : Nat} {bs : List Bool} (h : Bl w v S bs) (hS : S ≤ 100000) : ∃ b c, v = .slice (some ⟨b, 0, none⟩) S c ∧ IsB w (.slice (some ⟨b, 0, none⟩) S c) bs := by
  obtain ⟨hl, b, c, cs, rfl, h1, h2⟩ := h
  refine ⟨b, c, rfl, by rw [bcs_len]; omega, some ⟨b, 0, none⟩, c, by rw [hl], by omega, .inr ⟨b, 0, rfl, lt_at h1, fun j u hu => ?_⟩⟩
  have hj : j < bs.length := by have := (List.getElem?_eq_some_iff.1 hu).1; rw [bcs_len] at this; exact this
  have h3 : u = .bool bs[j] := by
    have := bcs_at (List.getElem?_eq_getElem hj)
    rw [hu] at this
    exact Option.some.inj this
  rw [Nat.zero_add, h3]
  exact h2 j _ (List.getElem?_eq_getElem hj)
/-- where a symbol leads, as a number -/
def enc (o : Option Nat) : Int := match o with | some j => (j : Int) | none => -1
/-- a row of 61 numbers lies in a block of its own: from the second on, where the symbols lead -/
def Rl (w : World) (v : Value) (r : List (Option Nat)) : Prop := ∃ b c cs, v = .slice (some ⟨b, 0, none⟩) 61 c ∧ w.heap[b]? = some (.cells cs 3 (0, 0)) ∧ ∀ k, k < 60 → w.cell? ⟨b, k + 1, none⟩ = some (.int .i64 (enc (r.getD k none)))
theorem Rl.kept {w w' : World} {v : Value} {r : List (Option Nat)} {X : Nat → Prop} (h : Rl w v r) (hk : Kp X w w') (hX : ∀ b, v.ownBlock = some b → ¬ X b) : Rl w' v r := by
  obtain ⟨b, c, cs, rfl, h1, h2⟩ := h
  have e := hk.block b (lt_at h1) (hX b rfl)
  exact ⟨b, c, cs, rfl, e.trans h1, fun k hk2 => (World.cell?_of_block (w := w) e).trans (h2 k hk2)⟩
/-- lists of sets, of rows -/
def Bls (w : World) (S : Nat) (vals : List Value) (l : List (List Bool)) : Prop := vals.length = l.length ∧ ∀ (m : Nat) (v : Value), vals[m]? = some v → ∃ t, l[m]? = some t ∧ Bl w v S t
def Rls (w : World) (vals : List Value) (l : List (List (Option Nat))) : Prop := vals.length = l.length ∧ ∀ (m : Nat) (v : Value), vals[m]? = some v → ∃ t, l[m]? = some t ∧ Rl w v t
theorem Bls.kept {w w' : World} {S : Nat} {vals : List Value} {l : List (List Bool)} {X : Nat → Prop} (h : Bls w S vals l) (hk : Kp X w w') (hX : ∀ v ∈ vals, ∀ b, v.ownBlock = some b → ¬ X b) : Bls w' S vals l := ⟨h.1, fun m v hm => by
  obtain ⟨t, h1, h2⟩ := h.2 m v hm
  exact ⟨t, h1, h2.kept hk (hX v (List.mem_of_getElem? hm))⟩⟩
theorem Rls.kept {w w' : World} {vals : List Value} {l : List (List (Option Nat))} {X : Nat → Prop} (h : Rls w vals l) (hk : Kp X w w') (hX : ∀ v ∈ vals, ∀ b, v.ownBlock = some b → ¬ X b) : Rls w' vals l := ⟨h.1, fun m v hm => by
  obtain ⟨t, h1, h2⟩ := h.2 m v hm
  exact ⟨t, h1, h2.kept hk (hX v (List.mem_of_getElem? hm))⟩⟩
theorem Bls.ty {w : World} {S : Nat} {vals : List Value} {l : List (List Bool)} (h : Bls w S vals l) {v : Value} (hv : v ∈ vals) {b : Nat} (hb : v.ownBlock = some b) : ∃ cs, w.heap[b]? = some (.cells cs 4 (0, 0)) := by
  obtain ⟨m, hm, rfl⟩ := List.getElem_of_mem hv
  obtain ⟨t, _, _, b2, c, cs, e, h1, _⟩ := h.2 m _ (List.getElem?_eq_getElem hm)
  rw [e] at hb
  cases hb
  exact ⟨cs, h1⟩
theorem Rls.ty {w : World} {vals : List Value} {l : List (List (Option Nat))} (h : Rls w vals l) {v : Value} (hv : v ∈ vals) {b : Nat} (hb : v.ownBlock = some b) : ∃ cs, w.heap[b]? = some (.cells cs 3 (0, 0)) := by
  obtain ⟨m, hm, rfl⟩ := List.getElem_of_mem hv
  obtain ⟨t, _, b2, c, cs, e, h1, _⟩ := h.2 m _ (List.getElem?_eq_getElem hm)
  rw [e] at hb
  cases hb
  exact ⟨cs, h1⟩
theorem snoc_get {α : Type} {l : List α} {x : α} {m : Nat} {v : α} (h : (l ++ [x])[m]? = some v) : (m < l.length ∧ l[m]? = some v) ∨ (m = l.length ∧ v = x) := by
  rcases Nat.lt_or_ge m l.length with hlt | hge
  · rw [List.getElem?_append_left hlt] at h
    exact .inl ⟨hlt, h⟩
  · have hl := (List.getElem?_eq_some_iff.1 h).1
    simp at hl
    obtain rfl : m = l.length := by omega
    rw [List.getElem?_append_right (Nat.le_refl _)] at h
    simp at h
    exact .inr ⟨rfl, h.symm⟩
theorem Bls.add {w : World} {S : Nat} {vals : List Value} {l : List (List Bool)} {v : Value} {t : List Bool} (h : Bls w S vals l) (ht : Bl w v S t) : Bls w S (vals ++ [v]) (l ++ [t]) := by
  refine ⟨by simp [h.1], fun m u hm => ?_⟩
  rcases snoc_get hm with ⟨hl, hm⟩ | ⟨rfl, rfl⟩
  · obtain ⟨x, h1, h2⟩ := h.2 m u hm
    exact ⟨x, by rw [List.getElem?_append_left (by rw [← h.1]; exact hl)]; exact h1, h2⟩
  · exact ⟨t, by rw [h.1]; simp, ht⟩
theorem Rls.add {w : World} {vals : List Value} {l : List (List (Option Nat))} {v : Value} {t : List (Option Nat)} (h : Rls w vals l) (ht : Rl w v t) : Rls w (vals ++ [v]) (l ++ [t]) := by
  refine ⟨by simp [h.1], fun m u hm => ?_⟩
  rcases snoc_get hm with ⟨hl, hm⟩ | ⟨rfl, rfl⟩
  · obtain ⟨x, h1, h2⟩ := h.2 m u hm
    exact ⟨x, by rw [List.getElem?_append_left (by rw [← h.1]; exact hl)]; exact h1, h2⟩
  · exact ⟨t, by rw [h.1]; simp, ht⟩
theorem Bls.nil (w : World) (S : Nat) : Bls w S [] [] := ⟨rfl, fun m v h => by simp at h⟩
theorem Rls.nil (w : World) : Rls w [] [] := ⟨rfl, fun m v h => by simp at h⟩
/-- the table on its way: the machine's box, the result's cell, the table's cell, the sets, the rows, the finals -/
structure To (w wr : World) (bx p2 p4 S : Nat) (mb : Array Value) (vs vt vf : Value) (sets : List (List Bool)) (sv : List Value) (tos : List (List (Option Nat))) (tv : List Value) (fins : List Bool) : Prop where
  box : wr.heap[bx]? = some (.cells mb 25 (0, 0))
  out : wr.heap[p2]? = some (.cells #[.slice none 0 0, .slice none 0 0] 97 (0, 0))
  tab : wr.heap[p4]? = some (.cells #[vt, vf] 97 (0, 0))
  ne : p2 ≠ p4
  le4 : w.heap.size ≤ p4
  srow : wr.ownsRow w.heap.size 67 1 vs sets.length sv
  stl : Bls wr S sv sets
  trow : wr.ownsRow w.heap.size 26 1 vt tos.length tv
  ttl : Rls wr tv tos
  frow : wr.ownsRow w.heap.size 4 1 vf fins.length (bcs fins)
  fap : ∀ b, vf.ownBlock = some b → ∀ v ∈ sv, v.ownBlock ≠ some b
  below : Below w.heap.size w wr
section
variable {w wr w1 : World} {bx p2 p4 S : Nat} {mb : Array Value} {vs vt vf : Value} {sets : List (List Bool)} {sv tv : List Value} {tos : List (List (Option Nat))} {fins : List Bool}
/-- what else may change: blocks that are none of its own -/
theorem To.kept {X : Nat → Prop} (h : To w wr bx p2 p4 S mb vs vt vf sets sv tos tv fins) (hk : Kp X wr w1) (h25 : ∀ b c, wr.heap[b]? = some (.cells c 25 (0, 0)) → ¬ X b) (h97 : ∀ b c, wr.heap[b]? = some (.cells c 97 (0, 0)) → ¬ X b) (hs : ∀ b, vs.ownBlock = some b → ¬ X b) (ht : ∀ b, vt.ownBlock = some b → ¬ X b) (hf : ∀ b, vf.ownBlock = some b → ¬ X b) (hsv : ∀ v ∈ sv, ∀ b, v.ownBlock = some b → ¬ X b) (htv : ∀ v ∈ tv, ∀ b, v.ownBlock = some b → ¬ X b) (hb : Below w.heap.size w w1) : To w w1 bx p2 p4 S mb vs vt vf sets sv tos tv fins :=
  ⟨(hk.block _ (lt_at h.box) (h25 _ _ h.box)).trans h.box, (hk.block _ (lt_at h.out) (h97 _ _ h.out)).trans h.out, (hk.block _ (lt_at h.tab) (h97 _ _ h.tab)).trans h.tab, h.ne, h.le4, own_kp2 h.srow hk hs, h.stl.kept hk hsv, own_kp2 h.trow hk ht, h.ttl.kept hk htv, own_kp2 h.frow hk hf, h.fap, hb⟩
theorem To.laid (h : To w wr bx p2 p4 S mb vs vt vf sets sv tos tv fins) (hb : Below wr.heap.size wr w1) : To w w1 bx p2 p4 S mb vs vt vf sets sv tos tv fins :=
  h.kept (kp_below hb (fun _ => False)) (fun _ _ _ => id) (fun _ _ _ => id) (fun _ _ => id) (fun _ _ => id) (fun _ _ => id) (fun _ _ _ _ => id) (fun _ _ _ _ => id) (h.below.trans (hb.mono h.below.size))
/-- a set more -/
theorem To.addSet {v1 v : Value} {bs : List Bool} (h : To w wr bx p2 p4 S mb vs vt vf sets sv tos tv fins) (ho : w1.ownsRow w.heap.size 67 1 v1 (sets.length + 1) (sv ++ [v])) (hg : wr.grownBy w1 vs.ownBlock) (hv : Bl wr v S bs) (hap : ∀ b, vf.ownBlock = some b → v.ownBlock ≠ some b) : To w w1 bx p2 p4 S mb v1 vt vf (sets ++ [bs]) (sv ++ [v]) tos tv fins := by
  have hk : Kp (fun b => vs.ownBlock = some b) wr w1 := (Kp.refl _ wr).grown hg (fun b hb _ => hb)
  have nt : ∀ {b : Nat} {d : Array Value} {ty : TypeId}, wr.heap[b]? = some (.cells d ty (0, 0)) → ty ≠ 67 → ¬ vs.ownBlock = some b := fun {b d ty} hb hne e => by
    obtain ⟨d', hd'⟩ := own_ty h.srow e; exact ty_ne hb hd' hne
  have nv : ∀ b, v.ownBlock = some b → ¬ vs.ownBlock = some b := fun b hb => by
    obtain ⟨_, b2, c, cs, e, h1, _⟩ := hv
    rw [e] at hb
    cases hb
    exact nt h1 (by decide)
  refine ⟨(hk.block _ (lt_at h.box) (nt h.box (by decide))).trans h.box, (hk.block _ (lt_at h.out) (nt h.out (by decide))).trans h.out, (hk.block _ (lt_at h.tab) (nt h.tab (by decide))).trans h.tab, h.ne, h.le4, by rw [List.length_append]; exact ho, ?_, own_kp2 h.trow hk (fun b hb => by obtain ⟨d, hd⟩ := own_ty h.trow hb; exact nt hd (by decide)), h.ttl.kept hk (fun u hu b hb => by obtain ⟨d, hd⟩ := h.ttl.ty hu hb; exact nt hd (by decide)), own_kp2 h.frow hk (fun b hb => by obtain ⟨d, hd⟩ := own_ty h.frow hb; exact nt hd (by decide)), fun b hb u hu => ?_, h.below.grown hg h.below.size (fun b hb => (h.srow.lt _ hb).1)⟩
  · exact (h.stl.kept hk (fun u hu b hb => by obtain ⟨d, hd⟩ := h.stl.ty hu hb; exact nt hd (by decide))).add (hv.kept hk nv)
  · rcases List.mem_append.1 hu with hu | hu
    · exact h.fap b hb u hu
    · rw [List.mem_singleton.1 hu]; exact hap b hb
/-- a row more of the table -/
theorem To.addRow {v1 v : Value} {r : List (Option Nat)} (h : To w wr bx p2 p4 S mb vs vt vf sets sv tos tv fins) (ho : w1.ownsRow w.heap.size 26 1 v1 (tos.length + 1) (tv ++ [v])) (hg : wr.grownBy w1 vt.ownBlock) (hv : Rl wr v r) : To w (w1.setCell ⟨p4, 0, none⟩ v1) bx p2 p4 S mb vs v1 vf sets sv (tos ++ [r]) (tv ++ [v]) fins := by
  have hk1 : Kp (fun b => b = p4 ∨ vt.ownBlock = some b) wr w1 := (Kp.refl _ wr).grown hg (fun b hb _ => .inr hb)
  have hk : Kp (fun b => b = p4 ∨ vt.ownBlock = some b) wr (w1.setCell ⟨p4, 0, none⟩ v1) := hk1.setCell _ _ _ (fun _ => .inl rfl)
  have nt : ∀ {b : Nat} {d : Array Value} {ty : TypeId}, wr.heap[b]? = some (.cells d ty (0, 0)) → ty ≠ 26 → ty ≠ 97 → ¬ (b = p4 ∨ vt.ownBlock = some b) := fun {b d ty} hb hne hn97 e => by
    rcases e with rfl | e
    · exact ty_ne hb h.tab hn97
    · obtain ⟨d', hd'⟩ := own_ty h.trow e; exact ty_ne hb hd' hne
  have n4 : ¬ vt.ownBlock = some p4 := fun e => by obtain ⟨d', hd'⟩ := own_ty h.trow e; exact ty_ne h.tab hd' (by decide)
  have htab : w1.heap[p4]? = some (.cells #[vt, vf] 97 (0, 0)) := (hg.block p4 (lt_at h.tab) (fun e => n4 e.symm)).trans h.tab
  have nv : ∀ b, v.ownBlock = some b → ¬ (b = p4 ∨ vt.ownBlock = some b) := fun b hb => by
    obtain ⟨b2, c, cs, e, h1, _⟩ := hv
    rw [e] at hb
    cases hb
    exact nt h1 (by decide) (by decide)
  refine ⟨(hk.block _ (lt_at h.box) (nt h.box (by decide) (by decide))).trans h.box, ?_, ?_, h.ne, h.le4, own_kp2 h.srow hk (fun b hb => by obtain ⟨d, hd⟩ := own_ty h.srow hb; exact nt hd (by decide) (by decide)), h.stl.kept hk (fun u hu b hb => by obtain ⟨d, hd⟩ := h.stl.ty hu hb; exact nt hd (by decide) (by decide)), ?_, ?_, own_kp2 h.frow hk (fun b hb => by obtain ⟨d, hd⟩ := own_ty h.frow hb; exact nt hd (by decide) (by decide)), h.fap, ?_⟩
  · refine (hk.block _ (lt_at h.out) (fun e => ?_)).trans h.out
    rcases e with e | e
    · exact h.ne e
    · obtain ⟨d', hd'⟩ := own_ty h.trow e; exact ty_ne h.out hd' (by decide)
  · have := heap_setCell_same w1 p4 0 _ 97 v1 htab
    exact this
  · rw [List.length_append]
    refine own_kp2 ho (X := fun b => b = p4) ((Kp.refl _ w1).setCell _ _ _ (fun _ => rfl)) (fun b hb e => ?_)
    subst e
    obtain ⟨d', hd'⟩ := own_ty ho hb
    exact ty_ne htab hd' (by decide)
  · exact (h.ttl.kept hk (fun u hu b hb => by obtain ⟨d, hd⟩ := h.ttl.ty hu hb; exact nt hd (by decide) (by decide))).add (hv.kept hk nv)
  · exact below_kp h.below hk (fun b hb e => by
      rcases e with rfl | e
      · have := h.le4; omega
      · have := (h.trow.lt b e).1; omega)
/-- a final more -/
theorem To.addFin {v1 : Value} {x : Bool} (h : To w wr bx p2 p4 S mb vs vt vf sets sv tos tv fins) (ho : w1.ownsRow w.heap.size 4 1 v1 (fins.length + 1) (bcs fins ++ [.bool x])) (hg : wr.grownBy w1 vf.ownBlock) (hl : v1.ownBlock = vf.ownBlock ∨ v1.ownBlock = some wr.heap.size) : To w (w1.setCell ⟨p4, 1, none⟩ v1) bx p2 p4 S mb vs vt v1 sets sv tos tv (fins ++ [x]) := by
  have hk1 : Kp (fun b => b = p4 ∨ vf.ownBlock = some b) wr w1 := (Kp.refl _ wr).grown hg (fun b hb _ => .inr hb)
  have hk : Kp (fun b => b = p4 ∨ vf.ownBlock = some b) wr (w1.setCell ⟨p4, 1, none⟩ v1) := hk1.setCell _ _ _ (fun _ => .inl rfl)
  have nt : ∀ {b : Nat} {d : Array Value} {ty : TypeId}, wr.heap[b]? = some (.cells d ty (0, 0)) → ty ≠ 4 → ty ≠ 97 → ¬ (b = p4 ∨ vf.ownBlock = some b) := fun {b d ty} hb hne hn97 e => by
    rcases e with rfl | e
    · exact ty_ne hb h.tab hn97
    · obtain ⟨d', hd'⟩ := own_ty h.frow e; exact ty_ne hb hd' hne
  have n4 : ¬ vf.ownBlock = some p4 := fun e => by obtain ⟨d', hd'⟩ := own_ty h.frow e; exact ty_ne h.tab hd' (by decide)
  have htab : w1.heap[p4]? = some (.cells #[vt, vf] 97 (0, 0)) := (hg.block p4 (lt_at h.tab) (fun e => n4 e.symm)).trans h.tab
  have nsv : ∀ v ∈ sv, ∀ b, v.ownBlock = some b → ¬ (b = p4 ∨ vf.ownBlock = some b) := fun v hv b hb e => by
    rcases e with rfl | e
    · obtain ⟨d, hd⟩ := h.stl.ty hv hb; exact ty_ne hd h.tab (by decide)
    · exact h.fap b e v hv hb
  refine ⟨(hk.block _ (lt_at h.box) (nt h.box (by decide) (by decide))).trans h.box, ?_, ?_, h.ne, h.le4, own_kp2 h.srow hk (fun b hb => by obtain ⟨d, hd⟩ := own_ty h.srow hb; exact nt hd (by decide) (by decide)), h.stl.kept hk nsv, own_kp2 h.trow hk (fun b hb => by obtain ⟨d, hd⟩ := own_ty h.trow hb; exact nt hd (by decide) (by decide)), h.ttl.kept hk (fun u hu b hb => by obtain ⟨d, hd⟩ := h.ttl.ty hu hb; exact nt hd (by decide) (by decide)), ?_, fun b hb v hv => ?_, ?_⟩
  · refine (hk.block _ (lt_at h.out) (fun e => ?_)).trans h.out
    rcases e with e | e
    · exact h.ne e
    · obtain ⟨d', hd'⟩ := own_ty h.frow e; exact ty_ne h.out hd' (by decide)
  · have := heap_setCell_same w1 p4 1 _ 97 v1 htab
    exact this
  · rw [List.length_append, show bcs (fins ++ [x]) = bcs fins ++ [.bool x] by simp [bcs]]
    refine own_kp2 ho (X := fun b => b = p4) ((Kp.refl _ w1).setCell _ _ _ (fun _ => rfl)) (fun b hb e => ?_)
    subst e
    obtain ⟨d', hd'⟩ := own_ty ho hb
    exact ty_ne htab hd' (by decide)
  · rcases hl with hl | hl
    · rw [hl] at hb; exact h.fap b hb v hv
    · rw [hl] at hb
      cases hb
      intro e
      obtain ⟨d, hd⟩ := h.stl.ty hv e
      have := lt_at hd
      omega
  · exact below_kp h.below hk (fun b hb e => by
      rcases e with rfl | e
      · have := h.le4; omega
      · have := (h.frow.lt b e).1; omega)
end
end Go.Proofs.YtfjocafepigijaaDoor.Su
/- The document's table of sets while a row of it is made: how the row lies beside the rest; the row's numbers in plain words. No conditions. -/
namespace Go.Proofs.YtfjocafepigijaaDoor.Su
open Go.RowKit Mv Po Ps Cm

theorem inf3' : (Tryd.prog.info? 3).map (fun i => (i.zero, i.size, i.bytes)) = some (some (.int .i64 0), 1, 8) := by kernel_rfl
theorem inf67 : (Tryd.prog.info? 67).map (fun i => (i.zero, i.size, i.bytes)) = some (some (.slice none 0 0), 1, 24) := by kernel_rfl
theorem inf26' : (Tryd.prog.info? 26).map (fun i => (i.zero, i.size, i.bytes)) = some (some (.slice none 0 0), 1, 24) := by kernel_rfl
def ic (l : List Int) : List Value := l.map (Value.int .i64)
theorem ic_at {l : List Int} {k : Nat} {x : Int} (h : l[k]? = some x) : (ic l)[k]? = some (.int .i64 x) := by simp [ic, h]
theorem run_mk26 (W : World) : (Instr.makeSlice 26 (.int .i64 61) (.int .i64 61)).run Tryd.prog W = .ok (.slice (some ⟨W.heap.size, 0, none⟩) 61 61) (W.alloc (.cells (madeCells #[.int .i64 0] 61) 3)) := by
  obtain ⟨i0, hi, hz0, hz1, hz2⟩ := info_parts inf3'
  have hr := run_make (P := Tryd.prog) W 26 3 i0 (.int .i64 0) Tryd.underlying26 hi hz0 .i64 .i64 61 61 (by omega) (Int.le_refl _) (by rw [hz2]; omega) (by omega)
  simp only [hz1, Nat.mul_one] at hr
  exact hr
theorem own_mk26 (W : World) (base : Nat) (hb : base ≤ W.heap.size) : (W.alloc (.cells (madeCells #[.int .i64 0] 61) 3)).ownsRow base 3 1 (.slice (some ⟨W.heap.size, 0, none⟩) 61 61) 61 (ic (List.replicate 61 0)) := by
  have e : (madeCells #[.int .i64 0] 61).toList = ic (List.replicate 61 0) := by rw [toList_madeCells_one]; simp [ic]
  refine ⟨by simp [ic], .inr ⟨W.heap.size, 61, madeCells #[.int .i64 0] 61, rfl, hb, heap_alloc_new _ _, Nat.le_refl _, by unfold maxLen; omega, ?_, ?_⟩⟩
  · rw [← Array.length_toList, e]; simp [ic]
  · rw [e]; simp [ic]
/-- the table, and the row that is being made -/
structure Tq (w wr : World) (bx p2 p4 S : Nat) (mb : Array Value) (vs vt vf : Value) (sets : List (List Bool)) (sv : List Value) (tos : List (List (Option Nat))) (tv : List Value) (fins : List Bool) (tb : Nat) (rw : List Int) : Prop where
  base : To w wr bx p2 p4 S mb vs vt vf sets sv tos tv fins
  row : wr.ownsRow w.heap.size 3 1 (.slice (some ⟨tb, 0, none⟩) 61 61) 61 (ic rw)
  len : rw.length = 61
  ap : ∀ v ∈ tv, v.ownBlock ≠ some tb
section
variable {w wr w1 : World} {bx p2 p4 S tb : Nat} {mb : Array Value} {vs vt vf : Value} {sets : List (List Bool)} {sv tv : List Value} {tos : List (List (Option Nat))} {fins : List Bool} {rw : List Int}
theorem Tq.laid (h : Tq w wr bx p2 p4 S mb vs vt vf sets sv tos tv fins tb rw) (hb : Below wr.heap.size wr w1) : Tq w w1 bx p2 p4 S mb vs vt vf sets sv tos tv fins tb rw :=
  ⟨h.base.laid hb, own_kp2 h.row (kp_below hb (fun _ => False)) (fun _ _ => id), h.len, h.ap⟩
theorem Tq.nt (h : Tq w wr bx p2 p4 S mb vs vt vf sets sv tos tv fins tb rw) {b : Nat} {d : Array Value} {ty : TypeId} (hb : wr.heap[b]? = some (.cells d ty (0, 0))) (hne : ty ≠ 3) : ¬ b = tb := fun e => by
  subst e
  obtain ⟨d', hd'⟩ := own_ty h.row (k := b) rfl
  exact ty_ne hb hd' hne
theorem Tq.put (h : Tq w wr bx p2 p4 S mb vs vt vf sets sv tos tv fins tb rw) (c : Nat) (x : Int) : Tq w (wr.setCell ⟨tb, c, none⟩ (.int .i64 x)) bx p2 p4 S mb vs vt vf sets sv tos tv fins tb (rw.set c x) := by
  have hk : Kp (fun b => b = tb) wr (wr.setCell ⟨tb, c, none⟩ (.int .i64 x)) := (Kp.refl _ wr).setCell _ _ _ (fun _ => rfl)
  have hge := (h.row.lt tb rfl).1
  have hst := (h.row.stored c (.int .i64 x)).1
  have hb := below_kp h.base.below hk (fun b hb e => by omega)
  refine ⟨h.base.kept hk (fun b d hb => h.nt hb (by decide)) (fun b d hb => h.nt hb (by decide)) (fun b hb => ?_) (fun b hb => ?_) (fun b hb => ?_) (fun v hv b hb => ?_) (fun v hv b hb e => ?_) hb, ?_, by rw [List.length_set]; exact h.len, h.ap⟩
  · obtain ⟨d, hd⟩ := own_ty h.base.srow hb; exact h.nt hd (by decide)
  · obtain ⟨d, hd⟩ := own_ty h.base.trow hb; exact h.nt hd (by decide)
  · obtain ⟨d, hd⟩ := own_ty h.base.frow hb; exact h.nt hd (by decide)
  · obtain ⟨d, hd⟩ := h.base.stl.ty hv hb; exact h.nt hd (by decide)
  · rw [e] at hb; exact h.ap v hv hb
  · unfold ic at hst ⊢
    rw [List.map_set]
    exact hst
theorem Tq.cell (h : Tq w wr bx p2 p4 S mb vs vt vf sets sv tos tv fins tb rw) {c : Nat} (hc : c < 61) : ∃ x : Int, rw[c]? = some x ∧ wr.cell? ⟨tb, c, none⟩ = some (.int .i64 x) := by
  have hl : c < rw.length := by rw [h.len]; exact hc
  exact ⟨rw[c], List.getElem?_eq_getElem hl, (h.row.cellAt c (by omega)).trans (ic_at (List.getElem?_eq_getElem hl))⟩
theorem Tq.frozen (h : Tq w wr bx p2 p4 S mb vs vt vf sets sv tos tv fins tb rw) (c : Nat) : wr.frozen? ⟨tb, c, none⟩ = false := h.row.frozenAt c
theorem Tq.addSet {v1 v : Value} {bs : List Bool} (h : Tq w wr bx p2 p4 S mb vs vt vf sets sv tos tv fins tb rw) (ho : w1.ownsRow w.heap.size 67 1 v1 (sets.length + 1) (sv ++ [v])) (hg : wr.grownBy w1 vs.ownBlock) (hv : Bl wr v S bs) (hap : ∀ b, vf.ownBlock = some b → v.ownBlock ≠ some b) : Tq w w1 bx p2 p4 S mb v1 vt vf (sets ++ [bs]) (sv ++ [v]) tos tv fins tb rw := by
  have hk : Kp (fun b => vs.ownBlock = some b) wr w1 := (Kp.refl _ wr).grown hg (fun b hb _ => hb)
  refine ⟨h.base.addSet ho hg hv hap, own_kp2 h.row hk (fun b hb e => ?_), h.len, h.ap⟩
  obtain ⟨d', hd'⟩ := own_ty h.base.srow e
  obtain ⟨d, hd⟩ := own_ty h.row hb
  exact ty_ne hd hd' (by decide)
/-- the row is done -/
theorem Tq.rl (h : Tq w wr bx p2 p4 S mb vs vt vf sets sv tos tv fins tb rw) {r : List (Option Nat)} (hr : ∀ k, k < 60 → rw[k + 1]? = some (enc (r.getD k none))) : Rl wr (.slice (some ⟨tb, 0, none⟩) 61 61) r := by
  obtain ⟨d, hd⟩ := own_ty h.row (k := tb) rfl
  refine ⟨tb, 61, d, rfl, hd, fun k hk => ?_⟩
  exact (h.row.cellAt (k + 1) (by omega)).trans (ic_at (hr k hk))
end
theorem idx_of {α : Type} [BEq α] [LawfulBEq α] {l : List α} {s : α} {q : Nat} (h : ∀ j, j < q → l[j]? ≠ some s) (hq : (q = l.length) ∨ l[q]? = some s) : l.idxOf s = q := by
  induction l generalizing q with
  | nil =>
    rcases hq with rfl | hq
    · rfl
    · simp at hq
  | cons x l ih =>
    rw [List.idxOf_cons]
    cases q with
    | zero =>
      rcases hq with hq | hq
      · simp at hq
      · simp at hq
        subst hq
        simp
    | succ q =>
      have h0 := h 0 (by omega)
      simp at h0
      have hne : (x == s) = false := by simpa using h0
      rw [hne]
      simp only [cond_false]
      rw [ih (q := q) (fun j hj => by have := h (j + 1) (by omega); simpa using this) (by
        rcases hq with hq | hq
        · exact .inl (by simpa using hq)
        · exact .inr (by simpa using hq))]
theorem ts_void {S c : Nat} {A : List (Int × Int × Int × Int × Int)} {P : List Bool} {s : List (List Bool) × List (Option Nat)} (h : void (nx S A P c) = true) : ts S A P s c = (s.1, s.2 ++ [none]) := by unfold ts; rw [if_pos h]
theorem ts_old {S c q : Nat} {A : List (Int × Int × Int × Int × Int)} {P : List Bool} {s : List (List Bool) × List (Option Nat)} (h : void (nx S A P c) = false) (hq : s.1.idxOf (nx S A P c) = q) (hl : q < s.1.length) : ts S A P s c = (s.1, s.2 ++ [some q]) := by
  unfold ts; rw [if_neg (by rw [h]; simp), hq, if_neg (by omega)]
theorem ts_new {S c : Nat} {A : List (Int × Int × Int × Int × Int)} {P : List Bool} {s : List (List Bool) × List (Option Nat)} (h : void (nx S A P c) = false) (hq : s.1.idxOf (nx S A P c) = s.1.length) : ts S A P s c = (s.1 ++ [nx S A P c], s.2 ++ [some s.1.length]) := by
  unfold ts; rw [if_neg (by rw [h]; simp), hq, if_pos rfl]
theorem tr_grow (S : Nat) (A : List (Int × Int × Int × Int × Int)) (sets : List (List Bool)) (P : List Bool) : ∀ c, (tr S A sets P c).1.length ≤ sets.length + c
  | 0 => Nat.le_refl _
  | c + 1 => by
    rw [tr_up]
    have ih := tr_grow S A sets P c
    unfold ts
    split
    · dsimp only; omega
    · dsimp only
      split
      · rw [List.length_append, List.length_singleton]; omega
      · omega
/-- so many numbers of the row are laid -/
def Lr (rw : List Int) (r : List (Option Nat)) (c : Nat) : Prop := r.length = c ∧ ∀ k, k < c → rw[k + 1]? = some (enc (r.getD k none))
theorem Lr.add {rw : List Int} {r : List (Option Nat)} {c : Nat} {o : Option Nat} (h : Lr rw r c) (hl : rw.length = 61) (hc : c < 60) : Lr (rw.set (c + 1) (enc o)) (r ++ [o]) (c + 1) := by
  refine ⟨by simp [h.1], fun k hk => ?_⟩
  by_cases e : k = c
  · subst e
    rw [List.getElem?_set_self (by omega), List.getD_eq_getElem?_getD, List.getElem?_append_right (by rw [h.1]; exact Nat.le_refl _), h.1]
    simp
  · rw [List.getElem?_set_ne (by omega), h.2 k (by omega), List.getD_eq_getElem?_getD, List.getD_eq_getElem?_getD, List.getElem?_append_left (by rw [h.1]; omega)]
theorem set_set {l : List Int} {k : Nat} {x y : Int} : (l.set k x).set k y = l.set k y := by simp
end Go.Proofs.YtfjocafepigijaaDoor.Su
/- Which rows are told apart, in plain words: a square of yes and no, closed step by step. No program text; no conditions. -/
namespace Go.Proofs.YtfjocafepigijaaDoor.Su
open Go.RowKit Mv Po Ps Cm

/-- a row by its number; n is nowhere -/
def stt (n i : Nat) : Option Nat := if i < n then some i else none
/-- where a symbol leads, by numbers -/
def nt (T : Tb) (i c : Nat) : Nat := match T.st (stt T.n i) c with | some j => j | none => T.n
theorem nt_le {T : Tb} (h : T.Ok) {i c : Nat} : nt T i c ≤ T.n := by
  unfold nt stt Tb.st
  by_cases hi : i < T.n
  · rw [if_pos hi]
    show (match T.to i c with | some j => j | none => T.n) ≤ T.n
    cases e : T.to i c with
    | none => exact Nat.le_refl _
    | some j => exact Nat.le_of_lt (h i c j hi e)
  · rw [if_neg hi]; exact Nat.le_refl _
theorem stt_nt {T : Tb} (h : T.Ok) {i c : Nat} : stt T.n (nt T i c) = T.st (stt T.n i) c := by
  unfold nt stt Tb.st
  by_cases hi : i < T.n
  · rw [if_pos hi]
    show (if (match T.to i c with | some j => j | none => T.n) < T.n then some (match T.to i c with | some j => j | none => T.n) else none) = T.to i c
    cases e : T.to i c with
    | none => simp
    | some j => simp [h i c j hi e]
  · rw [if_neg hi]; simp
theorem stt_lt {n i : Nat} (h : i < n) : stt n i = some i := if_pos h
theorem stt_n (n : Nat) : stt n n = none := if_neg (Nat.lt_irrefl n)
/-- what is told apart is so; what differs at once is told apart -/
structure Snd (T : Tb) (U : Nat → Nat → Bool) : Prop where
  yes : ∀ i j, i ≤ T.n → j ≤ T.n → U i j = true → ¬ T.Lk (stt T.n i) (stt T.n j)
  base : ∀ i j, i ≤ T.n → j ≤ T.n → T.fo (stt T.n i) ≠ T.fo (stt T.n j) → U i j = true
def up2 (U : Nat → Nat → Bool) (i j : Nat) (b : Bool) : Nat → Nat → Bool := fun x y => if x = i ∧ y = j then b else U x y
theorem Snd.add {T : Tb} {U : Nat → Nat → Bool} {i j c : Nat} (h : Snd T U) (hT : T.Ok) (hi : i ≤ T.n) (hj : j ≤ T.n) (hc : 1 ≤ c ∧ c ≤ 60) (hu : U (nt T i c) (nt T j c) = true) : Snd T (up2 U i j true) := by
  refine ⟨fun x y hx hy e => ?_, fun x y hx hy e => ?_⟩
  · unfold up2 at e
    split at e
    · rename_i hxy
      obtain ⟨rfl, rfl⟩ := hxy
      intro hl
      have := h.yes _ _ (nt_le hT) (nt_le hT) hu
      rw [stt_nt hT, stt_nt hT] at this
      exact this (hl.step hc)
    · exact h.yes x y hx hy e
  · unfold up2
    split
    · rfl
    · exact h.base x y hx hy e
/-- the pairs of P lead to no pair that is told apart, or are told apart -/
def Shut2 (T : Tb) (U : Nat → Nat → Bool) (P : Nat → Nat → Nat → Prop) : Prop := ∀ i j c, i ≤ T.n → j ≤ T.n → 1 ≤ c ∧ c ≤ 60 → P i j c → U (nt T i c) (nt T j c) = true → U i j = true
/-- closed: what is not told apart reads the same -/
theorem unlike_of {T : Tb} {U : Nat → Nat → Bool} (hT : T.Ok) (h : Snd T U) (hs : Shut2 T U fun _ _ _ => True) : ∀ i j, i ≤ T.n → j ≤ T.n → (U i j = true ↔ ¬ T.Lk (stt T.n i) (stt T.n j)) := by
  intro i j hi hj
  refine ⟨h.yes i j hi hj, fun hn => ?_⟩
  cases e : U i j with
  | true => rfl
  | false =>
    refine absurd (fun t ht => ?_) hn
    refine Tb.eq_of_sim (T := T) (fun s u => ∃ x y, x ≤ T.n ∧ y ≤ T.n ∧ s = stt T.n x ∧ u = stt T.n y ∧ U x y = false) ?_ ?_ t _ _ ht ⟨i, j, hi, hj, rfl, rfl, e⟩
    · rintro s u ⟨x, y, hx, hy, rfl, rfl, hu⟩
      refine Classical.byContradiction fun hne => ?_
      rw [h.base x y hx hy hne] at hu
      cases hu
    · rintro s u c hc ⟨x, y, hx, hy, rfl, rfl, hu⟩
      refine ⟨nt T x c, nt T y c, nt_le hT, nt_le hT, (stt_nt hT).symm, (stt_nt hT).symm, ?_⟩
      cases e2 : U (nt T x c) (nt T y c) with
      | false => rfl
      | true => rw [hs x y c hx hy hc trivial e2] at hu; cases hu
/-- the square as one list -/
def sq (N : Nat) (U : Nat → Nat → Bool) : List Bool := (List.range (N * N)).map fun k => U (k / N) (k % N)
theorem sq_set {N i j : Nat} {U : Nat → Nat → Bool} (_ : i < N) (hj : j < N) : sq N (up2 U i j true) = (sq N U).set (i * N + j) true := by
  have hN : 0 < N := by omega
  have hdm : (i * N + j) / N = i ∧ (i * N + j) % N = j := by
    rw [Nat.mul_comm]
    exact ⟨by rw [Nat.mul_add_div hN, Nat.div_eq_of_lt hj]; omega, by rw [Nat.mul_add_mod, Nat.mod_eq_of_lt hj]⟩
  apply List.ext_getElem?
  intro k
  unfold sq
  rw [List.getElem?_map]
  by_cases hk : k < N * N
  · rw [List.getElem?_range hk]
    by_cases e : k = i * N + j
    · subst e
      rw [List.getElem?_set_self (by simp; exact hk)]
      show some (up2 U i j true ((i * N + j) / N) ((i * N + j) % N)) = some true
      rw [hdm.1, hdm.2]
      simp [up2]
    · rw [List.getElem?_set_ne (fun h => e h.symm), List.getElem?_map, List.getElem?_range hk]
      show some (up2 U i j true (k / N) (k % N)) = some (U (k / N) (k % N))
      have hne : ¬ (k / N = i ∧ k % N = j) := fun ⟨h1, h2⟩ => e (by
        have := Nat.div_add_mod k N
        rw [h1, h2, Nat.mul_comm] at this
        exact this.symm)
      unfold up2
      rw [if_neg hne]
  · rw [List.getElem?_eq_none (by simp; omega), List.getElem?_eq_none (by simp; omega)]
    rfl
theorem sq_at {N i j : Nat} {U : Nat → Nat → Bool} (hi : i < N) (hj : j < N) : (sq N U)[i * N + j]? = some (U i j) := by
  have hN : 0 < N := by omega
  have hdm : (i * N + j) / N = i ∧ (i * N + j) % N = j := by
    rw [Nat.mul_comm]
    exact ⟨by rw [Nat.mul_add_div hN, Nat.div_eq_of_lt hj]; omega, by rw [Nat.mul_add_mod, Nat.mod_eq_of_lt hj]⟩
  have hk : i * N + j < N * N := by
    have h1 : (i + 1) * N ≤ N * N := Nat.mul_le_mul_right N hi
    rw [Nat.add_mul, Nat.one_mul] at h1
    omega
  unfold sq
  rw [List.getElem?_map, List.getElem?_range hk]
  show some (U ((i * N + j) / N) ((i * N + j) % N)) = some (U i j)
  rw [hdm.1, hdm.2]
theorem sq_less {N i j : Nat} {U : Nat → Nat → Bool} (hi : i < N) (hj : j < N) (h : U i j = false) : (sq N (up2 U i j true)).count false < (sq N U).count false := by
  rw [sq_set hi hj]
  have h1 := sq_at (U := U) hi hj
  rw [h] at h1
  exact outs_set h1
/-- what one pass over the pairs has done so far -/
def Pas (T : Tb) (U0 U : Nat → Nat → Bool) (ag : Bool) (P : Nat → Nat → Nat → Prop) : Prop := (ag = false → U = U0 ∧ Shut2 T U P) ∧ (ag = true → (sq (T.n + 1) U).count false < (sq (T.n + 1) U0).count false)
theorem Pas.start (T : Tb) (U : Nat → Nat → Bool) {P : Nat → Nat → Nat → Prop} (h : ∀ i j c, ¬ P i j c) : Pas T U U false P := ⟨fun _ => ⟨rfl, fun i j c _ _ _ hp => absurd hp (h i j c)⟩, fun h => by cases h⟩
theorem Pas.mono {T : Tb} {U0 U : Nat → Nat → Bool} {ag : Bool} {P Q : Nat → Nat → Nat → Prop} (h : Pas T U0 U ag P) (hq : ∀ i j c, i ≤ T.n → j ≤ T.n → 1 ≤ c ∧ c ≤ 60 → Q i j c → P i j c ∨ (U (nt T i c) (nt T j c) = true → U i j = true)) : Pas T U0 U ag Q :=
  ⟨fun ha => ⟨(h.1 ha).1, fun i j c hi hj hc hp hu => by
    rcases hq i j c hi hj hc hp with h1 | h1
    · exact (h.1 ha).2 i j c hi hj hc h1 hu
    · exact h1 hu⟩, h.2⟩
theorem Pas.more {T : Tb} {U0 U : Nat → Nat → Bool} {ag : Bool} {P Q : Nat → Nat → Nat → Prop} {i j : Nat} (h : Pas T U0 U ag P) (hi : i ≤ T.n) (hj : j ≤ T.n) (hf : U i j = false) : Pas T U0 (up2 U i j true) true Q := by
  refine ⟨fun h => (by cases h), fun _ => ?_⟩
  have h1 := sq_less (N := T.n + 1) (show i < T.n + 1 by omega) (show j < T.n + 1 by omega) hf
  cases ag with
  | false => rw [← (h.1 rfl).1]; exact h1
  | true => have := h.2 rfl; omega
end Go.Proofs.YtfjocafepigijaaDoor.Su
/- Plain (the document's 21, the program's 46): does each arc write what it reads, and does nothing cost anything? No conditions. -/
namespace Go.Proofs.YtfjocafepigijaaDoor.Su
open Go.RowKit Mv Po Ps Cm

def plA (a : Int × Int × Int × Int × Int) : Bool := a.2.2.1 == a.2.2.2.1 && a.2.2.2.2 == 0
/-- plain, in plain words -/
def plB (A : List (Int × Int × Int × Int × Int)) (F : List (Int × Int)) : Bool := A.all plA && F.all fun f => f.2 == 0
theorem plB_arc {A : List (Int × Int × Int × Int × Int)} {F : List (Int × Int)} {k : Nat} (hk : k < A.length) (h : plA A[k] = false) : plB A F = false := by
  unfold plB
  rw [show A.all plA = false from List.all_eq_false.2 ⟨_, List.getElem_mem hk, by simp [h]⟩]
  rfl
theorem plB_fin {A : List (Int × Int × Int × Int × Int)} {F : List (Int × Int)} {k : Nat} (hk : k < F.length) (h : (F[k]).2 ≠ 0) : plB A F = false := by
  unfold plB
  rw [show (F.all fun f => f.2 == 0) = false from List.all_eq_false.2 ⟨_, List.getElem_mem hk, by simpa using h⟩, Bool.and_false]
theorem plB_yes {A : List (Int × Int × Int × Int × Int)} {F : List (Int × Int)} (h1 : ∀ k (hk : k < A.length), plA A[k] = true) (h2 : ∀ k (hk : k < F.length), (F[k]).2 = 0) : plB A F = true := by
  unfold plB
  rw [Bool.and_eq_true, List.all_eq_true, List.all_eq_true]
  refine ⟨fun a ha => ?_, fun f hf => ?_⟩
  · obtain ⟨k, hk, rfl⟩ := List.getElem_of_mem ha
    exact h1 k hk
  · obtain ⟨k, hk, rfl⟩ := List.getElem_of_mem hf
    simpa using h2 k hk
theorem pl_no {f t i o x : Int} (h : ¬ i = o) : plA (f, t, i, o, x) = false := by simp [plA, h]
theorem pl_no2 {f t i o x : Int} (h : ¬ x = 0) : plA (f, t, i, o, x) = false := by simp [plA, h]
theorem pl_yes (f t i : Int) : plA (f, t, i, i, 0) = true := by simp [plA]
set_option maxHeartbeats 2000000 in
set_option maxRecDepth 100000 in
theorem rplain_any (S : Int) (A : List (Int × Int × Int × Int × Int)) (F : List (Int × Int)) (aa af : Option Addr) (ca cf : Nat) (w : World) (hA : Mv.Row w (.slice aa A.length ca) 5 A.length (acs A)) (hF : Mv.Row w (.slice af F.length cf) 2 F.length (fcs F)) :
    Calls Tryd.prog 21 #[.agg #[.int .i64 S, .slice aa A.length ca, .slice af F.length cf]] w fun e w' => e = .returned (.bool (plB A F)) ∧ Below w.heap.size w w' := by
  have hFl : F.length ≤ 140737488355328 := by obtain ⟨_, _, _, _, h, _⟩ := hF; exact h
  have hAl : A.length ≤ 140737488355328 := by obtain ⟨_, _, _, _, h, _⟩ := hA; exact h
  have HA : Hid (Mv.Row w (.slice aa A.length ca) 5 A.length (acs A) ∧ Mv.Row w (.slice af F.length cf) 2 F.length (fcs F)) := ⟨hA, hF⟩
  clear hF hA
  obtain ⟨O1, hO1⟩ : ∃ O1 : Obj, Obj.cells #[.int .i64 S, .slice aa A.length ca, .slice af F.length cf] 25 = O1 := ⟨_, rfl⟩
  have HBX : Hid (Below w.heap.size w (w.alloc O1) ∧ (w.alloc O1).heap[w.heap.size]? = some (.cells #[.int .i64 S, .slice aa A.length ca, .slice af F.length cf] 25 (0, 0))) := ⟨below_al _ _, by rw [← hO1]; exact heap_alloc_new _ _⟩
  go_enter Tryd.func21, Tryd.ntmps21
  go_upto_region 1 with fail
  clear hO1
  generalize w.alloc O1 = W1 at *
  obtain ⟨bx, hbx⟩ : ∃ bx, w.heap.size = bx := ⟨_, rfl⟩
  have HB : Hid (Below w.heap.size w W1) := HBX.out.1
  have HX : Hid (W1.heap[bx]? = some (.cells #[.int .i64 S, .slice aa A.length ca, .slice af F.length cf] 25 (0, 0))) := by have h := HBX.out.2; rw [hbx] at h; exact h
  rw [hbx]
  clear hbx HBX
  go_upto_region 2 with fail
  go_loopw [3] (fun i wr => ∃ k : Nat, i = .int .i64 (k : Int) ∧ k ≤ A.length ∧ Below W1.heap.size W1 wr ∧ ∀ j (hj : j < A.length), j < k → plA A[j] = true) (fun i _ => A.length - (intOf i).toNat)
  case atStart => exact ⟨0, rfl, Nat.zero_le _, Below.refl _ _, fun j _ h => absurd h (Nat.not_lt_zero j)⟩
  case round =>
    obtain ⟨k, rfl, hk, hbw, hz⟩ := hrel
    have HZ : Hid (∀ j (hj : j < A.length), j < k → plA A[j] = true) := hz
    have HW : Hid (Below W1.heap.size W1 wr) := hbw
    have hx := (hbw.block bx (lt_at HX.out)).trans HX.out
    have b1 := cell_of_row _ _ 1 _ _ _ hx
    have b2 := cell_of_row _ _ 2 _ _ _ hx
    clear hz hbw hx
    by_cases hlt : k < A.length
    · obtain ⟨f, t, i, o, x, he⟩ : ∃ f t i o x, A[k] = (f, t, i, o, x) := ⟨_, _, _, _, _, rfl⟩
      obtain ⟨ab, ao, rfl, _, _, _, p2, p3, p4⟩ := arc_cells ((HA.out.1.below HB.out).below HW.out) hlt he
      by_cases h1 : i = o
      · by_cases h2 : x = 0
        · have HX2 : Hid (∀ j (hj : j < A.length), j < k + 1 → plA A[j] = true) := fun j hj hjk => by
            by_cases e : j = k
            · subst e; rw [he, h1, h2]; exact pl_yes _ _ _
            · exact HZ.out j hj (by omega)
          subst h1 h2
          clear he
          have q1 : (i != i) = false := by simp
          go_wp2
          repeat (go_quiet (fail); go_wp2)
          go_roundw
          case rel => exact ⟨k + 1, by go_num, hlt, by first | exact HW.out | exact (below_drewN HW.out _), HX2.out⟩
          case measure => simp [intOf]; omega
        · have HV : Hid (plB A F = false) := plB_arc hlt (by rw [he]; exact pl_no2 h2)
          subst h1
          have q1 : (i != i) = false := by simp
          have q2 : (x != 0) = true := by simpa using h2
          clear he
          go_wp2
          repeat (go_quiet (fail); go_wp2)
          go_ret
          exact ⟨(by rw [HV.out]; rfl), by first | exact HB.out.trans (HW.out.mono HB.out.size) | exact below_drewN (HB.out.trans (HW.out.mono HB.out.size)) _⟩
      · have HV : Hid (plB A F = false) := plB_arc hlt (by rw [he]; exact pl_no h1)
        have q1 : (i != o) = true := by simpa using h1
        clear he
        go_wp2
        repeat (go_quiet (fail); go_wp2)
        go_ret
        exact ⟨(by rw [HV.out]; rfl), by first | exact HB.out.trans (HW.out.mono HB.out.size) | exact below_drewN (HB.out.trans (HW.out.mono HB.out.size)) _⟩
    · obtain rfl : k = A.length := by omega
      generalize wr = W2 at *
      go_upto_region 7 with fail
      go_loopw [4] (fun i wr => ∃ k : Nat, i = .int .i64 (k : Int) ∧ k ≤ F.length ∧ Below W2.heap.size W2 wr ∧ ∀ j (hj : j < F.length), j < k → (F[j]).2 = 0) (fun i _ => F.length - (intOf i).toNat)
      case atStart => exact ⟨0, rfl, Nat.zero_le _, Below.refl _ _, fun j _ h => absurd h (Nat.not_lt_zero j)⟩
      case round =>
        clear b1 b2
        obtain ⟨k, rfl, hk, hbw, hz⟩ := hrel
        have HZ2 : Hid (∀ j (hj : j < F.length), j < k → (F[j]).2 = 0) := hz
        have HW2 : Hid (Below W2.heap.size W2 wr) := hbw
        have HWW : Hid (Below w.heap.size w wr) := HB.out.trans ((HW.out.trans (hbw.mono HW.out.size)).mono HB.out.size)
        have hx := ((HW.out.trans (hbw.mono HW.out.size)).block bx (lt_at HX.out)).trans HX.out
        have b2 := cell_of_row _ _ 2 _ _ _ hx
        clear hz hbw hx
        by_cases hlt : k < F.length
        · obtain ⟨s, x, he⟩ : ∃ s x, F[k] = (s, x) := ⟨_, _, rfl⟩
          obtain ⟨fb, fo, rfl, _, _, p1⟩ := fin_cells (HA.out.2.below HWW.out) hlt he
          by_cases h2 : x = 0
          · have HX2 : Hid (∀ j (hj : j < F.length), j < k + 1 → (F[j]).2 = 0) := fun j hj hjk => by
              by_cases e : j = k
              · subst e; rw [he]; exact h2
              · exact HZ2.out j hj (by omega)
            subst h2
            clear he
            go_wp2
            repeat (go_quiet (fail); go_wp2)
            go_roundw
            case rel => exact ⟨k + 1, by go_num, hlt, by first | exact HW2.out | exact (below_drewN HW2.out _), HX2.out⟩
            case measure => simp [intOf]; omega
          · have HV : Hid (plB A F = false) := plB_fin hlt (by rw [he]; exact h2)
            have q2 : (x != 0) = true := by simpa using h2
            clear he
            go_wp2
            repeat (go_quiet (fail); go_wp2)
            go_ret
            exact ⟨(by rw [HV.out]; rfl), by first | exact HWW.out | exact below_drewN HWW.out _⟩
        · obtain rfl : k = F.length := by omega
          have HV : Hid (plB A F = true) := plB_yes (fun j hj => HZ.out j hj hj) (fun j hj => HZ2.out j hj hj)
          go_wp2
          go_ret
          exact ⟨(by rw [HV.out]; rfl), HWW.out⟩
set_option maxHeartbeats 2000000 in
set_option maxRecDepth 100000 in
theorem plain_any (S : Int) (A : List (Int × Int × Int × Int × Int)) (F : List (Int × Int)) (aa af : Option Addr) (ca cf : Nat) (w : World) (hA : Mv.Row w (.slice aa A.length ca) 5 A.length (acs A)) (hF : Mv.Row w (.slice af F.length cf) 2 F.length (fcs F)) :
    Calls Tryd.prog 46 #[.agg #[.int .i64 S, .slice aa A.length ca, .slice af F.length cf]] w fun e w' => e = .returned (.bool (plB A F)) ∧ Below w.heap.size w w' := by
  have hFl : F.length ≤ 140737488355328 := by obtain ⟨_, _, _, _, h, _⟩ := hF; exact h
  have hAl : A.length ≤ 140737488355328 := by obtain ⟨_, _, _, _, h, _⟩ := hA; exact h
  have HA : Hid (Mv.Row w (.slice aa A.length ca) 5 A.length (acs A) ∧ Mv.Row w (.slice af F.length cf) 2 F.length (fcs F)) := ⟨hA, hF⟩
  clear hF hA
  obtain ⟨O1, hO1⟩ : ∃ O1 : Obj, Obj.cells #[.int .i64 S, .slice aa A.length ca, .slice af F.length cf] 25 = O1 := ⟨_, rfl⟩
  have HBX : Hid (Below w.heap.size w (w.alloc O1) ∧ (w.alloc O1).heap[w.heap.size]? = some (.cells #[.int .i64 S, .slice aa A.length ca, .slice af F.length cf] 25 (0, 0))) := ⟨below_al _ _, by rw [← hO1]; exact heap_alloc_new _ _⟩
  go_enter Tryd.func46, Tryd.ntmps46
  go_upto_region 1 with fail
  clear hO1
  generalize w.alloc O1 = W1 at *
  obtain ⟨bx, hbx⟩ : ∃ bx, w.heap.size = bx := ⟨_, rfl⟩
  have HB : Hid (Below w.heap.size w W1) := HBX.out.1
  have HX : Hid (W1.heap[bx]? = some (.cells #[.int .i64 S, .slice aa A.length ca, .slice af F.length cf] 25 (0, 0))) := by have h := HBX.out.2; rw [hbx] at h; exact h
  rw [hbx]
  clear hbx HBX
  have b1 := cell_of_row _ _ 1 _ _ _ HX.out
  go_upto_region 2 with fail
  clear b1
  go_loopw [10] (fun i wr => ∃ k : Nat, i = .int .i64 (k : Int) ∧ k ≤ A.length ∧ Below W1.heap.size W1 wr ∧ ∀ j (hj : j < A.length), j < k → plA A[j] = true) (fun i _ => A.length - (intOf i).toNat)
  case atStart => exact ⟨0, rfl, Nat.zero_le _, Below.refl _ _, fun j _ h => absurd h (Nat.not_lt_zero j)⟩
  case round =>
    obtain ⟨k, rfl, hk, hbw, hz⟩ := hrel
    have HZ : Hid (∀ j (hj : j < A.length), j < k → plA A[j] = true) := hz
    have HW : Hid (Below W1.heap.size W1 wr) := hbw
    clear hz hbw
    by_cases hlt : k < A.length
    · obtain ⟨f, t, i, o, x, he⟩ : ∃ f t i o x, A[k] = (f, t, i, o, x) := ⟨_, _, _, _, _, rfl⟩
      obtain ⟨ab, ao, rfl, _, p0, p1, p2, p3, p4⟩ := arc_cells ((HA.out.1.below HB.out).below HW.out) hlt he
      have hx1 := heap_alloc_new wr (.cells #[.int .i64 f, .int .i64 t, .int .i64 i, .int .i64 o, .int .i64 x] 64)
      have HW3 : Hid (Below W1.heap.size W1 (wr.alloc (.cells #[.int .i64 f, .int .i64 t, .int .i64 i, .int .i64 o, .int .i64 x] 64))) := HW.out.alloc HW.out.size _
      go_upto_region 4 with fail
      clear p0 p1 p2 p3 p4
      generalize wr.alloc (.cells #[.int .i64 f, .int .i64 t, .int .i64 i, .int .i64 o, .int .i64 x] 64) = W3 at *
      generalize wr.heap.size = b4 at *
      have c2 := cell_of_row _ _ 2 _ _ _ hx1
      have c3 := cell_of_row _ _ 3 _ _ _ hx1
      have c4 := cell_of_row _ _ 4 _ _ _ hx1
      clear hx1
      by_cases h1 : i = o
      · by_cases h2 : x = 0
        · have HX2 : Hid (∀ j (hj : j < A.length), j < k + 1 → plA A[j] = true) := fun j hj hjk => by
            by_cases e : j = k
            · subst e; rw [he, h1, h2]; exact pl_yes _ _ _
            · exact HZ.out j hj (by omega)
          subst h1 h2
          clear he
          have q1 : (i != i) = false := by simp
          go_wp2
          repeat (go_quiet (fail); go_wp2)
          go_roundw
          case rel => exact ⟨k + 1, by go_num, hlt, by first | exact HW3.out | exact (below_drewN HW3.out _), HX2.out⟩
          case measure => simp [intOf]; omega
        · have HV : Hid (plB A F = false) := plB_arc hlt (by rw [he]; exact pl_no2 h2)
          subst h1
          have q1 : (i != i) = false := by simp
          have q2 : (x != 0) = true := by simpa using h2
          clear he
          go_wp2
          repeat (go_quiet (fail); go_wp2)
          go_ret
          exact ⟨(by rw [HV.out]; rfl), by first | exact HB.out.trans (HW3.out.mono HB.out.size) | exact below_drewN (HB.out.trans (HW3.out.mono HB.out.size)) _⟩
      · have HV : Hid (plB A F = false) := plB_arc hlt (by rw [he]; exact pl_no h1)
        have q1 : (i != o) = true := by simpa using h1
        clear he
        go_wp2
        repeat (go_quiet (fail); go_wp2)
        go_ret
        exact ⟨(by rw [HV.out]; rfl), by first | exact HB.out.trans (HW3.out.mono HB.out.size) | exact below_drewN (HB.out.trans (HW3.out.mono HB.out.size)) _⟩
    · obtain rfl : k = A.length := by omega
      generalize wr = W2 at *
      have hx := (HW.out.block bx (lt_at HX.out)).trans HX.out
      have b2 := cell_of_row _ _ 2 _ _ _ hx
      clear hx
      go_upto_region 8 with fail
      clear b2
      go_loopw [28] (fun i wr => ∃ k : Nat, i = .int .i64 (k : Int) ∧ k ≤ F.length ∧ Below W2.heap.size W2 wr ∧ ∀ j (hj : j < F.length), j < k → (F[j]).2 = 0) (fun i _ => F.length - (intOf i).toNat)
      case atStart => exact ⟨0, rfl, Nat.zero_le _, Below.refl _ _, fun j _ h => absurd h (Nat.not_lt_zero j)⟩
      case round =>
        obtain ⟨k, rfl, hk, hbw, hz⟩ := hrel
        have HZ2 : Hid (∀ j (hj : j < F.length), j < k → (F[j]).2 = 0) := hz
        have HW2 : Hid (Below W2.heap.size W2 wr) := hbw
        have HWW : Hid (Below w.heap.size w wr) := HB.out.trans ((HW.out.trans (hbw.mono HW.out.size)).mono HB.out.size)
        clear hz hbw
        by_cases hlt : k < F.length
        · obtain ⟨s, x, he⟩ : ∃ s x, F[k] = (s, x) := ⟨_, _, rfl⟩
          obtain ⟨fb, fo, rfl, _, p0, p1⟩ := fin_cells (HA.out.2.below HWW.out) hlt he
          have hx1 := heap_alloc_new wr (.cells #[.int .i64 s, .int .i64 x] 66)
          have HW3 : Hid (Below W2.heap.size W2 (wr.alloc (.cells #[.int .i64 s, .int .i64 x] 66)) ∧ Below w.heap.size w (wr.alloc (.cells #[.int .i64 s, .int .i64 x] 66))) := ⟨HW2.out.alloc HW2.out.size _, HWW.out.alloc HWW.out.size _⟩
          go_upto_region 10 with fail
          clear p0 p1
          generalize wr.alloc (.cells #[.int .i64 s, .int .i64 x] 66) = W3 at *
          generalize wr.heap.size = b4 at *
          have c1 := cell_of_row _ _ 1 _ _ _ hx1
          clear hx1
          by_cases h2 : x = 0
          · have HX2 : Hid (∀ j (hj : j < F.length), j < k + 1 → (F[j]).2 = 0) := fun j hj hjk => by
              by_cases e : j = k
              · subst e; rw [he]; exact h2
              · exact HZ2.out j hj (by omega)
            subst h2
            clear he
            go_wp2
            repeat (go_quiet (fail); go_wp2)
            go_roundw
            case rel => exact ⟨k + 1, by go_num, hlt, by first | exact HW3.out.1 | exact (below_drewN HW3.out.1 _), HX2.out⟩
            case measure => simp [intOf]; omega
          · have HV : Hid (plB A F = false) := plB_fin hlt (by rw [he]; exact h2)
            have q2 : (x != 0) = true := by simpa using h2
            clear he
            go_wp2
            repeat (go_quiet (fail); go_wp2)
            go_ret
            exact ⟨(by rw [HV.out]; rfl), by first | exact HW3.out.2 | exact below_drewN HW3.out.2 _⟩
        · obtain rfl : k = F.length := by omega
          have HV : Hid (plB A F = true) := plB_yes (fun j hj => HZ.out j hj hj) (fun j hj => HZ2.out j hj hj)
          go_wp2
          go_ret
          exact ⟨(by rw [HV.out]; rfl), HWW.out⟩
end Go.Proofs.YtfjocafepigijaaDoor.Su
