/- slices.Concat of lists of parts: a new list that holds them. Condition: together they have at most 1000 parts. -/
import Derived.Test.YtbmgkgoghgdbhaaSe
namespace Go.Proofs.Ytbmgkgoghgdbhaa.Te
open Go.RowKit Go.Shelf

theorem run_none (w : World) (base : Nat) (t ty e : TypeId) (i : TypeInfo) (size : Nat) (ht : Try.prog.underlying t = some (.slice e)) (hi : Try.prog.info? e = some i) (v : Value) (n : Nat) (xs : List Value) (c : Nat) (hown : w.ownsRow base e size v n xs) :
    (Builtin.append_ #[t, t] ty #[v, .slice none 0 c]).run Try.prog w = .ok v w := by
  rcases hown.2 with ⟨rfl, rfl⟩ | ⟨g, cap, cur, rfl, _, _, hnc, _⟩
  · simp [Builtin.append_, run_underlying ht, sizeOf, typeInfo, hi, Builtin.lenOf, Builtin.firstCells]
  · simp [Builtin.append_, run_underlying ht, sizeOf, typeInfo, hi, Builtin.lenOf, Builtin.firstCells, hnc, storeCells]
/-- the cells of a list as it lies -/
def Src (P : Nat → Prop) (w : World) (d : Nat) (l : List Ty) (a : Option Addr) (xs : List Value) : Prop := xs.length = l.length * 3 ∧ (∀ u ∈ xs, u.oneCell' = true) ∧ RowOf P w d l l.length xs ∧ (l.length = 0 ∨ ∃ g off, a = some ⟨g, off, none⟩ ∧ g < w.heap.size ∧ ∀ j u, xs[j]? = some u → w.cell? ⟨g, off + j, none⟩ = some u)
theorem src_of {P : Nat → Prop} {w : World} {d : Nat} {k n : Int} {l : List Ty} {a : Option Addr} {c : Nat} (h : TyP P w (d + 1) ⟨k, n, l⟩ a c) : ∃ xs, Src P w d l a xs := by
  rcases Nat.eq_zero_or_pos l.length with h0 | h0
  · refine ⟨[], by simp [h0], by simp, fun i hi => by omega, .inl h0⟩
  · obtain ⟨g, off, a', c', rfl, hg, _⟩ := h.kid (j := 0) h0
    have hw := h
    suffices hs : ∀ j, j ≤ l.length → ∃ xs : List Value, xs.length = j * 3 ∧ (∀ u ∈ xs, u.oneCell' = true) ∧ RowOf P w d l j xs ∧ ∀ q u, xs[q]? = some u → w.cell? ⟨g, off + q, none⟩ = some u by
      obtain ⟨xs, h1, h2, h3, h4⟩ := hs _ (Nat.le_refl _)
      exact ⟨xs, h1, h2, h3, .inr ⟨g, off, rfl, hg, h4⟩⟩
    intro j
    induction j with
    | zero => intro _; exact ⟨[], by simp, by simp, fun i _ hi => by omega, by simp⟩
    | succ j ih =>
      intro hj
      obtain ⟨xs, h1, h2, h3, h4⟩ := ih (by omega)
      obtain ⟨g', off', a', c', he, _, _, c0, c1, c2, ht⟩ := hw.kid (j := j) (by dsimp only; omega)
      simp only [Option.some.injEq, Addr.mk.injEq, and_true] at he
      obtain ⟨rfl, rfl⟩ := he
      dsimp only at c0 c1 c2 ht
      refine ⟨xs ++ tyc l[j] a' c', by simp [tyc, h1]; omega, ?_, h3.push h1 (by omega) ht, ?_⟩
      · intro u hu
        rcases List.mem_append.1 hu with hu | hu
        · exact h2 u hu
        · exact tyc_one _ _ _ u hu
      · intro q u hu
        by_cases hq : q < xs.length
        · rw [List.getElem?_append_left hq] at hu
          exact h4 q u hu
        · rw [List.getElem?_append_right (by omega)] at hu
          have hlt : q - xs.length < 3 := by
            have := (List.getElem?_eq_some_iff.1 hu).1
            simpa [tyc] using this
          have h012 : q = j * 3 ∨ q = j * 3 + 1 ∨ q = j * 3 + 2 := by omega
          rcases h012 with rfl | rfl | rfl
          · rw [show j * 3 - xs.length = 0 by omega] at hu
            rw [c0, ← hu]; rfl
          · rw [show j * 3 + 1 - xs.length = 1 by omega] at hu
            rw [show off + (j * 3 + 1) = off + j * 3 + 1 by omega, c1, ← hu]; rfl
          · rw [show j * 3 + 2 - xs.length = 2 by omega] at hu
            rw [show off + (j * 3 + 2) = off + j * 3 + 2 by omega, c2, ← hu]; rfl
theorem RowOf.join {P : Nat → Prop} {w : World} {d : Nat} {l m : List Ty} {xs ys : List Value} (h : RowOf P w d l l.length xs) (hl : xs.length = l.length * 3) (h' : RowOf P w d m m.length ys) : RowOf P w d (l ++ m) (l ++ m).length (xs ++ ys) := fun i hi _ => by
  by_cases e : i < l.length
  · obtain ⟨a, c, h0, h1, h2, h3⟩ := h i e e
    have e1 : (l ++ m)[i] = l[i] := List.getElem_append_left e
    refine ⟨a, c, ?_, ?_, ?_, ?_⟩
    · rw [List.getElem?_append_left (by omega), e1]; exact h0
    · rw [List.getElem?_append_left (by omega), e1]; exact h1
    · rw [List.getElem?_append_left (by omega), e1]; exact h2
    · rw [e1]; exact h3
  · have hi' : i - l.length < m.length := by simp at hi; omega
    obtain ⟨a, c, h0, h1, h2, h3⟩ := h' (i - l.length) hi' hi'
    have e1 : (l ++ m)[i] = m[i - l.length] := List.getElem_append_right (by omega)
    refine ⟨a, c, ?_, ?_, ?_, ?_⟩
    · rw [List.getElem?_append_right (by omega), e1, show i * 3 - xs.length = (i - l.length) * 3 by omega]; exact h0
    · rw [List.getElem?_append_right (by omega), e1, show i * 3 + 1 - xs.length = (i - l.length) * 3 + 1 by omega]; exact h1
    · rw [List.getElem?_append_right (by omega), e1, show i * 3 + 2 - xs.length = (i - l.length) * 3 + 2 by omega]; exact h2
    · rw [e1]; exact h3
theorem app_run {P : Nat → Prop} (w w0 : World) (ty : TypeId) (base : Nat) (v : Value) (xs : List Value) (n : Nat) (hown : w.ownsRow base 24 3 v n xs) {d : Nat} {l : List Ty} {a : Option Addr} {ys : List Value} (c : Nat) (hsrc : Src P w0 d l a ys) (hb : Below w0.heap.size w0 w) (hle : n + l.length ≤ 1000) (hbase : base ≤ w.heap.size) :
    ∃ v' w', (Builtin.append_ #[22, 22] ty #[v, .slice a l.length c]).run Try.prog w = .ok v' w' ∧ w'.ownsRow base 24 3 v' (n + l.length) (xs ++ ys) ∧ w.grownBy w' v.ownBlock := by
  obtain ⟨i0, hi, hz0, hz1, hz2⟩ := info_parts info24
  obtain ⟨h1, h2, _, h4⟩ := hsrc
  cases a with
  | none =>
    have e0 : l.length = 0 := by
      rcases h4 with h4 | ⟨g, off, h4, _⟩
      · exact h4
      · cases h4
    have e2 : ys = [] := List.length_eq_zero_iff.1 (by omega)
    subst e2
    rw [e0]
    exact ⟨v, w, run_none w base 22 ty 24 i0 3 Try.underlying22 hi v n xs c hown, by simpa using hown, ⟨rfl, rfl, rfl, Nat.le_refl _, fun _ _ _ => rfl⟩⟩
  | some ad =>
    obtain ⟨v', w', hr, h5, h6, _⟩ := run_append_own (P := Try.prog) w base 22 ty 24 i0 _ 3 40 Try.underlying22 hi hz0 hz1 hz2 rfl (by decide) v n xs hown ad l.length c ys h1 (by
      intro j u hu
      rcases h4 with h4 | ⟨b, off, hb', hlt, hc⟩
      · have : ys = [] := List.length_eq_zero_iff.1 (by rw [h1, h4])
        subst this
        simp at hu
      · simp only [Option.some.injEq] at hb'
        subst hb'
        have hadd : (⟨b, off, none⟩ : Addr).add j = ⟨b, off + j, none⟩ := by unfold Addr.add; split <;> simp_all
        rw [hadd]
        exact (hb.cell (p := ⟨b, _, none⟩) hlt).trans (hc j u hu)) h2 (by unfold maxLen; omega) (by omega) hbase
    exact ⟨v', w', hr, h5, h6⟩
theorem wpList_src {P : Nat → Prop} {w : World} {ops : Array Oper} {rest : List Oper} {o : Oper} {a : Act} {Q : Exit → Act → World → Prop} (w0 : World) (hgd : o.guard = none) (s x : Operand)
    (ho : o.op = .call { callee := .builtin .append, args := #[s, x], argTypes := #[22, 22] })
    (base : Nat) (v : Value) (n : Nat) (xs : List Value) (hs : a.eval s = v) (hown : w.ownsRow base 24 3 v n xs)
    {d : Nat} {l : List Ty} {ad : Option Addr} {ys : List Value} (c : Nat) (hx : a.eval x = .slice ad l.length c) (hsrc : Src P w0 d l ad ys) (hb : Below w0.heap.size w0 w) (hle : n + l.length ≤ 1000) (hbase : base ≤ w.heap.size)
    (h : ∀ v' w', w'.ownsRow base 24 3 v' (n + l.length) (xs ++ ys) → w.grownBy w' v.ownBlock → wpList Try.prog ops Q rest (a.put o.dst v') w') : wpList Try.prog ops Q (o :: rest) a w := by
  refine wpList_plain hgd fun K hK => ?_
  obtain ⟨v', w', hr, h2, h3⟩ := app_run w w0 o.type base v xs n hown c hsrc hb hle hbase
  unfold Oper.wp execOp
  simp only [ho, resolve, invoke, builtin, Sem.run_bind, Sem.run_pure, Result.andThen_ok, List.map_toArray, List.map_cons, List.map_nil, hs, hx, hr]
  exact hK _ _ (h v' w' h2 h3)

/-- a list of parts as it lies, with room -/
def LsAt (P : Nat → Prop) (w : World) (d : Nat) (l : List Ty) (a : Option Addr) (c : Nat) : Prop := TyP P w (d + 1) ⟨0, 0, l⟩ a c ∧ l.length ≤ c
def flat (ls : List (List Ty)) (k : Nat) : List Ty := (ls.take k).flatten
theorem flat_succ {ls : List (List Ty)} {k : Nat} (h : k < ls.length) : flat ls (k + 1) = flat ls k ++ ls[k] := by
  unfold flat
  rw [← List.take_append_getElem h, List.flatten_append]
  simp
theorem flat_le (ls : List (List Ty)) (k : Nat) : (flat ls k).length ≤ ls.flatten.length := by
  have : ls.flatten = flat ls k ++ (ls.drop k).flatten := by
    unfold flat
    rw [← List.flatten_append, List.take_append_drop]
  rw [this, List.length_append]
  omega
theorem flat_all (ls : List (List Ty)) {k : Nat} (h : ls.length ≤ k) : flat ls k = ls.flatten := by
  unfold flat
  rw [List.take_of_length_le h]

set_option maxHeartbeats 400000 in
set_option maxRecDepth 100000 in
theorem concat_any {P : Nat → Prop} {d : Nat} (B off cap : Nat) (ls : List (List Ty)) (fl : List Ty) (hfl : ls.flatten = fl) (w : World) (hB : B < w.heap.size) (hl : ls.length ≤ 1000) (hc : ∀ i (h : i < ls.length), ∃ a c, w.cell? ⟨B, off + i, none⟩ = some (.slice a (ls[i]).length c) ∧ TyP P w (d + 1) ⟨0, 0, ls[i]⟩ a c) (hs : fl.length ≤ 1000) (hP : ∀ g, w.heap.size ≤ g → P g) :
    Calls Try.prog 78 #[.slice (some ⟨B, off, none⟩) ls.length cap] w fun e w' => ∃ a c, e = .returned (.slice a fl.length c) ∧ LsAt P w' d fl a c ∧ Below w.heap.size w w' := by
  have HS : Hid (fl.length ≤ 1000) := hs
  have HC : Hid (∀ i (h : i < ls.length), ∃ a c, w.cell? ⟨B, off + i, none⟩ = some (.slice a (ls[i]).length c) ∧ TyP P w (d + 1) ⟨0, 0, ls[i]⟩ a c) := hc
  have HF : Hid (ls.flatten = fl) := hfl
  have HP : Hid (∀ g, w.heap.size ≤ g → P g) := hP
  clear hs hc hfl hP
  go_enter Try.func78, Try.ntmps78
  go_wp2
  go_loopw [3, 11] (fun s i wr => ∃ k : Nat, i = .int .i64 (k : Int) ∧ k ≤ ls.length ∧ w = wr ∧ s = .int .i64 ((flat ls k).length : Int)) (fun _ i _ => ls.length - (intOf i).toNat)
  case atStart => exact ⟨0, rfl, by omega, rfl, rfl⟩
  case round =>
    obtain ⟨k, rfl, hk, rfl, rfl⟩ := hrel
    by_cases hkl : k < ls.length
    · have hkl' : (k : Int) < (ls.length : Int) := by omega
      obtain ⟨a, c, hcell, _⟩ := HC.out k hkl
      have e1 := congrArg List.length (flat_succ hkl)
      rw [List.length_append] at e1
      have e2 := flat_le ls (k + 1)
      rw [HF.out] at e2
      have e3 := HS.out
      have hn : ¬ (((flat ls k).length : Int) + ((ls[k]).length : Int) < 0) := by omega
      have h0 : (0 : Int) ≤ (flat ls k).length ∧ ((flat ls k).length : Int) ≤ 1000 := by omega
      have h1 : (0 : Int) ≤ (ls[k]).length ∧ ((ls[k]).length : Int) ≤ 1000 := by omega
      go_wp2
      go_roundw
      case rel => exact ⟨k + 1, by go_num, by omega, by trivial, by rw [e1]; go_num⟩
      case measure => simp [intOf]; omega
    · have hkl' : ¬ (k : Int) < (ls.length : Int) := by omega
      have hg := fun W => grow_any (flat ls k).length W (by rw [flat_all ls (k := k) (by omega), HF.out]; exact HS.out)
      go_wp2_with (go_at_call 89; (with_reducible refine (hg _).mono ?_); rintro e w1 ⟨v1, rfl, hown1, hb1⟩)
      clear hg hkl' hkl hk
      go_loopw [6, 27] (fun v i wr => ∃ (q : Nat) (xs : List Value), i = .int .i64 (q : Int) ∧ q ≤ ls.length ∧ wr.ownsRow w.heap.size 24 3 v (flat ls q).length xs ∧ RowOf P w d (flat ls q) (flat ls q).length xs ∧ Below w.heap.size w wr) (fun _ i _ => ls.length - (intOf i).toNat)
      case atStart => exact ⟨0, [], rfl, by omega, hown1, fun i hi => by simp [flat] at hi, hb1⟩
      case round =>
        obtain ⟨q, xs, rfl, hq, hown, hrow, hbw⟩ := hrel
        have hsz := hbw.size
        by_cases hql : q < ls.length
        · have hql' : (q : Int) < (ls.length : Int) := by omega
          obtain ⟨a, c, hcell, hT⟩ := HC.out q hql
          obtain ⟨ys, hsrc⟩ := src_of hT
          have hcell' : wr.cell? ⟨B, off + q, none⟩ = some (.slice a (ls[q]).length c) := (hbw.cell (p := ⟨B, off + q, none⟩) hB).trans hcell
          have e1 := flat_succ hql
          have e2 := flat_le ls (q + 1)
          rw [HF.out] at e2
          have e3 := HS.out
          have e4 := congrArg List.length e1
          rw [List.length_append] at e4
          go_wp2_with (at_builtin; refine wpList_src w rfl (.tmp 31) (.tmp 32) rfl w.heap.size _ _ _ rfl hown c rfl hsrc hbw (by omega) hsz ?_; intro v' W2 hown2 hgrow2)
          go_roundw
          case rel =>
            refine ⟨q + 1, xs ++ ys, by go_num, by omega, ?_, ?_, hbw.grown hgrow2 hsz (fun j hj => (hown.lt j hj).1)⟩
            · rw [e1, List.length_append]; exact hown2
            · rw [e1]; exact hrow.join hown.1 hsrc.2.2.1
          case measure => simp [intOf]; omega
        · have hql' : ¬ (q : Int) < (ls.length : Int) := by omega
          have ef := flat_all ls (k := q) (by omega)
          rw [HF.out] at ef
          rw [ef] at hown hrow
          clear ef
          have hle := HS.out
          go_wp2
          go_ret
          have hv : ∀ V : Value, wr.ownsRow w.heap.size 24 3 V fl.length xs → ∃ x m, V = .slice x fl.length m ∧ fl.length ≤ m := by
            intro V hV
            rcases hV.2 with ⟨rfl, h0⟩ | ⟨g, cap, cur, rfl, _, _, hcap, _⟩
            · exact ⟨none, 0, by rw [h0], by omega⟩
            · exact ⟨_, _, rfl, hcap⟩
          obtain ⟨x, m, rfl, hroom⟩ := hv _ hown
          exact ⟨x, m, rfl, ⟨(RowOf.all (hrow.keep (Q := P) hsz (fun g hg hp => ⟨hp, hbw.block g hg⟩)) hown (by constructor <;> omega) (by constructor <;> omega) (by omega) (fun g _ hge => HP.out g hge)), hroom⟩, hbw⟩
end Go.Proofs.Ytbmgkgoghgdbhaa.Te
