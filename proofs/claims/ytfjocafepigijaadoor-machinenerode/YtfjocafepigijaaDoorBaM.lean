/- The document's Apart (25): append of a text, nil or not; how the visits lie, each with a text of its own. Condition: texts of at most a million. -/
import Derived.Test.YtfjocafepigijaaDoorFx
import Derived.Test.YtfjocafepigijaaDoorDm
import Derived.Laws.AppendOwnNone
import Derived.OwnWalk
import Derived.Test.YtfjocafepigijaaDoorSy
import Derived.Test.YtfjocafepigijaaDoorCiM
import Derived.Test.YtfjocafepigijaaDoorRz
namespace Go.Proofs.YtfjocafepigijaaDoor.Su
open Go.RowKit Mv Po Ps Cm Ra Ot Pa

section
variable {w wr w1 w2 : World} {vv : Value} {l : List Vis} {tv : Nat → Value}
end
/-- texts are no longer than their place -/
theorem bf_txt (T U : Tb) (z : Bool) : ∀ (k i : Nat) (e : Vis), (bf T U z k)[i]? = some e → e.2.length ≤ k := by
  intro k
  induction k with
  | zero =>
    intro i e he
    cases i with
    | zero => simp [bf] at he; subst he; exact Nat.le_refl _
    | succ i => simp [bf] at he
  | succ k ih =>
    have hp : ((bf T U z k).getD k v0).2.length ≤ k := by
      rw [List.getD_eq_getElem?_getD]
      cases h : (bf T U z k)[k]? with
      | none => exact Nat.zero_le _
      | some x => exact ih k x h
    have key : ∀ (c i : Nat) (e : Vis), (br T U z ((bf T U z k).getD k v0) (bf T U z k) c)[i]? = some e → e.2.length ≤ k + 1 := by
      intro c
      induction c with
      | zero => intro i e he; exact Nat.le_succ_of_le (ih i e he)
      | succ c ihc =>
        intro i e he
        rw [br_up] at he
        unfold bs at he
        split at he
        · exact ihc i e he
        · by_cases hi : i < (br T U z ((bf T U z k).getD k v0) (bf T U z k) c).length
          · rw [List.getElem?_append_left hi] at he
            exact ihc i e he
          · have h1 := (List.getElem?_eq_some_iff.1 he).1
            rw [List.length_append, List.length_singleton] at h1
            obtain rfl : i = (br T U z ((bf T U z k).getD k v0) (bf T U z k) c).length := by omega
            simp at he
            rw [← he]
            simp
            exact hp
    intro i e he
    rw [bf_up] at he
    exact key 60 i e he
end Go.Proofs.YtfjocafepigijaaDoor.Su
/- MachineSures: what joins the program's and the document's answers. No conditions. -/
namespace Go.Proofs.YtfjocafepigijaaDoor.Su
open Go.RowKit Mv Sy Po Ps Cm Ra Ot Pa

/-- a text of one's own, as numbers to be read -/
theorem own_isI {w : World} {base : Nat} {v : Value} {t : List Nat} (h : w.ownsRow base 3 1 v t.length (ns t)) (ht : t.length ≤ 1000000) : IsI w v (t.map fun (k : Nat) => (k : Int)) := by
  have h1 := own_rowN h (by omega)
  have e : ns t = ints (t.map fun (k : Nat) => (k : Int)) := by unfold ns ints; rw [List.map_map]; rfl
  show Mv.Row w v 1 (t.map fun (k : Nat) => (k : Int)).length (ints (t.map fun (k : Nat) => (k : Int)))
  rw [List.length_map, ← e]
  exact h1
end Go.Proofs.YtfjocafepigijaaDoor.Su
/- Sure and Apart at any small machines, the program's answers in one word each, and that there is but one answer. Condition: the machines are small. -/
namespace Go.Proofs.YtfjocafepigijaaDoor.Su
open Go.RowKit Mv Sy Po Ps Cm Ra Ot Pa

def zM : M := ⟨0, [], []⟩
theorem isM_zero (w : World) : IsM w (.agg #[.int .i64 0, .slice none 0 0, .slice none 0 0]) zM := ⟨_, _, rfl, ⟨rfl, none, 0, rfl, Nat.zero_le _, .inl rfl⟩, ⟨rfl, none, 0, rfl, Nat.zero_le _, .inl rfl⟩⟩
theorem gd_of {m : M} (hx : checkP m 0) : ∃ S : Nat, m.st = (S : Int) ∧ Gd S m.arcs ∧ ∀ k (h : k < m.fins.length), finB (S : Int) m.fins[k] = true := by
  obtain ⟨h1, h2, h3⟩ := Rz.checkP_ok hx
  have hs : 1 ≤ m.st ∧ m.st ≤ 3000 ∧ (m.arcs.length : Int) ≤ 20000 ∧ (m.fins.length : Int) ≤ m.st := by unfold sizeB at h1; exact of_decide_eq_true h1
  have e : m.st = ((m.st.toNat : Nat) : Int) := by omega
  refine ⟨m.st.toNat, e, ⟨by omega, by omega, by omega, fun k h => ?_⟩, fun k h => ?_⟩
  · rw [← e]; exact h2 k h
  · rw [← e]; exact h3 k h
/-- what Sure must answer -/
def SvA (m : M) (x : Int) (M' : M) : Prop :=
  (¬ checkP m 0 ∧ checkP m x ∧ M' = zM) ∨ (checkP m 0 ∧ plB m.arcs m.fins = false ∧ x = 4 ∧ M' = zM) ∨
  (checkP m 0 ∧ plB m.arcs m.fins = true ∧ ∃ S : Nat, m.st = (S : Int) ∧ ((x = 0 ∧ ∃ n, Done S m.arcs n ∧ IsSure (tbl S m.arcs m.fins n) M') ∨ (x = 7 ∧ M' = zM ∧ Many S m.arcs)))
/-- what Sure hands back -/
def SvQ (m : M) (w : World) (e : Ending) (w' : World) : Prop :=
  ∃ (st : Int) (a1 : Option Addr) (n1 c1 : Nat) (a2 : Option Addr) (n2 c2 : Nat) (x : Int) (M' : M), e = .returned (.tuple #[.agg #[.int .i64 st, .slice a1 n1 c1, .slice a2 n2 c2], .int .i64 x]) ∧ Below w.heap.size w w' ∧ IsM w' (.agg #[.int .i64 st, .slice a1 n1 c1, .slice a2 n2 c2]) M' ∧ SvA m x M'
theorem sure_all (m : M) (v : Value) (w : World) (hm : IsM w v m) (hf : fewB m = true) (hTab : TabAt 0 Lib.deBruijn64tab w) (h00 : 0 < w.heap.size) : Calls Tryd.prog 20 #[v] w (SvQ m w) := by
  have hfew : m.st ≤ 40 := by unfold fewB at hf; exact (of_decide_eq_true hf).1
  obtain ⟨va, vf, rfl, hA, hF⟩ := hm
  have hA0 := hA
  have hF0 := hF
  obtain ⟨_, aa, ca, rfl, _, _⟩ := hA
  obtain ⟨_, af, cf, rfl, _, _⟩ := hF
  by_cases hx : checkP m 0
  · cases hp : plB m.arcs m.fins with
    | false =>
      refine (sure_un m.st m.arcs m.fins aa af ca cf w hA0 hF0 hx hp).mono fun e w' ⟨he, hb⟩ => ?_
      exact ⟨_, _, _, _, _, _, _, _, zM, he, hb, isM_zero w', .inr (.inl ⟨hx, hp, rfl, rfl⟩)⟩
    | true =>
      obtain ⟨S, hS, hG, hfn⟩ := gd_of hx
      obtain ⟨st, A, F⟩ := m
      dsimp only at hS hG hfn hA0 hF0 hp hfew ⊢
      subst hS
      refine (sure_any S A F aa af ca cf w hG (by omega) hA0 hF0 hfn hTab h00 hx hp).mono fun e w' h => ?_
      obtain ⟨st, a1, n1, c1, a2, n2, c2, x, he, hb, hor⟩ := h
      rcases hor with ⟨rfl, n, M', hn, hs, hi⟩ | ⟨rfl, hi, hmn⟩
      · exact ⟨_, _, _, _, _, _, _, _, M', he, hb, hi, .inr (.inr ⟨hx, hp, S, rfl, .inl ⟨rfl, n, hn, hs⟩⟩)⟩
      · exact ⟨_, _, _, _, _, _, _, _, zM, he, hb, hi, .inr (.inr ⟨hx, hp, S, rfl, .inr ⟨rfl, rfl, hmn⟩⟩)⟩
  · obtain ⟨x0, hx0⟩ := Rz.checkP_ex m
    refine (sure_bad m.st m.arcs m.fins aa af ca cf w hA0 hF0 x0 hx0 (fun e => hx (e ▸ hx0))).mono fun e w' ⟨he, hb⟩ => ?_
    exact ⟨_, _, _, _, _, _, _, _, zM, he, hb, isM_zero w', .inl ⟨hx, hx0, rfl⟩⟩
/-- what Apart must answer -/
def ApA (a b : M) (x : Int) (r : Option (List Nat)) : Prop :=
  (∃ xa xb, checkP a xa ∧ checkP b xb ∧ Mc.both xa xb ≠ 0 ∧ x = Mc.both xa xb ∧ r = none) ∨
  (checkP a 0 ∧ checkP b 0 ∧ (plB a.arcs a.fins && plB b.arcs b.fins) = false ∧ x = 4 ∧ r = none) ∨
  (checkP a 0 ∧ checkP b 0 ∧ (plB a.arcs a.fins && plB b.arcs b.fins) = true ∧ ∃ S U : Nat, a.st = (S : Int) ∧ b.st = (U : Int) ∧ ((x = 7 ∧ r = none ∧ (Many S a.arcs ∨ Many U b.arcs)) ∨ (x = 0 ∧ ∃ n m, Done S a.arcs n ∧ Done U b.arcs m ∧ IsAp (tbl S a.arcs a.fins n) (tbl U b.arcs b.fins m) true r)))
/-- a text that tells apart is not long -/
theorem ap_len {S U : Nat} {A B : AL} {F H : List (Int × Int)} {n m : Nat} {z : Bool} {t : List Nat} (hn : Done S A n) (hm : Done U B m) (h : IsAp (tbl S A F n) (tbl U B H m) z (some t)) : t.length ≤ 1000000 := by
  obtain ⟨k, hk, ⟨e, he, _, hr⟩ | ⟨_, hr⟩⟩ := h
  · cases hr
    have h1 := bf_txt _ _ z k k e he
    have h2 := (bf_dus (T := tbl S A F n) (U := tbl U B H m) z (tbl_ok hn) (tbl_ok hm) (done_pos hn) (done_pos hm) k).len
    have h3 : k < (bf (tbl S A F n) (tbl U B H m) z k).length := (List.getElem?_eq_some_iff.1 he).1
    have h4 : ((tbl S A F n).n + 1) * ((tbl U B H m).n + 1) ≤ 501 * 501 := Nat.mul_le_mul (by have := hn.few; show n + 1 ≤ 501; omega) (by have := hm.few; show m + 1 ≤ 501; omega)
    omega
  · cases hr
/-- a text, or none, as numbers to be read -/
def tI (r : Option (List Nat)) : List Int := match r with | some t => t.map fun (k : Nat) => (k : Int) | none => []
theorem isI_none (w : World) : IsI w (.slice none 0 0) [] := ⟨rfl, none, 0, rfl, Nat.zero_le _, .inl rfl⟩
/-- what Apart hands back -/
def AvQ (a b : M) (w : World) (e : Ending) (w' : World) : Prop :=
  ∃ (v : Value) (is : Bool) (x : Int) (r : Option (List Nat)), e = .returned (.tuple #[v, .bool is, .int .i64 x]) ∧ Below w.heap.size w w' ∧ is = r.isSome ∧ IsI w' v (tI r) ∧ (tI r).length ≤ 1000000 ∧ ApA a b x r
theorem apart_all (a b : M) (va vb : Value) (w : World) (ha : IsM w va a) (hb : IsM w vb b) (hf : fewB a = true) (hf2 : fewB b = true) (hTab : TabAt 0 Lib.deBruijn64tab w) (h00 : 0 < w.heap.size) : Calls Tryd.prog 24 #[va, vb] w (AvQ a b w) := by
  have hfew : a.st ≤ 40 := by unfold fewB at hf; exact (of_decide_eq_true hf).1
  have hfew2 : b.st ≤ 40 := by unfold fewB at hf2; exact (of_decide_eq_true hf2).1
  obtain ⟨v1, v2, rfl, hA, hF⟩ := ha
  obtain ⟨v3, v4, rfl, hB, hH⟩ := hb
  have hA0 := hA
  have hF0 := hF
  have hB0 := hB
  have hH0 := hH
  obtain ⟨_, aa, ca, rfl, _, _⟩ := hA
  obtain ⟨_, af, cf, rfl, _, _⟩ := hF
  obtain ⟨_, ba, da, rfl, _, _⟩ := hB
  obtain ⟨_, bf', df', rfl, _, _⟩ := hH
  obtain ⟨xa, hxa⟩ := Rz.checkP_ex a
  obtain ⟨xb, hxb⟩ := Rz.checkP_ex b
  by_cases hx : Mc.both xa xb = 0
  · obtain ⟨rfl, rfl⟩ : xa = 0 ∧ xb = 0 := by
      unfold Mc.both at hx
      split at hx
      · exact ⟨by assumption, hx⟩
      · exact absurd hx (by assumption)
    cases hp : (plB a.arcs a.fins && plB b.arcs b.fins) with
    | false =>
      refine (apart_un a.st b.st a.arcs b.arcs a.fins b.fins aa af ba bf' ca cf da df' w hA0 hF0 hB0 hH0 hxa hxb hp).mono fun e w' ⟨he, hbl⟩ => ?_
      exact ⟨_, _, _, none, he, hbl, rfl, isI_none w', Nat.zero_le _, .inr (.inl ⟨hxa, hxb, hp, rfl, rfl⟩)⟩
    | true =>
      obtain ⟨S, hS, hG, hfn⟩ := gd_of hxa
      obtain ⟨U, hU, hG2, hfn2⟩ := gd_of hxb
      obtain ⟨st, A, F⟩ := a
      obtain ⟨su, B, H⟩ := b
      dsimp only at hS hG hfn hU hG2 hfn2 hA0 hF0 hB0 hH0 hp hfew hfew2 ⊢
      subst hS hU
      have hp2 : plB A F = true ∧ plB B H = true := by simpa using hp
      refine (apart_any S U A B F H aa af ba bf' ca cf da df' w hG hG2 (by omega) (by omega) hA0 hF0 hB0 hH0 hfn hfn2 hTab h00 hxa hxb hp2.1 hp2.2).mono fun e w' h => ?_
      obtain ⟨v, bb, x, he, hbl, hor⟩ := h
      rcases hor with ⟨rfl, hmn, rfl, rfl⟩ | ⟨rfl, n, m, r, hn, hm, hr, hres⟩
      · exact ⟨_, _, _, none, he, hbl, rfl, isI_none w', Nat.zero_le _, .inr (.inr ⟨hxa, hxb, hp, S, U, rfl, rfl, .inl ⟨rfl, rfl, hmn⟩⟩)⟩
      · rcases hres with ⟨rfl, t, rfl, hrow⟩ | ⟨rfl, rfl, rfl⟩
        · have hl := ap_len hn hm hr
          exact ⟨_, _, _, some t, he, hbl, rfl, own_isI hrow hl, by show (List.map _ t).length ≤ _; rw [List.length_map]; exact hl, .inr (.inr ⟨hxa, hxb, hp, S, U, rfl, rfl, .inr ⟨rfl, n, m, hn, hm, hr.of⟩⟩)⟩
        · exact ⟨_, _, _, none, he, hbl, rfl, isI_none w', Nat.zero_le _, .inr (.inr ⟨hxa, hxb, hp, S, U, rfl, rfl, .inr ⟨rfl, n, m, hn, hm, hr.of⟩⟩)⟩
  · refine (apart_bad a.st b.st a.arcs b.arcs a.fins b.fins aa af ba bf' ca cf da df' w hA0 hF0 hB0 hH0 xa xb hxa hxb hx).mono fun e w' ⟨he, hbl⟩ => ?_
    exact ⟨_, _, _, none, he, hbl, rfl, isI_none w', Nat.zero_le _, .inl ⟨xa, xb, hxa, hxb, hx, rfl, rfl⟩⟩
end Go.Proofs.YtfjocafepigijaaDoor.Su
