/- MachineOuts, what the law asks of Outs: its answer where anything is refused, and where nothing is. Condition: the library's table lies as its text lays it. -/
import Derived.Test.YtfjocafepigijaaDoorVc
namespace Go.Proofs.YtfjocafepigijaaDoor.Ot
open Go.RowKit Mv Sy Po Ps Cm Pa Am Wd St Ra Set

/-- what the document says is wrong -/
def wrg (x f long : Int) : Int := if x ≠ 0 then x else if f = 2 ∨ long < 0 ∨ 8 < long then 2 else f
/-- what Outs answers -/
def Oq (m : M) (inn : List Int) (long z : Int) (w : World) (a : Option Addr) (n c : Nat) (er : Int) (w' : World) : Prop :=
  (z ≠ 0 ∧ er = z ∧ n = 0) ∨ (z = 0 ∧ ∃ S L : Nat, long = (L : Int) ∧ L ≤ 8 ∧ Sml m S ∧ TeP (Eg S inn m.arcs) (fn S inn m.fins) L w (.slice a n c) er w')
theorem outs_all (m : M) (v : Value) (x : Int) (inn : List Int) (ai : Option Addr) (ci : Nat) (long : Int) (w : World) (hm : IsM w v m) (hx : checkP m x) (hf : fewB m = true) (hi : IsI w (.slice ai inn.length ci) inn) (hTab : TabAt 0 Lib.deBruijn64tab w) (h00 : 0 < w.heap.size) :
    Calls Tryd.prog 9 #[v, .slice ai inn.length ci, .int .i64 long] w fun e w' => ∃ (a : Option Addr) (n c : Nat) (er : Int), e = .returned (.tuple #[.slice a n c, .int .i64 er]) ∧ Below w.heap.size w w' ∧ Oq m inn long (wrg x (flt inn) long) w a n c er w' := by
  by_cases h0 : x = 0
  · subst h0
    have hb60 : inn.length ≤ 140737488355328 := by obtain ⟨_, _, _, _, h, _⟩ := hi; exact h
    by_cases hl : 60 < inn.length
    · have e : wrg 0 (flt inn) long = 2 := by
        have e2 : flt inn = 2 := by unfold flt; rw [if_pos hl]
        unfold wrg; rw [e2]; simp
      rw [e]
      exact (outs_long m v inn ai ci long w hm hx hl hb60).mono fun e w' ⟨h1, h2⟩ => ⟨none, 0, 0, 2, h1, h2, .inl ⟨by decide, rfl, rfl⟩⟩
    · have e2 : flt inn = if allS inn then 0 else 3 := by unfold flt; rw [if_neg hl]
      by_cases hw : 0 ≤ long ∧ long ≤ 8
      · obtain ⟨L, rfl⟩ : ∃ L : Nat, long = (L : Int) := ⟨long.toNat, by omega⟩
        have hwb : CkP.wb (L : Int) 0 8 = true := by unfold CkP.wb; exact decide_eq_true hw
        have e3 : wrg 0 (flt inn) (L : Int) = if allS inn then 0 else 3 := by
          unfold wrg
          rw [e2, if_neg (by simp), if_neg]
          intro h
          rcases h with h | h | h
          · split at h <;> omega
          · omega
          · omega
        rw [e3]
        cases hs : allS inn with
        | false => exact (outs_sym m v inn ai ci (L : Int) w hm hx hl hwb hi hs).mono fun e w' ⟨h1, h2⟩ => ⟨none, 0, 0, 3, h1, h2, .inl ⟨by decide, rfl, rfl⟩⟩
        | true =>
          obtain ⟨S, hS⟩ := sml_of hx hf
          exact (outs_ok m v inn ai ci L S w hm hx hl (by omega) hi hs hS hTab h00).mono fun e w' h => by
            obtain ⟨a, n, c, er, he, hp⟩ := h.parts
            exact ⟨a, n, c, er, he, hp.1, .inr ⟨rfl, S, L, rfl, by omega, hS, hp⟩⟩
      · have hwb : CkP.wb long 0 8 = false := by unfold CkP.wb; exact decide_eq_false hw
        have e3 : wrg 0 (flt inn) long = 2 := by
          unfold wrg
          rw [if_neg (by simp), if_pos (.inr (by omega))]
        rw [e3]
        exact (outs_far m v inn ai ci long w hm hx hl hwb).mono fun e w' ⟨h1, h2⟩ => ⟨none, 0, 0, 2, h1, h2, .inl ⟨by decide, rfl, rfl⟩⟩
  · have e : wrg x (flt inn) long = x := by unfold wrg; rw [if_pos h0]
    rw [e]
    exact (outs_bad m v _ x long w hm hx h0).mono fun e w' ⟨h1, h2⟩ => ⟨none, 0, 0, x, h1, h2, .inl ⟨h0, rfl, rfl⟩⟩
/-- what the law asks of the list that is told -/
structure Ans (m : M) (inn : List Int) (S L : Nat) (w3 w4 : World) (a : Option Addr) (n c : Nat) (er : Int) (told : List (List Int)) (vals : List Value) : Prop where
  row : w4.ownsRow w3.heap.size 26 1 (.slice a n c) n vals
  tls : Tls w4 vals told
  len : told.length = n
  few : n ≤ 500
  err : er = 0 ∨ er = 7
  ord : told.Pairwise Sx
  mem : ∀ t ∈ told, t.length ≤ L ∧ An (Eg S inn m.arcs) (fn S inn m.fins) t
  out : (er = 0 ∧ n = (alls (Eg S inn m.arcs) (fn S inn m.fins) (usd m.arcs) (L + 1)).length ∧ n ≤ 500) ∨ (er = 7 ∧ n = 0 ∧ 500 < (alls (Eg S inn m.arcs) (fn S inn m.fins) (usd m.arcs) (L + 1)).length)
theorem ans_of {m : M} {inn : List Int} {S L : Nat} {w3 w4 : World} {a : Option Addr} {n c : Nat} {er : Int} (hS : Sml m S) (h : TeP (Eg S inn m.arcs) (fn S inn m.fins) L w3 (.slice a n c) er w4) : ∃ told vals, Ans m inn S L w3 w4 a n c er told vals := by
  have h0 : ∀ a ∈ m.arcs, 0 ≤ a.2.2.2.1 := fun a ha => (hS.rgt.arc a ha).2.2.2.1
  obtain ⟨_, ⟨rfl, told, vals, h1, h2, h3⟩ | ⟨rfl, hv, h3⟩⟩ := h
  · have hn : told.length = n := by
      obtain ⟨a', c', e⟩ := oslice h1
      rw [Value.slice.injEq] at e
      exact e.2.1.symm
    have hc := count_fit h0 h3
    rcases h3 with ⟨_, ho, hl, hm⟩ | ⟨hb, _⟩
    · refine ⟨told, vals, hn ▸ h1, h2, hn, by omega, .inl rfl, ho, fun t ht => (hm t).1 ht, ?_⟩
      rcases hc with ⟨_, h4, h5⟩ | ⟨h4, _⟩
      · exact .inl ⟨rfl, by omega, by omega⟩
      · cases h4
    · cases hb
  · rw [Value.slice.injEq] at hv
    obtain ⟨rfl, rfl, rfl⟩ := hv
    refine ⟨[], [], World.ownsRow_nil _ _ _ _, Tls.nil _, rfl, by omega, .inr rfl, List.Pairwise.nil, fun t ht => (by cases ht), ?_⟩
    rcases count_fit h0 h3 with ⟨h4, _⟩ | ⟨_, _, h5⟩
    · cases h4
    · exact .inr ⟨rfl, rfl, h5⟩
/-- an answer is a text of symbols -/
theorem an_flt {m : M} {inn t : List Int} {S L : Nat} (hS : Sml m S) (hL : L ≤ 8) (hl : t.length ≤ L) (h : An (Eg S inn m.arcs) (fn S inn m.fins) t) : flt t = 0 := by
  have h0 : ∀ a ∈ m.arcs, 0 ≤ a.2.2.2.1 := fun a ha => (hS.rgt.arc a ha).2.2.2.1
  obtain ⟨v, _, n, hw⟩ := h
  have hu := wl_usd h0 hw
  have ha : allS t = true := by
    unfold allS
    rw [List.all_eq_true]
    intro c hc
    obtain ⟨h1, a, ha, h2⟩ := (usd_mem _ c).1 (hu c hc)
    have := hS.out a ha
    unfold okS
    exact decide_eq_true (by omega)
  unfold flt
  rw [if_neg (by omega), ha]
  rfl
end Go.Proofs.YtfjocafepigijaaDoor.Ot
