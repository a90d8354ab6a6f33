/- MachineOuts, what the law asks of Outs: its answer where anything is refused, and where nothing is. Condition: the library's table lies as its text lays it. -/
import Derived.Test.YtfjocafepigijaaDoorVcM
import Derived.Test.YtfjocafepigijaaDoorMbM
import Derived.Test.YtfjocafepigijaaDoorNx
import Derived.Test.YtfjocafepigijaaDoorSmM
import Derived.Deep.QuietTactic
import Derived.BigQuiet
import Derived.Deep.Cut
namespace Go.Proofs.YtfjocafepigijaaDoor.Ot
open Go.RowKit Mv Sy Po Ps Cm Pa Am Wd St Ra Set

/-- what the document says is wrong -/
def wrg (x f long : Int) : Int := if x ≠ 0 then x else if f = 2 ∨ long < 0 ∨ 8 < long then 2 else f
/-- what Outs answers -/
def Oq (m : M) (inn : List Int) (long z : Int) (w : World) (a : Option Addr) (n c : Nat) (er : Int) (w' : World) : Prop :=
  (z ≠ 0 ∧ er = z ∧ n = 0) ∨ (z = 0 ∧ ∃ S L : Nat, long = (L : Int) ∧ L ≤ 8 ∧ Sml m S ∧ TeP (Eg S inn m.arcs) (fn S inn m.fins) L w (.slice a n c) er w')
theorem outs_all (m : M) (v : Value) (x : Int) (inn : List Int) (ai : Option Addr) (ci : Nat) (long : Int) (w : World) (hm : IsM w v m) (hx : checkP m x) (hf : fewB m = true) (hi : IsI w (.slice ai inn.length ci) inn) (hTab : TabAt 0 Lib.deBruijn64tab w) (h00 : 0 < w.heap.size) :
    Calls Tryd.prog 9 #[v, .slice ai inn.length ci, .int .i64 long] w fun e w' => ∃ (a : Option Addr) (n c : Nat) (er : Int), e = .returned (.tuple #[.slice a n c, .int .i64 er]) ∧ Below w.heap.size w w' ∧ Oq m inn long (wrg x (flt inn) long) w a n c er w' := by
  by_cases h0 : x = 0
  · subst h0
    have hb60 : inn.length ≤ 140737488355328 := by obtain ⟨_, _, _, _, h, _⟩ := hi; exact h
    by_cases hl : 60 < inn.length
    · have e : wrg 0 (flt inn) long = 2 := by
        have e2 : flt inn = 2 := by unfold flt; rw [if_pos hl]
        unfold wrg; rw [e2]; simp
      rw [e]
      exact (outs_long m v inn ai ci long w hm hx hl hb60).mono fun e w' ⟨h1, h2⟩ => ⟨none, 0, 0, 2, h1, h2, .inl ⟨by decide, rfl, rfl⟩⟩
    · have e2 : flt inn = if allS inn then 0 else 3 := by unfold flt; rw [if_neg hl]
      by_cases hw : 0 ≤ long ∧ long ≤ 8
      · obtain ⟨L, rfl⟩ : ∃ L : Nat, long = (L : Int) := ⟨long.toNat, by omega⟩
        have hwb : CkP.wb (L : Int) 0 8 = true := by unfold CkP.wb; exact decide_eq_true hw
        have e3 : wrg 0 (flt inn) (L : Int) = if allS inn then 0 else 3 := by
          unfold wrg
          rw [e2, if_neg (by simp), if_neg]
          intro h
          rcases h with h | h | h
          · split at h <;> omega
          · omega
          · omega
        rw [e3]
        cases hs : allS inn with
        | false => exact (outs_sym m v inn ai ci (L : Int) w hm hx hl hwb hi hs).mono fun e w' ⟨h1, h2⟩ => ⟨none, 0, 0, 3, h1, h2, .inl ⟨by decide, rfl, rfl⟩⟩
        | true =>
          obtain ⟨S, hS⟩ := sml_of hx hf
          exact (outs_ok m v inn ai ci L S w hm hx hl (by omega) hi hs hS hTab h00).mono fun e w' h => by
            obtain ⟨a, n, c, er, he, hp⟩ := h.parts
            exact ⟨a, n, c, er, he, hp.1, .inr ⟨rfl, S, L, rfl, by omega, hS, hp⟩⟩
      · have hwb : CkP.wb long 0 8 = false := by unfold CkP.wb; exact decide_eq_false hw
        have e3 : wrg 0 (flt inn) long = 2 := by
          unfold wrg
          rw [if_neg (by simp), if_pos (.inr (by omega))]
        rw [e3]
        exact (outs_far m v inn ai ci long w hm hx hl hwb).mono fun e w' ⟨h1, h2⟩ => ⟨none, 0, 0, 2, h1, h2, .inl ⟨by decide, rfl, rfl⟩⟩
  · have e : wrg x (flt inn) long = x := by unfold wrg; rw [if_pos h0]
    rw [e]
    exact (outs_bad m v _ x long w hm hx h0).mono fun e w' ⟨h1, h2⟩ => ⟨none, 0, 0, x, h1, h2, .inl ⟨h0, rfl, rfl⟩⟩
/-- what the law asks of the list that is told -/
structure Ans (m : M) (inn : List Int) (S L : Nat) (w3 w4 : World) (a : Option Addr) (n c : Nat) (er : Int) (told : List (List Int)) (vals : List Value) : Prop where
  row : w4.ownsRow w3.heap.size 26 1 (.slice a n c) n vals
  tls : Tls w4 vals told
  len : told.length = n
  few : n ≤ 500
  err : er = 0 ∨ er = 7
  ord : told.Pairwise Sx
  mem : ∀ t ∈ told, t.length ≤ L ∧ An (Eg S inn m.arcs) (fn S inn m.fins) t
  out : (er = 0 ∧ n = (alls (Eg S inn m.arcs) (fn S inn m.fins) (usd m.arcs) (L + 1)).length ∧ n ≤ 500) ∨ (er = 7 ∧ n = 0 ∧ 500 < (alls (Eg S inn m.arcs) (fn S inn m.fins) (usd m.arcs) (L + 1)).length)
theorem ans_of {m : M} {inn : List Int} {S L : Nat} {w3 w4 : World} {a : Option Addr} {n c : Nat} {er : Int} (hS : Sml m S) (h : TeP (Eg S inn m.arcs) (fn S inn m.fins) L w3 (.slice a n c) er w4) : ∃ told vals, Ans m inn S L w3 w4 a n c er told vals := by
  have h0 : ∀ a ∈ m.arcs, 0 ≤ a.2.2.2.1 := fun a ha => (hS.rgt.arc a ha).2.2.2.1
  obtain ⟨_, ⟨rfl, told, vals, h1, h2, h3⟩ | ⟨rfl, hv, h3⟩⟩ := h
  · have hn : told.length = n := by
      obtain ⟨a', c', e⟩ := oslice h1
      rw [Value.slice.injEq] at e
      exact e.2.1.symm
    have hc := count_fit h0 h3
    rcases h3 with ⟨_, ho, hl, hm⟩ | ⟨hb, _⟩
    · refine ⟨told, vals, hn ▸ h1, h2, hn, by omega, .inl rfl, ho, fun t ht => (hm t).1 ht, ?_⟩
      rcases hc with ⟨_, h4, h5⟩ | ⟨h4, _⟩
      · exact .inl ⟨rfl, by omega, by omega⟩
      · cases h4
    · cases hb
  · rw [Value.slice.injEq] at hv
    obtain ⟨rfl, rfl, rfl⟩ := hv
    refine ⟨[], [], World.ownsRow_nil _ _ _ _, Tls.nil _, rfl, by omega, .inr rfl, List.Pairwise.nil, fun t ht => (by cases ht), ?_⟩
    rcases count_fit h0 h3 with ⟨h4, _⟩ | ⟨_, _, h5⟩
    · cases h4
    · exact .inr ⟨rfl, rfl, h5⟩
/-- an answer is a text of symbols -/
theorem an_flt {m : M} {inn t : List Int} {S L : Nat} (hS : Sml m S) (hL : L ≤ 8) (hl : t.length ≤ L) (h : An (Eg S inn m.arcs) (fn S inn m.fins) t) : flt t = 0 := by
  have h0 : ∀ a ∈ m.arcs, 0 ≤ a.2.2.2.1 := fun a ha => (hS.rgt.arc a ha).2.2.2.1
  obtain ⟨v, _, n, hw⟩ := h
  have hu := wl_usd h0 hw
  have ha : allS t = true := by
    unfold allS
    rw [List.all_eq_true]
    intro c hc
    obtain ⟨h1, a, ha, h2⟩ := (usd_mem _ c).1 (hu c hc)
    have := hS.out a ha
    unfold okS
    exact decide_eq_true (by omega)
  unfold flt
  rw [if_neg (by omega), ha]
  rfl
end Go.Proofs.YtfjocafepigijaaDoor.Ot
/- MachineOuts: at a small machine the law returns true. Condition: the library's table lies as its text lays it. -/
namespace Go.Proofs.YtfjocafepigijaaDoor.Ot
open Go.RowKit Mv Sy Po Ps Cm Pa Am Wd St Ra Set

structure After (w : World) where
  W : World
  h : Below w.heap.size w W
theorem wp_region_after {P : Program} {id : Nat} {Q : Exit → Act → World → Prop} {a : Act} {w : World} {l : List Oper} (hm : P.follows .mixedOrders = true) (hB : Region.lexB .any l.toArray = true)
    (h : wpQuiet P l.toArray (fun w' => ∃ p : After w, w' = p.W) (fun a' => ∀ w', (∃ p : After w, w' = p.W) → Q .normal a' w') l a) : (Code.region id l.toArray true).wp P Q a w :=
  wp_region_quiet (C := fun w' => ∃ p : After w, w' = p.W) hm hB ⟨⟨w.drew, (Below.refl _ _).drew⟩, rfl⟩ (by simpa using h)
theorem after_of {P : Program} {f : FuncId} {args : Array Value} {w : World} {p : After w} {v : Value}
    (h : Calls P f args p.W fun e w' => e = .returned v ∧ Below p.W.heap.size p.W w') : Calls P f args p.W fun e w'' => e = .returned v ∧ ∃ p' : After w, w'' = p'.W :=
  h.mono fun _ w' ⟨he, hb⟩ => ⟨he, ⟨w', p.h.trans (hb.mono p.h.size)⟩, rfl⟩
set_option maxHeartbeats 8000000 in
set_option maxRecDepth 100000 in
theorem outs_main (m : M) (v : Value) (inn : List Int) (ai : Option Addr) (ci : Nat) (long : Int) (w : World) (hm : IsM w v m) (hI : IsI w (.slice ai inn.length ci) inn) (hf : fewB m = true) (hT : TabAt 0 Lib.deBruijn64tab w) (hw0 : 0 < w.heap.size) :
    Calls Tryd.prog 3 #[v, .slice ai inn.length ci, .int .i64 long] w fun e w' => e = .returned (.bool true) ∧ Below w.heap.size w w' := by
  obtain ⟨x0, hx0⟩ := Rz.checkP_ex m
  obtain ⟨f0, hf0⟩ : ∃ f, flt inn = f := ⟨_, rfl⟩
  obtain ⟨z, hz⟩ : ∃ z, wrg x0 (flt inn) long = z := ⟨_, rfl⟩
  have C7 : Hid (∀ W, Calls Tryd.prog 7 #[] W fun e W' => e = .returned (.bool true) ∧ Below W.heap.size W W') := fun W => Mb.begun_any Nx.field_any W
  have C8 : Hid (∀ W, Below w.heap.size w W → Calls Tryd.prog 8 #[v] W fun e W' => e = .returned (.bool true) ∧ Below W.heap.size W W') := fun W hW => by have := few_any m v W (hm.below hW); rwa [hf] at this
  have C9 : Hid (∀ W, Below w.heap.size w W → Calls Tryd.prog 9 #[v, .slice ai inn.length ci, .int .i64 long] W fun e w' => ∃ (a : Option Addr) (n c : Nat) (er : Int), e = .returned (.tuple #[.slice a n c, .int .i64 er]) ∧ Below W.heap.size W w' ∧ Oq m inn long z W a n c er w') := fun W hW => by rw [← hz]; exact outs_all m v x0 inn ai ci long W (hm.below hW) hx0 hf (hI.below hW) (Tz.tab_below hT hw0 hW) (Nat.lt_of_lt_of_le hw0 hW.size)
  have C10 : Hid (∀ W, Below w.heap.size w W → Calls Tryd.prog 10 #[v] W fun e W' => e = .returned (.int .i64 x0) ∧ Below W.heap.size W W') := fun W hW => (CkR.check_any m v W (hm.below hW)).mono (fun e W' ⟨⟨x, h1, h2⟩, h3⟩ => ⟨by rw [h1, checkP_one h2 hx0], h3⟩)
  have C11 : Hid (∀ W, Below w.heap.size w W → Calls Tryd.prog 11 #[.slice ai inn.length ci] W fun e W' => e = .returned (.int .i64 f0) ∧ Below W.heap.size W W') := fun W hW => by rw [← hf0]; exact flt_any inn _ W (hI.below hW)
  have HZ : Hid (wrg x0 f0 long = z) := by rw [← hf0]; exact hz
  have HMI : Hid (IsM w v m ∧ IsI w (.slice ai inn.length ci) inn ∧ checkP m x0 ∧ flt inn = f0) := ⟨hm, hI, hx0, hf0⟩
  obtain ⟨a1, a2, rfl, ⟨_, aa, ca, rfl, _, _⟩, ⟨_, af, cf, rfl, _, _⟩⟩ := hm
  clear hx0 hf0 hz hI hf hT hw0
  go_enter Tryd.func3, Tryd.ntmps3
  go_upto_region 1 with fail
  have QB : Hid (∀ W, Below (w.alloc (.cells #[.int .i64 m.st, .slice aa m.arcs.length ca, .slice af m.fins.length cf] 25)).heap.size (w.alloc (.cells #[.int .i64 m.st, .slice aa m.arcs.length ca, .slice af m.fins.length cf] 25)) W → Below w.heap.size w W ∧ W.cell? ⟨w.heap.size, 0, none⟩ = some (.int .i64 m.st) ∧ W.cell? ⟨w.heap.size, 1, none⟩ = some (.slice aa m.arcs.length ca) ∧ W.cell? ⟨w.heap.size, 2, none⟩ = some (.slice af m.fins.length cf)) := fun W h => ⟨((Below.refl _ w).alloc (Nat.le_refl _) _).trans (h.mono (by simp)), Mc.box3 h⟩
  generalize hV : w.alloc (.cells #[.int .i64 m.st, .slice aa m.arcs.length ca, .slice af m.fins.length cf] 25) = V at *
  obtain ⟨bx, hbx⟩ : ∃ bx, w.heap.size = bx := ⟨_, rfl⟩
  have HBX : Hid (w.heap.size = bx) := hbx
  have QB : Hid (∀ W, Below V.heap.size V W → Below w.heap.size w W ∧ W.cell? ⟨bx, 0, none⟩ = some (.int .i64 m.st) ∧ W.cell? ⟨bx, 1, none⟩ = some (.slice aa m.arcs.length ca) ∧ W.cell? ⟨bx, 2, none⟩ = some (.slice af m.fins.length cf)) := by rw [← hbx]; exact QB.out
  rw [hbx]
  clear hV hbx
  go_upto_region 8 with (first
    | (go_at_call 7; (with_reducible refine (C7.out _).mono ?_); rintro e w1 ⟨rfl, hb1⟩; have q1 := QB.out _ hb1; obtain ⟨hw1, q10, q11, q12⟩ := q1)
    | (go_at_call 8; (with_reducible refine (C8.out _ hw1).mono ?_); rintro e w2 ⟨rfl, hb2⟩; have hb2' := hb1.trans (hb2.mono hb1.size); have q2 := QB.out _ hb2'; obtain ⟨hw2, q20, q21, q22⟩ := q2)
    | (go_at_call 9; (with_reducible refine (C9.out _ hw2).mono ?_); rintro e w3 ⟨la, ln, lc, er, rfl, hb3, ho3⟩; have HO : Hid (Oq m inn long z w2 la ln lc er w3) := ho3; have hb3' := hb2'.trans (hb3.mono hb2'.size); have q3 := QB.out _ hb3'; obtain ⟨hw3, q30, q31, q32⟩ := q3; clear ho3)
    | (go_at_call 10; (with_reducible refine (C10.out _ hw3).mono ?_); rintro e w4 ⟨rfl, hb4⟩; have hb4' := hb3'.trans (hb4.mono hb3'.size); have q4 := QB.out _ hb4'; obtain ⟨hw4, q40, q41, q42⟩ := q4)
    | (go_at_call 11; (with_reducible refine (C11.out _ hw4).mono ?_); rintro e w5 ⟨rfl, hb5⟩; have HB5 : Hid (Below w3.heap.size w3 w5 ∧ Below V.heap.size V w5 ∧ Below w.heap.size w w2) := ⟨hb4.trans (hb5.mono hb4.size), hb4'.trans (hb5.mono hb4'.size), hw2⟩))
  clear hb1 hw1 q10 q11 q12 hb2 hb2' hw2 q20 q21 q22 hb3 hb3' hw3 q30 q31 q32 hb4 hb4' hw4 q40 q41 q42 hb5 C7 C8 C9 C10 C11
  have HEND : Hid (Below w.heap.size w w5) := (QB.out _ HB5.out.2.1).1
  by_cases hzz : z = 0
  · subst hzz
    obtain ⟨S, L, hLl, hL8, hS, htep⟩ : ∃ S L : Nat, long = (L : Int) ∧ L ≤ 8 ∧ Sml m S ∧ TeP (Eg S inn m.arcs) (fn S inn m.fins) L w2 (.slice la ln lc) er w3 := by
      rcases HO.out with ⟨h1, _⟩ | ⟨_, h⟩
      · exact absurd rfl h1
      · exact h
    subst hLl
    have hx00 : x0 = 0 := by
      have h := HZ.out
      unfold wrg at h
      split at h
      · exact h
      · rename_i h1; exact Classical.not_not.1 h1
    subst hx00
    have hf00 : f0 = 0 := by
      have h := HZ.out
      unfold wrg at h
      rw [if_neg (by simp)] at h
      split at h
      · omega
      · exact h
    subst hf00
    obtain ⟨told, vals, hans⟩ := ans_of hS htep
    have HA : Hid (Ans m inn S L w2 w3 la ln lc er told vals) := hans
    have HSL : Hid (Sml m S ∧ L ≤ 8) := ⟨hS, hL8⟩
    have hln : ln ≤ 500 := hans.few
    have hlni : ¬ (500 : Int) < (ln : Int) := by omega
    have hl1 : ¬ (L : Int) < 0 := by omega
    have hl2 : ¬ (8 : Int) < (L : Int) := by omega
    have HER : Hid (er = 0 ∨ er = 7) := hans.err
    clear hans htep hS hL8 HO
    go_upto_region 14 with fail
    go_cut [67] from 57 to 66 (fun s wx => s = .bool false ∧ Below w5.heap.size w5 wx)
    case first =>
      rcases HER.out with h | h
      · subst h
        go_wp2
        repeat (go_quiet (fail); go_wp2)
        go_meet
        exact ⟨rfl, by first | exact Below.refl _ _ | exact below_drewN (Below.refl _ _) _⟩
      · subst h
        go_wp2
        repeat (go_quiet (fail); go_wp2)
        go_meet
        exact ⟨rfl, by first | exact Below.refl _ _ | exact below_drewN (Below.refl _ _) _⟩
    case rest =>
    obtain ⟨rfl, hbc⟩ := hcut
    have HBC : Hid (Below w5.heap.size w5 wc) := hbc
    clear hbc
    go_upto_region 17 with fail
    go_loopw [11] (fun a wr => ∃ y : Nat, a = .int .i64 (y : Int) ∧ y ≤ ln ∧ Below w5.heap.size w5 wr) (fun a _ => ln - (intOf a).toNat)
    case atStart => exact ⟨0, rfl, Nat.zero_le _, HBC.out⟩
    case round =>
      obtain ⟨y, rfl, hy, hbw⟩ := hrel
      have HBW : Hid (Below w5.heap.size w5 wr) := hbw
      have HW3 : Hid (Below w3.heap.size w3 wr) := HB5.out.1.trans (hbw.mono HB5.out.1.size)
      have HVW : Hid (Below V.heap.size V wr) := HB5.out.2.1.trans (hbw.mono HB5.out.2.1.size)
      clear hbw
      by_cases hlt : y < ln
      · have hyt : y < told.length := by rw [HA.out.len]; exact hlt
        obtain ⟨t, htE⟩ : ∃ t, told[y]? = some t := ⟨_, List.getElem?_eq_getElem hyt⟩
        obtain ⟨tv, htv⟩ : ∃ tv, vals[y]? = some tv := ⟨_, List.getElem?_eq_getElem (by rw [HA.out.tls.1]; exact hyt)⟩
        obtain ⟨t2, h1, htx⟩ := HA.out.tls.2 y tv htv
        rw [htE] at h1
        cases h1
        obtain ⟨lb, lcc, hle, _, _⟩ := own_some HA.out.row (by omega)
        rw [Value.slice.injEq] at hle
        obtain ⟨ha1, _, ha2⟩ := hle
        subst ha1 ha2
        obtain ⟨hmt, han⟩ := HA.out.mem t (List.mem_of_getElem? htE)
        have htf := an_flt HSL.out.1 HSL.out.2 hmt han
        obtain ⟨at1, ct1, htvE, _⟩ := (id htx : Tx w3 tv t)
        subst htvE
        have HTX : Hid (Tx wr (.slice at1 t.length ct1) t) := htx.below HW3.out
        have ht8 : t.length ≤ 8 := Nat.le_trans hmt HSL.out.2
        have ROW : Hid (∀ (W : World) (k : Nat) (u : Value), Below wr.heap.size wr W → vals[k]? = some u → k < ln → W.cell? ⟨lb, k, none⟩ = some u) := fun W k u hW hu hk => by
          have hb : Below w3.heap.size w3 W := HW3.out.trans (hW.mono HW3.out.size)
          exact (hb.cell (p := ⟨lb, k, none⟩) (HA.out.row.lt _ rfl).2).trans ((HA.out.row.cellAt k (by omega)).trans hu)
        have hWw : Below w.heap.size w wr := (QB.out _ HVW.out).1
        have hIM : IsM wr (.agg #[.int .i64 m.st, .slice aa m.arcs.length ca, .slice af m.fins.length cf]) m := HMI.out.1.below hWw
        have hII : IsI wr (.slice ai inn.length ci) inn := HMI.out.2.1.below hWw
        have hIT : IsI wr (.slice at1 t.length ct1) t := HTX.out.row (by omega)
        have hin : inn.length ≤ 60 := by
          have h := HMI.out.2.2.2
          unfold flt at h
          split at h
          · omega
          · omega
        obtain ⟨c, hcI, hcB⟩ := Mc.cost_ex m inn t _ _ _ wr hIM hII hIT HMI.out.2.2.1 (by omega) (by omega)
        have hclt := (cost_an HSL.out.1.rgt HSL.out.1.fin hcI).2 han
        have HCN : Hid (((c : Int) == 1152921504606846976) = false) := by
          show _ = false
          rw [CR.dear_int]
          have : ¬ (c : Int) = ((Wk.dear : Nat) : Int) := by omega
          simpa using this
        have K12 : Hid (∀ W, Below wr.heap.size wr W → Calls Tryd.prog 12 #[(.agg #[.int .i64 m.st, .slice aa m.arcs.length ca, .slice af m.fins.length cf]), (.slice ai inn.length ci), .slice at1 t.length ct1, .bool true] W fun e W' => e = .returned (.int .i64 (c : Int)) ∧ Below W.heap.size W W') := fun W hW => (Mc.cost_of2 m inn t _ _ _ W (hIM.below hW) (hII.below hW) (hIT.below hW) HMI.out.2.2.1 (by omega) (by omega)).mono (fun e W' ⟨d, h1, h2, h3⟩ => ⟨by rw [h1, h2.1.one hcI], h3⟩)
        have K11 : Hid (∀ W, Below wr.heap.size wr W → Calls Tryd.prog 11 #[.slice at1 t.length ct1] W fun e W' => e = .returned (.int .i64 0) ∧ Below W.heap.size W W') := fun W hW => by have := flt_any t _ W (hIT.below hW); rwa [htf] at this
        have htl : ¬ (L : Int) < (t.length : Int) := by omega
        have HTE : Hid (told[y]? = some t ∧ vals[y]? = some (.slice at1 t.length ct1)) := ⟨htE, htv⟩
        clear hyt htE htv htx hWw hIM hII hIT hin hcI hcB hclt han htf hmt
        go_upto_region 19 with fail
        go_cut [98] from 74 to 97 (fun s wx => s = .bool false ∧ Below wr.heap.size wr wx)
        case first =>
          have hcn := HCN.out
          have r0 := fun p : After wr => (QB.out _ (HVW.out.trans (p.h.mono HVW.out.size))).2.1
          have r1 := fun p : After wr => (QB.out _ (HVW.out.trans (p.h.mono HVW.out.size))).2.2.1
          have r2 := fun p : After wr => (QB.out _ (HVW.out.trans (p.h.mono HVW.out.size))).2.2.2
          have l0 := fun p : After wr => ROW.out p.W y _ p.h HTE.out.2 hlt
          have k11 := fun p : After wr => K11.out p.W p.h
          have k12 := fun p : After wr => K12.out p.W p.h
          haveI : Inhabited (After wr) := ⟨⟨_, Below.refl _ _⟩⟩
          refine wp_region_after (by kernel_rfl) (by kernel_rfl) ?_
          repeat (go_big_quiet_step (first | (go_at_call 11; (with_reducible refine after_of (k11 _))) | (go_at_call 12; (with_reducible refine after_of (k12 _)))))
          refine wpQuiet_nil ?_
          intro W hw'
          obtain ⟨⟨w13, h13⟩, rfl⟩ := hw'
          go_wp2_with fail
          go_meet
          exact ⟨rfl, h13⟩
        case rest =>
        obtain ⟨rfl, hbc⟩ := hcut
        obtain ⟨V2, hV2⟩ : ∃ V2, wc = V2 := ⟨_, rfl⟩
        rw [hV2] at hbc ⊢
        have HV2 : Hid (Below wr.heap.size wr V2) := hbc
        clear hV2 hbc K11 K12 HCN
        go_upto_region 21 with fail
        go_cut [141] from 99 to 140 (fun s wx => s = .bool false ∧ Below V2.heap.size V2 wx)
        case first =>
          have l0 := fun p : After V2 => ROW.out p.W y _ (HV2.out.trans (p.h.mono HV2.out.size)) HTE.out.2 hlt
          haveI : Inhabited (After V2) := ⟨⟨_, Below.refl _ _⟩⟩
          by_cases hy0 : y = 0
          · subst hy0
            refine wp_region_after (by kernel_rfl) (by kernel_rfl) ?_
            repeat (go_big_quiet_step (fail))
            refine wpQuiet_nil ?_
            intro W hw'
            obtain ⟨⟨w13, h13⟩, rfl⟩ := hw'
            go_wp2_with fail
            go_meet
            exact ⟨rfl, h13⟩
          · obtain ⟨y1, hy1⟩ : ∃ y1, y = y1 + 1 := ⟨y - 1, by omega⟩
            have hy1l : y1 < told.length := by rw [HA.out.len]; omega
            obtain ⟨tp, htp⟩ : ∃ tp, told[y1]? = some tp := ⟨_, List.getElem?_eq_getElem hy1l⟩
            obtain ⟨tv, htv⟩ : ∃ tv, vals[y1]? = some tv := ⟨_, List.getElem?_eq_getElem (by rw [HA.out.tls.1]; exact hy1l)⟩
            obtain ⟨t2, h1, htx⟩ := HA.out.tls.2 y1 tv htv
            rw [htp] at h1
            cases h1
            obtain ⟨at2, ct2, htvE, _⟩ := (id htx : Tx w3 tv tp)
            subst htvE
            have hyt : y < told.length := by rw [HA.out.len]; exact hlt
            have hord : Sx tp t := by
              have h := List.pairwise_iff_getElem.1 HA.out.ord y1 y hy1l hyt (by omega)
              rw [(List.getElem?_eq_some_iff.1 htp).2, (List.getElem?_eq_some_iff.1 HTE.out.1).2] at h
              exact h
            have hlp : tp.length ≤ 8 := Nat.le_trans (HA.out.mem tp (List.mem_of_getElem? htp)).1 HSL.out.2
            have l1 := fun p : After V2 => ROW.out p.W y1 _ (HV2.out.trans (p.h.mono HV2.out.size)) htv (by omega)
            have hW3V : Below w3.heap.size w3 V2 := HW3.out.trans (HV2.out.mono HW3.out.size)
            have htpV : Tx V2 (.slice at2 tp.length ct2) tp := htx.below hW3V
            have httV : Tx V2 (.slice at1 t.length ct1) t := HTX.out.below HV2.out
            have k13 := fun p : After V2 => less_any tp t _ _ p.W ((htpV.row (by omega)).below p.h) ((httV.row (by omega)).below p.h) (by omega)
            have hw1 : IntKind.i64.wrap ((y : Int) - 1) = (y1 : Int) := by rw [IntKind.wrap_i64]; omega
            have hw2 : (y : Int) - 1 = (y1 : Int) := by omega
            have hyp : 0 < y := by omega
            have hy1n : y1 < ln := by omega
            rcases hord with hlt2 | ⟨heq, hlt2⟩
            · have c1 : ¬ t.length < tp.length := by omega
              have c2 : ((tp.length : Int) == (t.length : Int)) = false := by have h : ¬ (tp.length : Int) = (t.length : Int) := (by omega); simpa using h
              have c3 : (tp.length == t.length) = false := by have h : ¬ tp.length = t.length := (by omega); simpa using h
              clear k13 hy1 hy1l htp htv htx hyt hW3V htpV httV
              refine wp_region_after (by kernel_rfl) (by kernel_rfl) ?_
              repeat (go_big_quiet_step (fail))
              refine wpQuiet_nil ?_
              intro W hw'
              obtain ⟨⟨w13, h13⟩, rfl⟩ := hw'
              go_wp2_with fail
              go_meet
              exact ⟨rfl, h13⟩
            · rw [hlt2] at k13
              rw [heq] at k13 l1
              clear hy1 hy1l htp htv htx hyt hW3V htpV httV heq hlt2 hlp
              refine wp_region_after (by kernel_rfl) (by kernel_rfl) ?_
              repeat (go_big_quiet_step (first | (go_at_call 13; (with_reducible refine after_of (k13 _))) | fail))
              refine wpQuiet_nil ?_
              intro W hw'
              obtain ⟨⟨w13, h13⟩, rfl⟩ := hw'
              go_wp2_with fail
              go_meet
              exact ⟨rfl, h13⟩
        case rest =>
        obtain ⟨rfl, hbc⟩ := hcut
        have HE : Hid (Below w5.heap.size w5 wc) := HBW.out.trans ((HV2.out.trans (hbc.mono HV2.out.size)).mono HBW.out.size)
        clear hbc
        go_wp2
        go_roundw
        case rel => exact ⟨y + 1, by go_num, hlt, HE.out⟩
        case measure => simp [intOf]; omega
      · obtain rfl : y = ln := by omega
        have hWw : Below w.heap.size w wr := (QB.out _ HVW.out).1
        have hin : inn.length ≤ 60 := by
          have h := HMI.out.2.2.2
          unfold flt at h
          split at h
          · omega
          · omega
        have K14 := told_any m (.agg #[.int .i64 m.st, .slice aa m.arcs.length ca, .slice af m.fins.length cf]) inn ai la ci L S y lc er wr (HMI.out.1.below hWw) (HMI.out.2.1.below hWw) HSL.out.1 HMI.out.2.2.1 hin HSL.out.2 HA.out.out
        obtain ⟨r0, r1, r2⟩ := (QB.out _ HVW.out).2
        have HWW : Hid (Below w.heap.size w wr) := hWw
        clear hWw hin
        go_wp2_with (go_at_call 14; (with_reducible refine K14.mono ?_); clear K14; rintro e w9 ⟨rfl, hb9⟩; have HB9 : Hid (Below w.heap.size w w9) := HWW.out.trans (hb9.mono HWW.out.size); clear hb9)
        go_ret
        exact ⟨rfl, HB9.out⟩
  · obtain ⟨rfl, rfl⟩ : er = z ∧ ln = 0 := by
      rcases HO.out with ⟨_, h1, h2⟩ | ⟨h1, _⟩
      · exact ⟨h1, h2⟩
      · exact absurd h1 hzz
    have hzn : (er != 0) = true := by simpa using hzz
    have hee : (er == er) = true := by simp
    have hz0 : Hid (¬ er = 0) := hzz
    clear hzz HO
    by_cases h0 : x0 = 0
    · subst h0
      by_cases h2 : f0 = 2
      · subst h2
        have e : er = 2 := by rw [← HZ.out]; unfold wrg; simp
        subst e
        clear hzn hee
        go_wp2
        repeat (go_quiet (fail); go_wp2)
        go_ret
        exact ⟨rfl, by first | exact HEND.out | exact below_drewN HEND.out _⟩
      · have hf2 : (f0 == 2) = false := by simpa using h2
        by_cases h3 : long < 0
        · have e : er = 2 := by rw [← HZ.out]; unfold wrg; rw [if_neg (by simp), if_pos (.inr (.inl h3))]
          subst e
          clear hzn hee h2
          go_wp2
          repeat (go_quiet (fail); go_wp2)
          go_ret
          exact ⟨rfl, by first | exact HEND.out | exact below_drewN HEND.out _⟩
        · by_cases h4 : 8 < long
          · have e : er = 2 := by rw [← HZ.out]; unfold wrg; rw [if_neg (by simp), if_pos (.inr (.inr h4))]
            subst e
            clear hzn hee h2
            go_wp2
            repeat (go_quiet (fail); go_wp2)
            go_ret
            exact ⟨rfl, by first | exact HEND.out | exact below_drewN HEND.out _⟩
          · have e : er = f0 := by rw [← HZ.out]; unfold wrg; rw [if_neg (by simp), if_neg (by omega)]
            subst e
            clear h2
            go_wp2
            repeat (go_quiet (fail); go_wp2)
            go_ret
            exact ⟨rfl, by first | exact HEND.out | exact below_drewN HEND.out _⟩
    · have hx : (x0 == 0) = false := by simpa using h0
      have e : er = x0 := by rw [← HZ.out]; unfold wrg; rw [if_pos h0]
      subst e
      clear h0
      go_wp2
      repeat (go_quiet (fail); go_wp2)
      go_ret
      exact ⟨rfl, by first | exact HEND.out | exact below_drewN HEND.out _⟩
end Go.Proofs.YtfjocafepigijaaDoor.Ot
