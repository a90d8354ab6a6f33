/- A box with a machine is written over: rows of numbers stay as they lie. No conditions. -/
import Derived.Test.YtfjocafepigijaaDoorBaM
import Derived.Test.YtfjocafepigijaaDoorFb
import Derived.Test.YtfjocafepigijaaDoorMbM
import Derived.Test.YtfjocafepigijaaDoorRbM
import Derived.Test.YtfjocafepigijaaDoorTz
import Derived.Deep.QuietTactic
import Derived.BigQuiet
import Derived.Deep.Cut
import Derived.Test.YtfjocafepigijaaDoorCg
import Derived.Test.YtfjocafepigijaaDoorCj
import Derived.Deep.CutRange
namespace Go.Proofs.YtfjocafepigijaaDoor.Su
open Go.RowKit Mv Sy Po Ps Cm Ra Ot Pa

/-- SameMachine at any two machines -/
theorem same_gen {W : World} {v v' : Value} {M1 M2 : M} (h : IsM W v M1) (h' : IsM W v' M2) : Calls Tryd.prog 23 #[v, v'] W fun e W' => e = .returned (.bool (smB M1.st M2.st M1.arcs M2.arcs M1.fins M2.fins)) ∧ Below W.heap.size W W' := by
  obtain ⟨va, vf, rfl, hA, hF⟩ := h
  obtain ⟨va', vf', rfl, hA', hF'⟩ := h'
  have hA0 := hA
  have hF0 := hF
  have hA0' := hA'
  have hF0' := hF'
  obtain ⟨_, aa, ca, rfl, _, _⟩ := hA
  obtain ⟨_, af, cf, rfl, _, _⟩ := hF
  obtain ⟨_, aa', ca', rfl, _, _⟩ := hA'
  obtain ⟨_, af', cf', rfl, _, _⟩ := hF'
  exact same_m M1.st M2.st M1.arcs M2.arcs M1.fins M2.fins aa af aa' af' _ _ _ _ ca cf ca' cf' W rfl rfl rfl rfl hA0 hF0 hA0' hF0'
theorem same_yes9 {W : World} {v v' : Value} {M1 : M} (h : IsM W v M1) (h' : IsM W v' M1) : Calls Tryd.prog 23 #[v, v'] W fun e W' => e = .returned (.bool true) ∧ Below W.heap.size W W' := by
  have h1 := same_gen h h'
  rwa [show smB M1.st M1.st M1.arcs M1.arcs M1.fins M1.fins = true from decide_eq_true ⟨rfl, rfl, rfl⟩] at h1
end Go.Proofs.YtfjocafepigijaaDoor.Su
/- MachineSures: at two small machines the law returns true. Condition: the library's table lies as its text lays it. -/
namespace Go.Proofs.YtfjocafepigijaaDoor.Su
open Go.RowKit Mv Sy Po Ps Cm Ra Ot Pa

/-- two boxed machines -/
theorem box_two (w : World) (MA MB : Array Value) : ∃ V, (w.alloc (.cells MA 25)).alloc (.cells MB 25) = V ∧ ∀ W, Below V.heap.size V W → Below w.heap.size w W ∧ W.heap[w.heap.size]? = some (.cells MA 25 (0, 0)) ∧ W.heap[w.heap.size + 1]? = some (.cells MB 25 (0, 0)) := by
  have s1 : (w.alloc (.cells MA 25)).heap.size = w.heap.size + 1 := by simp
  have B1 := below_al w (.cells MA 25)
  refine ⟨_, rfl, fun W h => ?_⟩
  have B2 : Below w.heap.size w ((w.alloc (.cells MA 25)).alloc (.cells MB 25)) := B1.alloc B1.size _
  have x1 : ((w.alloc (.cells MA 25)).alloc (.cells MB 25)).heap[w.heap.size]? = some (.cells MA 25 (0, 0)) := by
    rw [heap_alloc_old _ _ (by rw [s1]; omega)]
    exact heap_alloc_new _ _
  have x2 : ((w.alloc (.cells MA 25)).alloc (.cells MB 25)).heap[w.heap.size + 1]? = some (.cells MB 25 (0, 0)) := by
    rw [← s1]
    exact heap_alloc_new _ _
  exact ⟨B2.trans (h.mono B2.size), (h.block _ (lt_at x1)).trans x1, (h.block _ (lt_at x2)).trans x2⟩
end Go.Proofs.YtfjocafepigijaaDoor.Su
/- MachineNerode in plain words: what Sure and Apart answer of two small machines, of the small machine and of one that is split. No program text; no conditions. -/
namespace Go.Proofs.YtfjocafepigijaaDoor.Su
open Go.RowKit Mv Sy Po Ps Cm Ra Ot Pa

theorem sv_ok {a X : M} (h : SvA a 0 X) : checkP a 0 ∧ plB a.arcs a.fins = true ∧ ∃ S n : Nat, a.st = (S : Int) ∧ 0 < S ∧ Done S a.arcs n ∧ IsSure (tbl S a.arcs a.fins n) X ∧ Led S a.arcs ∧ ∀ f ∈ a.fins, 0 ≤ f.1 := by
  rcases h with ⟨h1, h2, _⟩ | ⟨_, _, h2, _⟩ | ⟨h1, h2, S, hS, ⟨_, n, hn, hs⟩ | ⟨h3, _⟩⟩
  · exact absurd h2 h1
  · cases h2
  · obtain ⟨S', hS', hG, hf⟩ := gd_of h1
    obtain rfl : S = S' := by omega
    refine ⟨h1, h2, S, n, hS, hG.pos, hn, hs, ?_, fun f hf' => ?_⟩
    · rintro c u v ⟨x, hx, _, e2, _⟩
      obtain ⟨k, hk, rfl⟩ := List.getElem_of_mem hx
      have := hG.arc k hk
      unfold arcB at this
      have := of_decide_eq_true this
      omega
    · obtain ⟨k, hk, rfl⟩ := List.getElem_of_mem hf'
      have := hf k hk
      unfold finB at this
      exact (of_decide_eq_true this).1
  · cases h3
/-- the small machine -/
theorem nz_sure {a X : M} (h : SvA a 0 X) : ∃ S : Nat, Dm S X ∧ X.st = (S : Int) ∧ ∀ t, Tt t → (Rd X.arcs X.fins 0 t ↔ Rd a.arcs a.fins 0 t) := by
  obtain ⟨_, _, S, n, _, h0, hn, hs, hL, hF⟩ := sv_ok h
  obtain ⟨k, hD, _, hr⟩ := sure_dm (tbl_ok hn) (done_pos hn) hs
  exact ⟨k, hD, hD.st, fun t ht => (hr t ht).trans (tbl_rd hn hL hF h0 ht)⟩
theorem dm_pl {S : Nat} {m : M} (h : Dm S m) : plB m.arcs m.fins = true := by
  unfold plB
  rw [Bool.and_eq_true, List.all_eq_true, List.all_eq_true]
  refine ⟨fun x hx => ?_, fun f hf => ?_⟩
  · obtain ⟨f, t, c, rfl, _⟩ := h.arc x hx
    simp [plA]
  · obtain ⟨s, rfl, _⟩ := h.fin f hf
    rfl
/-- a machine that reads what a does has the same small one -/
theorem nz_same {a X m M' : M} {S : Nat} {x : Int} (h : SvA a 0 X) (hd : Dm S m) (hS : S ≤ 333) (hr : ∀ t, Tt t → (Rd m.arcs m.fins 0 t ↔ Rd a.arcs a.fins 0 t)) (hv : SvA m x M') : x = 0 ∧ M' = X := by
  obtain ⟨_, _, S1, n, _, h0, hn, hs, hL, hF⟩ := sv_ok h
  rcases hv with ⟨h1, _⟩ | ⟨_, h2, _⟩ | ⟨h1, h2, S2, hS2, h3⟩
  · exact absurd (hd.right hS) h1
  · rw [dm_pl hd] at h2; cases h2
  · have e : S2 = S := by have := hd.st; omega
    subst e
    obtain ⟨n', hn'⟩ := dm_done hd (by omega)
    rcases h3 with ⟨rfl, n2, hn2, hs2⟩ | ⟨_, _, hm⟩
    · refine ⟨rfl, sure_same ?_ hs2 hs⟩
      exact (tbl_lk2 hn2 hd.led hd.fin0 hd.pos hn hL hF h0).2 hr
    · exact absurd hm hn'.not_many
theorem ap_of {a b : M} {S U : Nat} {x : Int} {r : Option (List Nat)} (hS : a.st = (S : Int)) (hU : b.st = (U : Int)) (ha : checkP a 0) (hb : checkP b 0) (hp : plB a.arcs a.fins = true) (hp2 : plB b.arcs b.fins = true) {n m : Nat} (hn : Done S a.arcs n) (hm : Done U b.arcs m) (h : ApA a b x r) : x = 0 ∧ IsAp (tbl S a.arcs a.fins n) (tbl U b.arcs b.fins m) true r := by
  rcases h with ⟨xa, xb, h1, h2, h3, _⟩ | ⟨_, _, h3, _⟩ | ⟨_, _, _, S', U', hS', hU', h4⟩
  · rw [checkP_one h1 ha, checkP_one h2 hb] at h3; exact absurd rfl h3
  · rw [hp, hp2] at h3; cases h3
  · obtain rfl : S = S' := by omega
    obtain rfl : U = U' := by omega
    rcases h4 with ⟨_, _, h5 | h5⟩ | ⟨rfl, n', m', hn', hm', hr⟩
    · exact absurd h5 hn.not_many
    · exact absurd h5 hm.not_many
    · obtain rfl := hn.one hn'
      obtain rfl := hm.one hm'
      exact ⟨rfl, hr⟩
/-- Apart of two machines against their small ones -/
theorem nz_apart {a b X Y : M} {x : Int} {r : Option (List Nat)} (ha : SvA a 0 X) (hb : SvA b 0 Y) (h : ApA a b x r) : x = 0 ∧ (r.isSome = !smB X.st Y.st X.arcs Y.arcs X.fins Y.fins) ∧ ∀ t, r = some t → Tt t ∧ ¬ (Rd a.arcs a.fins 0 t ↔ Rd b.arcs b.fins 0 t) := by
  obtain ⟨a1, a2, S, n, hS, h0, hn, hs, hL, hF⟩ := sv_ok ha
  obtain ⟨b1, b2, U, m, hU, g0, hm, hu, hL2, hF2⟩ := sv_ok hb
  obtain ⟨rfl, hr⟩ := ap_of hS hU a1 b1 a2 b2 hn hm h
  obtain ⟨_, _, _, rx⟩ := nz_sure ha
  obtain ⟨_, _, _, ry⟩ := nz_sure hb
  refine ⟨rfl, ?_, ?_⟩
  · cases r with
    | none =>
      have e := sure_same (ap_none hr) hs hu
      subst e
      unfold smB
      simp
    | some t =>
      obtain ⟨ht, hne⟩ := ap_some hr
      have e : ¬ (X.st = Y.st ∧ X.arcs = Y.arcs ∧ X.fins = Y.fins) := fun ⟨e1, e2, e3⟩ => by
        refine hne (Bool.eq_iff_iff.2 ?_)
        rw [tbl_rd hn hL hF h0 ht, tbl_rd hm hL2 hF2 g0 ht, ← rx t ht, ← ry t ht, e2, e3]
      unfold smB
      rw [decide_eq_false e]
      rfl
  · rintro t rfl
    obtain ⟨ht, hne⟩ := ap_some hr
    refine ⟨ht, fun e => hne (Bool.eq_iff_iff.2 ?_)⟩
    rw [tbl_rd hn hL hF h0 ht, tbl_rd hm hL2 hF2 g0 ht, e]
/-- Apart of a machine and its small one -/
theorem nz_none {a X : M} {x : Int} {r : Option (List Nat)} (ha : SvA a 0 X) (hX : X.st ≤ 300) (h : ApA a X x r) : x = 0 ∧ r = none := by
  obtain ⟨a1, a2, S, n, hS, h0, hn, hs, hL, hF⟩ := sv_ok ha
  obtain ⟨U, hD, hU, hr⟩ := nz_sure ha
  obtain ⟨m, hm⟩ := dm_done hD (by omega)
  obtain ⟨rfl, hap⟩ := ap_of hS hU a1 (hD.right (by omega)) a2 (dm_pl hD) hn hm h
  exact ⟨rfl, ap_lk hap ((tbl_lk2 hn hL hF h0 hm hD.led hD.fin0 hD.pos).2 fun t ht => (hr t ht).symm)⟩
/-- split twice -/
theorem nz_split {a X : M} (ha : SvA a 0 X) (hX : X.st ≤ 300) (k l : Nat) : (∃ S : Nat, Dm S (spl X k) ∧ S ≤ 301) ∧ ∃ S : Nat, Dm S (spl (spl X k) l) ∧ S ≤ 302 ∧ ∀ t, Tt t → (Rd (spl (spl X k) l).arcs (spl (spl X k) l).fins 0 t ↔ Rd a.arcs a.fins 0 t) := by
  obtain ⟨U, hD, hU, hr⟩ := nz_sure ha
  obtain ⟨S1, h1, h2, h3⟩ := spl_dm hD k
  obtain ⟨S2, h4, h5, h6⟩ := spl_dm h1 l
  exact ⟨⟨S1, h1, by omega⟩, S2, h4, by omega, fun t ht => (h6 t).trans ((h3 t).trans (hr t ht))⟩
/-- Cost of both machines at a text that tells them apart -/
theorem nz_cost {a b : M} {t : List Nat} (ha : checkP a 0) (hb : checkP b 0) (hp : plB a.arcs a.fins = true) (hp2 : plB b.arcs b.fins = true) (ht : Tt t) (hl : t.length ≤ 60) (hne : ¬ (Rd a.arcs a.fins 0 t ↔ Rd b.arcs b.fins 0 t)) {c d e f : Int} {p q : Bool} (h : Rz.Res a (nt9 t) (nt9 t) c p e) (h' : Rz.Res b (nt9 t) (nt9 t) d q f) : e = 0 ∧ f = 0 ∧ q = !p := by
  obtain ⟨rfl, h1⟩ := cost_rd ha hp ht hl h
  obtain ⟨rfl, h2⟩ := cost_rd hb hp2 ht hl h'
  refine ⟨rfl, rfl, ?_⟩
  cases p <;> cases q <;> first | rfl | (refine absurd ?_ hne; constructor <;> intro h9 <;> first | exact h2.1 rfl | exact h1.1 rfl | (have := h1.2 h9; cases this) | (have := h2.2 h9; cases this))
/-- Sure at any machine of at most 400 states -/
theorem sure_big (m : M) (v : Value) (w : World) (hm : IsM w v m) (hfew : m.st ≤ 400) (hTab : TabAt 0 Lib.deBruijn64tab w) (h00 : 0 < w.heap.size) : Calls Tryd.prog 20 #[v] w (SvQ m w) := by
  obtain ⟨va, vf, rfl, hA, hF⟩ := hm
  have hA0 := hA
  have hF0 := hF
  obtain ⟨_, aa, ca, rfl, _, _⟩ := hA
  obtain ⟨_, af, cf, rfl, _, _⟩ := hF
  by_cases hx : checkP m 0
  · cases hp : plB m.arcs m.fins with
    | false =>
      refine (sure_un m.st m.arcs m.fins aa af ca cf w hA0 hF0 hx hp).mono fun e w' ⟨he, hb⟩ => ?_
      exact ⟨_, _, _, _, _, _, _, _, zM, he, hb, isM_zero w', .inr (.inl ⟨hx, hp, rfl, rfl⟩)⟩
    | true =>
      obtain ⟨S, hS, hG, hfn⟩ := gd_of hx
      obtain ⟨st, A, F⟩ := m
      dsimp only at hS hG hfn hA0 hF0 hp hfew ⊢
      subst hS
      refine (sure_any S A F aa af ca cf w hG (by omega) hA0 hF0 hfn hTab h00 hx hp).mono fun e w' h => ?_
      obtain ⟨st, a1, n1, c1, a2, n2, c2, x, he, hb, hor⟩ := h
      rcases hor with ⟨rfl, n, M', hn, hs, hi⟩ | ⟨rfl, hi, hmn⟩
      · exact ⟨_, _, _, _, _, _, _, _, M', he, hb, hi, .inr (.inr ⟨hx, hp, S, rfl, .inl ⟨rfl, n, hn, hs⟩⟩)⟩
      · exact ⟨_, _, _, _, _, _, _, _, zM, he, hb, hi, .inr (.inr ⟨hx, hp, S, rfl, .inr ⟨rfl, rfl, hmn⟩⟩)⟩
  · obtain ⟨x0, hx0⟩ := Rz.checkP_ex m
    refine (sure_bad m.st m.arcs m.fins aa af ca cf w hA0 hF0 x0 hx0 (fun e => hx (e ▸ hx0))).mono fun e w' ⟨he, hb⟩ => ?_
    exact ⟨_, _, _, _, _, _, _, _, zM, he, hb, isM_zero w', .inl ⟨hx, hx0, rfl⟩⟩
theorem apart_big (a b : M) (va vb : Value) (w : World) (ha : IsM w va a) (hb : IsM w vb b) (hfew : a.st ≤ 400) (hfew2 : b.st ≤ 400) (hTab : TabAt 0 Lib.deBruijn64tab w) (h00 : 0 < w.heap.size) : Calls Tryd.prog 24 #[va, vb] w (AvQ a b w) := by
  obtain ⟨v1, v2, rfl, hA, hF⟩ := ha
  obtain ⟨v3, v4, rfl, hB, hH⟩ := hb
  have hA0 := hA
  have hF0 := hF
  have hB0 := hB
  have hH0 := hH
  obtain ⟨_, aa, ca, rfl, _, _⟩ := hA
  obtain ⟨_, af, cf, rfl, _, _⟩ := hF
  obtain ⟨_, ba, da, rfl, _, _⟩ := hB
  obtain ⟨_, bf', df', rfl, _, _⟩ := hH
  obtain ⟨xa, hxa⟩ := Rz.checkP_ex a
  obtain ⟨xb, hxb⟩ := Rz.checkP_ex b
  by_cases hx : Mc.both xa xb = 0
  · obtain ⟨rfl, rfl⟩ : xa = 0 ∧ xb = 0 := by
      unfold Mc.both at hx
      split at hx
      · exact ⟨by assumption, hx⟩
      · exact absurd hx (by assumption)
    cases hp : (plB a.arcs a.fins && plB b.arcs b.fins) with
    | false =>
      refine (apart_un a.st b.st a.arcs b.arcs a.fins b.fins aa af ba bf' ca cf da df' w hA0 hF0 hB0 hH0 hxa hxb hp).mono fun e w' ⟨he, hbl⟩ => ?_
      exact ⟨_, _, _, none, he, hbl, rfl, isI_none w', Nat.zero_le _, .inr (.inl ⟨hxa, hxb, hp, rfl, rfl⟩)⟩
    | true =>
      obtain ⟨S, hS, hG, hfn⟩ := gd_of hxa
      obtain ⟨U, hU, hG2, hfn2⟩ := gd_of hxb
      obtain ⟨st, A, F⟩ := a
      obtain ⟨su, B, H⟩ := b
      dsimp only at hS hG hfn hU hG2 hfn2 hA0 hF0 hB0 hH0 hp hfew hfew2 ⊢
      subst hS hU
      have hp2 : plB A F = true ∧ plB B H = true := by simpa using hp
      refine (apart_any S U A B F H aa af ba bf' ca cf da df' w hG hG2 (by omega) (by omega) hA0 hF0 hB0 hH0 hfn hfn2 hTab h00 hxa hxb hp2.1 hp2.2).mono fun e w' h => ?_
      obtain ⟨v, bb, x, he, hbl, hor⟩ := h
      rcases hor with ⟨rfl, hmn, rfl, rfl⟩ | ⟨rfl, n, m, r, hn, hm, hr, hres⟩
      · exact ⟨_, _, _, none, he, hbl, rfl, isI_none w', Nat.zero_le _, .inr (.inr ⟨hxa, hxb, hp, S, U, rfl, rfl, .inl ⟨rfl, rfl, hmn⟩⟩)⟩
      · rcases hres with ⟨rfl, t, rfl, hrow⟩ | ⟨rfl, rfl, rfl⟩
        · have hl := ap_len hn hm hr
          exact ⟨_, _, _, some t, he, hbl, rfl, own_isI hrow hl, by show (List.map _ t).length ≤ _; rw [List.length_map]; exact hl, .inr (.inr ⟨hxa, hxb, hp, S, U, rfl, rfl, .inr ⟨rfl, n, m, hn, hm, hr.of⟩⟩)⟩
        · exact ⟨_, _, _, none, he, hbl, rfl, isI_none w', Nat.zero_le _, .inr (.inr ⟨hxa, hxb, hp, S, U, rfl, rfl, .inr ⟨rfl, n, m, hn, hm, hr.of⟩⟩)⟩
  · refine (apart_bad a.st b.st a.arcs b.arcs a.fins b.fins aa af ba bf' ca cf da df' w hA0 hF0 hB0 hH0 xa xb hxa hxb hx).mono fun e w' ⟨he, hbl⟩ => ?_
    exact ⟨_, _, _, none, he, hbl, rfl, isI_none w', Nat.zero_le _, .inl ⟨xa, xb, hxa, hxb, hx, rfl, rfl⟩⟩
/-- a row as Sure hands it back, in its parts -/
theorem isM_st {W : World} {st : Int} {x y : Value} {m : M} (h : IsM W (.agg #[.int .i64 st, x, y]) m) : st = m.st := by
  obtain ⟨_, _, e, _⟩ := h
  injection e with e
  injection e with e
  injection e with e _
  injection e
end Go.Proofs.YtfjocafepigijaaDoor.Su
/- MachineNerode: at two small machines the law returns true. Condition: the library's table lies as its text lays it. -/
namespace Go.Proofs.YtfjocafepigijaaDoor.Su
open Go.RowKit Mv Sy Po Ps Cm Ra Ot Pa

theorem three_of {W : World} {p : Nat} {x y z : Value} (h : W.heap[p]? = some (.cells #[x, y, z] 25 (0, 0))) : W.cell? ⟨p, 0, none⟩ = some x ∧ W.cell? ⟨p, 1, none⟩ = some y ∧ W.cell? ⟨p, 2, none⟩ = some z :=
  ⟨cell_of_row _ _ 0 _ _ _ h, cell_of_row _ _ 1 _ _ _ h, cell_of_row _ _ 2 _ _ _ h⟩
/-- a machine in a box, and how it lies behind a world -/
theorem box_isM {W : World} {p : Nat} {x y z : Value} {m : M} (h : W.heap[p]? = some (.cells #[x, y, z] 25 (0, 0))) (hm : IsM W (.agg #[x, y, z]) m) : ∀ W', Below W.heap.size W W' → (W'.cell? ⟨p, 0, none⟩ = some x ∧ W'.cell? ⟨p, 1, none⟩ = some y ∧ W'.cell? ⟨p, 2, none⟩ = some z) ∧ IsM W' (.agg #[x, y, z]) m :=
  fun _ hb => ⟨three_of ((hb.block _ (lt_at h)).trans h), hm.below hb⟩
theorem split_all (X : M) (v : Value) (z : Int) (w : World) (h : IsM w v X) (hs : 0 ≤ X.st) (hs2 : X.st ≤ 3000) (ha : X.arcs.length ≤ 20000) (hf : X.fins.length ≤ 3000) (h1 : -9223372036854775808 ≤ z ∧ z ≤ 9223372036854775807) : Calls Tryd.prog 28 #[v, .int .i64 z] w (SpQ X w) := by
  obtain ⟨va, vf, rfl, hA, hF⟩ := h
  have hA0 := hA
  have hF0 := hF
  obtain ⟨_, aa, ca, rfl, _, _⟩ := hA
  obtain ⟨_, af, cf, rfl, _, _⟩ := hF
  obtain ⟨st, A, F⟩ := X
  obtain ⟨S, rfl⟩ : ∃ S : Nat, st = (S : Int) := ⟨st.toNat, by dsimp only at hs; omega⟩
  exact split_any S A F aa af ca cf z w hA0 hF0 ha hf (by dsimp only at hs2; omega) h1.1 h1.2
/-- what is asked of the machine that is split -/
theorem dm_small {S : Nat} {m : M} (h : Dm S m) (hS : S ≤ 301) : 0 ≤ m.st ∧ m.st ≤ 3000 ∧ m.arcs.length ≤ 20000 ∧ m.fins.length ≤ 3000 := by
  have h1 := h.arcs_few
  have h2 := h.fins_few
  have h3 := h.st
  omega
theorem split_small {a X : M} (h : SvA a 0 X) (hX : X.st ≤ 300) : 0 ≤ X.st ∧ X.st ≤ 3000 ∧ X.arcs.length ≤ 20000 ∧ X.fins.length ≤ 3000 := by
  obtain ⟨S, hD, hS, _⟩ := nz_sure h
  exact dm_small hD (by omega)
theorem split_small1 {a X : M} (h : SvA a 0 X) (hX : X.st ≤ 300) (k : Nat) : 0 ≤ (spl X k).st ∧ (spl X k).st ≤ 3000 ∧ (spl X k).arcs.length ≤ 20000 ∧ (spl X k).fins.length ≤ 3000 := by
  obtain ⟨⟨S, hD, hS⟩, _⟩ := nz_split h hX k 0
  exact dm_small hD hS
theorem split_st {a X : M} (h : SvA a 0 X) (hX : X.st ≤ 300) (k l : Nat) : (spl (spl X k) l).st ≤ 400 := by
  obtain ⟨_, S, hD, hS, _⟩ := nz_split h hX k l
  have := hD.st
  omega
theorem split_sure {a X M' : M} (h : SvA a 0 X) (hX : X.st ≤ 300) {k l : Nat} {x : Int} (hv : SvA (spl (spl X k) l) x M') : x = 0 ∧ M' = X := by
  obtain ⟨_, S, hD, hS, hr⟩ := nz_split h hX k l
  exact nz_same h hD (by omega) hr hv
theorem self_sure {a X M' : M} (h : SvA a 0 X) (hX : X.st ≤ 300) {x : Int} (hv : SvA X x M') : x = 0 ∧ M' = X := by
  obtain ⟨S, hD, hS, hr⟩ := nz_sure h
  exact nz_same h hD (by omega) hr hv
theorem isI_slice {W : World} {v : Value} {l : List Int} (h : IsI W v l) : ∃ a c, v = .slice a l.length c := by
  obtain ⟨_, a, c, rfl, _⟩ := h
  exact ⟨a, c, rfl⟩
set_option maxHeartbeats 8000000 in
set_option maxRecDepth 100000 in
theorem nerode_main (a b : M) (va vb : Value) (z1 z2 : Int) (w : World) (ha : IsM w va a) (hb : IsM w vb b) (hf : fewB a = true) (hf2 : fewB b = true) (hz1 : -9223372036854775808 ≤ z1 ∧ z1 ≤ 9223372036854775807) (hz2 : -9223372036854775808 ≤ z2 ∧ z2 ≤ 9223372036854775807) (hT : TabAt 0 Lib.deBruijn64tab w) (hw0 : 0 < w.heap.size) :
    Calls Tryd.prog 6 #[va, vb, .int .i64 z1, .int .i64 z2] w fun e w' => e = .returned (.bool true) ∧ Below w.heap.size w w' := by
  have C7 : Hid (∀ W, Calls Tryd.prog 7 #[] W fun e W' => e = .returned (.bool true) ∧ Below W.heap.size W W') := fun W => Mb.begun_any Nx.field_any W
  have C8a : Hid (∀ W, Below w.heap.size w W → Calls Tryd.prog 8 #[va] W fun e W' => e = .returned (.bool true) ∧ Below W.heap.size W W') := fun W hW => by have := few_any a va W (ha.below hW); rwa [hf] at this
  have C8b : Hid (∀ W, Below w.heap.size w W → Calls Tryd.prog 8 #[vb] W fun e W' => e = .returned (.bool true) ∧ Below W.heap.size W W') := fun W hW => by have := few_any b vb W (hb.below hW); rwa [hf2] at this
  have C20a : Hid (∀ W, Below w.heap.size w W → Calls Tryd.prog 20 #[va] W (SvQ a W)) := fun W hW => sure_all a va W (ha.below hW) hf (Tz.tab_below hT hw0 hW) (Nat.lt_of_lt_of_le hw0 hW.size)
  have C20b : Hid (∀ W, Below w.heap.size w W → Calls Tryd.prog 20 #[vb] W (SvQ b W)) := fun W hW => sure_all b vb W (hb.below hW) hf2 (Tz.tab_below hT hw0 hW) (Nat.lt_of_lt_of_le hw0 hW.size)
  have C20x : Hid (∀ (X : M) (v : Value) W, Below w.heap.size w W → IsM W v X → X.st ≤ 400 → Calls Tryd.prog 20 #[v] W (SvQ X W)) := fun X v W hW hm hx => sure_big X v W hm hx (Tz.tab_below hT hw0 hW) (Nat.lt_of_lt_of_le hw0 hW.size)
  have C24 : Hid (∀ W, Below w.heap.size w W → Calls Tryd.prog 24 #[va, vb] W (AvQ a b W)) := fun W hW => apart_all a b va vb W (ha.below hW) (hb.below hW) hf hf2 (Tz.tab_below hT hw0 hW) (Nat.lt_of_lt_of_le hw0 hW.size)
  have C24x : Hid (∀ (X : M) (v : Value) W, Below w.heap.size w W → IsM W v X → X.st ≤ 400 → Calls Tryd.prog 24 #[va, v] W (AvQ a X W)) := fun X v W hW hm hx => apart_big a X va v W (ha.below hW) hm (Int.le_trans (of_decide_eq_true hf).1 (by decide)) hx (Tz.tab_below hT hw0 hW) (Nat.lt_of_lt_of_le hw0 hW.size)
  have C27a : Hid (∀ (v : Value) (t : List Nat) W, Below w.heap.size w W → IsI W v (nt9 t) → t.length ≤ 60 → Calls Tryd.prog 27 #[va, v, v] W fun e w' => ∃ c ok er, e = .returned (.tuple #[.int .i64 c, .bool ok, .int .i64 er]) ∧ Rz.Res a (nt9 t) (nt9 t) c ok er ∧ Below W.heap.size W w') := fun v t W hW hv hl => Cq.cost_any Nx.field_any a (nt9 t) (nt9 t) va v v W (ha.below hW) hv hv hf (by rw [nt9_len]; omega) (by rw [nt9_len]; omega)
  have C27b : Hid (∀ (v : Value) (t : List Nat) W, Below w.heap.size w W → IsI W v (nt9 t) → t.length ≤ 60 → Calls Tryd.prog 27 #[vb, v, v] W fun e w' => ∃ c ok er, e = .returned (.tuple #[.int .i64 c, .bool ok, .int .i64 er]) ∧ Rz.Res b (nt9 t) (nt9 t) c ok er ∧ Below W.heap.size W w') := fun v t W hW hv hl => Cq.cost_any Nx.field_any b (nt9 t) (nt9 t) vb v v W (hb.below hW) hv hv hf2 (by rw [nt9_len]; omega) (by rw [nt9_len]; omega)
  have C28 : Hid (∀ (X : M) (v : Value) W, IsM W v X → (0 ≤ X.st ∧ X.st ≤ 3000 ∧ X.arcs.length ≤ 20000 ∧ X.fins.length ≤ 3000) → Calls Tryd.prog 28 #[v, .int .i64 z1] W (SpQ X W) ∧ Calls Tryd.prog 28 #[v, .int .i64 z2] W (SpQ X W)) := fun X v W hm hs => ⟨split_all X v z1 W hm hs.1 hs.2.1 hs.2.2.1 hs.2.2.2 hz1, split_all X v z2 W hm hs.1 hs.2.1 hs.2.2.1 hs.2.2.2 hz2⟩
  obtain ⟨a1, a2, rfl, ⟨_, aa, ca, rfl, _, _⟩, ⟨_, af, cf, rfl, _, _⟩⟩ := ha
  obtain ⟨b1, b2, rfl, ⟨_, ba, da, rfl, _, _⟩, ⟨_, bf', df', rfl, _, _⟩⟩ := hb
  obtain ⟨V, hV, hVB⟩ := box_two w #[.int .i64 a.st, .slice aa a.arcs.length ca, .slice af a.fins.length cf] #[.int .i64 b.st, .slice ba b.arcs.length da, .slice bf' b.fins.length df']
  have QB : Hid (∀ W, Below V.heap.size V W → Below w.heap.size w W ∧ W.heap[w.heap.size]? = some (.cells #[.int .i64 a.st, .slice aa a.arcs.length ca, .slice af a.fins.length cf] 25 (0, 0)) ∧ W.heap[w.heap.size + 1]? = some (.cells #[.int .i64 b.st, .slice ba b.arcs.length da, .slice bf' b.fins.length df'] 25 (0, 0))) := hVB
  have QC : Hid (∀ W, Below V.heap.size V W → (W.cell? ⟨w.heap.size, 0, none⟩ = some (.int .i64 a.st) ∧ W.cell? ⟨w.heap.size, 1, none⟩ = some (.slice aa a.arcs.length ca) ∧ W.cell? ⟨w.heap.size, 2, none⟩ = some (.slice af a.fins.length cf)) ∧ W.cell? ⟨w.heap.size + 1, 0, none⟩ = some (.int .i64 b.st) ∧ W.cell? ⟨w.heap.size + 1, 1, none⟩ = some (.slice ba b.arcs.length da) ∧ W.cell? ⟨w.heap.size + 1, 2, none⟩ = some (.slice bf' b.fins.length df')) := fun W h => by
    obtain ⟨_, y1, y2⟩ := hVB W h
    exact ⟨three_of y1, three_of y2⟩
  clear hVB hT hw0 hf hf2 hz1 hz2
  go_enter Tryd.func6, Tryd.ntmps6
  go_upto_region 1 with fail
  clear hV
  go_upto_region 5 with (first
    | (go_at_call 7; (with_reducible refine (C7.out _).mono ?_); rintro e w1 ⟨rfl, hb1⟩; have q1 := QB.out _ hb1; obtain ⟨⟨q10, q11, q12⟩, q13, q14, q15⟩ := QC.out _ hb1)
    | (go_at_call 8; (with_reducible refine (C8a.out _ (QB.out _ hb1).1).mono ?_); rintro e w2 ⟨rfl, hb2'⟩; have hb2 := hb1.trans (hb2'.mono hb1.size); obtain ⟨⟨q20, q21, q22⟩, q23, q24, q25⟩ := QC.out _ hb2; clear hb2')
    | (go_at_call 8; (with_reducible refine (C8b.out _ (QB.out _ hb2).1).mono ?_); rintro e w3 ⟨rfl, hb3'⟩; have HB3 : Hid (Below V.heap.size V w3) := hb2.trans (hb3'.mono hb2.size); clear hb3'))
  clear hb1 q1 q10 q11 q12 q13 q14 q15 hb2 q20 q21 q22 q23 q24 q25 C7 C8a C8b
  obtain ⟨⟨q30, q31, q32⟩, _⟩ := QC.out _ HB3.out
  have K20 := C20a.out _ (QB.out _ HB3.out).1
  go_upto_region 6 with (go_at_call 20; (with_reducible refine K20.mono ?_); clear K20; rintro e w4 ⟨sx, s1, sn, sc, t1, tn, tc, x, X, rfl, hb4, him, hsv⟩; have HS : Hid (Below V.heap.size V w4 ∧ IsM w4 (.agg #[.int .i64 sx, .slice s1 sn sc, .slice t1 tn tc]) X ∧ SvA a x X) := ⟨HB3.out.trans (hb4.mono HB3.out.size), him, hsv⟩; clear hb4 him hsv)
  clear q30 q31 q32
  have HW5 : Hid (Below V.heap.size V (w4.alloc (.cells #[.int .i64 sx, .slice s1 sn sc, .slice t1 tn tc] 25)) ∧ (w4.alloc (.cells #[.int .i64 sx, .slice s1 sn sc, .slice t1 tn tc] 25)).heap[w4.heap.size]? = some (.cells #[.int .i64 sx, .slice s1 sn sc, .slice t1 tn tc] 25 (0, 0)) ∧ IsM (w4.alloc (.cells #[.int .i64 sx, .slice s1 sn sc, .slice t1 tn tc] 25)) (.agg #[.int .i64 sx, .slice s1 sn sc, .slice t1 tn tc]) X ∧ SvA a x X) := ⟨HS.out.1.alloc HS.out.1.size _, heap_alloc_new _ _, HS.out.2.1.below (below_al _ _), HS.out.2.2⟩
  generalize w4.alloc (.cells #[.int .i64 sx, .slice s1 sn sc, .slice t1 tn tc] 25) = w5 at *
  obtain ⟨px, hpx⟩ : ∃ p, w4.heap.size = p := ⟨_, rfl⟩
  rw [hpx] at HW5 ⊢
  clear hpx HS
  obtain ⟨_, q50, q51, q52⟩ := QC.out _ HW5.out.1
  have K20 := C20b.out _ (QB.out _ HW5.out.1).1
  go_upto_region 7 with (go_at_call 20; (with_reducible refine K20.mono ?_); clear K20; rintro e w6 ⟨sy, y1, yn, yc, u1, un, uc, y, Y, rfl, hb6, him, hsv⟩; have HS : Hid (Below w5.heap.size w5 w6 ∧ IsM w6 (.agg #[.int .i64 sy, .slice y1 yn yc, .slice u1 un uc]) Y ∧ SvA b y Y) := ⟨hb6, him, hsv⟩; clear hb6 him hsv)
  clear q50 q51 q52
  have HW7 : Hid (Below V.heap.size V (w6.alloc (.cells #[.int .i64 sy, .slice y1 yn yc, .slice u1 un uc] 25)) ∧ ((w6.alloc (.cells #[.int .i64 sy, .slice y1 yn yc, .slice u1 un uc] 25)).heap[px]? = some (.cells #[.int .i64 sx, .slice s1 sn sc, .slice t1 tn tc] 25 (0, 0)) ∧ IsM (w6.alloc (.cells #[.int .i64 sy, .slice y1 yn yc, .slice u1 un uc] 25)) (.agg #[.int .i64 sx, .slice s1 sn sc, .slice t1 tn tc]) X ∧ SvA a x X) ∧ (w6.alloc (.cells #[.int .i64 sy, .slice y1 yn yc, .slice u1 un uc] 25)).heap[w6.heap.size]? = some (.cells #[.int .i64 sy, .slice y1 yn yc, .slice u1 un uc] 25 (0, 0)) ∧ IsM (w6.alloc (.cells #[.int .i64 sy, .slice y1 yn yc, .slice u1 un uc] 25)) (.agg #[.int .i64 sy, .slice y1 yn yc, .slice u1 un uc]) Y ∧ SvA b y Y) := by
    have hb : Below w5.heap.size w5 (w6.alloc (.cells #[.int .i64 sy, .slice y1 yn yc, .slice u1 un uc] 25)) := HS.out.1.alloc HS.out.1.size _
    exact ⟨HW5.out.1.trans (hb.mono HW5.out.1.size), ⟨(hb.block _ (lt_at HW5.out.2.1)).trans HW5.out.2.1, HW5.out.2.2.1.below hb, HW5.out.2.2.2⟩, heap_alloc_new _ _, HS.out.2.1.below (below_al _ _), HS.out.2.2⟩
  generalize w6.alloc (.cells #[.int .i64 sy, .slice y1 yn yc, .slice u1 un uc] 25) = w7 at *
  obtain ⟨py, hpy⟩ : ∃ p, w6.heap.size = p := ⟨_, rfl⟩
  rw [hpy] at HW7 ⊢
  clear hpy HS HW5
  have x0 := cell_of_row _ _ 0 _ _ _ HW7.out.2.1.1
  have y0 := cell_of_row _ _ 0 _ _ _ HW7.out.2.2.1
  by_cases hx : x = 0
  · by_cases hy : y = 0
    · by_cases h3 : sx ≤ 300
      · by_cases h4 : sy ≤ 300
        · subst hx
          subst hy
          have h3' : ¬ 300 < sx := by omega
          have h4' : ¬ 300 < sy := by omega
          go_upto_region 9 with fail
          clear x0 y0 h3' h4'
          have HXY : Hid (SvA a 0 X ∧ SvA b 0 Y ∧ X.st ≤ 300 ∧ Y.st ≤ 300) := ⟨HW7.out.2.1.2.2, HW7.out.2.2.2.2, by rw [← isM_st HW7.out.2.1.2.1]; exact h3, by rw [← isM_st HW7.out.2.2.2.1]; exact h4⟩
          clear h3 h4
          have HPX : Hid (∀ W, Below w7.heap.size w7 W → (W.cell? ⟨px, 0, none⟩ = some (.int .i64 sx) ∧ W.cell? ⟨px, 1, none⟩ = some (.slice s1 sn sc) ∧ W.cell? ⟨px, 2, none⟩ = some (.slice t1 tn tc)) ∧ IsM W (.agg #[.int .i64 sx, .slice s1 sn sc, .slice t1 tn tc]) X) := box_isM HW7.out.2.1.1 HW7.out.2.1.2.1
          have HPY : Hid (∀ W, Below w7.heap.size w7 W → (W.cell? ⟨py, 0, none⟩ = some (.int .i64 sy) ∧ W.cell? ⟨py, 1, none⟩ = some (.slice y1 yn yc) ∧ W.cell? ⟨py, 2, none⟩ = some (.slice u1 un uc)) ∧ IsM W (.agg #[.int .i64 sy, .slice y1 yn yc, .slice u1 un uc]) Y) := box_isM HW7.out.2.2.1 HW7.out.2.2.2.1
          have HV7 : Hid (Below V.heap.size V w7) := HW7.out.1
          clear HW7 C20a C20b
          have HVW : Hid (∀ W, Below w7.heap.size w7 W → Below V.heap.size V W) := fun W hW => HV7.out.trans (hW.mono HV7.out.size)
          obtain ⟨⟨q0, q1, q2⟩, q3, q4, q5⟩ := QC.out _ HV7.out
          have K24 := C24.out _ (QB.out _ HV7.out).1
          go_upto_region 10 with (go_at_call 24; (with_reducible refine K24.mono ?_); clear K24; rintro e w11 ⟨v, is, xr, r, rfl, hb, his, hv, hl, hap⟩; have HA : Hid (Below w7.heap.size w7 w11 ∧ is = r.isSome ∧ IsI w11 v (tI r) ∧ (tI r).length ≤ 1000000 ∧ ApA a b xr r) := ⟨hb, his, hv, hl, hap⟩; clear hb his hv hl hap)
          clear q0 q1 q2 q3 q4 q5 C24
          have hap := nz_apart HXY.out.1 HXY.out.2.1 HA.out.2.2.2.2
          obtain ⟨sm, hsm⟩ : ∃ s, smB X.st Y.st X.arcs Y.arcs X.fins Y.fins = s := ⟨_, rfl⟩
          obtain rfl : xr = 0 := hap.1
          obtain rfl : is = !sm := by rw [HA.out.2.1, hap.2.1, hsm]
          have HAP : Hid (r.isSome = !sm ∧ ∀ t, r = some t → Tt t ∧ ¬ (Rd a.arcs a.fins 0 t ↔ Rd b.arcs b.fins 0 t)) := ⟨by rw [hap.2.1, hsm], hap.2.2⟩
          have K23 := same_gen (HPX.out _ HA.out.1).2 (HPY.out _ HA.out.1).2
          rw [hsm] at K23
          have hq1 : ((!sm) == sm) = false := by cases sm <;> rfl
          obtain ⟨⟨q0, q1, q2⟩, _⟩ := HPX.out _ HA.out.1
          obtain ⟨⟨q3, q4, q5⟩, _⟩ := HPY.out _ HA.out.1
          clear hap hsm
          go_upto_if 77 with (go_at_call 23; (with_reducible refine K23.mono ?_); clear K23; rintro e w12 ⟨rfl, hb⟩; have HB12 : Hid (Below w11.heap.size w11 w12) := hb; clear hb)
          clear q0 q1 q2 q3 q4 q5 hq1
          go_cut [13, 14] from 62 to 77 (fun s t wx => s = v ∧ t = .bool (!sm) ∧ wx = w12)
          case first =>
            go_wp2
            go_meet
            case rel => exact ⟨rfl, rfl, rfl⟩
          case rest =>
            have h13 := hcut.1.symm
            have h14 := hcut.2.1
            have hwc := hcut.2.2.symm
            subst h13
            subst h14
            subst hwc
            clear hcut
            have HB7 : Hid (Below w7.heap.size w7 w12) := HA.out.1.trans (HB12.out.mono HA.out.1.size)
            go_step
            go_step
            go_cut [13, 14] from 78 to 110 (fun _ _ wx => Below w12.heap.size w12 wx)
            case first =>
              cases sm with
              | true =>
                go_wp2
                go_meet
                case rel => exact Below.refl _ _
              | false =>
                obtain ⟨t, rfl⟩ : ∃ t, r = some t := by
                  have h := HAP.out.1
                  cases r with
                  | none => cases h
                  | some t => exact ⟨t, rfl⟩
                have HTT : Hid (Tt t ∧ ¬ (Rd a.arcs a.fins 0 t ↔ Rd b.arcs b.fins 0 t)) := HAP.out.2 t rfl
                obtain ⟨av, cv, rfl⟩ := isI_slice HA.out.2.2.1
                have HVI : Hid (IsI w12 (.slice av (tI (some t)).length cv) (nt9 t)) := HA.out.2.2.1.below HB12.out
                obtain ⟨tl, htl⟩ : ∃ n, (tI (some t)).length = n := ⟨_, rfl⟩
                rw [htl] at HVI ⊢
                have HTL : Hid (t.length = tl) := by show _ = _; rw [← htl]; exact (nt9_len t).symm
                clear htl
                by_cases hl : tl ≤ 60
                · have hl' : (tl : Int) ≤ 60 := by omega
                  have HQV : Hid (Below V.heap.size V w12) := HVW.out _ HB7.out
                  obtain ⟨⟨q0, q1, q2⟩, q3, q4, q5⟩ := QC.out _ HQV.out
                  have K27 := C27a.out _ t _ (QB.out _ HQV.out).1 HVI.out (by rw [HTL.out]; exact hl)
                  go_upto_region 14 with (go_at_call 27; (with_reducible refine K27.mono ?_); clear K27; rintro e w13 ⟨c1, p, e1, rfl, hr1, hb⟩; have HR1 : Hid (Rz.Res a (nt9 t) (nt9 t) c1 p e1 ∧ Below w12.heap.size w12 w13) := ⟨hr1, hb⟩; clear hr1 hb)
                  clear q0 q1 q2 q3 q4 q5
                  have HQ13 : Hid (Below V.heap.size V w13) := HQV.out.trans (HR1.out.2.mono HQV.out.size)
                  obtain ⟨⟨q0, q1, q2⟩, q3, q4, q5⟩ := QC.out _ HQ13.out
                  have K27 := C27b.out _ t _ (QB.out _ HQ13.out).1 (HVI.out.below HR1.out.2) (by rw [HTL.out]; exact hl)
                  go_upto_region 15 with (go_at_call 27; (with_reducible refine K27.mono ?_); clear K27; rintro e w14 ⟨c2, q, e2, rfl, hr2, hb⟩; have HR2 : Hid (Rz.Res b (nt9 t) (nt9 t) c2 q e2 ∧ Below w12.heap.size w12 w14) := ⟨hr2, HR1.out.2.trans (hb.mono HR1.out.2.size)⟩; clear hr2 hb)
                  clear q0 q1 q2 q3 q4 q5
                  have hco := nz_cost (sv_ok HXY.out.1).1 (sv_ok HXY.out.2.1).1 (sv_ok HXY.out.1).2.1 (sv_ok HXY.out.2.1).2.1 HTT.out.1 (by rw [HTL.out]; exact hl) HTT.out.2 HR1.out.1 HR2.out.1
                  obtain rfl : e1 = 0 := hco.1
                  obtain rfl : e2 = 0 := hco.2.1
                  obtain rfl : q = !p := hco.2.2
                  have hq1 : (p == !p) = false := by cases p <;> rfl
                  clear hco
                  go_wp2
                  go_meet
                  case rel => exact HR2.out.2
                · have hl' : ¬ (tl : Int) ≤ 60 := by omega
                  go_wp2
                  go_meet
                  case rel => exact Below.refl _ _
            case rest =>
              have HBC : Hid (Below w7.heap.size w7 wc) := HB7.out.trans (hcut.mono HB7.out.size)
              clear hcut HB7 HB12 HA HAP HPY C27a C27b
              obtain ⟨⟨q0, q1, q2⟩, _⟩ := HPX.out _ HBC.out
              have K28 := (C28.out X _ _ (HPX.out _ HBC.out).2 (split_small HXY.out.1 HXY.out.2.2.1)).1
              go_upto_region 18 with (first
                | (go_at_call 28; (with_reducible refine K28.mono ?_); clear K28; rintro e w13 ⟨st1, g1, gn1, gc1, h1, hn1, hc1, k1, rfl, hb, him⟩; have HB13 : Hid (Below w7.heap.size w7 w13) := HBC.out.trans (hb.mono HBC.out.size); have K28b := (C28.out _ _ _ him (split_small1 HXY.out.1 HXY.out.2.2.1 k1)).2; clear hb him)
                | (go_at_call 28; (with_reducible refine K28b.mono ?_); clear K28b; rintro e w14 ⟨st2, g2, gn2, gc2, h2, hn2, hc2, k2, rfl, hb, him⟩; have HB14 : Hid (Below w7.heap.size w7 w14) := HB13.out.trans (hb.mono HB13.out.size); have K20 := C20x.out _ _ _ (QB.out _ (HVW.out _ HB14.out)).1 him (split_st HXY.out.1 HXY.out.2.2.1 k1 k2); clear hb him)
                | (go_at_call 20; (with_reducible refine K20.mono ?_); clear K20; rintro e w15 ⟨sz, e1, en1, ec1, e2, en2, ec2, xz, Z, rfl, hb, him, hsv⟩; have hzz := split_sure HXY.out.1 HXY.out.2.2.1 hsv; obtain rfl : xz = 0 := hzz.1; have HZ : Hid (Below w7.heap.size w7 w15 ∧ IsM w15 (.agg #[.int .i64 sz, .slice e1 en1 ec1, .slice e2 en2 ec2]) X) := ⟨HB14.out.trans (hb.mono HB14.out.size), hzz.2 ▸ him⟩; clear hb him hsv hzz))
              clear q0 q1 q2
              have HPZ : Hid (∀ W, Below (w15.alloc (.cells #[.int .i64 sz, .slice e1 en1 ec1, .slice e2 en2 ec2] 25)).heap.size (w15.alloc (.cells #[.int .i64 sz, .slice e1 en1 ec1, .slice e2 en2 ec2] 25)) W → (W.cell? ⟨w15.heap.size, 0, none⟩ = some (.int .i64 sz) ∧ W.cell? ⟨w15.heap.size, 1, none⟩ = some (.slice e1 en1 ec1) ∧ W.cell? ⟨w15.heap.size, 2, none⟩ = some (.slice e2 en2 ec2)) ∧ IsM W (.agg #[.int .i64 sz, .slice e1 en1 ec1, .slice e2 en2 ec2]) X) := box_isM (heap_alloc_new _ _) (HZ.out.2.below (below_al _ _))
              have HB16 : Hid (Below w7.heap.size w7 (w15.alloc (.cells #[.int .i64 sz, .slice e1 en1 ec1, .slice e2 en2 ec2] 25))) := HZ.out.1.alloc HZ.out.1.size _
              clear HZ HB13 HB14 HBC
              generalize w15.alloc (.cells #[.int .i64 sz, .slice e1 en1 ec1, .slice e2 en2 ec2] 25) = w16 at *
              obtain ⟨pz, hpz⟩ : ∃ p, w15.heap.size = p := ⟨_, rfl⟩
              rw [hpz] at HPZ ⊢
              clear hpz
              obtain ⟨⟨q0, q1, q2⟩, him⟩ := HPX.out _ HB16.out
              have K20 := C20x.out _ _ _ (QB.out _ (HVW.out _ HB16.out)).1 him (Int.le_trans HXY.out.2.2.1 (by decide))
              clear him
              go_upto_region 19 with (go_at_call 20; (with_reducible refine K20.mono ?_); clear K20; rintro e w17 ⟨sv, i1, in1, ic1, i2, in2, ic2, xw, Z, rfl, hb, him, hsv⟩; have hzz := self_sure HXY.out.1 HXY.out.2.2.1 hsv; obtain rfl : xw = 0 := hzz.1; have HZ : Hid (Below w16.heap.size w16 w17 ∧ IsM w17 (.agg #[.int .i64 sv, .slice i1 in1 ic1, .slice i2 in2 ic2]) X) := ⟨hb, hzz.2 ▸ him⟩; clear hb him hsv hzz)
              clear q0 q1 q2
              have HPW : Hid (∀ W, Below (w17.alloc (.cells #[.int .i64 sv, .slice i1 in1 ic1, .slice i2 in2 ic2] 25)).heap.size (w17.alloc (.cells #[.int .i64 sv, .slice i1 in1 ic1, .slice i2 in2 ic2] 25)) W → (W.cell? ⟨w17.heap.size, 0, none⟩ = some (.int .i64 sv) ∧ W.cell? ⟨w17.heap.size, 1, none⟩ = some (.slice i1 in1 ic1) ∧ W.cell? ⟨w17.heap.size, 2, none⟩ = some (.slice i2 in2 ic2)) ∧ IsM W (.agg #[.int .i64 sv, .slice i1 in1 ic1, .slice i2 in2 ic2]) X) := box_isM (heap_alloc_new _ _) (HZ.out.2.below (below_al _ _))
              have HB18 : Hid (Below w16.heap.size w16 (w17.alloc (.cells #[.int .i64 sv, .slice i1 in1 ic1, .slice i2 in2 ic2] 25))) := HZ.out.1.alloc HZ.out.1.size _
              clear HZ
              generalize w17.alloc (.cells #[.int .i64 sv, .slice i1 in1 ic1, .slice i2 in2 ic2] 25) = w18 at *
              obtain ⟨pw, hpw⟩ : ∃ p, w17.heap.size = p := ⟨_, rfl⟩
              rw [hpw] at HPW ⊢
              clear hpw
              have HB7x : Hid (Below w7.heap.size w7 w18) := HB16.out.trans (HB18.out.mono HB16.out.size)
              obtain ⟨⟨q0, q1, q2⟩, him⟩ := HPX.out _ HB7x.out
              obtain ⟨⟨q3, q4, q5⟩, _⟩ := QC.out _ (HVW.out _ HB7x.out)
              have K24 := C24x.out _ _ _ (QB.out _ (HVW.out _ HB7x.out)).1 him (Int.le_trans HXY.out.2.2.1 (by decide))
              clear him
              go_upto_region 20 with (go_at_call 24; (with_reducible refine K24.mono ?_); clear K24; rintro e w19 ⟨v9, is, xr, r9, rfl, hb, his, _, _, hap⟩; have hnn := nz_none HXY.out.1 HXY.out.2.2.1 hap; obtain rfl : xr = 0 := hnn.1; obtain rfl : is = false := (by rw [his, hnn.2]; rfl); have HB19 : Hid (Below w18.heap.size w18 w19) := hb; clear hb his hap hnn)
              clear q0 q1 q2 q3 q4 q5
              have HC19 : Hid (Below w16.heap.size w16 w19 ∧ Below w7.heap.size w7 w19) := ⟨HB18.out.trans (HB19.out.mono HB18.out.size), HB7x.out.trans (HB19.out.mono HB7x.out.size)⟩
              obtain ⟨⟨q0, q1, q2⟩, hm1⟩ := HPX.out _ HC19.out.2
              obtain ⟨⟨q3, q4, q5⟩, hm2⟩ := HPZ.out _ HC19.out.1
              have K23 := same_yes9 hm2 hm1
              clear hm1 hm2
              go_wp2_with (first
                | (go_at_call 23; (with_reducible refine K23.mono ?_); clear K23; rintro e w20 ⟨rfl, hb⟩; have HB20 : Hid (Below w19.heap.size w19 w20) := hb; clear hb q0 q1 q2 q3 q4 q5; obtain ⟨⟨q0, q1, q2⟩, hm1⟩ := HPX.out _ (HC19.out.2.trans (HB20.out.mono HC19.out.2.size)); obtain ⟨⟨q3, q4, q5⟩, hm2⟩ := HPW.out _ (HB19.out.trans (HB20.out.mono HB19.out.size)); have K23b := same_yes9 hm2 hm1; clear hm1 hm2)
                | (go_at_call 23; (with_reducible refine K23b.mono ?_); clear K23b; rintro e w21 ⟨rfl, hb⟩; have HB21 : Hid (Below w7.heap.size w7 w21) := (HC19.out.2.trans (HB20.out.mono HC19.out.2.size)).trans (hb.mono (HC19.out.2.trans (HB20.out.mono HC19.out.2.size)).size); clear hb))
              go_ret
              exact ⟨rfl, (QB.out _ (HVW.out _ HB21.out)).1⟩
        · have h3' : ¬ 300 < sx := by omega
          have h4' : 300 < sy := by omega
          have HE : Hid (Below w.heap.size w w7) := (QB.out _ HW7.out.1).1
          subst hx
          subst hy
          go_wp2
          go_ret
          exact ⟨rfl, HE.out⟩
      · have h3' : 300 < sx := by omega
        have HE : Hid (Below w.heap.size w w7) := (QB.out _ HW7.out.1).1
        subst hx
        subst hy
        go_wp2
        go_ret
        exact ⟨rfl, HE.out⟩
    · have HE : Hid (Below w.heap.size w w7) := (QB.out _ HW7.out.1).1
      have hy1 : (y == 0) = false := by simpa using hy
      have hy2 : (y != 0) = true := by simpa using hy
      subst hx
      go_wp2
      go_ret
      exact ⟨rfl, HE.out⟩
  · have HE : Hid (Below w.heap.size w w7) := (QB.out _ HW7.out.1).1
    have hx1 : (x == 0) = false := by simpa using hx
    have hx2 : (x != 0) = true := by simpa using hx
    go_wp2
    go_ret
    exact ⟨rfl, HE.out⟩
end Go.Proofs.YtfjocafepigijaaDoor.Su
