/- checkWords. No conditions. -/
import Derived.Test.YtbmgkgoghgdbhaaQb
import Derived.Test.YtbmgkgoghgdbhaaSv
import Derived.Deep.RegionHeld
namespace Go.Proofs.Ytbmgkgoghgdbhaa.Te
open Go.RowKit

def cwords (ws : List (List Ty)) (g : Ty) : Int := if (ws.length < 1 ∨ 6 < ws.length) ∨ (ws.map wOff).any id = true then 7 else cslash ws.flatten g
theorem words_small : ∀ (ws : List (List Ty)), (ws.map wOff).any id = false → (∀ l ∈ ws, 0 < l.length ∧ l.length ≤ 3) ∧ ws.flatten.length ≤ 3 * ws.length
  | [], _ => ⟨by simp, by simp⟩
  | l :: ws, h => by
    simp only [List.map_cons, List.any_cons, Bool.or_eq_false_iff, id] at h
    obtain ⟨a, b⟩ := words_small ws h.2
    have h1 := h.1
    unfold wOff at h1
    rw [Bool.or_eq_false_iff] at h1
    have h2 := of_decide_eq_false h1.1
    have h3 := of_decide_eq_false h1.2
    refine ⟨fun m hm => ?_, ?_⟩
    · rcases List.mem_cons.1 hm with rfl | hm
      · omega
      · exact a m hm
    · simp only [List.flatten_cons, List.length_append, List.length_cons]
      omega
set_option maxRecDepth 100000 in
set_option maxHeartbeats 2000000 in
theorem cwords_any {d dg : Nat} (ws : List (List Ty)) (ka : Option Addr) (kc : Nat) (g : Ty) (ag : Option Addr) (cg : Nat) (w : World) (hk : ws.length ≤ 140737488355328) (h : WsAt w d ws ka) (hg : TyAt w dg g ag cg) :
    Calls Try.prog 58 #[.slice ka ws.length kc, vty g ag cg] w fun e w' => e = .returned (.int .i64 (cwords ws g)) ∧ Below w.heap.size w w' := by
  have HK : Hid (WsAt w d ws ka) := h
  have HG : Hid (TyAt w dg g ag cg) := hg
  have hVb : Below w.heap.size w (w.alloc (.cells #[.int .i64 g.kind, .int .i64 g.n, .slice ag g.kids.length cg] 24)) := (Below.refl _ w).alloc (Nat.le_refl _) _
  have x1 := heap_alloc_new w (.cells #[.int .i64 g.kind, .int .i64 g.n, .slice ag g.kids.length cg] 24)
  have K77 := contains_off ws ka kc (w.alloc (.cells #[.int .i64 g.kind, .int .i64 g.n, .slice ag g.kids.length cg] 24)) hk (h.below hVb)
  obtain ⟨b, hb⟩ : ∃ b, (ws.map wOff).any id = b := ⟨_, rfl⟩
  have HW : Hid ((ws.map wOff).any id = b) := hb
  obtain ⟨r, hr⟩ : ∃ r, cwords ws g = r := ⟨_, rfl⟩
  rw [hr]
  unfold cwords at hr
  rw [hb] at K77 hr
  have HR : Hid ((if (ws.length < 1 ∨ 6 < ws.length) ∨ b = true then 7 else cslash ws.flatten g) = r) := hr
  clear h hg hr hb
  unfold vty
  by_cases h1 : ws.length < 1
  · have h1' : (ws.length : Int) < 1 := by omega
    have hr7 : r = 7 := by rw [← HR.out, if_pos (.inl (.inl h1))]
    subst hr7
    clear h1 K77
    go_enter Try.func58, Try.ntmps58
    go_wp2
    go_ret
    exact ⟨rfl, hVb⟩
  have h1' : ¬ (ws.length : Int) < 1 := by omega
  by_cases h6 : 6 < ws.length
  · have h6' : (6 : Int) < (ws.length : Int) := by omega
    have hr7 : r = 7 := by rw [← HR.out, if_pos (.inl (.inr h6))]
    subst hr7
    clear h1 h6 K77
    go_enter Try.func58, Try.ntmps58
    go_wp2
    go_ret
    exact ⟨rfl, hVb⟩
  have h6' : ¬ (6 : Int) < (ws.length : Int) := by omega
  cases b with
  | true =>
    have hr7 : r = 7 := by rw [← HR.out, if_pos (.inr rfl)]
    subst hr7
    clear h1 h6
    go_enter Try.func58, Try.ntmps58
    go_wp2_with (go_at_call 77; (with_reducible refine K77.mono ?_); rintro e1 w1 ⟨rfl, hb1⟩; clear K77)
    go_ret
    exact ⟨rfl, hVb.trans (hb1.mono hVb.size)⟩
  | false =>
    have HC : Hid (cslash ws.flatten g = r) := by
      have := HR.out
      rw [if_neg (by simp only [Bool.false_eq_true, or_false]; omega)] at this
      exact this
    have hfl2 := (words_small ws HW.out).2
    obtain ⟨fl, hfl⟩ : ∃ fl, ws.flatten = fl := ⟨_, rfl⟩
    have HFL : Hid (ws.flatten = fl) := hfl
    rw [hfl] at HC hfl2
    have hfl3 : fl.length ≤ 1000 := by omega
    clear hfl hfl2
    obtain ⟨kg, ko, rfl, hkg, hkk⟩ : ∃ B off, ka = some ⟨B, off, none⟩ ∧ B < w.heap.size ∧ ∀ i (h : i < ws.length), ∃ a' c', w.cell? ⟨B, off + i, none⟩ = some (.slice a' ws[i].length c') ∧ LsQ w d ws[i] a' c' := by
      rcases HK.out with h | h
      · omega
      · exact h
    have HKK : Hid (∀ i (h : i < ws.length), ∃ a' c', w.cell? ⟨kg, ko + i, none⟩ = some (.slice a' ws[i].length c') ∧ LsQ w d ws[i] a' c') := hkk
    clear hkk HK HW HR
    go_enter Try.func58, Try.ntmps58
    go_upto_region 4 with (go_at_call 77; (with_reducible refine K77.mono ?_); rintro e1 w1 ⟨rfl, hb1⟩; clear K77)
    have hB1 := hVb.trans (hb1.mono hVb.size)
    have z1 := (hb1.block _ (lt_of_get x1)).trans x1
    clear hVb hb1 x1
    have HCE : Hid _ := fun (W : World) (hSw : Below w.heap.size w W ∧ W.heap[w.heap.size]? = some (.cells #[.int .i64 g.kind, .int .i64 g.n, .slice ag g.kids.length cg] 24 (0, 0))) => (And.intro (cell_of_row _ _ 0 _ _ _ hSw.2) (And.intro (cell_of_row _ _ 1 _ _ _ hSw.2) (cell_of_row _ _ 2 _ _ _ hSw.2)))
    refine wp_region_held_drew (S := fun W => Below w.heap.size w W ∧ W.heap[w.heap.size]? = some (.cells #[.int .i64 g.kind, .int .i64 g.n, .slice ag g.kids.length cg] 24 (0, 0))) (by kernel_rfl) (by exact ⟨below_drewN hB1 1, z1⟩) (fun hHeld => ?_)
    have hS0 := hHeld
    generalize hV : w1.drew = V0 at *
    clear hV
    refine wpAnyH_take (i := 0) (oi := { dst := some 19, op := Op.move (Operand.tmp 0), type := 49, pos := "check.go:81", after := #[], guard := none }) (v := ?_) rfl (by kernel_rfl) (by kernel_rfl) (by kernel_rfl) (fun _ _ _ h => h) (Or.inl ⟨by rfl, ?_⟩) (by assumption) ?_
    case refine_2 => intro w hSw; (try dsimp only at hSw); obtain ⟨p0, p1, p2⟩ := HCE.out _ hSw; go_simp; (try with_reducible rfl)
    simp only [Act.put, List.setIfInBounds_toArray, List.set_cons_zero, List.set_cons_succ]
    refine wpAnyH_take (i := 2) (oi := { dst := some 21, op := Op.load 24 (Operand.tmp 3), type := 24, pos := "check.go:81", after := #[], guard := none }) (v := ?_) rfl (by kernel_rfl) (by kernel_rfl) (by kernel_rfl) (fun _ _ _ h => h) (Or.inl ⟨by rfl, ?_⟩) (by assumption) ?_
    case refine_2 => intro w hSw; (try dsimp only at hSw); obtain ⟨p0, p1, p2⟩ := HCE.out _ hSw; go_simp; (try with_reducible rfl)
    simp only [Act.put, List.setIfInBounds_toArray, List.set_cons_zero, List.set_cons_succ]
    refine wpAnyH_ready (rs := [1]) (by kernel_rfl) (by simp) ?_
    refine (AllReadyH.cons (o := { dst := some 20, op := Op.call { callee := Callee.value (Operand.func 78), args := #[Operand.tmp 19], argTypes := #[49] }, type := 22, pos := "check.go:81", after := #[{ on := 0, ground := Ground.data }], guard := none }) rfl (fun K hK => ?_) AllReadyH.nil)
    have KQ := concat_any kg ko kc ws fl HFL.out V0 (Nat.lt_of_lt_of_le hkg hS0.1.size) (by omega) (fun i hi => by
      obtain ⟨a', c', q1, q2⟩ := HKK.out i hi
      exact ⟨a', c', (hS0.1.cell (p := ⟨kg, _, none⟩) hkg).trans q1, (q2.below hS0.1).at.free⟩) hfl3 (fun _ _ => trivial)
    go_simp
    (with_reducible refine KQ.mono ?_)
    clear KQ
    rintro e1 V1 ⟨a4, c4, rfl, hl4, hb4⟩
    dsimp only
    have hS1 := And.intro (hS0.1.trans (hb4.mono hS0.1.size)) ((hb4.block _ (lt_of_get hS0.2)).trans hS0.2)
    have HL4 : Hid (LsAt (fun _ => True) V1 d fl a4 c4) := hl4
    clear hl4
    refine hK.out _ _ ?_ (fun hHeld => ?_)
    · exact hS1
    clear hK K
    try simp only [Act.put, List.setIfInBounds_toArray, List.set_cons_zero, List.set_cons_succ]
    refine wpAnyH_ready (rs := [3]) (by kernel_rfl) (by simp) ?_
    refine (AllReadyH.cons (o := { dst := some 22, op := Op.call { callee := Callee.value (Operand.func 69), args := #[Operand.tmp 20, Operand.tmp 21], argTypes := #[22, 24] }, type := 25, pos := "check.go:81", after := #[{ on := 1, ground := Ground.data }, { on := 2, ground := Ground.data }, { on := 1, ground := Ground.chain }], guard := none }) rfl (fun K hK => ?_) AllReadyH.nil)
    have KQ := cslash_any fl a4 c4 g ag cg V1 HL4.out.1.at (HG.out.below hS1.1) hfl3
    unfold vty at KQ
    rw [HC.out] at KQ
    go_simp
    (with_reducible refine KQ.mono ?_)
    clear KQ
    rintro e2 V2 ⟨rfl, hb5⟩
    dsimp only
    have hS2 := And.intro (hS1.1.trans (hb5.mono hS1.1.size)) ((hb5.block _ (lt_of_get hS1.2)).trans hS1.2)
    refine hK.out _ _ ?_ (fun hHeld => ?_)
    · exact hS2
    clear hK K
    try simp only [Act.put, List.setIfInBounds_toArray, List.set_cons_zero, List.set_cons_succ]
    refine wpAnyH_take (i := 4) (oi := { dst := some 4, op := Op.assign (Operand.tmp 22), type := 25, pos := "check.go:81", after := #[{ on := 3, ground := Ground.data }, { on := 3, ground := Ground.chain }, { on := 0, ground := Ground.phase }, { on := 1, ground := Ground.phase }, { on := 2, ground := Ground.phase }, { on := 3, ground := Ground.phase }], guard := none }) (v := ?_) rfl (by kernel_rfl) (by kernel_rfl) (by kernel_rfl) (fun _ _ _ h => h) (Or.inl ⟨by rfl, ?_⟩) (by assumption) ?_
    case refine_2 => intro w hSw; (try dsimp only at hSw); obtain ⟨p0, p1, p2⟩ := HCE.out _ hSw; go_simp; (try with_reducible rfl)
    simp only [Act.put, List.setIfInBounds_toArray, List.set_cons_zero, List.set_cons_succ]
    refine wpAnyH_done (by kernel_rfl) ?_ _
    go_wp2_with fail
    go_ret
    exact ⟨rfl, hS2.1⟩
end Go.Proofs.Ytbmgkgoghgdbhaa.Te
