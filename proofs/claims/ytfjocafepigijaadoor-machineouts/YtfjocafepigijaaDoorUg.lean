/- write$1 (104): a node is put into the set of an arc's symbol, if it does not need too much. Conditions: the track lies below b2, the sets at or above base. -/
import Derived.Test.YtfjocafepigijaaDoorUf
namespace Go.Proofs.YtfjocafepigijaaDoor.Ot
open Go.RowKit Mv Sy Po Ps Cm Pa Am Wd St Ra Set

def TlQ (base B M c v n left : Nat) (w : World) (G : Gt) (e : Ending) (w' : World) : Prop :=
  e = .returned (.tuple #[]) ∧ ∃ G', Ar base w' B M G' ∧ Kp (ArX B G) w w' ∧ (n < left → Gat G G' c v) ∧ (¬ n < left → G' = G)
theorem eql77 (a : Addr) (n c : Nat) (W : World) : Sem.run Tryd.prog (binOp BinOp.eql 77 (.slice (some a) n c) (.slice none 0 0)) W = .ok (.bool false) W := by kernel_rfl
theorem eql77n (W : World) : Sem.run Tryd.prog (binOp BinOp.eql 77 (.slice none 0 0) (.slice none 0 0)) W = .ok (.bool true) W := by kernel_rfl
theorem kp_then' {X Y : Nat → Prop} {a b c : World} (h : Kp X a b) (k : Kp Y b c) (hY : ∀ i, i < a.heap.size → Y i → X i) : Kp X a c := kp_then h k hY
set_option maxHeartbeats 4000000 in
set_option maxRecDepth 100000 in
theorem tell_far (base b2 B M c v left T S sb ci nb cN p3 p5 : Nat) (ai : Option Addr) (tx : List Int) (R : Nat → List Arc) (V : Nat → Value) (N : Nat → Nat) (f t i x : Int) (G : Gt) (w : World) (hT : Tr b2 w T S sb ci nb cN M ai tx R V N)
    (h3 : w.heap[p3]? = some (.cells #[.pointer (some ⟨T, 0, none⟩)] 60 (0, 0))) (h5 : w.heap[p5]? = some (.cells #[.int .i64 (left : Int)] 3 (0, 0))) (hA : Ar base w B M G) (hv : v < M) (hn : ¬ N v < left) :
    Calls Tryd.prog 104 #[.int .i64 (v : Int), .agg #[.int .i64 f, .int .i64 t, .int .i64 i, .int .i64 (c : Int), .int .i64 x], .pointer (some ⟨p3, 0, none⟩), .pointer (some ⟨p5, 0, none⟩), .pointer (some ⟨B, 0, none⟩)] w (TlQ base B M c v (N v) left w G) := by
  have hb := (Below.refl w.heap.size w).alloc (Nat.le_refl _) (.cells #[.int .i64 f, .int .i64 t, .int .i64 i, .int .i64 (c : Int), .int .i64 x] 64)
  have HB : Hid (Below w.heap.size w (w.alloc (.cells #[.int .i64 f, .int .i64 t, .int .i64 i, .int .i64 (c : Int), .int .i64 x] 64))) := hb
  have hT1 := hT.below (hb.mono hT.le)
  have x3 := (hb.block p3 (lt_at h3)).trans h3
  have x5 := (hb.block p5 (lt_at h5)).trans h5
  have HA : Hid (Ar base w B M G) := hA
  have HN : Hid (¬ N v < left) := hn
  obtain ⟨k, hk⟩ : ∃ k, N v = k := ⟨_, rfl⟩
  have nc := hT1.need v hv
  rw [hk] at nc hn
  have HK : Hid (N v = k) := hk
  have hge : (left : Int) ≤ (k : Int) := by omega
  have hcap := hT1.cap
  clear hk hn hA h3 h5
  have trk := hT1.trk
  clear hT hT1
  go_enter Tryd.func104, Tryd.ntmps104
  go_upto_region 1 with fail
  generalize hV : w.alloc (.cells #[.int .i64 f, .int .i64 t, .int .i64 i, .int .i64 (c : Int), .int .i64 x] 64) = V1 at *
  clear hV
  have c3 := cell_of_row _ _ 0 _ _ _ x3
  have c5 := cell_of_row _ _ 0 _ _ _ x5
  have t3 := cell_of_row _ _ 3 _ _ _ trk
  clear x3 x5 trk hb
  go_wp2
  repeat (go_quiet (fail); go_wp2)
  go_end0
  refine ⟨rfl, G, HA.out.below (by first | exact HB.out | exact below_drewN HB.out _), kp_below (by first | exact HB.out | exact below_drewN HB.out _) _, fun h => absurd h HN.out, fun _ => rfl⟩
set_option maxHeartbeats 4000000 in
set_option maxRecDepth 100000 in
theorem tell_old (base b2 B M c v left T S sb ci nb cN p3 p5 : Nat) (ai : Option Addr) (tx : List Int) (R : Nat → List Arc) (V : Nat → Value) (N : Nat → Nat) (f t i x : Int) (G : Gt) (pr : Value × List Nat) (w : World) (hT : Tr b2 w T S sb ci nb cN M ai tx R V N)
    (h3 : w.heap[p3]? = some (.cells #[.pointer (some ⟨T, 0, none⟩)] 60 (0, 0))) (h5 : w.heap[p5]? = some (.cells #[.int .i64 (left : Int)] 3 (0, 0))) (hA : Ar base w B M G) (hv : v < M) (hM : M ≤ 2480) (hn : N v < left) (hc : c ≤ 60) (hp : G c = some pr) :
    Calls Tryd.prog 104 #[.int .i64 (v : Int), .agg #[.int .i64 f, .int .i64 t, .int .i64 i, .int .i64 (c : Int), .int .i64 x], .pointer (some ⟨p3, 0, none⟩), .pointer (some ⟨p5, 0, none⟩), .pointer (some ⟨B, 0, none⟩)] w (TlQ base B M c v (N v) left w G) := by
  have hb := (Below.refl w.heap.size w).alloc (Nat.le_refl _) (.cells #[.int .i64 f, .int .i64 t, .int .i64 i, .int .i64 (c : Int), .int .i64 x] 64)
  have HB : Hid (Below w.heap.size w (w.alloc (.cells #[.int .i64 f, .int .i64 t, .int .i64 i, .int .i64 (c : Int), .int .i64 x] 64))) := hb
  have hT1 := hT.below (hb.mono hT.le)
  have x3 := (hb.block p3 (lt_at h3)).trans h3
  have x5 := (hb.block p5 (lt_at h5)).trans h5
  have xa := heap_alloc_new w (.cells #[.int .i64 f, .int .i64 t, .int .i64 i, .int .i64 (c : Int), .int .i64 x] 64)
  have HA : Hid (Ar base (w.alloc (.cells #[.int .i64 f, .int .i64 t, .int .i64 i, .int .i64 (c : Int), .int .i64 x] 64)) B M G) := hA.below hb
  have HN : Hid (N v < left) := hn
  have HP : Hid (G c = some pr) := hp
  obtain ⟨k, hk⟩ : ∃ k, N v = k := ⟨_, rfl⟩
  have nc := hT1.need v hv
  rw [hk] at nc hn
  have hge : ¬ (left : Int) ≤ (k : Int) := by omega
  have hge' : ¬ left ≤ k := by omega
  have hcap := hT1.cap
  have hgs := HA.out.set c pr hp
  have ac := HA.out.row.cell c (by omega)
  rw [show gv G c = pr.1 by unfold gv; rw [hp]] at ac
  obtain ⟨pg, pc, hpe, _, _⟩ := own_some hgs.1.1 (by rw [hgs.2]; omega)
  rw [hpe] at ac
  have HSE : Hid (pr.1 = .slice (some ⟨pg, 0, none⟩) pr.2.length pc) := hpe
  obtain ⟨lw, hlw⟩ : ∃ lw, pr.2.length = lw := ⟨_, rfl⟩
  rw [hlw] at ac HSE
  have HLW : Hid (pr.2.length = lw ∧ v / 64 < pr.2.length) := ⟨hlw, by rw [hgs.2]; omega⟩
  clear hk hn hA h3 h5 hgs hpe hp hlw
  have trk := hT1.trk
  clear hT hT1
  go_enter Tryd.func104, Tryd.ntmps104
  go_upto_region 1 with fail
  generalize hV : w.alloc (.cells #[.int .i64 f, .int .i64 t, .int .i64 i, .int .i64 (c : Int), .int .i64 x] 64) = V1 at *
  clear hV
  have c3 := cell_of_row _ _ 0 _ _ _ x3
  have c5 := cell_of_row _ _ 0 _ _ _ x5
  have t3 := cell_of_row _ _ 3 _ _ _ trk
  have HXA : Hid (V1.heap[w.heap.size]? = some (.cells #[.int .i64 f, .int .i64 t, .int .i64 i, .int .i64 (c : Int), .int .i64 x] 64 (0, 0))) := xa
  have HK1 : Hid (Kp (ArX B G) w V1) := kp_below HB.out _
  clear x3 x5 trk hb xa HB
  generalize w.heap.size = bx at *
  have q1 := eql77 ⟨pg, 0, none⟩ lw pc
  go_wp2
  go_quiet (fail)
  have HA2 : Hid (Ar base (V1.drewN nq) B M G) := HA.out.below (below_drewN (Below.refl _ _) _)
  have xa := ((below_drewN (Below.refl V1.heap.size V1) nq).block bx (lt_at HXA.out)).trans HXA.out
  have HK2 : Hid (Kp (ArX B G) w (V1.drewN nq)) := HK1.out.trans (kp_below (below_drewN (Below.refl _ _) _) _)
  clear c3 c5 t3 ac HA HXA HK1 nc
  generalize V1.drewN nq = V2 at *
  have a3 := cell_of_row _ _ 3 _ _ _ xa
  have ac := HA2.out.row.cell c (by omega)
  rw [show gv G c = pr.1 by unfold gv; rw [HP.out], HSE.out] at ac
  clear xa
  have K60 := add_any base pr.1 M v pr.2 V2 (HA2.out.set c pr HP.out).1 hv (by omega)
  rw [HSE.out] at K60
  go_wp2_with (go_at_call 60; (with_reducible refine K60.mono ?_); clear K60; rintro e w3 ⟨rfl, hs3, hg3⟩; rw [← HSE.out] at hs3 hg3; have HF : Hid (Ar base w3 B M (upg G c (pr.1, put pr.2 v)) ∧ Kp (ArX B G) w w3) := ⟨HA2.out.put HP.out hs3 (by rw [put_len]; exact (HA2.out.set c pr HP.out).2) hg3, kp_then' HK2.out ((Kp.refl (fun b => pr.1.ownBlock = some b) _).grown hg3 (fun b hb _ => hb)) (fun i _ e => .inr ⟨c, pr, HP.out, e⟩)⟩; clear hs3 hg3)
  go_end0
  exact ⟨rfl, _, HF.out.1, HF.out.2, fun _ => gat_put HP.out HLW.out.2, fun h => absurd HN.out h⟩
end Go.Proofs.YtfjocafepigijaaDoor.Ot
