/- write (101) walked: the sets of nodes that are come to by writing a symbol. Conditions: as in spread. -/
import Derived.Test.YtfjocafepigijaaDoorUk
namespace Go.Proofs.YtfjocafepigijaaDoor.Ot
open Go.RowKit Mv Sy Po Ps Cm Pa Am Wd St Ra Set

/-- sets by symbols, without their array -/
structure Gs (base : Nat) (w : World) (M : Nat) (G : Gt) : Prop where
  set : ∀ c p, G c = some p → IsSet w base p.1 M p.2 ∧ p.2.length = (M + 63) / 64
  apart : ∀ c c' p p', c ≠ c' → G c = some p → G c' = some p' → ∀ b, p.1.ownBlock = some b → p'.1.ownBlock ≠ some b
def WrQ (w : World) (S M left : Nat) (tx : List Int) (A : List Arc) (N : Nat → Nat) (vS : Value) (ws0 : List Nat) (e : Ending) (w' : World) : Prop :=
  ∃ ws G, e = .returned (.agg (ca (gv G))) ∧ Sd S tx A N left M (mem ws0) (mem ws) [] (mg G) none [] ∧ Ne G ∧ Gs w.heap.size w' M G ∧ Kp (fun b => vS.ownBlock = some b) w w'
theorem gv_one {base M : Nat} {w : World} {G : Gt} (h : ∀ c p, G c = some p → IsSet w base p.1 M p.2 ∧ p.2.length = (M + 63) / 64) (j : Nat) : (gv G j).oneCell' = true := by
  unfold gv
  cases hg : G j with
  | none => rfl
  | some p =>
    obtain ⟨a, c, hv⟩ := oslice (h j p hg).1.1
    dsimp only
    rw [hv]; rfl
theorem kp_row (w : World) (b : Nat) (c : Array Value) : Kp (fun k => k = b) w (w.setRow b c) := ⟨rfl, rfl, rfl, by simp [World.setRow], fun k _ hn => setRow_other w b k c hn⟩
set_option maxHeartbeats 8000000 in
set_option maxRecDepth 100000 in
theorem write_any (b2 b0 T S sb ci nb cN M left : Nat) (ai : Option Addr) (tx : List Int) (A : List Arc) (V : Nat → Value) (N : Nat → Nat) (vS : Value) (ws0 : List Nat) (w : World)
    (hT : Tr b2 w T S sb ci nb cN M ai tx (rws (fun a => a) A) V N) (hF : Fine S tx A M) (hTab : TabAt 0 Lib.deBruijn64tab w) (hset : IsSet w b0 vS M ws0) (hlen : ws0.length = (M + 63) / 64) (hvg : ∀ b, vS.ownBlock = some b → b2 ≤ b) (hmb : ∀ v, mem ws0 v = true → v < M) :
    Calls Tryd.prog 101 #[.pointer (some ⟨T, 0, none⟩), vS, .int .i64 (left : Int)] w (WrQ w S M left tx A N vS ws0) := by
  have hz := z147
  obtain ⟨sa, scap, hvS⟩ := oslice hset.1
  obtain ⟨W4, hW4⟩ : ∃ W4, (((w.alloc (.cells #[.pointer (some ⟨T, 0, none⟩)] 60)).alloc (.cells #[.int .i64 (left : Int)] 3)).alloc (.cells (ca fun _ => .slice none 0 0) 147)).alloc (.cells (ca fun _ => .slice none 0 0) 147) = W4 := ⟨_, rfl⟩
  have b1 := (Below.refl w.heap.size w).alloc (Nat.le_refl _) (.cells #[.pointer (some ⟨T, 0, none⟩)] 60)
  have b2' := b1.alloc b1.size (.cells #[.int .i64 (left : Int)] 3)
  have b3 := b2'.alloc b2'.size (.cells (ca fun _ => .slice none 0 0) 147)
  have b4 := b3.alloc b3.size (.cells (ca fun _ => .slice none 0 0) 147)
  rw [hW4] at b4
  have s1 : (w.alloc (.cells #[.pointer (some ⟨T, 0, none⟩)] 60)).heap.size = w.heap.size + 1 := by simp
  have s2 : ((w.alloc (.cells #[.pointer (some ⟨T, 0, none⟩)] 60)).alloc (.cells #[.int .i64 (left : Int)] 3)).heap.size = w.heap.size + 2 := by simp
  have s3 : (((w.alloc (.cells #[.pointer (some ⟨T, 0, none⟩)] 60)).alloc (.cells #[.int .i64 (left : Int)] 3)).alloc (.cells (ca fun _ => .slice none 0 0) 147)).heap.size = w.heap.size + 3 := by simp
  have x3 : W4.heap[w.heap.size]? = some (.cells #[.pointer (some ⟨T, 0, none⟩)] 60 (0, 0)) := by
    rw [← hW4]
    exact (heap_alloc_old _ _ (by rw [s3]; omega)).trans ((heap_alloc_old _ _ (by rw [s2]; omega)).trans ((heap_alloc_old _ _ (by rw [s1]; omega)).trans (heap_alloc_new _ _)))
  have x5 : W4.heap[w.heap.size + 1]? = some (.cells #[.int .i64 (left : Int)] 3 (0, 0)) := by
    rw [← hW4]
    refine (heap_alloc_old _ _ (by rw [s3]; omega)).trans ((heap_alloc_old _ _ (by rw [s2]; omega)).trans ?_)
    rw [← s1]; exact heap_alloc_new _ _
  have x6 : Arr W4 (w.heap.size + 2) (fun _ => .slice none 0 0) := by
    rw [← hW4]
    refine (heap_alloc_old _ _ (by rw [s3]; omega)).trans ?_
    rw [← s2]; exact heap_alloc_new _ _
  have x7 : Arr W4 (w.heap.size + 3) (fun _ => .slice none 0 0) := by
    rw [← hW4, ← s3]; exact heap_alloc_new _ _
  have h00 : 0 < w.heap.size := Nat.lt_of_le_of_lt (Nat.zero_le _) (lt_at hT.trk)
  have K := spread_any b2 b0 T S sb ci nb cN M w.heap.size (w.heap.size + 1) left (w.heap.size + 3) ai tx A V N vS ws0 W4 (hT.below (b4.mono hT.le)) hF (Tz.tab_below hTab h00 b4) x3 x5 x7 (Nat.le_trans hT.le (Nat.le_add_right _ _)) ⟨own_kp2 hset.1 (kp_below b4 (fun _ => False)) (fun _ _ => id), hset.2⟩ hlen hvg hmb
  have HB4 : Hid (Below w.heap.size w W4) := b4
  have HX6 : Hid (Arr W4 (w.heap.size + 2) (fun _ => .slice none 0 0)) := x6
  have HVL : Hid (∀ b, vS.ownBlock = some b → b < w.heap.size) := fun b hb => (hset.1.lt _ hb).2
  have c3 := cell_of_row _ _ 0 _ _ _ x3
  have c5 := cell_of_row _ _ 0 _ _ _ x5
  have HVS : Hid (vS = .slice sa ws0.length scap) := hvS
  rw [hvS] at K
  rw [hvS]
  clear hT hF hTab hset hlen hvg hmb b1 b2' b3 b4 s1 s2 s3 x3 x5 x6 x7 hvS
  go_enter Tryd.func101, Tryd.ntmps101
  go_upto_region 2 with fail
  rw [show w.heap.size + 1 + 1 + 1 = w.heap.size + 3 from rfl, show w.heap.size + 1 + 1 = w.heap.size + 2 from rfl]
  obtain ⟨B, hB⟩ : ∃ B, w.heap.size + 3 = B := ⟨_, rfl⟩
  obtain ⟨t6, ht6⟩ : ∃ t6, w.heap.size + 2 = t6 := ⟨_, rfl⟩
  obtain ⟨p5, hp5⟩ : ∃ p5, w.heap.size + 1 = p5 := ⟨_, rfl⟩
  obtain ⟨p3, hp3⟩ : ∃ p3, w.heap.size = p3 := ⟨_, rfl⟩
  have HEQ : Hid (w.heap.size ≤ t6 ∧ t6 ≠ B ∧ w.heap.size ≤ B) := ⟨by omega, by omega, by omega⟩
  rw [hB, hp5, hp3] at K
  rw [ht6] at HX6
  rw [hp5] at c5
  rw [hp3] at c3
  rw [hB, ht6, hp5, hp3]
  clear hB ht6 hp5 hp3 hW4 hz
  go_upto_region 3 with (go_at_call 103; (with_reducible refine K.mono ?_); clear K; rintro e w5 ⟨rfl, ws, vt, G, hsw, hsd, hne⟩; rw [← HVS.out] at hsw; have HSW : Hid (Sw b2 b0 W4 w5 T S sb ci nb cN M ai tx (rws (fun a => a) A) V N p3 p5 left B vS ws vt [] G) := hsw; have HSD : Hid (Sd S tx A N left M (mem ws0) (mem ws) [] (mg G) none [] ∧ Ne G) := ⟨hsd, hne⟩; clear hsw hsd hne)
  have hA7 := HSW.out.ar.row
  have hA6 : Arr w5 t6 (fun _ => .slice none 0 0) := (HSW.out.kp.block t6 HX6.out.lt (fun e => by
    rcases e with e | e
    · have := HVL.out t6 e; have := HEQ.out.1; omega
    · exact HEQ.out.2.1 e)).trans HX6.out
  have hone := gv_one (fun c p h => HSW.out.ar.set c p h)
  have HA6 : Hid (Arr (w5.setRow t6 (ca (gv G))) t6 (gv G)) := hA6.row _
  clear c3 c5
  go_wp2_with (first
    | (with_reducible show wpList _ _ _ ({ dst := _, op := Op.load 147 _, type := _, pos := _, after := _, guard := _ } :: _) _ _; refine wpList_ld rfl (.tmp 7) rfl _ _ rfl hA7 ?_)
    | (with_reducible show wpList _ _ _ ({ dst := _, op := Op.store 147 _ _, type := _, pos := _, after := _, guard := _ } :: _) _ _; refine wpList_st rfl (.tmp 6) (.tmp 13) rfl _ _ _ hone rfl rfl hA6 ?_))
  try simp only [Exit.inBlock, Exit.then]
  refine bodyPost_ret (results_arr rfl rfl HA6.out) rfl ?_
  rw [← HVS.out]
  have hk1 : Kp (fun k => k = t6) w5 (w5.setRow t6 (ca (gv G))) := kp_row _ _ _
  have hz : w.heap.size ≤ W4.heap.size := HB4.out.size
  refine ⟨ws, G, rfl, HSD.out.1, HSD.out.2, ⟨fun c p hp => ?_, HSW.out.ar.apart⟩, kp_then (kp_then (kp_below HB4.out (fun b => vS.ownBlock = some b)) HSW.out.kp (fun i hi e => ?_)) hk1 (fun i hi e => ?_)⟩
  · have h1 := HSW.out.ar.set c p hp
    refine ⟨⟨own_kp2 (own_low h1.1.1 hz) hk1 (fun b hb e => ?_), h1.1.2⟩, h1.2⟩
    have h2 := (h1.1.1.lt _ hb).1
    have h3 := HX6.out.lt
    omega
  · rcases e with e | e
    · exact e
    · have := HEQ.out.2.2; omega
  · have := HEQ.out.1; omega
end Go.Proofs.YtfjocafepigijaaDoor.Ot
