/- slices.Backward over words; next: the choice that follows. Condition: the words lie below the choice's block. -/
import Derived.Test.YtbmgkgoghgdbhaaQd
import Derived.Test.YtbmgkgoghgdbhaaQh
import Derived.Shelf.Abstract
import Derived.Shelf.RegionOpen
import Derived.OwnWalkIn
import Derived.TacticsInMore
import Derived.LoopNIn
import Derived.LoopIn
import Derived.Deep.CutRange
namespace Go.Proofs.Ytbmgkgoghgdbhaa.Te
open Go.RowKit Go.Shelf Qh
attribute [local go_sem] Oper.semAt_some

abbrev El := Nat × Nat × Option Addr × Nat
def encs (x : El) : Array Value := #[.int .i64 (x.1 : Int), .slice x.2.2.1 x.2.1 x.2.2.2]
/-- the next one: the last of those that have not come -/
def Lie (ws : List (List Ty)) (pre : List El) (x : El) : Prop := x.1 + pre.length + 1 = ws.length ∧ ∃ h : x.1 < ws.length, x.2.1 = ws[x.1].length

theorem back_any (v : Value) (w : World) (hv : ∃ a m k, v = .slice a m k) : Calls Try.prog 79 #[v] w fun e w' => e = .returned (.func (.func 90) #[] #[.pointer (some ⟨w.heap.size, 0, none⟩)]) ∧ w' = w.alloc (.cells #[v] 49) := by
  obtain ⟨a, m, k, rfl⟩ := hv
  go_enter Try.func79, Try.ntmps79
  go_wp2
  go_ret
  exact ⟨rfl, rfl⟩

/-- the words' own cells -/
def WsB (w : World) (ws : List (List Ty)) (gb off : Nat) : Prop := gb < w.heap.size ∧ ∀ i (h : i < ws.length), ∃ a' c', w.cell? ⟨gb, off + i, none⟩ = some (.slice a' ws[i].length c')
theorem cell_blk {w w' : World} {b i : Nat} (h : w'.heap[b]? = w.heap[b]?) : w'.cell? ⟨b, i, none⟩ = w.cell? ⟨b, i, none⟩ := by
  simp only [World.cell?, h]
theorem WsB.of_block {A C : World} {gb off : Nat} {ws : List (List Ty)} (h : WsB A ws gb off) (hs : A.heap.size ≤ C.heap.size) (e : C.heap[gb]? = A.heap[gb]?) : WsB C ws gb off := by
  refine ⟨Nat.lt_of_lt_of_le h.1 hs, fun i hi => ?_⟩
  obtain ⟨a', c', hc⟩ := h.2 i hi
  exact ⟨a', c', (cell_blk e).trans hc⟩

set_option maxHeartbeats 4000000 in
set_option maxRecDepth 100000 in
theorem back_tells (ws : List (List Ty)) (gb off cap B n : Nat) (w : World) (hn : 1 ≤ n) (hl : ws.length ≤ 1000) (hZ : WsB w ws gb off) (hB : w.heap[B]? = some (.cells #[.slice (some ⟨gb, off, none⟩) ws.length cap] 49 (0, 0))) :
    Tells Fence.wide n Try.prog 90 #[.pointer (some ⟨B, 0, none⟩)] encs (Lie ws) (fun k => k = B ∨ k = gb) (fun xs => xs.length = ws.length) w := by
  intro l J Z O W hW hJ hZZ hO hY h0
  have hBl := (Array.getElem?_eq_some_iff.1 hB).1
  have hgl := hZ.1
  have hZW : WsB W ws gb off := hZ.of_block hW.size (hW.block gb hgl)
  have hBW : W.heap[B]? = some (.cells #[.slice (some ⟨gb, off, none⟩) ws.length cap] 49 (0, 0)) := (hW.block B hBl).trans hB
  have p1 : W.cell? ⟨B, 0, none⟩ = some (.slice (some ⟨gb, off, none⟩) ws.length cap) := cell_of_row _ _ 0 _ 49 (0, 0) hBW
  clear hB hZ
  show CallsIn Fence.wide n Try.prog 90 #[.func (.yield l) #[] #[], .pointer (some ⟨B, 0, none⟩)] W _
  refine callsIn_of_wp Try.func90 rfl trivial ?_ rfl
  simp only [Try.ntmps90, List.size_toArray, List.length_cons, List.length_nil, Nat.reduceAdd, Nat.reduceSub, Array.replicate_succ, Array.replicate_zero, List.push_toArray, List.append_toArray, List.nil_append, List.cons_append]
  gi_wp2
  gi_loopw [3] (fun i wr => ∃ (j : Nat) (pre : List El), i = .int .i64 ((j : Int) - 1) ∧ j + pre.length = ws.length ∧ J pre wr ∧ WsB wr ws gb off ∧ wr.heap[B]? = some (.cells #[.slice (some ⟨gb, off, none⟩) ws.length cap] 49 (0, 0)))
    (fun i _ => (intOf i + 1).toNat)
  case atStart => exact ⟨ws.length, [], by first | rfl | go_num, rfl, h0, hZW, hBW⟩
  case round =>
    obtain ⟨j, pre, rfl, hj, hJs, hZr, hBr⟩ := hrel
    clear hZW hBW p1 h0
    cases j with
    | zero =>
      gi_wp2
      go_end0
      exact ⟨⟨_, rfl⟩, .inl ⟨pre, by omega, hJs⟩⟩
    | succ m =>
      have hm : m < ws.length := by omega
      obtain ⟨a', c', c0⟩ := hZr.2 m hm
      have e1 : ((m + 1 : Nat) : Int) - 1 = (m : Int) := by omega
      rw [e1]
      have p1 : wr.cell? ⟨B, 0, none⟩ = some (.slice (some ⟨gb, off, none⟩) ws.length cap) := cell_of_row _ _ 0 _ 49 (0, 0) hBr
      have hL : Lie ws pre (m, ws[m].length, a', c') := ⟨by dsimp only; omega, hm, rfl⟩
      obtain ⟨fn, tmps, assign, body, hy, hR⟩ := hY pre _ wr hJs hL
      dsimp only [encs] at hy
      have hBr' : Hid (wr.heap[B]? = some (.cells #[.slice (some ⟨gb, off, none⟩) ws.length cap] 49 (0, 0))) := hBr
      have hbl : B < wr.heap.size := (Array.getElem?_eq_some_iff.1 hBr).1
      have hgl' : gb < wr.heap.size := hZr.1
      have HZ : Hid (WsB wr ws gb off) := hZr
      clear hL hY hBr hZr
      gi_wp2
      refine hR.mono ?_
      rintro e W4 ⟨hk4, ⟨rfl, hJ4⟩ | ⟨rfl, hZ4⟩⟩
      · gi_wp2
        go_roundw
        case rel =>
          exact ⟨m, pre ++ [(m, ws[m].length, a', c')], by go_num, by simp; omega, hJ4, HZ.out.of_block hk4.size (hk4.block gb hgl' (fun h => hO _ h (.inr rfl))), (hk4.block B hbl (fun h => hO _ h (.inl rfl))).trans hBr'.out⟩
        case measure => simp [intOf]
      · gi_wp2
        refine bodyPost_ret (results_none rfl _ _ _) rfl ?_
        exact ⟨⟨_, rfl⟩, .inr hZ4⟩
end Go.Proofs.Ytbmgkgoghgdbhaa.Te
