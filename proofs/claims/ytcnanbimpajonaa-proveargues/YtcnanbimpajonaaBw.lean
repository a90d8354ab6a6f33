/- slices.Backward over lines: it hands on each line with its number, the last one first. Condition: the list lies in a block of its own. -/
import Derived.Test.YtcnanbimpajonaaAg
import Derived.Test.YtcnanbimpajonaaRf
import Derived.Shelf.Abstract
import Derived.Shelf.RegionOpen
import Derived.OwnWalkIn
import Derived.TacticsInMore
import Derived.LoopNIn
import Derived.LoopIn
namespace Go.Proofs.Ytcnanbimpajonaa.Bw
open Go.RowKit Go.Shelf Cl Nu Ag Rf
attribute [local go_sem] Oper.semAt_some

abbrev El := Nat × (Ln × Value)
def encs (x : El) : Array Value := #[.int .i64 (x.1 : Int), .agg #[.int .i64 x.2.1.1, .bool x.2.1.2.1.1, .int .i64 x.2.1.2.1.2.1, .int .i64 x.2.1.2.1.2.2, x.2.2]]
/-- the next one: the last of those that have not come -/
def Lie (Z : List (Ln × Value)) (pre : List El) (x : El) (_ : World) : Prop := x.1 + pre.length + 1 = Z.length ∧ Z[x.1]? = some x.2

theorem back_any (v : Value) (w : World) (hv : ∃ a m k, v = .slice a m k) : Calls Try.prog 33 #[v] w fun e w' => e = .returned (.func (.func 48) #[] #[.pointer (some ⟨w.heap.size, 0, none⟩)]) ∧ w' = w.alloc (.cells #[v] 25) := by
  obtain ⟨a, m, k, rfl⟩ := hv
  go_enter Try.func33, Try.ntmps33
  go_wp2
  go_ret
  exact ⟨rfl, rfl⟩

/-- the lines lie in a block -/
def LiesZ (A : World) (gb : Nat) (Z : List (Ln × Value)) : Prop := ∃ cur, A.heap[gb]? = some (.cells cur 38 (0, 0)) ∧ ∀ (j : Nat) (u : Value), (zcs Z)[j]? = some u → cur[j]? = some u
theorem LiesZ.of_block {A C : World} {gb : Nat} {Z : List (Ln × Value)} (h : LiesZ A gb Z) (e : C.heap[gb]? = A.heap[gb]?) : LiesZ C gb Z := by
  obtain ⟨cur, h1, h2⟩ := h
  exact ⟨cur, e.trans h1, h2⟩
theorem LiesZ.cell {A : World} {gb : Nat} {Z : List (Ln × Value)} (h : LiesZ A gb Z) {j : Nat} {u : Value} (hu : (zcs Z)[j]? = some u) : A.cell? ⟨gb, j, none⟩ = some u := by
  obtain ⟨cur, h1, h2⟩ := h
  rw [cell_of_row A gb j cur 38 (0, 0) h1]
  exact h2 j u hu

set_option maxHeartbeats 4000000 in
set_option maxRecDepth 100000 in
theorem back_tells (Z : List (Ln × Value)) (gb cap B n : Nat) (w : World) (hn : 1 ≤ n) (hl : Z.length ≤ 100000) (hZ : LiesZ w gb Z) (hB : w.heap[B]? = some (.cells #[.slice (some ⟨gb, 0, none⟩) Z.length cap] 25 (0, 0))) (hs : ∀ z ∈ Z, ∃ a m k, z.2 = .slice a m k) :
    Tells Fence.wide n Try.prog 48 #[.pointer (some ⟨B, 0, none⟩)] encs (Lie Z) (fun k => k = B ∨ k = gb) (fun xs => xs.length = Z.length) w := by
  intro l J O₀ W hW hJ hO hY h0
  have hBl := (Array.getElem?_eq_some_iff.1 hB).1
  obtain ⟨cur, hgb, _⟩ := id hZ
  have hgl := (Array.getElem?_eq_some_iff.1 hgb).1
  have hZW : LiesZ W gb Z := hZ.of_block (hW.block gb hgl)
  have hBW : W.heap[B]? = some (.cells #[.slice (some ⟨gb, 0, none⟩) Z.length cap] 25 (0, 0)) := (hW.block B hBl).trans hB
  have p1 : W.cell? ⟨B, 0, none⟩ = some (.slice (some ⟨gb, 0, none⟩) Z.length cap) := cell_of_row _ _ 0 _ 25 (0, 0) hBW
  clear hB hZ hgb
  show CallsIn Fence.wide n Try.prog 48 #[.func (.yield l) #[] #[], .pointer (some ⟨B, 0, none⟩)] W _
  refine callsIn_of_wp Try.func48 rfl trivial ?_ rfl
  simp only [Try.ntmps48, List.size_toArray, List.length_cons, List.length_nil, Nat.reduceAdd, Nat.reduceSub, Array.replicate_succ, Array.replicate_zero, List.push_toArray, List.append_toArray, List.nil_append, List.cons_append]
  gi_wp2
  gi_loopw [3] (fun i wr => ∃ (j : Nat) (pre : List El) (O : Nat → Prop), i = .int .i64 ((j : Int) - 1) ∧ j + pre.length = Z.length ∧ J pre O wr ∧ LiesZ wr gb Z ∧ wr.heap[B]? = some (.cells #[.slice (some ⟨gb, 0, none⟩) Z.length cap] 25 (0, 0)))
    (fun i _ => (intOf i + 1).toNat)
  case atStart => exact ⟨Z.length, [], O₀, by first | rfl | go_num, rfl, h0, hZW, hBW⟩
  case round =>
    obtain ⟨j, pre, O, rfl, hj, hJs, hZr, hBr⟩ := hrel
    clear hZW hBW p1 h0
    cases j with
    | zero =>
      gi_wp2
      go_end0
      exact ⟨⟨_, rfl⟩, pre, O, by omega, hJs⟩
    | succ m =>
      have hm : m < Z.length := by omega
      have hat := zcs_at Z m hm
      obtain ⟨⟨⟨r, ⟨s0, s1, s2⟩, fr⟩, fv⟩, hz⟩ : ∃ z, Z[m] = z := ⟨_, rfl⟩
      have hfv := hs _ (List.getElem_mem hm)
      rw [hz] at hat hfv
      obtain ⟨fa, fm, fk, hfv⟩ := hfv
      dsimp only at hfv hat
      subst hfv
      have e1 : ((m + 1 : Nat) : Int) - 1 = (m : Int) := by omega
      rw [e1]
      have c0 := hZr.cell hat.1
      have c1 := hZr.cell hat.2.1
      have c2 := hZr.cell hat.2.2.1
      have c3 := hZr.cell hat.2.2.2.1
      have c4 := hZr.cell hat.2.2.2.2
      have p1 : wr.cell? ⟨B, 0, none⟩ = some (.slice (some ⟨gb, 0, none⟩) Z.length cap) := cell_of_row _ _ 0 _ 25 (0, 0) hBr
      have hL : Lie Z pre (m, ((r, (s0, s1, s2), fr), .slice fa fm fk)) wr := ⟨by dsimp only; omega, by rw [List.getElem?_eq_getElem hm, hz]⟩
      obtain ⟨fn, tmps, assign, body, hy, hR⟩ := hY pre O _ wr hJs hL
      dsimp only [encs] at hy
      have hBr' : Hid _ := hBr
      have hbl : B < wr.heap.size := (Array.getElem?_eq_some_iff.1 hBr).1
      have hgl' : gb < wr.heap.size := by obtain ⟨c, hc, _⟩ := hZr; exact (Array.getElem?_eq_some_iff.1 hc).1
      have HZ : Hid (LiesZ wr gb Z) := hZr
      clear hat hz hL hY hBr hZr
      gi_wp2
      refine hR.mono ?_
      rintro e W4 ⟨rfl, O', hJ4, hk4⟩
      gi_wp2
      go_roundw
      case rel =>
        exact ⟨m, pre ++ [(m, ((r, (s0, s1, s2), fr), .slice fa fm fk))], O', by go_num, by simp; omega, hJ4, HZ.out.of_block (hk4.block gb hgl' (fun h => (hO _ _ _ _ hJs h).1 (.inr rfl))).2, (hk4.block B hbl (fun h => (hO _ _ _ _ hJs h).1 (.inl rfl))).2.trans hBr'.out⟩
      case measure => simp [intOf]
end Go.Proofs.Ytcnanbimpajonaa.Bw
