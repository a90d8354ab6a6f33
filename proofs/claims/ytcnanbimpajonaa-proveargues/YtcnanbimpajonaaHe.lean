/- Holds, CheckWorld, HoldsIn: what the program and the document say of a claim in a world. No conditions. -/
import Derived.Test.YtcnanbimpajonaaHd
import Derived.Test.YtcnanbimpajonaaCo
import Derived.Deep.QuietTactic
import Derived.Shelf.Abstract
namespace Go.Proofs.Ytcnanbimpajonaa.He
open Go.RowKit Cl Cf Hd Co

def nobodyB (x : Int) : Bool := decide (x < 0) || decide (64 ≤ x)
def bothB (c : C) (x : Int) : Bool := isP x c.2.1 && isP x c.2.2
def offB (c : C) (x : Int) : Bool := isP x c.2.1 && !isP x c.2.2
def holdsP (xs : List Int) (c : C) : Bool := if c.1 then xs.any (bothB c) else !xs.any (offB c)
def worldE (xs : List Int) : Int := if 64 < xs.length then 7 else if xs.any nobodyB then 3 else 0
def holdsE (xs : List Int) (c : C) : Int := if worldE xs = 0 then ckC c else worldE xs
def holdsR (xs : List Int) (c : C) : Bool := decide (holdsE xs c = 0) && holdsP xs c

theorem IsI.below {w w' : World} {v : Value} {xs : List Int} (h : IsI w v xs) (hb : Below w.heap.size w w') : IsI w' v xs := Row.below h hb
theorem nobody_any (x : Int) (w : World) : Calls Try.prog 26 #[.int .i64 x] w fun e w' => e = .returned (.bool (nobodyB x)) ∧ w' = w := by
  unfold nobodyB
  by_cases h1 : x < 0
  · rw [decide_eq_true h1]
    go_enter Try.func26, Try.ntmps26
    go_wp2
    go_ret
    exact ⟨rfl, rfl⟩
  · by_cases h2 : 64 ≤ x
    · rw [decide_eq_true h2, decide_eq_false h1]
      go_enter Try.func26, Try.ntmps26
      go_wp2
      go_ret
      exact ⟨rfl, rfl⟩
    · rw [decide_eq_false h2, decide_eq_false h1]
      go_enter Try.func26, Try.ntmps26
      go_wp2
      go_ret
      exact ⟨rfl, rfl⟩

set_option maxHeartbeats 2000000 in
theorem both_any (c0 : Bool) (c1 c2 : Int) (x : Nat) (b : Nat) (w : World) (hb : w.heap[b]? = some (.cells #[.bool c0, .int .i64 c1, .int .i64 c2] 24 (0, 0))) (hx : x < 64) (hc : okC (c0, c1, c2) = true) :
    Calls Try.prog 42 #[.int .i64 (x : Int), .pointer (some ⟨b, 0, none⟩)] w fun e w' => e = .returned (.bool (bothB (c0, c1, c2) x)) ∧ w' = w := by
  unfold okC at hc
  simp only [Bool.and_eq_true] at hc
  have q1 := cell_of_row _ _ 1 _ 24 (0, 0) hb
  have q2 := cell_of_row _ _ 2 _ 24 (0, 0) hb
  dsimp at q1 q2
  have k1 := is_any x c1 w hx hc.1
  have k2 := is_any x c2 w hx hc.2
  unfold bothB
  dsimp only
  clear hb hc
  cases h1 : isP x c1 <;> cases h2 : isP x c2
  all_goals
    rw [h1] at k1
    rw [h2] at k2
    clear h1 h2
    go_enter Try.func42, Try.ntmps42
    go_wp2_with (go_at_call 43; first | (with_reducible refine k1.mono ?_; rintro e w2 ⟨rfl, rfl⟩) | (with_reducible refine k2.mono ?_; rintro e w2 ⟨rfl, rfl⟩))
    go_ret
    exact ⟨rfl, rfl⟩
set_option maxHeartbeats 2000000 in
theorem off_any (c0 : Bool) (c1 c2 : Int) (x : Nat) (b : Nat) (w : World) (hb : w.heap[b]? = some (.cells #[.bool c0, .int .i64 c1, .int .i64 c2] 24 (0, 0))) (hx : x < 64) (hc : okC (c0, c1, c2) = true) :
    Calls Try.prog 44 #[.int .i64 (x : Int), .pointer (some ⟨b, 0, none⟩)] w fun e w' => e = .returned (.bool (offB (c0, c1, c2) x)) ∧ w' = w := by
  unfold okC at hc
  simp only [Bool.and_eq_true] at hc
  have q1 := cell_of_row _ _ 1 _ 24 (0, 0) hb
  have q2 := cell_of_row _ _ 2 _ 24 (0, 0) hb
  dsimp at q1 q2
  have k1 := is_any x c1 w hx hc.1
  have k2 := is_any x c2 w hx hc.2
  unfold offB
  dsimp only
  clear hb hc
  cases h1 : isP x c1 <;> cases h2 : isP x c2
  all_goals
    rw [h1] at k1
    rw [h2] at k2
    clear h1 h2
    go_enter Try.func44, Try.ntmps44
    go_wp2_with (go_at_call 43; first | (with_reducible refine k1.mono ?_; rintro e w2 ⟨rfl, rfl⟩) | (with_reducible refine k2.mono ?_; rintro e w2 ⟨rfl, rfl⟩))
    go_ret
    exact ⟨rfl, rfl⟩

def Low (xs : List Int) : Prop := ∀ x ∈ xs, 0 ≤ x ∧ x < 64
set_option maxHeartbeats 2000000 in
theorem holds_any (xs : List Int) (c : C) (v : Value) (w : World) (h : IsI w v xs) (hl : xs.length ≤ 64) (hx : Low xs) (hc : okC c = true) : Calls Try.prog 27 #[v, vc c] w fun e w' => e = .returned (.bool (holdsP xs c)) ∧ Below w.heap.size w w' := by
  obtain ⟨c0, c1, c2⟩ := c
  have hb0 : ∀ o, Below w.heap.size w (w.alloc o) := fun o => (Below.refl _ w).alloc (Nat.le_refl _) o
  have hI : IsI (w.alloc (.cells #[.bool c0, .int .i64 c1, .int .i64 c2] 24)) v xs := IsI.below h (hb0 _)
  have bx : ∀ W, Below (w.alloc (.cells #[.bool c0, .int .i64 c1, .int .i64 c2] 24)).heap.size (w.alloc (.cells #[.bool c0, .int .i64 c1, .int .i64 c2] 24)) W → W.heap[w.heap.size]? = some (.cells #[.bool c0, .int .i64 c1, .int .i64 c2] 24 (0, 0)) := fun W hW => (hW.block _ (by simp)).trans (heap_alloc_new w _)
  have k23 := contains_any 42 #[.pointer (some ⟨w.heap.size, 0, none⟩)] (bothB (c0, c1, c2)) v xs _ hI (by omega) ⟨enters_of Try.func42 (by kernel_rfl) rfl, fun W x hW hm => by
    obtain ⟨n, rfl⟩ : ∃ n : Nat, x = (n : Int) := ⟨x.toNat, by have := (hx x hm).1; omega⟩
    exact (both_any c0 c1 c2 n w.heap.size W (bx W hW) (by have := (hx _ hm).2; omega) hc).mono fun e w' ⟨h1, h2⟩ => ⟨h1, by rw [h2]; exact Below.refl _ _⟩⟩
  have k25 := contains_any 44 #[.pointer (some ⟨w.heap.size, 0, none⟩)] (offB (c0, c1, c2)) v xs _ hI (by omega) ⟨enters_of Try.func44 (by kernel_rfl) rfl, fun W x hW hm => by
    obtain ⟨n, rfl⟩ : ∃ n : Nat, x = (n : Int) := ⟨x.toNat, by have := (hx x hm).1; omega⟩
    exact (off_any c0 c1 c2 n w.heap.size W (bx W hW) (by have := (hx _ hm).2; omega) hc).mono fun e w' ⟨h1, h2⟩ => ⟨h1, by rw [h2]; exact Below.refl _ _⟩⟩
  obtain ⟨_, a, cc, rfl, _, _⟩ := h
  unfold vc holdsP
  dsimp only
  clear bx hI hx hc
  cases c0 with
  | true =>
    rw [if_pos rfl]
    clear k25
    go_enter Try.func27, Try.ntmps27
    go_wp2_with (go_at_call 25; refine k23.mono ?_; rintro e w2 ⟨rfl, hb2⟩)
    go_ret
    exact ⟨rfl, (hb0 _).trans (hb2.mono (hb0 _).size)⟩
  | false =>
    rw [if_neg (by decide)]
    clear k23
    go_enter Try.func27, Try.ntmps27
    go_wp2_with (go_at_call 25; refine k25.mono ?_; rintro e w2 ⟨rfl, hb2⟩)
    go_ret
    exact ⟨rfl, (hb0 _).trans (hb2.mono (hb0 _).size)⟩
theorem low_of {xs : List Int} (h : xs.any nobodyB = false) : Low xs := by
  intro x hx
  have := List.any_eq_false.1 h x hx
  unfold nobodyB at this
  simp at this
  omega

set_option maxHeartbeats 2000000 in
theorem Holds_any (xs : List Int) (c : C) (v : Value) (w : World) (h : IsI w v xs) : Calls Try.prog 15 #[v, vc c] w fun e w' => e = .returned (.tuple #[.bool (holdsR xs c), .int .i64 (holdsE xs c)]) ∧ Below w.heap.size w w' := by
  have hb0 : ∀ o, Below w.heap.size w (w.alloc o) := fun o => (Below.refl _ w).alloc (Nat.le_refl _) o
  have hI : ∀ W, Below w.heap.size w W → IsI W v xs := fun W hW => IsI.below h hW
  have k15 := fun W (hW : Below w.heap.size w W) (hl : xs.length ≤ 64) => contains_any 26 #[] nobodyB v xs W (hI W hW) (by omega) ⟨enters_of Try.func26 (by kernel_rfl) rfl, fun W x _ _ => (nobody_any x W).mono fun e w' ⟨h1, h2⟩ => ⟨h1, by rw [h2]; exact Below.refl _ _⟩⟩
  have k16 := fun W (hW : Below w.heap.size w W) hl hx hc => holds_any xs c v W (hI W hW) hl hx hc
  have k9 := fun W => check_any c W
  obtain ⟨_, a, cc, rfl, _, _⟩ := h
  obtain ⟨c0, c1, c2⟩ := c
  unfold vc at k9 k16 ⊢
  dsimp only at k9 k16 ⊢
  by_cases hl : 64 < xs.length
  · have e1 : holdsE xs (c0, c1, c2) = 7 := by unfold holdsE worldE; rw [if_pos hl]; rfl
    have e2 : holdsR xs (c0, c1, c2) = false := by unfold holdsR; rw [e1]; rfl
    rw [e1, e2]
    have hl' : (64 : Int) < (xs.length : Int) := by omega
    clear k9 k15 k16 hI e1 e2
    go_enter Try.func15, Try.ntmps15
    go_wp2
    go_ret2
    exact ⟨rfl, hb0 _⟩
  have hl' : ¬ (64 : Int) < (xs.length : Int) := by omega
  have k15' := fun W hW => k15 W hW (by omega)
  cases hn : xs.any nobodyB with
  | true =>
    have e1 : holdsE xs (c0, c1, c2) = 3 := by unfold holdsE worldE; rw [if_neg hl, if_pos hn]; rfl
    have e2 : holdsR xs (c0, c1, c2) = false := by unfold holdsR; rw [e1]; rfl
    rw [e1, e2]
    rw [hn] at k15'
    clear k9 k16 hI e1 e2 hn k15
    go_enter Try.func15, Try.ntmps15
    go_wp2_with (go_at_call 25; refine (k15' _ (hb0 _)).mono ?_; rintro e w2 ⟨rfl, hb2⟩)
    go_ret2
    exact ⟨rfl, (hb0 _).trans (hb2.mono (hb0 _).size)⟩
  | false =>
    have ew : worldE xs = 0 := by unfold worldE; rw [if_neg hl, hn]; rfl
    have e0 : holdsE xs (c0, c1, c2) = ckC (c0, c1, c2) := by unfold holdsE; rw [ew, if_pos rfl]
    rw [hn] at k15'
    have hlow := low_of hn
    clear hn k15 hI
    cases hok : okC (c0, c1, c2) with
    | false =>
      have e1 : ckC (c0, c1, c2) = 3 := by unfold ckC; rw [hok]; rfl
      rw [e1] at e0 k9
      have e2 : holdsR xs (c0, c1, c2) = false := by unfold holdsR; rw [e0]; rfl
      rw [e0, e2]
      clear k16 e0 e1 e2 hok hlow
      go_enter Try.func15, Try.ntmps15
      go_wp2_with (first | (go_at_call 25; refine (k15' _ (hb0 _)).mono ?_; rintro e w2 ⟨rfl, hb2⟩; have hw2 : Below w.heap.size w w2 := (hb0 _).trans (hb2.mono (hb0 _).size); have gb : w2.heap[w.heap.size]? = some (.cells #[.bool c0, .int .i64 c1, .int .i64 c2] 24 (0, 0)) := (hb2.block _ (by simp)).trans (heap_alloc_new w _); have g0 := cell_of_row _ _ 0 _ 24 (0, 0) gb; have g1 := cell_of_row _ _ 1 _ 24 (0, 0) gb; have g2 := cell_of_row _ _ 2 _ 24 (0, 0) gb; dsimp at g0 g1 g2; clear gb hb2) | (go_at_call 23; refine (k9 _).mono ?_; rintro e w3 ⟨rfl, hb3⟩; have hw3 : Below w.heap.size w w3 := hw2.trans (hb3.mono hw2.size); clear hb3))
      go_ret2
      exact ⟨rfl, hw3⟩
    | true =>
      have e1 : ckC (c0, c1, c2) = 0 := by unfold ckC; rw [hok]; rfl
      rw [e1] at e0 k9
      have e2 : holdsR xs (c0, c1, c2) = holdsP xs (c0, c1, c2) := by unfold holdsR; rw [e0]; rfl
      rw [e0, e2]
      have k16' := fun W hW => k16 W hW (by omega) hlow hok
      clear k16 e0 e1 e2 hok hlow
      obtain ⟨r, hr⟩ : ∃ r, holdsP xs (c0, c1, c2) = r := ⟨_, rfl⟩
      rw [hr] at k16' ⊢
      clear hr
      go_enter Try.func15, Try.ntmps15
      go_wp2_with (first | (go_at_call 25; refine (k15' _ (hb0 _)).mono ?_; rintro e w2 ⟨rfl, hb2⟩; have hw2 : Below w.heap.size w w2 := (hb0 _).trans (hb2.mono (hb0 _).size); have gb : w2.heap[w.heap.size]? = some (.cells #[.bool c0, .int .i64 c1, .int .i64 c2] 24 (0, 0)) := (hb2.block _ (by simp)).trans (heap_alloc_new w _); have HG : Hid (w2.heap[w.heap.size]? = some (.cells #[.bool c0, .int .i64 c1, .int .i64 c2] 24 (0, 0))) := gb; have g0 := cell_of_row _ _ 0 _ 24 (0, 0) gb; have g1 := cell_of_row _ _ 1 _ 24 (0, 0) gb; have g2 := cell_of_row _ _ 2 _ 24 (0, 0) gb; dsimp at g0 g1 g2; clear gb hb2) | (go_at_call 23; refine (k9 _).mono ?_; rintro e w3 ⟨rfl, hb3⟩; have hw3 : Below w.heap.size w w3 := hw2.trans (hb3.mono hw2.size); have gb : w3.heap[w.heap.size]? = some (.cells #[.bool c0, .int .i64 c1, .int .i64 c2] 24 (0, 0)) := (hb3.block _ (Array.getElem?_eq_some_iff.1 HG.out).1).trans HG.out; have g0 := cell_of_row _ _ 0 _ 24 (0, 0) gb; have g1 := cell_of_row _ _ 1 _ 24 (0, 0) gb; have g2 := cell_of_row _ _ 2 _ 24 (0, 0) gb; dsimp at g0 g1 g2; clear gb hb3) | (go_at_call 27; refine (k16' _ hw3).mono ?_; rintro e w4 ⟨rfl, hb4⟩; have hw4 : Below w.heap.size w w4 := hw3.trans (hb4.mono hw3.size); clear hb4))
      go_ret2
      exact ⟨rfl, hw4⟩

set_option maxHeartbeats 2000000 in
set_option maxRecDepth 100000 in
/-- the document's CheckWorld -/
theorem world_any (xs : List Int) (v : Value) (w : World) (h : IsI w v xs) : Calls Try.prog 10 #[v] w fun e w' => e = .returned (.int .i64 (worldE xs)) ∧ w' = w := by
  obtain ⟨_, a, cc, rfl, _, hC⟩ := h
  have HC : Hid _ := hC
  clear hC
  by_cases hl : 64 < xs.length
  · have e1 : worldE xs = 7 := by unfold worldE; rw [if_pos hl]
    rw [e1]
    have hl' : (64 : Int) < (xs.length : Int) := by omega
    clear e1
    go_enter Try.func10, Try.ntmps10
    go_wp2
    go_ret
    exact ⟨rfl, rfl⟩
  · have hl' : ¬ (64 : Int) < (xs.length : Int) := by omega
    go_enter Try.func10, Try.ntmps10
    go_wp2
    go_loopw [3] (fun iv wr => ∃ (k : Nat), iv = .int .i64 (k : Int) ∧ k ≤ xs.length ∧ (∀ x ∈ xs.take k, nobodyB x = false) ∧ w = wr) (fun iv _ => xs.length - (intOf iv).toNat)
    case atStart => exact ⟨0, rfl, Nat.zero_le _, fun c hc => by simp at hc, rfl⟩
    case round =>
      obtain ⟨k, rfl, hk, hall, rfl⟩ := hrel
      have HALL : Hid _ := hall
      clear hall
      by_cases hlt : k < xs.length
      · obtain ⟨b, off, rfl, hbl, hcs⟩ := HC.out.resolve_left (by omega)
        obtain ⟨x, hx⟩ : ∃ x, xs[k] = x := ⟨_, rfl⟩
        have d0 : w.cell? ⟨b, off + k, none⟩ = some (.int .i64 x) := hcs k _ (by simp [nv, hlt, hx])
        have HX : Hid (xs[k] = x) := hx
        clear hx hcs
        by_cases h1 : x < 0
        · have HE : Hid (worldE xs = 3) := by
            show worldE xs = 3
            unfold worldE
            rw [if_neg hl, if_pos]
            exact List.any_eq_true.2 ⟨x, HX.out ▸ List.getElem_mem hlt, by unfold nobodyB; simp [h1]⟩
          go_wp2
          go_ret
          rw [HE.out]
          exact ⟨rfl, rfl⟩
        · by_cases h2 : 63 < x
          · have HE : Hid (worldE xs = 3) := by
              show worldE xs = 3
              unfold worldE
              rw [if_neg hl, if_pos]
              exact List.any_eq_true.2 ⟨x, HX.out ▸ List.getElem_mem hlt, by unfold nobodyB; simp; omega⟩
            go_wp2
            go_ret
            rw [HE.out]
            exact ⟨rfl, rfl⟩
          · have HN : Hid (nobodyB x = false) := by show nobodyB x = false; unfold nobodyB; simp; omega
            go_wp2
            go_roundw
            case rel =>
              refine ⟨k + 1, by go_num, hlt, fun y hy => ?_, by first | trivial | rfl⟩
              rw [List.take_succ_eq_append_getElem hlt, List.mem_append, List.mem_singleton, HX.out] at hy
              rcases hy with hy | hy
              · exact HALL.out y hy
              · rw [hy]; exact HN.out
            case measure => simp [intOf]; omega
      · have ek : k = xs.length := by omega
        subst ek
        have HE : Hid (worldE xs = 0) := by
          show worldE xs = 0
          have hall := HALL.out
          rw [List.take_length] at hall
          unfold worldE
          rw [if_neg hl, if_neg]
          intro h
          obtain ⟨x, h1, h2⟩ := List.any_eq_true.1 h
          rw [hall x h1] at h2
          cases h2
        go_wp2
        go_ret
        rw [HE.out]
        exact ⟨rfl, rfl⟩

def nextB (c : C) (x : Int) : Bool := isP x c.2.1 && (isP x c.2.2 == c.1)
theorem holds_next (xs : List Int) (c : C) : holdsP xs c = if xs.any (nextB c) then c.1 else !c.1 := by
  obtain ⟨c0, c1, c2⟩ := c
  unfold holdsP
  cases c0 with
  | true =>
    have e : bothB (true, c1, c2) = nextB (true, c1, c2) := by funext x; unfold bothB nextB; simp
    rw [if_pos rfl, e]
    cases xs.any (nextB (true, c1, c2)) <;> rfl
  | false =>
    have e : offB (false, c1, c2) = nextB (false, c1, c2) := by funext x; unfold offB nextB; simp
    rw [if_neg (by simp), e]
    cases xs.any (nextB (false, c1, c2)) <;> rfl

set_option maxHeartbeats 4000000 in
set_option maxRecDepth 100000 in
/-- the document's HoldsIn -/
theorem ref_holds (xs : List Int) (c : C) (v : Value) (w : World) (h : IsI w v xs) (hl : xs.length ≤ 100000) (hx : Low xs) (hc : okC c = true) : Calls Try.prog 11 #[v, vc c] w fun e w' => e = .returned (.bool (holdsP xs c)) ∧ Below w.heap.size w w' := by
  obtain ⟨hnv, a, cc, rfl, hbig, hC⟩ := h
  clear hnv hbig
  obtain ⟨c0, c1, c2⟩ := c
  have HC : Hid _ := hC
  have hb0 : Below w.heap.size w (w.alloc (.cells #[.bool c0, .int .i64 c1, .int .i64 c2] 24)) := (Below.refl _ w).alloc (Nat.le_refl _) _
  have HB0 : Hid _ := hb0
  have hcc : litB c1 = true ∧ litB c2 = true := by unfold okC at hc; simpa using hc
  have HX : Hid (Low xs) := hx
  clear hC hb0 hc hx
  unfold vc
  dsimp only
  go_enter Try.func11, Try.ntmps11
  go_wp2
  go_loopw [5] (fun iv wr => ∃ (k : Nat), iv = .int .i64 (k : Int) ∧ k ≤ xs.length ∧ (∀ x ∈ xs.take k, nextB (c0, c1, c2) x = false) ∧ Below (w.heap.size + 1) (w.alloc (.cells #[.bool c0, .int .i64 c1, .int .i64 c2] 24)) wr) (fun iv _ => xs.length - (intOf iv).toNat)
  case atStart => exact ⟨0, rfl, Nat.zero_le _, fun c hc => by simp at hc, Below.refl _ _⟩
  case round =>
    obtain ⟨k, rfl, hk, hall, hb⟩ := hrel
    have HALL : Hid _ := hall
    have hbw : Below w.heap.size w wr := HB0.out.trans (hb.mono (Nat.le_succ _))
    have gb : wr.heap[w.heap.size]? = some (.cells #[.bool c0, .int .i64 c1, .int .i64 c2] 24 (0, 0)) := (hb.block _ (Nat.lt_succ_self _)).trans (heap_alloc_new w _)
    clear hall
    by_cases hlt : k < xs.length
    · obtain ⟨b, off, rfl, hbl, hcs⟩ := HC.out.resolve_left (by omega)
      have hxm := HX.out _ (List.getElem_mem hlt)
      obtain ⟨n, hn⟩ : ∃ n : Nat, xs[k] = (n : Int) := ⟨(xs[k]).toNat, by omega⟩
      rw [hn] at hxm
      have hn64 : n < 64 := by omega
      have r1 := box_read gb
      have r2 : ∀ p : After wr, p.W.cell? ⟨b, off + k, none⟩ = some (.int .i64 (n : Int)) := fun p => (p.h.cell (p := ⟨b, off + k, none⟩) (Nat.lt_of_lt_of_le hbl hbw.size)).trans ((hbw.cell hbl).trans (hcs k _ (by simp [nv, hlt, hn])))
      have k1 := fun p : After wr => (ref_is n c1 p.W hn64 hcc.1).mono (R' := fun e w' => e = .returned (.bool (isP n c1)) ∧ Below p.W.heap.size p.W w') fun e w' ⟨h1, h2⟩ => ⟨h1, by rw [h2]; exact Below.refl _ _⟩
      have k2 := fun p : After wr => (ref_is n c2 p.W hn64 hcc.2).mono (R' := fun e w' => e = .returned (.bool (isP n c2)) ∧ Below p.W.heap.size p.W w') fun e w' ⟨h1, h2⟩ => ⟨h1, by rw [h2]; exact Below.refl _ _⟩
      haveI : Inhabited (After wr) := ⟨⟨_, Below.refl _ _⟩⟩
      have HN : Hid (xs[k] = (n : Int)) := hn
      have HB : Hid (Below (w.heap.size + 1) (w.alloc (.cells #[.bool c0, .int .i64 c1, .int .i64 c2] 24)) wr) := hb
      have HBW : Hid (Below w.heap.size w wr) := hbw
      have HGB : Hid (wr.heap[w.heap.size]? = some (.cells #[.bool c0, .int .i64 c1, .int .i64 c2] 24 (0, 0))) := gb
      have hws : w.heap.size + 1 ≤ wr.heap.size := by have := hb.size; simp at this; exact this
      have e0 : nextB (c0, c1, c2) n = (isP n c1 && (isP n c2 == c0)) := rfl
      clear hn hxm hcs hbw hb gb
      cases h1 : isP n c1 <;> cases h2 : isP n c2 <;> cases c0
      all_goals
        rw [h1] at k1 e0
        rw [h2] at k2 e0
        have HE : Hid _ := e0
        clear h1 h2 e0
        go_wp2_with fail
        refine wp_region_after (by kernel_rfl) (by kernel_rfl) ?_
        repeat (go_big_quiet_step (first | (go_at_call 21; with_reducible refine after_of (k1 _)) | (go_at_call 21; with_reducible refine after_of (k2 _))))
        refine wpQuiet_nil ?_
        intro W hw'
        obtain ⟨⟨W, hW⟩, rfl⟩ := hw'
        have gb2 := (hW.block _ (Array.getElem?_eq_some_iff.1 HGB.out).1).trans HGB.out
        have g0 := cell_of_row _ _ 0 _ 24 (0, 0) gb2
        dsimp at g0
        have hbW : Below w.heap.size w W := HBW.out.trans (hW.mono HBW.out.size)
        have HBW2 : Hid _ := hbW
        have HBW3 : Hid (Below (w.heap.size + 1) (w.alloc _) W) := HB.out.trans (hW.mono hws)
        clear r1 r2 k1 k2 gb2 hbW hW
        go_wp2_with fail
        first
          | (go_ret
             rw [holds_next, if_pos (List.any_eq_true.2 ⟨xs[k], List.getElem_mem hlt, by rw [HN.out]; exact HE.out⟩)]
             exact ⟨rfl, HBW2.out⟩)
          | (go_roundw
             case rel =>
               refine ⟨k + 1, by go_num, hlt, fun y hy => ?_, HBW3.out⟩
               rw [List.take_succ_eq_append_getElem hlt, List.mem_append, List.mem_singleton, HN.out] at hy
               rcases hy with hy | hy
               · exact HALL.out y hy
               · rw [hy]; exact HE.out
             case measure => simp [intOf]; omega)
    · have ek : k = xs.length := by omega
      subst ek
      have g0 := cell_of_row _ _ 0 _ 24 (0, 0) gb
      dsimp at g0
      have HBW : Hid _ := hbw
      have HE : Hid (xs.any (nextB (c0, c1, c2)) = false) := by
        show xs.any (nextB (c0, c1, c2)) = false
        have hall := HALL.out
        rw [List.take_length] at hall
        rw [List.any_eq_false]
        intro x hx
        rw [hall x hx]
        decide
      clear gb hb hbw
      go_wp2
      go_ret
      rw [holds_next, HE.out]
      exact ⟨rfl, HBW.out⟩
end Go.Proofs.Ytcnanbimpajonaa.He
