/- The document's talker: how it lies in memory; Say. Conditions: it lies in memory; no version is below 0 or above 1000000. -/
import Derived.Test.YtmhgoddlbklbfaaTh
namespace Go.Proofs.Ytmhgoddlbklbfaa.Ra
open Go.RowKit Ta Tb

/-- an entry of the document's -/
structure En where
  sl : Int
  ver : Int
  who : Int
  val : ByteArray
  kn : Bool
  ow : Bool
def ec (e : En) : List Value := [.int .i64 e.sl, .int .i64 e.ver, .int .i64 e.who, .string e.val, .bool false, .bool e.kn, .bool e.ow]
def ecs (l : List En) : List Value := l.flatMap ec
theorem ecs_length (l : List En) : (ecs l).length = l.length * 7 := by
  unfold ecs
  induction l with
  | nil => rfl
  | cons a l ih => simp only [List.flatMap_cons, List.length_append, ih, List.length_cons, Nat.add_mul]; simp [ec]; omega
def Rk (w : World) (base q s cap : Nat) (W : Int) (rs : List En) : Prop := w.heap[q]? = some (.cells #[.int .i64 W, .slice (some ⟨s, 0, none⟩) rs.length cap] 62 (0, 0)) ∧ w.ownsRow base 64 7 (.slice (some ⟨s, 0, none⟩) rs.length cap) rs.length (ecs rs) ∧ q < s
variable {w : World} {base q s cap : Nat} {W : Int} {rs : List En}
theorem Rk.head (h : Rk w base q s cap W rs) : w.cell? ⟨q, 0, none⟩ = some (.int .i64 W) ∧ w.cell? ⟨q, 1, none⟩ = some (.slice (some ⟨s, 0, none⟩) rs.length cap) := ⟨cell_of_row _ _ 0 _ 62 (0, 0) h.1, cell_of_row _ _ 1 _ 62 (0, 0) h.1⟩
theorem Rk.slot (h : Rk w base q s cap W rs) {i : Nat} (hi : i < rs.length) : w.cell? ⟨s, i * 7, none⟩ = some (.int .i64 rs[i].sl) ∧ w.cell? ⟨s, i * 7 + 1, none⟩ = some (.int .i64 rs[i].ver) ∧ w.cell? ⟨s, i * 7 + 2, none⟩ = some (.int .i64 rs[i].who) ∧ w.cell? ⟨s, i * 7 + 3, none⟩ = some (.string rs[i].val) ∧ w.cell? ⟨s, i * 7 + 4, none⟩ = some (.bool false) ∧ w.cell? ⟨s, i * 7 + 5, none⟩ = some (.bool rs[i].kn) ∧ w.cell? ⟨s, i * 7 + 6, none⟩ = some (.bool rs[i].ow) := by
  have hle : i * 7 + 7 ≤ rs.length * 7 := by omega
  have g := fun k (hk : k < 7) => (h.2.1.cellAt (i * 7 + k) (by omega)).trans (fm_at ec 7 (fun _ => rfl) rs i hi k hk)
  exact ⟨g 0 (by omega), g 1 (by omega), g 2 (by omega), g 3 (by omega), g 4 (by omega), g 5 (by omega), g 6 (by omega)⟩
theorem Rk.frozen (h : Rk w base q s cap W rs) (j : Nat) : w.frozen? ⟨s, j, none⟩ = false := h.2.1.frozenAt j
theorem Rk.set (h : Rk w base q s cap W rs) {i : Nat} (hi : i < rs.length) (k : Nat) (hk : k < 7) (v : Value) (x : En) (hx : (ec rs[i]).set k v = ec x) : Rk (w.setCell ⟨s, i * 7 + k, none⟩ v) base q s cap W (rs.set i x) := by
  have h2 := (h.2.1.stored (i * 7 + k) v).1
  unfold ecs at h2
  rw [fm_set ec 7 (fun _ => rfl) rs i hi k hk v x hx] at h2
  refine ⟨?_, by rw [List.length_set]; exact h2, h.2.2⟩
  rw [heap_setCell_other _ _ _ _ (by show q ≠ s; have := h.2.2; omega), List.length_set]
  exact h.1
theorem Rk.lt (h : Rk w base q s cap W rs) : q < w.heap.size ∧ s < w.heap.size := ⟨World.block_lt_of_cell? w _ h.head.1, (h.2.1.lt s rfl).2⟩
theorem Rk.ko {w' : World} {X : Nat} (h : Rk w base q s cap W rs) (hk : Ko w w' X) (h1 : q ≠ X) (h2 : s ≠ X) : Rk w' base q s cap W rs := by
  refine ⟨(hk.2 q h1 h.lt.1).trans h.1, ?_, h.2.2⟩
  obtain ⟨e1, h' | ⟨g, cap', cur, hv, hg, hh, h3⟩⟩ := h.2.1
  · exact absurd h'.1 (by simp)
  · simp only [Value.slice.injEq, Option.some.injEq, Addr.mk.injEq, and_true, true_and] at hv
    obtain ⟨rfl, rfl⟩ := hv
    exact ⟨e1, .inr ⟨s, cap, cur, rfl, hg, (hk.2 s h2 h.lt.2).trans hh, h3⟩⟩
theorem Rk.below {w' : World} (h : Rk w base q s cap W rs) (hb : Below w.heap.size w w') : Rk w' base q s cap W rs := h.ko (X := w.heap.size) (ko_below hb) (Nat.ne_of_lt h.lt.1) (Nat.ne_of_lt h.lt.2)
theorem Rk.drew (h : Rk w base q s cap W rs) : Rk w.drew base q s cap W rs := h.below (Below.refl _ _).drew
theorem ko_drew {w w' : World} {X : Nat} (h : Ko w w' X) : Ko w w'.drew X := h.then (Below.refl _ _).drew
theorem ent_world (h : Rk w base q s cap W rs) {i : Nat} (hi : i < rs.length) (x : En) :
    Rk (((((((w.setCell ⟨s, i * 7, none⟩ (.int .i64 x.sl)).setCell ⟨s, i * 7 + 1, none⟩ (.int .i64 x.ver)).setCell ⟨s, i * 7 + 2, none⟩ (.int .i64 x.who)).setCell ⟨s, i * 7 + 3, none⟩ (.string x.val)).setCell ⟨s, i * 7 + 4, none⟩ (.bool false)).setCell ⟨s, i * 7 + 5, none⟩ (.bool x.kn)).setCell ⟨s, i * 7 + 6, none⟩ (.bool x.ow)) base q s cap W (rs.set i x) ∧
    Ko w (((((((w.setCell ⟨s, i * 7, none⟩ (.int .i64 x.sl)).setCell ⟨s, i * 7 + 1, none⟩ (.int .i64 x.ver)).setCell ⟨s, i * 7 + 2, none⟩ (.int .i64 x.who)).setCell ⟨s, i * 7 + 3, none⟩ (.string x.val)).setCell ⟨s, i * 7 + 4, none⟩ (.bool false)).setCell ⟨s, i * 7 + 5, none⟩ (.bool x.kn)).setCell ⟨s, i * 7 + 6, none⟩ (.bool x.ow)) s := by
  refine ⟨?_, ((((((ko_set _ _ _ _).trans (ko_set _ _ _ _)).trans (ko_set _ _ _ _)).trans (ko_set _ _ _ _)).trans (ko_set _ _ _ _)).trans (ko_set _ _ _ _)).trans (ko_set _ _ _ _)⟩
  have h0 := h.set hi 0 (by omega) (.int .i64 x.sl) { rs[i] with sl := x.sl } rfl
  have h1 := h0.set (i := i) (by simpa using hi) 1 (by omega) (.int .i64 x.ver) { rs[i] with sl := x.sl, ver := x.ver } (by simp; rfl)
  have h2 := h1.set (i := i) (by simpa using hi) 2 (by omega) (.int .i64 x.who) { rs[i] with sl := x.sl, ver := x.ver, who := x.who } (by simp; rfl)
  have h3 := h2.set (i := i) (by simpa using hi) 3 (by omega) (.string x.val) { rs[i] with sl := x.sl, ver := x.ver, who := x.who, val := x.val } (by simp; rfl)
  have h4 := h3.set (i := i) (by simpa using hi) 4 (by omega) (.bool false) { rs[i] with sl := x.sl, ver := x.ver, who := x.who, val := x.val } (by simp; rfl)
  have h5 := h4.set (i := i) (by simpa using hi) 5 (by omega) (.bool x.kn) { rs[i] with sl := x.sl, ver := x.ver, who := x.who, val := x.val, kn := x.kn } (by simp; rfl)
  have h6 := h5.set (i := i) (by simpa using hi) 6 (by omega) (.bool x.ow) x (by simp; rfl)
  simpa using h6

/-- what Say answers, and what becomes of the entries -/
def sayQ (W : Int) (rs : List En) (x : Int) (v : ByteArray) : Int × List En :=
  if hasB rs.length x = false then (5, rs)
  else if 100 < v.size then (2, rs)
  else match rs[x.toNat]? with
    | some e => if 1000000 ≤ e.ver then (7, rs) else (0, rs.set x.toNat ⟨x, e.ver + 1, W, v, false, false⟩)
    | none => (5, rs)
def VersQ (rs : List En) : Prop := ∀ e ∈ rs, 0 ≤ e.ver ∧ e.ver ≤ 1000000

set_option maxHeartbeats 2000000 in
theorem say_doc (h : Rk w base q s cap W rs) (hv : VersQ rs) (x : Int) (v : ByteArray) : Calls Try.prog 10 #[.pointer (some ⟨q, 0, none⟩), .int .i64 x, .string v] w fun e w' => e = .returned (.int .i64 (sayQ W rs x v).1) ∧ Rk w' base q s cap W (sayQ W rs x v).2 ∧ Ko w w' s := by
  obtain ⟨hd0, hd1⟩ := h.head
  unfold sayQ
  by_cases h0 : x < 0
  · have hx : hasB rs.length x = false := decide_eq_false (by omega)
    rw [if_pos hx]
    clear hx
    go_enter Try.func10, Try.ntmps10
    go_wp2
    go_ret
    exact ⟨rfl, h, Ko.refl _ _⟩
  by_cases h1 : (rs.length : Int) ≤ x
  · have hx : hasB rs.length x = false := decide_eq_false (by omega)
    rw [if_pos hx]
    clear hx
    go_enter Try.func10, Try.ntmps10
    go_wp2
    go_ret
    exact ⟨rfl, h, Ko.refl _ _⟩
  have hx : hasB rs.length x = true := decide_eq_true (by omega)
  rw [if_neg (by rw [hx]; decide)]
  by_cases h3 : 100 < v.size
  · have h4 : (100 : Int) < (v.size : Int) := by omega
    rw [if_pos h3]
    go_enter Try.func10, Try.ntmps10
    go_wp2
    go_ret
    exact ⟨rfl, h, Ko.refl _ _⟩
  have h4 : ¬ (100 : Int) < (v.size : Int) := by omega
  rw [if_neg h3]
  obtain ⟨i, rfl⟩ : ∃ i : Nat, x = (i : Int) := ⟨x.toNat, by omega⟩
  have hi : i < rs.length := by omega
  have hi' : (i : Int) < (rs.length : Int) := by omega
  rw [show ((i : Int)).toNat = i from rfl, List.getElem?_eq_getElem hi]
  dsimp only
  have hve := hv rs[i] (List.getElem_mem hi)
  have g := h.slot hi
  have fz := h.frozen
  have HE : Hid (∀ w', Ko w w' w.heap.size → Rk (((((((w'.setCell ⟨s, i * 7, none⟩ (.int .i64 (i : Int))).setCell ⟨s, i * 7 + 1, none⟩ (.int .i64 (rs[i].ver + 1))).setCell ⟨s, i * 7 + 2, none⟩ (.int .i64 W)).setCell ⟨s, i * 7 + 3, none⟩ (.string v)).setCell ⟨s, i * 7 + 4, none⟩ (.bool false)).setCell ⟨s, i * 7 + 5, none⟩ (.bool false)).setCell ⟨s, i * 7 + 6, none⟩ (.bool false)) base q s cap W (rs.set i ⟨(i : Int), rs[i].ver + 1, W, v, false, false⟩) ∧ Ko w' (((((((w'.setCell ⟨s, i * 7, none⟩ (.int .i64 (i : Int))).setCell ⟨s, i * 7 + 1, none⟩ (.int .i64 (rs[i].ver + 1))).setCell ⟨s, i * 7 + 2, none⟩ (.int .i64 W)).setCell ⟨s, i * 7 + 3, none⟩ (.string v)).setCell ⟨s, i * 7 + 4, none⟩ (.bool false)).setCell ⟨s, i * 7 + 5, none⟩ (.bool false)).setCell ⟨s, i * 7 + 6, none⟩ (.bool false)) s) := fun w' hk => ent_world (h.ko hk (Nat.ne_of_lt h.lt.1) (Nat.ne_of_lt h.lt.2)) hi ⟨(i : Int), rs[i].ver + 1, W, v, false, false⟩
  obtain ⟨l, hl⟩ : ∃ l, rs.set i ⟨(i : Int), rs[i].ver + 1, W, v, false, false⟩ = l := ⟨_, rfl⟩
  rw [hl] at HE ⊢
  obtain ⟨z, hz⟩ : ∃ z, rs[i].ver = z := ⟨_, rfl⟩
  rw [hz] at HE hve g ⊢
  have HR : Hid (Rk w base q s cap W rs) := h
  obtain ⟨g0, g1, g2, g3, g4, g5, g6⟩ := g
  clear hx hv hl hz h
  by_cases h7 : 1000000 ≤ z
  · have h8 : (1000000 : Int) < z + 1 := by omega
    rw [if_pos h7]
    go_enter Try.func10, Try.ntmps10
    go_wp2
    go_ret
    exact ⟨rfl, HR.out, Ko.refl _ _⟩
  · have h8 : ¬ (1000000 : Int) < z + 1 := by omega
    rw [if_neg h7]
    go_enter Try.func10, Try.ntmps10
    go_wp2_with fail
    go_region
    go_wp2
    go_ret
    exact ⟨rfl, (HE.out w (Ko.refl _ _)).1.drew, ko_drew (HE.out w (Ko.refl _ _)).2⟩
end Go.Proofs.Ytmhgoddlbklbfaa.Ra
