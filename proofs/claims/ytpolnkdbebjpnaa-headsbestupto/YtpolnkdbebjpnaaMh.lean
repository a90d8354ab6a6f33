/- joinedOf (37), plain: what it makes. No conditions. -/
import Derived.Test.YtpolnkdbebjpnaaMg
import Derived.Test.YtpolnkdbebjpnaaZz
import Derived.Deep.Cut
import Derived.Deep.CutRange
namespace Go.Proofs.Ytpolnkdbebjpnaa.Hd
open Go.RowKit Zz

/-- 0 and the words outside, of the first k -/
def fO (R : List Nat) (k : Nat) : List Nat := (List.range k).filter fun x => decide (x ∉ R)
/-- an append onto an owned row, as one step of a region that draws its order; where what comes lies -/
theorem step_append_at {P : Program} {ops : Array Oper} {o : Oper} {a : Act} {w : World} {K : Act → World → Prop} {Q : Exit → Act → World → Prop} {E : Prop}
    (hgd : o.guard = none) (s x : Operand) (t : TypeId) (ho : o.op = .call { callee := .builtin .append, args := #[s, x], argTypes := #[t, t] })
    (base : Nat) (e : TypeId) (i : TypeInfo) (z : Value) (size bytes : Nat) (ht : P.underlying t = some (.slice e)) (hi : P.info? e = some i) (hz : i.zero = some z)
    (hsize : i.size = size) (hby : i.bytes = bytes) (hzs : z.cells.size = size) (hsz : 0 < size)
    (v : Value) (n : Nat) (xs : List Value) (hs : a.eval s = v) (hown : w.ownsRow base e size v n xs)
    (ad : Addr) (m c : Nat) (news : List Value) (hx : a.eval x = .slice (some ad) m c) (hl : news.length = m * size) (hnews : ∀ j u, news[j]? = some u → w.cell? (ad.add j) = some u) (h1 : ∀ u ∈ news, u.oneCell' = true)
    (h63 : n + m ≤ maxLen) (hbytes : (n + m) * bytes ≤ 140737488355328) (hbase : base ≤ w.heap.size)
    (h : ∀ v' w', w'.ownsRow base e size v' (n + m) (xs ++ news) → w.grownBy w' v.ownBlock → (v'.ownBlock = v.ownBlock ∨ v'.ownBlock = some w.heap.size) → K (a.put o.dst v') w') :
    if Region.wanted o (yielded ops a.tmps) = true then Oper.wp P o a w K Q else E := by
  have hw : Region.wanted o (yielded ops a.tmps) = true := by simp [Region.wanted, hgd]
  rw [if_pos hw]
  obtain ⟨v', w', hr, h2, h3, h4, h5⟩ := run_append_own_at (P := P) w base t o.type e i z size bytes ht hi hz hsize hby hzs hsz v n xs hown ad m c news hl hnews h1 h63 hbytes hbase
  unfold Oper.wp execOp
  simp only [ho, resolve, invoke, builtin, Sem.run_bind, Sem.run_pure, Result.andThen_ok, List.map_toArray, List.map_cons, List.map_nil, hs, hx, hr]
  exact h v' w' h2 h3 h5
theorem getD_snoc {I : List Nat} {k x : Nat} (h : I.length = k) : (I ++ [x]).getD k 0 = x := by
  subst h
  rw [List.getD_eq_getElem?_getD, List.getElem?_append_right (Nat.le_refl _), Nat.sub_self]; rfl
theorem getD_app {I : List Nat} {k x : Nat} (h : k < I.length) : (I ++ [x]).getD k 0 = I.getD k 0 := by
  rw [List.getD_eq_getElem?_getD, List.getD_eq_getElem?_getD, List.getElem?_append_left h]
theorem fO_in {R : List Nat} {k : Nat} (h : k ∈ R) : fO R (k + 1) = fO R k := by
  unfold fO
  rw [List.range_succ, List.filter_append]
  simp [h]
theorem fO_out {R : List Nat} {k : Nat} (h : k ∉ R) : fO R (k + 1) = fO R k ++ [k] := by
  unfold fO
  rw [List.range_succ, List.filter_append]
  simp [h]
theorem fO_len (R : List Nat) (k : Nat) : (fO R k).length ≤ k := by
  unfold fO
  have := List.length_filter_le (fun x => decide (x ∉ R)) (List.range k)
  rw [List.length_range] at this
  exact this
theorem fO_os {n : Nat} {u : Nat → Nat} {R : List Nat} (hR : Rg n u R) : Os n R (fO R (n + 1)) := by
  have h0 : (0 : Nat) ∉ R := fun h => by have := (hR.pos 0 h).1; omega
  refine ⟨?_, ?_, fun x => ?_⟩
  · have key : ∀ k, (fO R (k + 1))[0]? = some 0 := fun k => by
      induction k with
      | zero => rw [fO_out h0]; rfl
      | succ k ih =>
        by_cases h : k + 1 ∈ R
        · rw [fO_in h]; exact ih
        · rw [fO_out h, List.getElem?_append_left (List.getElem?_eq_some_iff.1 ih).1]; exact ih
    exact key n
  · exact List.Pairwise.filter _ List.nodup_range
  · unfold fO
    rw [List.mem_filter, List.mem_range, decide_eq_true_iff]
    exact ⟨fun h => ⟨by omega, h.2⟩, fun h => ⟨by omega, h.2⟩⟩
/-- a row of the smaller scores, up to j words -/
def rw1 (s : Nat → Nat → Int) (O : List Nat) (r j : Nat) : List Int := (List.range j).map fun i => s r (O.getD (i + 1) 0)
theorem rw1_up (s : Nat → Nat → Int) (O : List Nat) (r j : Nat) : rw1 s O r (j + 1) = rw1 s O r j ++ [s r (O.getD (j + 1) 0)] := by
  unfold rw1
  rw [List.range_succ, List.map_append]
  rfl
theorem rw1_len (s : Nat → Nat → Int) (O : List Nat) (r j : Nat) : (rw1 s O r j).length = j := by simp [rw1]
def rw2 (s : Nat → Nat → Int) (O X : List Nat) (j : Nat) : List Int := (List.range j).map fun i => s (X.getD i 0) (O.getD (i + 1) 0)
theorem rw2_len (s : Nat → Nat → Int) (O X : List Nat) (j : Nat) : (rw2 s O X j).length = j := by simp [rw2]
theorem rw2_up (s : Nat → Nat → Int) (O X : List Nat) (x : Nat) : rw2 s O (X ++ [x]) (X.length + 1) = rw2 s O X X.length ++ [s x (O.getD (X.length + 1) 0)] := by
  unfold rw2
  rw [List.range_succ, List.map_append]
  congr 1
  · exact List.map_congr_left fun i hi => by
      have := List.mem_range.1 hi
      rw [List.getD_eq_getElem?_getD, List.getD_eq_getElem?_getD (l := X), List.getElem?_append_left this]
  · rw [List.map_singleton, List.getD_eq_getElem?_getD, List.getElem?_append_right (Nat.le_refl _), Nat.sub_self]
    rfl
/-- what a ring's word gains -/
def gn (s : Nat → Nat → Int) (u : Nat → Nat) (h r : Nat) : Int := s h r - s (u r) r
theorem ints_snoc (l : List Int) (x : Int) : ints (l ++ [x]) = ints l ++ [.int .i64 x] := by simp [ints]
theorem ints_len (l : List Int) : (ints l).length = l.length := by simp [ints]
/-- the rows so far -/
def Rb (s : Nat → Nat → Int) (u : Nat → Nat) (R O : List Nat) (m : Nat) (I : List Nat) (T : Tm) (k : Nat) : Prop := ∀ h, h < k → I.getD h 0 ∈ R ∧ (∀ r ∈ R, gn s u (O.getD h 0) r ≤ gn s u (O.getD h 0) (I.getD h 0)) ∧ (T (5 + h)).2 = ints (rw1 s O (O.getD h 0) m ++ [gn s u (O.getD h 0) (I.getD h 0)])
def Xb (s : Nat → Nat → Int) (R O X : List Nat) (k : Nat) : Prop := ∀ i, i < k → X.getD i 0 ∈ R ∧ ∀ r ∈ R, s r (O.getD (i + 1) 0) ≤ s (X.getD i 0) (O.getD (i + 1) 0)
abbrev nilT : Value × List Value := (.slice none 0 0, [])
theorem own_cap {w : World} {b e size n n' cap : Nat} {a : Option Addr} {xs : List Value} (h : w.ownsRow b e size (.slice a n' cap) n xs) (hn : 0 < n) : n ≤ cap ∧ cap ≤ maxLen := by
  rcases h.2 with ⟨_, h0⟩ | ⟨g, cap', cur, hv, _, _, hnc, hcm, _⟩
  · omega
  · simp only [Value.slice.injEq] at hv
    obtain ⟨_, _, rfl⟩ := hv
    exact ⟨hnc, hcm⟩
theorem Jn.o {w wr : World} {p3 p4 p6 p7 k : Nat} {sv gv vsc : Value} {T : Tm} (h : Jn w wr p3 p4 p6 p7 sv gv vsc T k) {j n : Nat} {v : Value} {xs : List Value} (e : T j = (v, xs)) (hn : xs.length = n) : wr.ownsRow w.heap.size 3 1 v n xs := by
  have h1 := h.ths.own j
  rw [e] at h1
  rw [← hn]
  exact h1
/-- the boxes at the start -/
theorem jn_start (w : World) (sv gv : Value) : ∃ W0, (((w.alloc (.cells #[sv] 22)).alloc (.cells #[gv] 26)).alloc (.cells #[.slice none 0 0, .slice none 0 0, .slice none 0 0, .slice none 0 0] 47)).alloc (.cells #[.slice none 0 0, .slice none 0 0, .slice none 0 0, .slice none 0 0] 47) = W0 ∧ Jn w W0 w.heap.size (w.heap.size + 1) (w.heap.size + 1 + 1) (w.heap.size + 1 + 1 + 1) sv gv (.slice none 0 0) (fun _ => nilT) 0 := by
  refine ⟨_, rfl, ?_⟩
  have s1 : (w.alloc (.cells #[sv] 22)).heap.size = w.heap.size + 1 := by simp
  have s2 : ((w.alloc (.cells #[sv] 22)).alloc (.cells #[gv] 26)).heap.size = w.heap.size + 1 + 1 := by simp
  have s3 : (((w.alloc (.cells #[sv] 22)).alloc (.cells #[gv] 26)).alloc (.cells #[.slice none 0 0, .slice none 0 0, .slice none 0 0, .slice none 0 0] 47)).heap.size = w.heap.size + 1 + 1 + 1 := by simp
  have hb := ((((Below.refl w.heap.size w).alloc (Nat.le_refl _) (.cells #[sv] 22)).alloc (by omega) (.cells #[gv] 26)).alloc (by omega) (.cells #[.slice none 0 0, .slice none 0 0, .slice none 0 0, .slice none 0 0] 47)).alloc (by omega) (.cells #[.slice none 0 0, .slice none 0 0, .slice none 0 0, .slice none 0 0] 47)
  refine ⟨?_, ?_, ?_, ?_, by omega, Nat.le_refl _, by omega, by omega, by omega, (fun e => by cases e), World.ownsRow_nil _ _ _ _, ⟨fun k => World.ownsRow_nil _ _ _ _, fun j k b _ e => by cases e⟩, hb⟩
  · rw [heap_alloc_old _ _ (by omega), heap_alloc_old _ _ (by omega), heap_alloc_old _ _ (by omega)]; exact heap_alloc_new _ _
  · rw [heap_alloc_old _ _ (by omega), heap_alloc_old _ _ (by omega), ← s1]; exact heap_alloc_new _ _
  · rw [heap_alloc_old _ _ (by omega), ← s2]; exact heap_alloc_new _ _
  · rw [← s3]; exact heap_alloc_new _ _
theorem inf26 : (Try.prog.info? 26).map (fun i => (i.zero, i.size, i.bytes)) = some (some (.slice none 0 0), 1, 24) := by kernel_rfl
theorem row47 : (Try.prog.info? 47).map (·.size) = some 4 := by kernel_rfl
/-- what joinedOf hands back -/
def JoQ (n : Nat) (s : Nat → Nat → Int) (u : Nat → Nat) (R : List Nat) (w : World) (e : Ending) (w' : World) : Prop :=
  ∃ (m bo co bi ci bx cx bs cs : Nat) (ax : Option Addr) (O I X : List Nat) (ra : Nat → Option Addr) (rc : Nat → Nat) (s' : Nat → Nat → Int), e = .returned (.agg #[.slice (some ⟨bs, 0, none⟩) (m + 2) cs, .slice (some ⟨bo, 0, none⟩) (m + 1) co, .slice (some ⟨bi, 0, none⟩) (m + 1) ci, .slice ax m cx]) ∧ Below w.heap.size w w' ∧ O.length = m + 1 ∧ m + R.length = n ∧ Os n R O ∧ Sml n m s s' u R O (inl I) (oul X) ∧ Sc w' bs 0 (m + 1) ra rc s' ∧ (∀ h i, h ≤ m + 1 → 1 ≤ i → i ≤ m + 1 → ∃ h1 w1 h2 w2, h1 ≤ n ∧ 1 ≤ w1 ∧ w1 ≤ n ∧ h2 ≤ n ∧ 1 ≤ w2 ∧ w2 ≤ n ∧ (s' h i = s h1 w1 ∨ s' h i = s h1 w1 - s h2 w2 ∨ s' h i = 0)) ∧
    (∀ j, j ≤ m → w'.cell? ⟨bo, j, none⟩ = some (.int .i64 (O.getD j 0 : Int))) ∧ (∀ j, j ≤ m → w'.cell? ⟨bi, j, none⟩ = some (.int .i64 (I.getD j 0 : Int))) ∧ (0 < m → ax = some ⟨bx, 0, none⟩ ∧ ∀ j, j < m → w'.cell? ⟨bx, j, none⟩ = some (.int .i64 (X.getD j 0 : Int))) ∧ w.heap.size ≤ bo ∧ w.heap.size ≤ bi ∧ (0 < m → w.heap.size ≤ bx) ∧ w.heap.size ≤ bs ∧ bo < w'.heap.size ∧ bi < w'.heap.size ∧ (0 < m → bx < w'.heap.size)
/-- joinedOf's scores -/
def sj (s : Nat → Nat → Int) (u : Nat → Nat) (O I X : List Nat) (m h i : Nat) : Int :=
  if h ≤ m then (if i ≤ m then s (O.getD h 0) (O.getD i 0) else gn s u (O.getD h 0) (I.getD h 0)) else if i ≤ m then s (X.getD (i - 1) 0) (O.getD i 0) else 0
def sad : Value → Option Addr
  | .slice a _ _ => a
  | _ => none
def scp : Value → Nat
  | .slice _ _ c => c
  | _ => 0
theorem Jn.fin {w wr : World} {p3 p4 p6 p7 k : Nat} {sv gv vsc : Value} {T : Tm} (h : Jn w wr p3 p4 p6 p7 sv gv vsc T k) (x y z v : Value) :
    ((((wr.setCell ⟨p6, 0, none⟩ x).setCell ⟨p6, 1, none⟩ y).setCell ⟨p6, 2, none⟩ z).setCell ⟨p6, 3, none⟩ v).heap[p6]? = some (.cells #[x, y, z, v] 47 (0, 0)) ∧ Kp (fun b => b = p6) wr ((((wr.setCell ⟨p6, 0, none⟩ x).setCell ⟨p6, 1, none⟩ y).setCell ⟨p6, 2, none⟩ z).setCell ⟨p6, 3, none⟩ v) := by
  have e1 := heap_setCell_same wr p6 0 _ 47 x h.b6
  have e2 := heap_setCell_same _ p6 1 _ 47 y e1
  have e3 := heap_setCell_same _ p6 2 _ 47 z e2
  have e4 := heap_setCell_same _ p6 3 _ 47 v e3
  have k1 : Kp (fun b => b = p6) wr (wr.setCell ⟨p6, 0, none⟩ x) := (Kp.refl _ wr).setCell _ _ _ (fun _ => rfl)
  have k2 : Kp (fun b => b = p6) wr ((wr.setCell ⟨p6, 0, none⟩ x).setCell ⟨p6, 1, none⟩ y) := k1.setCell _ _ _ (fun _ => rfl)
  have k3 : Kp (fun b => b = p6) wr (((wr.setCell ⟨p6, 0, none⟩ x).setCell ⟨p6, 1, none⟩ y).setCell ⟨p6, 2, none⟩ z) := k2.setCell _ _ _ (fun _ => rfl)
  exact ⟨e4, k3.setCell _ _ _ (fun _ => rfl)⟩
theorem own_full {w : World} {base n : Nat} {v : Value} {xs : List Value} (h : w.ownsRow base 3 1 v n xs) (hn : 0 < n) : ∃ g, sad v = some ⟨g, 0, none⟩ ∧ v = .slice (some ⟨g, 0, none⟩) n (scp v) ∧ base ≤ g ∧ g < w.heap.size ∧ ∀ j, j < n → w.cell? ⟨g, j, none⟩ = xs[j]? := by
  obtain ⟨g, c, rfl, h1, h2⟩ := own_some h hn
  exact ⟨g, rfl, rfl, h1, h2, fun j hj => h.cellAt j (by omega)⟩
theorem ints_getD {l : List Int} {j : Nat} (h : j < l.length) : (ints l)[j]? = some (.int .i64 (l.getD j 0)) := by
  rw [ints_at h, List.getD_eq_getElem?_getD, List.getElem?_eq_getElem h]
  rfl
theorem map_getD_lt (f : Nat → Int) (m j : Nat) (h : j < m) : ((List.range m).map f).getD j 0 = f j := by
  rw [List.getD_eq_getElem?_getD, List.getElem?_map, List.getElem?_range h]
  rfl
theorem snoc_getD_lt (l : List Int) (x : Int) {j : Nat} (h : j < l.length) : (l ++ [x]).getD j 0 = l.getD j 0 := by
  rw [List.getD_eq_getElem?_getD, List.getD_eq_getElem?_getD, List.getElem?_append_left h]
theorem snoc_getD_eq (l : List Int) (x : Int) {j : Nat} (h : j = l.length) : (l ++ [x]).getD j 0 = x := by
  subst h
  rw [List.getD_eq_getElem?_getD, List.getElem?_append_right (Nat.le_refl _), Nat.sub_self]
  rfl
/-- the end: what joinedOf hands back -/
theorem jo_done {w wr wE : World} {p3 p4 p6 p7 n m bo co : Nat} {sv gv vsc vin vx : Value} {T : Tm} {s : Nat → Nat → Int} {u : Nat → Nat} {R O I X : List Nat}
    (h : Jn w wr p3 p4 p6 p7 sv gv vsc T (m + 2)) (hk : Kp (fun b => b = p6) wr wE) (t0 : T 0 = (.slice (some ⟨bo, 0, none⟩) (m + 1) co, ns O)) (t1 : T 1 = (vin, ns I)) (t2 : T 2 = (vx, ns X))
    (hO : O.length = m + 1) (hI : I.length = m + 1) (hX : X.length = m) (hmn : m + R.length = n) (hrb : Rb s u R O m I T (m + 1)) (hxb : Xb s R O X m) (hl : (T (5 + (m + 1))).2 = ints (rw2 s O X m ++ [0])) (hOs : Os n R O) (hR : Rg n u R) (hH : Hi n s u) :
    JoQ n s u R w (.returned (.agg #[vsc, .slice (some ⟨bo, 0, none⟩) (m + 1) co, vin, vx])) wE := by
  have np6 : ∀ {e q : Nat} {v : Value} {xs : List Value}, wr.ownsRow w.heap.size e 1 v q xs → e ≠ 47 → wE.ownsRow w.heap.size e 1 v q xs := fun {e q v xs} ho hne => own_kp2 ho hk (fun b hb e2 => by
    have e3 : b = p6 := e2
    subst e3
    obtain ⟨d, hd⟩ := own_ty ho hb
    exact ty_ne hd h.b6 hne)
  have hT : ∀ j, wE.ownsRow w.heap.size 3 1 (T j).1 (T j).2.length (T j).2 := fun j => np6 (h.ths.own j) (by decide)
  have hS := np6 h.sc (by decide)
  have hB : Below w.heap.size w wE := below_kp h.below hk (fun b hb e => by have e2 : b = p6 := e; have := h.l6; omega)
  have q0 := hT 0
  rw [t0, ns_length, hO] at q0
  have q1 := hT 1
  rw [t1, ns_length, hI] at q1
  have q2 := hT 2
  rw [t2, ns_length, hX] at q2
  obtain ⟨bi, civ, hvi, hbi, hbi2⟩ := own_some q1 (Nat.succ_pos _)
  have hvi : vin = _ := hvi
  obtain ⟨ax, cx, hvx⟩ := oslice q2
  have hvx : vx = _ := hvx
  obtain ⟨bs, cs, hvs, hbs, hbs2⟩ := own_some hS (by omega)
  subst hvi
  subst hvx
  subst hvs
  have hbo := q0.lt bo rfl
  have hlen : ∀ j, j ≤ m + 1 → (T (5 + j)).2.length = m + 1 := fun j hj => by
    rcases Nat.lt_or_ge j (m + 1) with h1 | h1
    · rw [(hrb j h1).2.2, ints_len, List.length_append, rw1_len]; rfl
    · have e : j = m + 1 := by omega
      rw [e, hl, ints_len, List.length_append, rw2_len]; rfl
  have hpos : ∀ r ∈ R, 1 ≤ r ∧ r ≤ n := hR.pos
  have hIR : ∀ j, j ≤ m → I.getD j 0 ∈ R := fun j hj => (hrb j (by omega)).1
  have hXR : ∀ j, j < m → X.getD j 0 ∈ R := fun j hj => (hxb j hj).1
  have hOn : ∀ j, j ≤ m → O.getD j 0 ≤ n := fun j hj => (hOs.get (i := j) (by omega)).1
  have hOp : ∀ j, 1 ≤ j → j ≤ m → 1 ≤ O.getD j 0 := fun j h1 h2 => by have := hOs.pos (i := j) (by omega) (by omega); omega
  obtain ⟨r0, hr0⟩ : ∃ r0, r0 ∈ R := List.exists_mem_of_ne_nil R hR.some
  obtain ⟨cx0, hx0⟩ : ∃ bx, 0 < m → ax = some ⟨bx, 0, none⟩ ∧ w.heap.size ≤ bx ∧ bx < wE.heap.size := by
    rcases Nat.eq_zero_or_pos m with e | e
    · exact ⟨0, fun h => absurd h (by omega)⟩
    · obtain ⟨g, c, e1, e2, e3⟩ := own_some q2 e
      injection e1 with e1
      exact ⟨g, fun _ => ⟨e1, e2, e3⟩⟩
  refine ⟨m, bo, co, bi, civ, cx0, cx, bs, cs, ax, O, I, X, fun j => sad (T (5 + j)).1, fun j => scp (T (5 + j)).1, sj s u O I X m, ?_, hB, hO, hmn, hOs, ?_, ?_, ?_, ?_, ?_, ?_, hbo.1, hbi, fun h0 => (hx0 h0).2.1, hbs, hbo.2, hbi2, fun h0 => (hx0 h0).2.2⟩
  · rfl
  · refine ⟨hO, hIR, fun i h1 h2 => hXR (i - 1) (by omega), fun a i h1 _ h2 => ?_, fun a h1 => ?_, fun a h1 r hr => (hrb a (by omega)).2.1 r hr, fun i h1 h2 => ?_, fun i h1 h2 r hr => ?_⟩
    · unfold sj; rw [if_pos h1, if_pos h2]
    · unfold sj; rw [if_pos h1, if_neg (by omega)]; rfl
    · unfold sj; rw [if_neg (by omega), if_pos h2]; rfl
    · have hb := (hxb (i - 1) (by omega)).2 r hr
      rw [show i - 1 + 1 = i by omega] at hb
      exact hb
  · refine ⟨hbs2, fun j hj => ?_, fun j hj _ => ?_⟩
    · have hc := hS.cellAt j (by omega)
      have hm : ((List.range (m + 2)).map fun h => (T (5 + h)).1)[j]? = some (T (5 + j)).1 := by rw [List.getElem?_map, List.getElem?_range (by omega)]; rfl
      rw [hm] at hc
      obtain ⟨g, e1, e2, _⟩ := own_full (hlen j hj ▸ hT (5 + j)) (Nat.succ_pos _)
      rw [Nat.zero_add]
      refine hc.trans ?_
      rw [e1, ← e2]
    · obtain ⟨g, e1, e2, e3, e4, e5⟩ := own_full (hlen j hj ▸ hT (5 + j)) (Nat.succ_pos _)
      refine ⟨g, 0, e1, e4, fun i hi => ?_⟩
      rw [Nat.zero_add, e5 i hi]
      rcases Nat.lt_or_ge j (m + 1) with h1 | h1
      · rw [(hrb j h1).2.2, ints_getD (by rw [List.length_append, rw1_len]; exact hi)]
        congr 2
        unfold sj
        rw [if_pos (by omega)]
        rcases Nat.lt_or_ge i m with h2 | h2
        · rw [if_pos (by omega), snoc_getD_lt _ _ (by rw [rw1_len]; exact h2)]
          exact map_getD_lt _ _ _ h2
        · rw [if_neg (by omega), snoc_getD_eq _ _ (by rw [rw1_len]; omega)]
      · have e : j = m + 1 := by omega
        subst e
        rw [hl, ints_getD (by rw [List.length_append, rw2_len]; exact hi)]
        congr 2
        unfold sj
        rw [if_neg (by omega)]
        rcases Nat.lt_or_ge i m with h2 | h2
        · rw [if_pos (by omega), snoc_getD_lt _ _ (by rw [rw2_len]; exact h2)]
          exact map_getD_lt _ _ _ h2
        · rw [if_neg (by omega), snoc_getD_eq _ _ (by rw [rw2_len]; omega)]
  · intro a i ha h1 h2
    unfold sj
    by_cases e1 : a ≤ m
    · rw [if_pos e1]
      by_cases e2 : i ≤ m
      · rw [if_pos e2]
        exact ⟨O.getD a 0, O.getD i 0, 0, r0, hOn a e1, hOp i h1 e2, hOn i e2, Nat.zero_le _, (hpos r0 hr0).1, (hpos r0 hr0).2, .inl rfl⟩
      · rw [if_neg e2]
        have hp := hpos _ (hIR a e1)
        exact ⟨O.getD a 0, I.getD a 0, u (I.getD a 0), I.getD a 0, hOn a e1, hp.1, hp.2, hH.le _ hp.1 hp.2, hp.1, hp.2, .inr (.inl rfl)⟩
    · rw [if_neg e1]
      by_cases e2 : i ≤ m
      · rw [if_pos e2]
        have hp := hpos _ (hXR (i - 1) (by omega))
        exact ⟨X.getD (i - 1) 0, O.getD i 0, 0, r0, hp.2, hOp i h1 e2, hOn i e2, Nat.zero_le _, (hpos r0 hr0).1, (hpos r0 hr0).2, .inl rfl⟩
      · rw [if_neg e2]
        exact ⟨0, r0, 0, r0, Nat.zero_le _, (hpos r0 hr0).1, (hpos r0 hr0).2, Nat.zero_le _, (hpos r0 hr0).1, (hpos r0 hr0).2, .inr (.inr rfl)⟩
  · intro j hj
    rw [q0.cellAt j (by omega), ns_getD (by omega)]
  · intro j hj
    rw [q1.cellAt j (by omega), ns_getD (by omega)]
  · intro h0
    refine ⟨(hx0 h0).1, fun j hj => ?_⟩
    rw [(hx0 h0).1] at q2
    rw [q2.cellAt j (by omega), ns_getD (by omega)]
end Go.Proofs.Ytpolnkdbebjpnaa.Hd
