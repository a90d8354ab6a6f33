/- HeadsMore's law in plain words: what a word hangs on is made worth less, on whatever it hangs; then on one word as it was. And how the rows that are made lie. No conditions. -/
import Derived.Test.YtpolnkdbebjpnaaNk
import Derived.Test.YtpolnkdbebjpnaaMg
namespace Go.Proofs.Ytpolnkdbebjpnaa.Hd
open Go.RowKit

theorem wo_congr {n : Nat} {s s' : Nat → Nat → Int} {t : Nat → Nat} (ht : Tr n t) (h : ∀ a x, a ≤ n → 1 ≤ x → x ≤ n → s' a x = s a x) : wo s' n t = wo s n t := by
  unfold wo
  exact sm_congr fun w hw => by
    obtain ⟨h1, h2⟩ := mem_words.1 hw
    exact h _ _ (ht.le w h1 h2) h1 h2
theorem opt_congr {n : Nat} {s s' : Nat → Nat → Int} {u : Nat → Nat} (hu : Opt n s' u) (h : ∀ a x, a ≤ n → 1 ≤ x → x ≤ n → s' a x = s a x) : Opt n s u :=
  ⟨hu.tr, fun t ht => by rw [← wo_congr ht h, ← wo_congr hu.tr h]; exact hu.best t ht⟩
/-- on whatever x0 hangs, that is worth d less -/
def ls (s : Nat → Nat → Int) (x0 : Nat) (d : Int) : Nat → Nat → Int := fun h x => if x = x0 then s h x - d else s h x
theorem wo_ls {n : Nat} (s : Nat → Nat → Int) {x0 : Nat} (d : Int) (t : Nat → Nat) (h1 : 1 ≤ x0) (h2 : x0 ≤ n) : wo (ls s x0 d) n t = wo s n t - d := by
  have key : ∀ r : Nat → Nat → Int, wo r n t = sm (fun w => r (t w) w) (List.range' 1 (x0 - 1)) + (r (t x0) x0 + sm (fun w => r (t w) w) (List.range' (x0 + 1) (n - x0))) := fun r => by
    have e : n = (x0 - 1) + (1 + (n - x0)) := by omega
    have h := sg_add r t 1 (x0 - 1) (1 + (n - x0))
    rw [← e, show 1 + (x0 - 1) = x0 by omega, sg_add, sg_one] at h
    exact h
  rw [key, key]
  have e1 : sm (fun w => ls s x0 d (t w) w) (List.range' 1 (x0 - 1)) = sm (fun w => s (t w) w) (List.range' 1 (x0 - 1)) := sm_congr fun w hw => by
    have := List.mem_range'_1.1 hw
    show ls s x0 d (t w) w = _
    unfold ls
    rw [if_neg (by omega)]
  have e2 : sm (fun w => ls s x0 d (t w) w) (List.range' (x0 + 1) (n - x0)) = sm (fun w => s (t w) w) (List.range' (x0 + 1) (n - x0)) := sm_congr fun w hw => by
    have := List.mem_range'_1.1 hw
    show ls s x0 d (t w) w = _
    unfold ls
    rw [if_neg (by omega)]
  have e3 : ls s x0 d (t x0) x0 = s (t x0) x0 - d := if_pos rfl
  rw [e1, e2, e3]
  omega
theorem ls_opt {n : Nat} {s : Nat → Nat → Int} {x0 : Nat} {d : Int} {u u' : Nat → Nat} (h1 : 1 ≤ x0) (h2 : x0 ≤ n) (hu : Opt n s u) (hu' : Opt n (ls s x0 d) u') : wo (ls s x0 d) n u' = wo s n u - d ∧ wo s n u' = wo s n u := by
  have k1 := hu.best u' hu'.tr
  have k2 := hu'.best u hu.tr
  rw [wo_ls s d u h1 h2, wo_ls s d u' h1 h2] at k2
  rw [wo_ls s d u' h1 h2]
  omega
/-- but on h0 it is worth what it was -/
def lt1 (s : Nat → Nat → Int) (x0 h0 : Nat) (d : Int) : Nat → Nat → Int := fun h x => if x = x0 ∧ h ≠ h0 then s h x - d else s h x
theorem lt1_opt {n : Nat} {s : Nat → Nat → Int} {x0 : Nat} {d : Int} (hd : 0 ≤ d) {u u' : Nat → Nat} (hu : Opt n s u) (hu' : Opt n (lt1 s x0 (u x0) d) u') : wo (lt1 s x0 (u x0) d) n u' = wo s n u := by
  have k1 := hu.best u' hu'.tr
  have k2 := hu'.best u hu.tr
  have e1 : wo (lt1 s x0 (u x0) d) n u = wo s n u := sm_congr fun w _ => by
    show lt1 s x0 (u x0) d (u w) w = _
    unfold lt1
    rw [if_neg]
    rintro ⟨rfl, h⟩
    exact h rfl
  have e2 : wo (lt1 s x0 (u x0) d) n u' ≤ wo s n u' := sm_le fun w _ => by
    show lt1 s x0 (u x0) d (u' w) w ≤ _
    unfold lt1
    split <;> omega
  omega
/-- rows out of scores -/
def nr (n : Nat) (f : Nat → Nat → Int) : List (List Int) := (List.range (n + 1)).map fun h => (List.range n).map fun i => f h (i + 1)
theorem nr_len (n : Nat) (f : Nat → Nat → Int) : (nr n f).length = n + 1 := by simp [nr]
theorem nr_row {n : Nat} (f : Nat → Nat → Int) {h : Nat} (hh : h ≤ n) : (nr n f).getD h [] = (List.range n).map fun i => f h (i + 1) := by
  unfold nr
  rw [List.getD_eq_getElem?_getD, List.getElem?_map, List.getElem?_range (by omega)]
  rfl
theorem nr_sr {n : Nat} (f : Nat → Nat → Int) {h x : Nat} (hh : h ≤ n) (h1 : 1 ≤ x) (h2 : x ≤ n) : sr (nr n f) h x = f h x := by
  unfold sr
  rw [nr_row f hh, map_getD_lt _ _ _ (by omega), show x - 1 + 1 = x by omega]
theorem chk_of_fit {rows : List (List Int)} {n : Nat} (h : Fit rows n) : chk rows = 0 := by
  have hl := h.len
  have hf := h.few
  have hget : ∀ r ∈ rows, ∃ k, k ≤ n ∧ rows.getD k [] = r := fun r hr => by
    obtain ⟨k, hk, e⟩ := List.getElem_of_mem hr
    exact ⟨k, by omega, by rw [List.getD_eq_getElem?_getD, List.getElem?_eq_getElem hk, e]; rfl⟩
  unfold chk
  rw [if_neg (by omega), if_neg, if_neg]
  · intro hc
    obtain ⟨r, hr, hx⟩ := List.any_eq_true.1 hc
    obtain ⟨x, hx, ho⟩ := List.any_eq_true.1 hx
    obtain ⟨k, hk, rfl⟩ := hget r hr
    obtain ⟨i, hi, rfl⟩ := List.getElem_of_mem hx
    have hrl := h.row k hk
    have hn := h.num k (i + 1) hk (by omega) (by omega)
    have e : sr rows k (i + 1) = (rows.getD k [])[i] := by unfold sr; rw [Nat.add_sub_cancel, List.getD_eq_getElem?_getD (l := rows.getD k []), List.getElem?_eq_getElem hi]; rfl
    rw [e] at hn
    obtain ⟨y, hy⟩ : ∃ y, (rows.getD k [])[i] = y := ⟨_, rfl⟩
    rw [hy] at ho hn
    simp [outB] at ho
    omega
  · intro hc
    obtain ⟨r, hr, hx⟩ := List.any_eq_true.1 hc
    obtain ⟨k, hk, rfl⟩ := hget r hr
    have hrl := h.row k hk
    rw [hrl, hl] at hx
    simp at hx
theorem nr_fit {n : Nat} {f : Nat → Nat → Int} (hn : n ≤ 12) (hf : ∀ h x, h ≤ n → 1 ≤ x → x ≤ n → -1000000 ≤ f h x ∧ f h x ≤ 1000000) : Fit (nr n f) n :=
  ⟨nr_len n f, hn, fun h hh => by rw [nr_row f hh, List.length_map, List.length_range], fun h x hh h1 h2 => by rw [nr_sr f hh h1 h2]; exact hf h x hh h1 h2⟩
section
variable {w wr w1 : World} {T : Tm}
/-- a new row of nothing -/
theorem Ths.box0 (h : Ths w wr T) (hs : w.heap.size ≤ wr.heap.size) (k : Nat) : Ths w (wr.alloc (.cells #[] 3)) (upT T k (.slice (some ⟨wr.heap.size, 0, none⟩) 0 0, [])) := by
  have hl := h.laid (below_al wr (.cells #[] 3))
  have hlt : ∀ j b, (T j).1.ownBlock = some b → b ≠ wr.heap.size := fun j b hb => by have := ((h.own j).lt b hb).2; omega
  refine ⟨fun j => ?_, fun i j b hij hi hj => ?_⟩
  · by_cases e : j = k
    · subst e; rw [upT_same]; exact World.ownsRow_lit wr #[] 0 hs (Nat.zero_le _) rfl
    · rw [upT_ne T _ e]; exact hl.own j
  · by_cases e : i = k
    · subst e
      rw [upT_same] at hi
      rw [upT_ne T _ (fun e => hij e.symm)] at hj
      have hi : some wr.heap.size = some b := hi
      injection hi with hi
      exact (hlt j b hj hi.symm).elim
    · rw [upT_ne T _ e] at hi
      by_cases e2 : j = k
      · subst e2
        rw [upT_same] at hj
        have hj : some wr.heap.size = some b := hj
        injection hj with hj
        exact (hlt i b hi hj.symm).elim
      · rw [upT_ne T _ e2] at hj
        exact h.sep i j b hij hi hj
/-- a number is stored in a row -/
theorem Ths.store (h : Ths w wr T) {k g n c : Nat} {xs : List Value} (e : T k = (.slice (some ⟨g, 0, none⟩) n c, xs)) (i : Nat) (x : Value) (hx : xs.length = n) : Ths w (wr.setCell ⟨g, i, none⟩ x) (upT T k (.slice (some ⟨g, 0, none⟩) n c, xs.set i x)) := by
  have hk : Kp (fun b => b = g) wr (wr.setCell ⟨g, i, none⟩ x) := (Kp.refl _ wr).setCell _ _ _ (fun _ => rfl)
  have ho := h.own k
  rw [e] at ho
  refine ⟨fun j => ?_, fun i' j b hij hi hj => ?_⟩
  · by_cases e2 : j = k
    · subst e2
      rw [upT_same]
      have hs := (World.ownsRow.stored (show wr.ownsRow w.heap.size 3 1 (.slice (some ⟨g, 0, none⟩) n c) n xs by have := ho; rw [hx] at this; exact this) i x).1
      show World.ownsRow _ _ _ _ _ (xs.set i x).length _
      rw [List.length_set, hx]
      exact hs
    · rw [upT_ne T _ e2]
      exact own_kp2 (h.own j) hk (fun b hb e3 => h.sep j k b e2 hb (by have e4 : b = g := e3; rw [e, e4]; rfl))
  · have hsame : ∀ q, (upT T k (.slice (some ⟨g, 0, none⟩) n c, xs.set i x) q).1.ownBlock = (T q).1.ownBlock := fun q => by
      by_cases e2 : q = k
      · subst e2; rw [upT_same, e]
      · rw [upT_ne T _ e2]
    rw [hsame] at hi hj
    exact h.sep i' j b hij hi hj
/-- the rows that are made: T 0 the one under way, T (1 + h) those that stand -/
structure Mo (w wr : World) (vm : Value) (T : Tm) (k : Nat) : Prop where
  sc : wr.ownsRow w.heap.size 26 1 vm k ((List.range k).map fun h => (T (1 + h)).1)
  ths : Ths w wr T
  below : Below w.heap.size w wr
theorem Mo.laid {vm : Value} {k : Nat} (h : Mo w wr vm T k) (hb : Below wr.heap.size wr w1) : Mo w w1 vm T k :=
  ⟨own_kp2 h.sc (kp_below hb (fun _ => False)) (fun _ _ => id), h.ths.laid hb, h.below.trans (hb.mono h.below.size)⟩
theorem mo_start (w : World) : Mo w w (.slice none 0 0) (fun _ => (.slice none 0 0, [])) 0 :=
  ⟨World.ownsRow_nil _ _ _ _, ⟨fun _ => World.ownsRow_nil _ _ _ _, fun _ _ _ _ e => by cases e⟩, Below.refl _ _⟩
theorem Mo.sc_up {vm : Value} {k : Nat} (_h : Mo w wr vm T k) (v : Value × List Value) : (List.range k).map (fun h => (upT T 0 v (1 + h)).1) = (List.range k).map fun h => (T (1 + h)).1 := List.map_congr_left fun h _ => by rw [upT_ne _ _ (by omega)]
/-- a row is copied -/
theorem Mo.copy {vm v1 : Value} {k n : Nat} {xs : List Value} (h : Mo w wr vm T k) (hv : w1.ownsRow w.heap.size 3 1 v1 n xs) (hn : n = xs.length) (hg : (wr.alloc (.cells #[] 3)).grownBy w1 (some wr.heap.size)) (hnew : v1.ownBlock = some wr.heap.size ∨ v1.ownBlock = some (wr.alloc (.cells #[] 3)).heap.size) : Mo w w1 vm (upT T 0 (v1, xs)) k := by
  have h0 := h.ths.box0 h.below.size 0
  have h1 := h0.grow (k := 0) (wa := wr.alloc (.cells #[] 3)) (Below.refl _ _) hv hn (by rw [upT_same]; exact hg) (by rw [upT_same]; exact hnew)
  have e : upT (upT T 0 (.slice (some ⟨wr.heap.size, 0, none⟩) 0 0, [])) 0 (v1, xs) = upT T 0 (v1, xs) := by
    funext j
    by_cases e : j = 0
    · subst e; rw [upT_same, upT_same]
    · rw [upT_ne _ _ e, upT_ne _ _ e, upT_ne _ _ e]
  rw [e] at h1
  have hb := grown_below hg
  exact ⟨by rw [h.sc_up]; exact own_kp2 h.sc (kp_below hb (fun _ => False)) (fun _ _ => id), h1, h.below.trans (hb.mono h.below.size)⟩
/-- a number of a row is stored -/
theorem Mo.store {vm : Value} {k j g n c : Nat} {xs : List Value} (h : Mo w wr vm T k) (e : T j = (.slice (some ⟨g, 0, none⟩) n c, xs)) (i : Nat) (x : Value) (hx : xs.length = n) : Mo w (wr.setCell ⟨g, i, none⟩ x) vm (upT T j (.slice (some ⟨g, 0, none⟩) n c, xs.set i x)) k := by
  have hk : Kp (fun b => b = g) wr (wr.setCell ⟨g, i, none⟩ x) := (Kp.refl _ wr).setCell _ _ _ (fun _ => rfl)
  have ho := h.ths.own j
  rw [e] at ho
  obtain ⟨d', hd'⟩ := own_ty ho (k := g) rfl
  have hs : (List.range k).map (fun h => (upT T j (.slice (some ⟨g, 0, none⟩) n c, xs.set i x) (1 + h)).1) = (List.range k).map fun h => (T (1 + h)).1 := List.map_congr_left fun q _ => by
    by_cases e2 : 1 + q = j
    · rw [e2, upT_same, e]
    · rw [upT_ne _ _ e2]
  refine ⟨?_, h.ths.store e i x hx, below_kp h.below hk (fun b _ e2 => by have e3 : b = g := e2; have := (ho.lt g rfl).1; omega)⟩
  rw [hs]
  refine own_kp2 h.sc hk (fun b hb e2 => ?_)
  have e3 : b = g := e2
  subst e3
  obtain ⟨d, hd⟩ := own_ty h.sc hb
  exact ty_ne hd hd' (by decide)
/-- the row under way joins those that stand -/
theorem Mo.push {vm v1 x : Value} {k : Nat} {xs : List Value} (h : Mo w wr vm T k) (hx : T 0 = (x, xs)) {wa : World} (hb : Below wr.heap.size wr wa) (hv : w1.ownsRow w.heap.size 26 1 v1 (k + 1) (((List.range k).map fun h => (T (1 + h)).1) ++ [x])) (hg : wa.grownBy w1 vm.ownBlock) : Mo w w1 v1 (upT (upT T (1 + k) (T 0)) 0 (.slice none 0 0, [])) (k + 1) := by
  have hl := h.laid hb
  have hkk : Kp (fun b => vm.ownBlock = some b) wa w1 := (Kp.refl _ wa).grown hg (fun b hb _ => hb)
  have ht := hl.ths.kept hkk (fun b c hb2 _ e => by
    obtain ⟨d', hd'⟩ := own_ty hl.sc e
    exact ty_ne hb2 hd' (by decide))
  refine ⟨?_, ht.move (by omega), below_kp hl.below hkk (fun b _ e => by have := (hl.sc.lt b e).1; omega)⟩
  have e : (List.range (k + 1)).map (fun h => (upT (upT T (1 + k) (T 0)) 0 (.slice none 0 0, []) (1 + h)).1) = ((List.range k).map fun h => (T (1 + h)).1) ++ [x] := by
    rw [List.range_succ, List.map_append]
    congr 1
    · exact List.map_congr_left fun h hh => by
        have := List.mem_range.1 hh
        rw [upT_ne _ _ (by omega), upT_ne _ _ (by omega)]
    · rw [List.map_singleton, upT_ne _ _ (by omega), upT_same, hx]
  rw [e]
  exact hv
/-- rows that are made lie as rows do -/
theorem Mo.rw {vm : Value} {n : Nat} {f : Nat → Nat → Int} (h : Mo w wr vm T (n + 1)) (hT : ∀ k, k ≤ n → (T (1 + k)).2 = ints ((List.range n).map fun i => f k (i + 1))) : ∃ bm cm, vm = .slice (some ⟨bm, 0, none⟩) (n + 1) cm ∧ Rw wr (some ⟨bm, 0, none⟩) bm 0 (fun k => sad (T (1 + k)).1) (fun k => scp (T (1 + k)).1) (nr n f) := by
  obtain ⟨bm, cm, rfl, h1, h2⟩ := own_some h.sc (Nat.succ_pos _)
  have hlen : ∀ k, k ≤ n → (T (1 + k)).2.length = n := fun k hk => by rw [hT k hk, ints_len, List.length_map, List.length_range]
  refine ⟨bm, cm, rfl, fun _ => ⟨rfl, h2⟩, fun k hk => ?_, fun k hk => ?_⟩
  · rw [nr_len] at hk
    rw [Nat.zero_add, h.sc.cellAt k (by omega), List.getElem?_map, List.getElem?_range (by omega), nr_row f (by omega), List.length_map, List.length_range]
    have ho := h.ths.own (1 + k)
    rw [hlen k (by omega)] at ho
    obtain ⟨a, c, e⟩ := oslice ho
    show some (T (1 + k)).1 = _
    rw [e]
    rfl
  · rw [nr_len] at hk
    rw [nr_row f (by omega)]
    intro h0
    rw [List.length_map, List.length_range] at h0
    have ho := h.ths.own (1 + k)
    rw [hlen k (by omega)] at ho
    obtain ⟨g, e1, e2, e3, e4, e5⟩ := own_full ho h0
    refine ⟨g, 0, e1, e4, fun i hi => ?_⟩
    rw [List.length_map, List.length_range] at hi
    rw [Nat.zero_add, e5 i hi, hT k (by omega), ints_getD (by rw [List.length_map, List.length_range]; exact hi)]
end
end Go.Proofs.Ytpolnkdbebjpnaa.Hd
