/- The document's Texts: a text's units as strings. Condition: at most 1048576 bytes. -/
import Derived.Test.YtiiheaopamjijaaUn
import Derived.Deep.RegionLaw
namespace Go.Proofs.Ytiiheaopamjijaa.Tx
open Go.RowKit Uni UnitsP Rw Un

/-- an append onto an owned row, as one step of a region that draws its order -/
theorem step_append_own {P : Program} {ops : Array Oper} {o : Oper} {a : Act} {w : World} {K : Act → World → Prop} {Q : Exit → Act → World → Prop} {E : Prop}
    (hgd : o.guard = none) (s x : Operand) (t : TypeId) (ho : o.op = .call { callee := .builtin .append, args := #[s, x], argTypes := #[t, t] })
    (base : Nat) (e : TypeId) (i : TypeInfo) (z : Value) (size bytes : Nat) (ht : P.underlying t = some (.slice e)) (hi : P.info? e = some i) (hz : i.zero = some z)
    (hsize : i.size = size) (hby : i.bytes = bytes) (hzs : z.cells.size = size) (hsz : 0 < size)
    (v : Value) (n : Nat) (xs : List Value) (hs : a.eval s = v) (hown : w.ownsRow base e size v n xs)
    (ad : Addr) (m c : Nat) (news : List Value) (hx : a.eval x = .slice (some ad) m c) (hl : news.length = m * size) (hnews : ∀ j u, news[j]? = some u → w.cell? (ad.add j) = some u) (h1 : ∀ u ∈ news, u.oneCell' = true)
    (h63 : n + m ≤ maxLen) (hbytes : (n + m) * bytes ≤ 140737488355328) (hbase : base ≤ w.heap.size)
    (h : ∀ v' w', w'.ownsRow base e size v' (n + m) (xs ++ news) → w.grownBy w' v.ownBlock → K (a.put o.dst v') w') :
    if Region.wanted o (yielded ops a.tmps) = true then Oper.wp P o a w K Q else E := by
  have hw : Region.wanted o (yielded ops a.tmps) = true := by simp [Region.wanted, hgd]
  rw [if_pos hw]
  exact wp_append_own w s x t ho base e i z size bytes ht hi hz hsize hby hzs hsz v n xs hs hown ad m c news hx hl hnews h1 h63 hbytes hbase fun v' w' h2 h3 _ => h v' w' h2 h3

theorem own_mono {w : World} {base base' : Nat} {e : TypeId} {size : Nat} {v : Value} {n : Nat} {xs : List Value} (h : w.ownsRow base e size v n xs) (hb : base' ≤ base) : w.ownsRow base' e size v n xs := by
  refine ⟨h.1, ?_⟩
  rcases h.2 with hn | ⟨g, cap, cur, hv, hbb, rest⟩
  · exact .inl hn
  · exact .inr ⟨g, cap, cur, hv, by omega, rest⟩

theorem take_snoc (s : ByteArray) (k : Nat) (h : k < (units s).length) : strs ((tx s).take (k + 1)) = strs ((tx s).take k) ++ [.string (s.extract ((units s)[k]).1 (((units s)[k]).1 + ((units s)[k]).2.1))] := by
  have h' : k < (tx s).length := by rw [tx_length]; exact h
  rw [List.take_add_one, List.getElem?_eq_getElem h']
  simp [strs, tx, sub]
theorem cell_one_drew (w : World) (g : Nat) (a : Value) (t : TypeId) (hg : g = w.heap.size) : ∀ j u, [a][j]? = some u → (w.alloc (.cells #[a] t)).drew.cell? ((⟨g, 0, none⟩ : Addr).add j) = some u := by
  intro j u hj
  subst hg
  have hadd : (⟨w.heap.size, 0, none⟩ : Addr).add j = ⟨w.heap.size, 0 + j, none⟩ := by unfold Addr.add; split <;> simp_all
  obtain ⟨rfl, rfl⟩ : j = 0 ∧ a = u := by
    cases j with
    | zero => simpa using hj
    | succ j => simp at hj
  rw [hadd]
  simp

set_option maxHeartbeats 1000000 in
set_option maxRecDepth 100000 in
theorem texts_few (s : ByteArray) (w : World) (hs : s.size ≤ 1048576) (hn0 : 0 < (units s).length) :
    Calls Try.prog 6 #[.string s] w fun e w' => ∃ v, e = .returned v ∧ IsZ w' v (tx s) ∧ Below w.heap.size w w' := by
  have hul := units_length s
  have c := fun W => UnitsR.units_any s W hs
  obtain ⟨i9, hi9, hz90, hz91, hz92⟩ := info_parts info9
  go_enter Try.func6, Try.ntmps6
  go_wp2_with (first
   | (go_at_call 15; refine (c _).mono ?_; rintro e w1 ⟨v, rfl, hown, hb⟩; obtain ⟨g, cap, rfl, hgb, hgl, hcap, hcs⟩ := own_open hown hn0))
  clear hown c
  go_loopw [3, 5] (fun v i wr => ∃ k : Nat, i = .int .i64 k ∧ k ≤ (units s).length ∧ wr.ownsRow w1.heap.size 9 1 v k (strs ((tx s).take k)) ∧ Below w1.heap.size w1 wr) (fun _ i _ => (units s).length - (intOf i).toNat)
  case atStart => exact ⟨0, rfl, by omega, World.ownsRow_nil _ _ _ _, Below.refl _ _⟩
  case round =>
    obtain ⟨k, rfl, hk, hown, hbw⟩ := hrel
    by_cases hlt : k < (units s).length
    · have u := ucs_at (units s) k hlt
      have p1 := (hbw.cell (p := ⟨g, k * 3, none⟩) hgl).trans (hcs _ _ u.1)
      have p2 := (hbw.cell (p := ⟨g, k * 3 + 1, none⟩) hgl).trans (hcs _ _ u.2.1)
      have hin := units_in s k hlt
      have hsz := hbw.size
      clear u
      have T := take_snoc s k hlt
      obtain ⟨p, ep⟩ : ∃ p, p = ((units s)[k]).1 := ⟨_, rfl⟩
      obtain ⟨q, eq⟩ : ∃ q, q = ((units s)[k]).2.1 := ⟨_, rfl⟩
      rw [← ep] at p1
      rw [← eq] at p2
      rw [← ep, ← eq] at hin T
      clear ep eq
      have hwr : IntKind.i64.wrap ((p : Int) + (q : Int)) = ((p + q : Nat) : Int) := by rw [IntKind.wrap_i64]; omega
      have hpq : p + q ≤ s.size := hin.1
      have d1 : (0 : Int) ≤ (p : Int) + (q : Int) := by omega
      have d2 : (p : Int) + (q : Int) ≤ (s.size : Int) := by omega
      have d3 : (p : Int) ≤ (p : Int) + (q : Int) := by omega
      have d4 : ((p : Int) + (q : Int)).toNat = p + q := by omega
      have hT : Hid (strs ((tx s).take (k + 1)) = strs ((tx s).take k) ++ [.string (s.extract p (p + q))]) := T
      clear T hin
      go_wp2
      go_region_law (refine step_append_own rfl (.tmp 14) (.tmp 33) 28 rfl w1.heap.size 9 i9 (.string ByteArray.empty) 1 16 Try.underlying28 hi9 hz90 hz91 hz92 rfl (by decide) _ _ _ rfl (hown.alloc _).drew ⟨_, 0, none⟩ 1 1 [.string (s.extract p (p + q))] rfl rfl (cell_one_drew _ _ _ _ rfl) (by simp [Value.oneCell']) (by unfold maxLen; omega) (by omega) (by simp; omega) ?_; intro v' W2 hown3 hgrow3)
      all_goals go_wp2
      all_goals refine ⟨⟨k + 1, by simp, by omega, ?_, ((hbw.alloc hsz _).drew).grown hgrow3 (by simp; omega) (fun j hj => (hown.lt j hj).1)⟩, by simp [intOf]; omega⟩
      all_goals rw [hT.out]
      all_goals exact hown3
    · go_wp2
      go_ret
      have : k = (units s).length := by omega
      subst this
      refine ⟨_, rfl, ?_, hb.trans (hbw.mono hb.size)⟩
      have hr := row_of_own hown (by omega)
      have e : (tx s).take (units s).length = tx s := by rw [← tx_length, List.take_length]
      rw [e] at hr
      have e' : IsZ wr u3 (tx s) = Row wr u3 1 (units s).length (strs (tx s)) := by rw [← tx_length]; rfl
      rw [← e'] at hr
      exact hr
end Go.Proofs.Ytiiheaopamjijaa.Tx
