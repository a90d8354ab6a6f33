/- How parts and lists of them lie in memory, with room, out of the reading of the arguments. Condition: each slice takes no more bytes than the form's own reach. -/
import Derived.Test.YtbmgkgoghgdbhaaWa
import Derived.Test.YtbmgkgoghgdbhaaVq
namespace Go.Proofs.Ytbmgkgoghgdbhaa.Opw
open Go.ChangeShapes Go.WideShapes Go.ChangeAt Go.RowKit Go.Deep
open Te

/-- a row of types is a type's kids -/
theorem kidsq_at {w : World} {l : List Et} {a : Option Addr} {c : Nat} {k n : Int} (hroom : l.length ≤ c) (hk : i64B k) (hn : i64B n) (hl : l.length ≤ 140737488355328) (hp : ∀ y ∈ l, TyQ w y.2.2.2 y.1 y.2.1 y.2.2.1)
    (hc : l.length = 0 ∨ ∃ g off, a = some ⟨g, off, none⟩ ∧ g < w.heap.size ∧ ∀ i (hi : i < l.length) j u, (tyc l[i].1 l[i].2.1 l[i].2.2.1)[j]? = some u → w.cell? ⟨g, off + i * 3 + j, none⟩ = some u) : TyQ w ((l.map (·.2.2.2)).sum + 1) ⟨k, n, l.map (·.1)⟩ a c := by
  have hll : (l.map (·.1)).length = l.length := List.length_map _
  refine ⟨by rw [hll]; exact hroom, hk, hn, by rw [hll]; exact hl, ?_⟩
  rcases hc with h0 | ⟨g, off, ha, hg, hc⟩
  · exact .inl (by rw [hll]; exact h0)
  · refine .inr ⟨g, off, ha, hg, fun j hj => ?_⟩
    have hj' : j < l.length := by rw [hll] at hj; exact hj
    have e : (l.map (·.1))[j] = l[j].1 := List.getElem_map _
    dsimp only
    rw [e]
    refine ⟨l[j].2.1, l[j].2.2.1, hc j hj' 0 _ rfl, hc j hj' 1 _ rfl, hc j hj' 2 _ rfl, ?_⟩
    have hm := List.getElem_mem hj'
    exact (hp _ hm).upto (le_sum (List.mem_map.2 ⟨_, hm, rfl⟩))
theorem openq_ty {H : Type} {enc : TypeId × Value → H} {w : World} {spare : Nat → Bool} {held : Bool} : ∀ (s fuel : Nat) (cs : List Value) (x : DataW H × List MemPlace), SizeOf.sizeOf x.1 < s → DataW.trod enc Try.prog w 0 spare held fuel 24 cs = some x → cs.length = 3 → (∀ m ∈ x.1.weights Try.prog 24, m ≤ reachBytes) → ∃ y : Et, cs = tyc y.1 y.2.1 y.2.2.1 ∧ TyQ w y.2.2.2 y.1 y.2.1 y.2.2.1 := by
  intro s
  induction s with
  | zero => intro fuel cs x h; omega
  | succ s ih =>
    intro fuel cs x hs h hl hb
    match cs, hl with
    | [c0, c1, c2], _ =>
      obtain ⟨y0, y1, y2, n, hx, _, h0, h1, h2⟩ := trod_struct3 Try.underlying24 h
      dsimp only at h0 h1 h2 hx
      rw [k3] at h0 h1
      rw [k22] at h2
      change DataW.trod enc Try.prog w 0 spare held n 3 [c0] = some y0 at h0
      change DataW.trod enc Try.prog w 0 spare held n 3 [c1] = some y1 at h1
      change DataW.trod enc Try.prog w 0 spare held n 22 [c2] = some y2 at h2
      rw [hx] at hb hs
      simp only [DataW.weights, Try.underlying24, List.map_cons, DataW.weightsEach, List.mem_append] at hb
      obtain ⟨q0, e0, _, w0⟩ := DataW.trod_int Try.underlying3 h0
      obtain ⟨q1, e1, _, w1⟩ := DataW.trod_int Try.underlying3 h1
      have hs2 : SizeOf.sizeOf y2.1 ≤ s := by
        simp only [DataW.agg.sizeOf_spec, List.cons.sizeOf_spec, List.nil.sizeOf_spec] at hs
        omega
      obtain ⟨l, a, c, hv, hroom, hn, hp, hc⟩ := open_rows (⟨⟨0, 0, []⟩, none, 0, 0⟩ : Et) (fun y => tyc y.1 y.2.1 y.2.2.1) 3 (fun _ => rfl) (by omega) Try.underlying22 k24 (fun y => TyQ w y.2.2.2 y.1 y.2.1 y.2.2.1) s (fun n cs x hx => ih n cs x hx) hs2 h2 (fun n hn => hb n (by simp [hn]))
      have hr := reachBytes_lt
      have hle := Nat.le_mul_of_pos_right l.length bytes24
      simp only [List.cons.injEq, and_true] at e0 e1
      subst e0 e1 hv
      refine ⟨⟨⟨q0, q1, l.map (·.1)⟩, a, c, _⟩, ?_, kidsq_at hroom (i64_wf w0) (i64_wf w1) (by omega) hp hc⟩
      simp [tyc]
theorem openq_tys {H : Type} {enc : TypeId × Value → H} {w : World} {spare : Nat → Bool} {held : Bool} {fuel : Nat} {v : Value} {x : DataW H × List MemPlace} (h : DataW.trod enc Try.prog w 0 spare held fuel 22 [v] = some x) (hb : ∀ n ∈ x.1.weights Try.prog 22, n ≤ reachBytes) : ∃ (l : List Ty) (a : Option Addr) (c d : Nat), v = .slice a l.length c ∧ LsQ w d l a c := by
  obtain ⟨l, a, c, hv, hroom, hn, hp, hc⟩ := open_rows (⟨⟨0, 0, []⟩, none, 0, 0⟩ : Et) (fun y => tyc y.1 y.2.1 y.2.2.1) 3 (fun _ => rfl) (by omega) Try.underlying22 k24 (fun y => TyQ w y.2.2.2 y.1 y.2.1 y.2.2.1) _ (fun n cs x hx => openq_ty _ n cs x hx) (Nat.le_refl _) h hb
  have hr := reachBytes_lt
  have hle := Nat.le_mul_of_pos_right l.length bytes24
  refine ⟨l.map (·.1), a, c, (l.map (·.2.2.2)).sum, by rw [List.length_map]; exact hv, ?_⟩
  exact kidsq_at (k := 0) (n := 0) hroom (by unfold i64B; omega) (by unfold i64B; omega) (by omega) hp hc
set_option maxRecDepth 100000 in
/-- a part that comes in by value -/
theorem openq_part {H : Type} {enc : TypeId × Value → H} {w : World} {r : Reach} {b0 : Nat} {spare : Nat → Bool} {held : Bool} {v : Value} {d : DataW H} {p : List MemPlace} (hv : Value.okWide Try.prog w r b0 24 v) (h : DataW.Trod enc Try.prog w 0 spare held 24 v d p) (hk : ∀ n ∈ d.weights Try.prog 24, n ≤ reachBytes) :
    ∃ (t : Ty) (a : Option Addr) (c e : Nat), v = vty t a c ∧ TyQ w e t a c := by
  obtain ⟨cs, rfl, hsz⟩ := okWide_struct Try.underlying24 hv
  obtain ⟨c0, c1, c2, rfl⟩ := array3 (hsz.trans (by kernel_rfl))
  obtain ⟨fuel, hf⟩ := h
  obtain ⟨⟨t, a, c, e⟩, hc, hy⟩ := openq_ty _ fuel _ (d, p) (Nat.lt_succ_self _) hf rfl hk
  refine ⟨t, a, c, e, ?_, hy⟩
  have hc' : [c0, c1, c2] = tyc t a c := hc
  simp only [tyc, List.cons.injEq, and_true] at hc'
  obtain ⟨rfl, rfl, rfl⟩ := hc'
  rfl
end Go.Proofs.Ytbmgkgoghgdbhaa.Opw
