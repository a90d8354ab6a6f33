/- The program's predicates on spots, and ContainsFunc over spots. No conditions beyond how they lie. -/
import Derived.Test.YtkcbgapakpheiaaSc
namespace Go.Proofs.Ytkcbgapakpheiaa.Sp
open Go.RowKit Go.Shelf Sd Md Sc

theorem wide_any (p : VS) (w : World) (h : IsI w p.1 p.2.any) : Calls Try.prog 42 #[.agg #[p.1, .bool p.2.edge]] w fun e w' => e = .returned (.bool (wide p.2)) ∧ Below w.heap.size w w' := by
  obtain ⟨v, s⟩ := p
  obtain ⟨a, cap, hv, _, _⟩ := h.len
  dsimp only at hv h ⊢
  subst hv
  unfold wide
  by_cases h1 : (4 : Int) < (s.any.length : Int)
  · go_enter Try.func42, Try.ntmps42
    go_wp2
    go_ret
    exact ⟨by simp; omega, (Below.refl _ _).alloc (Nat.le_refl _) _⟩
  · go_enter Try.func42, Try.ntmps42
    go_wp2
    go_ret
    exact ⟨by simp; omega, (Below.refl _ _).alloc (Nat.le_refl _) _⟩
theorem edge_any (p : VS) (w : World) : Calls Try.prog 59 #[.agg #[p.1, .bool p.2.edge]] w fun e w' => e = .returned (.bool p.2.edge) ∧ Below w.heap.size w w' := by
  go_enter Try.func59, Try.ntmps59
  go_wp2
  go_ret
  exact ⟨rfl, (Below.refl _ _).alloc (Nat.le_refl _) _⟩
/-- a spot's Any against what the captured function says -/
theorem bad_any (p : VS) (k : Int) (B C : Nat) (w : World) (h : IsI w p.1 p.2.any) (hB : B < w.heap.size) (hcell : w.cell? ⟨B, 0, none⟩ = some (.int .i64 k))
    (hC : C < w.heap.size) (hcc : w.cell? ⟨C, 0, none⟩ = some (.func (.func 57) #[] #[.pointer (some ⟨B, 0, none⟩)])) :
    Calls Try.prog 43 #[.agg #[p.1, .bool p.2.edge], .pointer (some ⟨C, 0, none⟩)] w fun e w' => e = .returned (.bool (p.2.any.any (bad k))) ∧ Below w.heap.size w w' := by
  obtain ⟨v, s⟩ := p
  dsimp only at h ⊢
  have hb0 : ∀ o, Below w.heap.size w (w.alloc o) := fun o => (Below.refl _ _).alloc (Nat.le_refl _) _
  have hcc' : ∀ o, (w.alloc o).cell? ⟨C, 0, none⟩ = some (.func (.func 57) #[] #[.pointer (some ⟨B, 0, none⟩)]) := fun o => ((hb0 o).cell (p := ⟨C, 0, none⟩) hC).trans hcc
  have hcell' : ∀ o, (w.alloc o).cell? ⟨B, 0, none⟩ = some (.int .i64 k) := fun o => ((hb0 o).cell (p := ⟨B, 0, none⟩) hB).trans hcell
  have con := fun o => anyBad v s.any k B (w.alloc o) (h.below (Nat.le_refl _) (hb0 o)) (by simp; omega) (hcell' o)
  generalize s.any.any (bad k) = r at con ⊢
  obtain ⟨a, cap, hv, _, _⟩ := h.len
  subst hv
  clear hcell hcell' hcc h
  go_enter Try.func43, Try.ntmps43
  go_wp2_with (go_at_call 26; refine (con _).mono ?_; rintro e w' ⟨rfl, q, rfl⟩)
  go_ret
  exact ⟨rfl, below_drewN' (hb0 _) q⟩

theorem none32 (a : Option Addr) (cap : Nat) (fv : Value) (w : World) : Calls Try.prog 58 #[.slice a 0 cap, fv] w fun e w' => e = .returned (.int .i64 (-1)) ∧ w' = w := by
  go_enter Try.func58, Try.ntmps58
  go_wp2
  refine wp_loop_rounds 1 ?_
  rw [rounds_succ]
  go_wp2
  go_ret
  exact ⟨rfl, rfl⟩
theorem none20 (a : Option Addr) (cap : Nat) (fv : Value) (w : World) : Calls Try.prog 41 #[.slice a 0 cap, fv] w fun e w' => e = .returned (.bool false) ∧ w' = w := by
  go_enter Try.func41, Try.ntmps41
  go_wp2_with (go_at_call 58; refine (none32 a cap fv _).mono ?_; rintro e w' ⟨rfl, rfl⟩)
  go_ret
  exact ⟨rfl, rfl⟩

theorem pmap_val {α : Type} {P : α → Prop} (l : List α) (h : ∀ x, x ∈ l → P x) : (l.pmap (fun x hx => (⟨x, hx⟩ : { x // P x })) h).map (fun x => x.1) = l := by
  induction l with
  | nil => rfl
  | cons a l ih => simp only [List.pmap_cons, List.map_cons]; rw [ih]

/-- ContainsFunc over spots, at a function that reads them -/
theorem anyS (v : Value) (ls : List VS) (p : Sp → Bool) (g : Nat) (lb : Array Value) (w : World) (h : IsS w v ls) (eg : ∀ args w, (callFunc g args).run Try.prog w = .ok (.enter g args) w)
    (hp : ∀ (W : World) (x : VS), Below w.heap.size w W → IsI W x.1 x.2.any → Calls Try.prog g (#[.agg #[x.1, .bool x.2.edge]] ++ lb) W fun e w' => e = .returned (.bool (p x.2)) ∧ Below W.heap.size W w') :
    Calls Try.prog 41 #[v, .func (.func g) #[] lb] w fun e w' => e = .returned (.bool ((sps ls).any p)) ∧ Below w.heap.size w w' := by
  rcases h.shape with ⟨a, cap, rfl, rfl⟩ | ⟨b, off, cap, rfl, hb, hn, hm, h0, hc⟩
  · refine (none20 a cap _ w).mono ?_
    rintro e w' ⟨rfl, rfl⟩
    exact ⟨rfl, Below.refl _ _⟩
  · have hE := h.2
    haveI : Inhabited { x : VS // IsI w x.1 x.2.any } := ⟨⟨(.slice none 0 0, ⟨[], false⟩), ⟨rfl, none, 0, rfl, Nat.le_refl _, Nat.zero_le _, fun _ => rfl, .inl rfl⟩⟩⟩
    obtain ⟨zs, hzs⟩ : ∃ zs : List { x : VS // IsI w x.1 x.2.any }, zs.map (fun x => x.1) = ls := ⟨_, pmap_val ls hE⟩
    have hzl : zs.length = ls.length := by rw [← hzs, List.length_map]
    have hz : ∀ j (hj : j < ls.length), (zs[j]!).1 = ls[j] := by
      intro j hj
      rw [List.getElem!_eq_getElem?_getD, List.getElem?_eq_getElem (by omega)]
      have : (zs.map (fun x => x.1))[j]? = ls[j]? := by rw [hzs]
      rw [List.getElem?_map, List.getElem?_eq_getElem (by omega), List.getElem?_eq_getElem hj] at this
      simpa using this
    have hany : (zs.take ls.length).any (fun x => p x.1.2) = (sps ls).any p := by
      rw [List.take_of_length_le (by omega)]
      rw [← hzs, sps, List.map_map, List.any_map]
      rfl
    have con := AnyQ.slices_ContainsFunc Try.laysQ8_f20 2 Try.isAgg71 Try.sizeOf71 (fun x : { x : VS // IsI w x.1 x.2.any } => vsc x.1) (fun _ => rfl) (fun x => p x.1.2) g lb eg b off ls.length cap zs w
      (fun W x hb => (hp W x.1 hb (x.2.below (Nat.le_refl _) hb)).mono fun e w' ⟨he, hb'⟩ => ⟨he, hb.trans (hb'.mono hb.size)⟩) (by omega) (by omega) hb (by
        intro j hj i u hu
        rw [hzl] at hj
        rw [hz j hj] at hu
        have := vscs_at ls j hj
        rw [Nat.add_assoc]
        refine hc _ _ ?_
        match i, hu with
        | 0, hu => rw [Nat.add_zero, this.1]; exact hu
        | 1, hu => rw [this.2]; exact hu)
    rw [hany] at con
    exact con
end Go.Proofs.Ytkcbgapakpheiaa.Sp
