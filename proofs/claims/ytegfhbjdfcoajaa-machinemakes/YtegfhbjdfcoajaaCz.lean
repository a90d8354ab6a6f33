/- What is made of right machines is right: Either, Chain, Repeat, Turn, Side. Condition: the machines are small. -/
import Derived.Test.YtegfhbjdfcoajaaBzM
import Derived.Test.YtegfhbjdfcoajaaRz
namespace Go.Proofs.Ytegfhbjdfcoajaa.Bw
open Mv Wk Rz Sy

theorem once_iff {m : M} : onceK m m.fins.length ↔ (m.fins.map Prod.fst).Nodup := by
  unfold onceK List.Nodup
  rw [List.pairwise_map, List.pairwise_iff_getElem]
  constructor
  · intro h i j hi hj hij
    exact h i j hi hj hij hj
  · intro h i j hi hj hij _
    exact h i j hi hj hij
theorem ok_iff {m : M} : checkP m 0 ↔ sizeB m = true ∧ (∀ a ∈ m.arcs, arcB m.st a = true) ∧ (∀ f ∈ m.fins, finB m.st f = true) ∧ (m.fins.map Prod.fst).Nodup := by
  constructor
  · intro h
    obtain ⟨h1, h2, h3⟩ := checkP_ok h
    refine ⟨h1, fun a ha => ?_, fun f hf => ?_, ?_⟩
    · obtain ⟨k, hk, rfl⟩ := List.getElem_of_mem ha
      exact h2 k hk
    · obtain ⟨k, hk, rfl⟩ := List.getElem_of_mem hf
      exact h3 k hk
    · rw [← once_iff]
      rcases h with ⟨_, e⟩ | ⟨_, _, e⟩ | ⟨_, _, _, e⟩ | ⟨_, _, _, _, e⟩ | ⟨_, _, _, h, _⟩
      · omega
      · omega
      · omega
      · omega
      · exact h
  · rintro ⟨h1, h2, h3, h4⟩
    exact .inr (.inr (.inr (.inr ⟨h1, fun k h => h2 _ (List.getElem_mem h), fun k h => h3 _ (List.getElem_mem h), once_iff.2 h4, rfl⟩)))
theorem arc_iff {st : Int} {a : A5} : arcB st a = true ↔ (0 ≤ a.1 ∧ a.1 < st ∧ 0 ≤ a.2.1 ∧ a.2.1 < st ∧ 0 ≤ a.2.2.1 ∧ a.2.2.1 ≤ 60 ∧ 0 ≤ a.2.2.2.1 ∧ a.2.2.2.1 ≤ 60 ∧ 0 ≤ a.2.2.2.2 ∧ a.2.2.2.2 ≤ 1000000) := by
  unfold arcB
  exact decide_eq_true_iff
theorem fin_iff {st : Int} {f : Int × Int} : finB st f = true ↔ (0 ≤ f.1 ∧ f.1 < st ∧ 0 ≤ f.2 ∧ f.2 ≤ 1000000) := by
  unfold finB
  exact decide_eq_true_iff
theorem size_iff {m : M} : sizeB m = true ↔ (1 ≤ m.st ∧ m.st ≤ 3000 ∧ (m.arcs.length : Int) ≤ 20000 ∧ (m.fins.length : Int) ≤ m.st) := by
  unfold sizeB
  exact decide_eq_true_iff
theorem few_iff {m : M} : fewB m = true ↔ (m.st ≤ 40 ∧ (m.arcs.length : Int) ≤ 120 ∧ (m.fins.length : Int) ≤ 40) := by
  unfold fewB
  exact decide_eq_true_iff
theorem fit_of {m : M} (h : checkP m 0) : Fit m := by
  obtain ⟨h1, h2, h3, _⟩ := ok_iff.1 h
  refine ⟨(size_iff.1 h1).1, fun x hx => ?_, fun f hf => ?_⟩
  · have := arc_iff.1 (h2 x hx)
    omega
  · have := fin_iff.1 (h3 f hf)
    omega
theorem map_mv (d : Int) (l : List (Int × Int)) : (l.map (mvF d)).map Prod.fst = (l.map Prod.fst).map (· + d) := by
  rw [List.map_map, List.map_map]
  rfl
theorem nodup_add (d : Int) {l : List Int} (h : l.Nodup) : (l.map (· + d)).Nodup := by
  unfold List.Nodup at *
  rw [List.pairwise_map]
  exact h.imp (fun hne e => hne (by omega))

theorem turn_ok {m : M} (h : checkP m 0) : checkP (turnM m) 0 := by
  obtain ⟨h1, h2, h3, h4⟩ := ok_iff.1 h
  refine ok_iff.2 ⟨?_, fun a ha => ?_, h3, h4⟩
  · have := size_iff.1 h1
    exact size_iff.2 (by unfold turnM; simp only [List.length_map]; exact this)
  · obtain ⟨b, hb, rfl⟩ := List.mem_map.1 ha
    have := arc_iff.1 (h2 b hb)
    exact arc_iff.2 (by unfold turnA turnM; dsimp only; omega)
theorem side_ok {m : M} (h : checkP m 0) : checkP (sideM m) 0 := by
  obtain ⟨h1, h2, h3, h4⟩ := ok_iff.1 h
  refine ok_iff.2 ⟨?_, fun a ha => ?_, h3, h4⟩
  · have := size_iff.1 h1
    exact size_iff.2 (by unfold sideM; simp only [List.length_map]; exact this)
  · obtain ⟨b, hb, rfl⟩ := List.mem_map.1 ha
    have := arc_iff.1 (h2 b hb)
    exact arc_iff.2 (by unfold sideA sideM; dsimp only; omega)
theorem either_ok {a b : M} (ha : checkP a 0) (hb : checkP b 0) (fa : fewB a = true) (fb : fewB b = true) : checkP (eitherM a b) 0 := by
  obtain ⟨a1, a2, a3, a4⟩ := ok_iff.1 ha
  obtain ⟨b1, b2, b3, b4⟩ := ok_iff.1 hb
  have sa := size_iff.1 a1
  have sb := size_iff.1 b1
  have fa' := few_iff.1 fa
  have fb' := few_iff.1 fb
  refine ok_iff.2 ⟨size_iff.2 ?_, fun x hx => arc_iff.2 ?_, fun f hf => fin_iff.2 ?_, ?_⟩
  · unfold eitherM
    simp only [List.length_cons, List.length_append, List.length_map]
    omega
  · show _ ∧ _ < 1 + a.st + b.st ∧ _ ∧ _ < 1 + a.st + b.st ∧ _
    rcases List.mem_cons.1 hx with rfl | hx
    · dsimp only; omega
    rcases List.mem_cons.1 hx with rfl | hx
    · dsimp only; omega
    rcases List.mem_append.1 hx with hx | hx
    · obtain ⟨y, hy, rfl⟩ := List.mem_map.1 hx
      have := arc_iff.1 (a2 y hy)
      unfold mvA; dsimp only; omega
    · obtain ⟨y, hy, rfl⟩ := List.mem_map.1 hx
      have := arc_iff.1 (b2 y hy)
      unfold mvA; dsimp only; omega
  · show _ ∧ _ < 1 + a.st + b.st ∧ _
    rcases List.mem_append.1 hf with hf | hf
    · obtain ⟨y, hy, rfl⟩ := List.mem_map.1 hf
      have := fin_iff.1 (a3 y hy)
      unfold mvF; dsimp only; omega
    · obtain ⟨y, hy, rfl⟩ := List.mem_map.1 hf
      have := fin_iff.1 (b3 y hy)
      unfold mvF; dsimp only; omega
  · show ((a.fins.map (mvF 1) ++ b.fins.map (mvF (1 + a.st))).map Prod.fst).Nodup
    rw [List.map_append, map_mv, map_mv]
    refine List.nodup_append.2 ⟨nodup_add _ a4, nodup_add _ b4, fun x hx y hy e => ?_⟩
    obtain ⟨p, hp, rfl⟩ := List.mem_map.1 hx
    obtain ⟨q, hq, rfl⟩ := List.mem_map.1 hy
    obtain ⟨f, hf, rfl⟩ := List.mem_map.1 hp
    obtain ⟨g, hg, rfl⟩ := List.mem_map.1 hq
    have h1 := fin_iff.1 (a3 f hf)
    have h2 := fin_iff.1 (b3 g hg)
    omega
theorem chain_ok {a b : M} (ha : checkP a 0) (hb : checkP b 0) (fa : fewB a = true) (fb : fewB b = true) : checkP (chainM a b) 0 := by
  obtain ⟨a1, a2, a3, a4⟩ := ok_iff.1 ha
  obtain ⟨b1, b2, b3, b4⟩ := ok_iff.1 hb
  have sa := size_iff.1 a1
  have sb := size_iff.1 b1
  have fa' := few_iff.1 fa
  have fb' := few_iff.1 fb
  refine ok_iff.2 ⟨size_iff.2 ?_, fun x hx => arc_iff.2 ?_, fun f hf => fin_iff.2 ?_, ?_⟩
  · unfold chainM
    simp only [List.length_append, List.length_map]
    omega
  · show _ ∧ _ < a.st + b.st ∧ _ ∧ _ < a.st + b.st ∧ _
    rcases List.mem_append.1 hx with hx | hx
    · rcases List.mem_append.1 hx with hx | hx
      · obtain ⟨y, hy, rfl⟩ := List.mem_map.1 hx
        have := arc_iff.1 (a2 y hy)
        unfold mvA; dsimp only; omega
      · obtain ⟨y, hy, rfl⟩ := List.mem_map.1 hx
        have := arc_iff.1 (b2 y hy)
        unfold mvA; dsimp only; omega
    · obtain ⟨y, hy, rfl⟩ := List.mem_map.1 hx
      have := fin_iff.1 (a3 y hy)
      dsimp only; omega
  · show _ ∧ _ < a.st + b.st ∧ _
    obtain ⟨y, hy, rfl⟩ := List.mem_map.1 hf
    have := fin_iff.1 (b3 y hy)
    unfold mvF; dsimp only; omega
  · show ((b.fins.map (mvF a.st)).map Prod.fst).Nodup
    rw [map_mv]
    exact nodup_add _ b4
theorem repeat_ok {a : M} (ha : checkP a 0) (fa : fewB a = true) : checkP (repeatM a) 0 := by
  obtain ⟨a1, a2, a3, a4⟩ := ok_iff.1 ha
  have sa := size_iff.1 a1
  have fa' := few_iff.1 fa
  refine ok_iff.2 ⟨size_iff.2 ?_, fun x hx => arc_iff.2 ?_, fun f hf => fin_iff.2 ?_, ?_⟩
  · unfold repeatM
    simp only [List.length_append, List.length_map, List.length_cons, List.length_nil]
    omega
  · show _ ∧ _ < 1 + a.st ∧ _ ∧ _ < 1 + a.st ∧ _
    rcases List.mem_append.1 hx with hx | hx
    · rcases List.mem_append.1 hx with hx | hx
      · obtain ⟨y, hy, rfl⟩ := List.mem_map.1 hx
        have := arc_iff.1 (a2 y hy)
        unfold mvA; dsimp only; omega
      · rw [List.mem_singleton.1 hx]
        dsimp only; omega
    · obtain ⟨y, hy, rfl⟩ := List.mem_map.1 hx
      have := fin_iff.1 (a3 y hy)
      dsimp only; omega
  · show _ ∧ _ < 1 + a.st ∧ _
    rw [List.mem_singleton.1 hf]
    dsimp only; omega
  · exact List.nodup_cons.2 ⟨by simp, List.nodup_nil⟩
end Go.Proofs.Ytegfhbjdfcoajaa.Bw
