/- read (77): by symbols, the states to which arcs lead from a set that read one. Conditions: the arcs lie by states; their states are states. -/
import Derived.Test.YtfjocafepigijaaDoorUlM
import Derived.Test.YtfjocafepigijaaDoorRi
import Derived.LoopIn
import Derived.Sort.CutIn
import Derived.BigFrameIn
namespace Go.Proofs.YtfjocafepigijaaDoor.Su
open Go.RowKit Go.Shelf Mv Po Ps Cm Ra Set Rf Tz Za Pa Ot Rii
attribute [local go_sem] Oper.semAt_some

/-- what is gathered: of the states pre all, of x the first y arcs -/
structure Rp (A : AL) (pre : List Nat) (x y : Nat) (G : Gt) : Prop where
  mem : ∀ c v, mg G c v = true ↔ c ≠ 0 ∧ ((∃ u ∈ pre, Ed A (c : Int) u v) ∨ ∃ j a, j < y ∧ (rws (fun a => a) A x)[j]? = some a ∧ a.2.2.1 = (c : Int) ∧ a.2.1 = (v : Int))
  ne : ∀ c, (G c).isSome = true → ∃ v, mg G c v = true
theorem Rp.begin (A : AL) (x : Nat) : Rp A [] x 0 (fun _ => none) := ⟨fun c v => by simp [mg], fun c h => by cases h⟩
theorem Rp.next {A : AL} {pre : List Nat} {x y x' : Nat} {G : Gt} (h : Rp A pre x y G) (hy : (rws (fun a => a) A x).length ≤ y) : Rp A (pre ++ [x]) x' 0 G := by
  refine ⟨fun c v => ?_, h.ne⟩
  rw [h.mem]
  constructor
  · rintro ⟨h0, h1 | ⟨j, a, _, ha, h2, h3⟩⟩
    · obtain ⟨u, hu, he⟩ := h1
      exact ⟨h0, .inl ⟨u, by simp [hu], he⟩⟩
    · obtain ⟨h4, h5⟩ := rw_mem.1 (List.mem_of_getElem? ha)
      exact ⟨h0, .inl ⟨x, by simp, a, h4, h5, h3, h2⟩⟩
  · rintro ⟨h0, h1 | ⟨j, a, hj, _⟩⟩
    · obtain ⟨u, hu, he⟩ := h1
      rcases List.mem_append.1 hu with hu | hu
      · exact ⟨h0, .inl ⟨u, hu, he⟩⟩
      · rw [List.mem_singleton.1 hu] at he
        obtain ⟨a, ha, h2, h3, h4⟩ := he
        obtain ⟨j, hj, rfl⟩ := List.getElem_of_mem (rw_mem.2 ⟨ha, h2⟩)
        exact ⟨h0, .inr ⟨j, _, by omega, List.getElem?_eq_getElem hj, h4, h3⟩⟩
    · omega
theorem Rp.at {A : AL} {pre : List Nat} {x x' : Nat} {G : Gt} (h : Rp A pre x 0 G) : Rp A pre x' 0 G :=
  ⟨fun c v => by rw [h.mem]; simp, h.ne⟩
theorem Rp.skip {A : AL} {pre : List Nat} {x y : Nat} {G : Gt} {a : Int × Int × Int × Int × Int} (h : Rp A pre x y G) (ha : (rws (fun a => a) A x)[y]? = some a) (hz : a.2.2.1 = 0) : Rp A pre x (y + 1) G := by
  refine ⟨fun c v => ?_, h.ne⟩
  rw [h.mem]
  constructor
  · rintro ⟨h0, h1 | ⟨j, b, hj, hb⟩⟩
    · exact ⟨h0, .inl h1⟩
    · exact ⟨h0, .inr ⟨j, b, by omega, hb⟩⟩
  · rintro ⟨h0, h1 | ⟨j, b, hj, hb, h2, h3⟩⟩
    · exact ⟨h0, .inl h1⟩
    · by_cases e : j = y
      · subst e
        rw [ha] at hb
        cases hb
        rw [hz] at h2
        omega
      · exact ⟨h0, .inr ⟨j, b, by omega, hb, h2, h3⟩⟩
theorem Rp.add {A : AL} {pre : List Nat} {x y ic tn : Nat} {G G' : Gt} {a : Int × Int × Int × Int × Int} (h : Rp A pre x y G) (ha : (rws (fun a => a) A x)[y]? = some a) (hi : a.2.2.1 = (ic : Int)) (ht : a.2.1 = (tn : Int)) (h0 : ic ≠ 0) (hg : Gat G G' ic tn) : Rp A pre x (y + 1) G' := by
  refine ⟨fun c v => ?_, fun c hc => ?_⟩
  · rw [hg.1]
    simp only [Bool.or_eq_true, Bool.and_eq_true, decide_eq_true_eq]
    rw [h.mem]
    constructor
    · rintro (⟨h1, h2 | ⟨j, b, hj, hb⟩⟩ | ⟨rfl, rfl⟩)
      · exact ⟨h1, .inl h2⟩
      · exact ⟨h1, .inr ⟨j, b, by omega, hb⟩⟩
      · exact ⟨h0, .inr ⟨y, a, by omega, ha, hi, ht⟩⟩
    · rintro ⟨h1, h2 | ⟨j, b, hj, hb, h3, h4⟩⟩
      · exact .inl ⟨h1, .inl h2⟩
      · by_cases e : j = y
        · subst e
          rw [ha] at hb
          cases hb
          rw [hi] at h3
          rw [ht] at h4
          exact .inr ⟨by omega, by omega⟩
        · exact .inl ⟨h1, .inr ⟨j, b, by omega, hb, h3, h4⟩⟩
  · rcases hg.2 c hc with h1 | rfl
    · obtain ⟨v, hv⟩ := h.ne c h1
      exact ⟨v, by rw [hg.1, hv]; rfl⟩
    · exact ⟨tn, by rw [hg.1]; simp⟩
/-- how all lies within a round: A0 the world in which it began -/
structure Rq (A0 wr w : World) (base B5 S sb : Nat) (G0 G : Gt) : Prop where
  box : Boxed wr w.heap.size 73 (.slice (some ⟨sb, 0, none⟩) S S)
  res : Arr wr (w.heap.size + 1) (fun _ => .slice none 0 0)
  ar : Ar base wr B5 S G
  kp : Kp (ArX B5 G0) A0 wr
  new_ : ∀ c p, G c = some p → (∃ c0 q, G0 c0 = some q ∧ q.1 = p.1) ∨ ∀ b, p.1.ownBlock = some b → A0.heap.size ≤ b
section
variable {A0 wr w w1 : World} {base B5 S sb : Nat} {G0 G : Gt}
theorem Rq.below (h : Rq A0 wr w base B5 S sb G0 G) (hb : Below wr.heap.size wr w1) : Rq A0 w1 w base B5 S sb G0 G :=
  ⟨(hb.block _ h.box.lt).trans h.box, (hb.block _ h.res.lt).trans h.res, h.ar.below hb, h.kp.trans (kp_below hb _), h.new_⟩
theorem Rq.new {c : Nat} {v : Value} {ws : List Nat} (h : Rq A0 wr w base B5 S sb G0 G) (hb : Below wr.heap.size wr w1) (hs : IsSet w1 wr.heap.size v S ws) (hl : ws.length = (S + 63) / 64) (hB : base ≤ wr.heap.size) (h5 : B5 = w.heap.size + 2 := by rfl) : Rq A0 (w1.setCell ⟨B5, c, none⟩ v) w base B5 S sb G0 (upg G c (v, ws)) := by
  have h1 := h.below hb
  have hk : Kp (fun b => b = B5) w1 (w1.setCell ⟨B5, c, none⟩ v) := (Kp.refl _ w1).setCell _ _ _ (fun _ => rfl)
  refine ⟨(hk.block _ h1.box.lt (fun e => by omega)).trans h1.box, (hk.block _ h1.res.lt (fun e => by omega)).trans h1.res, h.ar.new hb hs hl hB, kp_then h1.kp hk (fun i _ e => .inl e), fun d p hp => ?_⟩
  unfold upg at hp
  split at hp
  · cases hp
    exact .inr fun b hb2 => Nat.le_trans h.kp.size (hs.1.lt _ hb2).1
  · exact h.new_ d p hp
theorem Rq.put {c : Nat} {p : Value × List Nat} {ws : List Nat} (h : Rq A0 wr w base B5 S sb G0 G) (hp : G c = some p) (hs : IsSet w1 base p.1 S ws) (hl : ws.length = (S + 63) / 64) (hg : wr.grownBy w1 p.1.ownBlock) : Rq A0 w1 w base B5 S sb G0 (upg G c (p.1, ws)) := by
  have hk : Kp (fun b => p.1.ownBlock = some b) wr w1 := (Kp.refl _ wr).grown hg (fun b hb _ => hb)
  have hsp := (h.ar.set c p hp).1.1
  have nt : ∀ {b : Nat} {d : Array Value} {ty : TypeId}, wr.heap[b]? = some (.cells d ty (0, 0)) → ty ≠ 136 → ¬ p.1.ownBlock = some b := fun {b d ty} hb hne e => by
    obtain ⟨d', hd⟩ := own_ty hsp e; exact ty_ne hb hd hne
  refine ⟨(hk.block _ h.box.lt (nt h.box (by decide))).trans h.box, (hk.block _ h.res.lt (nt h.res (by decide))).trans h.res, h.ar.put hp hs hl hg, kp_then h.kp hk (fun i hi e => ?_), fun d q hq => ?_⟩
  · rcases h.new_ c p hp with ⟨c0, q, hq, he⟩ | h1
    · exact .inr ⟨c0, q, hq, by rw [he]; exact e⟩
    · have := h1 i e; omega
  · unfold upg at hq
    split at hq
    · cases hq; exact h.new_ c p hp
    · exact h.new_ d q hq
end
/-- what holds between two rounds -/
def InvR (A : AL) (w : World) (nV S sb : Nat) (pre : List Nat) (O : Nat → Prop) (B : World) : Prop :=
  ∃ G, Boxed B w.heap.size 73 (.slice (some ⟨sb, 0, none⟩) S S) ∧ Arr B (w.heap.size + 1) (fun _ => .slice none 0 0) ∧ Ar (nV + 2) B (w.heap.size + 2) S G ∧ Below w.heap.size w B ∧ Rp A pre 0 0 G ∧ O = ArX (w.heap.size + 2) G
theorem InvR.past {A : AL} {w : World} {nV S sb : Nat} {pre : List Nat} {O : Nat → Prop} {B C : World} (h : InvR A w nV S sb pre O B) (hp : Past (nV + 1) B C) (h1 : w.heap.size + 2 < nV) : InvR A w nV S sb pre O C := by
  obtain ⟨G, hb, hr, ha, hBA, hR, hO⟩ := h
  have hk : Kp (fun b => b = nV + 1) B C := ⟨hp.os, hp.tape, hp.output, hp.size, fun k hk hn => hp.block k hk hn⟩
  refine ⟨G, (hp.block _ hb.lt (by omega)).trans hb, (hp.block _ hr.lt (by omega)).trans hr, ha.kept hk (fun b e hx => ?_), below_past hp hBA hBA.size (by omega), hR, hO⟩
  obtain ⟨h2 | h2, _⟩ := ha.X hx <;> omega
/-- what read hands back -/
def RdQ (A : AL) (S : Nat) (ws : List Nat) (w : World) (e : Ending) (w' : World) : Prop :=
  ∃ G, e = .returned (.agg (ca (gv G))) ∧ Gs w.heap.size w' S G ∧ Below w.heap.size w w' ∧ Rp A (ms ws) 0 0 G
set_option maxHeartbeats 8000000 in
set_option maxRecDepth 100000 in
theorem read_any (S base sb rb : Nat) (A : AL) (V : Nat → Value) (vs : List Value) (v : Value) (ws0 : List Nat) (bs : List Bool) (w : World)
    (hR : Rr w rb sb S A V vs) (hset : IsSet w base v S ws0) (hA : Ag S ws0 bs) (hG : Gd S A) (hTab : TabAt 0 Lib.deBruijn64tab w) (h00 : 0 < w.heap.size) :
    Calls Tryd.prog 77 #[.slice (some ⟨sb, 0, none⟩) S S, v] w (RdQ A S ws0 w) := by
  have hS0 := hG.pos
  have hS3 := hG.few
  have hz := z147
  obtain ⟨vg, vc, rfl, _, _⟩ := own_some hset.1 (by rw [hA.wl]; omega)
  obtain ⟨ln, hln⟩ : ∃ ln, ws0.length = ln := ⟨_, rfl⟩
  rw [hln]
  refine (callsIn_wide (n := 5)).1 ?_
  refine callsIn_of_wp_marks Tryd.func77 rfl trivial (wpIn_wide.2 ?_) rfl
  simp only [Tryd.ntmps77, List.size_toArray, List.length_cons, List.length_nil, Nat.reduceAdd, Nat.reduceSub, Array.replicate_succ, Array.replicate_zero, List.push_toArray, List.append_toArray, List.nil_append, List.cons_append]
  obtain ⟨W0, hW0⟩ : ∃ W0, ((w.alloc (.cells #[.slice (some ⟨sb, 0, none⟩) S S] 73)).alloc (.cells (ca fun _ => .slice none 0 0) 147)).alloc (.cells (ca fun _ => .slice none 0 0) 147) = W0 := ⟨_, rfl⟩
  have b1 := below_al w (.cells #[.slice (some ⟨sb, 0, none⟩) S S] 73)
  have b2 := b1.alloc b1.size (.cells (ca fun _ => .slice none 0 0) 147)
  have b3 := b2.alloc b2.size (.cells (ca fun _ => .slice none 0 0) 147)
  have s1 : (w.alloc (.cells #[.slice (some ⟨sb, 0, none⟩) S S] 73)).heap.size = w.heap.size + 1 := by simp
  have s2 : ((w.alloc (.cells #[.slice (some ⟨sb, 0, none⟩) S S] 73)).alloc (.cells (ca fun _ => .slice none 0 0) 147)).heap.size = w.heap.size + 2 := by simp
  rw [hW0] at b3
  have s3 : W0.heap.size = w.heap.size + 3 := by rw [← hW0]; simp
  have y2 : Boxed W0 w.heap.size 73 (.slice (some ⟨sb, 0, none⟩) S S) := by rw [← hW0]; exact ((Boxed.new w 73 _).alloc _).alloc _
  have y4 : Arr W0 (w.heap.size + 1) (fun _ => .slice none 0 0) := by
    rw [← hW0]
    refine (heap_alloc_old _ _ (by rw [s2]; omega)).trans ?_
    rw [← s1]; exact heap_alloc_new _ _
  have y5 : Arr W0 (w.heap.size + 2) (fun _ => .slice none 0 0) := by
    rw [← hW0, ← s2]; exact heap_alloc_new _ _
  have bV := b3.alloc b3.size (.cells #[.slice (some ⟨vg, 0, none⟩) ln vc] 77)
  have xB : (W0.alloc (.cells #[.slice (some ⟨vg, 0, none⟩) ln vc] 77)).heap[w.heap.size + 3]? = some (.cells #[.slice (some ⟨vg, 0, none⟩) ln vc] 77 (0, 0)) := by
    rw [← s3]; exact heap_alloc_new _ _
  have x2 := y2.alloc (.cells #[.slice (some ⟨vg, 0, none⟩) ln vc] 77)
  have x4 := y4.alloc (.cells #[.slice (some ⟨vg, 0, none⟩) ln vc] 77)
  have x5 := y5.alloc (.cells #[.slice (some ⟨vg, 0, none⟩) ln vc] 77)
  have K43 := members_any (some ⟨vg, 0, none⟩) ln vc W0
  rw [s3] at K43
  have HX : Hid ((W0.alloc (.cells #[.slice (some ⟨vg, 0, none⟩) ln vc] 77)).heap.size = w.heap.size + 4) := by show _ = _; simp [s3]
  have HH : Hid (Rr w rb sb S A V vs ∧ IsSet w base (.slice (some ⟨vg, 0, none⟩) ln vc) S ws0 ∧ Ag S ws0 bs ∧ Gd S A ∧ TabAt 0 Lib.deBruijn64tab w ∧ 0 < w.heap.size) := ⟨hR, by rw [← hln]; exact hset, hA, hG, hTab, h00⟩
  have HLN : Hid (ws0.length = ln) := hln
  clear hR hset hA hG hTab h00 hln s1 s2 s3 y2 y4 y5 b1 b2 b3
  go_upto_region 2 with fail
  go_wp2_with (go_at_call 43; (with_reducible refine K43.mono ?_); clear K43; rintro e w1 ⟨rfl, rfl⟩)
  have HB2 : Hid (Below w.heap.size w (W0.alloc (.cells #[.slice (some ⟨vg, 0, none⟩) ln vc] 77))) := bV
  have hs3 := HX.out
  clear hz hW0
  generalize W0.alloc (.cells #[.slice (some ⟨vg, 0, none⟩) ln vc] 77) = V1 at *
  clear bV HX
  have HXX : Hid (Boxed V1 w.heap.size 73 (.slice (some ⟨sb, 0, none⟩) S S) ∧ Arr V1 (w.heap.size + 1) (fun _ => .slice none 0 0) ∧ Arr V1 (w.heap.size + 2) (fun _ => .slice none 0 0)) := ⟨x2, x4, x5⟩
  clear x2 x4 x5
  refine wpIn_wide.1 (range_tells (n := 5) rfl (by omega) (gf := 70) (lb := #[.pointer (some ⟨w.heap.size + 3, 0, none⟩)]) ?hgg trivial (enters_of Tryd.func70 (by kernel_rfl) rfl)
    (members_tells ws0 S base (.slice (some ⟨vg, 0, none⟩) ln vc) w V1 (w.heap.size + 3) (5 - 1) (by omega) HH.out.2.1 HH.out.2.2.2.2.1 HH.out.2.2.2.2.2 HB2.out xB HH.out.2.1.2.2.2) (Below.refl _ _) ?hX (fun _ => rfl) (InvR A w V1.heap.size S sb) ?hI ?hO (ArX (w.heap.size + 2) (fun _ => none)) ?h0 ?hround ?hdone)
  case hgg => rfl
  case hX =>
    rintro q (hq | rfl)
    · omega
    · omega
  case hI =>
    intro pre O A B hi hr hp
    exact hi.past hp (by omega)
  case hO =>
    rintro pre O A q ⟨G, hb7, hr7, har, hBA, _, rfl⟩ hq
    obtain ⟨h1, c, ty, hc, _⟩ := har.X hq
    refine ⟨?_, lt_at hc, by omega, by omega⟩
    rintro (h2 | h2) <;> omega
  case h0 =>
    intro A' hA
    refine ⟨fun _ => none, (hA.block _ HXX.out.1.lt).trans HXX.out.1, (hA.block _ HXX.out.2.1.lt).trans HXX.out.2.1, ⟨?_, fun c p h => (by cases h), fun c c' p p' _ h => (by cases h)⟩, HB2.out.trans (hA.mono HB2.out.size), Rp.begin A 0, rfl⟩
    exact (hA.block _ HXX.out.2.2.lt).trans HXX.out.2.2
  case hround =>
    rintro pre O x A' hA hrec hinv hpre
    refine ⟨{ tmps := #[.slice (some ⟨sb, 0, none⟩) S S, .slice (some ⟨vg, 0, none⟩) ln vc, .pointer (some ⟨w.heap.size, 0, none⟩), undef, .pointer (some ⟨w.heap.size + 1, 0, none⟩), .pointer (some ⟨w.heap.size + 2, 0, none⟩), .int .i64 (x : Int), undef, undef, .slice (some ⟨vg, 0, none⟩) ln vc, .func (.func 70) #[] #[.pointer (some ⟨w.heap.size + 3, 0, none⟩)], .int .i64 (x : Int), undef, undef, undef, undef, undef, undef, undef, undef, undef, undef, undef, undef, undef, undef, undef, undef, undef, undef, undef, undef, undef, undef, undef, undef, undef, undef, undef, undef, undef, undef, undef, undef], defers := [] }, A', ?_, Below.refl _ _, ?_⟩
    · intro K hK
      clear hs3
      gi_wp2
      exact hK
    · intro r
      obtain ⟨A2, hA2⟩ : ∃ B, A'.putObj (V1.heap.size + 1) (.loop r) = B := ⟨_, rfl⟩
      have hP : Past (V1.heap.size + 1) A' A2 := by rw [← hA2]; exact Past.put _ _ _
      have hinv' := hinv.past hP (by omega)
      have hszA : V1.heap.size + 2 ≤ A2.heap.size := Nat.le_trans hA hP.size
      rw [hA2]
      clear hA2 hP hinv hrec
      obtain ⟨G0, hbx, hrs, har, hBA, hrp, rfl⟩ := hinv'
      have HSZ : Hid (V1.heap.size = w.heap.size + 4) := hs3
      have hxm : x ∈ ms ws0 := hpre.subset (by simp)
      have hxS : x < S := HH.out.2.2.1.lt ((ms_mem HH.out.2.2.1.wl (fun z hz => HH.out.2.2.1.lt hz) x).1 hxm)
      have HQ0 : Hid (Rq A2 A2 w (V1.heap.size + 2) (w.heap.size + 2) S sb G0 G0) := ⟨hbx, hrs, har, Kp.refl _ _, fun c p hp => .inl ⟨c, p, hp, rfl⟩⟩
      have HR0 : Hid (Rp A pre x 0 G0) := hrp.at
      have HAR0 : Hid (Ar (V1.heap.size + 2) A2 (w.heap.size + 2) S G0) := har
      have HBA : Hid (Below w.heap.size w A2) := hBA
      have hRr := HH.out.1.kept (kp_below hBA (fun _ => False)) (fun _ _ _ _ _ => id)
      have hvx := hRr.cell hxS
      have HRR : Hid (Rr A2 rb sb S A V vs) := hRr
      obtain ⟨ax, cx, hVx⟩ := oslice (hRr.rows x)
      obtain ⟨nx, hnx⟩ : ∃ nx, (rws (fun a => a) A x).length = nx := ⟨_, rfl⟩
      have HNX : Hid ((rws (fun a => a) A x).length = nx) := hnx
      have hnx2 : nx ≤ 20000 := by rw [← hnx]; exact Nat.le_trans (rws_len _ _ _) HH.out.2.2.2.1.len
      rw [hnx] at hVx
      rw [hVx] at hvx
      have HVX : Hid (V x = .slice ax nx cx) := hVx
      have c2 := hbx.cell
      have hrl : A2.heap.size ≤ A2.heap.size := Nat.le_refl _
      clear hs3 hbx hrs har hBA hrp hxm hRr hVx hnx hpre hA
      gi_upto_region 5 with fail
      clear c2 hvx
      gi_loopw [17] (fun i wr => ∃ (y : Nat) (G : Gt), i = .int .i64 (y : Int) ∧ y ≤ nx ∧ Rq A2 wr w (V1.heap.size + 2) (w.heap.size + 2) S sb G0 G ∧ Rp A pre x y G) (fun i _ => nx - (intOf i).toNat)
      case atStart => exact ⟨0, G0, rfl, Nat.zero_le _, HQ0.out, HR0.out⟩
      case round =>
        clear HQ0 HR0
        obtain ⟨y, G, rfl, hy, hq, hr⟩ := hrel
        have HQ : Hid (Rq A2 wr w (V1.heap.size + 2) (w.heap.size + 2) S sb G0 G) := hq
        have HR : Hid (Rp A pre x y G) := hr
        clear hq hr
        by_cases hlt : y < nx
        · have hyl : y < (rws (fun a => a) A x).length := by rw [HNX.out]; exact hlt
          obtain ⟨f, t, i, o, c, he⟩ : ∃ f t i o c0, (rws (fun a => a) A x)[y] = (f, t, i, o, c0) := ⟨_, _, _, _, _, rfl⟩
          have HE : Hid ((rws (fun a => a) A x)[y]? = some (f, t, i, o, c)) := by show _ = _; rw [List.getElem?_eq_getElem hyl, he]
          have hrd := own_rd ((HRR.out.kept HQ.out.kp (fun b c1 ty hb ht e => by
            obtain ⟨_, d, ty', hd, ht'⟩ := HAR0.out.X e
            exact ty_ne hb hd (by rcases ht with h | h <;> rcases ht' with h' | h' <;> subst h <;> subst h' <;> decide))).rows x) (by rw [HNX.out]; omega)
          rw [HVX.out, ← HNX.out] at hrd
          obtain ⟨ab, ao, rfl, _, p0, p1, p2, p3, p4⟩ := arc_cells hrd hyl he
          obtain ⟨ic, tn, hin, htn, hic, htS⟩ : ∃ ic tn : Nat, i = (ic : Int) ∧ t = (tn : Int) ∧ ic ≤ 60 ∧ tn < S := by
            have h1 := (rw_mem.1 (List.mem_of_getElem? HE.out)).1
            obtain ⟨k, hk, hk2⟩ := List.getElem_of_mem h1
            obtain ⟨f', t', i', o', x', hq, _, h3, h4, _⟩ := HH.out.2.2.2.1.nat hk
            rw [hk2] at hq
            simp only [Prod.mk.injEq] at hq
            exact ⟨i', t', hq.2.2.1, hq.2.1, h4, h3⟩
          subst hin htn
          have hx1 := heap_alloc_new wr (.cells #[.int .i64 f, .int .i64 (tn : Int), .int .i64 (ic : Int), .int .i64 o, .int .i64 c] 64)
          have HQ3 : Hid (Rq A2 (wr.alloc (.cells #[.int .i64 f, .int .i64 (tn : Int), .int .i64 (ic : Int), .int .i64 o, .int .i64 c] 64)) w (V1.heap.size + 2) (w.heap.size + 2) S sb G0 G) := HQ.out.below (below_al _ _)
          clear hrd he hyl
          gi_upto_region 7 with fail
          clear p0 p1 p2 p3 p4
          generalize wr.alloc (.cells #[.int .i64 f, .int .i64 (tn : Int), .int .i64 (ic : Int), .int .i64 o, .int .i64 c] 64) = V3 at *
          generalize wr.heap.size = b8 at *
          have c1 := cell_of_row _ _ 1 _ _ _ hx1
          have c2 := cell_of_row _ _ 2 _ _ _ hx1
          have HX3 : Hid (V3.heap[b8]? = some (.cells #[.int .i64 f, .int .i64 (tn : Int), .int .i64 (ic : Int), .int .i64 o, .int .i64 c] 64 (0, 0))) := hx1
          have hV3z : V1.heap.size + 2 ≤ V3.heap.size := Nat.le_trans hszA HQ3.out.kp.size
          clear hx1 HQ
          by_cases hz : ic = 0
          · subst hz
            gi_wp2
            go_roundw
            case rel => exact ⟨y + 1, G, by go_num, hlt, HQ3.out, HR.out.skip HE.out rfl⟩
            case measure => simp [intOf]; omega
          · have q0 : ((ic : Int) == 0) = false := by have h : ¬ (ic : Int) = 0 := (by omega); simpa using h
            have c27 := HQ3.out.ar.row.cell ic (by omega)
            have hi61 : (ic : Int) < 61 := by omega
            cases hgc : G ic with
            | none =>
              rw [show gv G ic = .slice none 0 0 by unfold gv; rw [hgc]] at c27
              have q1 := eql77n
              have HGC : Hid (G ic = none) := hgc
              clear hgc
              gi_upto_region 9 with fail
              clear c1 c2 c27 q0 q1
              have HCE : Hid _ := fun (W : World) (hSw : W.heap[b8]? = some (.cells #[.int .i64 f, .int .i64 (tn : Int), .int .i64 (ic : Int), .int .i64 o, .int .i64 c] 64 (0, 0)) ∧ W.heap[w.heap.size]? = some (.cells #[.slice (some ⟨sb, 0, none⟩) S S] 73 (0, 0))) => (And.intro (cell_of_row _ _ 2 _ _ _ hSw.1) (cell_of_row _ _ 0 _ _ _ hSw.2))
              refine region_in (l := V1.heap.size + 1) (S := fun W => W.heap[b8]? = some (.cells #[.int .i64 f, .int .i64 (tn : Int), .int .i64 (ic : Int), .int .i64 o, .int .i64 c] 64 (0, 0)) ∧ W.heap[w.heap.size]? = some (.cells #[.slice (some ⟨sb, 0, none⟩) S S] 73 (0, 0))) (by kernel_rfl) (mild_of (by kernel_rfl)) (fun ⟨_, _, h⟩ => h) (by exact ⟨HX3.out, HQ3.out.box⟩) (fun hHeld => ?_)
              have hS0 := hHeld
              have HQ0 : Hid (Rq A2 V3.drew w (V1.heap.size + 2) (w.heap.size + 2) S sb G0 G) := HQ3.out.below (below_drewN (Below.refl _ _) 1)
              clear HX3 HQ3
              generalize V3.drew = V0 at *
              refine wpAnyH_take (i := 0) (oi := { dst := some 29, op := Op.fieldAddr 64 (Operand.tmp 8) 2, type := 0, pos := "sure.go:96", after := #[], guard := none }) (v := ?_) rfl (by kernel_rfl) (by kernel_rfl) (by kernel_rfl) (fun _ _ _ h => h) (Or.inl ⟨by rfl, ?_⟩) (by assumption) ?_
              case refine_2 => intro w hSw; (try dsimp only at hSw); obtain ⟨z2, zb⟩ := HCE.out _ hSw; go_simp; (try with_reducible rfl)
              simp only [Act.put, List.setIfInBounds_toArray, List.set_cons_zero, List.set_cons_succ]
              refine wpAnyH_take (i := 1) (oi := { dst := some 30, op := Op.load 3 (Operand.tmp 29), type := 3, pos := "sure.go:96", after := #[{ on := 0, ground := Ground.data }], guard := none }) (v := ?_) rfl (by kernel_rfl) (by kernel_rfl) (by kernel_rfl) (fun _ _ _ h => h) (Or.inl ⟨by rfl, ?_⟩) (by assumption) ?_
              case refine_2 => intro w hSw; (try dsimp only at hSw); obtain ⟨z2, zb⟩ := HCE.out _ hSw; go_simp; (try with_reducible rfl)
              simp only [Act.put, List.setIfInBounds_toArray, List.set_cons_zero, List.set_cons_succ]
              refine wpAnyH_take (i := 2) (oi := { dst := some 31, op := Op.load 73 (Operand.tmp 2), type := 73, pos := "sure.go:96", after := #[], guard := none }) (v := ?_) rfl (by kernel_rfl) (by kernel_rfl) (by kernel_rfl) (fun _ _ _ h => h) (Or.inl ⟨by rfl, ?_⟩) (by assumption) ?_
              case refine_2 => intro w hSw; (try dsimp only at hSw); obtain ⟨z2, zb⟩ := HCE.out _ hSw; go_simp; (try with_reducible rfl)
              simp only [Act.put, List.setIfInBounds_toArray, List.set_cons_zero, List.set_cons_succ]
              refine wpAnyH_take (i := 3) (oi := { dst := some 32, op := Op.call { callee := Callee.builtin Builtin.len, args := #[Operand.tmp 31], argTypes := #[73] }, type := 3, pos := "sure.go:96", after := #[{ on := 2, ground := Ground.data }], guard := none }) (v := ?_) rfl (by kernel_rfl) (by kernel_rfl) (by kernel_rfl) (fun _ _ _ h => h) (Or.inl ⟨by rfl, ?_⟩) (by assumption) ?_
              case refine_2 => intro w hSw; (try dsimp only at hSw); obtain ⟨z2, zb⟩ := HCE.out _ hSw; go_simp; (try with_reducible rfl)
              simp only [Act.put, List.setIfInBounds_toArray, List.set_cons_zero, List.set_cons_succ]
              refine wpAnyH_ready (rs := [4]) (by kernel_rfl) (by simp) ?_
              refine (AllReadyH.cons (o := { dst := some 33, op := Op.call { callee := Callee.value (Operand.func 59), args := #[Operand.tmp 32], argTypes := #[3] }, type := 77, pos := "sure.go:96", after := #[{ on := 3, ground := Ground.data }], guard := none }) rfl (fun K hK => ?_) AllReadyH.nil)
              have KN := new_zero S V0 (by omega)
              go_simp
              (with_reducible refine KN.mono ?_)
              clear KN
              rintro e1 V5 ⟨v0, rfl, hs1, hb1⟩
              dsimp only
              have hS1 := And.intro ((hb1.block _ (lt_at hS0.1)).trans hS0.1) ((hb1.block _ (lt_at hS0.2)).trans hS0.2)
              have HB5 : Hid (Below V0.heap.size V0 V5) := hb1
              have HS5 : Hid (IsSet V5 V0.heap.size v0 S (List.replicate ((S + 63) / 64) 0)) := hs1
              obtain ⟨g0, cp0, hv0, _, _⟩ := own_some hs1.1 (by simp; omega)
              rw [List.length_replicate] at hv0
              have HV0 : Hid (v0 = .slice (some ⟨g0, 0, none⟩) ((S + 63) / 64) cp0) := hv0
              rw [hv0]
              have dA := (HQ0.out.below HB5.out).ar.row.frozen ic
              have dC := (HQ0.out.below HB5.out).ar.row.cell ic (by omega)
              clear hs1 hb1 hv0
              refine hK.out _ _ ?_ (fun hHeld => ?_)
              · exact hS1
              clear hK K
              try simp only [Act.put, List.setIfInBounds_toArray, List.set_cons_zero, List.set_cons_succ]
              refine wpAnyH_take (i := 5) (oi := { dst := some 34, op := Op.indexAddr 147 (Operand.tmp 5) (Operand.tmp 30), type := 0, pos := "sure.go:96", after := #[{ on := 1, ground := Ground.data }, { on := 0, ground := Ground.phase }, { on := 1, ground := Ground.phase }, { on := 2, ground := Ground.phase }, { on := 3, ground := Ground.phase }, { on := 4, ground := Ground.phase }], guard := none }) (v := ?_) rfl (by kernel_rfl) (by kernel_rfl) (by kernel_rfl) (fun _ _ _ h => h) (Or.inl ⟨by rfl, ?_⟩) (by assumption) ?_
              case refine_2 => intro w hSw; (try dsimp only at hSw); obtain ⟨z2, zb⟩ := HCE.out _ hSw; go_simp; (try with_reducible rfl)
              simp only [Act.put, List.setIfInBounds_toArray, List.set_cons_zero, List.set_cons_succ]
              refine wpAnyH_ready (rs := [6]) (by kernel_rfl) (by simp) ?_
              refine (AllReadyH.cons (o := { dst := none, op := Op.store 77 (Operand.tmp 34) (Operand.tmp 33), type := 0, pos := "sure.go:96", after := #[{ on := 5, ground := Ground.data }, { on := 4, ground := Ground.data }, { on := 4, ground := Ground.chain }, { on := 0, ground := Ground.phase }, { on := 1, ground := Ground.phase }, { on := 2, ground := Ground.phase }, { on := 3, ground := Ground.phase }, { on := 4, ground := Ground.phase }], guard := none }) rfl (fun K hK => ?_) AllReadyH.nil)
              go_simp
              have hS2 : (V5.setCell ⟨w.heap.size + 2, ic, none⟩ (.slice (some ⟨g0, 0, none⟩) ((S + 63) / 64) cp0)).heap[b8]? = some (.cells #[.int .i64 f, .int .i64 (tn : Int), .int .i64 (ic : Int), .int .i64 o, .int .i64 c] 64 (0, 0)) ∧ (V5.setCell ⟨w.heap.size + 2, ic, none⟩ (.slice (some ⟨g0, 0, none⟩) ((S + 63) / 64) cp0)).heap[w.heap.size]? = some (.cells #[.slice (some ⟨sb, 0, none⟩) S S] 73 (0, 0)) := And.intro ((heap_setCell_other _ _ _ _ (fun e => by have h9 := hS1.1; rw [show b8 = w.heap.size + 2 from e] at h9; exact ty_ne h9 (HQ0.out.below HB5.out).ar.row (by decide))).trans hS1.1) ((heap_setCell_other _ _ _ _ (fun e => by have e2 : w.heap.size = w.heap.size + 2 := e; omega)).trans hS1.2)
              refine hK.out _ _ ?_ (fun hHeld => ?_)
              · exact hS2
              clear hK K
              try simp only [Act.put, List.setIfInBounds_toArray, List.set_cons_zero, List.set_cons_succ]
              refine wpAnyH_done (by kernel_rfl) ?_ _
              have HQ6 : Hid (Rq A2 (V5.setCell ⟨w.heap.size + 2, ic, none⟩ (.slice (some ⟨g0, 0, none⟩) ((S + 63) / 64) cp0)) w (V1.heap.size + 2) (w.heap.size + 2) S sb G0 (upg G ic (.slice (some ⟨g0, 0, none⟩) ((S + 63) / 64) cp0, List.replicate ((S + 63) / 64) 0))) := by
                have h := HQ0.out.new (c := ic) HB5.out HS5.out (by simp) (Nat.le_trans hszA HQ0.out.kp.size)
                rw [HV0.out] at h
                exact h
              have HX6 : Hid ((V5.setCell ⟨w.heap.size + 2, ic, none⟩ (.slice (some ⟨g0, 0, none⟩) ((S + 63) / 64) cp0)).heap[b8]? = some (.cells #[.int .i64 f, .int .i64 (tn : Int), .int .i64 (ic : Int), .int .i64 o, .int .i64 c] 64 (0, 0))) := hS2.1
              have HSV : Hid (IsSet (V5.setCell ⟨w.heap.size + 2, ic, none⟩ (.slice (some ⟨g0, 0, none⟩) ((S + 63) / 64) cp0)) (V1.heap.size + 2) (.slice (some ⟨g0, 0, none⟩) ((S + 63) / 64) cp0) S (List.replicate ((S + 63) / 64) 0)) := (HQ6.out.ar.set ic (.slice (some ⟨g0, 0, none⟩) ((S + 63) / 64) cp0, List.replicate ((S + 63) / 64) 0) (by unfold upg; rw [if_pos rfl])).1
              clear hS0 hS1 hS2 dA dC HQ0 HB5 HS5 HV0
              generalize V5.setCell ⟨w.heap.size + 2, ic, none⟩ (.slice (some ⟨g0, 0, none⟩) ((S + 63) / 64) cp0) = V6 at *
              obtain ⟨wsN, hwsN⟩ : ∃ ws, List.replicate ((S + 63) / 64) 0 = ws := ⟨_, rfl⟩
              have HWN : Hid (∀ k, mem wsN k = false) := fun k => by rw [← hwsN]; exact mem_zero _ k
              have HWL : Hid (wsN.length = (S + 63) / 64) := by show _ = _; rw [← hwsN]; simp
              rw [hwsN] at HQ6 HSV
              have HRN : Hid (Rp A pre x (y + 1) (upg (upg G ic (.slice (some ⟨g0, 0, none⟩) ((S + 63) / 64) cp0, wsN)) ic (.slice (some ⟨g0, 0, none⟩) ((S + 63) / 64) cp0, put wsN tn))) := by
                rw [← hwsN]
                exact HR.out.add HE.out rfl rfl (by omega) (gat_new HGC.out (by omega))
              clear hwsN
              gi_upto_region 10 with fail
              have HQ9 : Hid (Rq A2 V6 w (V1.heap.size + 2) (w.heap.size + 2) S sb G0 (upg G ic (.slice (some ⟨g0, 0, none⟩) ((S + 63) / 64) cp0, wsN))) := HQ6.out
              have HGA : Hid (some (gv (upg G ic (.slice (some ⟨g0, 0, none⟩) ((S + 63) / 64) cp0, wsN)) ic) = some (.slice (some ⟨g0, 0, none⟩) ((S + 63) / 64) cp0)) := by show _ = _; unfold gv upg; simp
              have HLL : Hid ((.slice (some ⟨g0, 0, none⟩) ((S + 63) / 64) cp0 : Value) = .slice (some ⟨g0, 0, none⟩) ((S + 63) / 64) cp0) := rfl
              have HWL9 : Hid (wsN.length = (S + 63) / 64) := HWL.out
              have HGC9 : Hid (upg G ic (.slice (some ⟨g0, 0, none⟩) ((S + 63) / 64) cp0, wsN) ic = some (.slice (some ⟨g0, 0, none⟩) ((S + 63) / 64) cp0, wsN)) := by show _ = _; unfold upg; rw [if_pos rfl]
              clear HQ6
              have HCE : Hid _ := fun (W : World) (hSw : W.heap[b8]? = some (.cells #[.int .i64 f, .int .i64 (tn : Int), .int .i64 (ic : Int), .int .i64 o, .int .i64 c] 64 (0, 0)) ∧ Arr W (w.heap.size + 2) (gv (upg G ic (.slice (some ⟨g0, 0, none⟩) ((S + 63) / 64) cp0, wsN)))) => (And.intro (cell_of_row _ _ 1 _ _ _ hSw.1) (And.intro (cell_of_row _ _ 2 _ _ _ hSw.1) ((hSw.2.cell ic (by omega)).trans HGA.out)))
              refine region_in (l := V1.heap.size + 1) (S := fun W => W.heap[b8]? = some (.cells #[.int .i64 f, .int .i64 (tn : Int), .int .i64 (ic : Int), .int .i64 o, .int .i64 c] 64 (0, 0)) ∧ Arr W (w.heap.size + 2) (gv (upg G ic (.slice (some ⟨g0, 0, none⟩) ((S + 63) / 64) cp0, wsN)))) (by kernel_rfl) (mild_of (by kernel_rfl)) (fun ⟨_, _, h⟩ => h) (by exact ⟨HX6.out, HQ9.out.ar.row⟩) (fun hHeld => ?_)
              have hS0 := hHeld
              have HQ9 : Hid (Rq A2 V6.drew w (V1.heap.size + 2) (w.heap.size + 2) S sb G0 (upg G ic (.slice (some ⟨g0, 0, none⟩) ((S + 63) / 64) cp0, wsN))) := HQ9.out.below (below_drewN (Below.refl _ _) 1)
              clear HX6
              generalize V6.drew = V9 at *
              refine wpAnyH_take (i := 0) (oi := { dst := some 35, op := Op.fieldAddr 64 (Operand.tmp 8) 2, type := 0, pos := "sure.go:98", after := #[], guard := none }) (v := ?_) rfl (by kernel_rfl) (by kernel_rfl) (by kernel_rfl) (fun _ _ _ h => h) (Or.inl ⟨by rfl, ?_⟩) (by assumption) ?_
              case refine_2 => intro w hSw; (try dsimp only at hSw); obtain ⟨z1, z2, zA⟩ := HCE.out _ hSw; go_simp; (try with_reducible rfl)
              simp only [Act.put, List.setIfInBounds_toArray, List.set_cons_zero, List.set_cons_succ]
              refine wpAnyH_take (i := 1) (oi := { dst := some 36, op := Op.load 3 (Operand.tmp 35), type := 3, pos := "sure.go:98", after := #[{ on := 0, ground := Ground.data }], guard := none }) (v := ?_) rfl (by kernel_rfl) (by kernel_rfl) (by kernel_rfl) (fun _ _ _ h => h) (Or.inl ⟨by rfl, ?_⟩) (by assumption) ?_
              case refine_2 => intro w hSw; (try dsimp only at hSw); obtain ⟨z1, z2, zA⟩ := HCE.out _ hSw; go_simp; (try with_reducible rfl)
              simp only [Act.put, List.setIfInBounds_toArray, List.set_cons_zero, List.set_cons_succ]
              refine wpAnyH_take (i := 2) (oi := { dst := some 37, op := Op.indexAddr 147 (Operand.tmp 5) (Operand.tmp 36), type := 0, pos := "sure.go:98", after := #[{ on := 1, ground := Ground.data }], guard := none }) (v := ?_) rfl (by kernel_rfl) (by kernel_rfl) (by kernel_rfl) (fun _ _ _ h => h) (Or.inl ⟨by rfl, ?_⟩) (by assumption) ?_
              case refine_2 => intro w hSw; (try dsimp only at hSw); obtain ⟨z1, z2, zA⟩ := HCE.out _ hSw; go_simp; (try with_reducible rfl)
              simp only [Act.put, List.setIfInBounds_toArray, List.set_cons_zero, List.set_cons_succ]
              refine wpAnyH_take (i := 3) (oi := { dst := some 38, op := Op.load 77 (Operand.tmp 37), type := 77, pos := "sure.go:98", after := #[{ on := 2, ground := Ground.data }], guard := none }) (v := ?_) rfl (by kernel_rfl) (by kernel_rfl) (by kernel_rfl) (fun _ _ _ h => h) (Or.inl ⟨by rfl, ?_⟩) (by assumption) ?_
              case refine_2 => intro w hSw; (try dsimp only at hSw); obtain ⟨z1, z2, zA⟩ := HCE.out _ hSw; go_simp; (try with_reducible rfl)
              simp only [Act.put, List.setIfInBounds_toArray, List.set_cons_zero, List.set_cons_succ]
              refine wpAnyH_take (i := 4) (oi := { dst := some 39, op := Op.fieldAddr 64 (Operand.tmp 8) 1, type := 0, pos := "sure.go:98", after := #[], guard := none }) (v := ?_) rfl (by kernel_rfl) (by kernel_rfl) (by kernel_rfl) (fun _ _ _ h => h) (Or.inl ⟨by rfl, ?_⟩) (by assumption) ?_
              case refine_2 => intro w hSw; (try dsimp only at hSw); obtain ⟨z1, z2, zA⟩ := HCE.out _ hSw; go_simp; (try with_reducible rfl)
              simp only [Act.put, List.setIfInBounds_toArray, List.set_cons_zero, List.set_cons_succ]
              refine wpAnyH_take (i := 5) (oi := { dst := some 40, op := Op.load 3 (Operand.tmp 39), type := 3, pos := "sure.go:98", after := #[{ on := 4, ground := Ground.data }], guard := none }) (v := ?_) rfl (by kernel_rfl) (by kernel_rfl) (by kernel_rfl) (fun _ _ _ h => h) (Or.inl ⟨by rfl, ?_⟩) (by assumption) ?_
              case refine_2 => intro w hSw; (try dsimp only at hSw); obtain ⟨z1, z2, zA⟩ := HCE.out _ hSw; go_simp; (try with_reducible rfl)
              simp only [Act.put, List.setIfInBounds_toArray, List.set_cons_zero, List.set_cons_succ]
              refine wpAnyH_ready (rs := [6]) (by kernel_rfl) (by simp) ?_
              refine (AllReadyH.cons (o := { dst := some 41, op := Op.call { callee := Callee.value (Operand.func 60), args := #[Operand.tmp 38, Operand.tmp 40], argTypes := #[77, 3] }, type := 4, pos := "sure.go:98", after := #[{ on := 3, ground := Ground.data }, { on := 5, ground := Ground.data }], guard := none }) rfl (fun K hK => ?_) AllReadyH.nil)
              have K60 := add_any (V1.heap.size + 2) (.slice (some ⟨g0, 0, none⟩) ((S + 63) / 64) cp0) S tn wsN V9 (HQ9.out.ar.set ic _ (by first | exact HGC9.out | (unfold upg; rw [if_pos rfl]))).1 htS (by omega)
              rw [HLL.out] at K60
              go_simp
              (with_reducible refine K60.mono ?_)
              clear K60
              rintro e1 VA ⟨rfl, hs1, hg1⟩
              dsimp only
              have HQA : Hid (Rq A2 VA w (V1.heap.size + 2) (w.heap.size + 2) S sb G0 (upg (upg G ic (.slice (some ⟨g0, 0, none⟩) ((S + 63) / 64) cp0, wsN)) ic (.slice (some ⟨g0, 0, none⟩) ((S + 63) / 64) cp0, put wsN tn))) := HQ9.out.put (c := ic) (p := (.slice (some ⟨g0, 0, none⟩) ((S + 63) / 64) cp0, wsN)) (by first | exact HGC9.out | (unfold upg; rw [if_pos rfl])) (by rw [← HLL.out] at hs1; exact hs1) (by rw [put_len]; exact HWL9.out) (by rw [← HLL.out] at hg1; exact hg1)
              have hS1 := And.intro ((hg1.block b8 (lt_at hS0.1) (fun e2 => by obtain ⟨d', hd'⟩ := own_ty (HQ9.out.ar.set ic _ (by first | exact HGC9.out | (unfold upg; rw [if_pos rfl]))).1.1 (by rw [HLL.out]; exact e2.symm); exact ty_ne hS0.1 hd' (by decide))).trans hS0.1) ((hg1.block (w.heap.size + 2) hS0.2.lt (fun e2 => by obtain ⟨d', hd'⟩ := own_ty (HQ9.out.ar.set ic _ (by first | exact HGC9.out | (unfold upg; rw [if_pos rfl]))).1.1 (by rw [HLL.out]; exact e2.symm); exact ty_ne hS0.2 hd' (by decide))).trans hS0.2)
              clear hs1 hg1
              refine hK.out _ _ ?_ (fun hHeld => ?_)
              · exact hS1
              clear hK K
              try simp only [Act.put, List.setIfInBounds_toArray, List.set_cons_zero, List.set_cons_succ]
              refine wpAnyH_done (by kernel_rfl) ?_ _
              clear hS0 hS1
              gi_wp2
              go_roundw
              case rel => exact ⟨y + 1, _, by go_num, hlt, HQA.out, HRN.out⟩
              case measure => simp [intOf]; omega
            | some pr =>
              have hset := HQ3.out.ar.set ic pr hgc
              obtain ⟨pg, pc, hpe, _, _⟩ := own_some hset.1.1 (by rw [hset.2]; omega)
              obtain ⟨lp, hlp⟩ : ∃ lp, pr.2.length = lp := ⟨_, rfl⟩
              have HWL9 : Hid (pr.2.length = (S + 63) / 64) := hset.2
              rw [hlp] at hpe
              rw [show gv G ic = pr.1 by unfold gv; rw [hgc], hpe] at c27
              have q1 := eql77 ⟨pg, 0, none⟩ lp pc
              have HGC9 : Hid (G ic = some pr) := hgc
              have HLL : Hid (pr.1 = .slice (some ⟨pg, 0, none⟩) lp pc) := hpe
              have HGA : Hid (some (gv G ic) = some (.slice (some ⟨pg, 0, none⟩) lp pc)) := by show _ = _; unfold gv; rw [hgc]; exact congrArg some hpe
              have HRO : Hid (Rp A pre x (y + 1) (upg G ic (pr.1, put pr.2 tn))) := HR.out.add HE.out rfl rfl hz (gat_put hgc (by rw [hset.2]; omega))
              have HQ9 : Hid (Rq A2 V3 w (V1.heap.size + 2) (w.heap.size + 2) S sb G0 G) := HQ3.out
              clear hgc hset hpe hlp
              gi_upto_region 10 with fail
              clear c1 c2 c27 q0 q1 HQ3
              have HCE : Hid _ := fun (W : World) (hSw : W.heap[b8]? = some (.cells #[.int .i64 f, .int .i64 (tn : Int), .int .i64 (ic : Int), .int .i64 o, .int .i64 c] 64 (0, 0)) ∧ Arr W (w.heap.size + 2) (gv (G))) => (And.intro (cell_of_row _ _ 1 _ _ _ hSw.1) (And.intro (cell_of_row _ _ 2 _ _ _ hSw.1) ((hSw.2.cell ic (by omega)).trans HGA.out)))
              refine region_in (l := V1.heap.size + 1) (S := fun W => W.heap[b8]? = some (.cells #[.int .i64 f, .int .i64 (tn : Int), .int .i64 (ic : Int), .int .i64 o, .int .i64 c] 64 (0, 0)) ∧ Arr W (w.heap.size + 2) (gv (G))) (by kernel_rfl) (mild_of (by kernel_rfl)) (fun ⟨_, _, h⟩ => h) (by exact ⟨HX3.out, HQ9.out.ar.row⟩) (fun hHeld => ?_)
              have hS0 := hHeld
              have HQ9 : Hid (Rq A2 V3.drew w (V1.heap.size + 2) (w.heap.size + 2) S sb G0 (G)) := HQ9.out.below (below_drewN (Below.refl _ _) 1)
              clear HX3
              generalize V3.drew = V9 at *
              refine wpAnyH_take (i := 0) (oi := { dst := some 35, op := Op.fieldAddr 64 (Operand.tmp 8) 2, type := 0, pos := "sure.go:98", after := #[], guard := none }) (v := ?_) rfl (by kernel_rfl) (by kernel_rfl) (by kernel_rfl) (fun _ _ _ h => h) (Or.inl ⟨by rfl, ?_⟩) (by assumption) ?_
              case refine_2 => intro w hSw; (try dsimp only at hSw); obtain ⟨z1, z2, zA⟩ := HCE.out _ hSw; go_simp; (try with_reducible rfl)
              simp only [Act.put, List.setIfInBounds_toArray, List.set_cons_zero, List.set_cons_succ]
              refine wpAnyH_take (i := 1) (oi := { dst := some 36, op := Op.load 3 (Operand.tmp 35), type := 3, pos := "sure.go:98", after := #[{ on := 0, ground := Ground.data }], guard := none }) (v := ?_) rfl (by kernel_rfl) (by kernel_rfl) (by kernel_rfl) (fun _ _ _ h => h) (Or.inl ⟨by rfl, ?_⟩) (by assumption) ?_
              case refine_2 => intro w hSw; (try dsimp only at hSw); obtain ⟨z1, z2, zA⟩ := HCE.out _ hSw; go_simp; (try with_reducible rfl)
              simp only [Act.put, List.setIfInBounds_toArray, List.set_cons_zero, List.set_cons_succ]
              refine wpAnyH_take (i := 2) (oi := { dst := some 37, op := Op.indexAddr 147 (Operand.tmp 5) (Operand.tmp 36), type := 0, pos := "sure.go:98", after := #[{ on := 1, ground := Ground.data }], guard := none }) (v := ?_) rfl (by kernel_rfl) (by kernel_rfl) (by kernel_rfl) (fun _ _ _ h => h) (Or.inl ⟨by rfl, ?_⟩) (by assumption) ?_
              case refine_2 => intro w hSw; (try dsimp only at hSw); obtain ⟨z1, z2, zA⟩ := HCE.out _ hSw; go_simp; (try with_reducible rfl)
              simp only [Act.put, List.setIfInBounds_toArray, List.set_cons_zero, List.set_cons_succ]
              refine wpAnyH_take (i := 3) (oi := { dst := some 38, op := Op.load 77 (Operand.tmp 37), type := 77, pos := "sure.go:98", after := #[{ on := 2, ground := Ground.data }], guard := none }) (v := ?_) rfl (by kernel_rfl) (by kernel_rfl) (by kernel_rfl) (fun _ _ _ h => h) (Or.inl ⟨by rfl, ?_⟩) (by assumption) ?_
              case refine_2 => intro w hSw; (try dsimp only at hSw); obtain ⟨z1, z2, zA⟩ := HCE.out _ hSw; go_simp; (try with_reducible rfl)
              simp only [Act.put, List.setIfInBounds_toArray, List.set_cons_zero, List.set_cons_succ]
              refine wpAnyH_take (i := 4) (oi := { dst := some 39, op := Op.fieldAddr 64 (Operand.tmp 8) 1, type := 0, pos := "sure.go:98", after := #[], guard := none }) (v := ?_) rfl (by kernel_rfl) (by kernel_rfl) (by kernel_rfl) (fun _ _ _ h => h) (Or.inl ⟨by rfl, ?_⟩) (by assumption) ?_
              case refine_2 => intro w hSw; (try dsimp only at hSw); obtain ⟨z1, z2, zA⟩ := HCE.out _ hSw; go_simp; (try with_reducible rfl)
              simp only [Act.put, List.setIfInBounds_toArray, List.set_cons_zero, List.set_cons_succ]
              refine wpAnyH_take (i := 5) (oi := { dst := some 40, op := Op.load 3 (Operand.tmp 39), type := 3, pos := "sure.go:98", after := #[{ on := 4, ground := Ground.data }], guard := none }) (v := ?_) rfl (by kernel_rfl) (by kernel_rfl) (by kernel_rfl) (fun _ _ _ h => h) (Or.inl ⟨by rfl, ?_⟩) (by assumption) ?_
              case refine_2 => intro w hSw; (try dsimp only at hSw); obtain ⟨z1, z2, zA⟩ := HCE.out _ hSw; go_simp; (try with_reducible rfl)
              simp only [Act.put, List.setIfInBounds_toArray, List.set_cons_zero, List.set_cons_succ]
              refine wpAnyH_ready (rs := [6]) (by kernel_rfl) (by simp) ?_
              refine (AllReadyH.cons (o := { dst := some 41, op := Op.call { callee := Callee.value (Operand.func 60), args := #[Operand.tmp 38, Operand.tmp 40], argTypes := #[77, 3] }, type := 4, pos := "sure.go:98", after := #[{ on := 3, ground := Ground.data }, { on := 5, ground := Ground.data }], guard := none }) rfl (fun K hK => ?_) AllReadyH.nil)
              have K60 := add_any (V1.heap.size + 2) (pr.1) S tn pr.2 V9 (HQ9.out.ar.set ic _ (by first | exact HGC9.out | (unfold upg; rw [if_pos rfl]))).1 htS (by omega)
              rw [HLL.out] at K60
              go_simp
              (with_reducible refine K60.mono ?_)
              clear K60
              rintro e1 VA ⟨rfl, hs1, hg1⟩
              dsimp only
              have HQA : Hid (Rq A2 VA w (V1.heap.size + 2) (w.heap.size + 2) S sb G0 (upg (G) ic (pr.1, put pr.2 tn))) := HQ9.out.put (c := ic) (p := (pr.1, pr.2)) (by first | exact HGC9.out | (unfold upg; rw [if_pos rfl])) (by rw [← HLL.out] at hs1; exact hs1) (by rw [put_len]; exact HWL9.out) (by rw [← HLL.out] at hg1; exact hg1)
              have hS1 := And.intro ((hg1.block b8 (lt_at hS0.1) (fun e2 => by obtain ⟨d', hd'⟩ := own_ty (HQ9.out.ar.set ic _ (by first | exact HGC9.out | (unfold upg; rw [if_pos rfl]))).1.1 (by rw [HLL.out]; exact e2.symm); exact ty_ne hS0.1 hd' (by decide))).trans hS0.1) ((hg1.block (w.heap.size + 2) hS0.2.lt (fun e2 => by obtain ⟨d', hd'⟩ := own_ty (HQ9.out.ar.set ic _ (by first | exact HGC9.out | (unfold upg; rw [if_pos rfl]))).1.1 (by rw [HLL.out]; exact e2.symm); exact ty_ne hS0.2 hd' (by decide))).trans hS0.2)
              clear hs1 hg1
              refine hK.out _ _ ?_ (fun hHeld => ?_)
              · exact hS1
              clear hK K
              try simp only [Act.put, List.setIfInBounds_toArray, List.set_cons_zero, List.set_cons_succ]
              refine wpAnyH_done (by kernel_rfl) ?_ _
              clear hS0 hS1
              gi_wp2
              go_roundw
              case rel => exact ⟨y + 1, _, by go_num, hlt, HQA.out, HRO.out⟩
              case measure => simp [intOf]; omega
        · obtain rfl : y = nx := by omega
          gi_wp2
          have hk := HQ.out.kp
          refine ⟨ArX (w.heap.size + 2) G, ⟨hk.os, hk.tape, hk.output, hk.size, fun k hk2 hno => ⟨fun h => ?_, hk.block k hk2 hno⟩⟩, G, HQ.out.box, HQ.out.res, HQ.out.ar, below_kp HBA.out hk (fun b hb e => ?_), HR.out.next (by rw [HNX.out]; exact Nat.le_refl _), rfl⟩
          · rcases h with h | ⟨c, p, hp, h⟩
            · exact hno (.inl h)
            · rcases HQ.out.new_ c p hp with ⟨c0, q, hq, he⟩ | h1
              · exact hno (.inr ⟨c0, q, hq, by rw [he]; exact h⟩)
              · have := h1 k h; omega
          · obtain ⟨h1, _⟩ := HAR0.out.X e
            have := HSZ.out
            omega
  case hdone =>
    rintro ys O A' hA' hSS ⟨G, hbx, hrs, har, hBA, hrp, rfl⟩ hdf
    subst hSS
    have hone := gv_one (fun c p h => har.set c p h)
    have hA7 := har.row
    have hA6 := hrs
    have HSZ : Hid (V1.heap.size = w.heap.size + 4) := hs3
    have HAR : Hid (Ar (V1.heap.size + 2) A' (w.heap.size + 2) S G) := har
    have HBA : Hid (Below w.heap.size w A') := hBA
    have HRP : Hid (Rp A (ms ws0) 0 0 G) := hrp
    have HDF : Hid (A'.heap[V1.heap.size]? = some (.deferred (some []))) := hdf
    have HRS : Hid (Arr A' (w.heap.size + 1) (fun _ => .slice none 0 0)) := hrs
    clear hbx hrs har hBA hrp hdf hA' hs3
    try simp only [Exit.inBlock, Exit.then]
    go_wp2_with (first
      | (with_reducible show wpList _ _ _ ({ dst := _, op := Op.load 147 _, type := _, pos := _, after := _, guard := _ } :: _) _ _; refine wpList_ld rfl (.tmp 5) rfl _ _ rfl hA7 ?_)
      | (with_reducible show wpList _ _ _ ({ dst := _, op := Op.store 147 _ _, type := _, pos := _, after := _, guard := _ } :: _) _ _; refine wpList_st rfl (.tmp 4) (.tmp 43) rfl _ _ _ hone rfl rfl hA6 ?_))
    try simp only [Exit.inBlock, Exit.then]
    have hk1 : Kp (fun k => k = w.heap.size + 1) A' (A'.setRow (w.heap.size + 1) (ca (gv G))) := kp_row _ _ _
    have hd1 := (hk1.block _ (lt_at HDF.out) (by have := HSZ.out; omega)).trans HDF.out
    have hr1 := HRS.out.row (gv G)
    generalize A'.setRow (w.heap.size + 1) (ca (gv G)) = W6 at *
    have hP := Past.put V1.heap.size W6 (.deferred none)
    have hk2 : Kp (fun b => b = V1.heap.size) W6 (W6.putObj V1.heap.size (.deferred none)) := ⟨hP.os, hP.tape, hP.output, hP.size, fun k hk hn => hP.block k hk hn⟩
    have hr2 : Arr (W6.putObj V1.heap.size (.deferred none)) (w.heap.size + 1) (gv G) := (hk2.block _ hr1.lt (by have := HSZ.out; omega)).trans hr1
    refine ⟨by simp, .inl ⟨_, _, rfl, run_takeDeferred hd1, ?_⟩⟩
    refine ⟨_, results_arr rfl rfl hr2, G, rfl, ⟨fun c p hp => ?_, HAR.out.apart⟩, below_kp (below_kp HBA.out hk1 (fun b hb e => by omega)) hk2 (fun b hb e => by have := HSZ.out; omega), HRP.out⟩
    have h1 := HAR.out.set c p hp
    have h2 := own_kp2 h1.1.1 hk1 (fun b hb e => by have := (h1.1.1.lt _ hb).1; have := HSZ.out; omega)
    have h3 := own_kp2 h2 hk2 (fun b hb e => by have := (h1.1.1.lt _ hb).1; omega)
    exact ⟨⟨own_low h3 (by have := HSZ.out; omega), h1.1.2⟩, h1.2⟩
end Go.Proofs.YtfjocafepigijaaDoor.Su
