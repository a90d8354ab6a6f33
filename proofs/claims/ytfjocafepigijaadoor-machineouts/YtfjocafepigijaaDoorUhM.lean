/- on (105) in one word; the sets by symbols that write gathers: how they lie, a node more. Conditions: a track of at most 40 states and 61 symbols. -/
import Derived.Test.YtfjocafepigijaaDoorUe
import Derived.Test.YtfjocafepigijaaDoorUc
namespace Go.Proofs.YtfjocafepigijaaDoor.Ot
open Go.RowKit Mv Sy Po Ps Cm Pa Am Wd St Ra Set

theorem on_any (S q t T ci base : Nat) (tx : List Int) (f i o x : Int) (ai : Option Addr) (vl vn : Value) (w : World) (hT : IsT w T ai tx.length ci S vl vn) (h0 : 0 < S) (hS : S ≤ 40) (hq : q / S ≤ tx.length) (hl : tx.length ≤ 61) (ht : t < S) (htx : Txt base w ai tx) (hb : base ≤ w.heap.size) :
    Calls Tryd.prog 105 #[.pointer (some ⟨T, 0, none⟩), .int .i64 (q : Int), .agg #[.int .i64 f, .int .i64 (t : Int), .int .i64 i, .int .i64 o, .int .i64 x]] w fun e w' => e = .returned (.tuple #[.int .i64 (((on S tx q (f, (t : Int), i, o, x)).getD 0 : Nat) : Int), .bool (on S tx q (f, (t : Int), i, o, x)).isSome]) ∧ Below w.heap.size w w' := by
  unfold on
  simp only [Int.toNat_natCast]
  by_cases hi : i = 0
  · subst hi
    rw [if_pos rfl]
    exact on_zero S q t T tx.length ci f o x ai vl vn w hT h0 hS (by omega) ht
  rw [if_neg hi]
  by_cases hz : q / S = tx.length
  · rw [if_neg (by rw [hz, List.getElem?_eq_none (Nat.le_refl _)]; intro h; cases h)]
    exact on_none S q t T tx.length ci f o x ai vl vn w hT h0 hS (by omega) i hi hz
  have hk : q / S < tx.length := Nat.lt_of_le_of_ne hq hz
  obtain ⟨bi, oi, hai, hbi, hcs⟩ := htx.resolve_left (fun h => Nat.not_lt_zero _ (by rw [h] at hk; exact hk))
  have hc := hcs (q / S) _ (ints_at hk)
  rw [List.getElem?_eq_getElem hk]
  by_cases he : tx[q / S] = i
  · rw [if_pos (by rw [he])]
    exact on_on S q t T tx.length ci f o x ai vl vn w hT h0 hS (by omega) ht i _ hi bi oi hai (by omega) hk hc he.symm
  · rw [if_neg (fun h => he (by injection h))]
    exact on_off S q t T tx.length ci f o x ai vl vn w hT h0 hS (by omega) i _ hi bi oi hai (by omega) hk hc (fun h => he h.symm)
abbrev Gt := Nat → Option (Value × List Nat)
def gv (G : Gt) (c : Nat) : Value := match G c with
  | some p => p.1
  | none => .slice none 0 0
def mg (G : Gt) (c x : Nat) : Bool := match G c with
  | some p => mem p.2 x
  | none => false
def upg (G : Gt) (c : Nat) (p : Value × List Nat) : Gt := fun d => if d = c then some p else G d
/-- sets by symbols -/
structure Ar (base : Nat) (w : World) (B M : Nat) (G : Gt) : Prop where
  row : Arr w B (gv G)
  set : ∀ c p, G c = some p → IsSet w base p.1 M p.2 ∧ p.2.length = (M + 63) / 64
  apart : ∀ c c' p p', c ≠ c' → G c = some p → G c' = some p' → ∀ b, p.1.ownBlock = some b → p'.1.ownBlock ≠ some b
def ArX (B : Nat) (G : Gt) (b : Nat) : Prop := b = B ∨ ∃ c p, G c = some p ∧ p.1.ownBlock = some b
theorem Ar.X {base B M : Nat} {w : World} {G : Gt} (h : Ar base w B M G) {b : Nat} (hb : ArX B G b) : (b = B ∨ base ≤ b) ∧ ∃ c ty, w.heap[b]? = some (.cells c ty (0, 0)) ∧ (ty = 147 ∨ ty = 136) := by
  rcases hb with rfl | ⟨c, p, hp, hb⟩
  · exact ⟨.inl rfl, _, _, h.row, .inl rfl⟩
  · have hs := (h.set c p hp).1.1
    obtain ⟨d, hd⟩ := own_ty hs hb
    exact ⟨.inr (hs.lt _ hb).1, d, _, hd, .inr rfl⟩
theorem Ar.nX {base B M : Nat} {w : World} {G : Gt} (h : Ar base w B M G) {b : Nat} {c : Array Value} {ty : TypeId} (hb : w.heap[b]? = some (.cells c ty (0, 0))) (h1 : ty ≠ 147) (h2 : ty ≠ 136) : ¬ ArX B G b := fun e => by
  obtain ⟨_, d, ty', hd, ht | ht⟩ := h.X e
  · subst ht; exact ty_ne hb hd h1
  · subst ht; exact ty_ne hb hd h2
theorem Ar.kept {base B M : Nat} {w w' : World} {G : Gt} {X : Nat → Prop} (h : Ar base w B M G) (hk : Kp X w w') (hX : ∀ b, X b → ¬ ArX B G b) : Ar base w' B M G :=
  ⟨(hk.block _ h.row.lt (fun e => hX _ e (.inl rfl))).trans h.row, fun c p hp => ⟨⟨own_kp2 (h.set c p hp).1.1 hk (fun b hb e => hX b e (.inr ⟨c, p, hp, hb⟩)), (h.set c p hp).1.2⟩, (h.set c p hp).2⟩, h.apart⟩
theorem Ar.below {base B M : Nat} {w w' : World} {G : Gt} (h : Ar base w B M G) (hb : Below w.heap.size w w') : Ar base w' B M G := h.kept (kp_below hb (fun _ => False)) (fun _ e => e.elim)
theorem gv_upg (G : Gt) (c : Nat) (p : Value × List Nat) : upv (gv G) c p.1 = gv (upg G c p) := by
  funext d
  unfold upv gv upg
  by_cases e : d = c
  · simp [e]
  · simp [e]
/-- a new set is laid at a symbol -/
theorem Ar.new {base B M c : Nat} {w w1 : World} {G : Gt} {v : Value} {ws : List Nat} (h : Ar base w B M G) (hb : Below w.heap.size w w1) (hs : IsSet w1 w.heap.size v M ws) (hl : ws.length = (M + 63) / 64) (hB : base ≤ w.heap.size) : Ar base (w1.setCell ⟨B, c, none⟩ v) B M (upg G c (v, ws)) := by
  have h1 := h.below hb
  have hlt : B < w.heap.size := h.row.lt
  have hk : Kp (fun b => b = B) w1 (w1.setCell ⟨B, c, none⟩ v) := (Kp.refl _ w1).setCell _ _ _ (fun _ => rfl)
  have hr := h1.row.set c v
  rw [gv_upg G c (v, ws)] at hr
  refine ⟨hr, fun d p hp => ?_, fun d d' p p' hne hp hp' b hb1 hb2 => ?_⟩
  · unfold upg at hp
    split at hp
    · cases hp
      exact ⟨⟨own_kp2 (own_low hs.1 hB) hk (fun b hb1 e => by have := (hs.1.lt _ hb1).1; omega), hs.2⟩, hl⟩
    · have h2 := h1.set d p hp
      refine ⟨⟨own_kp2 h2.1.1 hk (fun b hb1 e => ?_), h2.1.2⟩, h2.2⟩
      subst e
      obtain ⟨q, hq⟩ := own_ty h2.1.1 hb1
      exact ty_ne hq h1.row (by decide)
  · unfold upg at hp hp'
    have old : ∀ d q, G d = some q → ∀ b, q.1.ownBlock = some b → b < w.heap.size := fun d q hq b hb => ((h.set d q hq).1.1.lt _ hb).2
    split at hp
    · split at hp'
      · rename_i e1 e2; exact hne (e1.trans e2.symm)
      · cases hp
        have h3 := (hs.1.lt _ hb1).1
        have h4 := old d' p' hp' b hb2
        omega
    · split at hp'
      · cases hp'
        have h3 := (hs.1.lt _ hb2).1
        have h4 := old d p hp b hb1
        omega
      · exact h.apart d d' p p' hne hp hp' b hb1 hb2
/-- a set of a symbol is turned -/
theorem Ar.put {base B M c : Nat} {w w1 : World} {G : Gt} {p : Value × List Nat} {ws : List Nat} (h : Ar base w B M G) (hp : G c = some p) (hs : IsSet w1 base p.1 M ws) (hl : ws.length = (M + 63) / 64) (hg : w.grownBy w1 p.1.ownBlock) : Ar base w1 B M (upg G c (p.1, ws)) := by
  have hk : Kp (fun b => p.1.ownBlock = some b) w w1 := (Kp.refl _ w).grown hg (fun b hb _ => hb)
  have hsp := (h.set c p hp).1
  have e : gv (upg G c (p.1, ws)) = gv G := by
    funext d
    unfold gv upg
    by_cases e : d = c
    · subst e; simp [hp]
    · simp [e]
  refine ⟨?_, fun d q hq => ?_, fun d d' q q' hne hq hq' b hb1 hb2 => ?_⟩
  · rw [e]
    exact (hk.block _ h.row.lt (fun e1 => by obtain ⟨q, hq⟩ := own_ty hsp.1 e1; exact ty_ne hq h.row (by decide))).trans h.row
  · unfold upg at hq
    split at hq
    · cases hq; exact ⟨hs, hl⟩
    · rename_i hne
      have h2 := h.set d q hq
      exact ⟨⟨own_kp2 h2.1.1 hk (fun b hb1 e1 => h.apart d c q p hne hq hp b hb1 e1), h2.1.2⟩, h2.2⟩
  · unfold upg at hq hq'
    split at hq
    · split at hq'
      · rename_i e1 e2; exact hne (e1.trans e2.symm)
      · rename_i e1 e2
        cases hq
        exact h.apart c d' p q' (fun e => e2 e.symm) hp hq' b hb1 hb2
    · split at hq'
      · rename_i e1 e2
        cases hq'
        exact h.apart d c q p e1 hq hp b hb1 hb2
      · exact h.apart d d' q q' hne hq hq' b hb1 hb2
/-- what the gathering does to what is there -/
def Gat (G G' : Gt) (c v : Nat) : Prop := (∀ d x, mg G' d x = (mg G d x || (decide (d = c) && decide (x = v)))) ∧ (∀ d, (G' d).isSome = true → (G d).isSome = true ∨ d = c)
theorem put_len (ws : List Nat) (k : Nat) : (put ws k).length = ws.length := by unfold put; exact List.length_set
theorem gat_put {G : Gt} {c v : Nat} {p : Value × List Nat} (hp : G c = some p) (hv : v / 64 < p.2.length) : Gat G (upg G c (p.1, put p.2 v)) c v := by
  refine ⟨fun d x => ?_, fun d hd => ?_⟩
  · unfold mg upg
    by_cases e : d = c
    · subst e; simp [hp, mem_put _ _ _ hv]
    · simp [e]
  · by_cases e : d = c
    · exact .inr e
    · unfold upg at hd; rw [if_neg e] at hd; exact .inl hd
theorem gat_new {G : Gt} {c v n : Nat} {u : Value} (hp : G c = none) (hv : v / 64 < n) : Gat G (upg (upg G c (u, List.replicate n 0)) c (u, put (List.replicate n 0) v)) c v := by
  refine ⟨fun d x => ?_, fun d hd => ?_⟩
  · unfold mg upg
    by_cases e : d = c
    · subst e; simp [hp, mem_put (List.replicate n 0) v x (by simpa using hv), mem_zero]
    · simp [e]
  · by_cases e : d = c
    · exact .inr e
    · unfold upg at hd; rw [if_neg e, if_neg e] at hd; exact .inl hd
end Go.Proofs.YtfjocafepigijaaDoor.Ot
/- write$1 (104): a node is put into the set of an arc's symbol, if it does not need too much. Conditions: the track lies below b2, the sets at or above base. -/
namespace Go.Proofs.YtfjocafepigijaaDoor.Ot
open Go.RowKit Mv Sy Po Ps Cm Pa Am Wd St Ra Set

def TlQ (base B M c v n left : Nat) (w : World) (G : Gt) (e : Ending) (w' : World) : Prop :=
  e = .returned (.tuple #[]) ∧ ∃ G', Ar base w' B M G' ∧ Kp (ArX B G) w w' ∧ (n < left → Gat G G' c v) ∧ (¬ n < left → G' = G)
theorem eql77 (a : Addr) (n c : Nat) (W : World) : Sem.run Tryd.prog (binOp BinOp.eql 77 (.slice (some a) n c) (.slice none 0 0)) W = .ok (.bool false) W := by kernel_rfl
theorem eql77n (W : World) : Sem.run Tryd.prog (binOp BinOp.eql 77 (.slice none 0 0) (.slice none 0 0)) W = .ok (.bool true) W := by kernel_rfl
theorem kp_then' {X Y : Nat → Prop} {a b c : World} (h : Kp X a b) (k : Kp Y b c) (hY : ∀ i, i < a.heap.size → Y i → X i) : Kp X a c := kp_then h k hY
set_option maxHeartbeats 4000000 in
set_option maxRecDepth 100000 in
theorem tell_far (base b2 B M c v left T S sb ci nb cN p3 p5 : Nat) (ai : Option Addr) (tx : List Int) (R : Nat → List Arc) (V : Nat → Value) (N : Nat → Nat) (f t i x : Int) (G : Gt) (w : World) (hT : Tr b2 w T S sb ci nb cN M ai tx R V N)
    (h3 : w.heap[p3]? = some (.cells #[.pointer (some ⟨T, 0, none⟩)] 60 (0, 0))) (h5 : w.heap[p5]? = some (.cells #[.int .i64 (left : Int)] 3 (0, 0))) (hA : Ar base w B M G) (hv : v < M) (hn : ¬ N v < left) :
    Calls Tryd.prog 104 #[.int .i64 (v : Int), .agg #[.int .i64 f, .int .i64 t, .int .i64 i, .int .i64 (c : Int), .int .i64 x], .pointer (some ⟨p3, 0, none⟩), .pointer (some ⟨p5, 0, none⟩), .pointer (some ⟨B, 0, none⟩)] w (TlQ base B M c v (N v) left w G) := by
  have hb := (Below.refl w.heap.size w).alloc (Nat.le_refl _) (.cells #[.int .i64 f, .int .i64 t, .int .i64 i, .int .i64 (c : Int), .int .i64 x] 64)
  have HB : Hid (Below w.heap.size w (w.alloc (.cells #[.int .i64 f, .int .i64 t, .int .i64 i, .int .i64 (c : Int), .int .i64 x] 64))) := hb
  have hT1 := hT.below (hb.mono hT.le)
  have x3 := (hb.block p3 (lt_at h3)).trans h3
  have x5 := (hb.block p5 (lt_at h5)).trans h5
  have HA : Hid (Ar base w B M G) := hA
  have HN : Hid (¬ N v < left) := hn
  obtain ⟨k, hk⟩ : ∃ k, N v = k := ⟨_, rfl⟩
  have nc := hT1.need v hv
  rw [hk] at nc hn
  have HK : Hid (N v = k) := hk
  have hge : (left : Int) ≤ (k : Int) := by omega
  have hcap := hT1.cap
  clear hk hn hA h3 h5
  have trk := hT1.trk
  clear hT hT1
  go_enter Tryd.func104, Tryd.ntmps104
  go_upto_region 1 with fail
  generalize hV : w.alloc (.cells #[.int .i64 f, .int .i64 t, .int .i64 i, .int .i64 (c : Int), .int .i64 x] 64) = V1 at *
  clear hV
  have c3 := cell_of_row _ _ 0 _ _ _ x3
  have c5 := cell_of_row _ _ 0 _ _ _ x5
  have t3 := cell_of_row _ _ 3 _ _ _ trk
  clear x3 x5 trk hb
  go_wp2
  repeat (go_quiet (fail); go_wp2)
  go_end0
  refine ⟨rfl, G, HA.out.below (by first | exact HB.out | exact below_drewN HB.out _), kp_below (by first | exact HB.out | exact below_drewN HB.out _) _, fun h => absurd h HN.out, fun _ => rfl⟩
set_option maxHeartbeats 4000000 in
set_option maxRecDepth 100000 in
theorem tell_old (base b2 B M c v left T S sb ci nb cN p3 p5 : Nat) (ai : Option Addr) (tx : List Int) (R : Nat → List Arc) (V : Nat → Value) (N : Nat → Nat) (f t i x : Int) (G : Gt) (pr : Value × List Nat) (w : World) (hT : Tr b2 w T S sb ci nb cN M ai tx R V N)
    (h3 : w.heap[p3]? = some (.cells #[.pointer (some ⟨T, 0, none⟩)] 60 (0, 0))) (h5 : w.heap[p5]? = some (.cells #[.int .i64 (left : Int)] 3 (0, 0))) (hA : Ar base w B M G) (hv : v < M) (hM : M ≤ 2480) (hn : N v < left) (hc : c ≤ 60) (hp : G c = some pr) :
    Calls Tryd.prog 104 #[.int .i64 (v : Int), .agg #[.int .i64 f, .int .i64 t, .int .i64 i, .int .i64 (c : Int), .int .i64 x], .pointer (some ⟨p3, 0, none⟩), .pointer (some ⟨p5, 0, none⟩), .pointer (some ⟨B, 0, none⟩)] w (TlQ base B M c v (N v) left w G) := by
  have hb := (Below.refl w.heap.size w).alloc (Nat.le_refl _) (.cells #[.int .i64 f, .int .i64 t, .int .i64 i, .int .i64 (c : Int), .int .i64 x] 64)
  have HB : Hid (Below w.heap.size w (w.alloc (.cells #[.int .i64 f, .int .i64 t, .int .i64 i, .int .i64 (c : Int), .int .i64 x] 64))) := hb
  have hT1 := hT.below (hb.mono hT.le)
  have x3 := (hb.block p3 (lt_at h3)).trans h3
  have x5 := (hb.block p5 (lt_at h5)).trans h5
  have xa := heap_alloc_new w (.cells #[.int .i64 f, .int .i64 t, .int .i64 i, .int .i64 (c : Int), .int .i64 x] 64)
  have HA : Hid (Ar base (w.alloc (.cells #[.int .i64 f, .int .i64 t, .int .i64 i, .int .i64 (c : Int), .int .i64 x] 64)) B M G) := hA.below hb
  have HN : Hid (N v < left) := hn
  have HP : Hid (G c = some pr) := hp
  obtain ⟨k, hk⟩ : ∃ k, N v = k := ⟨_, rfl⟩
  have nc := hT1.need v hv
  rw [hk] at nc hn
  have hge : ¬ (left : Int) ≤ (k : Int) := by omega
  have hge' : ¬ left ≤ k := by omega
  have hcap := hT1.cap
  have hgs := HA.out.set c pr hp
  have ac := HA.out.row.cell c (by omega)
  rw [show gv G c = pr.1 by unfold gv; rw [hp]] at ac
  obtain ⟨pg, pc, hpe, _, _⟩ := own_some hgs.1.1 (by rw [hgs.2]; omega)
  rw [hpe] at ac
  have HSE : Hid (pr.1 = .slice (some ⟨pg, 0, none⟩) pr.2.length pc) := hpe
  obtain ⟨lw, hlw⟩ : ∃ lw, pr.2.length = lw := ⟨_, rfl⟩
  rw [hlw] at ac HSE
  have HLW : Hid (pr.2.length = lw ∧ v / 64 < pr.2.length) := ⟨hlw, by rw [hgs.2]; omega⟩
  clear hk hn hA h3 h5 hgs hpe hp hlw
  have trk := hT1.trk
  clear hT hT1
  go_enter Tryd.func104, Tryd.ntmps104
  go_upto_region 1 with fail
  generalize hV : w.alloc (.cells #[.int .i64 f, .int .i64 t, .int .i64 i, .int .i64 (c : Int), .int .i64 x] 64) = V1 at *
  clear hV
  have c3 := cell_of_row _ _ 0 _ _ _ x3
  have c5 := cell_of_row _ _ 0 _ _ _ x5
  have t3 := cell_of_row _ _ 3 _ _ _ trk
  have HXA : Hid (V1.heap[w.heap.size]? = some (.cells #[.int .i64 f, .int .i64 t, .int .i64 i, .int .i64 (c : Int), .int .i64 x] 64 (0, 0))) := xa
  have HK1 : Hid (Kp (ArX B G) w V1) := kp_below HB.out _
  clear x3 x5 trk hb xa HB
  generalize w.heap.size = bx at *
  have q1 := eql77 ⟨pg, 0, none⟩ lw pc
  go_wp2
  go_quiet (fail)
  have HA2 : Hid (Ar base (V1.drewN nq) B M G) := HA.out.below (below_drewN (Below.refl _ _) _)
  have xa := ((below_drewN (Below.refl V1.heap.size V1) nq).block bx (lt_at HXA.out)).trans HXA.out
  have HK2 : Hid (Kp (ArX B G) w (V1.drewN nq)) := HK1.out.trans (kp_below (below_drewN (Below.refl _ _) _) _)
  clear c3 c5 t3 ac HA HXA HK1 nc
  generalize V1.drewN nq = V2 at *
  have a3 := cell_of_row _ _ 3 _ _ _ xa
  have ac := HA2.out.row.cell c (by omega)
  rw [show gv G c = pr.1 by unfold gv; rw [HP.out], HSE.out] at ac
  clear xa
  have K60 := add_any base pr.1 M v pr.2 V2 (HA2.out.set c pr HP.out).1 hv (by omega)
  rw [HSE.out] at K60
  go_wp2_with (go_at_call 60; (with_reducible refine K60.mono ?_); clear K60; rintro e w3 ⟨rfl, hs3, hg3⟩; rw [← HSE.out] at hs3 hg3; have HF : Hid (Ar base w3 B M (upg G c (pr.1, put pr.2 v)) ∧ Kp (ArX B G) w w3) := ⟨HA2.out.put HP.out hs3 (by rw [put_len]; exact (HA2.out.set c pr HP.out).2) hg3, kp_then' HK2.out ((Kp.refl (fun b => pr.1.ownBlock = some b) _).grown hg3 (fun b hb _ => hb)) (fun i _ e => .inr ⟨c, pr, HP.out, e⟩)⟩; clear hs3 hg3)
  go_end0
  exact ⟨rfl, _, HF.out.1, HF.out.2, fun _ => gat_put HP.out HLW.out.2, fun h => absurd HN.out h⟩
end Go.Proofs.YtfjocafepigijaaDoor.Ot
/- write$1 where the symbol has no set yet. Conditions: as in Ug. -/
namespace Go.Proofs.YtfjocafepigijaaDoor.Ot
open Go.RowKit Mv Sy Po Ps Cm Pa Am Wd St Ra Set

set_option maxHeartbeats 4000000 in
set_option maxRecDepth 100000 in
theorem tell_new (base b2 B M c v left T S sb ci nb cN p3 p5 : Nat) (ai : Option Addr) (tx : List Int) (R : Nat → List Arc) (V : Nat → Value) (N : Nat → Nat) (f t i x : Int) (G : Gt) (w : World) (hT : Tr b2 w T S sb ci nb cN M ai tx R V N)
    (h3 : w.heap[p3]? = some (.cells #[.pointer (some ⟨T, 0, none⟩)] 60 (0, 0))) (h5 : w.heap[p5]? = some (.cells #[.int .i64 (left : Int)] 3 (0, 0))) (hA : Ar base w B M G) (hv : v < M) (hM : M ≤ 2480) (hn : N v < left) (hc : c ≤ 60) (hp : G c = none) (hB : base ≤ w.heap.size) :
    Calls Tryd.prog 104 #[.int .i64 (v : Int), .agg #[.int .i64 f, .int .i64 t, .int .i64 i, .int .i64 (c : Int), .int .i64 x], .pointer (some ⟨p3, 0, none⟩), .pointer (some ⟨p5, 0, none⟩), .pointer (some ⟨B, 0, none⟩)] w (TlQ base B M c v (N v) left w G) := by
  have hb := (Below.refl w.heap.size w).alloc (Nat.le_refl _) (.cells #[.int .i64 f, .int .i64 t, .int .i64 i, .int .i64 (c : Int), .int .i64 x] 64)
  have HB : Hid (Below w.heap.size w (w.alloc (.cells #[.int .i64 f, .int .i64 t, .int .i64 i, .int .i64 (c : Int), .int .i64 x] 64))) := hb
  have hT1 := hT.below (hb.mono hT.le)
  have x3 := (hb.block p3 (lt_at h3)).trans h3
  have x5 := (hb.block p5 (lt_at h5)).trans h5
  have xa := heap_alloc_new w (.cells #[.int .i64 f, .int .i64 t, .int .i64 i, .int .i64 (c : Int), .int .i64 x] 64)
  have HA : Hid (Ar base (w.alloc (.cells #[.int .i64 f, .int .i64 t, .int .i64 i, .int .i64 (c : Int), .int .i64 x] 64)) B M G) := hA.below hb
  have HN : Hid (N v < left) := hn
  have HP : Hid (G c = none) := hp
  have HBS : Hid (base ≤ w.heap.size) := hB
  obtain ⟨k, hk⟩ : ∃ k, N v = k := ⟨_, rfl⟩
  have nc := hT1.need v hv
  rw [hk] at nc hn
  have hge : ¬ (left : Int) ≤ (k : Int) := by omega
  have hge' : ¬ left ≤ k := by omega
  have hcap := hT1.cap
  clear hk hn hA h3 h5 hp hB
  have trk := hT1.trk
  have HT1 : Hid (Tr b2 (w.alloc (.cells #[.int .i64 f, .int .i64 t, .int .i64 i, .int .i64 (c : Int), .int .i64 x] 64)) T S sb ci nb cN M ai tx R V N) := hT1
  clear hT hT1
  go_enter Tryd.func104, Tryd.ntmps104
  go_upto_region 1 with fail
  generalize hV : w.alloc (.cells #[.int .i64 f, .int .i64 t, .int .i64 i, .int .i64 (c : Int), .int .i64 x] 64) = V1 at *
  clear hV
  have c3 := cell_of_row _ _ 0 _ _ _ x3
  have c5 := cell_of_row _ _ 0 _ _ _ x5
  have t3 := cell_of_row _ _ 3 _ _ _ trk
  have HXA : Hid (V1.heap[w.heap.size]? = some (.cells #[.int .i64 f, .int .i64 t, .int .i64 i, .int .i64 (c : Int), .int .i64 x] 64 (0, 0))) := xa
  have HK1 : Hid (Kp (ArX B G) w V1) := kp_below HB.out _
  have HKS1 : Hid (w.heap.size ≤ V1.heap.size) := HB.out.size
  have HWX : Hid (∀ i, i < w.heap.size → i < w.heap.size) := fun _ h => h
  have HTR1 : Hid (Tr b2 V1 T S sb ci nb cN M ai tx R V N) := HT1.out
  have HX3 : Hid (V1.heap[p3]? = some (.cells #[.pointer (some ⟨T, 0, none⟩)] 60 (0, 0))) := x3
  clear x3 x5 trk hb xa HB
  generalize w.heap.size = bx at *
  have q1 := eql77n
  go_wp2
  go_quiet (fail)
  have HA2 : Hid (Ar base (V1.drewN nq) B M G) := HA.out.below (below_drewN (Below.refl _ _) _)
  have xa := ((below_drewN (Below.refl V1.heap.size V1) nq).block bx (lt_at HXA.out)).trans HXA.out
  have HK2 : Hid (Kp (ArX B G) w (V1.drewN nq)) := HK1.out.trans (kp_below (below_drewN (Below.refl _ _) _) _)
  clear c3 c5 t3 HA HXA HK1 nc
  have HTR : Hid (Tr b2 (V1.drewN nq) T S sb ci nb cN M ai tx R V N) := HTR1.out.below (below_drewN (Below.refl _ _) _)
  have x3 := ((below_drewN (Below.refl V1.heap.size V1) nq).block p3 (lt_at HX3.out)).trans HX3.out
  have HKS : Hid (bx ≤ (V1.drewN nq).heap.size) := HKS1.out
  have HBS2 : Hid (base ≤ (V1.drewN nq).heap.size) := Nat.le_trans HBS.out HKS.out
  have HWZ : Hid (w.heap.size ≤ (V1.drewN nq).heap.size) := HK2.out.size
  clear HTR1 HX3 HKS1 HWX
  generalize V1.drewN nq = V2 at *
  have a3 := cell_of_row _ _ 3 _ _ _ xa
  have ac := HA2.out.row.cell c (by omega)
  rw [show gv G c = .slice none 0 0 by unfold gv; rw [HP.out]] at ac
  have c3 := cell_of_row _ _ 0 _ _ _ x3
  have t3 := cell_of_row _ _ 3 _ _ _ HTR.out.trk
  have HXA : Hid (V2.heap[bx]? = some (.cells #[.int .i64 f, .int .i64 t, .int .i64 i, .int .i64 (c : Int), .int .i64 x] 64 (0, 0))) := xa
  have HX3 : Hid (V2.heap[p3]? = some (.cells #[.pointer (some ⟨T, 0, none⟩)] 60 (0, 0))) := x3
  clear xa x3
  go_upto_region 3 with fail
  go_cut [] from 21 to 30 (fun wx => ∃ v0, Ar base wx B M (upg G c (v0, List.replicate ((M + 63) / 64) 0)) ∧ wx.heap[bx]? = some (.cells #[.int .i64 f, .int .i64 t, .int .i64 i, .int .i64 (c : Int), .int .i64 x] 64 (0, 0)) ∧ Kp (fun b => b = B) V2 wx ∧ ∀ b, v0.ownBlock = some b → V2.heap.size ≤ b)
  case first =>
    go_region_with (go_at_call 59; refine (new_zero M _ (by omega)).mono ?_; rintro e w1 ⟨v0, rfl, hs1, hb1⟩; have HB1 : Hid (Below V2.heap.size V2 w1) := below_undrew hb1; have HS1 : Hid (IsSet w1 V2.heap.size v0 M (List.replicate ((M + 63) / 64) 0)) := hs1; clear hb1 hs1; have d3 := cell_of_row _ _ 3 _ _ _ ((HB1.out.block bx (lt_at HXA.out)).trans HXA.out); have dA := (HA2.out.below HB1.out).row.frozen c; have dC := (HA2.out.below HB1.out).row.cell c (by omega); obtain ⟨g0, cp0, rfl, _, _⟩ := own_some HS1.out.1 (by simp; omega); rw [List.length_replicate] at HS1)
    all_goals (go_wp2_with fail; go_meet)
    all_goals exact ⟨_, HA2.out.new HB1.out HS1.out (by simp) HBS2.out, (heap_setCell_other _ _ _ _ (fun e => by rw [e] at HXA; exact ty_ne HXA.out HA2.out.row (by decide))).trans ((HB1.out.block bx (lt_at HXA.out)).trans HXA.out), kp_then' (kp_below HB1.out _) ((Kp.refl (fun b => b = B) _).setCell _ _ _ (fun _ => rfl)) (fun _ _ e => e), fun b hb => (HS1.out.1.lt _ hb).1⟩
  case rest =>
  obtain ⟨v0, hAr, hbx, hkp, hv0⟩ := hcut
  have HAR : Hid (Ar base wc B M (upg G c (v0, List.replicate ((M + 63) / 64) 0))) := hAr
  have hset := (hAr.set c (v0, List.replicate ((M + 63) / 64) 0) (by unfold upg; rw [if_pos rfl])).1
  obtain ⟨g0, cp0, hv0e, _, _⟩ := own_some hset.1 (by simp; omega)
  have K60 := add_any base v0 M v (List.replicate ((M + 63) / 64) 0) wc hset hv (by omega)
  have HV0 : Hid (v0 = .slice (some ⟨g0, 0, none⟩) ((M + 63) / 64) cp0) := by show _ = _; have := hv0e; simp only [List.length_replicate] at this; exact this
  have HKP : Hid (Kp (ArX B G) w wc) := kp_then' HK2.out hkp (fun i _ e => .inl e)
  have HVB : Hid (∀ b, v0.ownBlock = some b → w.heap.size ≤ b) := fun b hb => Nat.le_trans HWZ.out (hv0 b hb)
  have d3 := cell_of_row _ _ 3 _ _ _ hbx
  have dC := hAr.row.cell c (by omega)
  rw [show gv (upg G c (v0, List.replicate ((M + 63) / 64) 0)) c = v0 by unfold gv upg; simp, HV0.out] at dC
  clear hAr hbx hkp hv0 hv0e hset a3 ac c3 t3
  rw [HV0.out] at K60
  go_wp2_with (go_at_call 60; (with_reducible refine K60.mono ?_); clear K60; rintro e w3 ⟨rfl, hs3, hg3⟩; rw [← HV0.out] at hs3 hg3; have HF : Hid (Ar base w3 B M (upg (upg G c (v0, List.replicate ((M + 63) / 64) 0)) c (v0, put (List.replicate ((M + 63) / 64) 0) v)) ∧ Kp (ArX B G) w w3) := ⟨HAR.out.put (p := (v0, List.replicate ((M + 63) / 64) 0)) (by unfold upg; rw [if_pos rfl]) hs3 (by rw [put_len]; simp) hg3, kp_then' HKP.out ((Kp.refl (fun b => v0.ownBlock = some b) _).grown hg3 (fun b hb _ => hb)) (fun i hi e => absurd (HVB.out i e) (Nat.not_le.2 hi))⟩; clear hs3 hg3)
  go_end0
  exact ⟨rfl, _, HF.out.1, HF.out.2, fun _ => gat_new HP.out (by omega), fun h => absurd HN.out h⟩
theorem tell_any (base b2 B M c v left T S sb ci nb cN p3 p5 : Nat) (ai : Option Addr) (tx : List Int) (R : Nat → List Arc) (V : Nat → Value) (N : Nat → Nat) (f t i x : Int) (G : Gt) (w : World) (hT : Tr b2 w T S sb ci nb cN M ai tx R V N)
    (h3 : w.heap[p3]? = some (.cells #[.pointer (some ⟨T, 0, none⟩)] 60 (0, 0))) (h5 : w.heap[p5]? = some (.cells #[.int .i64 (left : Int)] 3 (0, 0))) (hA : Ar base w B M G) (hv : v < M) (hM : M ≤ 2480) (hc : c ≤ 60) (hB : base ≤ w.heap.size) :
    Calls Tryd.prog 104 #[.int .i64 (v : Int), .agg #[.int .i64 f, .int .i64 t, .int .i64 i, .int .i64 (c : Int), .int .i64 x], .pointer (some ⟨p3, 0, none⟩), .pointer (some ⟨p5, 0, none⟩), .pointer (some ⟨B, 0, none⟩)] w (TlQ base B M c v (N v) left w G) := by
  by_cases hn : N v < left
  · cases hp : G c with
    | none => exact tell_new base b2 B M c v left T S sb ci nb cN p3 p5 ai tx R V N f t i x G w hT h3 h5 hA hv hM hn hc hp hB
    | some pr => exact tell_old base b2 B M c v left T S sb ci nb cN p3 p5 ai tx R V N f t i x G pr w hT h3 h5 hA hv hM hn hc hp
  · exact tell_far base b2 B M c v left T S sb ci nb cN p3 p5 ai tx R V N f t i x G w hT h3 h5 hA hv hn
end Go.Proofs.YtfjocafepigijaaDoor.Ot
