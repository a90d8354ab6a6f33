/- The document's Apart (25): append of a text, nil or not; how the visits lie, each with a text of its own. Condition: texts of at most a million. -/
import Derived.Test.YtfjocafepigijaaDoorFx
import Derived.Test.YtfjocafepigijaaDoorDmM
import Derived.Laws.AppendOwnNone
import Derived.OwnWalk
import Derived.Test.YtfjocafepigijaaDoorGcM
import Derived.Test.YtfjocafepigijaaDoorFvM
import Derived.Test.YtfjocafepigijaaDoorRz
namespace Go.Proofs.YtfjocafepigijaaDoor.Su
open Go.RowKit Mv Po Ps Cm Ra Ot Pa

set_option maxRecDepth 100000 in
theorem run_txt (w : World) (base : Nat) (v : Value) (n : Nat) (xs : List Value) (hown : w.ownsRow base 3 1 v n xs) (b2 : Nat) (y : Value) (t : List Nat) (hy : w.ownsRow b2 3 1 y t.length (ns t)) (h63 : n + t.length ≤ 1000000) (hbase : base ≤ w.heap.size) :
    ∃ v' w', (Builtin.append_ #[26, 26] 26 #[v, y]).run Tryd.prog w = .ok v' w' ∧ w'.ownsRow base 3 1 v' (n + t.length) (xs ++ ns t) ∧ w.grownBy w' v.ownBlock ∧ (v'.ownBlock = v.ownBlock ∨ v'.ownBlock = some w.heap.size) := by
  obtain ⟨i3, hi3, hz0, hz1, hz2⟩ := info_parts inf3'
  by_cases h0 : 0 < t.length
  · obtain ⟨g, c, rfl, _, _⟩ := own_some hy h0
    obtain ⟨v', w', hr, h2, h3, h4, h5⟩ := run_append_own_at (P := Tryd.prog) w base 26 26 3 i3 (.int .i64 0) 1 8 Tryd.underlying26 hi3 hz0 hz1 hz2 rfl (by decide) v n xs hown ⟨g, 0, none⟩ t.length c (ns t) (by simp [ns]) (fun j u hu => by
      have hadd : (⟨g, 0, none⟩ : Addr).add j = ⟨g, j, none⟩ := by unfold Addr.add; split <;> simp_all
      rw [hadd]
      have hj := (List.getElem?_eq_some_iff.1 hu).1
      rw [hy.cellAt j (by simpa [ns] using hj)]
      exact hu) (fun u hu => by obtain ⟨k, _, rfl⟩ := List.mem_map.1 hu; rfl) (by unfold maxLen; omega) (by omega) hbase
    exact ⟨v', w', hr, h2, h3, h5⟩
  · have ht : t = [] := List.eq_nil_of_length_eq_zero (by omega)
    subst ht
    rcases hy.2 with ⟨h1, _⟩ | ⟨g, c, cs, h1, hb, hg, _⟩
    · rw [h1]
      exact ⟨v, w, run_append_owned_none (P := Tryd.prog) w base 26 26 3 i3 1 Tryd.underlying26 hi3 v n xs hown, by simpa [ns] using hown, ⟨rfl, rfl, rfl, Nat.le_refl _, fun _ _ _ => rfl⟩, .inl rfl⟩
    · subst h1
      obtain ⟨v', w', hr, h2, h3, h4, h5⟩ := run_append_own_at (P := Tryd.prog) w base 26 26 3 i3 (.int .i64 0) 1 8 Tryd.underlying26 hi3 hz0 hz1 hz2 rfl (by decide) v n xs hown ⟨g, 0, none⟩ 0 c [] rfl (fun j u hu => by simp at hu) (fun u hu => by cases hu) (by unfold maxLen; omega) (by simp at h63; omega) hbase
      exact ⟨v', w', hr, h2, h3, h5⟩
set_option maxRecDepth 100000 in
theorem wpList_txt {ops : Array Oper} {rest : List Oper} {o : Oper} {a : Act} {w : World} {Q : Exit → Act → World → Prop} (hgd : o.guard = none) (s x : Operand)
    (ho : o.op = .call { callee := .builtin .append, args := #[s, x], argTypes := #[26, 26] }) (ht : o.type = 26)
    (base : Nat) (v : Value) (n : Nat) (xs : List Value) (hs : a.eval s = v) (hown : w.ownsRow base 3 1 v n xs)
    (b2 : Nat) (y : Value) (t : List Nat) (hx : a.eval x = y) (hy : w.ownsRow b2 3 1 y t.length (ns t)) (h63 : n + t.length ≤ 1000000) (hbase : base ≤ w.heap.size)
    (h : ∀ v' w', w'.ownsRow base 3 1 v' (n + t.length) (xs ++ ns t) → w.grownBy w' v.ownBlock → (v'.ownBlock = v.ownBlock ∨ v'.ownBlock = some w.heap.size) → wpList Tryd.prog ops Q rest (a.put o.dst v') w') :
    wpList Tryd.prog ops Q (o :: rest) a w := by
  refine wpList_plain hgd fun K hK => ?_
  obtain ⟨v', w', hr, h2, h3, h5⟩ := run_txt w base v n xs hown b2 y t hy h63 hbase
  unfold Oper.wp execOp
  simp only [ho, ht, resolve, invoke, builtin, Sem.run_bind, Sem.run_pure, Result.andThen_ok, List.map_toArray, List.map_cons, List.map_nil, hs, hx, hr]
  exact hK _ _ (h v' w' h2 h3 h5)
/-- the visits' cells: a duo and its text -/
def xg (tv : Nat → Value) (l : List Vis) (i j : Nat) : Value := if j = 0 then .int .i64 (enc (l.getD i v0).1.1) else if j = 1 then .int .i64 (enc (l.getD i v0).1.2) else tv i
def xcs (tv : Nat → Value) (l : List Vis) : List Value := gl l.length 3 (xg tv l)
theorem xcs_at {tv : Nat → Value} {l : List Vis} {i : Nat} {e : Vis} (h : l[i]? = some e) : (xcs tv l)[i * 3]? = some (.int .i64 (enc e.1.1)) ∧ (xcs tv l)[i * 3 + 1]? = some (.int .i64 (enc e.1.2)) ∧ (xcs tv l)[i * 3 + 2]? = some (tv i) := by
  have hi := (List.getElem?_eq_some_iff.1 h).1
  have hg : l.getD i v0 = e := by rw [List.getD_eq_getElem?_getD, h]; rfl
  unfold xcs
  refine ⟨?_, ?_, ?_⟩
  · have := gl_at (n := l.length) (k := 3) (G := xg tv l) hi (j := 0) (by omega)
    rw [Nat.add_zero] at this
    rw [this]
    simp only [xg, if_pos, hg]
  · rw [gl_at hi (by omega)]
    simp only [xg, if_pos, hg, if_neg (show ¬ (1 : Nat) = 0 by omega)]
  · rw [gl_at hi (by omega)]
    simp only [xg, if_neg (show ¬ (2 : Nat) = 0 by omega), if_neg (show ¬ (2 : Nat) = 1 by omega)]
theorem xcs_snoc (tv : Nat → Value) (l : List Vis) (e : Vis) (v : Value) : xcs (upn tv l.length v) (l ++ [e]) = xcs tv l ++ [.int .i64 (enc e.1.1), .int .i64 (enc e.1.2), v] := by
  unfold xcs
  rw [List.length_append, List.length_singleton, gl_snoc]
  congr 1
  · refine gl_congr fun i j hi _ => ?_
    unfold xg upn
    rw [List.getD_eq_getElem?_getD, List.getD_eq_getElem?_getD, List.getElem?_append_left hi]
    have hne : ¬ i = l.length := by omega
    simp only [if_neg hne]
  · have hg : (l ++ [e]).getD l.length v0 = e := by rw [List.getD_eq_getElem?_getD]; simp
    have h3 : (List.range 3) = [0, 1, 2] := rfl
    rw [h3]
    simp only [List.map_cons, List.map_nil, xg, upn, hg, if_pos, if_neg (show ¬ (1 : Nat) = 0 by omega), if_neg (show ¬ (2 : Nat) = 0 by omega), if_neg (show ¬ (2 : Nat) = 1 by omega)]
/-- how the visits lie, each with a text of its own -/
structure Va (w wr : World) (vv : Value) (l : List Vis) (tv : Nat → Value) : Prop where
  row : wr.ownsRow w.heap.size 105 3 vv l.length (xcs tv l)
  txt : ∀ i e, l[i]? = some e → wr.ownsRow w.heap.size 3 1 (tv i) e.2.length (ns e.2)
  below : Below w.heap.size w wr
section
variable {w wr w1 w2 : World} {vv : Value} {l : List Vis} {tv : Nat → Value}
theorem Va.laid (h : Va w wr vv l tv) (hb : Below wr.heap.size wr w1) : Va w w1 vv l tv :=
  ⟨own_kp2 h.row (kp_below hb (fun _ => False)) (fun _ _ => id), fun i e he => own_kp2 (h.txt i e he) (kp_below hb (fun _ => False)) (fun _ _ => id), h.below.trans (hb.mono h.below.size)⟩
/-- a visit more -/
theorem Va.add {v1 tx : Value} {o : Obj} {e : Vis} (h : Va w wr vv l tv) (ht : wr.ownsRow w.heap.size 3 1 tx e.2.length (ns e.2))
    (ho : w2.ownsRow w.heap.size 105 3 v1 (l.length + 1) (xcs tv l ++ [.int .i64 (enc e.1.1), .int .i64 (enc e.1.2), tx])) (hg : (wr.alloc o).grownBy w2 vv.ownBlock) : Va w w2 v1 (l ++ [e]) (upn tv l.length tx) := by
  have hba := below_al wr o
  have hk : Kp (fun b => vv.ownBlock = some b) wr w2 := kp_then (kp_below hba (fun b => vv.ownBlock = some b)) ((Kp.refl (fun b => vv.ownBlock = some b) _).grown hg (fun b hb _ => hb)) (fun _ _ e => e)
  have nt : ∀ {v : Value} {n : Nat} {xs : List Value}, wr.ownsRow w.heap.size 3 1 v n xs → ∀ b, v.ownBlock = some b → ¬ vv.ownBlock = some b := fun {v n xs} hv b hb e2 => by
    obtain ⟨d, hd⟩ := own_ty hv hb
    obtain ⟨d', hd'⟩ := own_ty h.row e2
    exact ty_ne hd hd' (by decide)
  refine ⟨by rw [List.length_append, xcs_snoc]; exact ho, fun i e' he' => ?_, below_kp h.below hk (fun b hb e2 => by have := (h.row.lt b e2).1; omega)⟩
  unfold upn
  by_cases hi : i = l.length
  · subst hi
    rw [if_pos rfl]
    simp at he'
    subst he'
    exact own_kp2 ht hk (nt ht)
  · rw [if_neg hi]
    have hlt : i < l.length := by
      have h1 := (List.getElem?_eq_some_iff.1 he').1
      rw [List.length_append, List.length_singleton] at h1
      omega
    rw [List.getElem?_append_left hlt] at he'
    exact own_kp2 (h.txt i e' he') hk (nt (h.txt i e' he'))
end
/-- one visit, the first -/
theorem Va.begin (w : World) : Va w (w.alloc (.cells #[.int .i64 0, .int .i64 0, .slice none 0 0] 105)) (.slice (some ⟨w.heap.size, 0, none⟩) 1 1) [v0] (fun _ => .slice none 0 0) :=
  ⟨⟨rfl, .inr ⟨w.heap.size, 1, #[.int .i64 0, .int .i64 0, .slice none 0 0], rfl, Nat.le_refl _, heap_alloc_new _ _, Nat.le_refl _, by unfold maxLen; omega, rfl, by simp [xcs, gl, xg, v0, enc, List.range_succ]⟩⟩, fun i e he => by
    cases i with
    | zero => simp at he; subst he; exact World.ownsRow_nil _ _ _ _
    | succ i => simp at he, below_al _ _⟩
/-- texts are no longer than their place -/
theorem bf_txt (T U : Tb) (z : Bool) : ∀ (k i : Nat) (e : Vis), (bf T U z k)[i]? = some e → e.2.length ≤ k := by
  intro k
  induction k with
  | zero =>
    intro i e he
    cases i with
    | zero => simp [bf] at he; subst he; exact Nat.le_refl _
    | succ i => simp [bf] at he
  | succ k ih =>
    have hp : ((bf T U z k).getD k v0).2.length ≤ k := by
      rw [List.getD_eq_getElem?_getD]
      cases h : (bf T U z k)[k]? with
      | none => exact Nat.zero_le _
      | some x => exact ih k x h
    have key : ∀ (c i : Nat) (e : Vis), (br T U z ((bf T U z k).getD k v0) (bf T U z k) c)[i]? = some e → e.2.length ≤ k + 1 := by
      intro c
      induction c with
      | zero => intro i e he; exact Nat.le_succ_of_le (ih i e he)
      | succ c ihc =>
        intro i e he
        rw [br_up] at he
        unfold bs at he
        split at he
        · exact ihc i e he
        · by_cases hi : i < (br T U z ((bf T U z k).getD k v0) (bf T U z k) c).length
          · rw [List.getElem?_append_left hi] at he
            exact ihc i e he
          · have h1 := (List.getElem?_eq_some_iff.1 he).1
            rw [List.length_append, List.length_singleton] at h1
            obtain rfl : i = (br T U z ((bf T U z k).getD k v0) (bf T U z k) c).length := by omega
            simp at he
            rw [← he]
            simp
            exact hp
    intro i e he
    rw [bf_up] at he
    exact key 60 i e he
end Go.Proofs.YtfjocafepigijaaDoor.Su
/- The document's Apart (25), in parts: a table to be read; what one step of the search says. Conditions: few rows. -/
namespace Go.Proofs.YtfjocafepigijaaDoor.Su
open Go.RowKit Mv Po Ps Cm Ra Ot Pa

/-- a table of the document, to be read: p its box -/
structure Rt9 (W : World) (T : Tb) (n p tb ct fb cf : Nat) : Prop where
  box : W.heap[p]? = some (.cells #[.slice (some ⟨tb, 0, none⟩) n ct, .slice (some ⟨fb, 0, none⟩) n cf] 97 (0, 0))
  fin : ∀ i, i < n → W.cell? ⟨fb, i, none⟩ = some (.bool (T.fin i))
  to_ : ∀ i c, i < n → 1 ≤ c → c ≤ 60 → ∃ rb rc, W.cell? ⟨tb, i, none⟩ = some (.slice (some ⟨rb, 0, none⟩) 61 rc) ∧ W.cell? ⟨rb, c, none⟩ = some (.int .i64 (enc (T.to i c)))
theorem Rt9.below {W W' : World} {T : Tb} {n p tb ct fb cf : Nat} (h : Rt9 W T n p tb ct fb cf) (hb : Below W.heap.size W W') : Rt9 W' T n p tb ct fb cf :=
  ⟨(hb.block _ (lt_at h.box)).trans h.box, fun i hi => (hb.cell (World.block_lt_of_cell? _ _ (h.fin i hi))).trans (h.fin i hi), fun i c hi h1 h2 => by
    obtain ⟨rb, rc, h3, h4⟩ := h.to_ i c hi h1 h2
    exact ⟨rb, rc, (hb.cell (World.block_lt_of_cell? _ _ h3)).trans h3, (hb.cell (World.block_lt_of_cell? _ _ h4)).trans h4⟩⟩
theorem Rt9.of {W : World} {base n p : Nat} {at_ af_ : Option Addr} {ct cf : Nat} {tos : List (List (Option Nat))} {fins : List Bool} (h : Tl W base (.slice at_ n ct) (.slice af_ n cf) tos fins) (hp : W.heap[p]? = some (.cells #[.slice at_ n ct, .slice af_ n cf] 97 (0, 0))) (ht : tos.length = n) (hf : fins.length = n) (h0 : 0 < n) : ∃ tb fb, at_ = some ⟨tb, 0, none⟩ ∧ af_ = some ⟨fb, 0, none⟩ ∧ Rt9 W (tbo tos fins) n p tb ct fb cf := by
  have h' := h
  rw [← ht] at h'
  obtain ⟨tb, rb0, rc0, rfl, _, _, _, _⟩ := h'.at (i := 0) (c := 1) (by omega) (by omega)
  obtain ⟨fb, rfl, _, _⟩ := h.finAt' hf h0
  refine ⟨tb, fb, rfl, rfl, hp, fun i hi => ?_, fun i c hi h1 h2 => ?_⟩
  · obtain ⟨fb', he, _, h3⟩ := h.finAt' hf hi
    cases he
    exact h3
  · obtain ⟨tb', rb, rc, he, _, _, h3, h4⟩ := h'.at (i := i) (c := c) (by omega) ⟨h1, h2⟩
    cases he
    exact ⟨rb, rc, h3, h4⟩
theorem hd_take {l : List Vis} {q : Duo} {i : Nat} {e : Vis} (he : l[i]? = some e) (h : hd true (l.take i) q = false) : hd true (l.take (i + 1)) q = decide (e.1 = q) := by
  obtain ⟨h1, h2⟩ := List.getElem?_eq_some_iff.1 he
  unfold hd at h ⊢
  rw [List.take_succ_eq_append_getElem h1, h2]
  have h3 : hasD (l.take i ++ [e]) q = (hasD (l.take i) q || decide (e.1 = q)) := by unfold hasD; simp
  rw [h3]
  simp only [Bool.or_eq_false_iff] at h
  rw [h.1, h.2]
  rfl
theorem hd_pre {l : List Vis} {q : Duo} {i : Nat} (h : hd true (l.take i) q = true) : hd true l q = true := by
  unfold hd at h ⊢
  rw [Bool.or_eq_true] at h ⊢
  refine h.imp id fun h => ?_
  obtain ⟨x, hx, h2⟩ := hasD_iff.1 h
  exact hasD_iff.2 ⟨x, List.mem_of_mem_take hx, h2⟩
theorem hd_zero (l : List Vis) (q : Duo) : hd true (l.take 0) q = decide (q = nn) := by unfold hd hasD; simp
/-- what the document's Apart hands back -/
def DaQ (S : Nat) (A : AL) (F : List (Int × Int)) (U : Nat) (B : AL) (H : List (Int × Int)) (w : World) (e : Ending) (w' : World) : Prop :=
  ∃ (v : Value) (b ok : Bool), e = .returned (.tuple #[v, .bool b, .bool ok]) ∧ Below w.heap.size w w' ∧ ((ok = false ∧ (Many S A ∨ Many U B) ∧ v = .slice none 0 0 ∧ b = false) ∨ (ok = true ∧ ∃ n m r, Done S A n ∧ Done U B m ∧ IsAp (tbl S A F n) (tbl U B H m) true r ∧ ((b = true ∧ ∃ t, r = some t ∧ w'.ownsRow w.heap.size 3 1 v t.length (ns t)) ∨ (b = false ∧ r = none ∧ v = .slice none 0 0))))
theorem inf105 : (Tryd.prog.info? 105).map (fun i => (i.zero, i.size, i.bytes)) = some (some (.agg #[.int .i64 0, .int .i64 0, .slice none 0 0]), 3, 40) := by kernel_rfl
theorem cell_three_new (w : World) (a b c : Value) (ty : TypeId) : ∀ j v, [a, b, c][j]? = some v → (w.alloc (.cells #[a, b, c] ty)).cell? ((⟨w.heap.size, 0, none⟩ : Addr).add j) = some v := by
  intro j v hj
  match j, hj with
  | 0, hj => simp at hj; subst hj; simp [Addr.add]
  | 1, hj => simp at hj; subst hj; simp [Addr.add]
  | 2, hj => simp at hj; subst hj; simp [Addr.add]
/-- TableOf, told in one, for a machine that is right -/
theorem tableOf_one (S : Nat) (A : AL) (F : List (Int × Int)) (aa af : Option Addr) (ca cf : Nat) (w : World) (hG : Gd S A) (hA : Mv.Row w (.slice aa A.length ca) 5 A.length (acs A)) (hF : Mv.Row w (.slice af F.length cf) 2 F.length (fcs F)) (hf : ∀ k (h : k < F.length), finB (S : Int) F[k] = true) :
    Calls Tryd.prog 51 #[.agg #[.int .i64 (S : Int), .slice aa A.length ca, .slice af F.length cf]] w fun e w' => ∃ (at_ : Option Addr) (nt ct : Nat) (af_ : Option Addr) (nf cf_ : Nat) (ok : Bool), e = .returned (.tuple #[.agg #[.slice at_ nt ct, .slice af_ nf cf_], .bool ok]) ∧ Below w.heap.size w w' ∧ ((ok = true ∧ ∃ tb fb, Done S A nt ∧ nf = nt ∧ at_ = some ⟨tb, 0, none⟩ ∧ af_ = some ⟨fb, 0, none⟩ ∧ ∀ W p, Below w'.heap.size w' W → W.heap[p]? = some (.cells #[.slice at_ nt ct, .slice af_ nf cf_] 97 (0, 0)) → Rt9 W (tbl S A F nt) nt p tb ct fb cf_) ∨ (ok = false ∧ Many S A)) :=
  (tableOf_any S A F aa af ca cf w hG hA hF hf).mono fun e w' h => by
    obtain ⟨at_, nt, ct, af_, nf, cf_, ok, h1, h2, h3⟩ := h
    refine ⟨at_, nt, ct, af_, nf, cf_, ok, h1, h2, ?_⟩
    rcases h3 with ⟨rfl, n, hD, hTl⟩ | ⟨rfl, hM⟩
    · left
      have hlt : (tab S A n).2.length = n := tab_len S A n
      have hlf : ((tab S A n).1.map (fi F)).length = n := by rw [List.length_map]; exact hD.len
      obtain ⟨_, _, e1⟩ := oslice hTl.rows.choose_spec.1
      rw [Value.slice.injEq, hlt] at e1
      obtain ⟨_, rfl, _⟩ := e1
      obtain ⟨_, _, e2⟩ := oslice hTl.fin
      rw [Value.slice.injEq, hlf] at e2
      obtain ⟨_, rfl, _⟩ := e2
      have h0 := done_pos hD
      have hTl' := hTl
      obtain ⟨tv, hr, _⟩ := hTl.rows
      obtain ⟨tb, _, e3, _, _⟩ := own_some hr (by rw [hlt]; exact h0)
      rw [Value.slice.injEq] at e3
      obtain ⟨rfl, _, _⟩ := e3
      obtain ⟨fb, rfl, _, _⟩ := hTl.finAt' hlf h0
      refine ⟨rfl, tb, fb, hD, rfl, rfl, rfl, fun W p hW hp => ?_⟩
      obtain ⟨tb', fb', e3, e4, h5⟩ := Rt9.of (hTl'.below hW) hp hlt hlf h0
      cases e3
      cases e4
      rw [← tbo_tbl]
      exact h5
    · exact .inr ⟨rfl, hM⟩
end Go.Proofs.YtfjocafepigijaaDoor.Su
/- The document's Apart (25): the first text that just one of two plain machines reads, or that there are too many sets. Condition: the machines are right. -/
namespace Go.Proofs.YtfjocafepigijaaDoor.Su
open Go.RowKit Go.Shelf Mv Po Ps Cm Ra Ot Pa

theorem own_empty (W : World) : (W.alloc (.cells #[] 3)).ownsRow W.heap.size 3 1 (.slice (some ⟨W.heap.size, 0, none⟩) 0 0) 0 [] :=
  ⟨rfl, .inr ⟨W.heap.size, 0, #[], rfl, Nat.le_refl _, heap_alloc_new _ _, Nat.le_refl _, by unfold maxLen; omega, rfl, by simp⟩⟩
set_option maxHeartbeats 8000000 in
set_option maxRecDepth 100000 in
theorem da_any (S U : Nat) (A B : AL) (F H : List (Int × Int)) (aa af ba bf' : Option Addr) (ca cf da df' : Nat) (w : World) (hG : Gd S A) (hG2 : Gd U B) (hA : Mv.Row w (.slice aa A.length ca) 5 A.length (acs A)) (hF : Mv.Row w (.slice af F.length cf) 2 F.length (fcs F)) (hB : Mv.Row w (.slice ba B.length da) 5 B.length (acs B)) (hH : Mv.Row w (.slice bf' H.length df') 2 H.length (fcs H)) (hf : ∀ k (h : k < F.length), finB (S : Int) F[k] = true) (hf2 : ∀ k (h : k < H.length), finB (U : Int) H[k] = true) :
    Calls Tryd.prog 25 #[.agg #[.int .i64 (S : Int), .slice aa A.length ca, .slice af F.length cf], .agg #[.int .i64 (U : Int), .slice ba B.length da, .slice bf' H.length df']] w (DaQ S A F U B H w) := by
  obtain ⟨i3, hi3, hx0, hx1, hx2⟩ := info_parts inf3'
  obtain ⟨i105, hi105, hz0, hz1, hz2⟩ := info_parts inf105
  obtain ⟨W0, hW0, B0, x1, x2⟩ := box25 w #[.int .i64 (S : Int), .slice aa A.length ca, .slice af F.length cf] #[.int .i64 (U : Int), .slice ba B.length da, .slice bf' H.length df']
  have b0 := cell_of_row _ _ 0 _ _ _ x1
  have b1 := cell_of_row _ _ 1 _ _ _ x1
  have b2 := cell_of_row _ _ 2 _ _ _ x1
  have K51 := tableOf_one S A F aa af ca cf W0 hG (hA.below B0) (hF.below B0) hf
  have HX0 : Hid (W0.heap[w.heap.size + 1]? = some (.cells #[.int .i64 (U : Int), .slice ba B.length da, .slice bf' H.length df'] 25 (0, 0)) ∧ Below w.heap.size w W0) := ⟨x2, B0⟩
  have HR : Hid (Mv.Row w (.slice ba B.length da) 5 B.length (acs B) ∧ Mv.Row w (.slice bf' H.length df') 2 H.length (fcs H) ∧ Gd U B ∧ ∀ k (h : k < H.length), finB (U : Int) H[k] = true) := ⟨hB, hH, hG2, hf2⟩
  clear hA hF hB hH hG hG2 hf hf2 x1 x2 B0
  go_enter Tryd.func25, Tryd.ntmps25
  go_upto_region 2 with (go_at_call 51; (with_reducible refine K51.mono ?_); clear K51; rintro e w1 ⟨at1, n1, ct1, af1, nf1, cf1, ok1, rfl, hb1, hor⟩; have HT1 : Hid (Below W0.heap.size W0 w1 ∧ ((ok1 = true ∧ ∃ tb fb, Done S A n1 ∧ nf1 = n1 ∧ at1 = some ⟨tb, 0, none⟩ ∧ af1 = some ⟨fb, 0, none⟩ ∧ ∀ W p, Below w1.heap.size w1 W → W.heap[p]? = some (.cells #[.slice at1 n1 ct1, .slice af1 nf1 cf1] 97 (0, 0)) → Rt9 W (tbl S A F n1) n1 p tb ct1 fb cf1) ∨ (ok1 = false ∧ Many S A))) := ⟨hb1, hor⟩; clear hb1 hor)
  clear b0 b1 b2 hW0
  have HW1 : Hid ((w1.alloc (.cells #[.slice at1 n1 ct1, .slice af1 nf1 cf1] 97)).heap[w1.heap.size]? = some (.cells #[.slice at1 n1 ct1, .slice af1 nf1 cf1] 97 (0, 0)) ∧ Below w1.heap.size w1 (w1.alloc (.cells #[.slice at1 n1 ct1, .slice af1 nf1 cf1] 97))) := ⟨heap_alloc_new _ _, below_al _ _⟩
  generalize w1.alloc (.cells #[.slice at1 n1 ct1, .slice af1 nf1 cf1] 97) = W1 at *
  have HB1 : Hid (Below w.heap.size w w1) := HX0.out.2.trans (HT1.out.1.mono HX0.out.2.size)
  have HX1 : Hid (W1.heap[w.heap.size + 1]? = some (.cells #[.int .i64 (U : Int), .slice ba B.length da, .slice bf' H.length df'] 25 (0, 0)) ∧ Below w.heap.size w W1) := ⟨(HW1.out.2.block _ (lt_at ((HT1.out.1.block _ (lt_at HX0.out.1)).trans HX0.out.1))).trans ((HT1.out.1.block _ (lt_at HX0.out.1)).trans HX0.out.1), HB1.out.trans (HW1.out.2.mono HB1.out.size)⟩
  obtain ⟨p7, hp7⟩ : ∃ p, w1.heap.size = p := ⟨_, rfl⟩
  have HP7 : Hid (W1.heap[p7]? = some (.cells #[.slice at1 n1 ct1, .slice af1 nf1 cf1] 97 (0, 0))) := by rw [← hp7]; exact HW1.out.1
  rw [hp7]
  clear hp7
  have b3 := cell_of_row _ _ 0 _ _ _ HX1.out.1
  have b4 := cell_of_row _ _ 1 _ _ _ HX1.out.1
  have b5 := cell_of_row _ _ 2 _ _ _ HX1.out.1
  have K52 := tableOf_one U B H ba bf' da df' W1 HR.out.2.2.1 (HR.out.1.below HX1.out.2) (HR.out.2.1.below HX1.out.2) HR.out.2.2.2
  go_upto_region 3 with (go_at_call 51; (with_reducible refine K52.mono ?_); clear K52; rintro e w2 ⟨at2, n2, ct2, af2, nf2, cf2, ok2, rfl, hb2, hor⟩; have HT2 : Hid (Below W1.heap.size W1 w2 ∧ ((ok2 = true ∧ ∃ tb fb, Done U B n2 ∧ nf2 = n2 ∧ at2 = some ⟨tb, 0, none⟩ ∧ af2 = some ⟨fb, 0, none⟩ ∧ ∀ W p, Below w2.heap.size w2 W → W.heap[p]? = some (.cells #[.slice at2 n2 ct2, .slice af2 nf2 cf2] 97 (0, 0)) → Rt9 W (tbl U B H n2) n2 p tb ct2 fb cf2) ∨ (ok2 = false ∧ Many U B))) := ⟨hb2, hor⟩; clear hb2 hor)
  clear b3 b4 b5
  have HW2 : Hid ((w2.alloc (.cells #[.slice at2 n2 ct2, .slice af2 nf2 cf2] 97)).heap[w2.heap.size]? = some (.cells #[.slice at2 n2 ct2, .slice af2 nf2 cf2] 97 (0, 0)) ∧ Below w2.heap.size w2 (w2.alloc (.cells #[.slice at2 n2 ct2, .slice af2 nf2 cf2] 97))) := ⟨heap_alloc_new _ _, below_al _ _⟩
  generalize w2.alloc (.cells #[.slice at2 n2 ct2, .slice af2 nf2 cf2] 97) = W2 at *
  have HB2 : Hid (Below w.heap.size w W2 ∧ W2.heap[p7]? = some (.cells #[.slice at1 n1 ct1, .slice af1 nf1 cf1] 97 (0, 0)) ∧ Below w1.heap.size w1 W2) := by
    have h1 := HX1.out.2.trans (HT2.out.1.mono HX1.out.2.size)
    have h2 := (HT2.out.1.block _ (lt_at HP7.out)).trans HP7.out
    have h3 := HW1.out.2.trans (HT2.out.1.mono HW1.out.2.size)
    exact ⟨h1.trans (HW2.out.2.mono h1.size), (HW2.out.2.block _ (lt_at h2)).trans h2, h3.trans (HW2.out.2.mono h3.size)⟩
  obtain ⟨p9, hp9⟩ : ∃ p, w2.heap.size = p := ⟨_, rfl⟩
  have HP9 : Hid (W2.heap[p9]? = some (.cells #[.slice at2 n2 ct2, .slice af2 nf2 cf2] 97 (0, 0))) := by rw [← hp9]; exact HW2.out.1
  rw [hp9]
  clear hp9
  cases ok1 with
  | false =>
    have HM : Hid (Many S A) := by
      rcases HT1.out.2 with ⟨h, _⟩ | ⟨_, h⟩
      · cases h
      · exact h
    go_wp2
    go_ret3
    exact ⟨_, false, false, rfl, HB2.out.1, .inl ⟨rfl, .inl HM.out, rfl, rfl⟩⟩
  | true =>
    cases ok2 with
    | false =>
      have HM : Hid (Many U B) := by
        rcases HT2.out.2 with ⟨h, _⟩ | ⟨_, h⟩
        · cases h
        · exact h
      go_wp2
      go_ret3
      exact ⟨_, false, false, rfl, HB2.out.1, .inl ⟨rfl, .inr HM.out, rfl, rfl⟩⟩
    | true =>
      obtain ⟨_, tb1, fb1, hD1, rfl, rfl, rfl, hr1⟩ := HT1.out.2.resolve_right (fun h => by cases h.1)
      obtain ⟨_, tb2, fb2, hD2, rfl, rfl, rfl, hr2⟩ := HT2.out.2.resolve_right (fun h => by cases h.1)
      have HD : Hid (Done S A nf1 ∧ Done U B nf2) := ⟨hD1, hD2⟩
      have HRT : Hid (∀ W, Below W2.heap.size W2 W → Rt9 W (tbl S A F nf1) nf1 p7 tb1 ct1 fb1 cf1 ∧ Rt9 W (tbl U B H nf2) nf2 p9 tb2 ct2 fb2 cf2) := fun W hW => ⟨(hr1 W2 p7 HB2.out.2.2 HB2.out.2.1).below hW, (hr2 W2 p9 HW2.out.2 HP9.out).below hW⟩
      have hn1 := hD1.few
      have hn2 := hD2.few
      have h01 := done_pos hD1
      have h02 := done_pos hD2
      clear hD1 hD2 hr1 hr2 HT1 HT2 HP7 HP9 HW1 HW2 HX1 HB1 HX0
      go_upto_region 6 with fail
      have HVA : Hid (Va W2 (W2.alloc (.cells #[.int .i64 0, .int .i64 0, .slice none 0 0] 105)) (.slice (some ⟨W2.heap.size, 0, none⟩) 1 1) [v0] (fun _ => .slice none 0 0)) := Va.begin W2
      generalize W2.alloc (.cells #[.int .i64 0, .int .i64 0, .slice none 0 0] 105) = W3 at *
      obtain ⟨v11, hv11⟩ : ∃ v, Value.slice (some ⟨W2.heap.size, 0, none⟩) 1 1 = v := ⟨_, rfl⟩
      rw [hv11] at HVA
      rw [hv11]
      clear hv11
      obtain ⟨T, hT⟩ : ∃ T, tbl S A F nf1 = T := ⟨_, rfl⟩
      obtain ⟨V, hV⟩ : ∃ V, tbl U B H nf2 = V := ⟨_, rfl⟩
      have HTV : Hid (tbl S A F nf1 = T ∧ tbl U B H nf2 = V ∧ T.n = nf1 ∧ V.n = nf2 ∧ T.Ok ∧ V.Ok) := ⟨hT, hV, by rw [← hT]; rfl, by rw [← hV]; rfl, by rw [← hT]; exact tbl_ok HD.out.1, by rw [← hV]; exact tbl_ok HD.out.2⟩
      rw [hT, hV] at HRT
      clear hT hV
      go_upto_region 7 with fail
      go_loopw [11, 12] (fun a b wr => ∃ (k : Nat) (vv : Value) (tv : Nat → Value), a = vv ∧ b = .int .i64 (k : Int) ∧ Va W2 wr vv (bf T V true k) tv ∧ BAt T V true k) (fun _ b _ => 300000 - (intOf b).toNat)
      case atStart => exact ⟨0, _, _, rfl, rfl, HVA.out, BAt.zero T V true⟩
      case round =>
        clear HVA
        obtain ⟨k, vv, tv, rfl, rfl, hva, hba⟩ := hrel
        obtain ⟨va, vc, rfl⟩ := oslice hva.row
        obtain ⟨l, hl⟩ : ∃ l, bf T V true k = l := ⟨_, rfl⟩
        obtain ⟨N, hN⟩ : ∃ n, l.length = n := ⟨_, rfl⟩
        rw [hl] at hva
        rw [hl, hN]
        have HDU : Hid (Dus T V l) := by rw [← hl]; exact bf_dus true HTV.out.2.2.2.2.1 HTV.out.2.2.2.2.2 (by rw [HTV.out.2.2.1]; exact h01) (by rw [HTV.out.2.2.2.1]; exact h02) k
        have hNb : N ≤ 251001 := by rw [← hN]; exact dus_few HDU.out HTV.out.2.2.1 HTV.out.2.2.2.1 hn1 hn2
        have HL : Hid (bf T V true k = l ∧ l.length = N) := ⟨hl, hN⟩
        have HBA : Hid (BAt T V true k) := hba
        have hkN : k ≤ N := by have h := hba.le; rw [hl, hN] at h; exact h
        rw [hN] at hva
        have HVA : Hid (Va W2 wr (.slice va N vc) l tv) := hva
        clear hl hN hva hba
        by_cases hlt : k < N
        · obtain ⟨e0, he0⟩ : ∃ e, l[k]? = some e := ⟨_, List.getElem?_eq_getElem (by rw [HL.out.2]; exact hlt)⟩
          obtain ⟨s1, s2, hs⟩ : ∃ a b, e0.1 = (a, b) := ⟨_, _, rfl⟩
          have HE : Hid (l[k]? = some e0 ∧ e0.1 = (s1, s2) ∧ e0.2.length ≤ k) := ⟨he0, hs, bf_txt T V true k k e0 (by rw [HL.out.1]; exact he0)⟩
          have hrow := HVA.out.row
          rw [HL.out.2] at hrow
          obtain ⟨vg, vc2, hve, _, _⟩ := own_some hrow (by omega)
          rw [Value.slice.injEq] at hve
          obtain ⟨rfl, _, rfl⟩ := hve
          have c0 := (hrow.cellAt (k * 3) (by omega)).trans (xcs_at he0).1
          have c1 := (hrow.cellAt (k * 3 + 1) (by omega)).trans (xcs_at he0).2.1
          have c2 := (hrow.cellAt (k * 3 + 2) (by omega)).trans (xcs_at he0).2.2
          rw [hs] at c0 c1
          dsimp only at c0 c1
          obtain ⟨i1, hi1⟩ : ∃ i, enc s1 = i := ⟨_, rfl⟩
          obtain ⟨i2, hi2⟩ : ∃ i, enc s2 = i := ⟨_, rfl⟩
          obtain ⟨ta, tc, htx⟩ := oslice (HVA.out.txt k e0 he0)
          obtain ⟨tl, htl⟩ : ∃ n, e0.2.length = n := ⟨_, rfl⟩
          rw [htl] at htx
          rw [hi1] at c0
          rw [hi2] at c1
          rw [htx] at c2
          have HI : Hid (enc s1 = i1 ∧ enc s2 = i2 ∧ tv k = .slice ta tl tc ∧ e0.2.length = tl) := ⟨hi1, hi2, htx, htl⟩
          have HS : Hid (InT nf1 s1 ∧ InT nf2 s2) := by
            have hm : e0 ∈ l := List.mem_of_getElem? he0
            have h1 := HDU.out.left e0 hm
            have h2 := HDU.out.right e0 hm
            rw [hs, HTV.out.2.2.1] at h1
            rw [hs, HTV.out.2.2.2.1] at h2
            exact ⟨h1, h2⟩
          clear he0 hs hrow hi1 hi2 htx htl
          go_upto_region 10 with fail
          clear c0 c1 c2
          have hx13 := heap_alloc_new wr (.cells #[.int .i64 i1, .int .i64 i2, .slice ta tl tc] 105)
          have HV1 : Hid (Va W2 (wr.alloc (.cells #[.int .i64 i1, .int .i64 i2, .slice ta tl tc] 105)) (.slice (some ⟨vg, 0, none⟩) N vc) l tv) := HVA.out.laid (below_al _ _)
          have HTA : Hid (Rt9 (wr.alloc (.cells #[.int .i64 i1, .int .i64 i2, .slice ta tl tc] 105)) T nf1 p7 tb1 ct1 fb1 cf1 ∧ Rt9 (wr.alloc (.cells #[.int .i64 i1, .int .i64 i2, .slice ta tl tc] 105)) V nf2 p9 tb2 ct2 fb2 cf2) := HRT.out _ HV1.out.below
          generalize hWA : wr.alloc (.cells #[.int .i64 i1, .int .i64 i2, .slice ta tl tc] 105) = WA at *
          obtain ⟨b13, hb13⟩ : ∃ b, wr.heap.size = b := ⟨_, rfl⟩
          rw [hb13] at hx13
          try rw [hb13]
          have HX13 : Hid (WA.heap[b13]? = some (.cells #[.int .i64 i1, .int .i64 i2, .slice ta tl tc] 105 (0, 0)) ∧ W2.heap.size ≤ b13 ∧ vg < b13) := ⟨hx13, by rw [← hb13]; exact HVA.out.below.size, by rw [← hb13]; exact (HVA.out.row.lt vg rfl).2⟩
          clear hb13 hWA HVA hx13
          obtain ⟨bd, hbd⟩ : ∃ b, df T V (s1, s2) = b := ⟨_, rfl⟩
          have HBD : Hid (df T V (s1, s2) = bd) := hbd
          clear hbd
          go_cut [68] from 46 to 68 (fun s wx => s = .bool bd ∧ Below WA.heap.size WA wx)
          case first =>
            have y0 := cell_of_row _ _ 0 _ _ _ HX13.out.1
            have y1 := cell_of_row _ _ 1 _ _ _ HX13.out.1
            have t1 := cell_of_row _ _ 1 _ _ _ HTA.out.1.box
            have t2 := cell_of_row _ _ 1 _ _ _ HTA.out.2.box
            have h1 : (s1 = none ∧ i1 = -1) ∨ ∃ (a : Nat) (x : Bool), s1 = some a ∧ i1 = (a : Int) ∧ a < nf1 ∧ T.fin a = x ∧ WA.cell? ⟨fb1, a, none⟩ = some (.bool x) := by
              cases s1 with
              | none => exact .inl ⟨rfl, HI.out.1.symm⟩
              | some a => exact .inr ⟨a, _, rfl, HI.out.1.symm, HS.out.1 a rfl, rfl, HTA.out.1.fin a (HS.out.1 a rfl)⟩
            have h2 : (s2 = none ∧ i2 = -1) ∨ ∃ (a : Nat) (x : Bool), s2 = some a ∧ i2 = (a : Int) ∧ a < nf2 ∧ V.fin a = x ∧ WA.cell? ⟨fb2, a, none⟩ = some (.bool x) := by
              cases s2 with
              | none => exact .inl ⟨rfl, HI.out.2.1.symm⟩
              | some a => exact .inr ⟨a, _, rfl, HI.out.2.1.symm, HS.out.2 a rfl, rfl, HTA.out.2.fin a (HS.out.2 a rfl)⟩
            clear HTA
            rcases h1 with ⟨rfl, rfl⟩ | ⟨a, x, rfl, rfl, ha, hx, u1⟩
            · rcases h2 with ⟨rfl, rfl⟩ | ⟨b, y, rfl, rfl, hb, hy, u2⟩
              · have HQ : Hid (bd = false) := HBD.out.symm
                go_wp2
                repeat (go_quiet (fail); go_wp2)
                go_meet
                exact ⟨by rw [HQ.out], by first | exact Below.refl _ _ | exact below_drewN (Below.refl _ _) _⟩
              · have HQ : Hid (bd = y) := by show _ = _; rw [← HBD.out]; unfold df Tb.fo; dsimp only; rw [hy]; cases y <;> rfl
                have hbi : (0 : Int) ≤ (b : Int) := by omega
                clear hy
                go_wp2
                repeat (go_quiet (fail); go_wp2)
                go_meet
                exact ⟨by rw [HQ.out], by first | exact Below.refl _ _ | exact below_drewN (Below.refl _ _) _⟩
            · rcases h2 with ⟨rfl, rfl⟩ | ⟨b, y, rfl, rfl, hb, hy, u2⟩
              · have HQ : Hid (bd = x) := by show _ = _; rw [← HBD.out]; unfold df Tb.fo; dsimp only; rw [hx]; cases x <;> rfl
                have hai : (0 : Int) ≤ (a : Int) := by omega
                clear hx
                go_wp2
                repeat (go_quiet (fail); go_wp2)
                go_meet
                exact ⟨by rw [HQ.out], by first | exact Below.refl _ _ | exact below_drewN (Below.refl _ _) _⟩
              · have HQ : Hid (bd = (x != y)) := by show _ = _; rw [← HBD.out]; unfold df Tb.fo; dsimp only; rw [hx, hy]
                have hai : (0 : Int) ≤ (a : Int) := by omega
                have hbi : (0 : Int) ≤ (b : Int) := by omega
                clear hx hy
                go_wp2
                repeat (go_quiet (fail); go_wp2)
                go_meet
                exact ⟨by rw [HQ.out]; rfl, by first | exact Below.refl _ _ | exact below_drewN (Below.refl _ _) _⟩
          case rest =>
          obtain ⟨rfl, hbc⟩ := hcut
          have HV2 : Hid (Va W2 wc (.slice (some ⟨vg, 0, none⟩) N vc) l tv) := HV1.out.laid hbc
          have HX13b : Hid (wc.heap[b13]? = some (.cells #[.int .i64 i1, .int .i64 i2, .slice ta tl tc] 105 (0, 0))) := (hbc.block _ (lt_at HX13.out.1)).trans HX13.out.1
          clear hbc HV1 HTA
          cases bd with
          | true =>
            have HAP : Hid (IsAp T V true (some e0.2)) := ⟨k, HBA.out, .inl ⟨e0, by rw [HL.out.1]; exact HE.out.1, by rw [HE.out.2.1]; exact HBD.out, rfl⟩⟩
            have y2 := cell_of_row _ _ 2 _ _ _ HX13b.out
            have HTX : Hid (wc.ownsRow W2.heap.size 3 1 (.slice ta tl tc) e0.2.length (ns e0.2)) := by have h := HV2.out.txt k e0 HE.out.1; rw [HI.out.2.2.1] at h; exact h
            go_wp2
            go_ret3
            exact ⟨.slice ta tl tc, true, true, rfl, HB2.out.1.trans (HV2.out.below.mono HB2.out.1.size), .inr ⟨rfl, nf1, nf2, some e0.2, HD.out.1, HD.out.2, by rw [HTV.out.1, HTV.out.2.1]; exact HAP.out, .inl ⟨rfl, e0.2, rfl, own_le HTX.out HB2.out.1.size⟩⟩⟩
          | false =>
            have HBU : Hid (BAt T V true (k + 1)) := HBA.out.up (e := e0) (by rw [HL.out.1]; exact HE.out.1) (by rw [HE.out.2.1]; exact HBD.out)
            have HTX : Hid (wc.ownsRow W2.heap.size 3 1 (.slice ta tl tc) tl (ns e0.2)) := by have h := HV2.out.txt k e0 HE.out.1; rw [HI.out.2.2.1, HI.out.2.2.2] at h; exact h
            have htlb : tl ≤ 251001 := by have h := HE.out.2.2; rw [HI.out.2.2.2] at h; omega
            go_upto_region 13 with fail
            go_loopw [11, 14] (fun a b wx => ∃ (cc y : Nat) (vv : Value) (tv : Nat → Value), a = vv ∧ b = .int .i64 (cc : Int) ∧ cc = y + 1 ∧ y ≤ 60 ∧ Va W2 wx vv (br T V true e0 l y) tv ∧ wx.heap[b13]? = some (.cells #[.int .i64 i1, .int .i64 i2, .slice ta tl tc] 105 (0, 0)) ∧ wx.ownsRow W2.heap.size 3 1 (.slice ta tl tc) tl (ns e0.2) ∧ ∀ b, vv.ownBlock = some b → b ≠ b13) (fun _ b _ => 62 - (intOf b).toNat)
            case atStart => exact ⟨1, 0, _, tv, rfl, rfl, rfl, by omega, HV2.out, HX13b.out, HTX.out, fun b hb e => by have hb2 : some vg = some b := hb; cases hb2; have := HX13.out.2.2; omega⟩
            case round =>
              clear HV2 HX13b HTX
              obtain ⟨cc, y, vv2, tv2, rfl, rfl, hcc, hy, hva2, hx13, htx, hnb⟩ := hrel
              obtain ⟨va2, vc2, rfl⟩ := oslice hva2.row
              obtain ⟨l2, hl2⟩ : ∃ l2, br T V true e0 l y = l2 := ⟨_, rfl⟩
              obtain ⟨N2, hN2⟩ : ∃ n, l2.length = n := ⟨_, rfl⟩
              rw [hl2] at hva2
              rw [hl2, hN2]
              have hN2b : N2 ≤ 251001 := by
                rw [← hN2, ← hl2, ← HL.out.1]
                have hd := bf_dus true HTV.out.2.2.2.2.1 HTV.out.2.2.2.2.2 (by rw [HTV.out.2.2.1]; exact h01) (by rw [HTV.out.2.2.2.1]; exact h02) k
                have hm : e0 ∈ bf T V true k := by rw [HL.out.1]; exact List.mem_of_getElem? HE.out.1
                exact dus_few (hd.br HTV.out.2.2.2.2.1 HTV.out.2.2.2.2.2 (hd.left e0 hm) (hd.right e0 hm) y) HTV.out.2.2.1 HTV.out.2.2.2.1 hn1 hn2
              rw [hN2] at hva2
              have HL2 : Hid (br T V true e0 l y = l2 ∧ l2.length = N2) := ⟨hl2, hN2⟩
              have HV3 : Hid (Va W2 wr (.slice va2 N2 vc2) l2 tv2) := hva2
              have HX13c : Hid (wr.heap[b13]? = some (.cells #[.int .i64 i1, .int .i64 i2, .slice ta tl tc] 105 (0, 0))) := hx13
              have HTX : Hid (wr.ownsRow W2.heap.size 3 1 (.slice ta tl tc) tl (ns e0.2)) := htx
              have HCC : Hid (cc = y + 1) := hcc
              have HNB : Hid (∀ b, (Value.slice va2 N2 vc2).ownBlock = some b → b ≠ b13) := by have h := hnb; rw [hl2, hN2] at h; exact h
              clear hl2 hN2 hva2 hx13 htx hnb
              by_cases hly : y < 60
              · have hcc60 : (cc : Int) ≤ 60 := by omega
                have hlt13 : b13 < wr.heap.size := lt_at HX13c.out
                have y2 := cell_of_row _ _ 2 _ _ _ HX13c.out
                have y2' : ∀ o : Obj, (wr.alloc o).cell? ⟨b13, 2, none⟩ = some (.slice ta tl tc) := fun o => by rw [World.cell?_alloc_past _ _ _ hlt13]; exact y2
                clear hcc
                have hc1 : 1 ≤ cc := by have := HCC.out; omega
                have hc2 : cc ≤ 60 := by omega
                obtain ⟨j1, hj1⟩ : ∃ j, enc (T.st s1 cc) = j := ⟨_, rfl⟩
                obtain ⟨j2, hj2⟩ : ∃ j, enc (V.st s2 cc) = j := ⟨_, rfl⟩
                have HJ : Hid (enc (T.st s1 cc) = j1 ∧ enc (V.st s2 cc) = j2) := ⟨hj1, hj2⟩
                clear hj1 hj2
                go_upto_region 15 with fail
                go_cut [15] from 75 to 82 (fun s wx => ∃ b15 g8 c8, s = .pointer (some ⟨b15, 0, none⟩) ∧ wx.heap[b15]? = some (.cells #[.int .i64 (-1), .int .i64 (-1), .slice (some ⟨g8, 0, none⟩) (tl + 1) c8] 105 (0, 0)) ∧ wx.ownsRow wr.heap.size 3 1 (.slice (some ⟨g8, 0, none⟩) (tl + 1) c8) (tl + 1) (ns (e0.2 ++ [cc])) ∧ Below wr.heap.size wr wx ∧ wr.heap.size ≤ b15)
                case first =>
                  have HE0 : Hid ((wr.alloc (.cells #[] 3)).ownsRow wr.heap.size 3 1 (.slice (some ⟨wr.heap.size, 0, none⟩) 0 0) 0 [] ∧ Below wr.heap.size wr (wr.alloc (.cells #[] 3)) ∧ (wr.alloc (.cells #[] 3)).ownsRow W2.heap.size 3 1 (.slice ta tl tc) e0.2.length (ns e0.2)) := ⟨own_empty wr, below_al _ _, by rw [HI.out.2.2.2]; exact HTX.out.alloc _⟩
                  have hs15 : Sem.run Tryd.prog (storeCells { block := wr.heap.size, off := 0 } ([] : List Value)) (wr.alloc (.cells #[] 3)) = .ok () (wr.alloc (.cells #[] 3)) := rfl
                  have htl : e0.2.length = tl := HI.out.2.2.2
                  go_wp2_with (first
                    | (refine wpList_txt rfl (.tmp 75) (.tmp 77) rfl rfl wr.heap.size (.slice (some ⟨wr.heap.size, 0, none⟩) 0 0) 0 [] rfl HE0.out.1 W2.heap.size (.slice ta tl tc) e0.2 rfl HE0.out.2.2 (by omega) HE0.out.2.1.size ?_; intro v6 w6 ho6 hg6 hl6; rw [List.nil_append, Nat.zero_add, htl] at ho6; obtain ⟨a6, c6, rfl⟩ := oslice ho6; have HO6 : Hid (w6.ownsRow wr.heap.size 3 1 (.slice a6 tl c6) tl (ns e0.2) ∧ Below wr.heap.size wr w6) := ⟨ho6, HE0.out.2.1.grown hg6 HE0.out.2.1.size (fun b hb => by have hb2 : some wr.heap.size = some b := hb; cases hb2; exact Nat.le_refl _)⟩; clear ho6 hg6 hl6)
                    | (refine wpList_append_own_at _ rfl _ _ 26 rfl wr.heap.size 3 i3 (.int .i64 0) 1 8 Tryd.underlying26 hi3 hx0 hx1 hx2 rfl (by decide) _ _ _ rfl (HO6.out.1.alloc _) ⟨_, 0, none⟩ 1 1 [.int .i64 (cc : Int)] rfl rfl (cell_one_new _ _ _) (sl_one _ rfl) (by unfold maxLen; omega) (by omega) (by have h := HO6.out.2.size; simp; omega) ?_; intro v8 w8 ho8 hg8 _ hl8; obtain ⟨g8, c8, rfl, _, _⟩ := own_some ho8 (Nat.succ_pos _); have HR8 : Hid (w8.ownsRow wr.heap.size 3 1 (.slice (some ⟨g8, 0, none⟩) (tl + 1) c8) (tl + 1) (ns (e0.2 ++ [cc])) ∧ Below wr.heap.size wr w8) := ⟨by rw [show ns (e0.2 ++ [cc]) = ns e0.2 ++ [.int .i64 (cc : Int)] by simp [ns]]; exact ho8, (HO6.out.2.alloc HO6.out.2.size _).grown hg8 (HO6.out.2.alloc HO6.out.2.size _).size (fun b hb => (HO6.out.1.lt b hb).1)⟩; clear ho8 hg8 hl8))
                  go_meet
                  exact ⟨_, g8, c8, rfl, heap_alloc_new _ _, HR8.out.1.alloc _, HR8.out.2.alloc HR8.out.2.size _, HR8.out.2.size⟩
                case rest =>
                obtain ⟨b15, g8, c8, rfl, hx15, hr8, hbc, hge⟩ := hcut
                have HP15 : Hid (wc.heap[b15]? = some (.cells #[.int .i64 (-1), .int .i64 (-1), .slice (some ⟨g8, 0, none⟩) (tl + 1) c8] 105 (0, 0)) ∧ wc.ownsRow wr.heap.size 3 1 (.slice (some ⟨g8, 0, none⟩) (tl + 1) c8) (tl + 1) (ns (e0.2 ++ [cc])) ∧ Below wr.heap.size wr wc ∧ wr.heap.size ≤ b15) := ⟨hx15, hr8, hbc, hge⟩
                clear hx15 hr8 hbc hge y2 y2'
                go_step
                go_step
                go_cut [15] from 83 to 94 (fun s wx => s = .pointer (some ⟨b15, 0, none⟩) ∧ wx.heap[b15]? = some (.cells #[.int .i64 j1, .int .i64 (-1), .slice (some ⟨g8, 0, none⟩) (tl + 1) c8] 105 (0, 0)) ∧ Kp (fun b => b = b15) wc wx)
                case first =>
                  have y0 := cell_of_row _ _ 0 _ _ _ ((HP15.out.2.2.1.block _ (lt_at HX13c.out)).trans HX13c.out)
                  cases s1 with
                  | none =>
                    obtain rfl : i1 = -1 := HI.out.1.symm
                    obtain rfl : j1 = -1 := HJ.out.1.symm
                    go_wp2_with fail
                    go_meet
                    exact ⟨rfl, HP15.out.1, Kp.refl _ _⟩
                  | some a =>
                    obtain rfl : i1 = (a : Int) := HI.out.1.symm
                    have hai : (0 : Int) ≤ (a : Int) := by omega
                    have ha : a < nf1 := HS.out.1 a rfl
                    have hrt := (HRT.out _ (HV3.out.laid HP15.out.2.2.1).below).1
                    have t0 := cell_of_row _ _ 0 _ _ _ hrt.box
                    obtain ⟨rb, rc, u3, u4⟩ := hrt.to_ a cc ha hc1 hc2
                    rw [show enc (T.to a cc) = j1 from HJ.out.1] at u4
                    have r0 := cell_of_row _ _ 0 _ _ _ HP15.out.1
                    have r1 := frozen_of_row _ _ 0 _ _ HP15.out.1
                    clear hrt
                    go_wp2_with fail
                    go_meet
                    exact ⟨rfl, heap_setCell_same _ b15 0 _ 105 _ HP15.out.1, (Kp.refl (fun b => b = b15) _).setCell b15 _ _ (fun _ => rfl)⟩
                case rest =>
                obtain ⟨rfl, hx16, hk16⟩ := hcut
                have HP16 : Hid (wc.heap[b15]? = some (.cells #[.int .i64 j1, .int .i64 (-1), .slice (some ⟨g8, 0, none⟩) (tl + 1) c8] 105 (0, 0)) ∧ wc.ownsRow wr.heap.size 3 1 (.slice (some ⟨g8, 0, none⟩) (tl + 1) c8) (tl + 1) (ns (e0.2 ++ [cc])) ∧ Below wr.heap.size wr wc ∧ wr.heap.size ≤ b15) := ⟨hx16, own_kp2 HP15.out.2.1 hk16 (fun b hb e => by obtain ⟨d, hd⟩ := own_ty HP15.out.2.1 hb; have e2 : b = b15 := e; subst e2; exact ty_ne hd HP15.out.1 (by decide)), below_kp HP15.out.2.2.1 hk16 (fun b hb e => by have e2 : b = b15 := e; have := HP15.out.2.2.2; omega), HP15.out.2.2.2⟩
                clear hx16 hk16 HP15
                go_step
                go_step
                go_cut [15] from 96 to 108 (fun s wx => s = .pointer (some ⟨b15, 0, none⟩) ∧ wx.heap[b15]? = some (.cells #[.int .i64 j1, .int .i64 j2, .slice (some ⟨g8, 0, none⟩) (tl + 1) c8] 105 (0, 0)) ∧ Kp (fun b => b = b15) wc wx)
                case first =>
                  have y0 := cell_of_row _ _ 1 _ _ _ ((HP16.out.2.2.1.block _ (lt_at HX13c.out)).trans HX13c.out)
                  cases s2 with
                  | none =>
                    obtain rfl : i2 = -1 := HI.out.2.1.symm
                    obtain rfl : j2 = -1 := HJ.out.2.symm
                    go_wp2_with fail
                    go_meet
                    exact ⟨rfl, HP16.out.1, Kp.refl _ _⟩
                  | some a =>
                    obtain rfl : i2 = (a : Int) := HI.out.2.1.symm
                    have hai : (0 : Int) ≤ (a : Int) := by omega
                    have ha : a < nf2 := HS.out.2 a rfl
                    have hrt := (HRT.out _ (HV3.out.laid HP16.out.2.2.1).below).2
                    have t0 := cell_of_row _ _ 0 _ _ _ hrt.box
                    obtain ⟨rb, rc, u3, u4⟩ := hrt.to_ a cc ha hc1 hc2
                    rw [show enc (V.to a cc) = j2 from HJ.out.2] at u4
                    have r0 := cell_of_row _ _ 1 _ _ _ HP16.out.1
                    have r1 := frozen_of_row _ _ 1 _ _ HP16.out.1
                    clear hrt
                    go_wp2_with fail
                    go_meet
                    exact ⟨rfl, heap_setCell_same _ b15 1 _ 105 _ HP16.out.1, (Kp.refl (fun b => b = b15) _).setCell b15 _ _ (fun _ => rfl)⟩
                case rest =>
                obtain ⟨rfl, hx17, hk17⟩ := hcut
                have HP17 : Hid (wc.heap[b15]? = some (.cells #[.int .i64 j1, .int .i64 j2, .slice (some ⟨g8, 0, none⟩) (tl + 1) c8] 105 (0, 0)) ∧ wc.ownsRow wr.heap.size 3 1 (.slice (some ⟨g8, 0, none⟩) (tl + 1) c8) (tl + 1) (ns (e0.2 ++ [cc])) ∧ Below wr.heap.size wr wc) := ⟨hx17, own_kp2 HP16.out.2.1 hk17 (fun b hb e => by obtain ⟨d, hd⟩ := own_ty HP16.out.2.1 hb; have e2 : b = b15 := e; subst e2; exact ty_ne hd HP16.out.1 (by decide)), below_kp HP16.out.2.2.1 hk17 (fun b hb e => by have e2 : b = b15 := e; have := HP16.out.2.2.2; omega)⟩
                clear hx17 hk17 HP16
                have HV4 : Hid (Va W2 wc (.slice va2 N2 vc2) l2 tv2) := HV3.out.laid HP17.out.2.2
                have HX13d : Hid (wc.heap[b13]? = some (.cells #[.int .i64 i1, .int .i64 i2, .slice ta tl tc] 105 (0, 0)) ∧ wc.ownsRow W2.heap.size 3 1 (.slice ta tl tc) tl (ns e0.2)) := ⟨(HP17.out.2.2.block _ (lt_at HX13c.out)).trans HX13c.out, own_kp2 HTX.out (kp_below HP17.out.2.2 (fun _ => False)) (fun _ _ => id)⟩
                have HTN : Hid (wc.ownsRow W2.heap.size 3 1 (.slice (some ⟨g8, 0, none⟩) (tl + 1) c8) (tl + 1) (ns (e0.2 ++ [cc]))) := own_le HP17.out.2.1 HV3.out.below.size
                obtain ⟨q, hq⟩ : ∃ q, dst T V e0.1 cc = q := ⟨_, rfl⟩
                have HQQ : Hid (dst T V e0.1 cc = q ∧ q = (T.st s1 cc, V.st s2 cc)) := ⟨hq, by rw [← hq, HE.out.2.1]; rfl⟩
                obtain ⟨qb, hqb⟩ : ∃ b, decide (q = nn) = b := ⟨_, rfl⟩
                have HQB : Hid (decide (q = nn) = qb) := hqb
                clear hq hqb HX13c HTX HV3 hlt13
                go_upto_region 20 with fail
                go_cut [16] from 109 to 116 (fun s wx => s = .bool qb ∧ wx = wc)
                case first =>
                  have y0 := cell_of_row _ _ 0 _ _ _ HP17.out.1
                  have y1 := cell_of_row _ _ 1 _ _ _ HP17.out.1
                  have h1 : (T.st s1 cc = none ∧ j1 = -1) ∨ ∃ a : Nat, T.st s1 cc = some a ∧ j1 = (a : Int) := by
                    rw [← HJ.out.1]
                    cases T.st s1 cc with
                    | none => exact .inl ⟨rfl, rfl⟩
                    | some a => exact .inr ⟨a, rfl, rfl⟩
                  have h2 : (V.st s2 cc = none ∧ j2 = -1) ∨ ∃ a : Nat, V.st s2 cc = some a ∧ j2 = (a : Int) := by
                    rw [← HJ.out.2]
                    cases V.st s2 cc with
                    | none => exact .inl ⟨rfl, rfl⟩
                    | some a => exact .inr ⟨a, rfl, rfl⟩
                  rcases h1 with ⟨h1, rfl⟩ | ⟨a, h1, rfl⟩
                  · rcases h2 with ⟨h2, rfl⟩ | ⟨b, h2, rfl⟩
                    · have HF : Hid (qb = true) := by show _ = _; rw [← HQB.out, HQQ.out.2, h1, h2]; rfl
                      clear h1 h2
                      go_wp2_with fail
                      go_meet
                      exact ⟨by rw [HF.out], rfl⟩
                    · have HF : Hid (qb = false) := by show _ = _; rw [← HQB.out, HQQ.out.2, h1, h2]; rfl
                      have hbi : ¬ (b : Int) < 0 := by omega
                      clear h1 h2
                      go_wp2_with fail
                      go_meet
                      exact ⟨by rw [HF.out], rfl⟩
                  · have HF : Hid (qb = false) := by
                      show _ = _
                      rw [← HQB.out, HQQ.out.2, h1]
                      rfl
                    have hai : ¬ (a : Int) < 0 := by omega
                    clear h1 h2
                    go_wp2_with fail
                    go_meet
                    exact ⟨by rw [HF.out], rfl⟩
                case rest =>
                obtain ⟨rfl, rfl⟩ := hcut
                go_upto_region 22 with fail
                go_loopw [16, 17] (fun a b wx => ∃ (i : Nat), a = .bool (hd true (l2.take i) q) ∧ b = .int .i64 (i : Int) ∧ i ≤ N2 ∧ Below wc.heap.size wc wx) (fun _ b _ => N2 - (intOf b).toNat)
                case atStart => exact ⟨0, by rw [hd_zero, HQB.out], rfl, Nat.zero_le _, Below.refl _ _⟩
                case round =>
                  obtain ⟨i, rfl, rfl, hi, hbi⟩ := hrel
                  have HBI : Hid (Below wc.heap.size wc wr) := hbi
                  obtain ⟨hb, hhb⟩ : ∃ b, hd true (l2.take i) q = b := ⟨_, rfl⟩
                  have HHB : Hid (hd true (l2.take i) q = hb) := hhb
                  rw [hhb]
                  clear hhb hbi
                  have HV5 : Hid (Va W2 wr (.slice va2 N2 vc2) l2 tv2) := HV4.out.laid HBI.out
                  by_cases hlt2 : i < N2
                  · cases hb with
                    | true =>
                      have HHT : Hid (hd true l2 q = true) := hd_pre HHB.out
                      have HOL : Hid (br T V true e0 l (y + 1) = l2) := by
                        show _ = _
                        rw [br_up, HL2.out.1, ← HCC.out]
                        unfold bs
                        rw [HQQ.out.1, if_pos HHT.out]
                      go_wp2
                      go_roundw
                      case rel => exact ⟨cc + 1, y + 1, _, tv2, rfl, by go_num, by rw [HCC.out], hly, by rw [HOL.out]; exact HV5.out, (HBI.out.block _ (lt_at HX13d.out.1)).trans HX13d.out.1, own_kp2 HX13d.out.2 (kp_below HBI.out (fun _ => False)) (fun _ _ => id), HNB.out⟩
                      case measure => simp [intOf]; omega
                    | false =>
                      obtain ⟨ei, hei⟩ : ∃ e, l2[i]? = some e := ⟨_, List.getElem?_eq_getElem (by rw [HL2.out.2]; exact hlt2)⟩
                      have hrow := HV5.out.row
                      rw [HL2.out.2] at hrow
                      obtain ⟨vg2, vc3, hve, _, _⟩ := own_some hrow (by omega)
                      rw [Value.slice.injEq] at hve
                      obtain ⟨rfl, _, rfl⟩ := hve
                      obtain ⟨k1, hk1⟩ : ∃ k, enc ei.1.1 = k := ⟨_, rfl⟩
                      obtain ⟨k2, hk2⟩ : ∃ k, enc ei.1.2 = k := ⟨_, rfl⟩
                      have u0 := (hrow.cellAt (i * 3) (by omega)).trans (xcs_at hei).1
                      have u1 := (hrow.cellAt (i * 3 + 1) (by omega)).trans (xcs_at hei).2.1
                      rw [hk1] at u0
                      rw [hk2] at u1
                      have x15 := (HBI.out.block _ (lt_at HP17.out.1)).trans HP17.out.1
                      have y0 := cell_of_row _ _ 0 _ _ _ x15
                      have y1 := cell_of_row _ _ 1 _ _ _ x15
                      obtain ⟨db, hdb⟩ : ∃ b, decide (ei.1 = q) = b := ⟨_, rfl⟩
                      have HDB : Hid (decide (ei.1 = q) = db ∧ l2[i]? = some ei ∧ enc ei.1.1 = k1 ∧ enc ei.1.2 = k2) := ⟨hdb, hei, hk1, hk2⟩
                      have HKQ : Hid (dk q = (j1, j2)) := by show _ = _; rw [HQQ.out.2]; show (enc (T.st s1 cc), enc (V.st s2 cc)) = _; rw [HJ.out.1, HJ.out.2]
                      clear hei hrow hk1 hk2 hdb x15
                      by_cases g1 : k1 = j1
                      · by_cases g2 : k2 = j2
                        · have HF : Hid (db = true) := by
                            show _ = _
                            rw [← HDB.out.1]
                            refine decide_eq_true (dk_inj ?_)
                            rw [HKQ.out]
                            show (enc ei.1.1, enc ei.1.2) = _
                            rw [HDB.out.2.2.1, HDB.out.2.2.2, g1, g2]
                          have q1 : (k1 == j1) = true := by simpa using g1
                          have q2 : (k2 == j2) = true := by simpa using g2
                          clear g1 g2
                          go_wp2
                          repeat (go_quiet (fail); go_wp2)
                          go_roundw
                          case rel => exact ⟨i + 1, by rw [hd_take HDB.out.2.1 HHB.out, HDB.out.1, HF.out], by go_num, hlt2, by first | exact HBI.out | exact HBI.out.trans ((below_drewN (Below.refl _ _) _).mono HBI.out.size)⟩
                          case measure => simp [intOf]; omega
                        · have HF : Hid (db = false) := by
                            show _ = _
                            rw [← HDB.out.1]
                            refine decide_eq_false (fun e => g2 ?_)
                            have h := HKQ.out
                            rw [← e] at h
                            have h2 : enc ei.1.2 = j2 := congrArg Prod.snd h
                            rw [← HDB.out.2.2.2, h2]
                          have q2 : (k2 == j2) = false := by simpa using g2
                          have q1 : (k1 == j1) = true := by simpa using g1
                          clear g1 g2
                          go_wp2
                          repeat (go_quiet (fail); go_wp2)
                          go_roundw
                          case rel => exact ⟨i + 1, by rw [hd_take HDB.out.2.1 HHB.out, HDB.out.1, HF.out], by go_num, hlt2, by first | exact HBI.out | exact HBI.out.trans ((below_drewN (Below.refl _ _) _).mono HBI.out.size)⟩
                          case measure => simp [intOf]; omega
                      · have HF : Hid (db = false) := by
                          show _ = _
                          rw [← HDB.out.1]
                          refine decide_eq_false (fun e => g1 ?_)
                          have h := HKQ.out
                          rw [← e] at h
                          have h2 : enc ei.1.1 = j1 := congrArg Prod.fst h
                          rw [← HDB.out.2.2.1, h2]
                        have q1 : (k1 == j1) = false := by simpa using g1
                        clear g1
                        go_wp2
                        repeat (go_quiet (fail); go_wp2)
                        go_roundw
                        case rel => exact ⟨i + 1, by rw [hd_take HDB.out.2.1 HHB.out, HDB.out.1, HF.out], by go_num, hlt2, by first | exact HBI.out | exact HBI.out.trans ((below_drewN (Below.refl _ _) _).mono HBI.out.size)⟩
                        case measure => simp [intOf]; omega
                  · obtain rfl : i = N2 := by omega
                    have HTK : Hid (hd true l2 q = hb) := by have h := HHB.out; rw [List.take_of_length_le (by rw [HL2.out.2]; exact Nat.le_refl _)] at h; exact h
                    cases hb with
                    | true =>
                      have HHT : Hid (hd true l2 q = true) := HTK.out
                      have HOL : Hid (br T V true e0 l (y + 1) = l2) := by
                        show _ = _
                        rw [br_up, HL2.out.1, ← HCC.out]
                        unfold bs
                        rw [HQQ.out.1, if_pos HHT.out]
                      go_wp2
                      go_roundw
                      case rel => exact ⟨cc + 1, y + 1, _, tv2, rfl, by go_num, by rw [HCC.out], hly, by rw [HOL.out]; exact HV5.out, (HBI.out.block _ (lt_at HX13d.out.1)).trans HX13d.out.1, own_kp2 HX13d.out.2 (kp_below HBI.out (fun _ => False)) (fun _ _ => id), HNB.out⟩
                      case measure => simp [intOf]; omega
                    | false =>
                      have HNW : Hid (br T V true e0 l (y + 1) = l2 ++ [(q, e0.2 ++ [cc])]) := by
                        show _ = _
                        rw [br_up, HL2.out.1, ← HCC.out]
                        unfold bs
                        rw [HQQ.out.1, if_neg (by rw [HTK.out]; simp)]
                      have x15 := (HBI.out.block _ (lt_at HP17.out.1)).trans HP17.out.1
                      have y0 := cell_of_row _ _ 0 _ _ _ x15
                      have y1 := cell_of_row _ _ 1 _ _ _ x15
                      have y2 := cell_of_row _ _ 2 _ _ _ x15
                      have HRO : Hid (wr.ownsRow W2.heap.size 105 3 (.slice va2 i vc2) i (xcs tv2 l2)) := by have h := HV5.out.row; rw [HL2.out.2] at h; exact h
                      have HTN2 : Hid (wr.ownsRow W2.heap.size 3 1 (.slice (some ⟨g8, 0, none⟩) (tl + 1) c8) (e0.2 ++ [cc]).length (ns (e0.2 ++ [cc]))) := by
                        rw [List.length_append, HI.out.2.2.2]
                        exact own_kp2 HTN.out (kp_below HBI.out (fun _ => False)) (fun _ _ => id)
                      have hx13e := (HBI.out.block _ (lt_at HX13d.out.1)).trans HX13d.out.1
                      have HX13e : Hid (wr.heap[b13]? = some (.cells #[.int .i64 i1, .int .i64 i2, .slice ta tl tc] 105 (0, 0)) ∧ wr.ownsRow W2.heap.size 3 1 (.slice ta tl tc) tl (ns e0.2)) := ⟨hx13e, own_kp2 HX13d.out.2 (kp_below HBI.out (fun _ => False)) (fun _ _ => id)⟩
                      clear hlt2 x15 hx13e
                      go_wp2_with (refine wpList_append_own_at _ rfl _ _ 106 rfl W2.heap.size 105 i105 (.agg #[.int .i64 0, .int .i64 0, .slice none 0 0]) 3 40 Tryd.underlying106 hi105 hz0 hz1 hz2 rfl (by decide) _ _ _ rfl (HRO.out.alloc _) ⟨_, 0, none⟩ 1 1 [.int .i64 j1, .int .i64 j2, .slice (some ⟨g8, 0, none⟩) (tl + 1) c8] rfl rfl (cell_three_new _ _ _ _ _) (fun u hu => by simp at hu; rcases hu with rfl | rfl | rfl <;> rfl) (by unfold maxLen; omega) (by omega) (by have := HV5.out.below.size; simp; omega) ?_; intro v9 w9 ho9 hg9 _ hl9; obtain ⟨g9, c9, rfl, _, _⟩ := own_some ho9 (Nat.succ_pos _); have HVN : Hid (Va W2 w9 (.slice (some ⟨g9, 0, none⟩) (i + 1) c9) (l2 ++ [(q, e0.2 ++ [cc])]) (upn tv2 l2.length (.slice (some ⟨g8, 0, none⟩) (tl + 1) c8))) := Va.add (e := (q, e0.2 ++ [cc])) HV5.out HTN2.out (by rw [HL2.out.2, HQQ.out.2]; show World.ownsRow _ _ _ _ _ _ (_ ++ [.int .i64 (enc (T.st s1 cc)), .int .i64 (enc (V.st s2 cc)), _]); rw [HJ.out.1, HJ.out.2]; exact ho9) hg9; have hxa := (heap_alloc_old wr (.cells #[.int .i64 j1, .int .i64 j2, .slice (some ⟨g8, 0, none⟩) (tl + 1) c8] 105) (lt_at HX13e.out.1)).trans HX13e.out.1; have HX9 : Hid (w9.heap[b13]? = some (.cells #[.int .i64 i1, .int .i64 i2, .slice ta tl tc] 105 (0, 0)) ∧ w9.ownsRow W2.heap.size 3 1 (.slice ta tl tc) tl (ns e0.2)) := ⟨(hg9.block b13 (lt_at hxa) (fun e => HNB.out b13 e.symm rfl)).trans hxa, own_kp2 (HX13e.out.2.alloc _) ((Kp.refl (fun b => (Value.slice va2 i vc2).ownBlock = some b) _).grown hg9 (fun b hb _ => hb)) (fun b hb e => by obtain ⟨d, hd⟩ := own_ty HX13e.out.2 hb; obtain ⟨d', hd'⟩ := own_ty HRO.out e; exact ty_ne hd hd' (by decide))⟩; have HL9 : Hid ((Value.slice (some ⟨g9, 0, none⟩) (i + 1) c9).ownBlock = (Value.slice va2 i vc2).ownBlock ∨ (Value.slice (some ⟨g9, 0, none⟩) (i + 1) c9).ownBlock = some (wr.alloc (.cells #[.int .i64 j1, .int .i64 j2, .slice (some ⟨g8, 0, none⟩) (tl + 1) c8] 105)).heap.size) := hl9; clear ho9 hg9 hl9 hxa)
                      go_roundw
                      case rel =>
                        refine ⟨cc + 1, y + 1, _, _, rfl, by go_num, by rw [HCC.out], hly, by rw [HNW.out]; exact HVN.out, HX9.out.1, HX9.out.2, fun b hb e => ?_⟩
                        rcases HL9.out with h | h
                        · rw [h] at hb
                          exact HNB.out b hb e
                        · rw [h] at hb
                          have hb2 := Option.some.inj hb
                          have hs : (wr.alloc (.cells #[.int .i64 j1, .int .i64 j2, .slice (some ⟨g8, 0, none⟩) (tl + 1) c8] 105)).heap.size = wr.heap.size + 1 := by simp
                          have := lt_at HX13e.out.1
                          omega
                      case measure => simp [intOf]; omega
              · have hcc60 : ¬ (cc : Int) ≤ 60 := by omega
                obtain rfl : y = 60 := by omega
                have HEB : Hid (bf T V true (k + 1) = l2) := by
                  show _ = _
                  rw [bf_up, HL.out.1, List.getD_eq_getElem?_getD, HE.out.1]
                  exact HL2.out.1
                clear hcc
                go_wp2
                go_roundw
                case rel => exact ⟨k + 1, _, tv2, rfl, by go_num, by rw [HEB.out]; exact HV3.out, HBU.out⟩
                case measure => simp [intOf]; omega
        · obtain rfl : k = N := by omega
          have HAP : Hid (IsAp T V true none) := ⟨k, HBA.out, .inr ⟨by rw [HL.out.1]; exact HL.out.2, rfl⟩⟩
          go_wp2
          go_ret3
          exact ⟨_, false, true, rfl, HB2.out.1.trans (HVA.out.below.mono HB2.out.1.size), .inr ⟨rfl, nf1, nf2, none, HD.out.1, HD.out.2, by rw [HTV.out.1, HTV.out.2.1]; exact HAP.out, .inr ⟨rfl, rfl, rfl⟩⟩⟩
end Go.Proofs.YtfjocafepigijaaDoor.Su
/- MachineSures: what joins the program's and the document's answers. No conditions. -/
namespace Go.Proofs.YtfjocafepigijaaDoor.Su
open Go.RowKit Mv Sy Po Ps Cm Ra Ot Pa

/-- one small machine: both Sures say the same -/
theorem su_one {S : Nat} {A : AL} {F : List (Int × Int)} {n n' : Nat} {m m' : M} (h1 : Done S A n) (h : IsSure (tbl S A F n) m) (k1 : Done S A n') (k : IsSure (tbl S A F n') m') : m = m' := by
  obtain rfl := h1.one k1
  exact h.one k
/-- a text of one's own, as numbers to be read -/
theorem own_isI {w : World} {base : Nat} {v : Value} {t : List Nat} (h : w.ownsRow base 3 1 v t.length (ns t)) (ht : t.length ≤ 1000000) : IsI w v (t.map fun (k : Nat) => (k : Int)) := by
  have h1 := own_rowN h (by omega)
  have e : ns t = ints (t.map fun (k : Nat) => (k : Int)) := by unfold ns ints; rw [List.map_map]; rfl
  show Mv.Row w v 1 (t.map fun (k : Nat) => (k : Int)).length (ints (t.map fun (k : Nat) => (k : Int)))
  rw [List.length_map, ← e]
  exact h1
end Go.Proofs.YtfjocafepigijaaDoor.Su
/- Sure and Apart at any small machines, the program's answers in one word each, and that there is but one answer. Condition: the machines are small. -/
namespace Go.Proofs.YtfjocafepigijaaDoor.Su
open Go.RowKit Mv Sy Po Ps Cm Ra Ot Pa

def zM : M := ⟨0, [], []⟩
theorem isM_zero (w : World) : IsM w (.agg #[.int .i64 0, .slice none 0 0, .slice none 0 0]) zM := ⟨_, _, rfl, ⟨rfl, none, 0, rfl, Nat.zero_le _, .inl rfl⟩, ⟨rfl, none, 0, rfl, Nat.zero_le _, .inl rfl⟩⟩
theorem gd_of {m : M} (hx : checkP m 0) : ∃ S : Nat, m.st = (S : Int) ∧ Gd S m.arcs ∧ ∀ k (h : k < m.fins.length), finB (S : Int) m.fins[k] = true := by
  obtain ⟨h1, h2, h3⟩ := Rz.checkP_ok hx
  have hs : 1 ≤ m.st ∧ m.st ≤ 3000 ∧ (m.arcs.length : Int) ≤ 20000 ∧ (m.fins.length : Int) ≤ m.st := by unfold sizeB at h1; exact of_decide_eq_true h1
  have e : m.st = ((m.st.toNat : Nat) : Int) := by omega
  refine ⟨m.st.toNat, e, ⟨by omega, by omega, by omega, fun k h => ?_⟩, fun k h => ?_⟩
  · rw [← e]; exact h2 k h
  · rw [← e]; exact h3 k h
/-- what Sure must answer -/
def SvA (m : M) (x : Int) (M' : M) : Prop :=
  (¬ checkP m 0 ∧ checkP m x ∧ M' = zM) ∨ (checkP m 0 ∧ plB m.arcs m.fins = false ∧ x = 4 ∧ M' = zM) ∨
  (checkP m 0 ∧ plB m.arcs m.fins = true ∧ ∃ S : Nat, m.st = (S : Int) ∧ ((x = 0 ∧ ∃ n, Done S m.arcs n ∧ IsSure (tbl S m.arcs m.fins n) M') ∨ (x = 7 ∧ M' = zM ∧ Many S m.arcs)))
theorem SvA.one {m : M} {x x' : Int} {M1 M2 : M} (h : SvA m x M1) (h' : SvA m x' M2) : x = x' ∧ M1 = M2 := by
  rcases h with ⟨h1, h2, rfl⟩ | ⟨h1, h2, rfl, rfl⟩ | ⟨h1, h2, S, hS, h3⟩ <;> rcases h' with ⟨k1, k2, rfl⟩ | ⟨k1, k2, rfl, rfl⟩ | ⟨k1, k2, S', hS', k3⟩
  · exact ⟨checkP_one h2 k2, rfl⟩
  · exact absurd k1 h1
  · exact absurd k1 h1
  · exact absurd h1 k1
  · exact ⟨rfl, rfl⟩
  · rw [h2] at k2; cases k2
  · exact absurd h1 k1
  · rw [h2] at k2; cases k2
  · obtain rfl : S = S' := by omega
    rcases h3 with ⟨rfl, n, hn, hs⟩ | ⟨rfl, rfl, hm⟩ <;> rcases k3 with ⟨rfl, n', hn', hs'⟩ | ⟨rfl, rfl, hm'⟩
    · exact ⟨rfl, su_one hn hs hn' hs'⟩
    · exact absurd hm' hn.not_many
    · exact absurd hm hn'.not_many
    · exact ⟨rfl, rfl⟩
/-- what Sure hands back -/
def SvQ (m : M) (w : World) (e : Ending) (w' : World) : Prop :=
  ∃ (st : Int) (a1 : Option Addr) (n1 c1 : Nat) (a2 : Option Addr) (n2 c2 : Nat) (x : Int) (M' : M), e = .returned (.tuple #[.agg #[.int .i64 st, .slice a1 n1 c1, .slice a2 n2 c2], .int .i64 x]) ∧ Below w.heap.size w w' ∧ IsM w' (.agg #[.int .i64 st, .slice a1 n1 c1, .slice a2 n2 c2]) M' ∧ SvA m x M'
theorem sure_all (m : M) (v : Value) (w : World) (hm : IsM w v m) (hf : fewB m = true) (hTab : TabAt 0 Lib.deBruijn64tab w) (h00 : 0 < w.heap.size) : Calls Tryd.prog 20 #[v] w (SvQ m w) := by
  have hfew : m.st ≤ 40 := by unfold fewB at hf; exact (of_decide_eq_true hf).1
  obtain ⟨va, vf, rfl, hA, hF⟩ := hm
  have hA0 := hA
  have hF0 := hF
  obtain ⟨_, aa, ca, rfl, _, _⟩ := hA
  obtain ⟨_, af, cf, rfl, _, _⟩ := hF
  by_cases hx : checkP m 0
  · cases hp : plB m.arcs m.fins with
    | false =>
      refine (sure_un m.st m.arcs m.fins aa af ca cf w hA0 hF0 hx hp).mono fun e w' ⟨he, hb⟩ => ?_
      exact ⟨_, _, _, _, _, _, _, _, zM, he, hb, isM_zero w', .inr (.inl ⟨hx, hp, rfl, rfl⟩)⟩
    | true =>
      obtain ⟨S, hS, hG, hfn⟩ := gd_of hx
      obtain ⟨st, A, F⟩ := m
      dsimp only at hS hG hfn hA0 hF0 hp hfew ⊢
      subst hS
      refine (sure_any S A F aa af ca cf w hG (by omega) hA0 hF0 hfn hTab h00 hx hp).mono fun e w' h => ?_
      obtain ⟨st, a1, n1, c1, a2, n2, c2, x, he, hb, hor⟩ := h
      rcases hor with ⟨rfl, n, M', hn, hs, hi⟩ | ⟨rfl, hi, hmn⟩
      · exact ⟨_, _, _, _, _, _, _, _, M', he, hb, hi, .inr (.inr ⟨hx, hp, S, rfl, .inl ⟨rfl, n, hn, hs⟩⟩)⟩
      · exact ⟨_, _, _, _, _, _, _, _, zM, he, hb, hi, .inr (.inr ⟨hx, hp, S, rfl, .inr ⟨rfl, rfl, hmn⟩⟩)⟩
  · obtain ⟨x0, hx0⟩ := Rz.checkP_ex m
    refine (sure_bad m.st m.arcs m.fins aa af ca cf w hA0 hF0 x0 hx0 (fun e => hx (e ▸ hx0))).mono fun e w' ⟨he, hb⟩ => ?_
    exact ⟨_, _, _, _, _, _, _, _, zM, he, hb, isM_zero w', .inl ⟨hx, hx0, rfl⟩⟩
/-- what Apart must answer -/
def ApA (a b : M) (x : Int) (r : Option (List Nat)) : Prop :=
  (∃ xa xb, checkP a xa ∧ checkP b xb ∧ Mc.both xa xb ≠ 0 ∧ x = Mc.both xa xb ∧ r = none) ∨
  (checkP a 0 ∧ checkP b 0 ∧ (plB a.arcs a.fins && plB b.arcs b.fins) = false ∧ x = 4 ∧ r = none) ∨
  (checkP a 0 ∧ checkP b 0 ∧ (plB a.arcs a.fins && plB b.arcs b.fins) = true ∧ ∃ S U : Nat, a.st = (S : Int) ∧ b.st = (U : Int) ∧ ((x = 7 ∧ r = none ∧ (Many S a.arcs ∨ Many U b.arcs)) ∨ (x = 0 ∧ ∃ n m, Done S a.arcs n ∧ Done U b.arcs m ∧ IsAp (tbl S a.arcs a.fins n) (tbl U b.arcs b.fins m) true r)))
theorem ApA.one {a b : M} {x x' : Int} {r r' : Option (List Nat)} (h : ApA a b x r) (h' : ApA a b x' r') : x = x' ∧ r = r' := by
  rcases h with ⟨xa, xb, h1, h2, h3, rfl, rfl⟩ | ⟨h1, h2, h3, rfl, rfl⟩ | ⟨h1, h2, h3, S, U, hS, hU, h4⟩ <;> rcases h' with ⟨ya, yb, k1, k2, k3, rfl, rfl⟩ | ⟨k1, k2, k3, rfl, rfl⟩ | ⟨k1, k2, k3, S', U', hS', hU', k4⟩
  · rw [checkP_one h1 k1, checkP_one h2 k2]; exact ⟨rfl, rfl⟩
  · rw [checkP_one h1 k1, checkP_one h2 k2] at h3; exact absurd rfl h3
  · rw [checkP_one h1 k1, checkP_one h2 k2] at h3; exact absurd rfl h3
  · rw [checkP_one k1 h1, checkP_one k2 h2] at k3; exact absurd rfl k3
  · exact ⟨rfl, rfl⟩
  · rw [h3] at k3; cases k3
  · rw [checkP_one k1 h1, checkP_one k2 h2] at k3; exact absurd rfl k3
  · rw [h3] at k3; cases k3
  · obtain rfl : S = S' := by omega
    obtain rfl : U = U' := by omega
    rcases h4 with ⟨rfl, rfl, hm⟩ | ⟨rfl, n, m, hn, hm, hr⟩ <;> rcases k4 with ⟨rfl, rfl, hm'⟩ | ⟨rfl, n', m', hn', hm', hr'⟩
    · exact ⟨rfl, rfl⟩
    · rcases hm with h | h
      · exact absurd h hn'.not_many
      · exact absurd h hm'.not_many
    · rcases hm' with h | h
      · exact absurd h hn.not_many
      · exact absurd h hm.not_many
    · obtain rfl := hn.one hn'
      obtain rfl := hm.one hm'
      exact ⟨rfl, hr.one hr'⟩
/-- a text that tells apart is not long -/
theorem ap_len {S U : Nat} {A B : AL} {F H : List (Int × Int)} {n m : Nat} {z : Bool} {t : List Nat} (hn : Done S A n) (hm : Done U B m) (h : IsAp (tbl S A F n) (tbl U B H m) z (some t)) : t.length ≤ 1000000 := by
  obtain ⟨k, hk, ⟨e, he, _, hr⟩ | ⟨_, hr⟩⟩ := h
  · cases hr
    have h1 := bf_txt _ _ z k k e he
    have h2 := (bf_dus (T := tbl S A F n) (U := tbl U B H m) z (tbl_ok hn) (tbl_ok hm) (done_pos hn) (done_pos hm) k).len
    have h3 : k < (bf (tbl S A F n) (tbl U B H m) z k).length := (List.getElem?_eq_some_iff.1 he).1
    have h4 : ((tbl S A F n).n + 1) * ((tbl U B H m).n + 1) ≤ 501 * 501 := Nat.mul_le_mul (by have := hn.few; show n + 1 ≤ 501; omega) (by have := hm.few; show m + 1 ≤ 501; omega)
    omega
  · cases hr
/-- a text, or none, as numbers to be read -/
def tI (r : Option (List Nat)) : List Int := match r with | some t => t.map fun (k : Nat) => (k : Int) | none => []
theorem isI_none (w : World) : IsI w (.slice none 0 0) [] := ⟨rfl, none, 0, rfl, Nat.zero_le _, .inl rfl⟩
/-- what Apart hands back -/
def AvQ (a b : M) (w : World) (e : Ending) (w' : World) : Prop :=
  ∃ (v : Value) (is : Bool) (x : Int) (r : Option (List Nat)), e = .returned (.tuple #[v, .bool is, .int .i64 x]) ∧ Below w.heap.size w w' ∧ is = r.isSome ∧ IsI w' v (tI r) ∧ (tI r).length ≤ 1000000 ∧ ApA a b x r
theorem apart_all (a b : M) (va vb : Value) (w : World) (ha : IsM w va a) (hb : IsM w vb b) (hf : fewB a = true) (hf2 : fewB b = true) (hTab : TabAt 0 Lib.deBruijn64tab w) (h00 : 0 < w.heap.size) : Calls Tryd.prog 24 #[va, vb] w (AvQ a b w) := by
  have hfew : a.st ≤ 40 := by unfold fewB at hf; exact (of_decide_eq_true hf).1
  have hfew2 : b.st ≤ 40 := by unfold fewB at hf2; exact (of_decide_eq_true hf2).1
  obtain ⟨v1, v2, rfl, hA, hF⟩ := ha
  obtain ⟨v3, v4, rfl, hB, hH⟩ := hb
  have hA0 := hA
  have hF0 := hF
  have hB0 := hB
  have hH0 := hH
  obtain ⟨_, aa, ca, rfl, _, _⟩ := hA
  obtain ⟨_, af, cf, rfl, _, _⟩ := hF
  obtain ⟨_, ba, da, rfl, _, _⟩ := hB
  obtain ⟨_, bf', df', rfl, _, _⟩ := hH
  obtain ⟨xa, hxa⟩ := Rz.checkP_ex a
  obtain ⟨xb, hxb⟩ := Rz.checkP_ex b
  by_cases hx : Mc.both xa xb = 0
  · obtain ⟨rfl, rfl⟩ : xa = 0 ∧ xb = 0 := by
      unfold Mc.both at hx
      split at hx
      · exact ⟨by assumption, hx⟩
      · exact absurd hx (by assumption)
    cases hp : (plB a.arcs a.fins && plB b.arcs b.fins) with
    | false =>
      refine (apart_un a.st b.st a.arcs b.arcs a.fins b.fins aa af ba bf' ca cf da df' w hA0 hF0 hB0 hH0 hxa hxb hp).mono fun e w' ⟨he, hbl⟩ => ?_
      exact ⟨_, _, _, none, he, hbl, rfl, isI_none w', Nat.zero_le _, .inr (.inl ⟨hxa, hxb, hp, rfl, rfl⟩)⟩
    | true =>
      obtain ⟨S, hS, hG, hfn⟩ := gd_of hxa
      obtain ⟨U, hU, hG2, hfn2⟩ := gd_of hxb
      obtain ⟨st, A, F⟩ := a
      obtain ⟨su, B, H⟩ := b
      dsimp only at hS hG hfn hU hG2 hfn2 hA0 hF0 hB0 hH0 hp hfew hfew2 ⊢
      subst hS hU
      have hp2 : plB A F = true ∧ plB B H = true := by simpa using hp
      refine (apart_any S U A B F H aa af ba bf' ca cf da df' w hG hG2 (by omega) (by omega) hA0 hF0 hB0 hH0 hfn hfn2 hTab h00 hxa hxb hp2.1 hp2.2).mono fun e w' h => ?_
      obtain ⟨v, bb, x, he, hbl, hor⟩ := h
      rcases hor with ⟨rfl, hmn, rfl, rfl⟩ | ⟨rfl, n, m, r, hn, hm, hr, hres⟩
      · exact ⟨_, _, _, none, he, hbl, rfl, isI_none w', Nat.zero_le _, .inr (.inr ⟨hxa, hxb, hp, S, U, rfl, rfl, .inl ⟨rfl, rfl, hmn⟩⟩)⟩
      · rcases hres with ⟨rfl, t, rfl, hrow⟩ | ⟨rfl, rfl, rfl⟩
        · have hl := ap_len hn hm hr
          exact ⟨_, _, _, some t, he, hbl, rfl, own_isI hrow hl, by show (List.map _ t).length ≤ _; rw [List.length_map]; exact hl, .inr (.inr ⟨hxa, hxb, hp, S, U, rfl, rfl, .inr ⟨rfl, n, m, hn, hm, hr.of⟩⟩)⟩
        · exact ⟨_, _, _, none, he, hbl, rfl, isI_none w', Nat.zero_le _, .inr (.inr ⟨hxa, hxb, hp, S, U, rfl, rfl, .inr ⟨rfl, n, m, hn, hm, hr.of⟩⟩)⟩
  · refine (apart_bad a.st b.st a.arcs b.arcs a.fins b.fins aa af ba bf' ca cf da df' w hA0 hF0 hB0 hH0 xa xb hxa hxb hx).mono fun e w' ⟨he, hbl⟩ => ?_
    exact ⟨_, _, _, none, he, hbl, rfl, isI_none w', Nat.zero_le _, .inl ⟨xa, xb, hxa, hxb, hx, rfl, rfl⟩⟩
/-- the document's Sure at a right plain machine -/
def SuD (m : M) (w : World) (e : Ending) (w' : World) : Prop :=
  ∃ (st : Int) (a1 : Option Addr) (n1 c1 : Nat) (a2 : Option Addr) (n2 c2 : Nat) (ok : Bool), e = .returned (.tuple #[.agg #[.int .i64 st, .slice a1 n1 c1, .slice a2 n2 c2], .bool ok]) ∧ Below w.heap.size w w' ∧ ((ok = true ∧ ∃ M', IsM w' (.agg #[.int .i64 st, .slice a1 n1 c1, .slice a2 n2 c2]) M' ∧ SvA m 0 M') ∨ (ok = false ∧ SvA m 7 zM))
theorem sure_doc_all (m : M) (v : Value) (w : World) (hm : IsM w v m) (hx : checkP m 0) (hp : plB m.arcs m.fins = true) : Calls Tryd.prog 22 #[v] w (SuD m w) := by
  obtain ⟨va, vf, rfl, hA, hF⟩ := hm
  have hA0 := hA
  have hF0 := hF
  obtain ⟨_, aa, ca, rfl, _, _⟩ := hA
  obtain ⟨_, af, cf, rfl, _, _⟩ := hF
  obtain ⟨S, hS, hG, hfn⟩ := gd_of hx
  obtain ⟨st, A, F⟩ := m
  dsimp only at hS hG hfn hA0 hF0 hp ⊢
  subst hS
  refine (sure_doc S A F aa af ca cf w hG hA0 hF0 hfn).mono fun e w' h => ?_
  obtain ⟨st, a1, n1, c1, a2, n2, c2, ok, he, hb, hor⟩ := h
  refine ⟨st, a1, n1, c1, a2, n2, c2, ok, he, hb, ?_⟩
  rcases hor with ⟨h1, n, M', hn, hs, hi⟩ | ⟨h1, hmn⟩
  · exact .inl ⟨h1, M', hi, .inr (.inr ⟨hx, hp, S, rfl, .inl ⟨rfl, n, hn, hs⟩⟩)⟩
  · exact .inr ⟨h1, .inr (.inr ⟨hx, hp, S, rfl, .inr ⟨rfl, rfl, hmn⟩⟩)⟩
/-- the document's Apart at right plain machines -/
def DaD (a b : M) (w : World) (e : Ending) (w' : World) : Prop :=
  ∃ (v : Value) (is ok : Bool), e = .returned (.tuple #[v, .bool is, .bool ok]) ∧ Below w.heap.size w w' ∧ ((ok = false ∧ ApA a b 7 none) ∨ (ok = true ∧ ∃ r, is = r.isSome ∧ IsI w' v (tI r) ∧ ApA a b 0 r))
theorem da_all (a b : M) (va vb : Value) (w : World) (ha : IsM w va a) (hb : IsM w vb b) (hxa : checkP a 0) (hxb : checkP b 0) (hp : (plB a.arcs a.fins && plB b.arcs b.fins) = true) : Calls Tryd.prog 25 #[va, vb] w (DaD a b w) := by
  obtain ⟨v1, v2, rfl, hA, hF⟩ := ha
  obtain ⟨v3, v4, rfl, hB, hH⟩ := hb
  have hA0 := hA
  have hF0 := hF
  have hB0 := hB
  have hH0 := hH
  obtain ⟨_, aa, ca, rfl, _, _⟩ := hA
  obtain ⟨_, af, cf, rfl, _, _⟩ := hF
  obtain ⟨_, ba, da, rfl, _, _⟩ := hB
  obtain ⟨_, bf', df', rfl, _, _⟩ := hH
  obtain ⟨S, hS, hG, hfn⟩ := gd_of hxa
  obtain ⟨U, hU, hG2, hfn2⟩ := gd_of hxb
  obtain ⟨st, A, F⟩ := a
  obtain ⟨su, B, H⟩ := b
  dsimp only at hS hG hfn hU hG2 hfn2 hA0 hF0 hB0 hH0 hp ⊢
  subst hS hU
  refine (da_any S U A B F H aa af ba bf' ca cf da df' w hG hG2 hA0 hF0 hB0 hH0 hfn hfn2).mono fun e w' h => ?_
  obtain ⟨v, is, ok, he, hbl, hor⟩ := h
  refine ⟨v, is, ok, he, hbl, ?_⟩
  rcases hor with ⟨h1, hmn, rfl, rfl⟩ | ⟨h1, n, m, r, hn, hm, hr, hres⟩
  · exact .inl ⟨h1, .inr (.inr ⟨hxa, hxb, hp, S, U, rfl, rfl, .inl ⟨rfl, rfl, hmn⟩⟩)⟩
  · refine .inr ⟨h1, r, ?_, ?_, .inr (.inr ⟨hxa, hxb, hp, S, U, rfl, rfl, .inr ⟨rfl, n, m, hn, hm, hr⟩⟩)⟩
    · rcases hres with ⟨rfl, t, rfl, _⟩ | ⟨rfl, rfl, _⟩ <;> rfl
    · rcases hres with ⟨rfl, t, rfl, hrow⟩ | ⟨rfl, rfl, rfl⟩
      · exact own_isI hrow (ap_len hn hm hr)
      · exact isI_none w'
end Go.Proofs.YtfjocafepigijaaDoor.Su
