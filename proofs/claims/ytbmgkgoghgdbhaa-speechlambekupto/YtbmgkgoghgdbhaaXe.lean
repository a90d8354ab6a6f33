/- What the law SpeechLambek asks (PLAIN); what it keeps in memory. No conditions. -/
import Derived.Test.YtbmgkgoghgdbhaaXd4
import Derived.Test.YtbmgkgoghgdbhaaXd15
import Derived.Test.YtbmgkgoghgdbhaaXd19
import Derived.Test.YtbmgkgoghgdbhaaVd
import Derived.Test.YtbmgkgoghgdbhaaYc
namespace Go.Proofs.Ytbmgkgoghgdbhaa.Te
open Go.RowKit

theorem lam_cut {G D H : List Ty} {x z : Ty} (hx : Gp x) (hD : D ≠ []) (h1 : E D x) (h2 : E ([] ++ G ++ [x] ++ H) z) : E ([] ++ G ++ D ++ H) z := by
  have := E_cut (A := G) (B := H) hx hD h1 (by simpa using h2)
  simpa using this
theorem lam_cseq {G D H : List Ty} {x z : Ty} (h1 : cseq D x = 0) (h2 : cseq ([] ++ G ++ [x] ++ H) z = 0) : cseq ([] ++ G ++ D ++ H) z = 0 ∨ cseq ([] ++ G ++ D ++ H) z = 7 ∨ cseq ([] ++ G ++ D ++ H) z = 2 := by
  obtain ⟨⟨a1, _⟩, a3, a4, _⟩ := cseq_zero h1
  obtain ⟨_, b3, b4, _⟩ := cseq_zero h2
  have hc : crow ([] ++ G ++ D ++ H) z = 0 := crow_ok (fun t ht => by
    simp only [List.nil_append, List.mem_append] at ht
    rcases ht with (ht | ht) | ht
    · exact b3 t (by simp [ht])
    · exact a3 t ht
    · exact b3 t (by simp [ht])) b4
  unfold cseq
  by_cases hl : ([] ++ G ++ D ++ H).length < 1 ∨ 6 < ([] ++ G ++ D ++ H).length
  · rw [if_pos hl]; exact .inr (.inl rfl)
  · rw [if_neg hl]
    unfold cslash
    rw [if_pos hc]
    split
    · exact .inr (.inr rfl)
    · exact .inl rfl
theorem lam_ov {D : List Ty} {x z : Ty} : E D (ov z x) ↔ E ([] ++ D ++ [x]) z := ⟨fun h => by simpa using E_ov_inv h, fun h => E_ov (by simpa using h)⟩
theorem lam_un {D : List Ty} {x z : Ty} : E D (un x z) ↔ E ([x] ++ D) z := ⟨fun h => by simpa using E_un_inv h, fun h => E_un (by simpa using h)⟩
theorem good_step {l : List Ty} {g : Ty} {p : Pf} (h : Good l g p) : p.step ≠ 0 := fun e => rt_step (p := p) (.inl (by omega)) h.2.2.1
/-- two that are said of two sequents that are proved alike do not differ -/
theorem lam_same {r4 r5 : Bool} {e4 e5 : Int} {P4 P5 : Prop} (h4 : r4 = true ↔ e4 = 0 ∧ P4) (h5 : r5 = true ↔ e5 = 0 ∧ P5) (hp : P4 ↔ P5) (z4 : e4 = 0) (z5 : e5 = 0) : r4 = r5 := by
  have : r4 = true ↔ r5 = true := by rw [h4, h5, hp]; simp [z4, z5]
  cases r4 <;> cases r5 <;> simp_all
/-- the two boxes -/
structure Sx (w : World) (x : Ty) (ax : Option Addr) (cx : Nat) (z : Ty) (az : Option Addr) (cz : Nat) (W : World) : Prop where
  bel : Below w.heap.size w W
  bx : W.heap[w.heap.size]? = some (.cells #[.int .i64 x.kind, .int .i64 x.n, .slice ax x.kids.length cx] 24 (0, 0))
  bz : W.heap[w.heap.size + 1]? = some (.cells #[.int .i64 z.kind, .int .i64 z.n, .slice az z.kids.length cz] 24 (0, 0))
theorem Sx.below {w W W' : World} {x : Ty} {ax : Option Addr} {cx : Nat} {z : Ty} {az : Option Addr} {cz : Nat} (h : Sx w x ax cx z az cz W) (hb : Below W.heap.size W W') : Sx w x ax cx z az cz W' := ⟨h.bel.trans (hb.mono h.bel.size), (hb.block _ (lt_of_get h.bx)).trans h.bx, (hb.block _ (lt_of_get h.bz)).trans h.bz⟩
theorem kover2 {d : Nat} (z x : Ty) (az : Option Addr) (cz : Nat) (ax : Option Addr) (cx : Nat) (w : World) (hz : TyAt w d z az cz) (hx : TyAt w d x ax cx) : Calls Try.prog 31 #[.agg #[.int .i64 z.kind, .int .i64 z.n, .slice az z.kids.length cz], .agg #[.int .i64 x.kind, .int .i64 x.n, .slice ax x.kids.length cx]] w fun e w' => ∃ a c, e = .returned (.agg #[.int .i64 2, .int .i64 0, .slice a 2 c]) ∧ TyAt w' (d + 1) (ov z x) a c ∧ Below w.heap.size w w' := over_any z x az cz ax cx w hz hx
theorem kunder2 {d : Nat} (x z : Ty) (ax : Option Addr) (cx : Nat) (az : Option Addr) (cz : Nat) (w : World) (hx : TyAt w d x ax cx) (hz : TyAt w d z az cz) : Calls Try.prog 32 #[.agg #[.int .i64 x.kind, .int .i64 x.n, .slice ax x.kids.length cx], .agg #[.int .i64 z.kind, .int .i64 z.n, .slice az z.kids.length cz]] w fun e w' => ∃ a c, e = .returned (.agg #[.int .i64 3, .int .i64 0, .slice a 2 c]) ∧ TyAt w' (d + 1) (un x z) a c ∧ Below w.heap.size w w' := under_any x z ax cx az cz w hx hz
theorem kprove2 {d dg : Nat} {D : List Ty} {aD : Option Addr} {cD : Nat} {z x : Ty} {a : Option Addr} {c : Nat} {w : World} {r : Bool} {e4 : Int} (he : cseq D (ov z x) = e4) (hD : TyAt w (d + 1) ⟨0, 0, D⟩ aD cD) (hr : D.length ≤ cD) (hg : TyAt w dg (ov z x) a c) (h : r = true ↔ cseq D (ov z x) = 0 ∧ E D (ov z x)) : Calls Try.prog 20 #[.slice aD D.length cD, .agg #[.int .i64 2, .int .i64 0, .slice a 2 c]] w fun e w' => ProvQ D (ov z x) e4 r w e w' := by
  rw [← he]
  exact Prove_any D aD cD (ov z x) a c w r hD hr hg h
theorem kprove3 {d dg : Nat} {D : List Ty} {aD : Option Addr} {cD : Nat} {z x : Ty} {a : Option Addr} {c : Nat} {w : World} {r : Bool} {e4 : Int} (he : cseq D (un x z) = e4) (hD : TyAt w (d + 1) ⟨0, 0, D⟩ aD cD) (hr : D.length ≤ cD) (hg : TyAt w dg (un x z) a c) (h : r = true ↔ cseq D (un x z) = 0 ∧ E D (un x z)) : Calls Try.prog 20 #[.slice aD D.length cD, .agg #[.int .i64 3, .int .i64 0, .slice a 2 c]] w fun e w' => ProvQ D (un x z) e4 r w e w' := by
  rw [← he]
  exact Prove_any D aD cD (un x z) a c w r hD hr hg h
theorem wpL_src {P : Nat → Prop} {w : World} {ops : Array Oper} {rest : List Oper} {o : Oper} {a : Act} {Q : Exit → Act → World → Prop} (w0 : World) (hgd : o.guard = none) (s x : Operand)
    (ho : o.op = .call { callee := .builtin .append, args := #[s, x], argTypes := #[22, 22] })
    (base : Nat) (v : Value) (n : Nat) (xs : List Value) (hs : a.eval s = v) (hown : w.ownsRow base 24 3 v n xs)
    {d : Nat} {l : List Ty} {ad : Option Addr} {ys : List Value} (c : Nat) (hx : a.eval x = .slice ad l.length c) (hsrc : Src P w0 d l ad ys) (hb : Below w0.heap.size w0 w) (hle : n + l.length ≤ 100000000) (hbase : base ≤ w.heap.size)
    (h : ∀ v' w', w'.ownsRow base 24 3 v' (n + l.length) (xs ++ ys) → w.grownBy w' v.ownBlock → (v'.ownBlock = v.ownBlock ∨ v'.ownBlock = some w.heap.size) → wpList Try.prog ops Q rest (a.put o.dst v') w') : wpList Try.prog ops Q (o :: rest) a w := by
  refine wpList_plain hgd fun K hK => ?_
  obtain ⟨v', w', hr, h2, h3, h5⟩ := app_big w w0 o.type base v xs n hown c hsrc hb hle hbase
  unfold Oper.wp execOp
  simp only [ho, resolve, invoke, builtin, Sem.run_bind, Sem.run_pure, Result.andThen_ok, List.map_toArray, List.map_cons, List.map_nil, hs, hx, hr]
  exact hK _ _ (h v' w' h2 h3 h5)
end Go.Proofs.Ytbmgkgoghgdbhaa.Te
