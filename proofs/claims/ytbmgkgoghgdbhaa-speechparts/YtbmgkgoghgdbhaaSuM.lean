/- proveFrom, on condition of what it calls for less. Condition: the sequent is small. -/
import Derived.Test.YtbmgkgoghgdbhaaSp
namespace Go.Proofs.Ytbmgkgoghgdbhaa.Te
open Go.RowKit

theorem from_all {d M : Nat} (hM : M ≤ 700) (ihP : ∀ M', M' < M → ProveOk d M') (ihF : ∀ M', M' < M → FromOk d M') : FromOk d M := by
  intro P l a c b ag cg k hk w r hsz hP hl hg gl gg hr
  have hlen := szs_len l
  rcases gp_cases (gl _ (List.getElem_mem hk)) with ⟨b', h, _⟩ | ⟨x, y, h, _⟩ | ⟨y, x, h, _⟩
  · exact from_base l a c b ag cg k hk w r (by omega) hP hl hg gl gg hr (by rw [h]; rfl)
  · exact from_loop l a c b ag cg k hk w r hsz hM hP hl hg gl gg 2 (by rw [h]; rfl) (by decide) (sr_ov hk h gl hr) ihP ihF
  · exact from_loop l a c b ag cg k hk w r hsz hM hP hl hg gl gg 3 (by rw [h]; rfl) (by decide) (sr_un hk h gl hr) ihP ihF
/-- a base part is proved of one of the parts -/
theorem E_bs_iff {l : List Ty} {b : Int} : E l (bs b) ↔ ∃ k, ∃ h : k < l.length, EH (l.take k) l[k] (l.drop (k + 1)) (bs b) := by
  constructor
  · intro h
    obtain ⟨A, p, B, rfl, he⟩ := E_bs_inv h
    refine ⟨A.length, by simp, ?_⟩
    have q1 : (A ++ p :: B).take A.length = A := List.take_left
    have q2 : (A ++ p :: B).drop (A.length + 1) = B := by rw [← List.drop_drop, List.drop_left]; rfl
    have q3 : (A ++ p :: B)[A.length]'(by simp) = p := by simp
    rw [q1, q2, q3]
    exact he
  · rintro ⟨k, hk, h⟩
    have := E_bs h
    rw [← List.drop_eq_getElem_cons hk, List.take_append_drop] at this
    exact this
end Go.Proofs.Ytbmgkgoghgdbhaa.Te
/- prove. Condition: the sequent is small. -/
namespace Go.Proofs.Ytbmgkgoghgdbhaa.Te
open Go.RowKit

theorem field24 (e : Int) (a : Option Addr) (c : Nat) (w : World) : (Instr.field 24 (.agg #[.int .i64 1, .int .i64 e, .slice a 0 c]) 1).run Try.prog w = .ok (.int .i64 e) w := by kernel_rfl
set_option maxRecDepth 100000 in
set_option maxHeartbeats 1500000 in
theorem prove_of {d M : Nat} (hM : M ≤ 700) (ihP : ∀ M', M' < M → ProveOk d M') (ihF : FromOk d M) : ProveOk d M := by
  intro P l a c g ag cg w r hsz hP hl hg gl gg hne hr
  have hle : l.length < 700 := by have := szs_len l; have := sz_pos g; omega
  have HL : Hid (LsAt P w d l a c) := hl
  have HG : Hid (TyP P w d g ag cg) := hg
  have GL : Hid (∀ t ∈ l, Gp t) := gl
  have GG : Hid (Gp g) := gg
  have HP : Hid (∀ q, w.heap.size ≤ q → P q) := hP
  have HX : Hid (l ≠ [] ∧ (r = true ↔ E l g)) := ⟨hne, hr⟩
  have HM : Hid (szs l + sz g ≤ M ∧ M ≤ 700) := ⟨hsz, hM⟩
  have IP : Hid (∀ M', M' < M → ProveOk d M') := ihP
  have IF : Hid (FromOk d M) := ihF
  clear hl hg gl gg hP hne hr ihP ihF hsz hM
  unfold vsq
  go_enter Try.func54, Try.ntmps54
  go_upto_region 1 with fail
  obtain ⟨x1, x2, hVs, hVb⟩ := two_boxes w (.cells #[.slice a l.length c, .int .i64 g.kind, .int .i64 g.n, .slice ag g.kids.length cg] 79) (.cells #[.int .i64 0, .slice none 0 0, .int .i64 0, .int .i64 0, .slice none 0 0, .int .i64 0, .int .i64 0, .slice none 0 0] 37)
  generalize hV : (w.alloc (.cells #[.slice a l.length c, .int .i64 g.kind, .int .i64 g.n, .slice ag g.kids.length cg] 79)).alloc (.cells #[.int .i64 0, .slice none 0 0, .int .i64 0, .int .i64 0, .slice none 0 0, .int .i64 0, .int .i64 0, .slice none 0 0] 37) = V at *
  clear hV
  have K70 := even_any d d l a c g ag cg V (HL.out.1.below hVb).at (HG.out.below hVb).at GL.out GG.out (by have := HM.out; omega)
  unfold vsq at K70
  have s0 := cell_of_row _ _ 0 _ _ _ x1
  have s1 := cell_of_row _ _ 1 _ _ _ x1
  have s2 := cell_of_row _ _ 2 _ _ _ x1
  have s3 := cell_of_row _ _ 3 _ _ _ x1
  obtain ⟨ev, hev⟩ : ∃ ev, evS l g = ev := ⟨_, rfl⟩
  have HE : Hid (evS l g = ev) := hev
  rw [hev] at K70
  clear hev
  cases ev with
  | false =>
    have HRF : r = false := by
      cases hrr : r
      · rfl
      · have := E_even (HX.out.2.1 hrr)
        rw [HE.out] at this
        cases this
    go_upto_region 2 with (go_at_call 70; (with_reducible refine K70.mono ?_); rintro e1 w1 ⟨rfl, hb1⟩; clear K70)
    have z2 := (hb1.block _ (lt_of_get x2)).trans x2
    have hB1 := hVb.trans (hb1.mono hVb.size)
    have q0 := cell_of_row _ _ 0 _ _ _ z2
    have q1 := cell_of_row _ _ 1 _ _ _ z2
    have q2 := cell_of_row _ _ 2 _ _ _ z2
    have q3 := cell_of_row _ _ 3 _ _ _ z2
    have q4 := cell_of_row _ _ 4 _ _ _ z2
    have q5 := cell_of_row _ _ 5 _ _ _ z2
    have q6 := cell_of_row _ _ 6 _ _ _ z2
    have q7 := cell_of_row _ _ 7 _ _ _ z2
    have e0 := frozen_of_row _ _ 0 _ 37 z2
    have e1 := frozen_of_row _ _ 1 _ 37 z2
    have e2 := frozen_of_row _ _ 2 _ 37 z2
    have e3 := frozen_of_row _ _ 3 _ 37 z2
    have e4 := frozen_of_row _ _ 4 _ 37 z2
    have e5 := frozen_of_row _ _ 5 _ 37 z2
    have e6 := frozen_of_row _ _ 6 _ 37 z2
    have e7 := frozen_of_row _ _ 7 _ 37 z2
    go_wp2_with fail
    refine bodyPost_ret (results_37 rfl _ _ (w.heap.size + 1) _ rfl (laid8 z2 _ _ _ _ _ _ _ _) rfl) rfl ?_
    subst HRF
    exact prQ_false (below8 hB1 (by omega) _ _ _ _ _ _ _ _) ⟨0, [], ⟨0, 0, []⟩, 0, 0, []⟩ ⟨none, 0, none, 0, none, 0⟩ rfl
  | true =>
    go_upto_region 3 with (go_at_call 70; (with_reducible refine K70.mono ?_); rintro e1 w1 ⟨rfl, hb1⟩; clear K70)
    clear s0 s1 s2 s3
    have z1 := (hb1.block _ (lt_of_get x1)).trans x1
    have z2 := (hb1.block _ (lt_of_get x2)).trans x2
    have hB1 := hVb.trans (hb1.mono hVb.size)
    have hs1 := hb1.size
    clear x1 x2
    rcases gp_cases GG.out with ⟨b, hgx, _⟩ | ⟨x, y, hgx, hgx1, hgy⟩ | ⟨y, x, hgx, hgy, hgx1⟩
    · subst hgx
      obtain ⟨ga, off, rfl, hga⟩ := HL.out.addr (List.length_pos_iff.2 HX.out.1)
      rw [show (bs b).kind = 1 from rfl, show (bs b).n = b from rfl, show (bs b).kids.length = 0 from rfl] at z1 ⊢
      have s0 := cell_of_row _ _ 0 _ _ _ z1
      have s1 := cell_of_row _ _ 1 _ _ _ z1
      have s2 := cell_of_row _ _ 2 _ _ _ z1
      have s3 := cell_of_row _ _ 3 _ _ _ z1
      go_wp2
      clear s0 s1 s2 s3
      go_loopw [30] (fun iv wr => ∃ k : Nat, iv = .int .i64 (k : Int) ∧ k ≤ l.length ∧ Below w.heap.size w wr ∧ wr.heap[w.heap.size]? = some (.cells #[.slice (some ⟨ga, off, none⟩) l.length c, .int .i64 1, .int .i64 b, .slice ag 0 cg] 79 (0, 0)) ∧ wr.heap[w.heap.size + 1]? = some (.cells #[.int .i64 0, .slice none 0 0, .int .i64 0, .int .i64 0, .slice none 0 0, .int .i64 0, .int .i64 0, .slice none 0 0] 37 (0, 0)) ∧ (∀ k' (h : k' < l.length), k' < k → ¬ EH (l.take k') l[k'] (l.drop (k' + 1)) (bs b))) (fun iv _ => l.length - (intOf iv).toNat)
      case atStart => exact ⟨0, rfl, by omega, hB1, z1, z2, fun k' _ h => by omega⟩
      case round =>
        obtain ⟨k, rfl, hkl', hB, z1', z2', hz⟩ := hrel
        have HZ : Hid (∀ k' (h : k' < l.length), k' < k → ¬ EH (l.take k') l[k'] (l.drop (k' + 1)) (bs b)) := hz
        clear hz z1 z2 hB1 hb1 hs1
        by_cases hkl : k < l.length
        · have hkl2 : (k : Int) < (l.length : Int) := by omega
          obtain ⟨a', c', _, y0, y1, y2, hT⟩ := HL.out.at hkl
          have HT : Hid (TyP P w d l[k] a' c') := hT
          have y0 := (hB.cell (p := ⟨ga, _, none⟩) hga).trans y0
          have y1 := (hB.cell (p := ⟨ga, _, none⟩) hga).trans y1
          have y2 := (hB.cell (p := ⟨ga, _, none⟩) hga).trans y2
          clear hT
          go_upto_region 11 with fail
          have x5 := heap_alloc_new wr (.cells #[.int .i64 l[k].kind, .int .i64 l[k].n, .slice a' l[k].kids.length c'] 24)
          have hb5 : Below wr.heap.size wr (wr.alloc (.cells #[.int .i64 l[k].kind, .int .i64 l[k].n, .slice a' l[k].kids.length c'] 24)) := (Below.refl _ wr).alloc (Nat.le_refl _) _
          have hB2 := hB.trans (hb5.mono hB.size)
          have hl5 := lt_of_get z2'
          have z1 := (hb5.block _ (lt_of_get z1')).trans z1'
          have z2 := (hb5.block _ (lt_of_get z2')).trans z2'
          have hs5 : wr.heap.size ≤ (wr.alloc (.cells #[.int .i64 l[k].kind, .int .i64 l[k].n, .slice a' l[k].kids.length c'] 24)).heap.size := hb5.size
          clear hb5 z1' z2'
          generalize hV : wr.alloc (.cells #[.int .i64 l[k].kind, .int .i64 l[k].n, .slice a' l[k].kids.length c'] 24) = W1 at *
          clear hV
          generalize wr.heap.size = b5 at *
          have K72 := end_any d l[k] a' c' W1.drew (GL.out _ (List.getElem_mem hkl)) (HT.out.below hB2.drew).at
          unfold vty bs at K72
          dsimp only at K72
          rw [show ([] : List Ty).length = 0 from rfl] at K72
          by_cases he : endN l[k] = b
          · skip
            refine wp_region_held_drew (S := fun W => W.heap[b5]? = some (.cells #[.int .i64 l[k].kind, .int .i64 l[k].n, .slice a' l[k].kids.length c'] 24 (0, 0)) ∧ W.heap[w.heap.size]? = some (.cells #[.slice (some ⟨ga, off, none⟩) l.length c, .int .i64 1, .int .i64 b, .slice ag 0 cg] 79 (0, 0))) (by kernel_rfl) (by exact ⟨x5, z1⟩) (fun hHeld => ?_)
            refine wpAnyH_take (i := 0) (oi := { dst := some 35, op := Op.load 24 (Operand.tmp 5), type := 24, pos := "prove.go:20", after := #[], guard := none }) (v := ?_) rfl (by kernel_rfl) (by kernel_rfl) (by kernel_rfl) (fun _ _ _ h => h) (Or.inl ⟨by rfl, ?_⟩) (by assumption) ?_
            case refine_2 => intro w hSw; (try dsimp only at hSw); obtain ⟨hA, hB⟩ := hSw; have i0 := cell_of_row _ _ 0 _ _ _ hA; have i1 := cell_of_row _ _ 1 _ _ _ hA; have i2 := cell_of_row _ _ 2 _ _ _ hA; have j1 := cell_of_row _ _ 1 _ _ _ hB; have j2 := cell_of_row _ _ 2 _ _ _ hB; have j3 := cell_of_row _ _ 3 _ _ _ hB; go_simp; (try with_reducible rfl)
            simp only [Act.put, List.setIfInBounds_toArray, List.set_cons_zero, List.set_cons_succ]
            refine wpAnyH_take (i := 3) (oi := { dst := some 38, op := Op.fieldAddr 79 (Operand.tmp 1) 1, type := 0, pos := "prove.go:20", after := #[], guard := none }) (v := ?_) rfl (by kernel_rfl) (by kernel_rfl) (by kernel_rfl) (fun _ _ _ h => h) (Or.inl ⟨by rfl, ?_⟩) (by assumption) ?_
            case refine_2 => intro w hSw; (try dsimp only at hSw); obtain ⟨hA, hB⟩ := hSw; have i0 := cell_of_row _ _ 0 _ _ _ hA; have i1 := cell_of_row _ _ 1 _ _ _ hA; have i2 := cell_of_row _ _ 2 _ _ _ hA; have j1 := cell_of_row _ _ 1 _ _ _ hB; have j2 := cell_of_row _ _ 2 _ _ _ hB; have j3 := cell_of_row _ _ 3 _ _ _ hB; go_simp; (try with_reducible rfl)
            simp only [Act.put, List.setIfInBounds_toArray, List.set_cons_zero, List.set_cons_succ]
            refine wpAnyH_take (i := 4) (oi := { dst := some 39, op := Op.fieldAddr 24 (Operand.tmp 38) 1, type := 0, pos := "prove.go:20", after := #[{ on := 3, ground := Ground.data }], guard := none }) (v := ?_) rfl (by kernel_rfl) (by kernel_rfl) (by kernel_rfl) (fun _ _ _ h => h) (Or.inl ⟨by rfl, ?_⟩) (by assumption) ?_
            case refine_2 => intro w hSw; (try dsimp only at hSw); obtain ⟨hA, hB⟩ := hSw; have i0 := cell_of_row _ _ 0 _ _ _ hA; have i1 := cell_of_row _ _ 1 _ _ _ hA; have i2 := cell_of_row _ _ 2 _ _ _ hA; have j1 := cell_of_row _ _ 1 _ _ _ hB; have j2 := cell_of_row _ _ 2 _ _ _ hB; have j3 := cell_of_row _ _ 3 _ _ _ hB; go_simp; (try with_reducible rfl)
            simp only [Act.put, List.setIfInBounds_toArray, List.set_cons_zero, List.set_cons_succ]
            refine wpAnyH_take (i := 5) (oi := { dst := some 40, op := Op.load 3 (Operand.tmp 39), type := 3, pos := "prove.go:20", after := #[{ on := 4, ground := Ground.data }], guard := none }) (v := ?_) rfl (by kernel_rfl) (by kernel_rfl) (by kernel_rfl) (fun _ _ _ h => h) (Or.inl ⟨by rfl, ?_⟩) (by assumption) ?_
            case refine_2 => intro w hSw; (try dsimp only at hSw); obtain ⟨hA, hB⟩ := hSw; have i0 := cell_of_row _ _ 0 _ _ _ hA; have i1 := cell_of_row _ _ 1 _ _ _ hA; have i2 := cell_of_row _ _ 2 _ _ _ hA; have j1 := cell_of_row _ _ 1 _ _ _ hB; have j2 := cell_of_row _ _ 2 _ _ _ hB; have j3 := cell_of_row _ _ 3 _ _ _ hB; go_simp; (try with_reducible rfl)
            simp only [Act.put, List.setIfInBounds_toArray, List.set_cons_zero, List.set_cons_succ]
            refine wpAnyH_ready (rs := [1]) (by kernel_rfl) (by simp) ?_
            refine (AllReadyH.cons (o := { dst := some 36, op := Op.call { callee := Callee.value (Operand.func 72), args := #[Operand.tmp 35], argTypes := #[24] }, type := 24, pos := "prove.go:20", after := #[{ on := 0, ground := Ground.data }], guard := none }) rfl (fun K hK => ?_) AllReadyH.nil)
            go_simp
            (with_reducible refine K72.mono ?_)
            rintro e5 w5 ⟨a5, c5, rfl, hb5⟩
            clear K72
            dsimp only
            have hb6 : Below W1.heap.size W1 w5 := (Below.refl _ W1).drew.trans hb5
            have hcc : w5.heap[b5]? = some (.cells #[.int .i64 l[k].kind, .int .i64 l[k].n, .slice a' l[k].kids.length c'] 24 (0, 0)) ∧ w5.heap[w.heap.size]? = some (.cells #[.slice (some ⟨ga, off, none⟩) l.length c, .int .i64 1, .int .i64 b, .slice ag 0 cg] 79 (0, 0)) := ⟨(hb6.block _ (lt_of_get x5)).trans x5, (hb6.block _ (lt_of_get z1)).trans z1⟩
            refine hK.out _ _ ?_ (fun hHeld => ?_)
            · exact hcc
            clear hK K
            try simp only [Act.put, List.setIfInBounds_toArray, List.set_cons_zero, List.set_cons_succ]
            refine wpAnyH_take (i := 2) (oi := { dst := some 37, op := Op.field 24 (Operand.tmp 36) 1, type := 3, pos := "prove.go:20", after := #[{ on := 1, ground := Ground.data }], guard := none }) (v := ?_) rfl (by kernel_rfl) (by kernel_rfl) (by kernel_rfl) (fun _ _ _ h => h) (Or.inl ⟨by rfl, ?_⟩) (by assumption) ?_
            case refine_2 => intro w hSw; (try dsimp only at hSw); obtain ⟨hA, hB⟩ := hSw; have i0 := cell_of_row _ _ 0 _ _ _ hA; have i1 := cell_of_row _ _ 1 _ _ _ hA; have i2 := cell_of_row _ _ 2 _ _ _ hA; have j1 := cell_of_row _ _ 1 _ _ _ hB; have j2 := cell_of_row _ _ 2 _ _ _ hB; have j3 := cell_of_row _ _ 3 _ _ _ hB; go_simp; rw [field24]; rfl
            simp only [Act.put, List.setIfInBounds_toArray, List.set_cons_zero, List.set_cons_succ]
            refine wpAnyH_take (i := 6) (oi := { dst := some 41, op := Op.binOp BinOp.neq 3 (Operand.tmp 37) (Operand.tmp 40) 3, type := 4, pos := "prove.go:20", after := #[{ on := 2, ground := Ground.data }, { on := 5, ground := Ground.data }], guard := none }) (v := ?_) rfl (by kernel_rfl) (by kernel_rfl) (by kernel_rfl) (fun _ _ _ h => h) (Or.inl ⟨by rfl, ?_⟩) (by assumption) ?_
            case refine_2 => intro w hSw; (try dsimp only at hSw); obtain ⟨hA, hB⟩ := hSw; have i0 := cell_of_row _ _ 0 _ _ _ hA; have i1 := cell_of_row _ _ 1 _ _ _ hA; have i2 := cell_of_row _ _ 2 _ _ _ hA; have j1 := cell_of_row _ _ 1 _ _ _ hB; have j2 := cell_of_row _ _ 2 _ _ _ hB; have j3 := cell_of_row _ _ 3 _ _ _ hB; go_simp; (try with_reducible rfl)
            simp only [Act.put, List.setIfInBounds_toArray, List.set_cons_zero, List.set_cons_succ]
            refine wpAnyH_done (by kernel_rfl) ?_ _
            have z1 := hcc.2
            have z2 := (hb6.block _ (lt_of_get z2)).trans z2
            have hs6 := hb6.size
            have hB3 := hB2.trans (hb6.mono hB2.size)
            obtain ⟨r4, hr4⟩ := fix_prop (EH (l.take k) l[k] (l.drop (k + 1)) (bs b))
            have HR4 : Hid (r4 = true ↔ EH (l.take k) l[k] (l.drop (k + 1)) (bs b)) := hr4
            have K73 := IF.out (fun q => P q ∧ q ≠ w.heap.size + 1) l (some ⟨ga, off, none⟩) c b ag cg k hkl w5 r4 (by have := HM.out.1; rw [sz_bs] at this; exact this) (fun q hq => ⟨HP.out q (by omega), by omega⟩) (HL.out.keep hB3.size (fun q hq hp => ⟨⟨hp, by omega⟩, hB3.block q hq⟩)) (HG.out.keep hB3.size (fun q hq hp => ⟨⟨hp, by omega⟩, hB3.block q hq⟩)) GL.out GG.out hr4
            unfold vsq at K73
            rw [show (bs b).kind = 1 from rfl, show (bs b).n = b from rfl, show (bs b).kids.length = 0 from rfl] at K73
            clear hr4
            have s0 := cell_of_row _ _ 0 _ _ _ z1
            have s1 := cell_of_row _ _ 1 _ _ _ z1
            have s2 := cell_of_row _ _ 2 _ _ _ z1
            have s3 := cell_of_row _ _ 3 _ _ _ z1
            go_upto_region 13 with (go_at_call 73; (with_reducible refine K73.mono ?_); rintro e3 w6 ⟨p3, q3, rfl, hb7, hg3⟩; clear K73; unfold vpf)
            have x14 := heap_alloc_new w6 (.cells #[.int .i64 p3.step, .slice q3.la p3.left.length q3.lc, .int .i64 p3.goal.kind, .int .i64 p3.goal.n, .slice q3.ga p3.goal.kids.length q3.gc, .int .i64 p3.ix, .int .i64 p3.n, .slice q3.ka p3.kids.length q3.kc] 37)
            have hb14 : Below w6.heap.size w6 (w6.alloc (.cells #[.int .i64 p3.step, .slice q3.la p3.left.length q3.lc, .int .i64 p3.goal.kind, .int .i64 p3.goal.n, .slice q3.ga p3.goal.kids.length q3.gc, .int .i64 p3.ix, .int .i64 p3.n, .slice q3.ka p3.kids.length q3.kc] 37)) := (Below.refl _ w6).alloc (Nat.le_refl _) _
            have hbW := hb7.trans (hb14.mono hb7.size)
            have hB4 := hB3.trans (hbW.mono hB3.size)
            have z1 := (hbW.block _ (lt_of_get z1)).trans z1
            have z2 := (hbW.block _ (lt_of_get z2)).trans z2
            have HG3 : Hid (r4 = true → ∃ e0, PfAt (fun q => P q ∧ q ≠ w.heap.size + 1) w6 d e0 p3 q3 ∧ Good l (bs b) p3) := hg3
            have hs14 : w6.heap.size ≤ (w6.alloc (.cells #[.int .i64 p3.step, .slice q3.la p3.left.length q3.lc, .int .i64 p3.goal.kind, .int .i64 p3.goal.n, .slice q3.ga p3.goal.kids.length q3.gc, .int .i64 p3.ix, .int .i64 p3.n, .slice q3.ka p3.kids.length q3.kc] 37)).heap.size := hb14.size
            clear hg3 s0 s1 s2 s3
            generalize hV : w6.alloc (.cells #[.int .i64 p3.step, .slice q3.la p3.left.length q3.lc, .int .i64 p3.goal.kind, .int .i64 p3.goal.n, .slice q3.ga p3.goal.kids.length q3.gc, .int .i64 p3.ix, .int .i64 p3.n, .slice q3.ka p3.kids.length q3.kc] 37) = W6 at *
            clear hV
            cases r4 with
            | false =>
              go_wp2_with fail
              go_roundw
              case rel =>
                refine ⟨k + 1, by go_num, by omega, hB4, z1, z2, fun k' h1 h2 hf => ?_⟩
                by_cases hnn : k' < k
                · exact HZ.out k' h1 hnn hf
                · obtain rfl : k' = k := by omega
                  have := HR4.out.2 hf
                  cases this
              case measure => simp [intOf]; omega
            | true =>
              have hrt : r = true := HX.out.2.2 (E_bs_iff.2 ⟨k, hkl, HR4.out.1 (by trivial)⟩)
              have v0 := cell_of_row _ _ 0 _ _ _ x14
              have v1 := cell_of_row _ _ 1 _ _ _ x14
              have v2 := cell_of_row _ _ 2 _ _ _ x14
              have v3 := cell_of_row _ _ 3 _ _ _ x14
              have v4 := cell_of_row _ _ 4 _ _ _ x14
              have v5 := cell_of_row _ _ 5 _ _ _ x14
              have v6 := cell_of_row _ _ 6 _ _ _ x14
              have v7 := cell_of_row _ _ 7 _ _ _ x14
              have zq0 := cell_of_row _ _ 0 _ _ _ z2
              have zq1 := cell_of_row _ _ 1 _ _ _ z2
              have zq2 := cell_of_row _ _ 2 _ _ _ z2
              have zq3 := cell_of_row _ _ 3 _ _ _ z2
              have zq4 := cell_of_row _ _ 4 _ _ _ z2
              have zq5 := cell_of_row _ _ 5 _ _ _ z2
              have zq6 := cell_of_row _ _ 6 _ _ _ z2
              have zq7 := cell_of_row _ _ 7 _ _ _ z2
              have ze0 := frozen_of_row _ _ 0 _ 37 z2
              have ze1 := frozen_of_row _ _ 1 _ 37 z2
              have ze2 := frozen_of_row _ _ 2 _ 37 z2
              have ze3 := frozen_of_row _ _ 3 _ 37 z2
              have ze4 := frozen_of_row _ _ 4 _ 37 z2
              have ze5 := frozen_of_row _ _ 5 _ 37 z2
              have ze6 := frozen_of_row _ _ 6 _ 37 z2
              have ze7 := frozen_of_row _ _ 7 _ 37 z2
              go_wp2_with fail
              refine bodyPost_ret (results_37 rfl _ _ (w.heap.size + 1) _ rfl (laid8 z2 _ _ _ _ _ _ _ _) rfl) rfl ?_
              subst hrt
              refine ⟨p3, q3, by rfl, below8 hB4 (by omega) _ _ _ _ _ _ _ _, fun h => ?_⟩
              obtain ⟨e0, hp, hgood⟩ := HG3.out (by trivial)
              exact ⟨e0, hp.keep (by simp; exact hs14) (fun q hq hp => ⟨hp.1, (ko8 _ _ _ _ _ _ _ _ _ _ q hp.2).trans (hb14.block q hq)⟩), hgood⟩
          · skip
            refine wp_region_held_drew (S := fun W => W.heap[b5]? = some (.cells #[.int .i64 l[k].kind, .int .i64 l[k].n, .slice a' l[k].kids.length c'] 24 (0, 0)) ∧ W.heap[w.heap.size]? = some (.cells #[.slice (some ⟨ga, off, none⟩) l.length c, .int .i64 1, .int .i64 b, .slice ag 0 cg] 79 (0, 0))) (by kernel_rfl) (by exact ⟨x5, z1⟩) (fun hHeld => ?_)
            refine wpAnyH_take (i := 0) (oi := { dst := some 35, op := Op.load 24 (Operand.tmp 5), type := 24, pos := "prove.go:20", after := #[], guard := none }) (v := ?_) rfl (by kernel_rfl) (by kernel_rfl) (by kernel_rfl) (fun _ _ _ h => h) (Or.inl ⟨by rfl, ?_⟩) (by assumption) ?_
            case refine_2 => intro w hSw; (try dsimp only at hSw); obtain ⟨hA, hB⟩ := hSw; have i0 := cell_of_row _ _ 0 _ _ _ hA; have i1 := cell_of_row _ _ 1 _ _ _ hA; have i2 := cell_of_row _ _ 2 _ _ _ hA; have j1 := cell_of_row _ _ 1 _ _ _ hB; have j2 := cell_of_row _ _ 2 _ _ _ hB; have j3 := cell_of_row _ _ 3 _ _ _ hB; go_simp; (try with_reducible rfl)
            simp only [Act.put, List.setIfInBounds_toArray, List.set_cons_zero, List.set_cons_succ]
            refine wpAnyH_take (i := 3) (oi := { dst := some 38, op := Op.fieldAddr 79 (Operand.tmp 1) 1, type := 0, pos := "prove.go:20", after := #[], guard := none }) (v := ?_) rfl (by kernel_rfl) (by kernel_rfl) (by kernel_rfl) (fun _ _ _ h => h) (Or.inl ⟨by rfl, ?_⟩) (by assumption) ?_
            case refine_2 => intro w hSw; (try dsimp only at hSw); obtain ⟨hA, hB⟩ := hSw; have i0 := cell_of_row _ _ 0 _ _ _ hA; have i1 := cell_of_row _ _ 1 _ _ _ hA; have i2 := cell_of_row _ _ 2 _ _ _ hA; have j1 := cell_of_row _ _ 1 _ _ _ hB; have j2 := cell_of_row _ _ 2 _ _ _ hB; have j3 := cell_of_row _ _ 3 _ _ _ hB; go_simp; (try with_reducible rfl)
            simp only [Act.put, List.setIfInBounds_toArray, List.set_cons_zero, List.set_cons_succ]
            refine wpAnyH_take (i := 4) (oi := { dst := some 39, op := Op.fieldAddr 24 (Operand.tmp 38) 1, type := 0, pos := "prove.go:20", after := #[{ on := 3, ground := Ground.data }], guard := none }) (v := ?_) rfl (by kernel_rfl) (by kernel_rfl) (by kernel_rfl) (fun _ _ _ h => h) (Or.inl ⟨by rfl, ?_⟩) (by assumption) ?_
            case refine_2 => intro w hSw; (try dsimp only at hSw); obtain ⟨hA, hB⟩ := hSw; have i0 := cell_of_row _ _ 0 _ _ _ hA; have i1 := cell_of_row _ _ 1 _ _ _ hA; have i2 := cell_of_row _ _ 2 _ _ _ hA; have j1 := cell_of_row _ _ 1 _ _ _ hB; have j2 := cell_of_row _ _ 2 _ _ _ hB; have j3 := cell_of_row _ _ 3 _ _ _ hB; go_simp; (try with_reducible rfl)
            simp only [Act.put, List.setIfInBounds_toArray, List.set_cons_zero, List.set_cons_succ]
            refine wpAnyH_take (i := 5) (oi := { dst := some 40, op := Op.load 3 (Operand.tmp 39), type := 3, pos := "prove.go:20", after := #[{ on := 4, ground := Ground.data }], guard := none }) (v := ?_) rfl (by kernel_rfl) (by kernel_rfl) (by kernel_rfl) (fun _ _ _ h => h) (Or.inl ⟨by rfl, ?_⟩) (by assumption) ?_
            case refine_2 => intro w hSw; (try dsimp only at hSw); obtain ⟨hA, hB⟩ := hSw; have i0 := cell_of_row _ _ 0 _ _ _ hA; have i1 := cell_of_row _ _ 1 _ _ _ hA; have i2 := cell_of_row _ _ 2 _ _ _ hA; have j1 := cell_of_row _ _ 1 _ _ _ hB; have j2 := cell_of_row _ _ 2 _ _ _ hB; have j3 := cell_of_row _ _ 3 _ _ _ hB; go_simp; (try with_reducible rfl)
            simp only [Act.put, List.setIfInBounds_toArray, List.set_cons_zero, List.set_cons_succ]
            refine wpAnyH_ready (rs := [1]) (by kernel_rfl) (by simp) ?_
            refine (AllReadyH.cons (o := { dst := some 36, op := Op.call { callee := Callee.value (Operand.func 72), args := #[Operand.tmp 35], argTypes := #[24] }, type := 24, pos := "prove.go:20", after := #[{ on := 0, ground := Ground.data }], guard := none }) rfl (fun K hK => ?_) AllReadyH.nil)
            go_simp
            (with_reducible refine K72.mono ?_)
            rintro e5 w5 ⟨a5, c5, rfl, hb5⟩
            clear K72
            dsimp only
            have hb6 : Below W1.heap.size W1 w5 := (Below.refl _ W1).drew.trans hb5
            have hcc : w5.heap[b5]? = some (.cells #[.int .i64 l[k].kind, .int .i64 l[k].n, .slice a' l[k].kids.length c'] 24 (0, 0)) ∧ w5.heap[w.heap.size]? = some (.cells #[.slice (some ⟨ga, off, none⟩) l.length c, .int .i64 1, .int .i64 b, .slice ag 0 cg] 79 (0, 0)) := ⟨(hb6.block _ (lt_of_get x5)).trans x5, (hb6.block _ (lt_of_get z1)).trans z1⟩
            refine hK.out _ _ ?_ (fun hHeld => ?_)
            · exact hcc
            clear hK K
            try simp only [Act.put, List.setIfInBounds_toArray, List.set_cons_zero, List.set_cons_succ]
            refine wpAnyH_take (i := 2) (oi := { dst := some 37, op := Op.field 24 (Operand.tmp 36) 1, type := 3, pos := "prove.go:20", after := #[{ on := 1, ground := Ground.data }], guard := none }) (v := ?_) rfl (by kernel_rfl) (by kernel_rfl) (by kernel_rfl) (fun _ _ _ h => h) (Or.inl ⟨by rfl, ?_⟩) (by assumption) ?_
            case refine_2 => intro w hSw; (try dsimp only at hSw); obtain ⟨hA, hB⟩ := hSw; have i0 := cell_of_row _ _ 0 _ _ _ hA; have i1 := cell_of_row _ _ 1 _ _ _ hA; have i2 := cell_of_row _ _ 2 _ _ _ hA; have j1 := cell_of_row _ _ 1 _ _ _ hB; have j2 := cell_of_row _ _ 2 _ _ _ hB; have j3 := cell_of_row _ _ 3 _ _ _ hB; go_simp; rw [field24]; rfl
            simp only [Act.put, List.setIfInBounds_toArray, List.set_cons_zero, List.set_cons_succ]
            refine wpAnyH_take (i := 6) (oi := { dst := some 41, op := Op.binOp BinOp.neq 3 (Operand.tmp 37) (Operand.tmp 40) 3, type := 4, pos := "prove.go:20", after := #[{ on := 2, ground := Ground.data }, { on := 5, ground := Ground.data }], guard := none }) (v := ?_) rfl (by kernel_rfl) (by kernel_rfl) (by kernel_rfl) (fun _ _ _ h => h) (Or.inl ⟨by rfl, ?_⟩) (by assumption) ?_
            case refine_2 => intro w hSw; (try dsimp only at hSw); obtain ⟨hA, hB⟩ := hSw; have i0 := cell_of_row _ _ 0 _ _ _ hA; have i1 := cell_of_row _ _ 1 _ _ _ hA; have i2 := cell_of_row _ _ 2 _ _ _ hA; have j1 := cell_of_row _ _ 1 _ _ _ hB; have j2 := cell_of_row _ _ 2 _ _ _ hB; have j3 := cell_of_row _ _ 3 _ _ _ hB; go_simp; (try with_reducible rfl)
            simp only [Act.put, List.setIfInBounds_toArray, List.set_cons_zero, List.set_cons_succ]
            refine wpAnyH_done (by kernel_rfl) ?_ _
            have z1 := hcc.2
            have z2 := (hb6.block _ (lt_of_get z2)).trans z2
            have hs6 := hb6.size
            have hB3 := hB2.trans (hb6.mono hB2.size)
            go_wp2_with fail
            go_roundw
            case rel =>
              refine ⟨k + 1, by go_num, by omega, hB3, z1, z2, fun k' h1 h2 hf => ?_⟩
              by_cases hnn : k' < k
              · exact HZ.out k' h1 hnn hf
              · obtain rfl : k' = k := by omega
                exact he (EH_end hf)
            case measure => simp [intOf]; omega
        · have hkl2 : ¬ (k : Int) < (l.length : Int) := by omega
          have HRF : r = false := by
            cases hrr : r
            · rfl
            · obtain ⟨k', h1, h2⟩ := E_bs_iff.1 (HX.out.2.1 hrr)
              exact (HZ.out k' h1 (by omega) h2).elim
          have q0 := cell_of_row _ _ 0 _ _ _ z2'
          have q1 := cell_of_row _ _ 1 _ _ _ z2'
          have q2 := cell_of_row _ _ 2 _ _ _ z2'
          have q3 := cell_of_row _ _ 3 _ _ _ z2'
          have q4 := cell_of_row _ _ 4 _ _ _ z2'
          have q5 := cell_of_row _ _ 5 _ _ _ z2'
          have q6 := cell_of_row _ _ 6 _ _ _ z2'
          have q7 := cell_of_row _ _ 7 _ _ _ z2'
          have e0 := frozen_of_row _ _ 0 _ 37 z2'
          have e1 := frozen_of_row _ _ 1 _ 37 z2'
          have e2 := frozen_of_row _ _ 2 _ 37 z2'
          have e3 := frozen_of_row _ _ 3 _ 37 z2'
          have e4 := frozen_of_row _ _ 4 _ 37 z2'
          have e5 := frozen_of_row _ _ 5 _ 37 z2'
          have e6 := frozen_of_row _ _ 6 _ 37 z2'
          have e7 := frozen_of_row _ _ 7 _ 37 z2'
          go_wp2_with fail
          refine bodyPost_ret (results_37 rfl _ _ (w.heap.size + 1) _ rfl (laid8 z2' _ _ _ _ _ _ _ _) rfl) rfl ?_
          subst HRF
          exact prQ_false (below8 hB (by omega) _ _ _ _ _ _ _ _) ⟨0, [], ⟨0, 0, []⟩, 0, 0, []⟩ ⟨none, 0, none, 0, none, 0⟩ rfl
    · skip
      have hk2 : g.kind = 2 := by rw [hgx]; rfl
      have HGX : Hid (g = ov x y) := hgx
      have hr1 : r = true ↔ E (l ++ [y] ++ []) x := by
        rw [HX.out.2, HGX.out]
        exact ⟨fun h => by have := E_ov_inv h; simpa using this, fun h => E_ov (by simpa using h)⟩
      have K71 := goal_any (P := fun q => P q ∧ q ≠ w.heap.size + 1) (d := d) (M := M) 2 l a c g ag cg (l ++ [y] ++ []) x w1 r (by decide) (fun ks => by rw [HGX.out]; exact bef_ov HX.out.1) (by simp) hle (by have := HM.out.1; rw [HGX.out, sz_ov] at this; simp only [szs_app, szs_cons, szs_nil]; omega) (fun q hq => ⟨HP.out q (by omega), by omega⟩) (HL.out.keep hB1.size (fun q hq hp => ⟨⟨hp, by omega⟩, hB1.block q hq⟩)) (HG.out.keep hB1.size (fun q hq hp => ⟨⟨hp, by omega⟩, hB1.block q hq⟩)) GL.out GG.out (by
        intro t ht
        simp only [List.mem_append, List.mem_cons, List.not_mem_nil, or_false] at ht
        first
          | (rcases ht with ht | rfl
             · exact GL.out t ht
             · exact hgy)
          | (rcases ht with rfl | ht
             · exact hgy
             · exact GL.out t ht)) hgx1 hr1 IP.out
      unfold vsq at K71
      rw [hk2] at K71
      clear hr1 hgx
      have s0 := cell_of_row _ _ 0 _ _ _ z1
      have s1 := cell_of_row _ _ 1 _ _ _ z1
      have s2 := cell_of_row _ _ 2 _ _ _ z1
      have s3 := cell_of_row _ _ 3 _ _ _ z1
      go_wp2_with (go_at_call 71; (with_reducible refine K71.mono ?_); rintro e3 w3 ⟨p3, q3, rfl, hb3, hg3⟩; clear K71; unfold vpf; have zz := (hb3.block _ (lt_of_get z2)).trans z2; have zq0 := cell_of_row _ _ 0 _ _ _ zz; have ze0 := frozen_of_row _ _ 0 _ 37 zz; have zq1 := cell_of_row _ _ 1 _ _ _ zz; have ze1 := frozen_of_row _ _ 1 _ 37 zz; have zq2 := cell_of_row _ _ 2 _ _ _ zz; have ze2 := frozen_of_row _ _ 2 _ 37 zz; have zq3 := cell_of_row _ _ 3 _ _ _ zz; have ze3 := frozen_of_row _ _ 3 _ 37 zz; have zq4 := cell_of_row _ _ 4 _ _ _ zz; have ze4 := frozen_of_row _ _ 4 _ 37 zz; have zq5 := cell_of_row _ _ 5 _ _ _ zz; have ze5 := frozen_of_row _ _ 5 _ 37 zz; have zq6 := cell_of_row _ _ 6 _ _ _ zz; have ze6 := frozen_of_row _ _ 6 _ 37 zz; have zq7 := cell_of_row _ _ 7 _ _ _ zz; have ze7 := frozen_of_row _ _ 7 _ 37 zz)
      refine bodyPost_ret (results_37 rfl _ _ (w.heap.size + 1) _ rfl (laid8 zz _ _ _ _ _ _ _ _) rfl) rfl ?_
      refine ⟨p3, q3, by rfl, below8 (hB1.trans (hb3.mono hB1.size)) (by omega) _ _ _ _ _ _ _ _, fun h => ?_⟩
      obtain ⟨e0, hp, hgood⟩ := hg3 h
      exact ⟨e0, hp.keep (by simp) (fun q hq hp => ⟨hp.1, (ko8 _ _ _ _ _ _ _ _ _ _ q hp.2)⟩), hgood⟩
    · skip
      have hk2 : g.kind = 3 := by rw [hgx]; rfl
      have HGX : Hid (g = un y x) := hgx
      have hr1 : r = true ↔ E ([] ++ [y] ++ l) x := by
        rw [HX.out.2, HGX.out]
        exact ⟨fun h => by have := E_un_inv h; simpa using this, fun h => E_un (by simpa using h)⟩
      have K71 := goal_any (P := fun q => P q ∧ q ≠ w.heap.size + 1) (d := d) (M := M) 3 l a c g ag cg ([] ++ [y] ++ l) x w1 r (by decide) (fun ks => by rw [HGX.out]; exact bef_un HX.out.1) (by simp) hle (by have := HM.out.1; rw [HGX.out, sz_un] at this; simp only [szs_app, szs_cons, szs_nil]; omega) (fun q hq => ⟨HP.out q (by omega), by omega⟩) (HL.out.keep hB1.size (fun q hq hp => ⟨⟨hp, by omega⟩, hB1.block q hq⟩)) (HG.out.keep hB1.size (fun q hq hp => ⟨⟨hp, by omega⟩, hB1.block q hq⟩)) GL.out GG.out (by
        intro t ht
        simp only [List.mem_append, List.mem_cons, List.not_mem_nil, or_false, false_or] at ht
        first
          | (rcases ht with ht | rfl
             · exact GL.out t ht
             · exact hgy)
          | (rcases ht with rfl | ht
             · exact hgy
             · exact GL.out t ht)) hgx1 hr1 IP.out
      unfold vsq at K71
      rw [hk2] at K71
      clear hr1 hgx
      have s0 := cell_of_row _ _ 0 _ _ _ z1
      have s1 := cell_of_row _ _ 1 _ _ _ z1
      have s2 := cell_of_row _ _ 2 _ _ _ z1
      have s3 := cell_of_row _ _ 3 _ _ _ z1
      go_wp2_with (go_at_call 71; (with_reducible refine K71.mono ?_); rintro e3 w3 ⟨p3, q3, rfl, hb3, hg3⟩; clear K71; unfold vpf; have zz := (hb3.block _ (lt_of_get z2)).trans z2; have zq0 := cell_of_row _ _ 0 _ _ _ zz; have ze0 := frozen_of_row _ _ 0 _ 37 zz; have zq1 := cell_of_row _ _ 1 _ _ _ zz; have ze1 := frozen_of_row _ _ 1 _ 37 zz; have zq2 := cell_of_row _ _ 2 _ _ _ zz; have ze2 := frozen_of_row _ _ 2 _ 37 zz; have zq3 := cell_of_row _ _ 3 _ _ _ zz; have ze3 := frozen_of_row _ _ 3 _ 37 zz; have zq4 := cell_of_row _ _ 4 _ _ _ zz; have ze4 := frozen_of_row _ _ 4 _ 37 zz; have zq5 := cell_of_row _ _ 5 _ _ _ zz; have ze5 := frozen_of_row _ _ 5 _ 37 zz; have zq6 := cell_of_row _ _ 6 _ _ _ zz; have ze6 := frozen_of_row _ _ 6 _ 37 zz; have zq7 := cell_of_row _ _ 7 _ _ _ zz; have ze7 := frozen_of_row _ _ 7 _ 37 zz)
      refine bodyPost_ret (results_37 rfl _ _ (w.heap.size + 1) _ rfl (laid8 zz _ _ _ _ _ _ _ _) rfl) rfl ?_
      refine ⟨p3, q3, by rfl, below8 (hB1.trans (hb3.mono hB1.size)) (by omega) _ _ _ _ _ _ _ _, fun h => ?_⟩
      obtain ⟨e0, hp, hgood⟩ := hg3 h
      exact ⟨e0, hp.keep (by simp) (fun q hq hp => ⟨hp.1, (ko8 _ _ _ _ _ _ _ _ _ _ q hp.2)⟩), hgood⟩
end Go.Proofs.Ytbmgkgoghgdbhaa.Te
/- prove finds a proof without cuts just where there is a proof. Condition: the sequent is small. -/
namespace Go.Proofs.Ytbmgkgoghgdbhaa.Te
open Go.RowKit

theorem both_all {d : Nat} : ∀ M, M ≤ 700 → ProveOk d M ∧ FromOk d M := by
  intro M
  induction M using Nat.strongRecOn with
  | ind M ih =>
    intro hM
    have hF := from_all hM (fun M' h => (ih M' h (by omega)).1) (fun M' h => (ih M' h (by omega)).2)
    exact ⟨prove_of hM (fun M' h => (ih M' h (by omega)).1) hF, hF⟩
theorem prove_any {d : Nat} : ProveOk d 700 := (both_all 700 (Nat.le_refl _)).1
end Go.Proofs.Ytbmgkgoghgdbhaa.Te
