/- Says, with no program text: the first choice in order, and the choice that follows. No conditions. -/
import Derived.Test.YtbmgkgoghgdbhaaPa
namespace Go.Proofs.Ytbmgkgoghgdbhaa.Te
open Go.RowKit

/-- the first entry of a list, counted from i, that f takes -/
def firstI (f : Ty → Option (List Nat)) : Nat → List Ty → Option (List Nat)
  | _, [] => none
  | i, t :: ts => match f t with
    | some r => some (i :: r)
    | none => firstI f (i + 1) ts
/-- the document's search: the first choice in order for which D holds -/
def fs (D : List Ty → Bool) : List (List Ty) → List Ty → Option (List Nat)
  | [], l => if D l = true then some [] else none
  | w :: ws, l => firstI (fun t => fs D ws (l ++ [t])) 0 w
/-- the same, of the choices from cs on -/
def fr (D : List Ty → Bool) : List (List Ty) → List Nat → List Ty → Option (List Nat)
  | [], [], l => if D l = true then some [] else none
  | w :: ws, c :: cs, l => match w[c]? with
    | none => none
    | some t => match fr D ws cs (l ++ [t]) with
      | some r => some (c :: r)
      | none => firstI (fun t => fs D ws (l ++ [t])) (c + 1) (w.drop (c + 1))
  | _, _, _ => none
def Fits : List (List Ty) → List Nat → Prop
  | [], [] => True
  | w :: ws, c :: cs => c < w.length ∧ Fits ws cs
  | _, _ => False
def pk : List (List Ty) → List Nat → List Ty
  | w :: ws, c :: cs => match w[c]? with
    | some t => t :: pk ws cs
    | none => pk ws cs
  | _, _ => []
def zeros (ws : List (List Ty)) : List Nat := ws.map fun _ => 0
/-- the choice that follows -/
def nx : List (List Ty) → List Nat → Option (List Nat)
  | w :: ws, c :: cs => match nx ws cs with
    | some r => some (c :: r)
    | none => if c + 1 < w.length then some ((c + 1) :: zeros ws) else none
  | _, _ => none
def prodL : List (List Ty) → Nat
  | [] => 1
  | w :: ws => w.length * prodL ws
/-- how many choices follow -/
def rest : List (List Ty) → List Nat → Nat
  | w :: ws, c :: cs => (w.length - 1 - c) * prodL ws + rest ws cs
  | _, _ => 0
theorem fits_len : ∀ {ws : List (List Ty)} {cs : List Nat}, Fits ws cs → cs.length = ws.length
  | [], [], _ => rfl
  | _ :: _, _ :: _, h => by simp only [List.length_cons]; rw [fits_len h.2]
  | [], _ :: _, h => h.elim
  | _ :: _, [], h => h.elim
theorem fits_zeros : ∀ (ws : List (List Ty)), (∀ w ∈ ws, 0 < w.length) → Fits ws (zeros ws)
  | [], _ => trivial
  | w :: ws, h => ⟨h w (List.mem_cons_self ..), fits_zeros ws fun v hv => h v (List.mem_cons_of_mem _ hv)⟩
theorem fr_zero (D : List Ty → Bool) : ∀ (ws : List (List Ty)) (l : List Ty), (∀ w ∈ ws, 0 < w.length) → fr D ws (zeros ws) l = fs D ws l
  | [], _, _ => rfl
  | [] :: _, _, h => absurd (h [] (List.mem_cons_self ..)) (by simp)
  | (t :: ts) :: ws, l, h => by
    have ih := fr_zero D ws (l ++ [t]) fun v hv => h v (List.mem_cons_of_mem _ hv)
    show fr D ((t :: ts) :: ws) (0 :: zeros ws) l = firstI (fun t => fs D ws (l ++ [t])) 0 (t :: ts)
    simp only [fr, firstI, List.getElem?_cons_zero, ih, List.drop_succ_cons, List.drop_zero]
theorem fr_hit (D : List Ty → Bool) : ∀ (ws : List (List Ty)) (cs : List Nat) (l : List Ty), Fits ws cs → D (l ++ pk ws cs) = true → fr D ws cs l = some cs
  | [], [], l, _, h => by
    simp only [pk, List.append_nil] at h
    simp only [fr, h, if_pos]
  | w :: ws, c :: cs, l, hf, h => by
    have hcl : c < w.length := hf.1
    have hc : w[c]? = some w[c] := List.getElem?_eq_getElem hcl
    simp only [pk, hc] at h
    have ih := fr_hit D ws cs (l ++ [w[c]]) hf.2 (by rw [List.append_assoc]; exact h)
    simp only [fr, hc, ih]
  | [], _ :: _, _, h, _ => h.elim
  | _ :: _, [], _, h, _ => h.elim
theorem firstI_drop (D : List Ty → Bool) (ws : List (List Ty)) (l w : List Ty) (c : Nat) (h0 : ∀ v ∈ ws, 0 < v.length) : firstI (fun t => fs D ws (l ++ [t])) (c + 1) (w.drop (c + 1)) = if c + 1 < w.length then fr D (w :: ws) ((c + 1) :: zeros ws) l else none := by
  by_cases h : c + 1 < w.length
  · rw [if_pos h, List.drop_eq_getElem_cons h]
    have hc : w[c + 1]? = some w[c + 1] := List.getElem?_eq_getElem h
    simp only [fr, firstI, hc, fr_zero D ws _ h0]
  · rw [if_neg h, List.drop_eq_nil_of_le (by omega)]
    rfl
theorem nx_fits : ∀ (ws : List (List Ty)) (cs : List Nat), (∀ w ∈ ws, 0 < w.length) → Fits ws cs → ∀ r, nx ws cs = some r → Fits ws r ∧ rest ws r < rest ws cs
  | [], [], _, _, r, h => by simp [nx] at h
  | w :: ws, c :: cs, h0, hf, r, h => by
    have h1 : ∀ v ∈ ws, 0 < v.length := fun v hv => h0 v (List.mem_cons_of_mem _ hv)
    simp only [nx] at h
    cases hn : nx ws cs with
    | some q =>
      simp only [hn, Option.some.injEq] at h
      subst h
      obtain ⟨a, b⟩ := nx_fits ws cs h1 hf.2 q hn
      exact ⟨⟨hf.1, a⟩, by simp only [rest]; omega⟩
    | none =>
      simp only [hn] at h
      split at h
      next hc =>
        simp only [Option.some.injEq] at h
        subst h
        refine ⟨⟨hc, fits_zeros ws h1⟩, ?_⟩
        have hr : ∀ vs : List (List Ty), (∀ v ∈ vs, 0 < v.length) → rest vs (zeros vs) + 1 = prodL vs := by
          intro vs
          induction vs with
          | nil => intro _; rfl
          | cons v vs ih =>
            intro hv
            have hv0 := hv v (List.mem_cons_self ..)
            have ih := ih fun u hu => hv u (List.mem_cons_of_mem _ hu)
            show (v.length - 1 - 0) * prodL vs + rest vs (zeros vs) + 1 = v.length * prodL vs
            obtain ⟨n, hn⟩ : ∃ n, v.length = n + 1 := ⟨v.length - 1, by omega⟩
            rw [hn, show n + 1 - 1 - 0 = n from by omega, Nat.succ_mul]
            omega
        have hr := hr ws h1
        show (w.length - 1 - (c + 1)) * prodL ws + rest ws (zeros ws) < (w.length - 1 - c) * prodL ws + rest ws cs
        obtain ⟨n, hn⟩ : ∃ n, w.length - 1 - c = n + 1 := ⟨w.length - 1 - c - 1, by omega⟩
        rw [hn, show w.length - 1 - (c + 1) = n from by omega, Nat.succ_mul]
        omega
      next => cases h
  | [], _ :: _, _, h, _, _ => h.elim
  | _ :: _, [], _, h, _, _ => h.elim
theorem fr_next (D : List Ty → Bool) : ∀ (ws : List (List Ty)) (cs : List Nat) (l : List Ty), (∀ w ∈ ws, 0 < w.length) → Fits ws cs → D (l ++ pk ws cs) = false → fr D ws cs l = (match nx ws cs with | some r => fr D ws r l | none => none)
  | [], [], l, _, _, h => by
    simp only [pk, List.append_nil] at h
    simp [fr, nx, h]
  | w :: ws, c :: cs, l, h0, hf, h => by
    have h1 : ∀ v ∈ ws, 0 < v.length := fun v hv => h0 v (List.mem_cons_of_mem _ hv)
    have hcl : c < w.length := hf.1
    have hc : w[c]? = some w[c] := List.getElem?_eq_getElem hcl
    simp only [pk, hc] at h
    have ih := fr_next D ws cs (l ++ [w[c]]) h1 hf.2 (by rw [List.append_assoc]; exact h)
    cases hn : nx ws cs with
    | some q =>
      have e : nx (w :: ws) (c :: cs) = some (c :: q) := by simp only [nx, hn]
      rw [e]
      simp only [hn] at ih
      simp only [fr, hc, ih]
    | none =>
      simp only [hn] at ih
      have e : nx (w :: ws) (c :: cs) = if c + 1 < w.length then some ((c + 1) :: zeros ws) else none := by simp only [nx, hn]
      have e2 : fr D (w :: ws) (c :: cs) l = firstI (fun t => fs D ws (l ++ [t])) (c + 1) (w.drop (c + 1)) := by simp only [fr, hc, ih]
      rw [e, e2, firstI_drop D ws l w c h1]
      by_cases hh : c + 1 < w.length
      · simp only [if_pos hh]
      · simp only [if_neg hh]
  | [], _ :: _, _, _, h, _ => h.elim
  | _ :: _, [], _, _, h, _ => h.elim
theorem nx_snoc : ∀ (ws : List (List Ty)) (cs : List Nat) (w : List Ty) (c : Nat), cs.length = ws.length → nx (ws ++ [w]) (cs ++ [c]) = if c + 1 < w.length then some (cs ++ [c + 1]) else (nx ws cs).map (· ++ [0])
  | [], [], w, c, _ => by
    simp only [List.nil_append, nx, zeros, List.map_nil, Option.map_none]
  | v :: ws, b :: cs, w, c, h => by
    have ih := nx_snoc ws cs w c (by simpa using h)
    simp only [List.cons_append, nx, ih]
    by_cases hh : c + 1 < w.length
    · simp only [if_pos hh]
    · simp only [if_neg hh]
      cases nx ws cs with
      | some q => simp
      | none =>
        by_cases hb : b + 1 < v.length
        · simp [hb, zeros]
        · simp [hb]
  | [], _ :: _, _, _, h => by simp at h
  | _ :: _, [], _, _, h => by simp at h
/-- what next does from its end: all behind the first n are wound up -/
theorem nx_wound (us vs : List (List Ty)) (cs ds : List Nat) (hl : cs.length = us.length) (hv : nx vs ds = none) : nx (us ++ vs) (cs ++ ds) = (nx us cs).map (· ++ zeros vs) := by
  induction us generalizing cs with
  | nil =>
    cases cs with
    | nil => simp [nx, hv]
    | cons => simp at hl
  | cons u us ih =>
    cases cs with
    | nil => simp at hl
    | cons c cs =>
      have ih := ih cs (by simpa using hl)
      simp only [List.cons_append, nx, ih]
      cases nx us cs with
      | some q => simp
      | none =>
        by_cases hb : c + 1 < u.length
        · simp [hb, zeros]
        · simp [hb]
end Go.Proofs.Ytbmgkgoghgdbhaa.Te
