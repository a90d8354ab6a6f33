/- Plain facts on the units of a text: what a range over a string hands over, unit by unit, is what the document's reading by lead bytes gives. No conditions but that the place lies in the text. -/
import Derived.Lib.RuneCount
import Derived.Lib.RuneBytes
import Derived.Lib.Small
import Derived.Lib.Strings
namespace Go.Proofs.Ytiiheaopamjijaa.Uni

/-- the byte at a place, as a number (0 beyond the end) -/
def bt (s : ByteArray) (k : Nat) : Nat := (s.get! k).toNat

theorem bt_lt (s : ByteArray) (k : Nat) : bt s k < 256 := (s.get! k).toNat_lt

theorem bt_eq (s : ByteArray) (k : Nat) (h : k < s.size) : (s[k]'h).toNat = bt s k := by
  unfold bt
  have := get_at s k h
  simp at this
  rw [this]

/-- does a byte go on a letter? -/
def goB (s : ByteArray) (k : Nat) : Bool := decide (k < s.size ∧ 128 ≤ bt s k ∧ bt s k ≤ 191)
abbrev goesOn (s : ByteArray) (k : Nat) : Prop := goB s k = true
theorem goesOn_iff (s : ByteArray) (k : Nat) : goB s k = true ↔ (k < s.size ∧ 128 ≤ bt s k ∧ bt s k ≤ 191) := by unfold goB; exact decide_eq_true_iff
theorem goesOn_lt {s : ByteArray} {k : Nat} (h : goesOn s k) : k < s.size := ((goesOn_iff s k).1 h).1

def isB (c : Nat) : Bool := decide (c ≤ 1114111 ∧ ¬ (55296 ≤ c ∧ c ≤ 57343))
abbrev isLet (c : Nat) : Prop := isB c = true
theorem isLet_iff (c : Nat) : isB c = true ↔ (c ≤ 1114111 ∧ ¬ (55296 ≤ c ∧ c ≤ 57343)) := by unfold isB; exact decide_eq_true_iff

def c2 (s : ByteArray) (i : Nat) : Nat := (bt s i - 192) * 64 + (bt s (i + 1) - 128)
def c3 (s : ByteArray) (i : Nat) : Nat := ((bt s i - 224) * 64 + (bt s (i + 1) - 128)) * 64 + (bt s (i + 2) - 128)
def c4 (s : ByteArray) (i : Nat) : Nat := (((bt s i - 240) * 64 + (bt s (i + 1) - 128)) * 64 + (bt s (i + 2) - 128)) * 64 + (bt s (i + 3) - 128)

/-- THE DOCUMENT's READING: the letter at a place and its bytes; -1, 1: a stray -/
def ua (s : ByteArray) (i : Nat) : Int × Nat :=
  if bt s i < 128 then ((bt s i : Int), 1)
  else if 192 ≤ bt s i ∧ bt s i < 224 ∧ (goB s (i + 1) = true) ∧ 128 ≤ c2 s i then ((c2 s i : Int), 2)
  else if 224 ≤ bt s i ∧ bt s i < 240 ∧ (goB s (i + 1) = true) ∧ (goB s (i + 2) = true) ∧ 2048 ≤ c3 s i ∧ (isB (c3 s i) = true) then ((c3 s i : Int), 3)
  else if 240 ≤ bt s i ∧ bt s i < 248 ∧ (goB s (i + 1) = true) ∧ (goB s (i + 2) = true) ∧ (goB s (i + 3) = true) ∧ 65536 ≤ c4 s i ∧ (isB (c4 s i) = true) then ((c4 s i : Int), 4)
  else (-1, 1)

theorem valid_isLet (c : Nat) : Utf8.valid (c : Int) = isB c := by
  rw [validRune_eq]
  unfold validRune
  by_cases h : c ≤ 1114111 ∧ ¬ (55296 ≤ c ∧ c ≤ 57343)
  · rw [(isLet_iff c).2 h, decide_eq_true (by omega)]
  · rw [show isB c = false from decide_eq_false h, decide_eq_false (by omega)]

theorem decode_ua (s : ByteArray) (i : Nat) :
    Utf8.decode s i = (if (ua s i).1 = -1 then (65533, 1) else ((ua s i).1.toNat, (ua s i).2)) := by
  have hb0 := bt_lt s i
  have hb1 := bt_lt s (i + 1)
  have hb2 := bt_lt s (i + 2)
  have hb3 := bt_lt s (i + 3)
  have e : ∀ k, (s.get! (i + k)).toNat = bt s (i + k) := fun k => rfl
  have e0 : (s.get! i).toNat = bt s i := rfl
  unfold Utf8.decode ua
  simp only [e, e0, Nat.add_zero, Utf8.runeError]
  have g : ∀ k, (decide (i + k < s.size) && (bt s (i + k) / 64 == 2)) = goB s (i + k) := by
    intro k
    have hk := bt_lt s (i + k)
    unfold goB
    by_cases h1 : i + k < s.size
    · by_cases h2 : 128 ≤ bt s (i + k) ∧ bt s (i + k) ≤ 191
      · have q : bt s (i + k) / 64 = 2 := by omega
        simp [h1, h2, q]
      · have q : ¬ bt s (i + k) / 64 = 2 := by omega
        simp only [h1, h2, true_and, decide_false]
        simpa using q
    · simp [h1]
  simp only [g]
  by_cases h0 : bt s i < 128
  · simp [h0]
  simp only [h0, if_false]
  by_cases h2 : 192 ≤ bt s i ∧ bt s i < 224
  · have q : (bt s i / 32 == 6) = true := by simp; omega
    have n3 : (bt s i / 16 == 14) = false := by simp; omega
    have n4 : (bt s i / 8 == 30) = false := by simp; omega
    have m3 : ¬ (224 ≤ bt s i) := by omega
    have m4 : ¬ (240 ≤ bt s i) := by omega
    simp only [q, n3, n4, m3, m4, Bool.true_and, Bool.false_and, false_and, if_false, h2.1, h2.2, true_and]
    by_cases g1 : (goB s (i + 1) = true)
    · have e2 : bt s i % 32 * 64 + bt s (i + 1) % 64 = c2 s i := by
        have := g1; simp only [goesOn_iff] at this; unfold c2; omega
      simp only [g1, if_true, e2, true_and]
      by_cases hc : 128 ≤ c2 s i
      · simp [hc]
      · simp [hc]
    · simp [g1]
  have q2 : (bt s i / 32 == 6) = false := by simp; omega
  have x2 : ¬ (192 ≤ bt s i ∧ bt s i < 224 ∧ (goB s (i + 1) = true) ∧ 128 ≤ c2 s i) := by omega
  simp only [q2, Bool.false_and, if_neg x2]
  by_cases h3 : 224 ≤ bt s i ∧ bt s i < 240
  · have q : (bt s i / 16 == 14) = true := by simp; omega
    have n4 : (bt s i / 8 == 30) = false := by simp; omega
    have m4 : ¬ (240 ≤ bt s i) := by omega
    simp only [q, n4, m4, Bool.true_and, Bool.false_and, false_and, if_false, h3.1, h3.2, true_and]
    by_cases g1 : (goB s (i + 1) = true)
    · by_cases g2 : (goB s (i + 2) = true)
      · have e3 : bt s i % 16 * 4096 + bt s (i + 1) % 64 * 64 + bt s (i + 2) % 64 = c3 s i := by
          have := g1; have := g2; simp only [goesOn_iff] at *; unfold c3; omega
        simp only [g1, g2, Bool.and_true, if_true, e3, true_and, valid_isLet]
        by_cases hc : 2048 ≤ c3 s i
        · by_cases hl : (isB (c3 s i) = true)
          · simp [hc, hl]
          · simp [hc, hl]
        · simp [hc]
      · simp [g1, g2]
    · simp [g1]
  have q3 : (bt s i / 16 == 14) = false := by simp; omega
  have x3 : ¬ (224 ≤ bt s i ∧ bt s i < 240 ∧ (goB s (i + 1) = true) ∧ (goB s (i + 2) = true) ∧ 2048 ≤ c3 s i ∧ (isB (c3 s i) = true)) := by omega
  simp only [q3, Bool.false_and, if_neg x3]
  by_cases h4 : 240 ≤ bt s i ∧ bt s i < 248
  · have q : (bt s i / 8 == 30) = true := by simp; omega
    simp only [q, Bool.true_and, h4.1, h4.2, true_and]
    by_cases g1 : (goB s (i + 1) = true)
    · by_cases g2 : (goB s (i + 2) = true)
      · by_cases g3 : (goB s (i + 3) = true)
        · have e4 : bt s i % 8 * 262144 + bt s (i + 1) % 64 * 4096 + bt s (i + 2) % 64 * 64 + bt s (i + 3) % 64 = c4 s i := by
            have := g1; have := g2; have := g3; simp only [goesOn_iff] at *; unfold c4; omega
          simp only [g1, g2, g3, Bool.and_true, if_true, e4, true_and, valid_isLet]
          by_cases hc : 65536 ≤ c4 s i
          · by_cases hl : (isB (c4 s i) = true)
            · simp [hc, hl]
            · simp [hc, hl]
          · simp [hc]
        · simp [g1, g2, g3]
      · simp [g1, g2]
    · simp [g1]
  have q4 : (bt s i / 8 == 30) = false := by simp; omega
  have x4 : ¬ (240 ≤ bt s i ∧ bt s i < 248 ∧ (goB s (i + 1) = true) ∧ (goB s (i + 2) = true) ∧ (goB s (i + 3) = true) ∧ 65536 ≤ c4 s i ∧ (isB (c4 s i) = true)) := by omega
  simp [q4, if_neg x4]


theorem ua_facts (s : ByteArray) (i : Nat) (h : i < s.size) :
    1 ≤ (ua s i).2 ∧ i + (ua s i).2 ≤ s.size ∧ (ua s i).2 ≤ 4 ∧ -1 ≤ (ua s i).1 ∧ (ua s i).1 ≤ 1114111 ∧ ((ua s i).1 = -1 → (ua s i).2 = 1) ∧
    (0 ≤ (ua s i).1 → Lib.runeLen (ua s i).1 = (ua s i).2 ∧ ¬ (55296 ≤ (ua s i).1 ∧ (ua s i).1 ≤ 57343)) := by
  have hb0 := bt_lt s i
  have hb1 := bt_lt s (i + 1)
  have hb2 := bt_lt s (i + 2)
  have hb3 := bt_lt s (i + 3)
  unfold ua
  by_cases h0 : bt s i < 128
  · simp only [h0, if_true]
    refine ⟨by omega, by omega, by omega, by omega, by omega, by omega, fun _ => ⟨?_, by omega⟩⟩
    unfold Lib.runeLen
    rw [if_neg (by omega), if_pos (by omega)]; rfl
  simp only [h0, if_false]
  by_cases h2 : 192 ≤ bt s i ∧ bt s i < 224 ∧ (goB s (i + 1) = true) ∧ 128 ≤ c2 s i
  · have g1 := h2.2.2.1
    have hc : c2 s i ≤ 2047 := by simp only [goesOn_iff] at g1; unfold c2; omega
    simp only [goesOn_iff] at g1
    simp only [h2, and_self, if_true]
    refine ⟨by omega, by omega, by omega, by omega, by omega, by omega, fun _ => ⟨?_, by omega⟩⟩
    unfold Lib.runeLen
    rw [if_neg (by omega), if_neg (by omega), if_pos (by omega)]; rfl
  simp only [h2, if_false]
  by_cases h3 : 224 ≤ bt s i ∧ bt s i < 240 ∧ (goB s (i + 1) = true) ∧ (goB s (i + 2) = true) ∧ 2048 ≤ c3 s i ∧ (isB (c3 s i) = true)
  · obtain ⟨a1, a2, g1, g2, a3, a4⟩ := h3
    have hc : c3 s i ≤ 65535 := by simp only [goesOn_iff] at *; unfold c3; omega
    simp only [a1, a2, g1, g2, a3, a4, and_self, if_true]
    simp only [goesOn_iff] at g1 g2
    rw [isLet_iff] at a4
    refine ⟨by omega, by omega, by omega, by omega, by omega, by omega, fun _ => ⟨?_, by omega⟩⟩
    unfold Lib.runeLen
    rw [if_neg (by omega), if_neg (by omega), if_neg (by omega), if_neg (by omega), if_pos (by omega)]; rfl
  simp only [h3, if_false]
  by_cases h4 : 240 ≤ bt s i ∧ bt s i < 248 ∧ (goB s (i + 1) = true) ∧ (goB s (i + 2) = true) ∧ (goB s (i + 3) = true) ∧ 65536 ≤ c4 s i ∧ (isB (c4 s i) = true)
  · obtain ⟨a1, a2, g1, g2, g3, a3, a4⟩ := h4
    simp only [a1, a2, g1, g2, g3, a3, a4, and_self, if_true]
    simp only [goesOn_iff] at g1 g2 g3
    rw [isLet_iff] at a4
    refine ⟨by omega, by omega, by omega, by omega, by omega, by omega, fun _ => ⟨?_, by omega⟩⟩
    unfold Lib.runeLen
    rw [if_neg (by omega), if_neg (by omega), if_neg (by omega), if_neg (by omega), if_neg (by omega), if_pos (by omega)]; rfl
  simp only [h4, if_false]
  refine ⟨by omega, by omega, by omega, by omega, by omega, fun _ => trivial, fun h => absurd h (by decide)⟩

/-- the range's rune and width, in the document's words -/
theorem decode_two (s : ByteArray) (i : Nat) (h : i < s.size) : (Utf8.decode s i).2 = (ua s i).2 := by
  have f := ua_facts s i h
  rw [decode_ua]
  split
  · exact (f.2.2.2.2.2.1 (by assumption)).symm
  · rfl

theorem decode_one (s : ByteArray) (i : Nat) (h : i < s.size) : ((Utf8.decode s i).1 : Int) = if (ua s i).1 = -1 then 65533 else (ua s i).1 := by
  have f := ua_facts s i h
  rw [decode_ua]
  split
  · rfl
  · show ((ua s i).1.toNat : Int) = _
    omega

/-- the letter 65533 in its own right: its three bytes -/
theorem three_bytes (s : ByteArray) (i : Nat) : (ua s i).1 = 65533 ↔ (i + 3 ≤ s.size ∧ bt s i = 239 ∧ bt s (i + 1) = 191 ∧ bt s (i + 2) = 189) := by
  have hb0 := bt_lt s i
  have hb1 := bt_lt s (i + 1)
  have hb2 := bt_lt s (i + 2)
  have hb3 := bt_lt s (i + 3)
  unfold ua
  by_cases h0 : bt s i < 128
  · simp only [h0, if_true]; omega
  simp only [h0, if_false]
  by_cases h2 : 192 ≤ bt s i ∧ bt s i < 224 ∧ (goB s (i + 1) = true) ∧ 128 ≤ c2 s i
  · have g1 := h2.2.2.1
    have hc : c2 s i ≤ 2047 := by simp only [goesOn_iff] at g1; unfold c2; omega
    simp only [h2, and_self, if_true]; omega
  simp only [h2, if_false]
  by_cases h3 : 224 ≤ bt s i ∧ bt s i < 240 ∧ (goB s (i + 1) = true) ∧ (goB s (i + 2) = true) ∧ 2048 ≤ c3 s i ∧ (isB (c3 s i) = true)
  · obtain ⟨a1, a2, g1, g2, a3, a4⟩ := h3
    simp only [a1, a2, g1, g2, a3, a4, and_self, if_true]
    simp only [goesOn_iff] at g1 g2
    unfold c3
    omega
  have n3 : ¬ (i + 3 ≤ s.size ∧ bt s i = 239 ∧ bt s (i + 1) = 191 ∧ bt s (i + 2) = 189) := by
    intro hx
    apply h3
    rw [goesOn_iff, goesOn_iff, isLet_iff]
    unfold c3
    omega
  simp only [h3, if_false]
  by_cases h4 : 240 ≤ bt s i ∧ bt s i < 248 ∧ (goB s (i + 1) = true) ∧ (goB s (i + 2) = true) ∧ (goB s (i + 3) = true) ∧ 65536 ≤ c4 s i ∧ (isB (c4 s i) = true)
  · obtain ⟨a1, a2, g1, g2, g3, a3, a4⟩ := h4
    simp only [a1, a2, g1, g2, g3, a3, a4, and_self, if_true]
    omega
  simp only [h4, if_false]
  omega

theorem prefix3 (l : List UInt8) (a b c : UInt8) : [a, b, c].isPrefixOf l = (decide (l[0]? = some a) && decide (l[1]? = some b) && decide (l[2]? = some c)) := by
  match l with
  | [] => simp
  | [x] => simp [List.isPrefixOf]
  | [x, y] => simp [List.isPrefixOf]
  | x :: y :: z :: r =>
    simp only [List.isPrefixOf, List.getElem?_cons_zero, List.getElem?_cons_succ, Option.some.injEq, Bool.and_true]
    rw [Bool.eq_iff_iff]
    simp
    constructor
    · rintro ⟨rfl, rfl, rfl⟩; exact ⟨⟨rfl, rfl⟩, rfl⟩
    · rintro ⟨⟨rfl, rfl⟩, rfl⟩; exact ⟨rfl, rfl, rfl⟩

theorem at_drop (s : ByteArray) (i k : Nat) (x : UInt8) : (s.data.toList.drop i)[k]? = some x ↔ (i + k < s.size ∧ bt s (i + k) = x.toNat) := by
  rw [List.getElem?_drop]
  by_cases h : i + k < s.size
  · have e : s.data.toList[i + k]? = some (s[i + k]'h) := by
      rw [List.getElem?_eq_getElem (by simpa using h)]; rfl
    rw [e, ← bt_eq s (i + k) h]
    simp only [Option.some.injEq, h, true_and]
    exact ⟨fun hx => by rw [hx], fun hx => UInt8.toNat_inj.1 hx⟩
  · have e : s.data.toList[i + k]? = none := List.getElem?_eq_none (by simpa using h)
    rw [e]
    simp [h]

theorem prefix_three (s : ByteArray) (i : Nat) :
    Lib.hasPrefix (s.extract i s.size).data.toList [239, 191, 189] = decide ((ua s i).1 = 65533) := by
  have hx : (s.extract i s.size).data.toList = s.data.toList.drop i := by
    rw [ByteArray.data_extract, Array.toList_extract]
    simp only [List.extract_eq_take_drop]
    rw [List.take_of_length_le]
    simp
  unfold Lib.hasPrefix
  rw [hx, prefix3, Bool.eq_iff_iff]
  simp only [Bool.and_eq_true, decide_eq_true_eq, at_drop, three_bytes]
  have e1 : (239 : UInt8).toNat = 239 := rfl
  have e2 : (191 : UInt8).toNat = 191 := rfl
  have e3 : (189 : UInt8).toNat = 189 := rfl
  rw [e1, e2, e3, Nat.add_zero]
  omega

/-- THE UNITS OF A TEXT: place, bytes, letter -/
def unitsFrom (s : ByteArray) : Nat → Nat → List (Nat × Nat × Int)
  | 0, _ => []
  | f + 1, i => if i < s.size then (i, (ua s i).2, (ua s i).1) :: unitsFrom s f (i + (ua s i).2) else []
def units (s : ByteArray) : List (Nat × Nat × Int) := unitsFrom s s.size 0

theorem unitsFrom_end (s : ByteArray) (f i : Nat) (h : ¬ i < s.size) : unitsFrom s f i = [] := by
  cases f <;> simp [unitsFrom, h]
theorem unitsFrom_step (s : ByteArray) (f i : Nat) (h : i < s.size) : unitsFrom s (f + 1) i = (i, (ua s i).2, (ua s i).1) :: unitsFrom s f (i + (ua s i).2) := by
  simp [unitsFrom, h]
theorem unitsFrom_length (s : ByteArray) : ∀ f i, (unitsFrom s f i).length ≤ f
  | 0, _ => by simp [unitsFrom]
  | f + 1, i => by
    have := unitsFrom_length s f (i + (ua s i).2)
    unfold unitsFrom
    split <;> simp <;> omega
theorem units_length (s : ByteArray) : (units s).length ≤ s.size := unitsFrom_length s _ _

/-- a unit's three cells; a list's, one behind the other -/
def uc (u : Nat × Nat × Int) : List Value := [.int .i64 u.1, .int .i64 u.2.1, .int .i64 u.2.2]
def ucs (l : List (Nat × Nat × Int)) : List Value := l.flatMap uc
theorem ucs_length (l : List (Nat × Nat × Int)) : (ucs l).length = l.length * 3 := by
  induction l with
  | nil => rfl
  | cons a l ih => simp [ucs, uc] at ih ⊢; omega
theorem ucs_snoc (l : List (Nat × Nat × Int)) (u : Nat × Nat × Int) : ucs (l ++ [u]) = ucs l ++ uc u := by simp [ucs]
theorem ucs_at (l : List (Nat × Nat × Int)) (k : Nat) (h : k < l.length) : (ucs l)[k * 3]? = some (.int .i64 (l[k]).1) ∧ (ucs l)[k * 3 + 1]? = some (.int .i64 (l[k]).2.1) ∧ (ucs l)[k * 3 + 2]? = some (.int .i64 (l[k]).2.2) := by
  induction l generalizing k with
  | nil => simp at h
  | cons a l ih =>
    cases k with
    | zero => simp [ucs, uc]
    | succ k =>
      have := ih k (by simpa using h)
      have e : ∀ j, (ucs (a :: l))[(k + 1) * 3 + j]? = (ucs l)[k * 3 + j]? := by
        intro j
        have : (k + 1) * 3 + j = (k * 3 + j) + 3 := by omega
        rw [this]
        simp [ucs, uc]
      exact ⟨(e 0).trans this.1, (e 1).trans this.2.1, (e 2).trans this.2.2⟩

end Go.Proofs.Ytiiheaopamjijaa.Uni
