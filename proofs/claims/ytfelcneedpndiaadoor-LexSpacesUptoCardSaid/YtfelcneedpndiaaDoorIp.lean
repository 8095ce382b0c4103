/-
  Plain: how a source's runes are cut into tokens (layer 16): each function takes the runes from a place on and tells what is left behind.
-/
import Derived.Test.YtfelcneedpndiaaDoorIa
namespace Go.Proofs.YtfelcneedpndiaaDoor

def letR (r : Nat) : Bool := (decide (97 ≤ r) && decide (r ≤ 122)) || (decide (65 ≤ r) && decide (r ≤ 90)) || r == 95 || decide (128 ≤ r)
def digR (r : Nat) : Bool := decide (48 ≤ r) && decide (r ≤ 57)
def spR (r : Nat) : Bool := r == 32 || r == 9 || r == 10 || r == 13
/-- The first rune; 0 where there is none. -/
def hd (S : List Nat) : Nat := S.getD 0 0
/-- Behind a remark up to a line's end, which stays. -/
def lineS : List Nat → List Nat
  | [] => []
  | c :: t => if c = 10 then c :: t else lineS t
/-- Behind the next `*/`. -/
def blockS : List Nat → Option (List Nat)
  | [] => none
  | c :: t => if c = 42 ∧ hd t = 47 then some (t.drop 1) else blockS t
theorem lineS_le : ∀ S : List Nat, (lineS S).length ≤ S.length
  | [] => by simp [lineS]
  | c :: t => by
    have := lineS_le t
    unfold lineS
    split
    · simp
    · rw [List.length_cons]; omega
theorem blockS_le : ∀ (S R : List Nat), blockS S = some R → R.length + 1 ≤ S.length
  | [], R, h => by simp [blockS] at h
  | c :: t, R, h => by
    unfold blockS at h
    split at h
    · injection h with h
      subst h
      rw [List.length_drop, List.length_cons]
      omega
    · have := blockS_le t R h
      rw [List.length_cons]
      omega
def skipGo : Nat → List Nat → Option (List Nat)
  | 0, _ => none
  | _ + 1, [] => some []
  | n + 1, c :: t =>
    if spR c then skipGo n t
    else if c = 47 ∧ hd t = 47 then skipGo n (lineS t)
    else if c = 47 ∧ hd t = 42 then (match blockS (t.drop 1) with | none => none | some r => skipGo n r)
    else some (c :: t)
/-- Behind spaces and remarks; none, if one is not closed. -/
def skipS (S : List Nat) : Option (List Nat) := skipGo (S.length + 1) S
theorem skipGo_fuel : ∀ (n m : Nat) (S : List Nat), S.length < n → S.length < m → skipGo n S = skipGo m S
  | 0, _, S, h, _ => by omega
  | _ + 1, 0, S, _, h => by omega
  | n + 1, m + 1, [], _, _ => rfl
  | n + 1, m + 1, c :: t, h1, h2 => by
    rw [List.length_cons] at h1 h2
    unfold skipGo
    rw [skipGo_fuel n m t (by omega) (by omega)]
    have hl := lineS_le t
    rw [skipGo_fuel n m (lineS t) (by omega) (by omega)]
    cases hb : blockS (t.drop 1) with
    | none => rfl
    | some r =>
      have := blockS_le _ _ hb
      rw [List.length_drop] at this
      simp only
      rw [skipGo_fuel n m r (by omega) (by omega)]
theorem skipS_nil : skipS [] = some [] := rfl
theorem skipS_cons (c : Nat) (t : List Nat) : skipS (c :: t) =
    if spR c then skipS t
    else if c = 47 ∧ hd t = 47 then skipS (lineS t)
    else if c = 47 ∧ hd t = 42 then (match blockS (t.drop 1) with | none => none | some r => skipS r)
    else some (c :: t) := by
  unfold skipS
  rw [List.length_cons]
  show skipGo (t.length + 1 + 1) (c :: t) = _
  rw [skipGo]
  have hl := lineS_le t
  rw [skipGo_fuel (t.length + 1) ((lineS t).length + 1) (lineS t) (by omega) (by omega)]
  cases hb : blockS (t.drop 1) with
  | none => rfl
  | some r =>
    have := blockS_le _ _ hb
    rw [List.length_drop] at this
    simp only
    rw [skipGo_fuel (t.length + 1) (r.length + 1) r (by omega) (by omega)]
/-- Behind digits. -/
def digS (S : List Nat) : List Nat := S.dropWhile digR
/-- Behind a number. -/
def numS (S : List Nat) : List Nat :=
  let a := digS S
  let b := if hd a = 46 ∧ digR (hd (a.drop 1)) then digS (a.drop 1) else a
  if hd b = 69 then
    let e := if hd (b.drop 1) = 43 ∨ hd (b.drop 1) = 45 then b.drop 2 else b.drop 1
    let r := digS e
    if r.length < e.length ∧ e.length ≤ r.length + 6 then r else b
  else b
/-- A hexadecimal digit. -/
def hexV (r : Nat) : Option Nat := if digR r then some (r - 48) else if 97 ≤ r ∧ r ≤ 102 then some (r - 87) else if 65 ≤ r ∧ r ≤ 70 then some (r - 55) else none
def codeGo : Nat → Nat → List Nat → Option Nat
  | 0, c, _ => some c
  | n + 1, c, S => match hexV (hd S) with | none => none | some d => codeGo n (16 * c + d) (S.drop 1)
/-- The rune of so many hexadecimal digits. -/
def codeS (n : Nat) (S : List Nat) : Option Nat := match codeGo n 0 S with | none => none | some c => if c ≤ 1114111 ∧ (c < 55296 ∨ 57343 < c) then some c else none
/-- What an escape behind a sign stands for, and how many runes it has. -/
def escS (S : List Nat) : Option (Nat × Nat) :=
  if hd S = 110 then some (10, 1) else if hd S = 114 then some (13, 1) else if hd S = 116 then some (9, 1)
  else if hd S = 34 ∨ hd S = 39 ∨ hd S = 92 then some (hd S, 1)
  else if hd S = 117 then (codeS 4 (S.drop 1)).map fun c => (c, 5)
  else if hd S = 85 then (codeS 6 (S.drop 1)).map fun c => (c, 7)
  else none
def quoGo : Nat → List Nat → Option (List Nat × List Nat)
  | 0, _ => none
  | _ + 1, [] => none
  | n + 1, c :: t =>
    if c = 34 then some ([], t)
    else if c = 10 ∨ c = 13 then none
    else if c = 92 then (match escS t with | none => none | some (r, m) => (quoGo n (t.drop m)).map fun x => (r :: x.1, x.2))
    else (quoGo n t).map fun x => (c :: x.1, x.2)
/-- What a string stands for whose first sign was passed, and what is left behind it. -/
def quoS (S : List Nat) : Option (List Nat × List Nat) := quoGo (S.length + 1) S
theorem escS_pos {S : List Nat} {r m : Nat} (h : escS S = some (r, m)) : 1 ≤ m ∧ m ≤ 7 := by
  unfold escS at h
  repeat' split at h
  all_goals first
    | (injection h with h; injection h with h1 h2; omega)
    | (cases hc : codeS 4 (S.drop 1) <;> rw [hc] at h <;> simp at h; omega)
    | (cases hc : codeS 6 (S.drop 1) <;> rw [hc] at h <;> simp at h; omega)
    | simp at h
theorem quoGo_fuel : ∀ (n m : Nat) (S : List Nat), S.length < n → S.length < m → quoGo n S = quoGo m S
  | 0, _, S, h, _ => by omega
  | _ + 1, 0, S, _, h => by omega
  | n + 1, m + 1, [], _, _ => rfl
  | n + 1, m + 1, c :: t, h1, h2 => by
    rw [List.length_cons] at h1 h2
    unfold quoGo
    rw [quoGo_fuel n m t (by omega) (by omega)]
    cases he : escS t with
    | none => rfl
    | some x =>
      obtain ⟨r, k⟩ := x
      simp only
      rw [quoGo_fuel n m (t.drop k) (by rw [List.length_drop]; omega) (by rw [List.length_drop]; omega)]
theorem quoS_nil : quoS [] = none := rfl
theorem quoS_cons (c : Nat) (t : List Nat) : quoS (c :: t) =
    if c = 34 then some ([], t)
    else if c = 10 ∨ c = 13 then none
    else if c = 92 then (match escS t with | none => none | some (r, m) => (quoS (t.drop m)).map fun x => (r :: x.1, x.2))
    else (quoS t).map fun x => (c :: x.1, x.2) := by
  unfold quoS
  rw [List.length_cons]
  show quoGo (t.length + 1 + 1) (c :: t) = _
  rw [quoGo]
  cases he : escS t with
  | none => rfl
  | some x =>
    obtain ⟨r, k⟩ := x
    simp only
    rw [quoGo_fuel (t.length + 1) ((t.drop k).length + 1) (t.drop k) (by rw [List.length_drop]; omega) (by omega)]
/-- How many signs the symbol has that stands first; 0: none does. -/
def symS (S : List Nat) : Nat :=
  let a := hd S
  let b := hd (S.drop 1)
  if (a = 46 ∧ b = 46) ∨ (a = 42 ∧ b = 42) ∨ ((a = 60 ∨ a = 62 ∨ a = 33) ∧ b = 61) ∨ (a = 45 ∧ b = 62) then 2
  else if a = 40 ∨ a = 41 ∨ a = 91 ∨ a = 93 ∨ a = 123 ∨ a = 125 ∨ a = 44 ∨ a = 58 ∨ a = 46 ∨ a = 43 ∨ a = 45 ∨ a = 42 ∨ a = 47 ∨ a = 61 ∨ a = 60 ∨ a = 62 ∨ a = 39 then 1
  else 0
def wordR (r : Nat) : Bool := letR r || digR r
/-- The token that stands first: its kind, its text, and what is left behind it. -/
def oneS (S : List Nat) : Option (Nat × List Nat × List Nat) :=
  if letR (hd S) then some (1, S.takeWhile wordR, S.dropWhile wordR)
  else if digR (hd S) ∨ (hd S = 46 ∧ digR (hd (S.drop 1))) then some (2, S.take (S.length - (numS S).length), numS S)
  else if hd S = 34 then (quoS (S.drop 1)).map fun x => (3, x.1, x.2)
  else if hd S = 64 ∧ hd (S.drop 1) = 34 then (quoS (S.drop 2)).map fun x => (4, x.1, x.2)
  else if 0 < symS S then some (5, S.take (symS S), S.drop (symS S))
  else none
/-- A token: its kind, its text, and how many runes were left when it began. -/
def tokGo : Nat → List Nat → Option (List (Nat × List Nat × Nat))
  | 0, _ => none
  | n + 1, S => match skipS S with
    | none => none
    | some [] => some [(0, [], 0)]
    | some (c :: t) => match oneS (c :: t) with
      | none => none
      | some (k, x, r) => (tokGo n r).map fun ts => (k, x, (c :: t).length) :: ts
/-- A source's tokens. -/
def tokS (S : List Nat) : Option (List (Nat × List Nat × Nat)) := tokGo (S.length + 1) S
end Go.Proofs.YtfelcneedpndiaaDoor
