/-
  Plain mathematics under the statements of layer 2 (who): kinds of subjects, their texts, how a text is cut and read. No program is named here.
  Plain mathematics under the statements of layer 3 (bond): texts of tuples, how they are cut and read; what a filter's field matches. No program is named here.
  Plain mathematics under package who's split: what is known while a text is gone through rune by rune. No program is named here.
  Plain mathematics under package bond's split: what is known while a tuple's text is gone through rune by rune. No program is named here.
-/
import Derived.Test.YtopncohhagebbaaDoorMgPure
namespace Go.Proofs.YtopncohhagebbaaDoor.Who
open Go Gly

/-! ### texts as lists -/
def bs (l : List UInt8) : ByteArray := ⟨l.toArray⟩
theorem bs_list (l : List UInt8) : (bs l).data.toList = l := by simp [bs]
theorem bs_self (s : ByteArray) : bs s.data.toList = s := by cases s; simp [bs]
theorem bs_size (l : List UInt8) : (bs l).size = l.length := by rw [Lib.size_eq, bs_list]
theorem bs_inj {a b : List UInt8} (h : bs a = bs b) : a = b := by rw [← bs_list a, h, bs_list]
theorem eq_of_list {a b : ByteArray} (h : a.data.toList = b.data.toList) : a = b := by rw [← bs_self a, h, bs_self]
theorem bs_add (a b : List UInt8) : bs a ++ bs b = bs (a ++ b) := by
  apply eq_of_list
  rw [bs_list, ByteArray.data_append]
  simp [bs]
theorem bs_cut (s : ByteArray) (i j : Nat) : s.extract i j = bs ((s.data.toList.drop i).take (j - i)) := by
  apply eq_of_list
  rw [bs_list, Lib.extract_data]
theorem beq_bytes (a b : ByteArray) : (a.toList == b.toList) = decide (a.data.toList = b.data.toList) := by
  rw [Lib.toList_data, Lib.toList_data]
  cases h : decide (a.data.toList = b.data.toList) with
  | true => simpa using h
  | false => simpa using h

/-! ### kinds of subjects -/
/-- 1 one, 2 a set, 3 all, 0 none. -/
def kind (t i r : List UInt8) : Nat :=
  if nameB t then (if i = [42] then (if r = [] then 3 else 0) else if idB i then (if r = [] then 1 else if nameB r then 2 else 0) else 0) else 0
def oneB (t i r : List UInt8) : Bool := nameB t && idB i && decide (r = [])
def setB (t i r : List UInt8) : Bool := nameB t && idB i && nameB r
def allB (t i r : List UInt8) : Bool := nameB t && decide (i = [42]) && decide (r = [])
def subjB (t i r : List UInt8) : Bool := oneB t i r || setB t i r || allB t i r

theorem id_star : idB [42] = false := by decide +kernel
theorem id_nil : idB [] = false := by decide +kernel
theorem name_nil : nameB [] = false := by decide +kernel

theorem kind_le (t i r : List UInt8) : kind t i r ≤ 3 := by
  unfold kind
  repeat' split
  all_goals omega
theorem kinds (t i r : List UInt8) : oneB t i r = (kind t i r == 1) ∧ setB t i r = (kind t i r == 2) ∧ allB t i r = (kind t i r == 3) ∧ subjB t i r = (kind t i r != 0) := by
  unfold subjB oneB setB allB kind
  cases nameB t
  · simp
  · by_cases hi : i = [42]
    · subst hi
      rw [id_star]
      by_cases hr : r = []
      · subst hr; simp
      · simp [hr]
    · by_cases hr : r = []
      · subst hr
        rw [name_nil]
        cases idB i <;> simp [hi]
      · cases idB i
        · simp [hi]
        · cases nameB r <;> simp [hi, hr]
theorem one_eq (t i r : List UInt8) : oneB t i r = (kind t i r == 1) := (kinds t i r).1
theorem set_eq (t i r : List UInt8) : setB t i r = (kind t i r == 2) := (kinds t i r).2.1
theorem all_eq (t i r : List UInt8) : allB t i r = (kind t i r == 3) := (kinds t i r).2.2.1
theorem subj_eq (t i r : List UInt8) : subjB t i r = (kind t i r != 0) := (kinds t i r).2.2.2

/-! ### which bytes stand in names and ids -/
theorem name_bytes : ∀ (l : List UInt8) (first : Bool), nameOk first l = true → ∀ b ∈ l, b.toNat = 95 ∨ (97 ≤ b.toNat ∧ b.toNat ≤ 122) ∨ (48 ≤ b.toNat ∧ b.toNat ≤ 57)
  | [], _, _, b, hb => by cases hb
  | c :: t, first, h, b, hb => by
    rw [nameOk, Bool.and_eq_true] at h
    rcases List.mem_cons.1 hb with rfl | hb
    · obtain ⟨h, _⟩ := h
      simp [letterB, digitB] at h
      omega
    · exact name_bytes t false h.2 b hb
theorem nameB_bytes {l : List UInt8} (h : nameB l = true) : ∀ b ∈ l, b.toNat = 95 ∨ (97 ≤ b.toNat ∧ b.toNat ≤ 122) ∨ (48 ≤ b.toNat ∧ b.toNat ≤ 57) := by
  rw [nameB, Bool.and_eq_true] at h
  exact name_bytes l true h.2
theorem nameB_len {l : List UInt8} (h : nameB l = true) : 1 ≤ l.length ∧ l.length ≤ 16 := by
  rw [nameB, Bool.and_eq_true] at h
  simpa using h.1

/-- The bytes of a rune's form: it is one byte, or each is above ASCII. -/
theorem dec_bytes {l : List UInt8} (h : l ≠ []) {k : Nat} (hk : k < (dec l).2) : ((dec l).2 = 1 ∧ byte l k = (dec l).1) ∨ 128 ≤ byte l k := by
  have h0 := byte_lt l 0; have h1 := byte_lt l 1; have h2 := byte_lt l 2; have h3 := byte_lt l 3
  rcases dec_cases l h with ⟨a, e⟩ | ⟨a, b, c, d, f, e⟩ | ⟨a, b, c, d, f, g, i, e⟩ | ⟨a, b, c, d, f, g, i, j, e⟩ | ⟨a, e⟩
  · rw [e] at hk ⊢
    have : k = 0 := by simp at hk; omega
    subst this
    exact Or.inl ⟨rfl, rfl⟩
  · rw [e] at hk
    right
    have : k = 0 ∨ k = 1 := by simp at hk; omega
    rcases this with rfl | rfl <;> omega
  · rw [e] at hk
    right
    have : k = 0 ∨ k = 1 ∨ k = 2 := by simp at hk; omega
    rcases this with rfl | rfl | rfl <;> omega
  · rw [e] at hk
    right
    have : k = 0 ∨ k = 1 ∨ k = 2 ∨ k = 3 := by simp at hk; omega
    rcases this with rfl | rfl | rfl | rfl <;> omega
  · rw [e] at hk
    right
    have : k = 0 := by simp at hk; omega
    subst this; omega

theorem take_bytes_mem {l : List UInt8} {n : Nat} (hn : n ≤ l.length) {b : UInt8} (hb : b ∈ l.take n) : ∃ k, k < n ∧ byte l k = b.toNat := by
  rw [take_bytes n hn] at hb
  obtain ⟨k, hk, e⟩ := List.mem_map.1 hb
  exact ⟨k, by simpa using hk, by rw [byte, e]⟩

/-- An ASCII sign that is no plain rune stands in no id. -/
theorem id_bytes (c : Nat) (hc : c < 128) (hp : plainB c = false) : ∀ (k : Nat) (l : List UInt8), l.length ≤ k → ∀ n, idFrom n l = true → ∀ b ∈ l, b.toNat ≠ c
  | k, l, hk, n, h, b, hb => by
    by_cases hl : l = []
    · subst hl; cases hb
    · have hlt := drop_lt hl
      have hw := dec_width l hl
      obtain ⟨k, rfl⟩ : ∃ j, k = j + 1 := ⟨k - 1, by omega⟩
      rw [idFrom_step n hl] at h
      by_cases h24 : 24 < n + 1
      · rw [if_pos h24] at h; cases h
      · rw [if_neg h24] at h
        by_cases hx : (plainB (dec l).1 && !bad l) = true
        · rw [if_pos hx] at h
          have hpl := (Bool.and_eq_true _ _ ▸ hx).1
          rw [← List.take_append_drop (dec l).2 l] at hb
          rcases List.mem_append.1 hb with hb | hb
          · obtain ⟨j, hj, ej⟩ := take_bytes_mem hw.2.1 hb
            rcases dec_bytes hl hj with ⟨_, e⟩ | e
            · intro he
              have : (dec l).1 = c := by omega
              rw [this, hp] at hpl; cases hpl
            · omega
          · exact id_bytes c hc hp k _ (by omega) (n + 1) h b hb
        · rw [if_neg hx] at h; cases h
theorem idB_bytes {l : List UInt8} (h : idB l = true) (c : Nat) (hc : c < 128) (hp : plainB c = false) : ∀ b ∈ l, b.toNat ≠ c := id_bytes c hc hp l.length l (Nat.le_refl _) 0 h

/-- At most 24 runes, of at most four bytes each. -/
theorem id_len : ∀ (k : Nat) (l : List UInt8), l.length ≤ k → ∀ n, n ≤ 24 → idFrom n l = true → l.length ≤ 4 * (24 - n)
  | k, l, hk, n, hn, h => by
    by_cases hl : l = []
    · subst hl; simp
    · have hlt := drop_lt hl
      have hw := dec_width l hl
      obtain ⟨k, rfl⟩ : ∃ j, k = j + 1 := ⟨k - 1, by omega⟩
      rw [idFrom_step n hl] at h
      by_cases h24 : 24 < n + 1
      · rw [if_pos h24] at h; cases h
      · rw [if_neg h24] at h
        by_cases hx : (plainB (dec l).1 && !bad l) = true
        · rw [if_pos hx] at h
          have := id_len k _ (by omega) (n + 1) (by omega) h
          rw [List.length_drop] at this
          omega
        · rw [if_neg hx] at h; cases h
theorem idB_len {l : List UInt8} (h : idB l = true) : l.length ≤ 96 := by
  have := id_len l.length l (Nat.le_refl _) 0 (by omega) h
  omega

/-! ### cutting -/
/-- What is ahead of the first such byte, and what is behind it. -/
def cut (c : UInt8) : List UInt8 → Option (List UInt8 × List UInt8)
  | [] => none
  | a :: l => if a = c then some ([], l) else (cut c l).map fun p => (a :: p.1, p.2)

theorem cut_none {c : UInt8} : ∀ {l : List UInt8}, c ∉ l → cut c l = none
  | [], _ => rfl
  | a :: l, h => by
    rw [List.mem_cons, not_or] at h
    rw [cut, if_neg (fun e => h.1 e.symm), cut_none h.2]; rfl
theorem cut_some {c : UInt8} : ∀ {a : List UInt8} (b : List UInt8), c ∉ a → cut c (a ++ c :: b) = some (a, b)
  | [], b, _ => by rw [List.nil_append, cut, if_pos rfl]
  | x :: a, b, h => by
    rw [List.mem_cons, not_or] at h
    rw [List.cons_append, cut, if_neg (fun e => h.1 e.symm), cut_some b h.2]; rfl
theorem cut_of {c : UInt8} : ∀ {l a b : List UInt8}, cut c l = some (a, b) → l = a ++ c :: b ∧ c ∉ a
  | [], _, _, h => by cases h
  | x :: l, a, b, h => by
    rw [cut] at h
    by_cases e : x = c
    · rw [if_pos e] at h; cases h; subst e; simp
    · rw [if_neg e] at h
      cases h' : cut c l with
      | none => rw [h'] at h; cases h
      | some p =>
        rw [h'] at h; cases h
        obtain ⟨h1, h2⟩ := cut_of (a := p.1) (b := p.2) h'
        exact ⟨by rw [h1]; rfl, by rw [List.mem_cons, not_or]; exact ⟨fun e' => e e'.symm, h2⟩⟩

/-! ### texts of subjects, and reading them -/
def text (t i r : List UInt8) : List UInt8 := t ++ 58 :: (i ++ (if r = [] then [] else 35 :: r))
def otext (t i : List UInt8) : List UInt8 := t ++ 58 :: i

/-- The pieces of a text: ahead of its first colon, from there to the next #, and behind. -/
def sp (l : List UInt8) : List UInt8 × List UInt8 × List UInt8 :=
  match cut 58 l with
  | none => (l, [], [])
  | some (t, m) => match cut 35 m with
    | none => (t, m, [])
    | some (i, r) => (t, i, r)

/-- A text's subject, as the document has it. -/
def read (l : List UInt8) : Option (List UInt8 × List UInt8 × List UInt8) :=
  match cut 58 l with
  | none => none
  | some (t, m) => match cut 35 m with
    | none => if kind t m [] = 0 then none else some (t, m, [])
    | some (i, r) => if kind t i r = 0 ∨ r = [] then none else some (t, i, r)

theorem kind_no_id (t r : List UInt8) : kind t [] r = 0 := by
  unfold kind
  rw [id_nil]
  split <;> simp

theorem sp_none {l : List UInt8} (h : cut 58 l = none) : sp l = (l, [], []) := by rw [sp, h]
theorem sp_one {l t m : List UInt8} (h : cut 58 l = some (t, m)) (h2 : cut 35 m = none) : sp l = (t, m, []) := by simp only [sp, h, h2]
theorem sp_two {l t m i r : List UInt8} (h : cut 58 l = some (t, m)) (h2 : cut 35 m = some (i, r)) : sp l = (t, i, r) := by simp only [sp, h, h2]
theorem read_none {l : List UInt8} (h : cut 58 l = none) : read l = none := by rw [read, h]
theorem read_one {l t m : List UInt8} (h : cut 58 l = some (t, m)) (h2 : cut 35 m = none) : read l = if kind t m [] = 0 then none else some (t, m, []) := by simp only [read, h, h2]
theorem read_two {l t m i r : List UInt8} (h : cut 58 l = some (t, m)) (h2 : cut 35 m = some (i, r)) : read l = if kind t i r = 0 ∨ r = [] then none else some (t, i, r) := by simp only [read, h, h2]

/-- The program reads as the document does. -/
theorem read_sp (l : List UInt8) : read l = if kind (sp l).1 (sp l).2.1 (sp l).2.2 = 0 ∨ text (sp l).1 (sp l).2.1 (sp l).2.2 ≠ l then none else some (sp l) := by
  cases h : cut 58 l with
  | none =>
    rw [read_none h, sp_none h]
    exact (if_pos (Or.inl (kind_no_id _ _))).symm
  | some p =>
    obtain ⟨t, m⟩ := p
    obtain ⟨e, _⟩ := cut_of h
    cases h2 : cut 35 m with
    | none =>
      rw [read_one h h2, sp_one h h2]
      have : text t m [] = l := by rw [text, if_pos rfl, e]; simp
      simp [this]
    | some q =>
      obtain ⟨i, r⟩ := q
      obtain ⟨e2, _⟩ := cut_of h2
      rw [read_two h h2, sp_two h h2]
      have : (text t i r ≠ l) ↔ r = [] := by
        rw [text, e, e2]
        by_cases hr : r = []
        · simp [hr]
        · simp [hr]
      simp only [this]

/-- What is read has that text, and is good. -/
theorem read_text {l t i r : List UInt8} (h : read l = some (t, i, r)) : text t i r = l ∧ kind t i r ≠ 0 := by
  rw [read_sp] at h
  split at h
  · cases h
  · rename_i hn
    rw [not_or, Decidable.not_not] at hn
    have e := Option.some.inj h
    rw [e] at hn
    exact ⟨hn.2, hn.1⟩

theorem kind_good {t i r : List UInt8} (h : kind t i r ≠ 0) : nameB t = true ∧ (i = [42] ∨ idB i = true) ∧ (r = [] ∨ nameB r = true) := by
  unfold kind at h
  cases ht : nameB t
  · rw [ht] at h; simp at h
  · rw [ht] at h
    refine ⟨rfl, ?_⟩
    by_cases hi : i = [42]
    · by_cases hr : r = []
      · exact ⟨Or.inl hi, Or.inl hr⟩
      · simp [hi, hr] at h
    · cases hid : idB i
      · simp [hi, hid] at h
      · refine ⟨Or.inr rfl, ?_⟩
        by_cases hr : r = []
        · exact Or.inl hr
        · cases hn : nameB r
          · simp [hi, hid, hr, hn] at h
          · exact Or.inr rfl

theorem kind_len {t i r : List UInt8} (h : kind t i r ≠ 0) : t.length ≤ 16 ∧ i.length ≤ 96 ∧ r.length ≤ 16 := by
  obtain ⟨h1, h2, h3⟩ := kind_good h
  refine ⟨(nameB_len h1).2, ?_, ?_⟩
  · rcases h2 with rfl | h2
    · simp
    · exact idB_len h2
  · rcases h3 with rfl | h3
    · simp
    · exact (nameB_len h3).2

theorem no_colon {t : List UInt8} (h : nameB t = true) : (58 : UInt8) ∉ t := fun hm => by
  have := nameB_bytes h 58 hm
  simp at this
theorem no_hash {i : List UInt8} (h : i = [42] ∨ idB i = true) : (35 : UInt8) ∉ i := fun hm => by
  rcases h with rfl | h
  · simp at hm
  · exact idB_bytes h 35 (by decide) (by decide) 35 hm rfl

/-- A good subject's text is read as it. -/
theorem text_read {t i r : List UInt8} (h : kind t i r ≠ 0) : read (text t i r) = some (t, i, r) := by
  obtain ⟨h1, h2, h3⟩ := kind_good h
  rw [read, text, cut_some _ (no_colon h1)]
  dsimp only
  by_cases hr : r = []
  · rw [if_pos hr, List.append_nil, cut_none (no_hash h2)]
    dsimp only
    rw [if_neg (by rw [← hr]; exact h), hr]
  · rw [if_neg hr, cut_some _ (no_hash h2)]
    dsimp only
    rw [if_neg (by rw [not_or]; exact ⟨h, hr⟩)]

/-- A text's object. -/
def readO (l : List UInt8) : Option (List UInt8 × List UInt8) :=
  match read l with
  | some (t, i, r) => if kind t i r = 1 then some (t, i) else none
  | none => none
end Go.Proofs.YtopncohhagebbaaDoor.Who

namespace Go.Proofs.YtopncohhagebbaaDoor.Bond
open Go Gly
open Who (cut cut_none cut_some cut_of kind read text readO read_text text_read kind_good name_nil id_nil nameB_bytes idB_bytes)

/-- The pieces of a text: ahead of its first #, from there to the next @, and behind. -/
def sp (l : List UInt8) : List UInt8 × List UInt8 × List UInt8 :=
  match cut 35 l with
  | none => (l, [], [])
  | some (t, m) => match cut 64 m with
    | none => (t, m, [])
    | some (i, r) => (t, i, r)
theorem sp_none {l : List UInt8} (h : cut 35 l = none) : sp l = (l, [], []) := by rw [sp, h]
theorem sp_one {l t m : List UInt8} (h : cut 35 l = some (t, m)) (h2 : cut 64 m = none) : sp l = (t, m, []) := by simp only [sp, h, h2]
theorem sp_two {l t m i r : List UInt8} (h : cut 35 l = some (t, m)) (h2 : cut 64 m = some (i, r)) : sp l = (t, i, r) := by simp only [sp, h, h2]

abbrev L3 := List UInt8 × List UInt8 × List UInt8
def text3 (y : L3) : List UInt8 := text y.1 y.2.1 y.2.2
def kind3 (y : L3) : Nat := kind y.1 y.2.1 y.2.2
/-- A tuple's text. -/
def btext (x y : L3) : List UInt8 := x.1 ++ 58 :: (x.2.1 ++ 35 :: (x.2.2 ++ 64 :: text3 y))
/-- Is a tuple good? -/
def goodB (x y : L3) : Bool := nameB x.1 && idB x.2.1 && nameB x.2.2 && decide (0 < kind3 y)

/-- A text's tuple, as the document has it. -/
def rd (l : List UInt8) : Option (L3 × L3) :=
  match cut 64 l with
  | none => none
  | some (a, b) => match read a, read b with
    | some x, some y => if kind3 x = 2 then some (x, y) else none
    | _, _ => none
/-- A text's tuple, as the program has it. -/
def pr (l : List UInt8) : Option (L3 × L3) :=
  match readO (sp l).1, read (sp l).2.2 with
  | some o, some y => if nameB (sp l).2.1 then some ((o.1, o.2, (sp l).2.1), y) else none
  | _, _ => none

theorem kind_set {t i r : List UInt8} : kind t i r = 2 ↔ nameB t = true ∧ idB i = true ∧ nameB r = true := by
  have h := Who.set_eq t i r
  rw [Who.setB] at h
  constructor
  · intro e
    rw [e] at h
    simpa [and_assoc] using h
  · rintro ⟨a, b, c⟩
    rw [a, b, c] at h
    simpa using h.symm
theorem kind_one {t i r : List UInt8} : kind t i r = 1 ↔ nameB t = true ∧ idB i = true ∧ r = [] := by
  have h := Who.one_eq t i r
  rw [Who.oneB] at h
  constructor
  · intro e
    rw [e] at h
    simpa [and_assoc] using h
  · rintro ⟨a, b, rfl⟩
    rw [a, b] at h
    simpa using h.symm
theorem good_iff {x y : L3} : goodB x y = true ↔ kind3 x = 2 ∧ kind3 y ≠ 0 := by
  rw [kind3, kind_set, goodB]
  simp [and_assoc, Nat.pos_iff_ne_zero]
theorem name_ne {r : List UInt8} (h : nameB r = true) : r ≠ [] := fun e => by rw [e, name_nil] at h; cases h
theorem text_set {x : L3} (h : nameB x.2.2 = true) : text3 x = x.1 ++ 58 :: (x.2.1 ++ 35 :: x.2.2) := by
  rw [text3, text, if_neg (name_ne h)]
theorem no_name {t : List UInt8} (h : nameB t = true) (c : UInt8) (hc : c = 35 ∨ c = 64 ∨ c = 58) : c ∉ t := fun hm => by
  have := nameB_bytes h c hm
  rcases hc with rfl | rfl | rfl <;> simp at this
theorem no_id {i : List UInt8} (h : idB i = true) (c : UInt8) (hc : c = 35 ∨ c = 64 ∨ c = 58) : c ∉ i := fun hm => by
  rcases hc with rfl | rfl | rfl
  · exact idB_bytes h 35 (by decide) (by decide) 35 hm rfl
  · exact idB_bytes h 64 (by decide) (by decide) 64 hm rfl
  · exact idB_bytes h 58 (by decide) (by decide) 58 hm rfl

theorem rd_none {l : List UInt8} (h : cut 64 l = none) : rd l = none := by rw [rd, h]
theorem rd_some {l a b : List UInt8} (h : cut 64 l = some (a, b)) : rd l = match read a, read b with
    | some x, some y => if kind3 x = 2 then some (x, y) else none
    | _, _ => none := by rw [rd, h]

theorem rd_of {l : List UInt8} {x y : L3} (h : rd l = some (x, y)) : goodB x y = true ∧ l = btext x y := by
  cases hc : cut 64 l with
  | none => rw [rd_none hc] at h; cases h
  | some p =>
    obtain ⟨a, b⟩ := p
    obtain ⟨e, _⟩ := cut_of hc
    rw [rd_some hc] at h
    cases ha : read a with
    | none => rw [ha] at h; cases h
    | some x' =>
      cases hb : read b with
      | none => rw [ha, hb] at h; cases h
      | some y' =>
        rw [ha, hb] at h
        dsimp only at h
        by_cases hk : kind3 x' = 2
        · rw [if_pos hk] at h
          obtain ⟨rfl, rfl⟩ := Prod.mk.inj (Option.some.inj h)
          obtain ⟨t1, i1, r1⟩ := x'
          obtain ⟨t2, i2, r2⟩ := y'
          obtain ⟨e1, _⟩ := read_text ha
          obtain ⟨e2, k2⟩ := read_text hb
          refine ⟨good_iff.2 ⟨hk, k2⟩, ?_⟩
          have hs := text_set (x := (t1, i1, r1)) (kind_set.1 hk).2.2
          rw [e, ← e1, btext, show b = text3 (t2, i2, r2) from e2.symm, show text t1 i1 r1 = text3 (t1, i1, r1) from rfl, hs]
          simp
        · rw [if_neg hk] at h; cases h
theorem rd_text {x y : L3} (h : goodB x y = true) : rd (btext x y) = some (x, y) := by
  obtain ⟨h1, h2⟩ := good_iff.1 h
  obtain ⟨t1, i1, r1⟩ := x
  obtain ⟨t2, i2, r2⟩ := y
  obtain ⟨n1, n2, n3⟩ := kind_set.1 h1
  have hc : cut 64 (btext (t1, i1, r1) (t2, i2, r2)) = some (text3 (t1, i1, r1), text3 (t2, i2, r2)) := by
    rw [text_set (x := (t1, i1, r1)) n3, btext, show t1 ++ 58 :: (i1 ++ 35 :: (r1 ++ 64 :: text3 (t2, i2, r2))) = (t1 ++ 58 :: (i1 ++ 35 :: r1)) ++ 64 :: text3 (t2, i2, r2) by simp]
    refine cut_some _ ?_
    have a1 := no_name n1 64 (by simp)
    have a2 := no_id n2 64 (by simp)
    have a3 := no_name n3 64 (by simp)
    simp [a1, a2, a3]
  have r1' : read (text3 (t1, i1, r1)) = some (t1, i1, r1) := text_read (by rw [show kind t1 i1 r1 = 2 from h1]; decide)
  have r2' : read (text3 (t2, i2, r2)) = some (t2, i2, r2) := text_read h2
  rw [rd_some hc, r1', r2']
  exact if_pos h1

theorem readO_of {l : List UInt8} {t i : List UInt8} (h : readO l = some (t, i)) : nameB t = true ∧ idB i = true ∧ l = t ++ 58 :: i := by
  rw [readO] at h
  cases hr : read l with
  | none => rw [hr] at h; cases h
  | some z =>
    obtain ⟨t', i', r'⟩ := z
    rw [hr] at h
    dsimp only at h
    by_cases hk : kind t' i' r' = 1
    · rw [if_pos hk] at h
      obtain ⟨rfl, rfl⟩ := Prod.mk.inj (Option.some.inj h)
      obtain ⟨n1, n2, rfl⟩ := kind_one.1 hk
      refine ⟨n1, n2, ?_⟩
      have := (read_text hr).1
      rw [text, if_pos rfl, List.append_nil] at this
      exact this.symm
    · rw [if_neg hk] at h; cases h
theorem readO_text {t i : List UInt8} (h1 : nameB t = true) (h2 : idB i = true) : readO (t ++ 58 :: i) = some (t, i) := by
  have hk : kind t i [] = 1 := kind_one.2 ⟨h1, h2, rfl⟩
  have hr := text_read (t := t) (i := i) (r := []) (by omega)
  rw [text, if_pos rfl, List.append_nil] at hr
  rw [readO, hr]
  exact if_pos hk
theorem read_nil : read [] = none := rfl

theorem pr_of {l : List UInt8} {x y : L3} (h : pr l = some (x, y)) : goodB x y = true ∧ l = btext x y := by
  have hsp : ∃ o r s, sp l = (o, r, s) := ⟨_, _, _, rfl⟩
  obtain ⟨o, r, s, hs⟩ := hsp
  rw [pr, hs] at h
  dsimp only at h
  cases ho : readO o with
  | none => rw [ho] at h; cases h
  | some q =>
    cases hb : read s with
    | none => rw [ho, hb] at h; cases h
    | some y' =>
      rw [ho, hb] at h
      dsimp only at h
      by_cases hn : nameB r = true
      · rw [if_pos hn] at h
        obtain ⟨rfl, rfl⟩ := Prod.mk.inj (Option.some.inj h)
        obtain ⟨n1, n2, e1⟩ := readO_of (t := q.1) (i := q.2) ho
        obtain ⟨t2, i2, r2⟩ := y'
        obtain ⟨e2, k2⟩ := read_text hb
        refine ⟨good_iff.2 ⟨kind_set.2 ⟨n1, n2, hn⟩, k2⟩, ?_⟩
        cases hc : cut 35 l with
        | none =>
          rw [sp_none hc] at hs
          obtain ⟨rfl, e3⟩ := Prod.mk.inj hs
          obtain ⟨rfl, rfl⟩ := Prod.mk.inj e3
          rw [name_nil] at hn; cases hn
        | some p =>
          obtain ⟨t, m⟩ := p
          obtain ⟨e3, _⟩ := cut_of hc
          cases hc2 : cut 64 m with
          | none =>
            rw [sp_one hc hc2] at hs
            obtain ⟨rfl, e4⟩ := Prod.mk.inj hs
            obtain ⟨rfl, rfl⟩ := Prod.mk.inj e4
            rw [read_nil] at hb; cases hb
          | some p2 =>
            obtain ⟨i, r'⟩ := p2
            obtain ⟨e4, _⟩ := cut_of hc2
            rw [sp_two hc hc2] at hs
            obtain ⟨rfl, e5⟩ := Prod.mk.inj hs
            obtain ⟨rfl, rfl⟩ := Prod.mk.inj e5
            rw [e3, e4, e1, btext, show text3 (t2, i2, r2) = text t2 i2 r2 from rfl, e2]
            simp
      · rw [if_neg hn] at h; cases h
theorem pr_text {x y : L3} (h : goodB x y = true) : pr (btext x y) = some (x, y) := by
  obtain ⟨h1, h2⟩ := good_iff.1 h
  obtain ⟨t1, i1, r1⟩ := x
  obtain ⟨t2, i2, r2⟩ := y
  obtain ⟨n1, n2, n3⟩ := kind_set.1 h1
  dsimp only at n1 n2 n3
  have hc : cut 35 (btext (t1, i1, r1) (t2, i2, r2)) = some (t1 ++ 58 :: i1, r1 ++ 64 :: text3 (t2, i2, r2)) := by
    rw [btext, show t1 ++ 58 :: (i1 ++ 35 :: (r1 ++ 64 :: text3 (t2, i2, r2))) = (t1 ++ 58 :: i1) ++ 35 :: (r1 ++ 64 :: text3 (t2, i2, r2)) by simp]
    refine cut_some _ ?_
    have a1 := no_name n1 35 (by simp)
    have a2 := no_id n2 35 (by simp)
    simp [a1, a2]
  have hc2 : cut 64 (r1 ++ 64 :: text3 (t2, i2, r2)) = some (r1, text3 (t2, i2, r2)) := cut_some _ (no_name n3 64 (by simp))
  have r2' : read (text3 (t2, i2, r2)) = some (t2, i2, r2) := text_read h2
  rw [pr, sp_two hc hc2]
  dsimp only
  rw [readO_text n1 n2, r2']
  exact if_pos n3
/-- The program reads as the document does. -/
theorem pr_rd (l : List UInt8) : pr l = rd l := by
  cases h : rd l with
  | some z =>
    obtain ⟨g, e⟩ := rd_of (x := z.1) (y := z.2) h
    rw [e]
    exact pr_text g
  | none =>
    cases h2 : pr l with
    | none => rfl
    | some z =>
      obtain ⟨g, e⟩ := pr_of (x := z.1) (y := z.2) h2
      rw [e, rd_text g] at h
      cases h
end Go.Proofs.YtopncohhagebbaaDoor.Bond

namespace Go.Proofs.YtopncohhagebbaaDoor.Who
open Go Gly

theorem sign_none {l : List UInt8} (h : l ≠ []) {c : UInt8} (hc : c.toNat < 128) (hne : (dec l).1 ≠ c.toNat) : c ∉ l.take (dec l).2 := fun hm => by
  obtain ⟨k, hk, e⟩ := take_bytes_mem (dec_width l h).2.1 hm
  rcases dec_bytes h hk with ⟨_, e2⟩ | e2 <;> omega
theorem sign_here {l : List UInt8} (h : l ≠ []) {c : UInt8} (hc : c.toNat < 128) (he : (dec l).1 = c.toNat) : (dec l).2 = 1 ∧ l = c :: l.drop 1 := by
  have hlow : byte l 0 < 128 := by
    refine Nat.lt_of_not_le fun hge => ?_
    have := dec_high h hge
    omega
  have hd := dec_low h hlow
  rw [hd] at he ⊢
  refine ⟨rfl, ?_⟩
  have h0 := cons_byte h
  have : l.getD 0 0 = c := UInt8.toNat_inj.1 he
  rw [this] at h0
  exact h0

theorem take_more (l : List UInt8) (p k : Nat) : l.take (p + k) = l.take p ++ (l.drop p).take k := List.take_add
theorem piece_more (l : List UInt8) {a p : Nat} (h : a ≤ p) (k : Nat) : (l.drop a).take (p + k - a) = (l.drop a).take (p - a) ++ (l.drop p).take k := by
  rw [show p + k - a = (p - a) + k by omega, List.take_add, List.drop_drop, show a + (p - a) = p by omega]

/-- What is known with n signs found, the last piece beginning at a, all ahead of p gone through. -/
def St (l : List UInt8) (n a p : Nat) (p0 p1 : List UInt8) : Prop :=
  a ≤ p ∧ p ≤ l.length ∧
  ((n = 0 ∧ a = 0 ∧ p0 = [] ∧ p1 = [] ∧ 58 ∉ l.take p) ∨
   (n = 1 ∧ p1 = [] ∧ l = p0 ++ 58 :: l.drop a ∧ 58 ∉ p0 ∧ 35 ∉ (l.drop a).take (p - a)) ∨
   (n = 2 ∧ sp l = (p0, p1, l.drop a)))

theorem St.le {l : List UInt8} {n a p : Nat} {p0 p1 : List UInt8} (h : St l n a p p0 p1) : n ≤ 2 ∧ a ≤ p ∧ p ≤ l.length := by
  refine ⟨?_, h.1, h.2.1⟩
  rcases h.2.2 with h | h | h <;> omega
theorem St.start (l : List UInt8) : St l 0 0 0 [] [] := ⟨Nat.le_refl _, Nat.zero_le _, Or.inl ⟨rfl, rfl, rfl, rfl, by simp⟩⟩

theorem drop_ne' {l : List UInt8} {p : Nat} (h : p < l.length) : l.drop p ≠ [] := by
  intro e
  have := congrArg List.length e
  rw [List.length_drop] at this
  simp at this; omega
theorem next_le {l : List UInt8} {p : Nat} (h : p < l.length) : 1 ≤ (dec (l.drop p)).2 ∧ p + (dec (l.drop p)).2 ≤ l.length := by
  have := dec_width _ (drop_ne' h)
  rw [List.length_drop] at this
  omega

theorem St.colon {l : List UInt8} {a p : Nat} {p0 p1 : List UInt8} (h : St l 0 a p p0 p1) (hp : p < l.length) (hr : (dec (l.drop p)).1 = 58) :
    (dec (l.drop p)).2 = 1 ∧ St l 1 (p + 1) (p + 1) ((l.drop a).take (p - a)) p1 := by
  obtain ⟨h1, h2⟩ := sign_here (c := 58) (drop_ne' hp) (by decide) hr
  refine ⟨h1, Nat.le_refl _, hp, Or.inr (Or.inl ?_)⟩
  rcases h.2.2 with ⟨_, rfl, rfl, rfl, hn⟩ | h | h
  · refine ⟨rfl, rfl, ?_, ?_, by simp⟩
    · rw [List.drop_zero, Nat.sub_zero]
      conv => lhs; rw [← List.take_append_drop p l, h2]
      rw [List.drop_drop]
    · rw [List.drop_zero, Nat.sub_zero]; exact hn
  · omega
  · omega
theorem St.hash {l : List UInt8} {a p : Nat} {p0 p1 : List UInt8} (h : St l 1 a p p0 p1) (hp : p < l.length) (hr : (dec (l.drop p)).1 = 35) :
    (dec (l.drop p)).2 = 1 ∧ St l 2 (p + 1) (p + 1) p0 ((l.drop a).take (p - a)) := by
  obtain ⟨h1, h2⟩ := sign_here (c := 35) (drop_ne' hp) (by decide) hr
  refine ⟨h1, Nat.le_refl _, hp, Or.inr (Or.inr ⟨rfl, ?_⟩)⟩
  have ha := h.1
  rcases h.2.2 with h | ⟨_, rfl, e, hn, hm⟩ | h
  · omega
  · have hc : cut 58 l = some (p0, l.drop a) := by
      conv => lhs; rw [e]
      exact cut_some _ hn
    have e2 : l.drop a = (l.drop a).take (p - a) ++ 35 :: l.drop (p + 1) := by
      conv => lhs; rw [← List.take_append_drop (p - a) (l.drop a)]
      rw [List.drop_drop, show a + (p - a) = p by omega, h2, List.drop_drop]
    have hc2 : cut 35 (l.drop a) = some ((l.drop a).take (p - a), l.drop (p + 1)) := by
      conv => lhs; rw [e2]
      exact cut_some _ hm
    exact sp_two hc hc2
  · omega
theorem St.next {l : List UInt8} {n a p : Nat} {p0 p1 : List UInt8} (h : St l n a p p0 p1) (hp : p < l.length) (h0 : n = 0 → (dec (l.drop p)).1 ≠ 58) (h1 : n = 1 → (dec (l.drop p)).1 ≠ 35) :
    St l n a (p + (dec (l.drop p)).2) p0 p1 := by
  have hw := next_le hp
  have ha := h.1
  refine ⟨by omega, hw.2, ?_⟩
  rcases h.2.2 with ⟨e, e2, e3, e4, hn⟩ | ⟨e, e1, e2, hn, hm⟩ | ⟨e, e2⟩
  · refine Or.inl ⟨e, e2, e3, e4, ?_⟩
    rw [take_more, List.mem_append, not_or]
    exact ⟨hn, sign_none (c := 58) (drop_ne' hp) (by decide) (h0 e)⟩
  · refine Or.inr (Or.inl ⟨e, e1, e2, hn, ?_⟩)
    rw [piece_more l ha, List.mem_append, not_or]
    exact ⟨hm, sign_none (c := 35) (drop_ne' hp) (by decide) (h1 e)⟩
  · exact Or.inr (Or.inr ⟨e, e2⟩)

theorem St.end0 {l : List UInt8} {a p : Nat} {p0 p1 : List UInt8} (h : St l 0 a p p0 p1) (hp : ¬ p < l.length) : sp l = (l.drop a, p1, []) := by
  have hl := h.2.1
  rcases h.2.2 with ⟨_, rfl, rfl, rfl, hn⟩ | h | h
  · rw [List.take_of_length_le (by omega)] at hn
    exact sp_none (cut_none hn)
  · omega
  · omega
theorem St.end1 {l : List UInt8} {a p : Nat} {p0 p1 : List UInt8} (h : St l 1 a p p0 p1) (hp : ¬ p < l.length) : sp l = (p0, l.drop a, []) := by
  have hl := h.2.1
  rcases h.2.2 with h | ⟨_, rfl, e, hn, hm⟩ | h
  · omega
  · rw [List.take_of_length_le (by rw [List.length_drop]; omega)] at hm
    have hc : cut 58 l = some (p0, l.drop a) := by
      conv => lhs; rw [e]
      exact cut_some _ hn
    exact sp_one hc (cut_none hm)
  · omega
theorem St.end2 {l : List UInt8} {a p : Nat} {p0 p1 : List UInt8} (h : St l 2 a p p0 p1) : sp l = (p0, p1, l.drop a) := by
  rcases h.2.2 with h | h | ⟨_, e⟩
  · omega
  · omega
  · exact e

/-- The pieces are no longer than the text. -/
theorem sp_len (l : List UInt8) : (sp l).1.length ≤ l.length ∧ (sp l).2.1.length ≤ l.length ∧ (sp l).2.2.length ≤ l.length := by
  cases h : cut 58 l with
  | none => rw [sp_none h]; simp
  | some x =>
    obtain ⟨t, m⟩ := x
    obtain ⟨e, _⟩ := cut_of h
    cases h2 : cut 35 m with
    | none => rw [sp_one h h2, e]; simp; omega
    | some y =>
      obtain ⟨i, r⟩ := y
      obtain ⟨e2, _⟩ := cut_of h2
      rw [sp_two h h2, e, e2]; simp; omega
end Go.Proofs.YtopncohhagebbaaDoor.Who

namespace Go.Proofs.YtopncohhagebbaaDoor.Bond
open Go Gly
open Who (cut cut_none cut_some cut_of sign_none sign_here take_more piece_more drop_ne' next_le)

/-- What is known with n signs found, the last piece beginning at a, all ahead of p gone through. -/
def St (l : List UInt8) (n a p : Nat) (p0 p1 : List UInt8) : Prop :=
  a ≤ p ∧ p ≤ l.length ∧
  ((n = 0 ∧ a = 0 ∧ p0 = [] ∧ p1 = [] ∧ 35 ∉ l.take p) ∨
   (n = 1 ∧ p1 = [] ∧ l = p0 ++ 35 :: l.drop a ∧ 35 ∉ p0 ∧ 64 ∉ (l.drop a).take (p - a)) ∨
   (n = 2 ∧ sp l = (p0, p1, l.drop a)))

theorem St.le {l : List UInt8} {n a p : Nat} {p0 p1 : List UInt8} (h : St l n a p p0 p1) : n ≤ 2 ∧ a ≤ p ∧ p ≤ l.length := by
  refine ⟨?_, h.1, h.2.1⟩
  rcases h.2.2 with h | h | h <;> omega
theorem St.start (l : List UInt8) : St l 0 0 0 [] [] := ⟨Nat.le_refl _, Nat.zero_le _, Or.inl ⟨rfl, rfl, rfl, rfl, by simp⟩⟩

theorem St.hash {l : List UInt8} {a p : Nat} {p0 p1 : List UInt8} (h : St l 0 a p p0 p1) (hp : p < l.length) (hr : (dec (l.drop p)).1 = 35) :
    (dec (l.drop p)).2 = 1 ∧ St l 1 (p + 1) (p + 1) ((l.drop a).take (p - a)) p1 := by
  obtain ⟨h1, h2⟩ := sign_here (c := 35) (drop_ne' hp) (by decide) hr
  refine ⟨h1, Nat.le_refl _, hp, Or.inr (Or.inl ?_)⟩
  rcases h.2.2 with ⟨_, rfl, rfl, rfl, hn⟩ | h | h
  · refine ⟨rfl, rfl, ?_, ?_, by simp⟩
    · rw [List.drop_zero, Nat.sub_zero]
      conv => lhs; rw [← List.take_append_drop p l, h2]
      rw [List.drop_drop]
    · rw [List.drop_zero, Nat.sub_zero]; exact hn
  · omega
  · omega
theorem St.at {l : List UInt8} {a p : Nat} {p0 p1 : List UInt8} (h : St l 1 a p p0 p1) (hp : p < l.length) (hr : (dec (l.drop p)).1 = 64) :
    (dec (l.drop p)).2 = 1 ∧ St l 2 (p + 1) (p + 1) p0 ((l.drop a).take (p - a)) := by
  obtain ⟨h1, h2⟩ := sign_here (c := 64) (drop_ne' hp) (by decide) hr
  refine ⟨h1, Nat.le_refl _, hp, Or.inr (Or.inr ⟨rfl, ?_⟩)⟩
  have ha := h.1
  rcases h.2.2 with h | ⟨_, rfl, e, hn, hm⟩ | h
  · omega
  · have hc : cut 35 l = some (p0, l.drop a) := by
      conv => lhs; rw [e]
      exact cut_some _ hn
    have e2 : l.drop a = (l.drop a).take (p - a) ++ 64 :: l.drop (p + 1) := by
      conv => lhs; rw [← List.take_append_drop (p - a) (l.drop a)]
      rw [List.drop_drop, show a + (p - a) = p by omega, h2, List.drop_drop]
    have hc2 : cut 64 (l.drop a) = some ((l.drop a).take (p - a), l.drop (p + 1)) := by
      conv => lhs; rw [e2]
      exact cut_some _ hm
    exact sp_two hc hc2
  · omega
theorem St.next {l : List UInt8} {n a p : Nat} {p0 p1 : List UInt8} (h : St l n a p p0 p1) (hp : p < l.length) (h0 : n = 0 → (dec (l.drop p)).1 ≠ 35) (h1 : n = 1 → (dec (l.drop p)).1 ≠ 64) :
    St l n a (p + (dec (l.drop p)).2) p0 p1 := by
  have hw := next_le hp
  have ha := h.1
  refine ⟨by omega, hw.2, ?_⟩
  rcases h.2.2 with ⟨e, e2, e3, e4, hn⟩ | ⟨e, e1, e2, hn, hm⟩ | ⟨e, e2⟩
  · refine Or.inl ⟨e, e2, e3, e4, ?_⟩
    rw [take_more, List.mem_append, not_or]
    exact ⟨hn, sign_none (c := 35) (drop_ne' hp) (by decide) (h0 e)⟩
  · refine Or.inr (Or.inl ⟨e, e1, e2, hn, ?_⟩)
    rw [piece_more l ha, List.mem_append, not_or]
    exact ⟨hm, sign_none (c := 64) (drop_ne' hp) (by decide) (h1 e)⟩
  · exact Or.inr (Or.inr ⟨e, e2⟩)

theorem St.end0 {l : List UInt8} {a p : Nat} {p0 p1 : List UInt8} (h : St l 0 a p p0 p1) (hp : ¬ p < l.length) : sp l = (l.drop a, p1, []) := by
  have hl := h.2.1
  rcases h.2.2 with ⟨_, rfl, rfl, rfl, hn⟩ | h | h
  · rw [List.take_of_length_le (by omega)] at hn
    exact sp_none (cut_none hn)
  · omega
  · omega
theorem St.end1 {l : List UInt8} {a p : Nat} {p0 p1 : List UInt8} (h : St l 1 a p p0 p1) (hp : ¬ p < l.length) : sp l = (p0, l.drop a, []) := by
  have hl := h.2.1
  rcases h.2.2 with h | ⟨_, rfl, e, hn, hm⟩ | h
  · omega
  · rw [List.take_of_length_le (by rw [List.length_drop]; omega)] at hm
    have hc : cut 35 l = some (p0, l.drop a) := by
      conv => lhs; rw [e]
      exact cut_some _ hn
    exact sp_one hc (cut_none hm)
  · omega
theorem St.end2 {l : List UInt8} {a p : Nat} {p0 p1 : List UInt8} (h : St l 2 a p p0 p1) : sp l = (p0, p1, l.drop a) := by
  rcases h.2.2 with h | h | ⟨_, e⟩
  · omega
  · omega
  · exact e

/-- The pieces are no longer than the text. -/
theorem sp_len (l : List UInt8) : (sp l).1.length ≤ l.length ∧ (sp l).2.1.length ≤ l.length ∧ (sp l).2.2.length ≤ l.length := by
  cases h : cut 35 l with
  | none => rw [sp_none h]; simp
  | some x =>
    obtain ⟨t, m⟩ := x
    obtain ⟨e, _⟩ := cut_of h
    cases h2 : cut 64 m with
    | none => rw [sp_one h h2, e]; simp; omega
    | some y =>
      obtain ⟨i, r⟩ := y
      obtain ⟨e2, _⟩ := cut_of h2
      rw [sp_two h h2, e, e2]; simp; omega
end Go.Proofs.YtopncohhagebbaaDoor.Bond
