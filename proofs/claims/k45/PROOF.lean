import PyProof.Rows.All
import Wide.All
import OpenK.AllK
import Wide.FinOn
import HandS.ForMost
import HandS.Wide
import HandS.Deep
import HandS.NoneIn
import HandS.IsInst
import HandS.StrMore
import HandS.Codes
import KE.GoesEnumKw
import PyProof.StrLawsChain
import HandS.More
import HandS.Flow
import HandS.ExcIs
import HandS.ExcField
import HandS.TryOnly
import KE.KIsAll
import HandS.Slots
import HandS.CallLocal
import PyProof.FactsAll.bool_1
import PyProof.FactsAll.bool_2
import PyProof.FactsAll.int_2
import PyProof.FactsAll.int_3
import PyProof.Rows.InDataRows
import HandS.Style
import HandS.TupMul
import HandS.Flt
import HandS.Zip
import HandS.BoundList
import HandS.Star
import HandS.DictComp
import HandS.Iter
import HandS.Walk
import HandS.WideBits
import HandS.TupAny
import HandS.Text
import PySem.Challenge.RW_slumberway_k45_programs_by_their_own_for
/-! The lexer on lists of codes: what a row's lexemes are, and that lexemes written one behind the other are read again. -/
set_option Elab.async false
namespace Lx
inductive Srt where
  | name | word | maker | number | sign
  deriving DecidableEq, Repr
abbrev Tok := Nat × Srt × List Nat
def small (c : Nat) : Bool := decide (97 ≤ c) && decide (c ≤ 122)
def great (c : Nat) : Bool := decide (65 ≤ c) && decide (c ≤ 90)
def figure (c : Nat) : Bool := decide (48 ≤ c) && decide (c ≤ 57)
def alnum (c : Nat) : Bool := small c || great c || figure c
def words : List (List Nat) := [[100, 97, 116, 97], [108, 101, 116], [105, 110], [105, 102], [116, 104, 101, 110], [101, 108, 115, 101], [99, 97, 115, 101], [111, 102], [102, 117, 110]]
def signs : List (List Nat) := [[61, 61], [45, 62], [61], [124], [40], [41], [43], [45], [42], [60], [95]]
def runLen (p : Nat → Bool) (s : List Nat) : Nat := (s.takeWhile p).length
def behind (s : List Nat) (n : Nat) : Bool := match s.drop n with
  | [] => false
  | c :: _ => alnum c
def tokLen : List Nat → Option (Srt × Nat)
  | [] => none
  | c :: r =>
    if small c = true then some (if words.contains ((c :: r).take (1 + runLen small (r.take 7))) = true then .word else .name, 1 + runLen small (r.take 7))
    else if great c = true then some (.maker, 1 + runLen small (r.take 7))
    else if figure c = true then some (.number, if c = 48 then 1 else 1 + runLen figure r)
    else match signs.find? (fun g => g.isPrefixOf (c :: r)) with
      | some g => some (.sign, g.length)
      | none => none
def tokAt (s : List Nat) : Except Nat (Srt × Nat) := match tokLen s with
  | none => .error 0
  | some (t, n) => if t = .sign then .ok (t, n) else if behind s n = true then .error n else .ok (t, n)
def pre (found : List Tok) : Except Nat (List Tok) → Except Nat (List Tok)
  | .ok l => .ok (found ++ l)
  | .error e => .error e
def lex (col : Nat) : List Nat → Except Nat (List Tok)
  | [] => .ok []
  | c :: r =>
    if c = 45 ∧ r.head? = some 45 then .ok []
    else if c = 32 then lex (col + 1) r
    else match tokAt (c :: r) with
      | .error k => .error (col + k)
      | .ok (t, n) => pre [(col, t, (c :: r).take n)] (lex (col + n) (r.drop (n - 1)))
  termination_by s => s.length
  decreasing_by
    all_goals simp only [List.length_cons, List.length_drop]
    all_goals omega
theorem pre_pre (a b : List Tok) (x : Except Nat (List Tok)) : pre a (pre b x) = pre (a ++ b) x := by
  cases x with
  | ok l => simp [pre]
  | error e => rfl
theorem pre_nil (x : Except Nat (List Tok)) : pre [] x = x := by cases x <;> rfl
theorem lex_nil (col : Nat) : lex col [] = .ok [] := by rw [lex.eq_def]
theorem lex_blank (col : Nat) (r : List Nat) : lex col (32 :: r) = lex (col + 1) r := by
  rw [lex.eq_def]
  simp
theorem lex_blanks (g : Nat) : ∀ (col : Nat) (r : List Nat), lex col (List.replicate g 32 ++ r) = lex (col + g) r := by
  induction g with
  | zero => intro col r; simp
  | succ g ih =>
    intro col r
    rw [List.replicate_succ, List.cons_append, lex_blank, ih]
    congr 1
    omega
theorem lex_remark (col : Nat) (r : List Nat) : lex col (45 :: 45 :: r) = .ok [] := by
  rw [lex.eq_def]
  simp
theorem lex_tok {col : Nat} {c : Nat} {r : List Nat} {t : Srt} {n : Nat} (h1 : ¬ (c = 45 ∧ r.head? = some 45)) (h2 : c ≠ 32) (h3 : tokAt (c :: r) = .ok (t, n)) :
    lex col (c :: r) = pre [(col, t, (c :: r).take n)] (lex (col + n) (r.drop (n - 1))) := by
  rw [lex.eq_def]
  simp only [h1, if_false, h2, h3]
/-! ### lexemes that are right, and what may stand behind one -/
def Valid : Srt → List Nat → Prop
  | .name, w => w ≠ [] ∧ w.length ≤ 8 ∧ (∀ c ∈ w, small c = true) ∧ words.contains w = false
  | .word, w => w ∈ words
  | .maker, w => ∃ c r, w = c :: r ∧ great c = true ∧ r.length ≤ 7 ∧ ∀ c ∈ r, small c = true
  | .number, w => w = [48] ∨ ∃ c r, w = c :: r ∧ figure c = true ∧ c ≠ 48 ∧ ∀ c ∈ r, figure c = true
  | .sign, w => w ∈ signs
def compat : Option (Srt × List Nat) → List Nat → Prop
  | none, _ => True
  | some _, [] => True
  | some (t, w), x :: _ => if t = .sign then ¬ (w = [45] ∧ (x = 62 ∨ x = 45)) ∧ ¬ (w = [61] ∧ x = 61) else alnum x = false
theorem takeWhile_app {p : Nat → Bool} : ∀ {w c : List Nat}, (∀ x ∈ w, p x = true) → (∀ x r, c = x :: r → p x = false) → (w ++ c).takeWhile p = w
  | [], [], _, _ => rfl
  | [], x :: r, _, h => by
    have e := h x r rfl
    simp [List.takeWhile, e]
  | a :: w, c, h, h2 => by
    have e := h a (by simp)
    have ih := takeWhile_app (w := w) (c := c) (fun x hx => h x (by simp [hx])) h2
    simp [List.takeWhile, e, ih]
theorem alnum_parts {x : Nat} (h : alnum x = false) : small x = false ∧ great x = false ∧ figure x = false := by
  unfold alnum at h
  simp only [Bool.or_eq_false_iff] at h
  exact ⟨h.1.1, h.1.2, h.2⟩
theorem small_not {c : Nat} (h : small c = true) : great c = false ∧ figure c = false ∧ c ≠ 45 ∧ c ≠ 32 := by
  unfold small at h
  unfold great figure
  simp only [Bool.and_eq_true, decide_eq_true_eq] at h
  simp only [Bool.and_eq_false_iff, decide_eq_false_iff_not]
  omega
theorem great_not {c : Nat} (h : great c = true) : small c = false ∧ figure c = false ∧ c ≠ 45 ∧ c ≠ 32 := by
  unfold great at h
  unfold small figure
  simp only [Bool.and_eq_true, decide_eq_true_eq] at h
  simp only [Bool.and_eq_false_iff, decide_eq_false_iff_not]
  omega
theorem figure_not {c : Nat} (h : figure c = true) : small c = false ∧ great c = false ∧ c ≠ 45 ∧ c ≠ 32 := by
  unfold figure at h
  unfold small great
  simp only [Bool.and_eq_true, decide_eq_true_eq] at h
  simp only [Bool.and_eq_false_iff, decide_eq_false_iff_not]
  omega
theorem run7 {r c : List Nat} (h : ∀ x ∈ r, small x = true) (hl : r.length ≤ 7) (hc : ∀ x q, c = x :: q → small x = false) : runLen small ((r ++ c).take 7) = r.length := by
  unfold runLen
  rw [List.take_append]
  rw [List.take_of_length_le hl, takeWhile_app h]
  intro x q e
  cases c with
  | nil => simp at e
  | cons y s =>
    cases hk : 7 - r.length with
    | zero => rw [hk] at e; simp at e
    | succ k =>
      rw [hk, List.take_succ_cons] at e
      cases e
      exact hc _ _ rfl
theorem behind_app {w c : List Nat} (hc : ∀ x q, c = x :: q → alnum x = false) : behind (w ++ c) w.length = false := by
  unfold behind
  rw [List.drop_left]
  cases c with
  | nil => rfl
  | cons x q => exact hc x q rfl
theorem words_small : ∀ w ∈ words, w ≠ [] ∧ w.length ≤ 8 ∧ ∀ c ∈ w, small c = true := by decide
theorem signs_find : ∀ w ∈ signs, ∀ v ∈ signs, v.isPrefixOf w = true → v = w ∨ (v = [61] ∧ w = [61, 61]) ∨ (v = [45] ∧ w = [45, 62]) := by decide
theorem signs_not : ∀ w ∈ signs, ∃ c r, w = c :: r ∧ small c = false ∧ great c = false ∧ figure c = false ∧ c ≠ 32 ∧ (c = 45 → w = [45] ∨ w = [45, 62]) := by
  intro w h
  simp only [signs, List.mem_cons, List.not_mem_nil, or_false] at h
  rcases h with h | h | h | h | h | h | h | h | h | h | h <;> subst h <;> exact ⟨_, _, rfl, by decide⟩
theorem find_sign {w c : List Nat} (h : w ∈ signs) (hc : compat (some (.sign, w)) c) : signs.find? (fun g => g.isPrefixOf (w ++ c)) = some w := by
  have key : ∀ x q, c = x :: q → ¬ (w = [45] ∧ (x = 62 ∨ x = 45)) ∧ ¬ (w = [61] ∧ x = 61) := by
    intro x q e
    subst e
    simpa [compat] using hc
  simp only [signs, List.mem_cons, List.not_mem_nil, or_false] at h
  cases c with
  | nil => rcases h with h | h | h | h | h | h | h | h | h | h | h <;> subst h <;> decide
  | cons x q =>
    have k := key x q rfl
    rcases h with h | h | h | h | h | h | h | h | h | h | h <;> subst h <;> simp [signs, List.find?, List.isPrefixOf] at k ⊢
    · rw [show (61 == x) = false by simpa using fun e => k e.symm]
    · rw [show (62 == x) = false by simpa using fun e => k.1 e.symm]
theorem tokLen_great {c : Nat} {r : List Nat} (h1 : small c = false) (h2 : great c = true) : tokLen (c :: r) = some (.maker, 1 + runLen small (r.take 7)) := by
  simp only [tokLen, h1, h2, if_true, Bool.false_eq_true, if_false]
theorem tokLen_figure {c : Nat} {r : List Nat} (h1 : small c = false) (h2 : great c = false) (h3 : figure c = true) : tokLen (c :: r) = some (.number, if c = 48 then 1 else 1 + runLen figure r) := by
  simp only [tokLen, h1, h2, h3, if_true, Bool.false_eq_true, if_false]
theorem tokAt_of {s : List Nat} {t : Srt} {n : Nat} (h : tokLen s = some (t, n)) (ht : t ≠ .sign) (hb : behind s n = false) : tokAt s = .ok (t, n) := by
  unfold tokAt
  rw [h]
  simp only [ht, hb, if_false, Bool.false_eq_true]
theorem tok_valid {t : Srt} {w c : List Nat} (hv : Valid t w) (hc : compat (some (t, w)) c) : tokAt (w ++ c) = .ok (t, w.length) := by
  have key : t ≠ .sign → ∀ x q, c = x :: q → alnum x = false := by
    intro ht x q e
    subst e
    simpa [compat, ht] using hc
  have smallCase : ∀ (w : List Nat), w ≠ [] → w.length ≤ 8 → (∀ c ∈ w, small c = true) → (∀ x q, c = x :: q → alnum x = false) → tokAt (w ++ c) = .ok (if words.contains w = true then .word else .name, w.length) := by
    intro w h1 h2 h3 h4
    cases w with
    | nil => exact absurd rfl h1
    | cons a r =>
      have ha := h3 a (by simp)
      have hr : runLen small ((r ++ c).take 7) = r.length := run7 (fun x hx => h3 x (by simp [hx])) (by simpa using h2) fun x q e => (alnum_parts (h4 x q e)).1
      have hl : (a :: r ++ c).take (1 + r.length) = a :: r := by
        rw [show 1 + r.length = (a :: r).length by simp; omega]
        exact List.take_left
      have hb : behind (a :: r ++ c) (1 + r.length) = false := by
        rw [show 1 + r.length = (a :: r).length by simp; omega]
        exact behind_app h4
      have ht : ∀ b : Bool, (if b = true then Srt.word else Srt.name) ≠ .sign := by intro b; cases b <;> decide
      rw [List.cons_append] at hl hb ⊢
      unfold tokAt tokLen
      simp only [ha, if_true, hr, hl, hb]
      rw [if_neg (ht _)]
      simp
      omega
  cases t with
  | name =>
    obtain ⟨h1, h2, h3, h4⟩ := hv
    rw [smallCase w h1 h2 h3 (key (by decide)), h4]
    rfl
  | word =>
    obtain ⟨h1, h2, h3⟩ := words_small w hv
    rw [smallCase w h1 h2 h3 (key (by decide)), if_pos (by simpa using (show w ∈ words from hv))]
  | maker =>
    obtain ⟨a, r, rfl, ha, hl7, h3⟩ := hv
    have h4 := key (by decide)
    have hs := (great_not ha).1
    have hr : runLen small ((r ++ c).take 7) = r.length := run7 h3 hl7 fun x q e => (alnum_parts (h4 x q e)).1
    have hb : behind (a :: r ++ c) (1 + r.length) = false := by
      rw [show 1 + r.length = (a :: r).length by simp; omega]
      exact behind_app h4
    rw [List.cons_append] at hb ⊢
    rw [tokAt_of (by rw [tokLen_great hs ha, hr]) (by decide) hb]
    simp
    omega
  | number =>
    have h4 := key (by decide)
    have fin : ∀ (a : Nat) (r : List Nat), figure a = true → (if a = 48 then 1 else 1 + runLen figure (r ++ c)) = 1 + r.length → tokAt (a :: r ++ c) = .ok (.number, (a :: r).length) := by
      intro a r ha hn
      have hs := (figure_not ha).1
      have hg := (figure_not ha).2.1
      have hb : behind (a :: r ++ c) (1 + r.length) = false := by
        rw [show 1 + r.length = (a :: r).length by simp; omega]
        exact behind_app h4
      rw [List.cons_append] at hb ⊢
      rw [tokAt_of (by rw [tokLen_figure hs hg ha, hn]) (by decide) hb]
      simp
      omega
    rcases hv with rfl | ⟨a, r, rfl, ha, h0, h3⟩
    · exact fin 48 [] (by decide) (by simp)
    · refine fin a r ha ?_
      rw [if_neg h0]
      unfold runLen
      rw [takeWhile_app h3 fun x q e => (alnum_parts (h4 x q e)).2.2]
  | sign =>
    have hf := find_sign hv hc
    obtain ⟨a, r, rfl, h1, h2, h3, _, _⟩ := signs_not w hv
    rw [List.cons_append] at hf ⊢
    unfold tokAt tokLen
    simp [h1, h2, h3, hf]
theorem valid_cons {t : Srt} {w : List Nat} (hv : Valid t w) : ∃ a r, w = a :: r ∧ a ≠ 32 ∧ (a = 45 → t = .sign ∧ (w = [45] ∨ w = [45, 62])) := by
  have sm : ∀ (w : List Nat), w ≠ [] → (∀ c ∈ w, small c = true) → ∃ a r, w = a :: r ∧ a ≠ 32 ∧ a ≠ 45 := by
    intro w h1 h3
    cases w with
    | nil => exact absurd rfl h1
    | cons a r => exact ⟨a, r, rfl, (small_not (h3 a (by simp))).2.2.2, (small_not (h3 a (by simp))).2.2.1⟩
  cases t with
  | name =>
    obtain ⟨a, r, e, h1, h2⟩ := sm w hv.1 hv.2.2.1
    exact ⟨a, r, e, h1, fun q => absurd q h2⟩
  | word =>
    obtain ⟨k1, k2, k3⟩ := words_small w hv
    obtain ⟨a, r, e, h1, h2⟩ := sm w k1 k3
    exact ⟨a, r, e, h1, fun q => absurd q h2⟩
  | maker =>
    obtain ⟨a, r, rfl, ha, _, _⟩ := hv
    exact ⟨a, r, rfl, (great_not ha).2.2.2, fun q => absurd q (great_not ha).2.2.1⟩
  | number =>
    rcases hv with rfl | ⟨a, r, rfl, ha, _, _⟩
    · exact ⟨48, [], rfl, by decide, fun q => absurd q (by decide)⟩
    · exact ⟨a, r, rfl, (figure_not ha).2.2.2, fun q => absurd q (figure_not ha).2.2.1⟩
  | sign =>
    obtain ⟨a, r, rfl, _, _, _, h1, h2⟩ := signs_not w hv
    exact ⟨a, r, rfl, h1, fun q => ⟨rfl, h2 q⟩⟩
theorem lex_word {t : Srt} {w c : List Nat} (col : Nat) (hv : Valid t w) (hc : compat (some (t, w)) c) : lex col (w ++ c) = pre [(col, t, w)] (lex (col + w.length) c) := by
  have ht := tok_valid hv hc
  obtain ⟨a, r, rfl, h32, h45⟩ := valid_cons hv
  have hrem : ¬ (a = 45 ∧ (r ++ c).head? = some 45) := by
    rintro ⟨e, h⟩
    obtain ⟨rfl, q⟩ := h45 e
    rcases q with q | q
    · injection q with q1 q2
      subst q1 q2
      cases c with
      | nil => simp at h
      | cons x s =>
        simp at h
        subst h
        simp [compat] at hc
    · injection q with q1 q2
      subst q1 q2
      simp at h
  rw [List.cons_append] at ht ⊢
  rw [lex_tok hrem h32 ht]
  have e1 : (a :: (r ++ c)).take (a :: r).length = a :: r := by
    rw [← List.cons_append]
    exact List.take_left
  have e2 : (r ++ c).drop ((a :: r).length - 1) = c := by simp
  rw [e1, e2]
/-! ### a row that is written lexeme behind lexeme -/
def Pre (line : List Nat) (found : List Tok) (last : Option (Srt × List Nat)) : Prop := ∀ c, compat last c → lex 0 (line ++ c) = pre found (lex line.length c)
theorem Pre.nil : Pre [] [] none := fun c _ => (pre_nil _).symm
theorem Pre.blanks {line : List Nat} {found : List Tok} {last : Option (Srt × List Nat)} (h : Pre line found last) {g : Nat} (hg : last = none ∨ 0 < g) : Pre (line ++ List.replicate g 32) found none := fun c _ => by
  rw [List.append_assoc, h]
  · rw [lex_blanks]
    simp
  · rcases hg with rfl | hg
    · trivial
    · cases g with
      | zero => omega
      | succ g =>
        rw [List.replicate_succ, List.cons_append]
        cases last with
        | none => trivial
        | some p =>
          obtain ⟨t, w⟩ := p
          cases t <;> simp [compat, alnum, small, great, figure]
theorem Pre.weak {line : List Nat} {found : List Tok} {last : Option (Srt × List Nat)} (h : Pre line found none) : Pre line found last := fun c _ => h c trivial
theorem Pre.word {line : List Nat} {found : List Tok} {last : Option (Srt × List Nat)} {t : Srt} {w : List Nat} (h : Pre line found last) (hv : Valid t w) (hl : compat last w) : Pre (line ++ w) (found ++ [(line.length, t, w)]) (some (t, w)) := fun c hc => by
  have hl' : compat last (w ++ c) := by
    obtain ⟨a, r, rfl, _⟩ := valid_cons hv
    cases last with
    | none => trivial
    | some p => exact hl
  rw [List.append_assoc, h _ hl', lex_word _ hv hc, pre_pre]
  simp
theorem Pre.done {line : List Nat} {found : List Tok} {last : Option (Srt × List Nat)} (h : Pre line found last) : lex 0 line = .ok found := by
  have := h [] (by cases last <;> trivial)
  simpa [lex_nil, pre] using this
theorem Pre.remark {line : List Nat} {found : List Tok} {last : Option (Srt × List Nat)} (h : Pre line found last) (r : List Nat) : lex 0 (line ++ 32 :: 45 :: 45 :: r) = .ok found := by
  have := (h.blanks (g := 1) (.inr (by decide))) (45 :: 45 :: r) trivial
  rw [lex_remark] at this
  simpa [pre] using this
end Lx

set_option Elab.async false
set_option maxRecDepth 100000
/-! Rules that were lacking: a call by keywords alone, enumerate with a start, a power of a great number, a text times a number. -/
namespace Xr
open PySem PySem.Spec PyProof.Rows L2
/-! ### f(k = v), no other argument -/
section
variable {X : Cx} {CX : CXT} {k : Nat} {f : Addr} {fd : FuncData} {ps ks : List Str} {sp : Sp} {E : XK} {x : Str} {p pos : Pos} {kws : List Keyword} {tk : TA} {g : List Value → List Value → List Value} {gV : List V → List V → List V}
theorem pe_callK0 (F : FnOk X.prog X.w X.K X.mg X.base CX k f fd ps sp) (hr : Room k X.A) (hg : Gl X x) (hm : X.mg x = some (.ref f))
    (hk : PySem.W.keepIn X.K (.ref f) = true) (hb : KBinds X.K fd ps ks g gV) (hx : Passes CX X E) (hkw : PK X kws tk)
    (hall : (backToKw pos (keywordEach kws X.env)).all (·.1.isSome) = true := by rfl)
    (hks : (backToKw pos (keywordEach kws X.env)).filterMap (·.1) = ks := by rfl) (hdb : (x == ("__debug__" : Str)) = false := by decide)
    (hpl : ((backTo pos (starEach [] X.env)).any (·.1) || (backToKw pos (keywordEach kws X.env)).any (·.1.isNone)) = false := by rfl) :
    PE X (.Call (.Name x p) [] kws pos) (tCallK sp gV E tNil tk) := by
  refine ⟨fun pins s σ H Q I h => wpAny_Call_Name_kw (ld_glob I hg hm ?_ hdb)⟩
  refine PySem.W.callWith_KW0 (h₀ := X.base) I.ok.mod.kin hk hall ?_ hpl
  refine thn (hkw.run pos pins s σ H _ I h) fun ws s2 ⟨zs, H2, I2, rz, q2⟩ => ⟨I2.kIn, ?_⟩
  rw [hks]
  exact run_fnk F hr hb hx I2 .nil rz q2
end
/-! ### a ** b, a great -/
def CPowW (i j : Int) : Prop := 0 ≤ j ∧ (Builtin.Int.intBits i : Int) * j ≤ 2 ^ 27
theorem op_powW {X : Cx} : OpR X (binaryOp .Pow) (rI CPowW fun i j => .int (i ^ j.toNat)) := opI fun _ _ _ _ _ _ _ hc q => PyProof.Rows.pow_int hc.1 hc.2 q
/-! ### a text times a number from 2 on -/
def timesS (z : Str) (n : Nat) : Str := ⟨(List.replicate n z.cps).foldl (· ++ ·) #[]⟩
theorem timesS_go (l : List (Array Nat)) : ∀ a : Array Nat, (l.foldl (· ++ ·) a).toList = a.toList ++ (l.map Array.toList).flatten := by
  induction l with
  | nil => intro a; simp
  | cons b l ih =>
    intro a
    rw [List.foldl_cons, ih]
    simp
theorem timesS_list (z : Str) (n : Nat) : (timesS z n).cps.toList = (List.replicate n z.cps.toList).flatten := by
  unfold timesS
  rw [timesS_go]
  simp
theorem timesS_len (z : Str) (n : Nat) : (timesS z n).length = n * z.length := by
  show (timesS z n).cps.size = n * z.cps.size
  rw [← Array.length_toList, timesS_list]
  simp
def rMulS : R2 := fun x y H Q => ∃ (z : Str) (n : Int), x = .str z ∧ y = .int n ∧ 0 ≤ n ∧ n ≤ 1000 ∧ 1 ≤ z.length ∧ z.length ≤ 1000 ∧ Q (.str (timesS z n.toNat)) H
theorem timesS_one (z : Str) : timesS z 1 = z := by
  unfold timesS
  simp [List.replicate]
theorem op_mulS {X : Cx} : OpR X (binaryOp .Mult) rMulS := by
  intro pins s σ H x y v u Q I rx ry h
  obtain ⟨z, n, rfl, rfl, h0, h1, h2, h3, q⟩ := h
  obtain ⟨t, rfl⟩ := rx
  obtain ⟨t', rfl⟩ := ry
  refine PySem.P.mul_str ?_ (fun a b => ?_) (fun a b => ?_) ?_
  · have e1 : ¬ n < -(2 ^ 63 : Int) := by omega
    have e2 : ¬ n ≥ 2 ^ 63 := by omega
    rw [decide_eq_false e1, decide_eq_false e2]
    rfl
  · have e3 : (1 : Int) ≤ n := by omega
    have e4 : (1000 : Int) ≤ (2 ^ 63 - 1) / n := by
      refine Int.le_ediv_of_mul_le (by omega) ?_
      omega
    omega
  · have e5 : z.length * n.toNat ≤ 1000 * 1000 := Nat.mul_le_mul h3 (by omega)
    have e6 : sizeLine = 16777216 := sizeLine_eq
    unfold Builtin.Str.tooLong
    exact decide_eq_false (by omega)
  · by_cases c : n < 1
    · rw [if_pos c]
      have e : n.toNat = 0 := by omega
      rw [e] at q
      exact ⟨by decide, ⟨.str Str.empty, H, I.tok _, ⟨_, rfl⟩, q⟩⟩
    · rw [if_neg c]
      have e7 : (z.length == 0) = false := by rw [beq_eq_false_iff_ne]; omega
      by_cases c1 : n = 1
      · subst c1
        have q' : Q (.str z) H := by
          rw [← timesS_one z]
          exact q
        rw [if_pos (by simp)]
        exact ⟨.str z, H, I, ⟨_, rfl⟩, q'⟩
      · have e8 : (n == 1 || z.length == 0) = false := by rw [e7, Bool.or_false, beq_eq_false_iff_ne]; exact c1
        rw [e8]
        rw [if_neg Bool.false_ne_true]
        refine ⟨?_, ⟨.str (timesS z n.toNat), H, I.tok _, ⟨_, rfl⟩, q⟩⟩
        have e5 : n.toNat * z.length ≤ 1000 * 1000 := Nat.mul_le_mul (by omega) h3
        have e6 : sizeLine = 16777216 := sizeLine_eq
        have e9 := timesS_len z n.toNat
        show (timesS z n.toNat).length ≤ sizeLine
        omega
/-! ### enumerate(list, start=k) -/
section
variable {M : Model} {A : Around} {E : Value → Shared → Prop} {s : Shared} {env : Env}
theorem callWith_tyKw {pos : Pos} {T : String} {e : Expr} {rest : List Expr} {kws : List Keyword} {Q : Value → Shared → Prop}
    (h : wpAny M A (spliced (backTo pos (starEach (e :: rest) env))) (fun vs s₁ => wpAny M A (evalAll ((backToKw pos (keywordEach kws env)).map (·.2))) (fun kvs s₂ =>
      wpAny M A (call (.type T) vs (((backToKw pos (keywordEach kws env)).filterMap (·.1)).zip kvs)) Q E s₂) E s₁) E s)
    (he : backTo pos (starEach (e :: rest) env) = (false, eval e env) :: backTo pos (starEach rest env)) (h1 : (backTo pos (starEach (e :: rest) env)).any (·.1) = false)
    (h2 : (backToKw pos (keywordEach kws env)).all (·.1.isSome) = true) (h3 : (backToKw pos (keywordEach kws env)).any (·.1.isNone) = false) :
    wpAny M A (callWith pos (.type T) [] (backTo pos (starEach (e :: rest) env)) (backToKw pos (keywordEach kws env))) Q E s := by
  unfold callWith
  rw [he] at h h1 ⊢
  have hh := evalArgs_kwB (f := .type T) (Q := fun a s₁ => wpAny M A (call (.type T) ([] ++ a.pos) a.kw) Q E s₁) h2 h
  refine wpAny_bind (wpAny_holding (wpAny_mono hh (fun a s₁ b => wpAny_bind (wpAny_standAt ?_)) fun _ _ z => z))
  simp only [h1, h3, Bool.or_false]
  exact wpAny_bind (wpAny_pure (wpAny_bind (wpAny_mono b (fun r s₂ c => wpAny_bind (wpAny_holding (wpAny_point (wpAny_pure c)))) fun _ _ z => z)))
end
/-- the turns: (k + i, x) in a new pair -/
def Itek (K : PySem.W.Frag) (a : Addr) (k : Int) : It where
  go i H := ∃ (xs : List V) (x : V), SqL K H a xs ∧ xs[i]? = some x
  yld i H v H' := ∃ T x, v = .ref T ∧ H T = none ∧ H' = upd H T (.tup [.int (k + (i : Nat)), x]) ∧ ∀ xs, SqL K H a xs → xs[i]? = some x
  stop i H := ∃ xs : List V, SqL K H a xs ∧ xs.length = i
theorem turn_enumk {P : Program} {w : World} {K : PySem.W.Frag} {elts : List Expr} {kk : Nat} {tpos : Pos} (a e it : Addr) (k : Int) :
    Turn P w K (.Tuple elts kk tpos) (Itek K a k) [e, it] e (fun i h => (∃ old, IsEnum h e it (k + (i : Nat)) old) ∧ h.IsListIter it a i ∧ e ≠ it) where
  mem := List.mem_cons_self
  obj i h st b hb := by
    obtain ⟨⟨old, he⟩, ⟨o, ho, _, hd⟩, _⟩ := st
    rcases List.mem_cons.mp hb with z | z
    · subst z; exact ⟨_, he, fun v q => nomatch q⟩
    · rw [List.mem_singleton] at z; subst z; exact ⟨o, ho, fun v q => by rw [hd] at q; cases q⟩
  keep i h h' st kp := ⟨st.1.elim fun old he => ⟨old, kp e List.mem_cons_self _ he⟩, st.2.1.at fun o q => kp it (by simp) o q, st.2.2⟩
  item := by
    intro X hP hw hK hc i pins s σ H E I hf st hg
    subst hP hw hK
    obtain ⟨⟨old, he⟩, hit, hne⟩ := st
    obtain ⟨xs, x, hq, hx⟩ := hg
    obtain ⟨its, rv, p, hz⟩ := I.list hq
    obtain ⟨u, hu, ru⟩ := rv.get hx
    have el := Heap.lt_size he
    have il : it < s.heap.objs.size := by
      obtain ⟨_, q, _⟩ := hit
      exact Heap.lt_size q
    have ha := p.isList
    have hh : X.A.in1.handled = none := I.ok.hd hc
    have nai : a ≠ it := fun z => by
      obtain ⟨o1, g1, c1, _⟩ := ha
      obtain ⟨o2, g2, c2, _⟩ := hit
      rw [z] at g1
      rw [g1] at g2
      cases g2
      rw [c1] at c2
      exact absurd c2 (by decide)
    have nae : e ≠ a := fun z => by
      obtain ⟨o1, g1, c1, _⟩ := ha
      rw [← z] at g1
      rw [show s.heap.get? e = _ from he] at g1
      cases g1
      injection c1 with c2
      exact absurd c2 (by decide)
    have lt : i < its.toArray.size := by
      have q := (List.getElem?_eq_some_iff.mp hu).1
      simpa using q
    have nef : e ∉ [it, a] := fun z => by
      rcases List.mem_cons.mp z with z | z
      · exact hne z
      · exact nae (List.mem_singleton.mp z)
    refine wpAny_pyNext_enum_itemC (Draws.list hh it a nai its.toArray) he ⟨hit, ha⟩ lt hne nef fun y h' tk hy ho hs' hT _ hk => ⟨_, rfl, wpAny_letOwnedTupleGo_enum (s := { s with heap := h', toks := tk + 1 }) ho fun h'' he' sb => ?_⟩
    have hit' := hs'.1
    have ey : y = u := by
      have q : its.toArray[i]? = some u := by simpa using hu
      rw [show its.toArray[i]? = some y from hy] at q
      exact Option.some.inj q
    subst ey
    have hT2 := (sb.2 _ (Nat.ne_of_gt el)).trans hT
    have old2 : ∀ b ob, b ∉ [e, it] → s.heap.get? b = some ob → h''.get? b = some ob := fun b ob hb q => by
      have n1 : b ≠ e := fun z => hb (by simp [z])
      have n2 : b ≠ it := fun z => hb (by simp [z])
      exact (sb.2 b n1).trans (hk b ob n1 n2 q)
    have I1 := I.turnedNew (ch := [e, it]) (t' := tk + 1) (ob := .tup [.int (k + (i : Nat)), x]) old2 hf (Nat.le_refl _) ⟨by show 2 ≤ sizeLine; decide, [.int (k + (i : Nat)) tk, y], .cons ⟨_, rfl⟩ (.cons ru .nil), _, hT2, rfl, _, rfl⟩
    refine ⟨.ref s.heap.objs.size, _, I1, rfl, ⟨_, x, rfl, I.hok.fresh (Nat.le_refl _), rfl, fun ys hy => by rw [I.list_inj hy hq]; exact hx⟩, ⟨⟨y, ?_⟩, hit'.at fun o q => (sb.2 it (Ne.symm hne)).trans q, hne⟩, fun b hb => ?_⟩
    · have e1 : k + ((i + 1 : Nat) : Int) = k + (i : Int) + 1 := by omega
      rw [e1]
      exact he'
    · have lb : b < s.heap.objs.size := by
        rcases List.mem_cons.mp hb with z | z
        · rw [z]; exact el
        · rw [List.mem_singleton.mp z]; exact il
      rw [upd_ne (Nat.ne_of_lt lb)]
      exact (hf b hb).1
  done := by
    intro X hP hw hK hc i pins s σ H E I hf st hg
    subst hP hw hK
    obtain ⟨⟨old, he⟩, hit, hne⟩ := st
    obtain ⟨xs, hq, hx⟩ := hg
    obtain ⟨its, rv, p, hz⟩ := I.list hq
    have f := hf it (by simp)
    have lx := rv.length
    have hh : X.A.in1.handled = none := I.ok.hd hc
    have ha := p.isList
    have nai : a ≠ it := fun z => by
      obtain ⟨o1, g1, c1, _⟩ := ha
      obtain ⟨o2, g2, c2, _⟩ := hit
      rw [z] at g1
      rw [g1] at g2
      cases g2
      rw [c1] at c2
      exact absurd c2 (by decide)
    have en : i = its.toArray.size := by
      rw [List.size_toArray]
      omega
    refine wpAny_pyNext_enum_endD (Draws.list hh it a nai its.toArray) he (by rw [← en]; exact ⟨hit, ha⟩) fun h' eb => ⟨rfl, ?_⟩
    exact I.turned (t' := s.toks) (fun b o hb q => eb b o hb q) f.1 f.2.1 f.2.2.2.1 f.2.2.2.2.1 f.2.2.2.2.2
  self A i s Q E st h := st.1.elim fun old he => wpAny_pyIter_enum he h
def iEnumk (K : PySem.W.Frag) (k : Int) (ta : TA) : TI := fun σ H R => ta σ H fun vs H1 => ∃ a xs, vs = [.ref a] ∧ SqL K H1 a xs ∧ R (Itek K a k) H1
theorem pi_enumk {X : Cx} {e : Expr} {ta : TA} {p pos tpos q1 q2 : Pos} {elts : List Expr} {kk j : Nat} {k : Int} (hg : Gl X "enumerate") (hm : X.mg "enumerate" = none) (ha : PA X [e] ta) (hk0 : -(2 ^ 62) ≤ k) (hk1 : k < 2 ^ 62)
    (he : backTo pos (starEach [e] X.env) = (false, eval e X.env) :: backTo pos (starEach [] X.env) := by rfl) (h1 : (backTo pos (starEach [e] X.env)).any (·.1) = false := by rfl)
    (h2 : (backToKw pos (keywordEach [⟨some "start", .Constant (.int k) j q1, q2⟩] X.env)).all (·.1.isSome) = true := by rfl) (h3 : (backToKw pos (keywordEach [⟨some "start", .Constant (.int k) j q1, q2⟩] X.env)).any (·.1.isNone) = false := by rfl) :
    PI X (.Tuple elts kk tpos) (.Call (.Name "enumerate" p) [e] [⟨some "start", .Constant (.int k) j q1, q2⟩] pos) (iEnumk X.K k ta) := by
  refine ⟨fun pins s σ H R I h => wpAny_Call_Name_kw (ld_blt I hg hm boot_enumerate ?_)⟩
  refine callWith_tyKw (thn (ha.run pos pins s σ H _ I h) fun us s1 ⟨vs, H1, I1, r1, q⟩ => ?_) he h1 h2 h3
  refine thn ((pk_cons (nm := some "start") (kpos := q2) (pe_int (i := k) (j := j) (pos := q1)) pk_nil).run pos pins s1 σ H1 (fun zs H2 => zs = [.int k] ∧ H2 = H1) I1 ⟨rfl, rfl⟩) fun ws s2 ⟨zs, H2, I2, r2, ez, eH⟩ => ?_
  subst ez eH
  obtain ⟨a, xs, ex, hq, q⟩ := q
  subst ex
  cases r1 with
  | cons r rr =>
    cases rr
    cases r
    cases r2 with
    | cons rk rr2 =>
      cases rr2
      obtain ⟨t, rfl⟩ := rk
      obtain ⟨its, rv, p', hz⟩ := I2.list hq
      refine enum_begins_start (begins_list a its.toArray) p'.isList (by omega) (by omega) fun h' he hit hsz hk => wpAny_pyIter_enum he ?_
      have I3 : Inv X pins σ H2 { s2 with heap := h' } := I2.kept (t' := s2.toks) hk
      have he' : IsEnum h' (s2.heap.objs.size + 1) s2.heap.objs.size (k + ((0 : Nat) : Int)) .none := by
        have z : k + ((0 : Nat) : Int) = k := by omega
        rw [z]
        exact he
      refine ⟨s2.heap.objs.size + 1, [s2.heap.objs.size + 1, s2.heap.objs.size], _, _, H2, rfl, I3, turn_enumk a (s2.heap.objs.size + 1) s2.heap.objs.size k, ⟨⟨.none, he'⟩, ⟨_, hit, rfl, rfl⟩, Nat.succ_ne_self _⟩, fun b hb => ?_, q⟩
      have hle : s2.heap.objs.size ≤ b := by
        rcases List.mem_cons.mp hb with z | z
        · rw [z]
          exact Nat.le_succ _
        · rw [List.mem_singleton.mp z]
          exact Nat.le_refl _
      exact I2.fpOk hle (I2.hok.fresh hle)
/-- for i, x in enumerate(list, start=k): the invariant's turns -/
theorem for_enumk {K : PySem.W.Frag} {a : Addr} {xs : List V} {k : Int} {g : TG} {tb : TS} {D : Ends} {σ : L2.St} {H : Hp} (Pv : Nat → L2.St → Hp → Prop) (h0 : Pv 0 σ H)
    (hl : ∀ i σ H, i ≤ xs.length → Pv i σ H → SqL K H a xs)
    (hs : ∀ i x T σ H, xs[i]? = some x → Pv i σ H → H T = none → g (.ref T) σ (upd H T (.tup [.int (k + (i : Nat)), x])) fun σ2 H2 => tb { D with nx := Pv (i + 1), ct := Pv (i + 1), bk := D.nx } σ2 H2)
    (hd : ∀ σ H, Pv xs.length σ H → D.nx σ H) :
    ∃ W : Nat → Nat → L2.St → Hp → Prop, (∃ m, W 0 m σ H) ∧ ∀ i m σ H, W i m σ H → ((Itek K a k).stop i H ∧ D.nx σ H) ∨ ((Itek K a k).go i H ∧ ∃ N : L2.St → Hp → Prop,
      (∀ σ' H', N σ' H' → ∃ m', m' < m ∧ W (i + 1) m' σ' H') ∧ ∀ x H', (Itek K a k).yld i H x H' → g x σ H' fun σ2 H2 => tb { D with nx := N, ct := N, bk := D.nx } σ2 H2) := by
  refine ⟨fun i m σ H => m = xs.length - i ∧ i ≤ xs.length ∧ Pv i σ H, ⟨xs.length, rfl, Nat.zero_le _, h0⟩, ?_⟩
  rintro i m σ H ⟨rfl, hi, p⟩
  have q := hl i σ H hi p
  by_cases c : i < xs.length
  · refine .inr ⟨⟨xs, xs[i], q, by simp [c]⟩, Pv (i + 1), fun σ' H' p' => ⟨_, by omega, rfl, c, p'⟩, ?_⟩
    rintro v H' ⟨T, x, rfl, nT, rfl, hx⟩
    exact hs i x T σ H (hx xs q) p nT
  · have e : xs.length = i := by omega
    exact .inl ⟨⟨xs, q, e⟩, hd σ H (by rw [e]; exact p)⟩
end Xr

set_option Elab.async false
set_option maxRecDepth 100000
/-! Texts as lists of codes, data under a heap that grows, lexemes as data. -/
namespace Hx
open PySem PySem.Spec PyProof.Rows L2
/-! ### texts -/
def ss (l : List Nat) : Str := ⟨l.toArray⟩
theorem ss_list (l : List Nat) : (ss l).cps.toList = l := List.toList_toArray
theorem ss_len (l : List Nat) : (ss l).length = l.length := List.size_toArray
theorem ss_of (z : Str) : ss z.cps.toList = z := by
  unfold ss
  rw [Array.toArray_toList]
theorem ss_app (a b : List Nat) : ss a ++ ss b = ss (a ++ b) := by
  show (⟨a.toArray ++ b.toArray⟩ : Str) = ⟨(a ++ b).toArray⟩
  simp
theorem ss_inj {a b : List Nat} (h : ss a = ss b) : a = b := by
  have := congrArg (fun z => z.cps.toList) h
  simpa [ss_list] using this
theorem ss_at {l : List Nat} {i c : Nat} (h : l[i]? = some c) : atI (ss l).cps.toList (i : Int) = some c := by
  rw [ss_list]
  exact atI_nat h
theorem starts_at {l g : List Nat} {i : Nat} (hi : i ≤ l.length) : Txt.startswith3 (ss l) (ss g) (i : Int) = g.isPrefixOf (l.drop i) := by
  unfold Txt.startswith3
  have e0 : fromIndex (ss l).length (i : Int) = i := by
    unfold fromIndex
    rw [if_neg (by omega)]
    omega
  rw [e0, ss_len, ss_len]
  have e1 : Builtin.Str.subAt (ss l) (ss g) i = ((l.drop i).take g.length == g) := by
    unfold Builtin.Str.subAt
    rw [ss_len]
    show ((l.toArray).extract i (i + g.length) == g.toArray) = _
    rw [List.extract_toArray]
    simp [List.extract_eq_take_drop]
  rw [e1]
  by_cases c : i + g.length ≤ l.length
  · rw [decide_eq_true c, Bool.true_and, Bool.eq_iff_iff, List.isPrefixOf_iff_prefix, beq_iff_eq]
    constructor
    · intro h
      exact ⟨(l.drop i).drop g.length, by
        conv => lhs; lhs; rw [← h]
        exact List.take_append_drop _ _⟩
    · rintro ⟨t, h⟩
      rw [← h, List.take_left]
  · rw [decide_eq_false c, Bool.false_and]
    symm
    rw [Bool.eq_false_iff]
    intro h
    rw [List.isPrefixOf_iff_prefix] at h
    have := h.length_le
    rw [List.length_drop] at this
    omega
theorem cut_ss {l : List Nat} {i j : Nat} (hi : i ≤ l.length) (hj : j ≤ l.length) : cutS (ss l) (some (i : Int)) (some (j : Int)) = ss ((l.drop i).take (j - i)) := by
  unfold cutS
  rw [ss_list, ss_len, HT.sIx_nat, HT.sIx_nat, Nat.min_eq_left hi, Nat.min_eq_left hj]
  rfl
/-! ### data under a heap that grows -/
theorem Same.seqT {K : PySem.W.Frag} {H H' : Hp} {a : Addr} {xs : List V} (e : Same H H') (h : SqT K H a xs) : SqT K H' a xs := by
  rcases h with (h | ⟨o, h⟩) | h
  · exact .inl (.inl (e _ _ h))
  · exact .inl (.inr ⟨o, e _ _ h⟩)
  · exact .inr h
theorem Same.new {H : Hp} {p : Addr} {o : HO} (n : H p = none) : Same H (upd H p o) := fun b u e => by
  rw [upd_ne (ne_of_none e n)]
  exact e
theorem Same.upd {G H : Hp} (e : Same G H) {p : Addr} {o : HO} (n : G p = none) : Same G (L2.upd H p o) := fun b u q => by
  rw [upd_ne (ne_of_none q n)]
  exact e _ _ q
theorem Same.both {G H : Hp} (e : Same G H) (p : Addr) (o : HO) : Same (L2.upd G p o) (L2.upd H p o) := fun b u q => by
  by_cases c : b = p
  · subst c
    rw [upd_same] at q ⊢
    exact q
  · rw [upd_ne c] at q ⊢
    exact e _ _ q
mutual
theorem Dp.same {K : PySem.W.Frag} {H H' : Hp} (e : Same H H') : ∀ (d : PyData) (v : V), Dp K H v d → Dp K H' v d
  | .none, _, h => by cases h; exact .non
  | .bool b, _, h => by cases h; exact .bl b
  | .int i, _, h => by cases h; exact .int i
  | .str x, _, h => by cases h; exact .str x
  | .list ds, _, h => by
    cases h with
    | lst a b => exact .lst (e.seq a) (DpAll.same e ds _ b)
  | .tuple ds, _, h => by
    cases h with
    | tup a b => exact .tup (Same.seqT e a) (DpAll.same e ds _ b)
  | .dict _, _, h => by cases h
theorem DpAll.same {K : PySem.W.Frag} {H H' : Hp} (e : Same H H') : ∀ (ds : List PyData) (vs : List V), DpAll K H vs ds → DpAll K H' vs ds
  | [], _, h => by cases h; exact .nil
  | d :: ds, _, h => by
    cases h with
    | cons a b => exact .cons (Dp.same e d _ a) (DpAll.same e ds _ b)
end
theorem DpAll.len {K : PySem.W.Frag} {H : Hp} : ∀ {vs : List V} {ds : List PyData}, DpAll K H vs ds → vs.length = ds.length
  | _, [], h => by cases h; rfl
  | _, d :: ds, h => by
    cases h with
    | cons a b => exact congrArg (· + 1) (DpAll.len b)
theorem DpAll.app {K : PySem.W.Frag} {H : Hp} : ∀ {vs ws : List V} {ds es : List PyData}, DpAll K H vs ds → DpAll K H ws es → DpAll K H (vs ++ ws) (ds ++ es)
  | _, _, [], _, h, h' => by cases h; exact h'
  | _, _, d :: ds, _, h, h' => by
    cases h with
    | cons a b => exact .cons a (DpAll.app b h')
theorem DpAll.get {K : PySem.W.Frag} {H : Hp} : ∀ {vs : List V} {ds : List PyData} {i : Nat} {v : V}, DpAll K H vs ds → vs[i]? = some v → ∃ d, ds[i]? = some d ∧ Dp K H v d
  | _, [], _, _, h, q => by cases h; simp at q
  | _, d :: ds, i, v, h, q => by
    cases h with
    | cons a b =>
      cases i with
      | zero => simp at q; subst q; exact ⟨d, rfl, a⟩
      | succ i => simpa using DpAll.get b (by simpa using q)
/-- H' holds all of H; F is a part of it that is new, all told -/
structure Newly (H H' F : Hp) : Prop where
  same : Same H H'
  sub : Same F H'
  fresh : ∀ b, F b ≠ none → H b = none
def join (F G : Hp) : Hp := fun b => match F b with
  | some o => some o
  | none => G b
theorem join_left {F G : Hp} : Same F (join F G) := fun b o e => by
  unfold join
  rw [e]
theorem join_none {F G : Hp} {b : Addr} (h1 : F b = none) (h2 : G b = none) : join F G b = none := by
  unfold join
  rw [h1]
  exact h2
theorem join_right {F G : Hp} (h : ∀ b, F b ≠ none → G b = none) : Same G (join F G) := fun b o e => by
  unfold join
  cases q : F b with
  | none => exact e
  | some u =>
    have := h b (by rw [q]; exact fun z => by cases z)
    rw [this] at e
    cases e
theorem join_same {F G H : Hp} (h1 : Same F H) (h2 : Same G H) : Same (join F G) H := fun b o e => by
  unfold join at e
  cases q : F b with
  | none =>
    rw [q] at e
    exact h2 _ _ e
  | some u =>
    rw [q] at e
    cases e
    exact h1 _ _ q
theorem join_fresh {F G H : Hp} (h1 : ∀ b, F b ≠ none → H b = none) (h2 : ∀ b, G b ≠ none → H b = none) : ∀ b, join F G b ≠ none → H b = none := fun b e => by
  unfold join at e
  cases q : F b with
  | none =>
    rw [q] at e
    exact h2 _ e
  | some u => exact h1 b (by rw [q]; exact fun z => by cases z)
/-! ### lexemes as data -/
def sortS : Lx.Srt → Str
  | .name => "name"
  | .word => "word"
  | .maker => "maker"
  | .number => "number"
  | .sign => "sign"
def tokD (k : Nat) (t : Lx.Tok) : PyData := .tuple [.tuple [.int (k : Int), .int ((t.1 : Int) + 1)], .str (sortS t.2.1), .str (ss t.2.2)]
def lexText : Nat → List (List Nat) → Except (Nat × Nat) (List PyData)
  | _, [] => .ok []
  | k, l :: r => match Lx.lex 0 l with
    | .error e => .error (k, e)
    | .ok f => match lexText (k + 1) r with
      | .error e => .error e
      | .ok ds => .ok (f.map (tokD k) ++ ds)
theorem sortS_ok : ∀ t : Lx.Srt, PyData.strOk (sortS t) = true := by intro t; cases t <;> decide +kernel
theorem ss_ok {w : List Nat} (h : ∀ c ∈ w, c < 1114112) : PyData.strOk (ss w) = true := by
  unfold PyData.strOk ss
  simpa using h
end Hx

set_option Elab.async false
/-! The lexer by pieces: cut at a remark, split at blanks, whole pieces by their sort. -/
namespace N1
open Lx
/-! ### behind what does not go on -/
def Stops (t : List Nat) : Prop := ∀ x q, t = x :: q → alnum x = false ∧ x ≠ 61 ∧ x ≠ 62
theorem stops_nil : Stops [] := fun x q h => by cases h
theorem stops_blank (q : List Nat) : Stops (32 :: q) := fun x q' h => by
  injection h with h1 h2
  subst h1
  decide
theorem stops_minus (q : List Nat) : Stops (45 :: q) := fun x q' h => by
  injection h with h1 h2
  subst h1
  decide
theorem tw_app {p : Nat → Bool} : ∀ (l t : List Nat) (k : Nat), (∀ x q, t = x :: q → p x = false) → ((l ++ t).take k).takeWhile p = (l.take k).takeWhile p
  | [], t, k, h => by
    cases t with
    | nil => rfl
    | cons x q =>
      have hx := h x q rfl
      cases k with
      | zero => rfl
      | succ k => simp [List.takeWhile, hx]
  | a :: l, t, 0, h => rfl
  | a :: l, t, k + 1, h => by
    have ih := tw_app l t k h
    rw [List.cons_append, List.take_succ_cons, List.take_succ_cons]
    simp only [List.takeWhile]
    rw [ih]
theorem tw_app0 {p : Nat → Bool} (l t : List Nat) (h : ∀ x q, t = x :: q → p x = false) : (l ++ t).takeWhile p = l.takeWhile p := by
  have := tw_app (p := p) l t (l ++ t).length h
  rw [List.take_of_length_le (Nat.le_refl _), List.take_of_length_le (by rw [List.length_append]; omega)] at this
  exact this
theorem run_le (p : Nat → Bool) (s : List Nat) : runLen p s ≤ s.length := (List.takeWhile_prefix p).length_le
theorem signs_len : ∀ g ∈ signs, 1 ≤ g.length ∧ g.length ≤ 2 ∧ ∀ x y, g = [x, y] → y = 61 ∨ y = 62 := by
  intro g h
  simp only [signs, List.mem_cons, List.not_mem_nil, or_false] at h
  rcases h with h | h | h | h | h | h | h | h | h | h | h <;> subst h <;> simp <;> omega
theorem find_app {a : Nat} {r t : List Nat} (h : Stops t) : signs.find? (fun g => g.isPrefixOf (a :: (r ++ t))) = signs.find? (fun g => g.isPrefixOf (a :: r)) := by
  have key : ∀ g ∈ signs, g.isPrefixOf (a :: (r ++ t)) = g.isPrefixOf (a :: r) := by
    intro g hg
    obtain ⟨l1, l2, l3⟩ := signs_len g hg
    match g, l1, l2, l3 with
    | [], l1, _, _ => simp at l1
    | [x], _, _, _ => simp [List.isPrefixOf]
    | [x, y], _, _, l3 =>
      have hy := l3 x y rfl
      cases r with
      | nil =>
        cases t with
        | nil => rfl
        | cons u q =>
          obtain ⟨_, h2, h3⟩ := h u q rfl
          have e : (y == u) = false := by
            rw [beq_eq_false_iff_ne]
            omega
          simp [List.isPrefixOf, e]
      | cons b r => simp [List.isPrefixOf]
    | _ :: _ :: _ :: _, _, l2, _ => simp at l2
  have : ∀ l : List (List Nat), (∀ g ∈ l, g.isPrefixOf (a :: (r ++ t)) = g.isPrefixOf (a :: r)) → l.find? (fun g => g.isPrefixOf (a :: (r ++ t))) = l.find? (fun g => g.isPrefixOf (a :: r)) := by
    intro l
    induction l with
    | nil => intro _; rfl
    | cons g l ih =>
      intro h
      simp only [List.find?]
      rw [h g List.mem_cons_self, ih fun g' hg' => h g' (List.mem_cons_of_mem _ hg')]
  exact this signs key
theorem tokLen_le {a : Nat} {r : List Nat} {t : Srt} {n : Nat} (h : tokLen (a :: r) = some (t, n)) : 1 ≤ n ∧ n ≤ r.length + 1 := by
  have h7 : runLen small (r.take 7) ≤ r.length := Nat.le_trans (run_le _ _) (by rw [List.length_take]; omega)
  have hf : runLen figure r ≤ r.length := run_le _ _
  unfold tokLen at h
  dsimp only at h
  split at h
  · injection h with h
    injection h with _ h
    omega
  · split at h
    · injection h with h
      injection h with _ h
      omega
    · split at h
      · injection h with h
        injection h with _ h
        split at h <;> omega
      · split at h
        · rename_i g hg
          injection h with h
          injection h with _ h
          have hm := List.mem_of_find?_eq_some hg
          have hp := List.find?_some hg
          obtain ⟨l1, l2, _⟩ := signs_len g hm
          have := (List.isPrefixOf_iff_prefix.mp hp).length_le
          rw [List.length_cons] at this
          omega
        · cases h
theorem tokLen_app {a : Nat} {r t : List Nat} (h : Stops t) : tokLen (a :: (r ++ t)) = tokLen (a :: r) := by
  have hs : ∀ x q, t = x :: q → small x = false := fun x q e => (alnum_parts (h x q e).1).1
  have hf : ∀ x q, t = x :: q → figure x = false := fun x q e => (alnum_parts (h x q e).1).2.2
  have e1 : runLen small ((r ++ t).take 7) = runLen small (r.take 7) := by
    unfold runLen
    rw [tw_app r t 7 hs]
  have e2 : runLen figure (r ++ t) = runLen figure r := by
    unfold runLen
    rw [tw_app0 r t hf]
  have e3 : (a :: (r ++ t)).take (1 + runLen small (r.take 7)) = (a :: r).take (1 + runLen small (r.take 7)) := by
    have : runLen small (r.take 7) ≤ r.length := Nat.le_trans (run_le _ _) (by rw [List.length_take]; omega)
    rw [← List.cons_append, List.take_append_of_le_length (by rw [List.length_cons]; omega)]
  unfold tokLen
  dsimp only
  rw [e1, e2, e3, find_app h]
theorem behind_app {s t : List Nat} {n : Nat} (h : Stops t) (hn : n ≤ s.length) : behind (s ++ t) n = behind s n := by
  unfold behind
  rw [List.drop_append_of_le_length hn]
  cases e : s.drop n with
  | nil =>
    rw [List.nil_append]
    cases t with
    | nil => rfl
    | cons x q => exact (h x q rfl).1
  | cons y z => rfl
theorem tokAt_app {a : Nat} {r t : List Nat} (h : Stops t) : tokAt (a :: (r ++ t)) = tokAt (a :: r) := by
  unfold tokAt
  rw [tokLen_app h]
  cases e : tokLen (a :: r) with
  | none => rfl
  | some x =>
    obtain ⟨k, n⟩ := x
    have hb : behind (a :: (r ++ t)) n = behind (a :: r) n := by
      rw [← List.cons_append]
      exact behind_app h (by have := (tokLen_le e).2; rw [List.length_cons]; omega)
    dsimp only
    rw [hb]
theorem tokAt_len {a : Nat} {r : List Nat} {t : Srt} {n : Nat} (h : tokAt (a :: r) = .ok (t, n)) : 1 ≤ n ∧ n ≤ r.length + 1 := by
  unfold tokAt at h
  cases e : tokLen (a :: r) with
  | none => rw [e] at h; cases h
  | some x =>
    obtain ⟨k, m⟩ := x
    rw [e] at h
    dsimp only at h
    have := tokLen_le e
    split at h
    · cases h
      exact this
    · split at h
      · cases h
      · cases h
        exact this
/-! ### a remark -/
def NoRem : List Nat → Prop
  | [] => True
  | c :: r => ¬ (c = 45 ∧ r.head? = some 45) ∧ NoRem r
def cutRem : List Nat → List Nat
  | [] => []
  | c :: r => if c = 45 ∧ r.head? = some 45 then [] else c :: cutRem r
theorem cut_cons {c : Nat} {r : List Nat} (h : ¬ (c = 45 ∧ r.head? = some 45)) : cutRem (c :: r) = c :: cutRem r := by
  show (if _ then _ else _) = _
  rw [if_neg h]
theorem cut_rest : ∀ s : List Nat, ∃ t, s = cutRem s ++ t ∧ Stops t ∧ (t = [] ∨ ∃ q, t = 45 :: 45 :: q)
  | [] => ⟨[], rfl, stops_nil, .inl rfl⟩
  | c :: r => by
    by_cases h : c = 45 ∧ r.head? = some 45
    · obtain ⟨rfl, h2⟩ := h
      cases r with
      | nil => cases h2
      | cons x q =>
        injection h2 with h2
        subst h2
        refine ⟨45 :: 45 :: q, ?_, stops_minus _, .inr ⟨q, rfl⟩⟩
        rfl
    · obtain ⟨t, h1, h2, h3⟩ := cut_rest r
      refine ⟨t, ?_, h2, h3⟩
      rw [cut_cons h, List.cons_append, ← h1]
theorem cut_drop : ∀ (n : Nat) (s : List Nat), n ≤ (cutRem s).length → cutRem (s.drop n) = (cutRem s).drop n
  | 0, _, _ => rfl
  | n + 1, [], _ => by rw [List.drop_nil]; rfl
  | n + 1, c :: r, h => by
    by_cases hc : c = 45 ∧ r.head? = some 45
    · have e : cutRem (c :: r) = [] := by
        show (if _ then _ else _) = _
        rw [if_pos hc]
      rw [e] at h
      simp at h
    · rw [cut_cons hc] at h ⊢
      rw [List.drop_succ_cons, List.drop_succ_cons]
      exact cut_drop n r (by simpa using h)
theorem lex_ok {b c n : Nat} {t : Srt} {r : List Nat} (h1 : ¬ (c = 45 ∧ r.head? = some 45)) (h2 : c ≠ 32) (ht : tokAt (c :: r) = .ok (t, n)) :
    lex b (c :: r) = pre [(b, t, (c :: r).take n)] (lex (b + n) ((c :: r).drop n)) := by
  rw [lex_tok h1 h2 ht]
  have hn := (tokAt_len ht).1
  obtain ⟨m, rfl⟩ : ∃ m, n = m + 1 := ⟨n - 1, by omega⟩
  rfl
theorem lex_no {b c n : Nat} {r : List Nat} (h1 : ¬ (c = 45 ∧ r.head? = some 45)) (h2 : c ≠ 32) (ht : tokAt (c :: r) = .error n) : lex b (c :: r) = .error (b + n) := by
  rw [lex.eq_def]
  simp only [h1, if_false, h2, ht]
theorem head_cut {r : List Nat} (h : r.head? ≠ some 45) : (cutRem r).head? ≠ some 45 := by
  cases r with
  | nil => exact h
  | cons x q =>
    have hx : x ≠ 45 := fun e => h (by rw [e]; rfl)
    rw [cut_cons fun z => hx z.1]
    intro e
    injection e with e
    exact hx e
theorem lex_cut : ∀ (n : Nat) (s : List Nat), s.length ≤ n → ∀ b, lex b s = lex b (cutRem s) := by
  intro n
  induction n with
  | zero =>
    intro s hs b
    have e : s = [] := List.length_eq_zero_iff.mp (by omega)
    rw [e]
    rfl
  | succ n ih =>
    intro s hs b
    cases s with
    | nil => rfl
    | cons c r =>
      rw [List.length_cons] at hs
      by_cases h : c = 45 ∧ r.head? = some 45
      · have e : cutRem (c :: r) = [] := by
          show (if _ then _ else _) = _
          rw [if_pos h]
        rw [e, lex_nil, lex.eq_def]
        simp only [h, if_true, and_self]
      · rw [cut_cons h]
        have h' : ¬ (c = 45 ∧ (cutRem r).head? = some 45) := fun z => head_cut (fun e => h ⟨z.1, e⟩) z.2
        by_cases h2 : c = 32
        · rw [h2, lex_blank, lex_blank]
          exact ih r (by omega) _
        · obtain ⟨t, e1, e2, _⟩ := cut_rest r
          have et : tokAt (c :: r) = tokAt (c :: cutRem r) := by
            conv => lhs; rw [e1]
            exact tokAt_app e2
          cases ek : tokAt (c :: r) with
          | error k =>
            rw [lex_no h h2 ek, lex_no h' h2 (et ▸ ek)]
          | ok x =>
            obtain ⟨k, m⟩ := x
            have ek2 : tokAt (c :: cutRem r) = .ok (k, m) := et ▸ ek
            have hm := tokAt_len ek2
            rw [lex_ok h h2 ek, lex_ok h' h2 ek2]
            have e3 : (c :: r).take m = (c :: cutRem r).take m := by
              conv => lhs; rw [e1, ← List.cons_append]
              exact List.take_append_of_le_length (by rw [List.length_cons]; omega)
            have e4 : cutRem ((c :: r).drop m) = (c :: cutRem r).drop m := by
              rw [cut_drop m (c :: r) (by rw [cut_cons h, List.length_cons]; omega), cut_cons h]
            rw [e3, ← e4]
            congr 1
            exact ih _ (by rw [List.length_drop, List.length_cons]; omega) _
theorem cut_norem : ∀ s : List Nat, NoRem (cutRem s)
  | [] => trivial
  | c :: r => by
    by_cases h : c = 45 ∧ r.head? = some 45
    · show NoRem (if _ then _ else _)
      rw [if_pos h]
      trivial
    · rw [cut_cons h]
      exact ⟨fun z => head_cut (fun e => h ⟨z.1, e⟩) z.2, cut_norem r⟩
theorem norem_drop : ∀ (n : Nat) {s : List Nat}, NoRem s → NoRem (s.drop n)
  | 0, _, h => h
  | n + 1, [], h => by rw [List.drop_nil]; trivial
  | n + 1, c :: r, h => norem_drop n h.2
theorem norem_left : ∀ (p q : List Nat), NoRem (p ++ q) → NoRem p
  | [], _, _ => trivial
  | c :: r, q, h => ⟨fun z => h.1 ⟨z.1, by
      obtain ⟨_, z2⟩ := z
      cases r with
      | nil => cases z2
      | cons x y => exact z2⟩, norem_left r q h.2⟩
theorem norem_right : ∀ (p q : List Nat), NoRem (p ++ q) → NoRem q
  | [], _, h => h
  | _ :: r, q, h => norem_right r q h.2
/-! ### pieces -/
def thenLex (x : Except Nat (List Tok)) (y : Except Nat (List Tok)) : Except Nat (List Tok) := match x with
  | .error e => .error e
  | .ok l => pre l y
theorem then_pre (a : List Tok) (x y : Except Nat (List Tok)) : thenLex (pre a x) y = pre a (thenLex x y) := by
  cases x with
  | error e => rfl
  | ok l =>
    show pre (a ++ l) y = pre a (pre l y)
    rw [pre_pre]
theorem lex_piece : ∀ (n : Nat) (p q : List Nat), p.length ≤ n → NoRem p → (∀ c ∈ p, c ≠ 32) → ∀ b, lex b (p ++ 32 :: q) = thenLex (lex b p) (lex (b + p.length + 1) q) := by
  intro n
  induction n with
  | zero =>
    intro p q hp _ _ b
    have e : p = [] := List.length_eq_zero_iff.mp (by omega)
    rw [e, List.nil_append, lex_blank, lex_nil]
    exact (pre_nil _).symm
  | succ n ih =>
    intro p q hp hr hb b
    cases p with
    | nil =>
      rw [List.nil_append, lex_blank, lex_nil]
      exact (pre_nil _).symm
    | cons c r =>
      rw [List.length_cons] at hp
      have h2 : c ≠ 32 := hb c List.mem_cons_self
      have h1 := hr.1
      have h1' : ¬ (c = 45 ∧ (r ++ 32 :: q).head? = some 45) := fun z => by
        cases r with
        | nil =>
          have := z.2
          simp at this
        | cons x y => exact h1 ⟨z.1, z.2⟩
      have et : tokAt (c :: (r ++ 32 :: q)) = tokAt (c :: r) := tokAt_app (stops_blank q)
      rw [List.cons_append]
      cases ek : tokAt (c :: r) with
      | error k =>
        rw [lex_no h1' h2 (et.trans ek), lex_no h1 h2 ek]
        rfl
      | ok x =>
        obtain ⟨k, m⟩ := x
        have hm := tokAt_len ek
        rw [lex_ok h1' h2 (et.trans ek), lex_ok h1 h2 ek, then_pre, ← List.cons_append, List.take_append_of_le_length (by rw [List.length_cons]; omega), List.drop_append_of_le_length (by rw [List.length_cons]; omega)]
        congr 1
        rw [ih ((c :: r).drop m) q (by rw [List.length_drop, List.length_cons]; omega) (norem_drop m hr) (fun x hx => hb x (List.mem_of_mem_drop hx)) (b + m)]
        have e5 : b + m + ((c :: r).drop m).length + 1 = b + (c :: r).length + 1 := by
          rw [List.length_drop, List.length_cons]
          omega
        rw [e5]
def splitB : List Nat → List (List Nat)
  | [] => [[]]
  | c :: r => if c = 32 then [] :: splitB r else match splitB r with
    | [] => [[c]]
    | p :: ps => (c :: p) :: ps
def lexPieces (b : Nat) : List (List Nat) → Except Nat (List Tok)
  | [] => .ok []
  | p :: ps => thenLex (lex b p) (lexPieces (b + p.length + 1) ps)
theorem split_ne : ∀ s : List Nat, splitB s ≠ []
  | [] => fun h => by cases h
  | c :: r => fun h => by
    unfold splitB at h
    split at h
    · cases h
    · cases e : splitB r with
      | nil => exact split_ne r e
      | cons p ps => rw [e] at h; cases h
theorem split_spec : ∀ s : List Nat, (∀ c ∈ s, c ≠ 32) ∧ splitB s = [s] ∨ ∃ p q, s = p ++ 32 :: q ∧ (∀ c ∈ p, c ≠ 32) ∧ splitB s = p :: splitB q
  | [] => .inl ⟨fun c h => (by cases h), rfl⟩
  | c :: r => by
    by_cases h : c = 32
    · refine .inr ⟨[], r, by rw [h]; rfl, fun c h => (by cases h), ?_⟩
      show (if _ then _ else _) = _
      rw [if_pos h]
    · have e : splitB (c :: r) = match splitB r with | [] => [[c]] | p :: ps => (c :: p) :: ps := by
        show (if _ then _ else _) = _
        rw [if_neg h]
      rcases split_spec r with ⟨h1, h2⟩ | ⟨p, q, h1, h2, h3⟩
      · refine .inl ⟨fun x hx => ?_, ?_⟩
        · rcases List.mem_cons.mp hx with hx | hx
          · rw [hx]
            exact h
          · exact h1 x hx
        · rw [e, h2]
      · refine .inr ⟨c :: p, q, by rw [h1]; rfl, fun x hx => ?_, ?_⟩
        · rcases List.mem_cons.mp hx with hx | hx
          · rw [hx]
            exact h
          · exact h2 x hx
        · rw [e, h3]
theorem lex_split : ∀ (n : Nat) (s : List Nat), s.length ≤ n → NoRem s → ∀ b, lex b s = lexPieces b (splitB s) := by
  intro n
  induction n with
  | zero =>
    intro s hs _ b
    have e : s = [] := List.length_eq_zero_iff.mp (by omega)
    rw [e, lex_nil]
    show _ = thenLex (lex b []) _
    rw [lex_nil]
    rfl
  | succ n ih =>
    intro s hs hr b
    rcases split_spec s with ⟨h1, h2⟩ | ⟨p, q, h1, h2, h3⟩
    · rw [h2]
      show _ = thenLex (lex b s) (.ok [])
      cases lex b s with
      | error e => rfl
      | ok l =>
        show _ = Except.ok (l ++ [])
        rw [List.append_nil]
    · subst h1
      rw [h3]
      rw [List.length_append, List.length_cons] at hs
      rw [lex_piece p.length p q (Nat.le_refl _) (norem_left p _ hr) h2 b]
      show thenLex (lex b p) _ = thenLex (lex b p) _
      rw [ih q (by omega) (norem_right p _ hr).2 _]
theorem split_piece : ∀ s : List Nat, ∀ p ∈ splitB s, (∀ c ∈ p, c ≠ 32 ∧ c ∈ s) ∧ p.length ≤ s.length := by
  intro s
  induction s with
  | nil =>
    intro p hp
    rw [List.mem_singleton.mp hp]
    exact ⟨fun c h => (by cases h), Nat.le_refl _⟩
  | cons c r ih =>
    intro p hp
    by_cases h : c = 32
    · have e : splitB (c :: r) = [] :: splitB r := by
        show (if _ then _ else _) = _
        rw [if_pos h]
      rw [e] at hp
      rcases List.mem_cons.mp hp with hp | hp
      · rw [hp]
        exact ⟨fun c h => (by cases h), Nat.zero_le _⟩
      · obtain ⟨k1, k2⟩ := ih p hp
        exact ⟨fun x hx => ⟨(k1 x hx).1, List.mem_cons_of_mem _ (k1 x hx).2⟩, by rw [List.length_cons]; omega⟩
    · have e : splitB (c :: r) = match splitB r with | [] => [[c]] | p :: ps => (c :: p) :: ps := by
        show (if _ then _ else _) = _
        rw [if_neg h]
      rw [e] at hp
      cases e2 : splitB r with
      | nil => exact absurd e2 (split_ne r)
      | cons p0 ps =>
        rw [e2] at hp ih
        rcases List.mem_cons.mp hp with hp | hp
        · obtain ⟨k1, k2⟩ := ih p0 List.mem_cons_self
          rw [hp]
          refine ⟨fun x hx => ?_, by rw [List.length_cons, List.length_cons]; omega⟩
          rcases List.mem_cons.mp hx with hx | hx
          · rw [hx]
            exact ⟨h, List.mem_cons_self⟩
          · exact ⟨(k1 x hx).1, List.mem_cons_of_mem _ (k1 x hx).2⟩
        · obtain ⟨k1, k2⟩ := ih p (List.mem_cons_of_mem _ hp)
          exact ⟨fun x hx => ⟨(k1 x hx).1, List.mem_cons_of_mem _ (k1 x hx).2⟩, by rw [List.length_cons]; omega⟩
theorem split_norem : ∀ (n : Nat) (s : List Nat), s.length ≤ n → NoRem s → ∀ p ∈ splitB s, NoRem p := by
  intro n
  induction n with
  | zero =>
    intro s hs _ p hp
    have e : s = [] := List.length_eq_zero_iff.mp (by omega)
    rw [e] at hp
    rw [List.mem_singleton.mp hp]
    trivial
  | succ n ih =>
    intro s hs hr p hp
    rcases split_spec s with ⟨h1, h2⟩ | ⟨u, q, h1, h2, h3⟩
    · rw [h2] at hp
      rw [List.mem_singleton.mp hp]
      exact hr
    · rw [h3] at hp
      rw [h1] at hr hs
      rw [List.length_append, List.length_cons] at hs
      rcases List.mem_cons.mp hp with hp | hp
      · rw [hp]
        exact norem_left u _ hr
      · exact ih q (by omega) (norem_right u _ hr).2 p hp
/-! ### whole pieces -/
def titled : List Nat → Bool
  | [] => false
  | c :: r => great c && r.all small
def letter (c : Nat) : Bool := small c || great c
def sortOf (p : List Nat) : Option Srt :=
  if p.all (fun c => decide (c < 128)) = true then
    if (!p.isEmpty && p.all letter) = true then
      if 8 < p.length then none else if p.all small = true then some .name else if titled p = true then some .maker else none
    else if (!p.isEmpty && p.all figure && (p.head? != some 48 || p == [48])) = true then some .number else none
  else none
def whole (p : List Nat) : Option Srt := if words.contains p = true then some .word else if signs.contains p = true then some .sign else sortOf p
theorem whole_valid {p : List Nat} {t : Srt} (h : whole p = some t) : Valid t p := by
  unfold whole at h
  by_cases hw : words.contains p = true
  · rw [if_pos hw] at h
    cases h
    show p ∈ words
    simpa using hw
  · rw [if_neg hw] at h
    by_cases hs : signs.contains p = true
    · rw [if_pos hs] at h
      cases h
      show p ∈ signs
      simpa using hs
    · rw [if_neg hs] at h
      unfold sortOf at h
      split at h
      · split at h
        · rename_i h1
          rw [Bool.and_eq_true, Bool.not_eq_true'] at h1
          split at h
          · cases h
          · rename_i h8
            split at h
            · rename_i h2
              cases h
              refine ⟨fun e => ?_, by omega, fun c hc => List.all_eq_true.mp h2 c hc, Bool.eq_false_iff.mpr hw⟩
              rw [e] at h1
              cases h1.1
            · split at h
              · rename_i h3
                cases h
                cases p with
                | nil => cases h3
                | cons c r =>
                  obtain ⟨k1, k2⟩ := Bool.and_eq_true_iff.mp h3
                  rw [List.length_cons] at h8
                  exact ⟨c, r, rfl, k1, by omega, fun x hx => List.all_eq_true.mp k2 x hx⟩
              · cases h
        · split at h
          · rename_i h1
            cases h
            rw [Bool.and_eq_true, Bool.and_eq_true, Bool.or_eq_true] at h1
            obtain ⟨⟨k1, k2⟩, k3⟩ := h1
            cases p with
            | nil => cases k1
            | cons c r =>
              have hc := List.all_eq_true.mp k2 c List.mem_cons_self
              have hr : ∀ x ∈ r, figure x = true := fun x hx => List.all_eq_true.mp k2 x (List.mem_cons_of_mem _ hx)
              rcases k3 with k3 | k3
              · refine .inr ⟨c, r, rfl, hc, fun e => ?_, hr⟩
                rw [e] at k3
                simp at k3
              · exact .inl (by simpa using k3)
          · cases h
      · cases h
theorem whole_lex {p : List Nat} {t : Srt} (h : whole p = some t) (b : Nat) : lex b p = .ok [(b, t, p)] := by
  have := lex_word (c := []) b (whole_valid h) trivial
  rw [List.append_nil, lex_nil] at this
  exact this
end N1

set_option Elab.async false
set_option maxRecDepth 100000
/-! Texts of the model as lists of codes: find, split, lstrip, what kind of signs. -/
namespace N2
open PySem PySem.Spec PyProof.Rows L2 Hx N1
open PySem.Builtin.Str PySem.StrLaws
/-! ### a remark -/
theorem rem_eq : ("--" : Str) = ss [45, 45] := by decide +kernel
theorem sp_eq : (" " : Str) = ss [32] := by decide +kernel
theorem at_rem {l : List Nat} {i : Nat} : At (ss l) ("--" : Str) (ss l).length i ↔ (l.drop i).take 2 = [45, 45] := by
  unfold At
  rw [rem_eq, subAt_eq, ss_list, ss_list, ss_len, ss_len, beq_iff_eq]
  constructor
  · exact fun h => h.2
  · intro h
    refine ⟨?_, h⟩
    have := congrArg List.length h
    rw [List.length_take, List.length_drop] at this
    simp at this
    show i + 2 ≤ l.length
    omega
theorem norem_iff : ∀ l : List Nat, NoRem l ↔ ∀ i, (l.drop i).take 2 ≠ [45, 45]
  | [] => ⟨fun _ i h => (by rw [List.drop_nil] at h; cases h), fun _ => trivial⟩
  | c :: r => by
    have ih := norem_iff r
    constructor
    · rintro ⟨h1, h2⟩ i h
      cases i with
      | zero =>
        cases r with
        | nil => simp at h
        | cons x q =>
          simp at h
          exact h1 ⟨h.1, by rw [h.2]; rfl⟩
      | succ i => exact ih.mp h2 i h
    · intro h
      refine ⟨fun z => ?_, ih.mpr fun i => h (i + 1)⟩
      cases r with
      | nil => cases z.2
      | cons x q =>
        obtain ⟨z1, z2⟩ := z
        injection z2 with z2
        exact h 0 (by rw [z1, z2]; rfl)
theorem cut_self : ∀ {l : List Nat}, NoRem l → cutRem l = l
  | [], _ => rfl
  | c :: r, h => by rw [cut_cons h.1, cut_self h.2]
theorem cut_at : ∀ (i : Nat) (l : List Nat), (l.drop i).take 2 = [45, 45] → (∀ k, k < i → (l.drop k).take 2 ≠ [45, 45]) → cutRem l = l.take i
  | 0, l, h, _ => by
    cases l with
    | nil => cases h
    | cons c r =>
      cases r with
      | nil => simp at h
      | cons x q =>
        simp at h
        obtain ⟨rfl, rfl⟩ := h
        rfl
  | i + 1, l, h, hk => by
    cases l with
    | nil => rw [List.drop_nil] at h; cases h
    | cons c r =>
      have h0 := hk 0 (by omega)
      have hc : ¬ (c = 45 ∧ r.head? = some 45) := fun z => by
        cases r with
        | nil => cases z.2
        | cons x q =>
          obtain ⟨z1, z2⟩ := z
          injection z2 with z2
          exact h0 (by rw [z1, z2]; rfl)
      rw [cut_cons hc, List.take_succ_cons, cut_at i r h fun k hk' => hk (k + 1) (by omega)]
theorem rem_find (l : List Nat) : ((!(occurrences (ss l) ("--" : Str) 0 (ss l).length 1).isEmpty) = false ∧ NoRem l) ∨
    ((!(occurrences (ss l) ("--" : Str) 0 (ss l).length 1).isEmpty) = true ∧ Txt.find (ss l) ("--" : Str) = ((cutRem l).length : Int) ∧ cutRem l = l.take (cutRem l).length ∧ (cutRem l).length ≤ l.length) := by
  rcases occ_head (ss l) ("--" : Str) 1 (Nat.le_refl _) with ⟨h1, h2⟩ | ⟨i, r, h1, h2, h3⟩
  · refine .inl ⟨by rw [h1]; rfl, (norem_iff l).mpr fun i h => h2 i (at_rem.mpr h)⟩
  · have e := cut_at i l (at_rem.mp h2) fun k hk h => h3 k hk (at_rem.mpr h)
    have il : i + 2 ≤ l.length := by
      have := h2.1
      rw [ss_len, rem_eq, ss_len] at this
      exact this
    have el : (cutRem l).length = i := by
      rw [e, List.length_take]
      omega
    refine .inr ⟨by rw [h1]; rfl, ?_, by rw [el]; exact e, by omega⟩
    unfold Txt.find
    rw [h1, el]
/-! ### split at blanks -/
theorem at_sp {l : List Nat} {i : Nat} : (decide (i + 1 ≤ l.length) && subAt (ss l) (" " : Str) i) = decide (l[i]? = some 32) := by
  rw [sp_eq, subAt_eq, ss_list, ss_list, ss_len]
  show (decide (i + 1 ≤ l.length) && ((l.drop i).take 1 == [32])) = _
  by_cases h : i < l.length
  · rw [List.drop_eq_getElem_cons h, List.take_succ_cons, List.take_zero, List.getElem?_eq_getElem h, decide_eq_true (by omega), Bool.true_and]
    rw [Bool.eq_iff_iff, beq_iff_eq, decide_eq_true_eq]
    constructor
    · intro e
      injection e with e
      rw [e]
    · intro e
      injection e with e
      rw [e]
  · rw [List.getElem?_eq_none (by omega), decide_eq_false (by omega), Bool.false_and]
    rfl
theorem occ_one (s sub : Str) (hs : sub.length = 1) (hi limit : Nat) : ∀ (k lo : Nat) (arr : Array Nat) (free : Nat), free ≤ lo → arr.size + k ≤ limit →
    (forIn (List.range' lo k) (arr, free) (occBody s sub hi limit)).run.fst.toList = arr.toList ++ (List.range' lo k).filter fun i => decide (i + 1 ≤ hi) && subAt s sub i
  | 0, lo, arr, free, _, _ => by simp
  | k + 1, lo, arr, free, hf, hl => by
    rw [List.range'_succ, List.forIn_cons]
    unfold occBody
    by_cases c : lo + sub.length ≤ hi ∧ subAt s sub lo = true
    · have c1 : ((arr.size < limit ∧ free ≤ lo) ∧ lo + sub.length ≤ hi) ∧ subAt s sub lo = true := ⟨⟨⟨by omega, hf⟩, c.1⟩, c.2⟩
      rw [if_pos c1]
      have ih := occ_one s sub hs hi limit k (lo + 1) (arr.push lo) (lo + sub.length) (by omega) (by rw [Array.size_push]; omega)
      have ec : (decide (lo + 1 ≤ hi) && subAt s sub lo) = true := by
        rw [c.2, Bool.and_true, decide_eq_true_eq]
        have := c.1
        omega
      rw [show (lo :: List.range' (lo + 1) k).filter (fun i => decide (i + 1 ≤ hi) && subAt s sub i) = lo :: (List.range' (lo + 1) k).filter (fun i => decide (i + 1 ≤ hi) && subAt s sub i) from List.filter_cons_of_pos ec]
      refine Eq.trans ih ?_
      rw [Array.toList_push, List.append_assoc]
      rfl
    · have c1 : ¬ (((arr.size < limit ∧ free ≤ lo) ∧ lo + sub.length ≤ hi) ∧ subAt s sub lo = true) := fun h => c ⟨h.1.2, h.2⟩
      rw [if_neg c1]
      have ih := occ_one s sub hs hi limit k (lo + 1) arr free (by omega) (by omega)
      have ec : ¬ (decide (lo + 1 ≤ hi) && subAt s sub lo) = true := fun h => by
        rw [Bool.and_eq_true, decide_eq_true_eq] at h
        exact c ⟨by rw [hs]; exact h.1, h.2⟩
      rw [show (lo :: List.range' (lo + 1) k).filter (fun i => decide (i + 1 ≤ hi) && subAt s sub i) = (List.range' (lo + 1) k).filter (fun i => decide (i + 1 ≤ hi) && subAt s sub i) from List.filter_cons_of_neg ec]
      exact ih
def spots (l : List Nat) (a : Nat) : List Nat := (List.range' a (l.length + 1 - a)).filter fun i => decide (l[i]? = some 32)
theorem occ_spots (l : List Nat) : occurrences (ss l) (" " : Str) 0 (ss l).length ((ss l).length + 1) = spots l 0 := by
  rw [occ_eq, occ_one (ss l) (" " : Str) (by decide +kernel) (ss l).length ((ss l).length + 1) _ 0 #[] 0 (Nat.le_refl _) (by show 0 + _ ≤ _; omega)]
  rw [ss_len]
  show ([] ++ _) = _
  rw [List.nil_append]
  unfold spots
  congr 1
  funext i
  exact at_sp
theorem parts_split : ∀ (n : Nat) (l : List Nat) (a : Nat), l.length - a ≤ n → a ≤ l.length → partsFrom (ss l) 1 a (spots l a) = (splitB (l.drop a)).map ss := by
  intro n
  have sub_ss : ∀ (l : List Nat) (i j : Nat), strSub (ss l) i j = ss ((l.drop i).take (j - i)) := fun l i j => by
    apply Str.ext'
    apply Array.toList_inj.mp
    rw [strSub_toList, ss_list]
    exact (ss_list _).symm
  induction n with
  | zero =>
    intro l a h1 h2
    have e : a = l.length := by omega
    subst e
    have es : spots l l.length = [] := by
      unfold spots
      rw [show l.length + 1 - l.length = 1 by omega]
      simp
    rw [es, List.drop_length]
    show [strSub (ss l) l.length (ss l).length] = _
    rw [sub_ss, List.drop_length]
    simp [splitB]
  | succ n ih =>
    intro l a h1 h2
    rcases split_spec (l.drop a) with ⟨k1, k2⟩ | ⟨p, q, k1, k2, k3⟩
    · have es : spots l a = [] := by
        unfold spots
        rw [List.filter_eq_nil_iff]
        intro i hi h
        have hi' := List.mem_range'_1.mp hi
        have h' := of_decide_eq_true h
        have il := (List.getElem?_eq_some_iff.mp h').1
        refine k1 32 ?_ rfl
        have : (l.drop a)[i - a]? = some 32 := by
          rw [List.getElem?_drop, show a + (i - a) = i by omega]
          exact h'
        exact List.mem_of_getElem? this
      rw [es, k2]
      show [strSub (ss l) a (ss l).length] = _
      rw [sub_ss, ss_len, List.take_of_length_le (by rw [List.length_drop]; omega)]
      rfl
    · have hlen := congrArg List.length k1
      rw [List.length_drop, List.length_append, List.length_cons] at hlen
      have es : spots l a = (a + p.length) :: spots l (a + p.length + 1) := by
        unfold spots
        rw [show l.length + 1 - a = p.length + (1 + (l.length + 1 - (a + p.length + 1))) by omega, ← List.range'_append_1, ← List.range'_append_1, List.filter_append, List.filter_append]
        have e1 : (List.range' a p.length).filter (fun i => decide (l[i]? = some 32)) = [] := by
          rw [List.filter_eq_nil_iff]
          intro i hi h
          have hi' := List.mem_range'_1.mp hi
          have h' := of_decide_eq_true h
          have e2 : (l.drop a)[i - a]? = some 32 := by
            rw [List.getElem?_drop, show a + (i - a) = i by omega]
            exact h'
          rw [k1, List.getElem?_append_left (by omega)] at e2
          exact k2 32 (List.mem_of_getElem? e2) rfl
        have e3 : l[a + p.length]? = some 32 := by
          have : (l.drop a)[p.length]? = some 32 := by rw [k1]; simp
          rw [List.getElem?_drop] at this
          exact this
        have e4 : (List.range' (a + p.length) 1).filter (fun i => decide (l[i]? = some 32)) = [a + p.length] := by
          simp [e3]
        rw [e1, e4]
        rfl
      have eq2 : q = l.drop (a + p.length + 1) := by
        have : (l.drop a).drop (p.length + 1) = q := by
          rw [k1]
          simp
        rw [← this, List.drop_drop]
        congr 1
      rw [es, k3]
      show strSub (ss l) a (a + p.length) :: partsFrom (ss l) 1 (a + p.length + 1) (spots l (a + p.length + 1)) = ss p :: (splitB q).map ss
      rw [ih l (a + p.length + 1) (by omega) (by omega), sub_ss, k1, show a + p.length - a = p.length by omega, List.take_left, eq2]
theorem split_ss (l : List Nat) : Txt.split (ss l) (" " : Str) = (splitB l).map ss := by
  have h := parts_split _ l 0 (Nat.le_refl _) (Nat.zero_le _)
  rw [List.drop_zero] at h
  unfold Txt.split
  have hl1 : (" " : Str).length = 1 := by decide +kernel
  have hk : Builtin.Str.strKind (" " : Str) = 1 := by decide +kernel
  have hk2 : decide (Builtin.Str.strKind (ss l) < Builtin.Str.strKind (" " : Str)) = false := by
    rw [hk]
    refine decide_eq_false ?_
    unfold Builtin.Str.strKind
    split
    · decide
    · split <;> decide
  rw [hk2, Bool.or_false, hl1, ss_len]
  by_cases c : l.length < 1
  · have e : l = [] := List.length_eq_zero_iff.mp (by omega)
    subst e
    rfl
  · rw [if_neg (by rw [decide_eq_true_eq]; exact c)]
    rw [← ss_len l, occ_spots]
    by_cases c2 : (spots l 0).isEmpty = true
    · rw [if_pos c2]
      have e : spots l 0 = [] := List.isEmpty_iff.mp c2
      rw [e] at h
      rw [← h]
      show _ = [strSub (ss l) 0 (ss l).length]
      rw [sub_whole]
    · rw [if_neg c2, partsBetween_eq]
      exact h
/-! ### lstrip -/
theorem lstrip_ss (l : List Nat) (z : Str) : (Txt.lstripChars (ss l) z).length = l.length - Lx.runLen (fun c => decide (c ∈ z.cps.toList)) l := by
  have e1 : Txt.lstripChars (ss l) z = strSub (ss l) (stripLo z.cps.contains true (ss l)) (ss l).length := by
    unfold Txt.lstripChars
    rw [PyProof.Rows.stripBy_eq]
    rfl
  have e2 : stripLo z.cps.contains true (ss l) = Lx.runLen (fun c => decide (c ∈ z.cps.toList)) l := by
    unfold stripLo Lx.runLen
    rw [if_pos rfl, ss_list]
    congr 2
    funext c
    rw [Bool.eq_iff_iff, decide_eq_true_eq, Array.contains_iff_mem, Array.mem_toList_iff]
  have e3 : (Txt.lstripChars (ss l) z).length = (Txt.lstripChars (ss l) z).cps.toList.length := (Array.length_toList).symm
  rw [e3, e1, strSub_toList, ss_list, e2, ss_len, List.length_take, List.length_drop]
  omega
/-! ### what kind of signs -/
theorem alpha_at : ∀ c : Nat, c < 128 → Unicode.isAlpha c = letter c := by decide +kernel
theorem digit_at : ∀ c : Nat, c < 128 → Unicode.isDigit c = Lx.figure c := by decide +kernel
theorem lower_at : ∀ c : Nat, c < 128 → Unicode.isLower c = Lx.small c := by decide +kernel
theorem upper_at : ∀ c : Nat, c < 128 → (Unicode.isUpper c || Unicode.isTitle c) = Lx.great c := by decide +kernel
theorem ascii_ss (p : List Nat) : Txt.isascii (ss p) = p.all fun c => decide (c < 128) := by
  unfold Txt.isascii ss
  exact List.all_toArray
theorem pos_ss (p : List Nat) : decide ((ss p).length > 0) = !p.isEmpty := by
  rw [ss_len]
  cases p with
  | nil => rfl
  | cons c r => rfl
theorem all_at {f g : Nat → Bool} {p : List Nat} (h : ∀ c ∈ p, c < 128) (e : ∀ c, c < 128 → f c = g c) : p.all f = p.all g := by
  induction p with
  | nil => rfl
  | cons c r ih =>
    rw [List.all_cons, List.all_cons, e c (h c List.mem_cons_self), ih fun x hx => h x (List.mem_cons_of_mem _ hx)]
theorem any_at {f g : Nat → Bool} {p : List Nat} (h : ∀ c ∈ p, c < 128) (e : ∀ c, c < 128 → f c = g c) : p.any f = p.any g := by
  induction p with
  | nil => rfl
  | cons c r ih =>
    rw [List.any_cons, List.any_cons, e c (h c List.mem_cons_self), ih fun x hx => h x (List.mem_cons_of_mem _ hx)]
theorem alpha_ss {p : List Nat} (h : ∀ c ∈ p, c < 128) : Txt.isalpha (ss p) = (!p.isEmpty && p.all letter) := by
  unfold Txt.isalpha
  rw [pos_ss]
  congr 1
  show (p.toArray).all Unicode.isAlpha = _
  rw [List.all_toArray, all_at h alpha_at]
theorem digit_ss {p : List Nat} (h : ∀ c ∈ p, c < 128) : Txt.isdigit (ss p) = (!p.isEmpty && p.all Lx.figure) := by
  unfold Txt.isdigit
  rw [pos_ss]
  congr 1
  show (p.toArray).all Unicode.isDigit = _
  rw [List.all_toArray, all_at h digit_at]
theorem letter_cases {c : Nat} (h : letter c = true) : (Lx.small c = true ∧ Lx.great c = false) ∨ (Lx.small c = false ∧ Lx.great c = true) := by
  unfold letter at h
  by_cases k : Lx.small c = true
  · exact .inl ⟨k, (Lx.small_not k).1⟩
  · rw [Bool.eq_false_iff.mpr k, Bool.false_or] at h
    exact .inr ⟨Bool.eq_false_iff.mpr k, h⟩
theorem lower_ss {p : List Nat} (h : ∀ c ∈ p, c < 128) (h0 : p ≠ []) (ha : ∀ c ∈ p, letter c = true) : Txt.islower (ss p) = p.all Lx.small := by
  unfold Txt.islower
  show ((p.toArray).any Unicode.isLower && !(p.toArray).any fun c => Unicode.isUpper c || Unicode.isTitle c) = _
  rw [List.any_toArray, List.any_toArray, any_at h lower_at, any_at h upper_at]
  by_cases k : p.all Lx.small = true
  · rw [k]
    have ks := List.all_eq_true.mp k
    cases p with
    | nil => exact absurd rfl h0
    | cons c r =>
      have e1 : (c :: r).any Lx.small = true := List.any_eq_true.mpr ⟨c, List.mem_cons_self, ks c List.mem_cons_self⟩
      have e2 : (c :: r).any Lx.great = false := by
        rw [List.any_eq_false]
        intro x hx
        rw [(Lx.small_not (ks x hx)).1]
        decide
      rw [e1, e2]
      rfl
  · rw [Bool.eq_false_iff.mpr k]
    have : ∃ x ∈ p, Lx.small x = false := by
      refine Classical.byContradiction fun hn => k (List.all_eq_true.mpr fun x hx => ?_)
      cases e : Lx.small x with
      | true => rfl
      | false => exact absurd ⟨x, hx, e⟩ hn
    obtain ⟨x, hx, e⟩ := this
    have eg : Lx.great x = true := by
      rcases letter_cases (ha x hx) with ⟨z, _⟩ | ⟨_, z⟩
      · rw [z] at e
        cases e
      · exact z
    have e2 : p.any Lx.great = true := List.any_eq_true.mpr ⟨x, hx, eg⟩
    rw [e2, Bool.not_true, Bool.and_false]
theorem title_none : ∀ l : List Nat, l.foldl titleStep none = none
  | [] => rfl
  | c :: r => title_none r
theorem title_rest : ∀ l : List Nat, (∀ c ∈ l, c < 128) → (∀ c ∈ l, letter c = true) → l.foldl titleStep (some (true, true)) = if l.all Lx.small = true then some (true, true) else none
  | [], _, _ => rfl
  | c :: r, h, ha => by
    have hc := h c List.mem_cons_self
    rw [List.foldl_cons, List.all_cons]
    have hr := title_rest r (fun x hx => h x (List.mem_cons_of_mem _ hx)) fun x hx => ha x (List.mem_cons_of_mem _ hx)
    unfold titleStep
    show List.foldl titleStep (if (Unicode.isUpper c || Unicode.isTitle c) = true then none else if Unicode.isLower c = true then some (true, true) else some (false, true)) r = _
    rw [upper_at c hc, lower_at c hc]
    rcases letter_cases (ha c List.mem_cons_self) with ⟨z1, z2⟩ | ⟨z1, z2⟩
    · rw [z1, z2, if_neg Bool.false_ne_true, if_pos rfl, Bool.true_and]
      exact hr
    · rw [z1, z2, if_pos rfl, Bool.false_and, if_neg Bool.false_ne_true]
      exact title_none r
theorem title_ss {p : List Nat} (h : ∀ c ∈ p, c < 128) (ha : ∀ c ∈ p, letter c = true) : Txt.istitle (ss p) = titled p := by
  unfold Txt.istitle
  show ((p.toArray).foldl titleStep (some (false, false))).any (·.2) = _
  rw [List.foldl_toArray]
  cases p with
  | nil => rfl
  | cons c r =>
    have hc := h c List.mem_cons_self
    rw [List.foldl_cons]
    have hr := title_rest r (fun x hx => h x (List.mem_cons_of_mem _ hx)) fun x hx => ha x (List.mem_cons_of_mem _ hx)
    show (List.foldl titleStep (if (Unicode.isUpper c || Unicode.isTitle c) = true then some (true, true) else if Unicode.isLower c = true then none else some (false, false)) r).any (·.2) = (Lx.great c && r.all Lx.small)
    rw [upper_at c hc, lower_at c hc]
    rcases letter_cases (ha c List.mem_cons_self) with ⟨z1, z2⟩ | ⟨z1, z2⟩
    · rw [z1, z2, if_neg Bool.false_ne_true, if_pos rfl, Bool.false_and, title_none]
      rfl
    · rw [z2, if_pos rfl, Bool.true_and, hr]
      cases r.all Lx.small <;> rfl
end N2

set_option Elab.async false
set_option maxRecDepth 100000
/-! Rules: istitle, a module's own dict of texts (get, in), a def that lets nothing out. -/
namespace N3
open PySem PySem.Spec PyProof.Rows L2 Hx N1
theorem mt_istitle {X : Cx} : MtR X "str.istitle" (fun x xs H Q => ∃ a, x = .str a ∧ xs = [] ∧ True ∧ Q (.bl (Txt.istitle a)) H) :=
  mt0 (C := fun _ => True) (g := fun a => .bl (Txt.istitle a)) fun _ _ s _ _ h => PySem.SC.istitle (h _ s.toks rfl)
/-! ### a module's own dict of texts -/
def EntsR : List (Str × V) → List DictEntry → Prop
  | [], [] => True
  | kv :: r, e :: es => (∃ t, e.key = .str kv.1 t) ∧ RelV kv.2 e.val ∧ EntsR r es
  | _, _ => False
structure KD (K : PySem.W.Frag) (w : World) (d : Addr) (kvs : List (Str × V)) : Prop where
  ex : ∃ es n, K.lookup d = some ⟨.type "dict", none, .dict es n, #[]⟩ ∧ PySem.W.KeysLit w.params es.toList ∧ EntsR kvs es.toList
  low : (d == sysModules) = false
theorem str_of {k z : Str} {t : Tok} : Value.isStrOf z (.str k t) = decide (k = z) := by
  show (k == z) = decide (k = z)
  by_cases c : k = z
  · rw [c]
    simp
  · rw [decide_eq_false c, beq_eq_false_iff_ne]
    exact c
theorem ents_find : ∀ (kvs : List (Str × V)) (es : List DictEntry) (z : Str), EntsR kvs es →
    (kvs.lookup z = none ∧ (es.find? fun e => Value.isStrOf z e.key) = none) ∨ ∃ v e, kvs.lookup z = some v ∧ (es.find? fun e => Value.isStrOf z e.key) = some e ∧ RelV v e.val
  | [], [], _, _ => .inl ⟨rfl, rfl⟩
  | kv :: r, e :: es, z, h => by
    obtain ⟨⟨t, ek⟩, rv, hr⟩ := h
    have ee : Value.isStrOf z e.key = decide (kv.1 = z) := by rw [ek, str_of]
    by_cases c : kv.1 = z
    · refine .inr ⟨kv.2, e, ?_, ?_, rv⟩
      · obtain ⟨k, v⟩ := kv
        dsimp only at c
        subst c
        simp [List.lookup]
      · simp only [List.find?]
        rw [ee, decide_eq_true c]
    · have e1 : (kv :: r).lookup z = r.lookup z := by
        obtain ⟨k, v⟩ := kv
        have : (z == k) = false := by rw [beq_eq_false_iff_ne]; exact fun y => c y.symm
        simp [List.lookup, this]
      have e2 : ((e :: es).find? fun e => Value.isStrOf z e.key) = es.find? fun e => Value.isStrOf z e.key := by
        simp only [List.find?]
        rw [ee, decide_eq_false c]
      rw [e1, e2]
      exact ents_find r es z hr
  | [], _ :: _, _, h => h.elim
  | _ :: _, [], _, h => h.elim
theorem kd_find {K : PySem.W.Frag} {w : World} {d : Addr} {kvs : List (Str × V)} {es : Array DictEntry} (h : EntsR kvs es.toList) (z : Str) :
    (kvs.lookup z = none ∧ findBy Value.isStrOf es z = none) ∨ ∃ v u, kvs.lookup z = some v ∧ findBy Value.isStrOf es z = some u ∧ RelV v u := by
  obtain ⟨l⟩ := es
  rcases ents_find kvs l z h with ⟨h1, h2⟩ | ⟨v, e, h1, h2, h3⟩
  · refine .inl ⟨h1, ?_⟩
    unfold findBy
    rw [List.find?_toArray, h2]
    rfl
  · refine .inr ⟨v, e.val, h1, ?_, h3⟩
    unfold findBy
    rw [List.find?_toArray, h2]
    rfl
section
variable {X : Cx} {d : Addr} {kvs : List (Str × V)} {o e f : Expr} {apos cpos : Pos} {td ty tx : TE}
theorem op_in_kv (D : KD X.K X.w d kvs) : OpR X (compareOp .In) (fun x y H Q => ∃ z : Str, x = .str z ∧ y = .ref d ∧ Q (.bl (kvs.lookup z).isSome) H) := by
  intro pins s σ H x y v u Q I rx ry h
  obtain ⟨z, rfl, rfl, q⟩ := h
  obtain ⟨t, rfl⟩ := rx
  cases ry
  obtain ⟨es, n, hl, hk, he⟩ := D.ex
  refine wpAny_in_of (PySem.strKind_is X.prog X.w z t) D.low (PySem.W.mapOf_K (prog := X.prog) I.kIn hl hk) ?_
  rcases kd_find (K := X.K) (w := X.w) (d := d) he z with ⟨h1, h2⟩ | ⟨v, u, h1, h2, _⟩
  · rw [h2]
    rw [h1] at q
    exact ⟨.bl false, H, I.tok _, rfl, q⟩
  · rw [h2]
    rw [h1] at q
    exact ⟨.bl true, H, I.tok _, rfl, q⟩
def tKGet1 (d : Addr) (kvs : List (Str × V)) (td ty : TE) : TE := fun σ H Q => td σ H fun x H1 => x = .ref d ∧ ty σ H1 fun y H2 => ∃ z : Str, y = .str z ∧ Q ((kvs.lookup z).getD .non) H2
theorem pe_kget1 (D : KD X.K X.w d kvs) (ho : PE X o td) (he : PE X e ty) (m : M1 X o "get" apos e cpos) : PE X (.Call (.Attribute o "get" apos) [e] [] cpos) (tKGet1 d kvs td ty) := by
  refine ⟨fun pins s σ H Q I h => ?_⟩
  obtain ⟨es, n, hl, hk, hes⟩ := D.ex
  refine wpAny_Call_method m.base m.few m.line PySem.F.plainAttrs_dict PySem.F.slot_dict_get PySem.F.type_dict_get (thn (ho.run pins s σ H _ I h) fun u s1 ⟨x, H1, I1, rx, ex, q1⟩ => ?_)
  subst ex
  obtain rfl : u = Value.ref d := rx
  have hm1 := PySem.W.mapOf_K (prog := X.prog) (w := X.w) I1.kIn hl hk
  refine ⟨hm1.typeIs, hm1.noDict, ?_⟩
  rw [m.trees]
  refine Calls.callWith_builtin rfl (Calls.evalArgs_plain (Calls.spliced_cons (thn (he.run pins s1 σ H1 _ I1 q1) fun iv s2 ⟨y, H2, I2, ry, z, ez, q2⟩ => Calls.spliced_nil ?_)))
  subst ez
  obtain ⟨t, rfl⟩ := ry
  have hm2 := PySem.W.mapOf_K (prog := X.prog) (w := X.w) I2.kIn hl hk
  refine call_meetsIn PySem.F.slot_dict_get hm2.typeIs PySem.F.entry_dict_get (PySem.F.args_dict_get_2 _ _) (meets_dict_get (PySem.strKind X.prog X.w) d (PySem.strKind_is X.prog X.w z t) D.low) ⟨_, hm2, ?_⟩
  refine ⟨(kvs.lookup z).getD .non, H2, I2.tok _, ?_, q2⟩
  rcases kd_find (K := X.K) (w := X.w) (d := d) hes z with ⟨h1, h2⟩ | ⟨v, u, h1, h2, h3⟩
  · rw [h1, h2]
    rfl
  · rw [h1, h2]
    exact h3
def tKGet2 (d : Addr) (kvs : List (Str × V)) (td ty tx : TE) : TE := fun σ H Q => td σ H fun x H1 => x = .ref d ∧ ty σ H1 fun y H2 => tx σ H2 fun v H3 => ∃ z : Str, y = .str z ∧ Q ((kvs.lookup z).getD v) H3
theorem pe_kget2 (D : KD X.K X.w d kvs) (ho : PE X o td) (he : PE X e ty) (hf : PE X f tx) (m : M2 X o "get" apos e f cpos) : PE X (.Call (.Attribute o "get" apos) [e, f] [] cpos) (tKGet2 d kvs td ty tx) := by
  refine ⟨fun pins s σ H Q I h => ?_⟩
  obtain ⟨es, n, hl, hk, hes⟩ := D.ex
  refine wpAny_Call_method m.base m.few m.line PySem.F.plainAttrs_dict PySem.F.slot_dict_get PySem.F.type_dict_get (thn (ho.run pins s σ H _ I h) fun u s1 ⟨x, H1, I1, rx, ex, q1⟩ => ?_)
  subst ex
  obtain rfl : u = Value.ref d := rx
  have hm1 := PySem.W.mapOf_K (prog := X.prog) (w := X.w) I1.kIn hl hk
  refine ⟨hm1.typeIs, hm1.noDict, ?_⟩
  rw [m.trees]
  refine Calls.callWith_builtin rfl (Calls.evalArgs_plain (Calls.spliced_cons (thn (he.run pins s1 σ H1 _ I1 q1) fun iv s2 ⟨y, H2, I2, ry, q2⟩ => Calls.spliced_cons (thn (hf.run pins s2 σ H2 _ I2 q2) fun fv s3 ⟨v, H3, I3, rv, z, ez, q3⟩ => Calls.spliced_nil ?_))))
  subst ez
  obtain ⟨t, rfl⟩ := ry
  have hm3 := PySem.W.mapOf_K (prog := X.prog) (w := X.w) I3.kIn hl hk
  refine call_meetsIn PySem.F.slot_dict_get hm3.typeIs PySem.F.entry_dict_get (PySem.F.args_dict_get_3 _ _ _) (meets_dict_get_default (PySem.strKind X.prog X.w) d (PySem.strKind_is X.prog X.w z t) D.low fv) ⟨_, hm3, ?_⟩
  refine ⟨(kvs.lookup z).getD v, H3, I3.tok _, ?_, q3⟩
  rcases kd_find (K := X.K) (w := X.w) (d := d) hes z with ⟨h1, h2⟩ | ⟨v', u, h1, h2, h3⟩
  · rw [h1, h2]
    exact rv
  · rw [h1, h2]
    exact h3
end
/-! ### a def that lets nothing out -/
theorem calm {P : Program} {w : World} {K : PySem.W.Frag} {mg : Str → Option Value} {base : Heap} {k : Nat} {f : Addr} {fd : FuncData} {ps : List Str} {sp sp' : Sp} (F : FnOk P w K mg base (L2.CX P w) k f fd ps sp)
    (h : ∀ vs H Q E, sp' vs H Q E → sp vs H Q (fun _ _ _ => False)) : FnOk P w K mg base CX0 k f fd ps sp' :=
  ⟨fun vs H Q E q => F.len vs H Q _ (h _ _ _ _ q), fun A outer s H args us vs Q E hr he hb hv hs => codeAny_mono (F.run A outer s H args us vs Q _ hr he hb hv (h _ _ _ _ hs)) fun r s' hc => by
    match r, hc with
    | .ok (.ret u), hc => exact hc
    | .error e, ⟨a, B, H', cls, d, _, _, _, _, _, _, _, z⟩ => exact z.elim⟩
/-! ### the sorts -/
def sortsKV : List (Str × V) := Lx.words.map (fun w => (ss w, V.str "word")) ++ Lx.signs.map fun w => (ss w, V.str "sign")
theorem lookup_map (v : V) : ∀ (ws : List (List Nat)) (r : List (Str × V)) (p : List Nat), ((ws.map fun w => (ss w, v)) ++ r).lookup (ss p) = if ws.contains p = true then some v else r.lookup (ss p)
  | [], r, p => rfl
  | w :: ws, r, p => by
    rw [List.map_cons, List.cons_append]
    by_cases c : p = w
    · subst c
      rw [if_pos (by simp)]
      simp [List.lookup]
    · have e : (ss p == ss w) = false := by rw [beq_eq_false_iff_ne]; exact fun z => c (ss_inj z)
      have e2 : (w :: ws).contains p = ws.contains p := by
        rw [List.contains_cons]
        have : (p == w) = false := by rw [beq_eq_false_iff_ne]; exact c
        rw [this, Bool.false_or]
      simp only [List.lookup, e]
      rw [lookup_map v ws r p, e2]
theorem sorts_lookup (p : List Nat) : sortsKV.lookup (ss p) = if Lx.words.contains p = true then some (V.str "word") else if Lx.signs.contains p = true then some (V.str "sign") else none := by
  unfold sortsKV
  rw [lookup_map]
  have := lookup_map (V.str "sign") Lx.signs [] p
  rw [List.append_nil] at this
  rw [this]
  rfl
end N3

set_option Elab.async false
set_option maxRecDepth 100000
/-! A caught error that is kept behind its clause: try .. except C as n: x = n; then isinstance(x, ..), x.f. -/
namespace Ex
open PySem PySem.Spec PyProof.Rows L2
/-- at a: an error of the class cls, its own dict d -/
def ExF (cls : Value) (d : Option Addr) (a : Addr) : HO := .ext fun h => ∃ (oe : Obj) (vs : Array Value), h.get? a = some oe ∧ Zc cls d oe ∧ oe.data = .fields vs
theorem exF_ok {P : Program} {w : World} {H : Hp} {h : Heap} {a : Addr} {cls : Value} {d : Option Addr} {oe : Obj} {vs : Array Value} (e : h.get? a = some oe) (z : Zc cls d oe) (dd : oe.data = .fields vs) : ObjOk P w H h a (ExF cls d a) :=
  ⟨⟨oe, vs, e, z, dd⟩, ⟨oe, e⟩, fun _ _ ⟨o, v, q, r⟩ k => ⟨o, v, k o q, r⟩⟩
theorem exF_at {P : Program} {w : World} {H : Hp} {h : Heap} {a : Addr} {cls : Value} {d : Option Addr} (x : HOk P w H h) (e : H a = some (ExF cls d a)) : ∃ (oe : Obj) (vs : Array Value), h.get? a = some oe ∧ Zc cls d oe ∧ oe.data = .fields vs := by
  have q : ObjOk P w H h a (.ext fun h => ∃ (oe : Obj) (vs : Array Value), h.get? a = some oe ∧ Zc cls d oe ∧ oe.data = .fields vs) := x a _ e
  exact q.1
section
variable {X : Cx} {pins : List (Addr × Obj)} {σ : L2.St} {H : Hp} {s : Shared}
theorem hok_track {P : Program} {w : World} {H : Hp} {h : Heap} {a : Addr} {o : HO} (x : HOk P w H h) (hn : H a = none) (new : ObjOk P w (upd H a o) h a o) : HOk P w (upd H a o) h := fun b u e => by
  by_cases c : b = a
  · subst c
    rw [upd_same] at e
    cases e
    exact new
  · rw [upd_ne c] at e
    refine (x b u e).stay (fun _ _ _ q => q) (fun c q => ?_) fun c xs q => ?_
    · rw [upd_ne (ne_of_none q hn)]
      exact q
    · rw [upd_ne (ne_of_none q hn)]
      exact q
/-- what a suite holds may be tracked behind it -/
theorem Inv.keepPin {a : Addr} {oe : Obj} {vs : Array Value} {cls : Value} {d : Option Addr} (I : L2.Inv X ((a, oe) :: pins) σ H s) (z : Zc cls d oe) (dd : oe.data = .fields vs) (n0 : X.s_0.heap.get? a = none)
    (np : ∀ p ∈ X.pn ++ pins, p.1 ≠ a) : L2.Inv X pins σ (upd H a (ExF cls d a)) s := by
  obtain ⟨e1, e2, e3, e4, e5⟩ := I.pin (a, oe) (List.mem_append_right _ List.mem_cons_self)
  dsimp only at e1 e2 e3 e4 e5
  have base := I.base
  refine ⟨I.ok, I.os, I.bare, ⟨base.keep, base.slot, fun b o q n hx => ?_, base.there, fun b xs q => ?_, fun b o u q => ?_, fun b ps q => ?_⟩, I.loc, I.cell, ?_, fun x c q => ?_, fun p hp => ?_, hok_track I.hok e2 (exF_ok e1 z dd), I.len⟩
  · have c : b ≠ a := fun c => by
      rw [c, n0] at q
      cases q
    rw [upd_ne c]
    exact base.free b o q n hx
  · have q2 := base.tups b xs q
    rw [upd_ne (ne_of_none q2 e2)]
    exact q2
  · have q2 := base.frzs b o u q
    rw [upd_ne (ne_of_none q2 e2)]
    exact q2
  · obtain ⟨m, q2⟩ := base.tbls b ps q
    exact ⟨m, by rw [upd_ne (ne_of_none q2 e2)]; exact q2⟩
  · rw [upd_ne (Ne.symm e3)]
    exact I.free
  · have c : c ≠ a := fun z => by
      obtain ⟨v, o, ho, hd⟩ := I.cell x c q
      rw [z, e1] at ho
      cases ho
      exact e5 v hd
    rw [upd_ne c]
    exact I.freeC x _ q
  · have hp' : p ∈ X.pn ++ (a, oe) :: pins := by
      rcases List.mem_append.mp hp with h | h
      · exact List.mem_append_left _ h
      · exact List.mem_append_right _ (List.mem_cons_of_mem _ h)
    obtain ⟨f1, f2, f3, f4, f5⟩ := I.pin p hp'
    exact ⟨f1, by rw [upd_ne (np p hp)]; exact f2, f3, f4, f5⟩
theorem Inv.unsuiteK {a : Addr} {oe : Obj} {pn' : List (Addr × Obj)} (I : L2.Inv (X.suite a ((a, oe) :: (X.pn ++ pins))) pn' σ H s) (ok : X.Ok) : L2.Inv X ((a, oe) :: pins) σ H s :=
  ⟨ok, I.os, I.bare, I.base, I.loc, I.cell, I.free, I.freeC, fun p hp => I.pin p (by
    refine List.mem_append_left _ ?_
    show p ∈ (a, oe) :: (X.pn ++ pins)
    rcases List.mem_append.mp hp with h | h
    · exact List.mem_cons_of_mem _ (List.mem_append_left _ h)
    · rcases List.mem_cons.mp h with h | h
      · rw [h]
        exact List.mem_cons_self
      · exact List.mem_cons_of_mem _ (List.mem_append_right _ h)), I.hok, I.len⟩
end
/-- what the clause wishes of an error of the body: behind it the error stays, tracked -/
def wAsK (K : PySem.W.Frag) (c : Value) (i : Nat) (ts : Addr → Value → Option Addr → TS) (Wout : WX) (D : Ends) : WX := fun cls d σ H => ∃ b, PySem.W.exmOne K cls c = some b ∧
  (b = true → ∀ a, H a = none → ts a cls d { nx := fun σ' H' => D.nx (σ'.set i none) (upd H' a (ExF cls d a)), rt := fun _ _ => False } (σ.set i (some (.ref a))) H) ∧ (b = false → Wout cls d σ H)
section
variable {X : Cx} {x n : Str} {c : Value} {i : Nat} {body suite : List Stmt} {b₀ : Stmt} {np pos pos' : Pos} {tb : WX → TS} {ts : Addr → Value → Option Addr → TS} {Wout : WX}
theorem ps_try_asK (hs : X.stack = X.env :: X.outer) (hf : X.env.frame = some X.env.locals) (hex : X.ex = []) (hN : X.N.Nodup) (hi : X.N[i]? = some n) (hln : X.env.kindOf n = some .local) (hc : Names X x c) (tk : Takes X Wout) (hb : ∀ (W : WX) (pn : List (Addr × Obj)) (xe : Value → Shared → Prop),
    Takes (X.tr pn xe) W → PassesOwn (model X.prog X.w) X.A X.env xe → PSs (X.tr pn xe) body (tb W)) (hsu : ∀ (a : Addr) (oe : Obj) (cls : Value) (d : Option Addr) (pn : List (Addr × Obj)), Zc cls d oe → (∃ vs, oe.data = .fields vs) →
      PSs (X.suite a ((a, oe) :: pn)) (b₀ :: suite) (ts a cls d)) : PS X (.Try body [.ExceptHandler (some (.Name x np)) (some n) (b₀ :: suite) pos'] [] [] pos) (fun D σ H => tb (wAsK X.K c i ts Wout D) D σ H) := by
  refine ⟨fun pins s σ H D I h => ?_⟩
  have ok := I.ok
  have hfr : X.A.frames = some (X.env :: X.outer) := ok.frames.trans (congrArg some hs)
  refine wpAny_Try_except (wpAny_mono ((hb (wAsK X.K c i ts Wout D) (X.pn ++ pins) (fun e s₁ => wpAny (model X.prog X.w) X.A (noteFrame e X.env) (fun _ s₂ => wpAny (model X.prog X.w) X.A (setFlight e none) (fun _ s₃ => wpAny (model X.prog X.w) X.A
    (handleBy e X.env [.ExceptHandler (some (.Name x np)) (some n) (b₀ :: suite) pos']) (SP X pins D) X.xe s₃) X.xe s₂) X.xe s₁) (fun u s' xx => ?_) PassesOwn.looking).run [] s σ H D (I.toTry _) h) (fun f s1 hsp => ?_) (fun e s1 he => he))
  · obtain ⟨a, B, sI, pins', σ', H', cls, d, rfl, J', nb, up, sky, na, os, ag, b, hb1, hyes, hno⟩ := xx
    have J : L2.Inv X pins σ' H' sI := J'.ofTry ok
    rw [hs] at sky
    show wpAny (model X.prog X.w) X.A (noteFrame (.ref a) X.env) _ _ _
    refine Sky.land Zc.steady hfr hf sky fun h3 fl3 up3 => ?_
    have J3 : L2.Inv X pins σ' H' { s' with heap := h3 } := J.landed nb fl3.1 (up.trans up3) os ag
    obtain ⟨oe3, vs3, he3, hz3, hd3⟩ := fl3.there
    have nfr : a ∉ frs (X.env :: X.outer) := fun hm => by
      obtain ⟨_, o', e', hnf⟩ := fl3.2.2.1.mem hm
      rw [he3] at e'
      cases e'
      exact hnf _ hd3
    have nL : a ≠ X.env.locals := fun z => nfr (List.mem_filterMap.mpr ⟨X.env, List.mem_cons_self, hf.trans (congrArg some z.symm)⟩)
    have nF : a ∉ X.fs := fun hm => by
      obtain ⟨e, he, q⟩ := List.mem_filterMap.mp hm
      exact nfr (List.mem_filterMap.mpr ⟨e, List.mem_cons_of_mem _ he, q⟩)
    have nI : sI.heap.get? a = none := by
      cases z : sI.heap.get? a with
      | none => rfl
      | some o =>
        have q := nb a o z (by rw [hs]; exact nfr)
        rw [fl3.2.1] at q
        cases q
    have n0 : X.s_0.heap.get? a = none := by
      cases z : X.s_0.heap.get? a with
      | none => rfl
      | some o =>
        obtain ⟨o', q⟩ := J.base.there a o z (by rw [hex]; exact fun y => nomatch y)
        rw [nI] at q
        cases q
    have np' : ∀ p ∈ X.pn ++ pins, p.1 ≠ a := fun p hp z => by
      have q := (J.pin p hp).1
      rw [z, nI] at q
      cases q
    have S3 := J3.suite he3 hd3 na nL nF
    refine wpAny_handleBy_cons (codeAny_handlers_test ?_) (fun q => nomatch q)
    have LT : PySem.W.Looks (model X.prog X.w) h3 (typeOf (.ref a)) cls := fun A Q E s k q => wpAny_typeOf_ref (k _ _ he3) (hz3.1.symm ▸ q)
    have LM := PySem.W.exm_one (M := model X.prog X.w) J3.kIn LT hb1
    have test : ∀ {Q : Value → Shared → Prop} {E : Value → Shared → Prop}, Q c { s' with heap := h3 } → wpAny (model X.prog X.w) (X.A.mark (some (.ref a))) (eval (.Name x np) X.env) Q E { s' with heap := h3 } := by
      intro Q E q
      obtain ⟨hg, hdbg, hm | ⟨hm, hv, hnn⟩⟩ := hc
      · exact ld_glob (X := X.suite a ((a, oe3) :: (X.pn ++ pins))) S3 hg hm q hdbg
      · exact ld_blt (X := X.suite a ((a, oe3) :: (X.pn ++ pins))) S3 hg hm hv q hnn hdbg
    refine test (LM.here ?_)
    cases b with
    | true =>
      refine codeAny_handlers_suite_as (HandSPX.lands_againZ fl3 fun h4 fl4 up4 => ?_)
      have J4 : L2.Inv X pins σ' H' { s' with heap := h4 } := J.landed nb fl4.1 ((up.trans up3).trans up4) os ag
      obtain ⟨oe4, vs4, he4, hz4, hd4⟩ := fl4.there
      refine store_ok (X := X.suite a ((a, oe4) :: (X.pn ++ pins))) (v := .ref a) (J4.suite he4 hd4 na nL nF) hN hi (.inl hln) rfl (fun s5 S5 => ?_) (.inr hln)
      refine wpAny_mono ((hsu a oe4 cls d (X.pn ++ pins) hz4 ⟨_, hd4⟩).run [] s5 _ H' _ S5 (hyes rfl a na)) (fun f s6 hsp => ?_) (fun _ _ z => z.elim)
      cases f with
      | next =>
        obtain ⟨σ6, H6, S6, q6⟩ := hsp
        exact gone_ok (Inv.unsuiteK S6 ok) hN hi hln fun s7 J7 => ⟨_, _, Inv.keepPin J7 hz4 hd4 n0 np', q6⟩
      | brk => exact hsp.elim fun _ q => q.elim fun _ q => q.2.elim
      | cont => exact hsp.elim fun _ q => q.elim fun _ q => q.2.elim
      | ret u => exact hsp.elim fun _ q => q.elim fun _ q => q.elim fun _ q => q.2.2.elim
    | false =>
      show wpAny _ X.A (handleBy (.ref a) X.env []) _ _ _
      refine wpAny_handleBy_nil ?_
      obtain ⟨k1, k2, k3, oe, vs, T, oT, ts', he, hz, hd, h1, hr⟩ := id fl3
      unfold PySem.passOn
      refine wpAny_bind (wpAny_field he hd h1 ?_)
      rw [if_neg (show ¬ ((Value.ref T == Value.none) = true) from fun z => nomatch z)]
      have fin : wpAny (model X.prog X.w) X.A (setFlight (.ref a) X.env.frame) (fun _ s4 => wpAny (model X.prog X.w) X.A (throw (.ref a) : Sem Flow) (SP X pins D) X.xe s4) X.xe { s' with heap := h3 } := by
        rw [hf]
        refine HandSPX.setFlight_upZ fl3 fun h4 hh4 up4 => wpAny_throw (tk _ _ ⟨a, B, sI, pins, σ', H', cls, d, rfl, J, nb, (up.trans up3).trans up4, .inr (.inr (by rw [hs]; exact hh4)), na, os, ag, hno rfl⟩)
      first
        | exact wpAny_bind (wpAny_pure (wpAny_bind fin))
        | exact wpAny_bind fin
  · cases f with
    | next => exact hsp.elim fun σ' q => q.elim fun H' q => wpAny_execs_nil ⟨σ', H', q.1.ofTry ok, q.2⟩
    | brk => exact hsp.elim fun σ' q => q.elim fun H' q => ⟨σ', H', q.1.ofTry ok, q.2⟩
    | cont => exact hsp.elim fun σ' q => q.elim fun H' q => ⟨σ', H', q.1.ofTry ok, q.2⟩
    | ret u => exact hsp.elim fun v q => q.elim fun σ' q => q.elim fun H' q => ⟨v, σ', H', q.1.ofTry ok, q.2⟩
end
/-! ### isinstance of an error, where the answer is True -/
section
variable {K : PySem.W.Frag} {cls c : Value} {d : Option Addr} {a : Addr}
open PySem.W in
theorem exc_ansT (e : kitOne K cls c = some true) : Answers (fun s => K.In s.heap ∧ ∃ oe : Obj, s.heap.get? a = some oe ∧ oe.cls = cls) (.ref a) c true := by
  intro dep tk prog w A R s hs
  obtain ⟨⟨X, oe, ho, hcl⟩, hq⟩ := hs
  obtain ⟨h0, g, dr, tt, os⟩ := s
  have LT : Looks (model prog w) h0 (typeOf (.ref a)) cls := fun A Q E s k q => wpAny_typeOf_ref (k _ _ ho) (hcl.symm ▸ q)
  unfold kitOne at e
  unfold Builtin.«isinstance.nested»
  refine wpAny_bind (LT.at ?_)
  by_cases q : (cls == c) = true
  · rw [if_pos q]
    first
      | exact wpAny_bind (wpAny_rule (hq tt))
      | exact wpAny_bind (wpAny_rule (wpAny_pure (hq tt)))
      | exact wpAny_bind (wpAny_rule (wpAny_bind (wpAny_pure (wpAny_pure (hq tt)))))
  · rw [if_neg q] at e
    rw [if_neg q]
    obtain ⟨hty, his, hsub⟩ := kit_cls (M := model prog w) X e
    refine wpAny_bind (hty.at ?_)
    rw [if_pos (by decide)]
    k_delta "plainIsInstance"
    refine wpAny_bind (wpAny_bind (his.at ?_))
    simp only [Bool.not_true, Bool.false_eq_true, if_false]
    refine wpAny_bind ((LT.andThen hsub).at ?_)
    first
      | exact wpAny_pure (wpAny_pure (hq tt))
      | (simp only [if_true]; first | exact wpAny_pure (wpAny_pure (hq tt)) | exact wpAny_pure (hq tt) | exact wpAny_bind (wpAny_pure (wpAny_pure (hq tt))))
end
def rIsF (K : PySem.W.Frag) : List V → Hp → VK → Prop := fun xs H Q => ∃ (a : Addr) (cls : Value) (d : Option Addr) (c : V) (u : Value), xs = [.ref a, c] ∧ H a = some (ExF cls d a) ∧ ClsV c u ∧ PySem.W.kitOne K cls u = some true ∧ Q (.bl true) H
open PySem.W in
theorem call_isF {X : Cx} : CallR X (.builtin "isinstance") (rIsF X.K) := by
  intro pins s σ H xs us Q I r h
  obtain ⟨a, cls, d, c, u, rfl, ha, hk, e, q⟩ := h
  cases r with
  | cons rx rr =>
    cases rr with
    | cons rt rr =>
      cases rr
      cases rx
      have eu := hk.eq rt
      subst eu
      obtain ⟨oe, vs, ho, hz, hd⟩ := exF_at I.hok ha
      exact call_isinstance (S := fun _ R s => (X.K.In s.heap ∧ ∃ oe : Obj, s.heap.get? a = some oe ∧ oe.cls = cls) ∧ ∀ tk, R (.ok (.ret (.bool true))) { s with toks := tk })
        (fun prog w A R s hs => isinstance_outer (exc_ansT e 0 _ prog w A R s hs) (fun z => nomatch z)) ⟨⟨I.kIn, oe, ho, hz.1⟩, fun tk => ⟨.bl true, H, I.kept (t' := tk) fun _ _ z => z, rfl, q⟩⟩
/-! ### a field of an error -/
def tXfF (C : Addr) (f : Str) (te : TE) : TE := fun σ H Q => te σ H fun x H1 => ∃ (a dd : Addr) (fs : List (Str × V)) (v : V), x = .ref a ∧ H1 a = some (ExF (.ref C) (some dd) a) ∧ H1 dd = some (.xd fs) ∧ fs.lookup f = some v ∧ Q v H1
theorem pe_xfF {X : Cx} {C : Addr} {e : Expr} {te : TE} {pos : Pos} {n : Str} (T : XfC X.K C) (hno : PySem.W.findIn X.K (.ref C) n = some none) (he : PE X e te) (hb : attributeBase e n X.env (eval e X.env) = eval e X.env := by rfl) : PE X (.Attribute e n pos) (tXfF C n te) := by
  refine ⟨fun pins s σ H Q I h => attr_of hb (thn (he.run pins s σ H _ I h) fun u s1 hh => ?_)⟩
  obtain ⟨x, H1, I1, rx, a, dd, fs, v, ex, ha, ea, l, q⟩ := hh
  subst ex
  obtain rfl : u = Value.ref a := rx
  obtain ⟨oe, vs, ho, hz, hd⟩ := exF_at I1.hok ha
  have hx : ObjOk X.prog X.w H1 s1.heap dd (.xd fs) := I1.hok dd _ ea
  obtain ⟨mA, hns, hr⟩ := hx
  obtain ⟨od, hod, hl⟩ := lookIn_ns hns
  obtain ⟨u, hu, ru⟩ := RelO.some_of (v := v) (o := mA n) (l ▸ hr n)
  have J : PySem.W.InstAt s1.heap a oe C (some od) := ⟨ho, hz.1, (by unfold PySem.W.notCls; rw [hd] <;> rfl), (by rw [hz.2]; exact hod)⟩
  exact HandSPX.exc_get I1.kIn J T.ga T.gg T.exC (PySem.W.findObj_own T.hdC hno rfl (hl n |>.trans (congrArg some hu) |> fun z => z)) (handed_of ru) ⟨v, H1, I1.tok _, ru, q⟩
end Ex

set_option Elab.async false
set_option maxRecDepth 100000
/-! Deep calls: room counted frame by frame; a def held by a local, a method of a slotted instance; x.f op= e of a slotted instance. -/
namespace RN
open PySem PySem.Spec PyProof.Rows L2
/-- room for n frames, one in another -/
structure RoomN (n : Nat) (A : Around) : Prop where
  hd : A.handled = none
  dp : A.depth + n + 8 < recursionLimit
  un : A.units + 5 * n + 210 < cLine
theorem RoomN.mono {m n : Nat} {A : Around} (r : RoomN n A) (h : m ≤ n) : RoomN m A := ⟨r.hd, by have := r.dp; omega, by have := r.un; omega⟩
theorem RoomN.deeper {n : Nat} {A : Around} (r : RoomN (n + 1) A) (env : Env) : RoomN n (A.deeper env) :=
  ⟨r.hd, by have h := r.dp; show (A.depth + 1) + n + 8 < recursionLimit; omega, by have h := r.un; show (A.units + 3) + 5 * n + 210 < cLine; omega⟩
theorem RoomN.room {n k : Nat} {A : Around} (r : RoomN n A) (h : 3 * k ≤ n + 3) (h2 : 16 * k ≤ 5 * n + 10) : Room k A := ⟨r.hd, by have := r.dp; omega, by have := r.un; omega⟩
theorem RoomN.of {n k : Nat} {A : Around} (r : Room k A) (h : n + 3 ≤ 3 * k) : RoomN n A := ⟨r.hd, by have := r.dp; omega, by have := r.un; omega⟩
theorem RoomN.units {n : Nat} {A : Around} (r : RoomN n A) : A.units + 64 < cLine := by have := r.un; omega
/-- a def's promise, where there is room for n frames -/
structure FnN (P : Program) (w : World) (K : PySem.W.Frag) (mg : Str → Option Value) (base : Heap) (CX : CXT) (n : Nat) (f : Addr) (fd : FuncData) (ps : List Str) (sp : Sp) : Prop where
  len : ∀ vs H Q E, sp vs H Q E → vs.length = ps.length
  run : ∀ (A : Around) (outer : List Env) (s : Shared) (H : Hp) (args : Args) (us : List Value) (vs : List V) (Q : VK) (E : XK), RoomN n A → Env0 P w K mg base A outer s H → BindsTo s fd args (ps.zip us) → Vals vs us → sp vs H Q E →
    codeAny (model P w) A (.call (.ref f) args) (CR CX outer P w H s Q E) s
section
variable {P : Program} {w : World} {K : PySem.W.Frag} {mg : Str → Option Value} {base : Heap} {CX : CXT} {f : Addr} {fd : FuncData} {ps : List Str} {sp : Sp}
theorem FnN.mono {m n : Nat} (F : FnN P w K mg base CX m f fd ps sp) (h : m ≤ n) : FnN P w K mg base CX n f fd ps sp := ⟨F.len, fun A outer s H args us vs Q E hr => F.run A outer s H args us vs Q E (hr.mono h)⟩
theorem FnN.fn {n k : Nat} (F : FnN P w K mg base CX n f fd ps sp) (h : n + 3 ≤ 3 * k) : FnOk P w K mg base CX k f fd ps sp := ⟨F.len, fun A outer s H args us vs Q E hr => F.run A outer s H args us vs Q E (RoomN.of hr h)⟩
theorem FnN.of {n k : Nat} (F : FnOk P w K mg base CX k f fd ps sp) (h : 3 * k ≤ n + 3) (h2 : 16 * k ≤ 5 * n + 10) : FnN P w K mg base CX n f fd ps sp := ⟨F.len, fun A outer s H args us vs Q E hr => F.run A outer s H args us vs Q E (hr.room h h2)⟩
end
/-- a def, by its body -/
theorem fn_ofN {CX : CXT} {P : Program} {w : World} {K : PySem.W.Frag} {mg : Str → Option Value} {base : Heap} {n : Nat} {f : Addr} {name qual : Str} {params : Arguments} {body : List Stmt} {scope : Scope} {dV kV doc pm cdv ct oc : Value} {an od : Option Addr}
    {osl : Array (Option Value)} {N ps : List Str} {sp : Sp} (lk : K.lookup f = some ⟨oc, od, .func (PySem.W.fnOf name qual params body scope dV kV doc pm an cdv ct), osl⟩) (hcd : PySem.W.codeIn K cdv qual = true) (S : FnScope N ps scope) (len : ∀ vs H Q E, sp vs H Q E → vs.length = ps.length)
    (hb1 : ∀ (A : Around) (outer : List Env) (s : Shared) (H : Hp) (vs : List V) (Q : VK) (E : XK), RoomN n (A.deeper (envOfC qual scope s.heap.objs.size f cdv)) → sp vs H Q E →
      ∃ t, PSs (cxOf CX P w K mg base N qual scope f cdv A outer s H E) body t ∧ t { nx := fun _ H' => Q .non H', rt := Q } (start N vs) H) :
    FnN P w K mg base CX (n + 1) f (PySem.W.fnOf name qual params body scope dV kV doc pm an cdv ct) ps sp := by
  refine ⟨len, fun A outer s H args us vs Q E room e0 bnd rel hsp => ?_⟩
  have lens := len _ _ _ _ hsp
  have kin : K.In s.heap := e0.mod.kin.keeps fun b o e => (e0.bs b o e).1
  have lim : s.heap.NoLimit := e0.mod.nolimit.keeps fun b o e => (e0.bs b o e).1
  have kinds : ∀ y ∈ ps.zip us, scope.names.lookup y.1 = some .local ∨ (scope.names.lookup y.1 = some .cell ∧ ((cellsFrom (s.heap.objs.size + 1) scope.names []).lookup y.1).isSome = true) := fun ⟨x, v⟩ hy => by
    rcases S.par x (List.of_mem_zip hy).1 with z | z
    · exact .inl z
    · exact .inr ⟨z, PySem.W.cellsFrom_some _ _ _ (.inl z)⟩
  refine codeAny_call_function (show A.depth < recursionLimit by have := room.dp; omega) (kin _ _ lk) rfl S.co S.gen rfl (PySem.W.codeRec_of kin hcd) (bnd _ _ _ _ ?_)
  refine wpAny_newFunctionEnv_cells S.kind kinds fun env he s1 x => ?_
  subst he
  refine ⟨lim.keeps x.toInCall.keep, codeAny_func ?_⟩
  obtain ⟨t, ht, q1⟩ := hb1 A outer s H vs Q E (room.deeper _) hsp
  have I0 : Inv (cxOf CX P w K mg base N qual scope f cdv A outer s H E) [] (start N vs) H s1 := inv_start S room.hd e0 lens rel x
  refine wpAny_mono (ht.run [] s1 (start N vs) H _ I0 q1) (fun fl s' hs => ?_) fun e s' hs => hs
  have fin : ∀ {σ' : L2.St} {H' : Hp} {v : V} {u : Value}, Inv (cxOf CX P w K mg base N qual scope f cdv A outer s H E) [] σ' H' s' → RelV v u → Q v H' → CE outer P w H s Q u s' :=
    fun {σ' H' v u} J rv z => ⟨v, H', J.os, J.bare, J.base, J.hok, rv, z⟩
  cases fl with
  | ret u =>
    obtain ⟨v, σ', H', J, rv, z⟩ := hs
    exact fin J rv z
  | next =>
    obtain ⟨σ', H', J, z⟩ := hs
    exact fin (v := V.non) (u := Value.none) J rfl z
  | brk =>
    obtain ⟨_, _, _, z⟩ := hs
    exact z.elim
  | cont =>
    obtain ⟨_, _, _, z⟩ := hs
    exact z.elim
theorem okN {P : Program} {w : World} {K : PySem.W.Frag} {mg : Str → Option Value} {base : Heap} {x qual : Str} {st : Stmt} {f : Addr} {fd : FuncData} {N ps : List Str} {n : Nat} {sp : Sp} (F : Fun K x qual st f fd) (S : FnScope N ps (defScope st)) (len : ∀ vs H Q E, sp vs H Q E → vs.length = ps.length)
    (hb1 : ∀ (cdv : Value) (A : Around) (outer : List Env) (s : Shared) (H : Hp) (vs : List V) (Q : VK) (E : XK), RoomN n (A.deeper (envOfC qual (defScope st) s.heap.objs.size f cdv)) → sp vs H Q E →
      ∃ t, PSs (cxOf CX0 P w K mg base N qual (defScope st) f cdv A outer s H E).nox (defBody st) t ∧ t { nx := fun _ H' => Q .non H', rt := Q } (start N vs) H) : FnN P w K mg base CX0 (n + 1) f fd ps sp := by
  obtain ⟨oc, od, kV, doc, pm, an, cdv, ct, osl, rfl, lk, hcd⟩ := F.ex
  refine fn_ofN lk hcd S len fun A outer s H vs Q E hr hsp => ?_
  obtain ⟨t, h, q⟩ := hb1 cdv A outer s H vs Q E hr hsp
  exact ⟨t, h.nox, q⟩
section
variable {X : Cx} {CX : CXT} {n i : Nat} {f C : Addr} {fd : FuncData} {ps : List Str} {sp : Sp} {E : XK} {x m : Str} {p pos apos : Pos} {e o : Expr} {es : List Expr} {ta : TE} {t : TA}
theorem run_N {pins : List (Addr × Obj)} {σ : L2.St} {H : Hp} {s : Shared} {Q : VK} {us : List Value} {vs : List V} (F : FnN X.prog X.w X.K X.mg X.base CX n f fd ps sp) (hr : RoomN n X.A) (hb : Binds X.K fd ps []) (hx : Passes CX X E)
    (I : Inv X pins σ H s) (r : Vals vs us) (h : sp vs H Q E) : wpAny (model X.prog X.w) X.A (call (.ref f) us) (EP X pins σ Q) X.xe s := by
  have lens : us.length = ps.length := by rw [← r.length]; exact F.len _ _ _ _ h
  have b2 := hb s us I.kIn (by rw [List.append_nil]; exact lens)
  rw [List.append_nil] at b2
  refine wpAny_call (codeAny_mono (F.run X.A X.stack s H ⟨us, []⟩ us vs Q E hr I.env0 b2 r h) fun r s' z => ?_)
  cases r with
  | error e => exact hx pins σ H s e s' I z
  | ok fl =>
    cases fl with
    | ret u => exact I.after z
    | next => exact z.elim
    | brk => exact z.elim
    | cont => exact z.elim
/-- several defs that a slot may hold -/
structure HeldN (P : Program) (w : World) (K : PySem.W.Frag) (mg : Str → Option Value) (base : Heap) (n : Nat) (f : Addr) (sp : Sp) : Prop where
  ex : ∃ (fd : FuncData) (ps : List Str), FnN P w K mg base CX0 n f fd ps sp ∧ PySem.W.keepIn K (.ref f) = true ∧ Binds K fd ps []
def tCallN (P : Program) (w : World) (K : PySem.W.Frag) (mg : Str → Option Value) (base : Heap) (n i : Nat) (t : TA) : TE := fun σ H Q => ∃ f sp, σ[i]? = some (some (.ref f)) ∧ HeldN P w K mg base n f sp ∧ t σ H fun vs H1 => sp vs H1 Q (fun _ _ _ => False)
theorem pe_callN (hr : RoomN n X.A) (hN : X.N[i]? = some x) (hv : Vis X.env.scope x) (ha : PA X (e :: es) t) (hdb : (x == ("__debug__" : Str)) = false := by decide) (hcd : (x == ("__classdict__" : Str)) = false := by decide)
    (he : starEach (e :: es) X.env = (false, eval e X.env) :: starEach es X.env := by rfl) (hpl : (backTo pos (starEach es X.env)).any (·.1) = false := by rfl) : PE X (.Call (.Name x p) (e :: es) [] pos) (tCallN X.prog X.w X.K X.mg X.base n i t) := by
  refine ⟨fun pins s σ H Q I h => ?_⟩
  obtain ⟨f, sp, hs, hH, ht⟩ := h
  obtain ⟨fd, ps, F, hk, hb⟩ := hH.ex
  refine wpAny_Call_Name_kw (thn ((pe_var (pos := p) hN hv hdb hcd).run pins s σ H (fun v H1 => v = .ref f ∧ H1 = H) I ⟨.ref f, hs, rfl, rfl⟩) fun u s1 ⟨v, H1, I1, r1, q1⟩ => ?_)
  obtain ⟨rfl, rfl⟩ := q1
  cases r1
  exact PySem.W.callWith_K (h₀ := X.base) I.ok.mod.kin hk (thn (ha.run pos pins s1 σ _ _ I1 ht) fun us s2 ⟨vs, H2, I2, r, q⟩ => ⟨I2.kIn, run_N F hr hb (fun _ _ _ _ _ _ _ z => z.elim) I2 r q⟩) he hpl
/-- o.m(e, ..), o a slotted instance -/
theorem pe_methN {pl : Sem Bool} (he : PE X o ta) (c : SlX.SCls X.K C) (hm : Meth X.K C m f) (F : FnN X.prog X.w X.K X.mg X.base CX n f fd ps sp) (hr : RoomN n X.A) (hb : Binds X.K fd ps []) (hx : Passes CX X E) (ha : PA X (e :: es) t)
    (hst : starEach (e :: es) X.env = (false, eval e X.env) :: starEach es X.env := by rfl) (hpl : (backTo pos (starEach es X.env)).any (·.1) = false := by rfl)
    (ht : eval (.Call (.Attribute o m apos) (e :: es) [] pos) X.env = (do
      let ov ← eval o X.env
      standAt apos.atName
      let (g, first) ← holding [ov] (getMethod ov m pl)
      callWith pos g first (backTo pos (starEach (e :: es) X.env)) (backToKw pos (keywordEach [] X.env))) := by rfl) :
    PE X (.Call (.Attribute o m apos) (e :: es) [] pos) (SlX.tMethSl C sp E ta t) := by
  refine ⟨fun pins s σ H Q I h => ?_⟩
  refine PySem.W.methodCall_KW (pl := pl) (thn (he.run pins s σ H _ I h) fun u s1 ⟨y, H1, I1, ry, a, dx, vs, ey, hsl, q⟩ => ?_) ht
  subst ey
  obtain rfl : u = Value.ref a := ry
  exact SlX.getmethsl_ok I1 hsl c hm (PySem.W.callWith_K (first := [.ref a]) (h₀ := X.base) I.ok.mod.kin hm.kp (thn (ha.run pos pins s1 σ H1 _ I1 q) fun us s2 ⟨ws, H2, I2, r, q2⟩ => ⟨I2.kIn, run_N (us := .ref a :: us) (vs := .ref a :: ws) F hr hb hx I2 (.cons rfl r) q2⟩) hst hpl)
/-- the same by a promise of levels -/
theorem pe_methS {k : Nat} {pl : Sem Bool} (he : PE X o ta) (c : SlX.SCls X.K C) (hm : Meth X.K C m f) (F : FnOk X.prog X.w X.K X.mg X.base CX k f fd ps sp) (hr : Room k X.A) (hb : Binds X.K fd ps []) (hx : Passes CX X E) (ha : PA X (e :: es) t)
    (hst : starEach (e :: es) X.env = (false, eval e X.env) :: starEach es X.env := by rfl) (hpl : (backTo pos (starEach es X.env)).any (·.1) = false := by rfl)
    (ht : eval (.Call (.Attribute o m apos) (e :: es) [] pos) X.env = (do
      let ov ← eval o X.env
      standAt apos.atName
      let (g, first) ← holding [ov] (getMethod ov m pl)
      callWith pos g first (backTo pos (starEach (e :: es) X.env)) (backToKw pos (keywordEach [] X.env))) := by rfl) :
    PE X (.Call (.Attribute o m apos) (e :: es) [] pos) (SlX.tMethSl C sp E ta t) := by
  refine ⟨fun pins s σ H Q I h => ?_⟩
  refine PySem.W.methodCall_KW (pl := pl) (thn (he.run pins s σ H _ I h) fun u s1 ⟨y, H1, I1, ry, a, dx, vs, ey, hsl, q⟩ => ?_) ht
  subst ey
  obtain rfl : u = Value.ref a := ry
  exact SlX.getmethsl_ok I1 hsl c hm (PySem.W.callWith_K (first := [.ref a]) (h₀ := X.base) I.ok.mod.kin hm.kp (thn (ha.run pos pins s1 σ H1 _ I1 q) fun us s2 ⟨ws, H2, I2, r, q2⟩ => ⟨I2.kIn, run_fn (us := .ref a :: us) (vs := .ref a :: ws) (dvs := []) (ds := []) F hr hb .nil hx I2 (.cons rfl r) (by rw [List.append_nil]; exact q2)⟩) hst hpl)
end
end RN

set_option Elab.async false
set_option maxRecDepth 100000
/-! truths beside numbers, below and not above; x.f op= e of a slotted instance -/
namespace RN
open PySem PySem.Spec PyProof.Rows L2
def num01 (b : Bool) : Int := if b = true then 1 else 0
theorem gt_bi (a : Bool) (b : Int) (u : Tok) : Gives (Builtin.«int.__gt__» ⟨[.bool a, .int b u], []⟩) (.val (Value.bool ((fun x1 x2 => decide (x1 > x2)) (if a = true then (1 : Int) else 0) b))) :=
  .of_wp fun M A E s Q h => by obtain ⟨hp, g, d, tk, os⟩ := s; wp_walk; exact ⟨_, rfl, h⟩
theorem ge_bi (a : Bool) (b : Int) (u : Tok) : Gives (Builtin.«int.__ge__» ⟨[.bool a, .int b u], []⟩) (.val (Value.bool ((fun x1 x2 => decide (x1 ≥ x2)) (if a = true then (1 : Int) else 0) b))) :=
  .of_wp fun M A E s Q h => by obtain ⟨hp, g, d, tk, os⟩ := s; wp_walk; exact ⟨_, rfl, h⟩
theorem lt_bi (a : Bool) (b : Int) (u : Tok) : Gives (Builtin.«int.__lt__» ⟨[.bool a, .int b u], []⟩) (.val (Value.bool ((fun x1 x2 => decide (x1 < x2)) (if a = true then (1 : Int) else 0) b))) :=
  .of_wp fun M A E s Q h => by obtain ⟨hp, g, d, tk, os⟩ := s; wp_walk; exact ⟨_, rfl, h⟩
section
variable {prog : Program} {w : World} {A : Around} {E : Value → Shared → Prop} {s : Shared} {Q : Value → Shared → Prop}
theorem wp_lt_ib {a : Int} {t : Tok} {b : Bool} (h : Q (.bool (decide (a < num01 b))) s) : wpAny (model prog w) A (compareOp .Lt (.int a t) (.bool b)) Q E s :=
  SeqAt.rc_sub_first_or (op := .Lt) (typeIs_int s a t) rfl (by decide) F.sub_bool_int F.slot_bool_gt_refl
    (call_gives F.slot_bool_gt_refl rfl F.entry_int_gt (F.args_int_gt_2 _ _) (gt_bi b a t) ⟨nofun, h⟩) (.inl rfl)
theorem wp_le_ib {a : Int} {t : Tok} {b : Bool} (h : Q (.bool (decide (a ≤ num01 b))) s) : wpAny (model prog w) A (compareOp .LtE (.int a t) (.bool b)) Q E s :=
  SeqAt.rc_sub_first_or (op := .LtE) (typeIs_int s a t) rfl (by decide) F.sub_bool_int F.slot_bool_ge_refl
    (call_gives F.slot_bool_ge_refl rfl F.entry_int_ge (F.args_int_ge_2 _ _) (ge_bi b a t) ⟨nofun, h⟩) (.inl rfl)
theorem wp_lt_bi {a : Bool} {b : Int} {u : Tok} (h : Q (.bool (decide (num01 a < b))) s) : wpAny (model prog w) A (compareOp .Lt (.bool a) (.int b u)) Q E s :=
  SeqAt.rc_left_or (op := .Lt) rfl (typeIs_int s b u) (by decide) F.sub_int_bool F.slot_bool_lt
    (call_gives F.slot_bool_lt rfl F.entry_int_lt (F.args_int_lt_2 _ _) (lt_bi a b u) ⟨nofun, h⟩) (.inl rfl)
end
/-- a number or a truth as a number -/
def numV : V → Option Int
  | .int i => some i
  | .bl b => some (num01 b)
  | _ => none
section
variable {X : Cx}
/-- below: not two truths -/
def rLtM : R2 := fun x y H Q => ∃ i j, numV x = some i ∧ numV y = some j ∧ ((∃ i, x = .int i) ∨ ∃ j, y = .int j) ∧ Q (.bl (decide (i < j))) H
theorem op_ltM : OpR X (compareOp .Lt) rLtM := by
  intro pins s σ H x y v u Q I rx ry h
  obtain ⟨i, j, hx, hy, hxy, q⟩ := h
  cases x with
  | int a =>
    cases hx
    obtain ⟨t, rfl⟩ := rx
    cases y with
    | int b =>
      cases hy
      obtain ⟨t', rfl⟩ := ry
      exact PyProof.Rows.lt_int ⟨.bl _, H, I, rfl, q⟩
    | bl b =>
      cases hy
      obtain rfl : u = Value.bool b := ry
      exact wp_lt_ib ⟨.bl _, H, I, rfl, q⟩
    | _ => cases hy
  | bl a =>
    cases hx
    obtain rfl : v = Value.bool a := rx
    cases y with
    | int b =>
      cases hy
      obtain ⟨t', rfl⟩ := ry
      exact wp_lt_bi ⟨.bl _, H, I, rfl, q⟩
    | bl b =>
      rcases hxy with ⟨_, z⟩ | ⟨_, z⟩ <;> cases z
    | _ => cases hy
  | _ => cases hx
def rLeM : R2 := fun x y H Q => ∃ i j, x = .int i ∧ numV y = some j ∧ Q (.bl (decide (i ≤ j))) H
theorem op_leM : OpR X (compareOp .LtE) rLeM := by
  intro pins s σ H x y v u Q I rx ry h
  obtain ⟨i, j, rfl, hy, q⟩ := h
  obtain ⟨t, rfl⟩ := rx
  cases y with
  | int b =>
    cases hy
    obtain ⟨t', rfl⟩ := ry
    exact PyProof.Rows.le_int ⟨.bl _, H, I, rfl, q⟩
  | bl b =>
    cases hy
    obtain rfl : u = Value.bool b := ry
    exact wp_le_ib ⟨.bl _, H, I, rfl, q⟩
  | _ => cases hy
/-- e.f op= value, a slotted instance -/
def sSlA (K : PySem.W.Frag) (ta tv : TE) (f : Str) (rd : V → V → Hp → VK → Prop) : TS := fun D σ H => ta σ H fun x H1 => ∃ a C dx p vs i v, x = .ref a ∧ SlX.Slt H1 a C dx vs ∧ SlX.SCls K C ∧ SlX.Slot1 K C f p i ∧ vs[i]? = some (some v) ∧
  tv σ H1 fun y H2 => rd v y H2 fun z H3 => ∃ vs', SlX.Slt H3 a C dx vs' ∧ D.nx σ (SlX.slH H3 a C dx (SlX.putS i z vs'))
theorem ps_slA {o value : Expr} {f : Str} {pos tpos : Pos} {ta tv : TE} {op : Operator} {rd : V → V → Hp → VK → Prop} (ha : PE X o ta) (hv : PE X value tv) (hop : InOp X op rd) : PS X (.AugAssign (.Attribute o f tpos) op value pos) (sSlA X.K ta tv f rd) := by
  refine ⟨fun pins s σ H D I h => ?_⟩
  refine wpAny_AugAssign_AttributeAny (thn (ha.run pins s σ H _ I h) fun ov s1 ⟨x, H1, I1, rx, a, C, dx, p, vs, i, v, ex, hsl, c, t, l, q⟩ => ?_)
  subst ex
  obtain rfl : ov = Value.ref a := rx
  refine SlX.getslot_ok I1 hsl c t l fun u s2 I2 ru => thn (hv.run pins s2 σ H1 _ I2 q) fun w3 s3 ⟨y, H2, I3, ry, q3⟩ => thn (hop pins s3 σ H2 v y u w3 _ I3 ru ry q3) fun w4 s4 ⟨z, H3, I4, rz, vs', hsl', q4⟩ => ?_
  exact SlX.setslot_ok I4 hsl' c t rz fun s5 I5 => ⟨σ, _, I5, q4⟩
end
end RN

set_option Elab.async false
set_option maxRecDepth 100000
/-! written dicts: not in, D[x] -/
namespace N3
open PySem PySem.Spec PyProof.Rows L2 Hx N1
theorem op_notIn_kv {X : Cx} {d : Addr} {kvs : List (Str × V)} (D : KD X.K X.w d kvs) : OpR X (compareOp .NotIn) (fun x y H Q => ∃ z : Str, x = .str z ∧ y = .ref d ∧ Q (.bl (!(kvs.lookup z).isSome)) H) := by
  intro pins s σ H x y v u Q I rx ry h
  obtain ⟨z, rfl, rfl, q⟩ := h
  obtain ⟨t, rfl⟩ := rx
  cases ry
  obtain ⟨es, n, hl, hk, he⟩ := D.ex
  refine wpAny_notIn_of (PySem.strKind_is X.prog X.w z t) D.low (PySem.W.mapOf_K (prog := X.prog) I.kIn hl hk) ?_
  rcases kd_find (K := X.K) (w := X.w) (d := d) he z with ⟨h1, h2⟩ | ⟨v, u, h1, h2, _⟩
  · rw [h2]
    rw [h1] at q
    exact ⟨.bl true, H, I.tok _, rfl, q⟩
  · rw [h2]
    rw [h1] at q
    exact ⟨.bl false, H, I.tok _, rfl, q⟩
section
variable {X : Cx} {d : Addr} {kvs : List (Str × V)} {o i : Expr} {pos : Pos} {td ty : TE}
def tKIx (d : Addr) (kvs : List (Str × V)) (td ty : TE) : TE := fun σ H Q => td σ H fun x H1 => x = .ref d ∧ ty σ H1 fun y H2 => ∃ (z : Str) (v : V), y = .str z ∧ kvs.lookup z = some v ∧ Q v H2
theorem pe_kix (D : KD X.K X.w d kvs) (ho : PE X o td) (hi : PE X i ty) (hs : NoSl i) : PE X (.Subscript o i pos) (tKIx d kvs td ty) := by
  refine ⟨fun pins s σ H Q I h => ?_⟩
  obtain ⟨es, n, hl, hk, hes⟩ := D.ex
  refine subD_of PySem.F.slot_dict_getitem.lookup hs (thn (ho.run pins s σ H _ I h) fun u s1 ⟨x, H1, I1, rx, ex, q1⟩ => thn (hi.run pins s1 σ H1 _ I1 q1) fun iv s2 ⟨y, H2, I2, ry, z, v, ez, l, q2⟩ => ?_)
  subst ex
  subst ez
  obtain rfl : u = Value.ref d := rx
  obtain ⟨t, rfl⟩ := ry
  have hm := PySem.W.mapOf_K (prog := X.prog) (w := X.w) I2.kIn hl hk
  refine ⟨hm.typeIs, ?_⟩
  rcases kd_find (K := X.K) (w := X.w) (d := d) hes z with ⟨h1, h2⟩ | ⟨v', u, h1, h2, h3⟩
  · rw [h1] at l
    cases l
  · rw [h1] at l
    cases l
    exact wpAny_getItem_of (PySem.strKind_is X.prog X.w z t) hm h2 ⟨v, H2, I2.tok _, h3, q2⟩
end
end N3
namespace RN
open PySem PySem.Spec PyProof.Rows L2
/-- x in t, t a tuple of data -/
def rInTup (K : PySem.W.Frag) : R2 := fun x y H Q => ∃ d ds, Dp K H x d ∧ Dp K H y (.tuple ds) ∧ SeqAt.shaped d = true ∧ SeqAt.shaped (.tuple ds) = true ∧ Q (.bl (ds.any fun z => PyData.eqv z d)) H
theorem op_inTup {X : Cx} (hu : X.A.units + 65 < cLine) : OpR X (compareOp .In) (rInTup X.K) := by
  intro pins s σ H x y v u Q I rx ry h
  obtain ⟨d, ds, hd, he, sd, se, q⟩ := h
  obtain ⟨as, r1⟩ := Dp.reads I d x v hd rx
  obtain ⟨bs, r2⟩ := Dp.reads I (.tuple ds) y u he ry
  refine SeqAt.in_tuple_reads r2 r1 (SeqAt.canLay_of_shaped se) (SeqAt.canLay_of_shaped sd) (room_in_shaped sd hu) ⟨.bl _, H, I, rfl, q⟩
end RN

set_option Elab.async false
set_option maxRecDepth 100000
/-! xs[:0:-1] -/
namespace RN
open PySem PySem.Spec PyProof.Rows L2
theorem fm_congr {α β : Type} {f g : α → Option β} : ∀ {l : List α}, (∀ x ∈ l, f x = g x) → l.filterMap f = l.filterMap g
  | [], _ => rfl
  | a :: l, h => by
    rw [List.filterMap_cons, List.filterMap_cons, h a (List.mem_cons_self ..), fm_congr fun x hx => h x (List.mem_cons_of_mem _ hx)]
theorem pick0 {items : Array Value} {a : Value} {r : List Value} (e : items.toList = a :: r) : slicePick items none (some 0) (some (-1)) = r.reverse.toArray := by
  have sz : items.size = r.length + 1 := by
    rw [← Array.length_toList, e]
    rfl
  unfold slicePick
  have hb : sliceBounds none (some 0) (some (-1)) items.size = ((items.size : Int) - 1, 0, -1) := by
    show ((items.size : Int) - 1, max (-1) (min (0 : Int) ((items.size : Int) - 1)), (-1 : Int)) = _
    rw [show max (-1) (min (0 : Int) ((items.size : Int) - 1)) = 0 by omega]
  rw [hb]
  show ((sliceRange ((items.size : Int) - 1) 0 (-1)).filterMap (items[·]?)).toArray = _
  have hr : sliceRange ((items.size : Int) - 1) 0 (-1) = (List.range r.length).map fun k => r.length - k := by
    rw [sz]
    unfold sliceRange
    have h1 : ¬ ((-1 : Int) > 0) := by decide
    by_cases h : (((r.length + 1 : Nat) : Int) - 1) > 0
    · have e : ((((r.length + 1 : Nat) : Int) - 1) - 0 - -1 - 1) / (- -1) = (r.length : Int) := by
        rw [show (- -1 : Int) = 1 by decide, Int.ediv_one]
        omega
      simp only [h1, if_false, h, if_true, e, Int.toNat_natCast]
      apply List.map_congr_left
      intro k hk
      have := List.mem_range.mp hk
      omega
    · have e : r.length = 0 := by omega
      rw [e]
      rfl
  rw [hr, List.filterMap_map]
  have h := PySem.W.krv_all r.reverse.toArray
  rw [List.size_toArray, List.length_reverse] at h
  have h2 : r.reverse.toArray.toList = r.reverse := List.toList_toArray
  rw [h2] at h
  refine congrArg List.toArray (Eq.trans ?_ h)
  refine fm_congr fun k hk => ?_
  have hk := List.mem_range.mp hk
  show items[r.length - k]? = r.reverse.toArray[k]?
  rw [← Array.getElem?_toList, e, List.getElem?_toArray, List.getElem?_reverse hk]
  have e2 : r.length - k = (r.length - 1 - k) + 1 := by omega
  rw [e2, List.getElem?_cons_succ]
section
variable {X : Cx}
def tRev0 (K : PySem.W.Frag) (te : TE) : TE := fun σ H Q => te σ H fun x H1 => ∃ a y xs, x = .ref a ∧ SqL K H1 a (y :: xs) ∧ ∀ p, H1 p = none → Q (.ref p) (upd H1 p (.lst xs.reverse))
theorem pe_rev0 {e : Expr} {te : TE} {k k0 : Nat} {p0 p1 p2 p3 pos : Pos} (he : PE X e te) : PE X (.Subscript e (.Slice none (some (.Constant (.int 0) k0 p0)) (some (.UnaryOp .USub (.Constant (.int 1) k p1) p2)) p3) pos) (tRev0 X.K te) := by
  refine ⟨fun pins s σ H Q I h => ?_⟩
  refine Subscript_ (thn (he.run pins s σ H _ I h) fun v s1 ⟨x, H1, I1, r1, q1⟩ => ?_)
  obtain ⟨a, y, xs, ex, hx, q⟩ := q1
  subst ex
  cases r1
  have hst : PO X (some (.UnaryOp .USub (.Constant (.int 1) k p1) p2)) (tPart (tUn (rU fun i => .int (-i)) (tC (.int 1)))) := po_some (pe_un un_neg pe_int)
  have hlo : PO X (some (.Constant (.int 0) k0 p0)) (tPart (tC (.int 0))) := po_some pe_int
  refine wpAny_Slice (thn (po_none.run pins s1 σ H1 (fun o H2 => o = none ∧ H2 = H1) I1 ⟨rfl, rfl⟩) fun vl s2 ⟨l, H2, I2, pl, el, e2⟩ => ?_)
  subst el e2
  refine thn (hlo.run pins s2 σ H2 (fun o H3 => o = some 0 ∧ H3 = H2) I2 ⟨0, rfl, rfl, rfl⟩) fun vu s3 ⟨u, H3, I3, pu, eu, e3⟩ => ?_
  subst eu e3
  refine thn (hst.run pins s3 σ H3 (fun o H4 => o = some (-1) ∧ H4 = H3) I3 ⟨1, rfl, -1, rfl, rfl, rfl⟩) fun vs s4 ⟨o, H4, I4, ps, eo, e4⟩ => ?_
  subst eo e4
  have I5 : Inv X pins σ H4 { s4 with heap := s4.heap.push { cls := .type "slice", data := .fields #[vl, vu, vs] } } := I4.kept (t' := s4.toks) fun b ob q => Heap.get?_push_of_some _ q
  obtain ⟨its, r, ht, hz⟩ := I5.list hx
  have hlen := r.length
  show wpAny (model X.prog X.w) X.A (subscriptTail e (.Slice none (some (.Constant (.int 0) k0 p0)) (some (.UnaryOp .USub (.Constant (.int 1) k p1) p2)) p3) (.ref a) (.ref s4.heap.objs.size)) (EP X pins σ Q) X.xe { s4 with heap := s4.heap.push { cls := .type "slice", data := .fields #[vl, vu, vs] } }
  refine tail_any (ops := [.ref a, .ref s4.heap.objs.size]) ht.isList.typeIs (PySem.slot_list_getitem.lookup) ?_ (by with_unfolding_all rfl)
  cases r with
  | @cons _ w0 _ ws rw0 rws =>
    refine wpAny_getItem_list_slice ht.isList (Heap.IsSliceOf.new _ vl vu vs) pl pu ps (by decide) ?_ (by rw [List.size_toArray]; omega)
    rw [pick0 (a := w0) (r := ws) (by simp)]
    refine ⟨.ref _, _, I5.laid (t' := s4.toks) (o := .lst xs.reverse) (fun b ob q => Heap.get?_push_of_some _ q) (Nat.le_refl _) ?_, rfl, q _ (I5.hok.fresh (Nat.le_refl _))⟩
    exact ⟨by rw [List.length_reverse]; exact Nat.le_trans (Nat.le_succ _) hz, _, 0, Vals.reverse rws, Heap.get?_push_size _ rfl⟩
end
end RN

set_option Elab.async false
set_option linter.all false
set_option maxRecDepth 100000
set_option maxHeartbeats 4000000
/-! a tuple times 1, or more -/
namespace RN
open PySem PySem.Spec PyProof.Rows L2
theorem tuple_mul1 (l : Addr) (items : Array Value) (n : Nat) (dd : Option Addr) (sl : Array (Option Value)) (u : Tok) (c1 : items.isEmpty = false) :
    Meets (Builtin.«tuple.__mul__» ⟨[.ref l, .int 1 u], []⟩) (fun _ R s => s.heap.get? l = some { cls := .type "tuple", dict := dd, data := .seq items n, slots := sl } ∧ R (.ok (.ret (Value.ref l))) s) :=
  .of_wp fun prog w A R s h => by
    obtain ⟨hp, g, d, tk, os⟩ := s
    obtain ⟨hl, h⟩ := h
    have f1 := AutoSeq1.idx_int
    wp_walk using wpAny_loadPart' hl
    repeat (first
      | (refine wpAny_ite_true (by rw [c1]; rfl) ?_; wp_walk using wpAny_loadPart' hl)
      | (refine wpAny_ite_true (decide_eq_true (by rw [c1]; rfl)) ?_; wp_walk using wpAny_loadPart' hl))
    all_goals first | exact ⟨_, rfl, h⟩ | skip
def rRepX (K : PySem.W.Frag) : R2 := fun x y H Q => (∃ l xs, x = .ref l ∧ y = .int 1 ∧ SqT K H l xs ∧ xs ≠ [] ∧ Q (.ref l) H) ∨ rRepT K x y H Q
section
variable {X : Cx}
theorem op_repX : OpR X (binaryOp .Mult) (rRepX X.K) := by
  intro pins s σ H x y v u Q I rx ry h
  rcases h with ⟨l, xs, rfl, rfl, hT, hne, q⟩ | h
  · cases rx
    obtain ⟨t, rfl⟩ := ry
    obtain ⟨its, r, ⟨⟨cls, dd, data, sl⟩, ho, hc, n, hd⟩, hs⟩ := I.tuple hT
    simp only at hc hd
    subst hc hd
    have hle : its.length = xs.length := r.length.symm
    have hn : its ≠ [] := fun e => hne (by
      rw [e] at hle
      exact List.eq_nil_of_length_eq_zero hle.symm)
    have hi : its.toArray.isEmpty = false := by
      cases its with
      | nil => exact absurd rfl hn
      | cons a b => rfl
    refine wpAny_binaryOp_repeat_ref (T := "tuple") (U := "int") (by decide) ⟨_, ho, rfl⟩ (fun s' => typeIs_int s' 1 t) noFill_tuple_mul F.fills_int_mul F.slot_int_rmul repeat_tuple F.slot_int_index.lookup
      (call_meets F.slot_int_rmul (typeIs_int s 1 t) F.entry_int_rmul (F.args_int_rmul_2 _ _) (int_rmul_tuple 1 t l its.toArray n dd sl)
        ⟨ho, rfl, ⟨_, ho, rfl⟩, call_meets F.slot_tuple_mul ⟨_, ho, rfl⟩ F.entry_tuple_mul (F.args_tuple_mul_2 _ _) (tuple_mul1 l its.toArray n dd sl t hi) ⟨ho, ?_⟩⟩)
    exact ⟨.ref l, H, I, rfl, q⟩
  · exact op_repT pins s σ H x y v u Q I rx ry h
end
end RN

set_option Elab.async false
set_option maxRecDepth 100000
/-! a list beside the empty list: whatever it holds -/
namespace RN
open PySem PySem.Spec PyProof.Rows L2
section
variable {X : Cx}
def rEqE (K : PySem.W.Frag) : R2 := fun x y H Q => ∃ a b xs, x = .ref a ∧ y = .ref b ∧ SqL K H a xs ∧ SqL K H b [] ∧ Q (.bl xs.isEmpty) H
def rNeE (K : PySem.W.Frag) : R2 := fun x y H Q => ∃ a b xs, x = .ref a ∧ y = .ref b ∧ SqL K H a xs ∧ SqL K H b [] ∧ Q (.bl (!xs.isEmpty)) H
theorem isl {h : Heap} {a : Addr} {its : Array Value} (x : PlainL h a its) : h.IsList a its := by
  obtain ⟨o, n, e, c, _, d⟩ := x
  exact ⟨o, e, c, n, d⟩
theorem op_eqE (hu : X.A.units < cLine) : OpR X (compareOp .Eq) (rEqE X.K) := by
  intro pins s σ H x y v u Q I rx ry h
  obtain ⟨a, b, xs, rfl, rfl, hx, hy, q⟩ := h
  cases rx
  cases ry
  obtain ⟨is, r1, p1, _⟩ := I.list hx
  obtain ⟨js, r2, p2, _⟩ := I.list hy
  cases r2
  have l1 := r1.length
  cases xs with
  | nil =>
    cases r1
    exact SeqAt.eq_listAt (e := fun _ => true) (isl p1) (isl p2) rfl hu (fun j h1 _ => absurd h1 (Nat.not_lt_zero _)) ⟨.bl true, H, I, rfl, q⟩
  | cons x xs =>
    cases r1 with
    | cons r1 r2 => exact SeqAt.eq_list_lengthsAt (isl p1) (isl p2) rfl hu ⟨.bl false, H, I, rfl, q⟩
theorem op_neE (hu : X.A.units < cLine) : OpR X (compareOp .NotEq) (rNeE X.K) := by
  intro pins s σ H x y v u Q I rx ry h
  obtain ⟨a, b, xs, rfl, rfl, hx, hy, q⟩ := h
  cases rx
  cases ry
  obtain ⟨is, r1, p1, _⟩ := I.list hx
  obtain ⟨js, r2, p2, _⟩ := I.list hy
  cases r2
  have l1 := r1.length
  cases xs with
  | nil =>
    cases r1
    exact SeqAt.RcNeAt.lists (e := fun _ => true) (isl p1) (isl p2) rfl hu (fun j h1 _ => absurd h1 (Nat.not_lt_zero _)) _ _ _ _ ⟨.bl false, H, I, rfl, q⟩
  | cons x xs =>
    cases r1 with
    | cons r1 r2 => exact SeqAt.RcNeAt.lists_lengths (isl p1) (isl p2) rfl hu _ _ _ _ ⟨.bl true, H, I, rfl, q⟩
end
end RN

set_option Elab.async false
set_option maxRecDepth 100000
/-! numbers, places, names -/
namespace J45
open PySem PySem.Spec PyProof.Rows L2 Hx Xr RN
def top (i : Nat) : Stmt := PySem.Challenge.pw_slumberway_k45_programs_by_their_own_for.main.body.getD i (.Pass ⟨0, 0, 0, 0⟩)
abbrev sNum : Stmt := top 6
abbrev sPlain : Stmt := top 8
abbrev sNameF : Stmt := top 9
abbrev sPlace : Stmt := top 10
/-! ### is not True, is not False -/
def unlike (x : V) (b : Bool) : Bool := match x with
  | .bl a => !decide (a = b)
  | _ => true
theorem op_isnot_flag {X : Cx} : OpR X (compareOp .IsNot) (fun x y H Q => ∃ b, y = .bl b ∧ ((∃ i, x = .int i) ∨ (∃ a, x = .bl a)) ∧ Q (.bl (unlike x b)) H) := by
  intro pins s σ H x y v u Q I rx ry h
  obtain ⟨b, rfl, hx, q⟩ := h
  obtain rfl : u = Value.bool b := ry
  rcases hx with ⟨i, rfl⟩ | ⟨a, rfl⟩
  · obtain ⟨t, rfl⟩ := rx
    exact wpAny_isNot_other rfl (fun z => nomatch z) ⟨.bl true, H, I, rfl, q⟩
  · obtain rfl : v = Value.bool a := rx
    by_cases e : a = b
    · subst e
      exact wpAny_isNot_self rfl ⟨.bl false, H, I, rfl, by simpa [unlike] using q⟩
    · exact wpAny_isNot_other rfl (fun z => e (Value.bool.inj z)) ⟨.bl true, H, I, rfl, by simpa [unlike, e] using q⟩
def big : Int := 1000000000000000000000000000000000000000000000000000000000000
/-- a number of the document's kind, below n -/
def numB (n : Int) : V → Bool
  | .int i => decide (0 ≤ i) && decide (i < n)
  | _ => false
def NumV (v : V) : Prop := (∃ i, v = .int i) ∨ ∃ b, v = .bl b
structure TxtF (mg : Str → Option Value) : Prop where
  isi : mg "isinstance" = none
  int : mg "int" = none
  str : mg "str" = none
  len : mg "len" = none
  great : ∃ t, mg "TOO_GREAT" = some (.int big t)
  signs : ∃ t, mg "MOST_SIGNS" = some (.int 100 t)
section
variable {P : Program} {w : World} {K : PySem.W.Frag} {mg : Str → Option Value} {base : Heap}
def spNum : Sp := fun vs H Q _ => ∃ v, vs = [v] ∧ NumV v ∧ Q (.bl (numB big v)) H
theorem scNum : FnScope ["thing"] ["thing"] (defScope sNum) := ⟨rfl, rfl, rfl, by decide +kernel, rfl, by decide +kernel, by decide +kernel⟩
theorem ok_num {f : Addr} {fd : FuncData} (F : Fun K "is_number" "is_number" sNum f fd) (T : TxtF mg) : FnOk P w K mg base CX0 1 f fd ["thing"] spNum := by
  refine F.ok scNum (fun vs H Q E h => ?_) (fun cdv A outer s H vs Q E hr h => ?_)
  · obtain ⟨v, rfl, _⟩ := h
    rfl
  · obtain ⟨v, rfl, hv, q⟩ := h
    obtain ⟨tg, mG⟩ := T.great
    refine ⟨_, (pss_one (ps_ret (pe_and (pe_callB call_isi (by rfl) T.isi (by decide +kernel) (pa_cons (pv 0) (pa_cons (pe_bltn (v := .ty "int") (by rfl) T.int (by decide +kernel) rfl) pa_nil)))
      (pe_and (pe_chain op_leM op_ltM pe_int (pv 0) (pe_glob (v := .int big) (by rfl) mG ⟨_, rfl⟩))
      (pe_and (pe_cmpR op_isnot_flag (pv 0) pe_bl (nomark _)) (pe_one (pe_cmpR op_isnot_flag (pv 0) pe_bl (nomark _)))))))), ?_⟩
    rcases hv with ⟨i, rfl⟩ | ⟨b, rfl⟩
    · refine ⟨_, rfl, .int i, .ty "int", .type "int", .type "int", true, rfl, .ty _, .base (.int _), kit_ty (a := "int") (b := "int") (r := true) (by decide +kernel), true, rfl, iteT ?_⟩
      have e : numB big (.int i) = (decide (0 ≤ i) && decide (i < big)) := rfl
      rw [e] at q
      refine ⟨_, rfl, 0, i, rfl, rfl, _, rfl, ?_⟩
      by_cases c : 0 ≤ i
      · rw [decide_eq_true c, Bool.true_and] at q
        rw [decide_eq_true c]
        refine iteT ⟨i, big, rfl, rfl, .inl ⟨_, rfl⟩, _, rfl, ?_⟩
        by_cases c2 : i < big
        · rw [decide_eq_true c2] at q ⊢
          exact iteT ⟨_, rfl, true, rfl, .inl ⟨i, rfl⟩, _, rfl, iteT ⟨_, rfl, false, rfl, .inl ⟨i, rfl⟩, q⟩⟩
        · rw [decide_eq_false c2] at q ⊢
          exact iteF q
      · rw [decide_eq_false c, Bool.false_and] at q
        rw [decide_eq_false c]
        exact iteF ⟨_, rfl, iteF q⟩
    · refine ⟨_, rfl, .bl b, .ty "int", .type "bool", .type "int", true, rfl, .ty _, .base (.bl _), kit_ty (a := "bool") (b := "int") (r := true) (by decide +kernel), true, rfl, iteT ?_⟩
      have q' : Q (.bl false) H := q
      cases b with
      | true =>
        refine ⟨_, rfl, 0, 1, rfl, rfl, true, rfl, iteT ⟨1, big, rfl, rfl, .inr ⟨_, rfl⟩, true, rfl, iteT ?_⟩⟩
        exact ⟨_, rfl, true, rfl, .inr ⟨true, rfl⟩, _, rfl, iteF q'⟩
      | false =>
        refine ⟨_, rfl, 0, 0, rfl, rfl, true, rfl, iteT ⟨0, big, rfl, rfl, .inr ⟨_, rfl⟩, true, rfl, iteT ?_⟩⟩
        exact ⟨_, rfl, true, rfl, .inr ⟨false, rfl⟩, _, rfl, iteT ⟨_, rfl, false, rfl, .inr ⟨false, rfl⟩, q'⟩⟩
def spPlace : Sp := fun vs H Q _ => ∃ (i n : Int), vs = [.int i, .int n] ∧ Q (.bl (numB n (.int i))) H
theorem scPlace : FnScope ["thing", "places"] ["thing", "places"] (defScope sPlace) := ⟨rfl, rfl, rfl, by decide +kernel, rfl, by decide +kernel, by decide +kernel⟩
theorem ok_place {f : Addr} {fd : FuncData} (F : Fun K "is_place_number" "is_place_number" sPlace f fd) (T : TxtF mg) : FnOk P w K mg base CX0 1 f fd ["thing", "places"] spPlace := by
  refine F.ok scPlace (fun vs H Q E h => ?_) (fun cdv A outer s H vs Q E hr h => ?_)
  · obtain ⟨i, n, rfl, _⟩ := h
    rfl
  · obtain ⟨i, n, rfl, q⟩ := h
    refine ⟨_, (pss_one (ps_ret (pe_and (pe_callB call_isi (by rfl) T.isi (by decide +kernel) (pa_cons (pv 0) (pa_cons (pe_bltn (v := .ty "int") (by rfl) T.int (by decide +kernel) rfl) pa_nil)))
      (pe_and (pe_chain op_le op_lt pe_int (pv 0) (pv 1))
      (pe_and (pe_cmpR op_isnot_flag (pv 0) pe_bl (nomark _)) (pe_one (pe_cmpR op_isnot_flag (pv 0) pe_bl (nomark _)))))))), ?_⟩
    refine ⟨_, rfl, .int i, .ty "int", .type "int", .type "int", true, rfl, .ty _, .base (.int _), kit_ty (a := "int") (b := "int") (r := true) (by decide +kernel), true, rfl, iteT ?_⟩
    have e : numB n (.int i) = (decide (0 ≤ i) && decide (i < n)) := rfl
    rw [e] at q
    refine ⟨_, rfl, _, _, rfl, rfl, _, rfl, ?_⟩
    by_cases c : 0 ≤ i
    · rw [decide_eq_true c, Bool.true_and] at q
      rw [decide_eq_true c]
      refine iteT ⟨_, rfl, _, _, rfl, rfl, _, rfl, ?_⟩
      by_cases c2 : i < n
      · rw [decide_eq_true c2] at q ⊢
        exact iteT ⟨_, rfl, true, rfl, .inl ⟨i, rfl⟩, _, rfl, iteT ⟨_, rfl, false, rfl, .inl ⟨i, rfl⟩, q⟩⟩
      · rw [decide_eq_false c2] at q ⊢
        exact iteF q
    · rw [decide_eq_false c, Bool.false_and] at q
      rw [decide_eq_false c]
      exact iteF ⟨_, rfl, iteF q⟩
/-! ### names -/
def dotZ : Str := "."
def stemB (z : Str) : Bool := Txt.isalnum (Txt.partition z dotZ).1 && (Txt.isdecimal (Txt.partition z dotZ).2.2 && (!decide (((Txt.partition z dotZ).2.2.cps.toList.headD 0) = 48) && decide ((Txt.partition z dotZ).1.length ≤ 100)))
def nameB (z : Str) : Bool := Txt.islower z && (Txt.isascii z && (!decide ([z.cps.toList.headD 0] < [97]) && if Txt.isalnum z = true then decide (z.length ≤ 100) else stemB z))
def plainB (z : Str) : Bool := nameB z && !decide (46 ∈ z.cps.toList)
theorem lower_ne {z : Str} (h : Txt.islower z = true) : ∃ c r, z.cps.toList = c :: r := by
  unfold Txt.islower at h
  rw [Bool.and_eq_true] at h
  cases e : z.cps.toList with
  | nil =>
    have : z.cps = #[] := Array.toList_eq_nil_iff.mp e
    rw [this] at h
    simp at h
  | cons c r => exact ⟨c, r, rfl⟩
theorem deci_ne {z : Str} (h : Txt.isdecimal z = true) : ∃ c r, z.cps.toList = c :: r := by
  unfold Txt.isdecimal at h
  rw [Bool.and_eq_true] at h
  cases e : z.cps.toList with
  | nil =>
    have : z.cps = #[] := Array.toList_eq_nil_iff.mp e
    have h1 := of_decide_eq_true h.1
    unfold Str.length at h1
    rw [this] at h1
    simp at h1
  | cons c r => exact ⟨c, r, rfl⟩
def spName : Sp := fun vs H Q _ => ∃ z : Str, vs = [.str z] ∧ z.length ≤ 1000 ∧ (∀ H', Same H H' → Q (.bl (nameB z)) H')
theorem scName : FnScope ["thing", "stem", "_", "number"] ["thing"] (defScope sNameF) := ⟨rfl, rfl, rfl, by decide +kernel, rfl, by decide +kernel, by decide +kernel⟩
theorem part_le (z : Str) : (Txt.partition z dotZ).1.length ≤ z.length ∧ (Txt.partition z dotZ).2.2.length ≤ z.length := by
  have h := PyProof.Rows.fact_partition z dotZ
  exact ⟨h.1, h.2.2⟩
theorem ok_name {f : Addr} {fd : FuncData} (F : Fun K "is_name" "is_name" sNameF f fd) (T : TxtF mg) : FnOk P w K mg base CX0 1 f fd ["thing"] spName := by
  refine F.ok scName (fun vs H Q E h => ?_) (fun cdv A outer s H vs Q E hr h => ?_)
  · obtain ⟨z, rfl, _⟩ := h
    rfl
  · obtain ⟨z, rfl, hz, q⟩ := h
    obtain ⟨ts, mS⟩ := T.signs
    have q0 := q H (Same.refl H)
    have zz : sizeLine = 16777216 := sizeLine_eq
    refine ⟨_, (pss_cons (ps_if (PW.pt (pw_or (pt_not (pt_val (pe_callB call_isi (by rfl) T.isi (by decide +kernel) (pa_cons (pv 0) (pa_cons (pe_bltn (v := .ty "str") (by rfl) T.str (by decide +kernel) rfl) pa_nil)))))
        (pw_or (pt_not (pt_val (pe_m0 PySem.F.slot_str_islower PySem.F.type_str_islower mt_islower (pv 0))))
        (pw_or (pt_not (pt_val (pe_m0 PySem.F.slot_str_isascii PySem.F.type_str_isascii mt_isascii (pv 0))))
        (pw_or1 (pt_cmpR op_lt_str (pe_ix ix_str (pv 0) pe_int (fun _ _ => rfl)) pe_str (nomark _))))))) (pss_one (ps_ret pe_bl)) pss_nil)
      (pss_cons (ps_if (pt_val (pe_m0 PySem.F.slot_str_isalnum PySem.F.type_str_isalnum mt_isalnum (pv 0))) (pss_one (ps_ret (pe_cmpR op_le (pe_callB call_len_str (by rfl) T.len PySem.boot_len (pa_cons (pv 0) pa_nil)) (pe_glob (v := .int 100) (by rfl) mS ⟨_, rfl⟩) (nomark _)))) pss_nil)
      (pss_cons (ps_asg (pe_m1 PySem.F.slot_str_partition PySem.F.type_str_partition mt_partition (pv 0) pe_str) (pg_tup rfl (pgs_cons (pg_name (i := 1) scName.nd rfl (.inl rfl)) (pgs_cons (pg_name (i := 2) scName.nd rfl (.inl rfl)) (pgs_cons (pg_name (i := 3) scName.nd rfl (.inl rfl)) pgs_nil)))))
      (pss_one (ps_ret (pe_and (pe_m0 PySem.F.slot_str_isalnum PySem.F.type_str_isalnum mt_isalnum (pv 1)) (pe_and (pe_m0 PySem.F.slot_str_isdecimal PySem.F.type_str_isdecimal mt_isdecimal (pv 3))
        (pe_and (pe_cmpR op_ne (pe_ix ix_str (pv 3) pe_int (fun _ _ => rfl)) pe_str (nomark _)) (pe_one (pe_cmpR op_le (pe_callB call_len_str (by rfl) T.len PySem.boot_len (pa_cons (pv 1) pa_nil)) (pe_glob (v := .int 100) (by rfl) mS ⟨_, rfl⟩) (nomark _))))))))))), ?_⟩
    refine ⟨_, rfl, .str z, .ty "str", .type "str", .type "str", true, rfl, .ty _, .base (.str _), kit_ty (a := "str") (b := "str") (r := true) (by decide +kernel), true, rfl, iteF ?_⟩
    refine ⟨_, rfl, ⟨z, rfl⟩, z, rfl, rfl, trivial, Txt.islower z, rfl, ?_⟩
    cases h1 : Txt.islower z with
    | false =>
      have e : nameB z = false := by unfold nameB; rw [h1, Bool.false_and]
      rw [e] at q0
      exact iteT (iteT q0)
    | true =>
      refine iteF ⟨_, rfl, ⟨z, rfl⟩, z, rfl, rfl, trivial, Txt.isascii z, rfl, ?_⟩
      cases h2 : Txt.isascii z with
      | false =>
        have e : nameB z = false := by unfold nameB; rw [h1, h2, Bool.false_and, Bool.and_false]
        rw [e] at q0
        exact iteT (iteT q0)
      | true =>
        obtain ⟨c, r, hc⟩ := lower_ne h1
        refine iteF ⟨_, rfl, z, 0, c, rfl, rfl, by omega, by rw [hc]; exact atI_nat (j := 0) rfl, ⟨#[c]⟩, ("a" : Str), rfl, rfl, decide ([c] < [97]), rfl, ?_⟩
        have eh : z.cps.toList.headD 0 = c := by rw [hc]; rfl
        have e0 : nameB z = (!decide ([c] < [97]) && if Txt.isalnum z = true then decide (z.length ≤ 100) else stemB z) := by
          unfold nameB
          rw [h1, h2, eh, Bool.true_and, Bool.true_and]
        cases h3 : decide ([c] < [97]) with
        | true =>
          rw [e0, h3] at q0
          exact iteT q0
        | false =>
          rw [h3, Bool.not_false, Bool.true_and] at e0
          refine iteF ⟨_, rfl, ⟨z, rfl⟩, z, rfl, rfl, trivial, Txt.isalnum z, rfl, ?_⟩
          cases h4 : Txt.isalnum z with
          | true =>
            rw [h4, if_pos rfl] at e0
            rw [e0] at q0
            refine iteT ⟨_, rfl, z, rfl, by omega, _, _, rfl, rfl, ?_⟩
            rw [show decide (z.length ≤ 100) = decide ((z.length : Int) ≤ 100) by rw [Bool.eq_iff_iff, decide_eq_true_eq, decide_eq_true_eq]; omega] at q0
            exact q0
          | false =>
            rw [h4, if_neg Bool.false_ne_true] at e0
            obtain ⟨l1, l2⟩ := part_le z
            refine iteF ⟨_, rfl, ⟨z, rfl⟩, z, dotZ, rfl, rfl, by decide +kernel, by omega, fun p np => ?_⟩
            have q1 := q _ (Same.new (o := .tup [.str (Txt.partition z dotZ).1, .str (Txt.partition z dotZ).2.1, .str (Txt.partition z dotZ).2.2]) np)
            rw [e0] at q1
            unfold stemB at q1
            refine ⟨p, _, rfl, SqT.of upd_same, rfl, _, _, rfl, _, _, rfl, _, _, rfl, rfl, ?_⟩
            refine ⟨_, rfl, ⟨_, rfl⟩, _, rfl, rfl, trivial, _, rfl, ?_⟩
            cases h5 : Txt.isalnum (Txt.partition z dotZ).1 with
            | false =>
              rw [h5, Bool.false_and] at q1
              exact iteF q1
            | true =>
              rw [h5, Bool.true_and] at q1
              refine iteT ⟨_, rfl, ⟨_, rfl⟩, _, rfl, rfl, trivial, _, rfl, ?_⟩
              cases h6 : Txt.isdecimal (Txt.partition z dotZ).2.2 with
              | false =>
                rw [h6, Bool.false_and] at q1
                exact iteF q1
              | true =>
                rw [h6, Bool.true_and] at q1
                obtain ⟨c2, r2, hc2⟩ := deci_ne h6
                refine iteT ⟨_, rfl, _, 0, c2, rfl, rfl, by omega, by rw [hc2]; exact atI_nat (j := 0) rfl, rfl, _, rfl, ?_⟩
                have e8 : (!decide (V.str ⟨#[c2]⟩ = V.str ("0" : Str))) = !decide (((Txt.partition z dotZ).2.2.cps.toList.headD 0) = 48) := by
                  rw [hc2]
                  congr 1
                  rw [Bool.eq_iff_iff, decide_eq_true_eq, decide_eq_true_eq]
                  have e9 : ("0" : Str) = ⟨#[48]⟩ := by decide +kernel
                  rw [e9]
                  constructor
                  · intro h
                    injection h with h
                    injection h with h
                    injection h with h
                    injection h
                  · intro h
                    have h' : c2 = 48 := h
                    rw [h']
                show (if (!decide (V.str ⟨#[c2]⟩ = V.str ("0" : Str))) = true then _ else _)
                rw [e8]
                cases h7 : (!decide (((Txt.partition z dotZ).2.2.cps.toList.headD 0) = 48)) with
                | false =>
                  rw [h7, Bool.false_and] at q1
                  exact iteF q1
                | true =>
                  rw [h7, Bool.true_and] at q1
                  refine iteT ⟨_, rfl, _, rfl, by omega, _, _, rfl, rfl, ?_⟩
                  rw [show decide ((Txt.partition z dotZ).1.length ≤ 100) = decide (((Txt.partition z dotZ).1.length : Int) ≤ 100) by rw [Bool.eq_iff_iff, decide_eq_true_eq, decide_eq_true_eq]; omega] at q1
                  exact q1
theorem scPlain : FnScope ["thing"] ["thing"] (defScope sPlain) := ⟨rfl, rfl, rfl, by decide +kernel, rfl, by decide +kernel, by decide +kernel⟩
def spPlain : Sp := fun vs H Q _ => ∃ z : Str, vs = [.str z] ∧ z.length ≤ 1000 ∧ (∀ H', Same H H' → Q (.bl (plainB z)) H')
theorem ok_plain {f fN : Addr} {fd fdN : FuncData} (F : Fun K "is_plain_name" "is_plain_name" sPlain f fd)
    (GN : FnOk P w K mg base CX0 1 fN fdN ["thing"] spName) (kN : PySem.W.keepIn K (.ref fN) = true) (bN : Binds K fdN ["thing"] []) (gN : mg "is_name" = some (.ref fN)) : FnOk P w K mg base CX0 2 f fd ["thing"] spPlain := by
  refine F.ok scPlain (fun vs H Q E h => ?_) (fun cdv A outer s H vs Q E hr h => ?_)
  · obtain ⟨z, rfl, _⟩ := h
    rfl
  · obtain ⟨z, rfl, hz, q⟩ := h
    refine ⟨_, (pss_one (ps_ret (pe_and (pe_call GN hr rfl gN kN bN .nil pass0 (pa_cons (pv 0) pa_nil)) (pe_one (pe_cmpR op_notIn_sign pe_str (pv 0) rfl))))), ?_⟩
    refine ⟨_, rfl, z, rfl, hz, fun H' s' => ⟨nameB z, rfl, ?_⟩⟩
    have q' := q H' s'
    unfold plainB at q'
    cases h : nameB z with
    | false =>
      rw [h, Bool.false_and] at q'
      exact iteF q'
    | true =>
      rw [h, Bool.true_and] at q'
      exact iteT ⟨_, rfl, 46, z, by decide +kernel, rfl, q'⟩
end
end J45

set_option Elab.async false
set_option maxRecDepth 100000
/-! what the judge goes by: names bound so far, parts that are right, the judge's object -/
namespace J45
open PySem PySem.Spec PyProof.Rows L2 Hx Xr RN
/-! ### names -/
abbrev Nm := List (Str × Bool)
def nmK (S : Nm) : List (Key × V) := S.map fun p => (.inr p.1, .bl p.2)
def putN (S : Nm) (x : Str) (b : Bool) : Nm := if (S.any fun p => decide (p.1 = x)) = true then S.map fun p => if p.1 = x then (p.1, b) else p else S ++ [(x, b)]
def getN (S : Nm) (x : Str) : Option Bool := (S.find? fun p => decide (p.1 = x)).map (·.2)
theorem inr_dec (a b : Str) : decide ((Sum.inr a : Key) = Sum.inr b) = decide (a = b) := by
  rw [Bool.eq_iff_iff, decide_eq_true_eq, decide_eq_true_eq]
  exact ⟨fun h => by injection h, fun h => by rw [h]⟩
theorem nmK_put (S : Nm) (x : Str) (b : Bool) : putK (nmK S) (.inr x) (.bl b) = nmK (putN S x b) := by
  unfold putK putN nmK
  rw [List.any_map]
  have e : ((fun kv : Key × V => decide (kv.1 = Sum.inr x)) ∘ fun p : Str × Bool => ((Sum.inr p.1 : Key), V.bl p.2)) = fun p : Str × Bool => decide (p.1 = x) := by
    funext p
    exact inr_dec p.1 x
  rw [e]
  by_cases c : (S.any fun p => decide (p.1 = x)) = true
  · rw [if_pos c, if_pos c, List.map_map, List.map_map]
    refine List.map_congr_left fun p _ => ?_
    show (if (Sum.inr p.1 : Key) = Sum.inr x then _ else _) = _
    by_cases d : p.1 = x
    · have h1 : (Sum.inr p.1 : Key) = Sum.inr x := by rw [d]
      have h2 : ((fun p : Str × Bool => ((Sum.inr p.1 : Key), V.bl p.2)) ∘ fun p : Str × Bool => if p.1 = x then (p.1, b) else p) p = (Sum.inr p.1, V.bl b) := by
        show ((Sum.inr (if p.1 = x then (p.1, b) else p).1 : Key), V.bl (if p.1 = x then (p.1, b) else p).2) = _
        rw [if_pos d]
      rw [if_pos h1, h2]
    · have h1 : ¬ (Sum.inr p.1 : Key) = Sum.inr x := fun z => d (by injection z)
      have h2 : ((fun p : Str × Bool => ((Sum.inr p.1 : Key), V.bl p.2)) ∘ fun p : Str × Bool => if p.1 = x then (p.1, b) else p) p = (Sum.inr p.1, V.bl p.2) := by
        show ((Sum.inr (if p.1 = x then (p.1, b) else p).1 : Key), V.bl (if p.1 = x then (p.1, b) else p).2) = _
        rw [if_neg d]
      rw [if_neg h1, h2]
  · rw [if_neg c, if_neg c, List.map_append]
    rfl
theorem nmK_get : ∀ (S : Nm) (x : Str), valV (nmK S) (.inr x) = (getN S x).map V.bl
  | [], x => rfl
  | p :: S, x => by
    have ih := nmK_get S x
    unfold valV getN nmK at ih ⊢
    rw [List.map_cons, List.find?_cons, List.find?_cons]
    dsimp only
    rw [inr_dec]
    cases decide (p.1 = x) with
    | true => rfl
    | false => exact ih
theorem getN_mem {S : Nm} {x : Str} : (getN S x).isSome = (S.any fun p => decide (p.1 = x)) := by
  unfold getN
  rw [Option.isSome_map]
  induction S with
  | nil => rfl
  | cons p S ih =>
    rw [List.find?_cons, List.any_cons]
    cases decide (p.1 = x) with
    | true => rfl
    | false => rw [Bool.false_or]; exact ih
theorem putN_len (S : Nm) (x : Str) (b : Bool) : (putN S x b).length ≤ S.length + 1 := by
  unfold putN
  split
  · rw [List.length_map]
    omega
  · rw [List.length_append]
    exact Nat.le_refl _
/-! ### parts -/
def inP (n p : Int) : Bool := decide (0 ≤ p) && decide (p < n)
def putAll (S : Nm) (xs : List Str) (b : Bool) : Nm := xs.foldl (fun S x => putN S x b) S
inductive AtomJ (n : Int) (S : Nm) : PyData → Prop
  | name {p : Int} {x : Str} : inP n p = true → getN S x = some true → AtomJ n S (.tuple [.str "name", .int p, .str x])
  | num {p i : Int} : inP n p = true → numB big (.int i) = true → AtomJ n S (.tuple [.str "num", .int p, .int i])
/-- names bound anew, one behind the other -/
inductive Bnd (b : Bool) : Nm → List Str → Nm → Prop
  | nil {S : Nm} : Bnd b S [] S
  | cons {S S' : Nm} {x : Str} {xs : List Str} : getN S x = none → nameB x = true → x.length ≤ 1000 → Bnd b (putN S x b) xs S' → Bnd b S (x :: xs) S'
/-- what an alternative is of: a maker of the data, or a number -/
def whatOk (D : Str → Nat → Bool) : Key → Nat → Bool
  | .inr x, k => D x k && PyData.strOk x
  | .inl i, k => numB big (.int i) && decide (k = 0)
abbrev Alt := Key × List Str × PyData
def whatD : Key → PyData
  | .inr x => .str x
  | .inl i => .int i
def altD (a : Alt) : PyData := .tuple [whatD a.1, .tuple (a.2.1.map PyData.str), a.2.2]
inductive AltOk (D : Str → Nat → Bool) : Nm → List Key → List Alt → Nm → Prop
  | nil {S : Nm} {seen : List Key} : AltOk D S seen [] S
  | cons {S S1 S2 : Nm} {seen : List Key} {w : Key} {ns : List Str} {e : PyData} {as : List Alt} : w ∉ seen → ns.length ≤ 60 → whatOk D w ns.length = true → Bnd false S ns S1 → AltOk D S1 (seen ++ [w]) as S2 → AltOk D S seen ((w, ns, e) :: as) S2
def otherD : Option PyData → PyData
  | none => .none
  | some e => e
def ways (as : List Alt) (o : Option PyData) : List (List Str × PyData) := as.map (·.2) ++ o.toList.map fun e => ([], e)
mutual
/-- judged right, with room for L parts within one another: the names ahead and behind, how many parts within -/
inductive Jd (n : Int) (D : Str → Nat → Bool) : Nat → Nm → PyData → Nm → Nat → Prop
  | atom {L : Nat} {S : Nm} {e : PyData} : AtomJ n S e → Jd n D L S e S 0
  | fault {L : Nat} {S : Nm} {p : Int} {x : Str} : inP n p = true → plainB x = true → x.length ≤ 1000 → Jd n D L S (.tuple [.str "fault", .int p, .str x]) S 0
  | con {L : Nat} {S : Nm} {p : Int} {m : Str} {as : List PyData} : inP n p = true → as.length ≤ 60 → (∀ a ∈ as, AtomJ n S a) → D m as.length = true → Jd n D L S (.tuple [.str "con", .int p, .str m, .tuple as]) S 0
  | call {L : Nat} {S : Nm} {p q : Int} {x : Str} {as : List PyData} : inP n p = true → as ≠ [] → as.length ≤ 60 → (∀ a ∈ as, AtomJ n S a) → inP n q = true → getN S x = some true →
      Jd n D (L + 1) S (.tuple [.str "call", .int p, .tuple [.str "name", .int q, .str x], .tuple as]) S 0
  | now {L : Nat} {S S' : Nm} {p q : Int} {x : Str} {e : PyData} {c : Nat} : inP n p = true → inP n q = true → nameB x = true → x.length ≤ 1000 → Jd n D L S e S' c → Jd n D (L + 1) S (.tuple [.str "now", .int p, .int q, .str x, e]) S' (c + 1)
  | deed {L : Nat} {S S1 S2 : Nm} {p : Int} {d : Str} {e1 e2 : PyData} {c1 c2 : Nat} : inP n p = true → d ∈ (["plus", "less", "times", "below", "same"] : List Str) → Jd n D L S e1 S1 c1 → Jd n D L S1 e2 S2 c2 → Jd n D (L + 1) S (.tuple [.str "deed", .int p, .str d, e1, e2]) S2 (c1 + c2 + 2)
  | early {L : Nat} {S S1 S2 : Nm} {p q : Int} {x : Str} {e1 e2 : PyData} {c1 c2 : Nat} : inP n p = true → inP n q = true → getN S x = none → nameB x = true → x.length ≤ 1000 → Jd n D L (putN S x false) e1 S1 c1 → Jd n D L (putN S1 x true) e2 S2 c2 →
      Jd n D (L + 1) S (.tuple [.str "early", .int p, .str x, e1, .int q, e2]) (putN S2 x false) (c1 + c2 + 2)
  | func {L : Nat} {S S1 S2 : Nm} {p : Int} {xs : List Str} {e : PyData} {c : Nat} : inP n p = true → xs ≠ [] → xs.length ≤ 60 → Bnd true S xs S1 → Jd n D L S1 e S2 c → Jd n D (L + 1) S (.tuple [.str "fun", .int p, .tuple (xs.map PyData.str), e]) (putAll S2 xs false) (c + 1)
  | lets {L : Nat} {S S1 S2 : Nm} {p : Int} {bs : List (Str × PyData)} {e : PyData} {c : Nat} : inP n p = true → bs ≠ [] → bs.length ≤ 60 → Bnd true S (bs.map (·.1)) S1 → JdL n D L S1 (bs.map (·.2) ++ [e]) S2 c →
      Jd n D (L + 1) S (.tuple [.str "let", .int p, .tuple (bs.map fun b => .tuple [.str b.1, b.2]), e]) (putAll S2 (bs.map (·.1)) false) (c + bs.length + 1)
  | case {L : Nat} {S S1 S2 S3 : Nm} {p : Int} {x : Str} {as : List Alt} {o : Option PyData} {e : PyData} {c0 c1 : Nat} : inP n p = true → getN S x = none → nameB x = true → x.length ≤ 1000 → as.length ≤ 60 → AltOk D (putN S x false) [] as S1 → Jd n D L S1 e S2 c0 →
      JdC n D L (putN S2 x true) (ways as o) S3 c1 → Jd n D (L + 1) S (.tuple [.str "case", .int p, e, .str x, .tuple (as.map altD), otherD o]) (putN S3 x false) (c0 + c1 + (1 + (ways as o).length))
inductive JdC (n : Int) (D : Str → Nat → Bool) : Nat → Nm → List (List Str × PyData) → Nm → Nat → Prop
  | nil {L : Nat} {S : Nm} : JdC n D L S [] S 0
  | cons {L : Nat} {S S1 S2 : Nm} {ns : List Str} {e : PyData} {es : List (List Str × PyData)} {c1 c2 : Nat} : Jd n D L (putAll S ns true) e S1 c1 → JdC n D L (putAll S1 ns false) es S2 c2 → JdC n D L S ((ns, e) :: es) S2 (c1 + c2)
inductive JdL (n : Int) (D : Str → Nat → Bool) : Nat → Nm → List PyData → Nm → Nat → Prop
  | nil {L : Nat} {S : Nm} : JdL n D L S [] S 0
  | cons {L : Nat} {S S1 S2 : Nm} {e : PyData} {es : List PyData} {c1 c2 : Nat} : Jd n D L S e S1 c1 → JdL n D L S1 es S2 c2 → JdL n D L S (e :: es) S2 (c1 + c2)
end
/-! ### names only grow -/
theorem putN_ge (S : Nm) (x : Str) (b : Bool) : S.length ≤ (putN S x b).length := by
  unfold putN
  split
  · rw [List.length_map]
    exact Nat.le_refl _
  · rw [List.length_append]
    exact Nat.le_add_right _ _
theorem putAll_ge : ∀ (xs : List Str) (S : Nm) (b : Bool), S.length ≤ (putAll S xs b).length
  | [], _, _ => Nat.le_refl _
  | x :: xs, S, b => Nat.le_trans (putN_ge S x b) (putAll_ge xs (putN S x b) b)
theorem Bnd.ge {b : Bool} {S S' : Nm} {xs : List Str} (h : Bnd b S xs S') : S.length ≤ S'.length := by
  induction h with
  | nil => exact Nat.le_refl _
  | cons _ _ _ _ ih => exact Nat.le_trans (putN_ge _ _ _) ih
theorem AltOk.ge {D : Str → Nat → Bool} {S S' : Nm} {seen : List Key} {as : List Alt} (h : AltOk D S seen as S') : S.length ≤ S'.length := by
  induction h with
  | nil => exact Nat.le_refl _
  | cons _ _ _ hb _ ih => exact Nat.le_trans hb.ge ih
mutual
theorem Jd.ge {n : Int} {D : Str → Nat → Bool} : ∀ {L : Nat} {S S' : Nm} {e : PyData} {c : Nat}, Jd n D L S e S' c → S.length ≤ S'.length
  | _, _, _, _, _, .atom _ => Nat.le_refl _
  | _, _, _, _, _, .fault _ _ _ => Nat.le_refl _
  | _, _, _, _, _, .con _ _ _ _ => Nat.le_refl _
  | _, _, _, _, _, .call _ _ _ _ _ _ => Nat.le_refl _
  | _, _, _, _, _, .now _ _ _ _ h1 => Jd.ge h1
  | _, _, _, _, _, .deed _ _ h1 h2 => Nat.le_trans (Jd.ge h1) (Jd.ge h2)
  | _, _, _, _, _, .early _ _ _ _ _ h1 h2 => Nat.le_trans (Nat.le_trans (putN_ge _ _ _) (Jd.ge h1)) (Nat.le_trans (Nat.le_trans (putN_ge _ _ _) (Jd.ge h2)) (putN_ge _ _ _))
  | _, _, _, _, _, .func _ _ _ hb h1 => Nat.le_trans hb.ge (Nat.le_trans (Jd.ge h1) (putAll_ge _ _ _))
  | _, _, _, _, _, .lets _ _ _ hb h1 => Nat.le_trans hb.ge (Nat.le_trans (JdL.ge h1) (putAll_ge _ _ _))
  | _, _, _, _, _, .case _ _ _ _ _ ha h0 h1 => Nat.le_trans (putN_ge _ _ _) (Nat.le_trans ha.ge (Nat.le_trans (Jd.ge h0) (Nat.le_trans (putN_ge _ _ _) (Nat.le_trans (JdC.ge h1) (putN_ge _ _ _)))))
theorem JdC.ge {n : Int} {D : Str → Nat → Bool} : ∀ {L : Nat} {S S' : Nm} {es : List (List Str × PyData)} {c : Nat}, JdC n D L S es S' c → S.length ≤ S'.length
  | _, _, _, _, _, .nil => Nat.le_refl _
  | _, _, _, _, _, .cons h1 h2 => Nat.le_trans (putAll_ge _ _ _) (Nat.le_trans (Jd.ge h1) (Nat.le_trans (putAll_ge _ _ _) (JdC.ge h2)))
theorem JdL.ge {n : Int} {D : Str → Nat → Bool} : ∀ {L : Nat} {S S' : Nm} {es : List PyData} {c : Nat}, JdL n D L S es S' c → S.length ≤ S'.length
  | _, _, _, _, _, .nil => Nat.le_refl _
  | _, _, _, _, _, .cons h1 h2 => Nat.le_trans (Jd.ge h1) (JdL.ge h2)
end
end J45

set_option Elab.async false
set_option maxRecDepth 100000
/-! the judge's object; a part judged -/
namespace J45
open PySem PySem.Spec PyProof.Rows L2 Hx Xr RN
def judgeI : Nat := 30
abbrev jInit : Stmt := inClass (top judgeI) 1
abbrev jWrong : Stmt := inClass (top judgeI) 2
/-- where the judge stands -/
structure Jo where
  o : Addr
  dx : Addr
  dn : Addr
  nn : Addr
def Jo.vs (j : Jo) (n m : Int) : List (Option V) := [some (.ref j.dn), some (.int m), some (.ref j.nn), some (.int n)]
/-- what a maker's count is held to be by the written table of the data -/
structure DataAt (K : PySem.W.Frag) (G : Hp) (dn : Addr) (D : Str → Nat → Bool) : Prop where
  dict : ∃ kvs : List (Key × V), G dn = some (.dK kvs) ∧ ∀ m k, D m k = true → ∃ (t : Addr) (ds : List PyData), valV kvs (.inr m) = some (.ref t) ∧ Dp K G (.ref t) (.tuple ds) ∧ SeqAt.shaped (.tuple ds) = true ∧ ds.any (fun d => PyData.eqv d (.tuple [.str m, .int (k : Int)])) = true ∧ PyData.strOk m = true
structure JAt (K : PySem.W.Frag) (C : Addr) (G H : Hp) (j : Jo) (n : Int) (S : Nm) (m : Int) : Prop where
  same : Same G H
  go : G j.o = none
  gd : G j.dx = none
  gn : G j.nn = none
  od : j.dx ≠ j.o
  on : j.nn ≠ j.o
  dn : j.nn ≠ j.dx
  obj : H j.o = some (SlX.SlO j.o C j.dx (j.vs n m))
  own : H j.dx = some (.xd [])
  nms : H j.nn = some (.dK (nmK S))
section
variable {K : PySem.W.Frag} {C : Addr} {G H : Hp} {j : Jo} {n m : Int} {S : Nm}
theorem JAt.slt (J : JAt K C G H j n S m) : SlX.Slt H j.o C j.dx (j.vs n m) := .inr ⟨J.obj, J.own⟩
/-- a new thing laid -/
theorem JAt.wide {H' : Hp} (J : JAt K C G H j n S m) (s : Same H H') : JAt K C G H' j n S m :=
  ⟨J.same.trans s, J.go, J.gd, J.gn, J.od, J.on, J.dn, s _ _ J.obj, s _ _ J.own, s _ _ J.nms⟩
theorem JAt.new {p : Addr} {u : HO} (J : JAt K C G H j n S m) (np : H p = none) : JAt K C G (upd H p u) j n S m := J.wide (Same.new np)
/-- a name set -/
theorem JAt.put {x : Str} {b : Bool} (J : JAt K C G H j n S m) : JAt K C G (upd H j.nn (.dK (putK (nmK S) (.inr x) (.bl b)))) j n (putN S x b) m :=
  ⟨Same.upd J.same J.gn, J.go, J.gd, J.gn, J.od, J.on, J.dn, (upd_ne J.on.symm).trans J.obj, (upd_ne J.dn.symm).trans J.own, by rw [upd_same, nmK_put]⟩
theorem JAt.get (J : JAt K C G H j n S m) (x : Str) : DGet H j.nn (.str x) ((getN S x).map V.bl) := by
  rw [← nmK_get]
  exact DGet.k (k := .inr x) J.nms
theorem putS1 (a b c d z : V) : SlX.putS 1 z [some a, some b, some c, some d] = [some a, some z, some c, some d] := rfl
/-- the count set -/
theorem JAt.many {m' : Int} (J : JAt K C G H j n S m) : JAt K C G (SlX.slH H j.o C j.dx (SlX.putS 1 (.int m') (j.vs n m))) j n S m' := by
  refine ⟨fun b u e => ?_, J.go, J.gd, J.gn, J.od, J.on, J.dn, upd_same, by unfold SlX.slH; rw [upd_ne J.od, upd_same], ?_⟩
  · rw [SlX.slH_ne (fun z => by rw [z, J.go] at e; cases e) (fun z => by rw [z, J.gd] at e; cases e)]
    exact J.same _ _ e
  · rw [SlX.slH_ne J.on J.dn]
    exact J.nms
end
/-- what the top has of the class and the judges -/
structure TxtJ (K : PySem.W.Frag) (w : World) (mg : Str → Option Value) (C p0 p1 p2 p3 aJ : Addr) (kv : List (Str × V)) : Prop extends TxtF mg where
  tuple : mg "tuple" = none
  cl : SlX.SCls K C
  s0 : SlX.Slot1 K C "places" p0 3
  s1 : SlX.Slot1 K C "data" p1 0
  s2 : SlX.Slot1 K C "names" p2 2
  s3 : SlX.Slot1 K C "many" p3 1
  gj : mg "JUDGES" = some (.ref aJ)
  dj : N3.KD K w aJ kv
  gC : mg "Judge" = some (.ref C)
  most : ∃ t, mg "MOST_THINGS" = some (.int 60 t)
def wordOf : PyData → Option Str
  | .tuple (.str x :: _) => some x
  | _ => none
section
variable {P : Program} {w : World} {K : PySem.W.Frag} {mg : Str → Option Value} {base : Heap} {C p0 p1 p2 p3 aJ : Addr} {kv : List (Str × V)}
/-- a part with room for L more within: judged right -/
def spWrong (K : PySem.W.Frag) (C : Addr) (D : Str → Nat → Bool) (L : Nat) : Sp := fun vs H Q _ => ∃ (G : Hp) (j : Jo) (n m : Int) (S S' : Nm) (v : V) (e : PyData) (c : Nat), vs = [.ref j.o, v, .int (L : Int)] ∧ JAt K C G H j n S m ∧ DataAt K G j.dn D ∧ Dp K G v e ∧ Jd n D L S e S' c ∧ S'.length ≤ 16000000 ∧
  ∀ H', JAt K C G H' j n S' (m + c) → Q .non H'
/-- a part whose word has a judge of its own -/
def spJudge (K : PySem.W.Frag) (C : Addr) (D : Str → Nat → Bool) (L : Nat) (wd : Str) : Sp := fun vs H Q _ => ∃ (G : Hp) (j : Jo) (n m : Int) (S S' : Nm) (v : V) (e : PyData) (c : Nat), vs = [.ref j.o, v, .int (L : Int)] ∧ JAt K C G H j n S m ∧ DataAt K G j.dn D ∧ Dp K G v e ∧ wordOf e = some wd ∧ Jd n D (L + 1) S e S' c ∧ S'.length ≤ 16000000 ∧
  ∀ H', JAt K C G H' j n S' (m + c) → Q .non H'
/-- what is done by JUDGES -/
def JudgesOk (P : Program) (w : World) (K : PySem.W.Frag) (mg : Str → Option Value) (base : Heap) (C : Addr) (D : Str → Nat → Bool) (kv : List (Str × V)) (L : Nat) : Prop :=
  ∀ wd ∈ (["call", "fun", "let", "deed", "early", "now", "case"] : List Str), ∃ f, kv.lookup wd = some (.ref f) ∧ HeldN P w K mg base (2 * L + 42) f (spJudge K C D L wd)
def spRight (K : PySem.W.Frag) (C : Addr) : Sp := fun vs H Q _ => ∃ (G : Hp) (j : Jo) (n m : Int) (S : Nm) (v : V) (as : List PyData), vs = [.ref j.o, v] ∧ JAt K C G H j n S m ∧ Dp K G v (.tuple as) ∧ as.length ≤ 60 ∧ (∀ a ∈ as, AtomJ n S a) ∧ Q (.bl true) H
theorem wno {a b : Str} (h : a ≠ b) : V.bl (decide (V.str a = V.str b)) = V.bl false := by rw [decide_eq_false fun z => h (by injection z)]
theorem bl_f {p : Prop} [Decidable p] (h : ¬ p) : V.bl (decide p) = V.bl false := by rw [decide_eq_false h]
theorem bl_t {p : Prop} [Decidable p] (h : p) : V.bl (decide p) = V.bl true := by rw [decide_eq_true h]
theorem inP_of {n p : Int} (h : inP n p = true) : 0 ≤ p ∧ p < n := by
  unfold inP at h
  rw [Bool.and_eq_true, decide_eq_true_eq, decide_eq_true_eq] at h
  exact h
theorem range_rd {K : PySem.W.Frag} {σ : L2.St} {H : Hp} {n p : Int} (h4 : σ[4]? = some (some (.int p))) (pl : ∀ {Q' : V → Hp → Prop}, Q' (.int n) H → SlX.tSl K (tVar 0) "places" σ H Q') {R : Bool → Hp → Prop} (q : R (inP n p) H) :
    tOr (tTest (tChain (rI0 fun i j => V.bl (decide (i < j))) (rI0 fun i j => V.bl (decide (i < j))) (tC (.int 1)) (tVar 4) (SlX.tSl K (tVar 0) "places"))) (tB (tCall spPlace [] E0 (tCons (tVar 4) (tCons (SlX.tSl K (tVar 0) "places") tNil)))) σ H R := by
  have call : tB (tCall spPlace [] E0 (tCons (tVar 4) (tCons (SlX.tSl K (tVar 0) "places") tNil))) σ H R := ⟨_, h4, pl ⟨p, n, rfl, inP n p, rfl, q⟩⟩
  refine ⟨_, h4, 1, p, rfl, rfl, decide (1 < p), rfl, ?_⟩
  by_cases c : 1 < p
  · rw [decide_eq_true c]
    refine iteT (pl ⟨p, n, rfl, rfl, decide (p < n), rfl, ?_⟩)
    by_cases c2 : p < n
    · have e : inP n p = true := by
        unfold inP
        rw [Bool.and_eq_true, decide_eq_true_eq, decide_eq_true_eq]
        omega
      rw [e] at q
      rw [decide_eq_true c2]
      exact iteT q
    · rw [decide_eq_false c2]
      exact iteF call
  · rw [decide_eq_false c]
    exact ⟨false, rfl, iteF call⟩
theorem jd_zero {n : Int} {D : Str → Nat → Bool} {S S' : Nm} {e : PyData} {c : Nat} {wd : Str} (h : Jd n D 0 S e S' c) (hw : wordOf e = some wd) (hm : wd ∈ (["call", "fun", "let", "deed", "early", "now", "case"] : List Str)) : False := by
  cases h with
  | atom ha =>
    cases ha <;> cases hw <;> exact absurd hm (by decide)
  | fault _ _ _ =>
    cases hw
    exact absurd hm (by decide)
  | con _ _ _ _ =>
    cases hw
    exact absurd hm (by decide)
theorem str_openJ {K : PySem.W.Frag} {H : Hp} {v : V} {x : Str} (h : Dp K H v (.str x)) : v = .str x := by
  cases h
  rfl
theorem tup_open {K : PySem.W.Frag} {H : Hp} {v : V} {ds : List PyData} (h : Dp K H v (.tuple ds)) : ∃ (t : Addr) (ws : List V), v = .ref t ∧ SqT K H t ws ∧ DpAll K H ws ds := by
  cases h with
  | tup a b => exact ⟨_, _, rfl, a, b⟩
theorem all_open {K : PySem.W.Frag} {H : Hp} {vs : List V} {d : PyData} {ds : List PyData} (h : DpAll K H vs (d :: ds)) : ∃ v ws, vs = v :: ws ∧ Dp K H v d ∧ DpAll K H ws ds := by
  cases h with
  | cons a b => exact ⟨_, _, rfl, a, b⟩
theorem nil_open {K : PySem.W.Frag} {H : Hp} {vs : List V} (h : DpAll K H vs []) : vs = [] := by
  cases h
  rfl
theorem tyx_seqT {K : PySem.W.Frag} {H : Hp} {a : Addr} {xs : List V} (h : SqT K H a xs) : TyX K H (.ref a) (.type "tuple") := by
  rcases h with (h | ⟨o, h⟩) | ⟨o, its, n, h1, h2, _⟩
  · exact .base (.tup h)
  · exact .fTuple h
  · exact .kTuple h1 h2
theorem scWr : FnScope ["self", "part", "left", "word", "p", "x", "_", "maker", "atoms", "lot", "judged"] ["self", "part", "left"] (defScope jWrong) := ⟨rfl, rfl, rfl, by decide +kernel, rfl, by decide +kernel, by decide +kernel⟩
theorem RoomN.u1 {n : Nat} {A : Around} (r : RoomN n A) : A.units + 1 < cLine := by have := r.un; omega
theorem RoomN.u65 {n : Nat} {A : Around} (r : RoomN n A) : A.units + 65 < cLine := by have := r.un; omega
set_option maxHeartbeats 8000000 in
theorem ok_wrong {L : Nat} {f fP fN fQ fR fF : Addr} {fd fdP fdN fdQ fdR fdF : FuncData} {spF : Sp} (F : Fun K "wrong_in" "Judge.wrong_in" jWrong f fd) (T : TxtJ K w mg C p0 p1 p2 p3 aJ kv) {D : Str → Nat → Bool}
    (GP : FnOk P w K mg base CX0 1 fP fdP ["thing", "places"] spPlace) (kP : PySem.W.keepIn K (.ref fP) = true) (bP : Binds K fdP ["thing", "places"] []) (gP : mg "is_place_number" = some (.ref fP))
    (GN : FnOk P w K mg base CX0 1 fN fdN ["thing"] spNum) (kN : PySem.W.keepIn K (.ref fN) = true) (bN : Binds K fdN ["thing"] []) (gN : mg "is_number" = some (.ref fN))
    (GQ : FnOk P w K mg base CX0 2 fQ fdQ ["thing"] spPlain) (kQ : PySem.W.keepIn K (.ref fQ) = true) (bQ : Binds K fdQ ["thing"] []) (gQ : mg "is_plain_name" = some (.ref fQ))
    (GR : FnOk P w K mg base CX0 2 fR fdR ["self", "atoms"] (spRight K C)) (bR : Binds K fdR ["self", "atoms"] []) (mR : Meth K C "are_right" fR)
    (GF : FnOk P w K mg base CX0 5 fF fdF ["self", "part"] spF) (bF : Binds K fdF ["self", "part"] []) (mF : Meth K C "fault" fF)
    (J0 : L = 0 ∨ ∃ L', L = L' + 1 ∧ JudgesOk P w K mg base C D kv L') :
    FnN P w K mg base CX0 (2 * L + 41) f fd ["self", "part", "left"] (spWrong K C D L) := by
  refine okN F scWr (fun vs H Q E h => ?_) (fun cdv A outer st H vs Q E hr h => ?_)
  · obtain ⟨G, j, n, m, S, S', v, e, c, rfl, _⟩ := h
    rfl
  · obtain ⟨G, j, n, m, S, S', v, e, c, rfl, J, hD, hv, hj, hS, q⟩ := h
    have hu := RoomN.u1 hr
    refine ⟨_, (pss_cons (ps_if (PW.pt (pw_or (pt_not (pt_val (pe_callB call_isi (by rfl) T.isi (by decide +kernel) (pa_cons (pv 1) (pa_cons (pe_bltn (v := .ty "tuple") (by rfl) T.tuple (by decide +kernel) rfl) pa_nil))))) (pw_or1 (pt_cmpR op_lt (pv 2) pe_int (nomark _))))) (pss_one (ps_ret (pe_lst (pa_cons pe_str pa_nil)))) pss_nil)
      (pss_cons (ps_if (pt_cmpR op_eq (pe_callB call_len (by rfl) T.len PySem.boot_len (pa_cons (pv 1) pa_nil)) pe_int (nomark _)) (pss_cons (ps_asg (pv 1) (pg_tup rfl (pgs_cons (pg_name (i := 3) scWr.nd rfl (.inl rfl)) (pgs_cons (pg_name (i := 4) scWr.nd rfl (.inl rfl)) (pgs_cons (pg_name (i := 5) scWr.nd rfl (.inl rfl)) pgs_nil)))))
      (pss_cons (ps_if (PW.pt (pw_and (pt_val (pe_callB call_isi (by rfl) T.isi (by decide +kernel) (pa_cons (pv 4) (pa_cons (pe_bltn (v := .ty "int") (by rfl) T.int (by decide +kernel) rfl) pa_nil)))) (pw_and1 (PW.pt (pw_or (pt_chain op_lt op_lt pe_int (pv 4) (SlX.pe_sl (pv 0))) (pw_or1 (pt_val (pe_call GP (hr.room (k := 1) (by omega) (by omega)) rfl gP kP bP .nil pass0 (pa_cons (pv 4) (pa_cons (SlX.pe_sl (pv 0)) pa_nil)))))))))) (pss_one (ps_if (pt_cmpR op_eq (pv 3) pe_str (nomark _)) (pss_one (ps_if (PW.pt (pw_and (pt_val (pe_callB call_isi (by rfl) T.isi (by decide +kernel) (pa_cons (pv 5) (pa_cons (pe_bltn (v := .ty "str") (by rfl) T.str (by decide +kernel) rfl) pa_nil)))) (pw_and (pt_cmp (pc_din hu (pv 5) (SlX.pe_sl (pv 0))) rfl) (pw_and1 (pt_truth (pe_dget hu (SlX.pe_sl (pv 0)) (pv 5) (fun _ _ => rfl)) (fun _ => rfl)))))) (pss_one (ps_ret pe_non)) pss_nil)) (pss_one (ps_if (PW.pt (pw_or (PW.pt (pw_and (pt_cmpR op_eq (pv 3) pe_str (nomark _)) (pw_and1 (pt_val (pe_call GN (hr.room (k := 1) (by omega) (by omega)) rfl gN kN bN .nil pass0 (pa_cons (pv 5) pa_nil)))))) (pw_or1 (PW.pt (pw_and (pt_cmpR op_eq (pv 3) pe_str (nomark _)) (pw_and1 (pt_val (pe_call GQ (hr.room (k := 2) (by omega) (by omega)) rfl gQ kQ bQ .nil pass0 (pa_cons (pv 5) pa_nil))))))))) (pss_one (ps_ret pe_non)) pss_nil)))) pss_nil)
      (pss_one (ps_ret (pe_methS (pv 0) T.cl mF GF (hr.room (k := 5) (by omega) (by omega)) bF pass0 (pa_cons (pv 1) pa_nil)))))) pss_nil)
      (pss_cons (ps_if (pt_cmpR op_lt (pe_callB call_len (by rfl) T.len PySem.boot_len (pa_cons (pv 1) pa_nil)) pe_int (nomark _)) (pss_one (ps_ret (pe_lst (pa_cons pe_str pa_nil)))) pss_nil)
      (pss_cons (ps_set (i := 3) scWr.nd rfl (.inl rfl) (pe_ix ix_tup (pv 1) pe_int (fun _ _ => rfl)))
      (pss_cons (ps_set (i := 4) scWr.nd rfl (.inl rfl) (pe_ix ix_tup (pv 1) pe_int (fun _ _ => rfl)))
      (pss_cons (ps_if (PW.pt (pw_or (pt_not (pt_val (pe_callB call_isi (by rfl) T.isi (by decide +kernel) (pa_cons (pv 4) (pa_cons (pe_bltn (v := .ty "int") (by rfl) T.int (by decide +kernel) rfl) pa_nil))))) (pw_or1 (pt_not (PW.pt (pw_or (pt_chain op_lt op_lt pe_int (pv 4) (SlX.pe_sl (pv 0))) (pw_or1 (pt_val (pe_call GP (hr.room (k := 1) (by omega) (by omega)) rfl gP kP bP .nil pass0 (pa_cons (pv 4) (pa_cons (SlX.pe_sl (pv 0)) pa_nil))))))))))) (pss_one (ps_ret (pe_lst (pa_cons pe_str pa_nil)))) pss_nil)
      (pss_cons (ps_if (pt_cmpR op_eq (pv 3) pe_str (nomark _)) (pss_cons (ps_if (pt_cmpR op_eq (pe_callB call_len (by rfl) T.len PySem.boot_len (pa_cons (pv 1) pa_nil)) pe_int (nomark _)) (pss_cons (ps_asg (pv 1) (pg_tup rfl (pgs_cons (pg_name (i := 6) scWr.nd rfl (.inl rfl)) (pgs_cons (pg_name (i := 6) scWr.nd rfl (.inl rfl)) (pgs_cons (pg_name (i := 7) scWr.nd rfl (.inl rfl)) (pgs_cons (pg_name (i := 8) scWr.nd rfl (.inl rfl)) pgs_nil))))))
      (pss_one (ps_if (PW.pt (pw_and (pt_val (pe_callB call_isi (by rfl) T.isi (by decide +kernel) (pa_cons (pv 7) (pa_cons (pe_bltn (v := .ty "str") (by rfl) T.str (by decide +kernel) rfl) pa_nil)))) (pw_and1 (pt_val (pe_methS (pv 0) T.cl mR GR (hr.room (k := 2) (by omega) (by omega)) bR pass0 (pa_cons (pv 8) pa_nil)))))) (pss_cons (ps_set (i := 9) scWr.nd rfl (.inl rfl) (pe_dget1 hu (SlX.pe_sl (pv 0)) (pv 7) ⟨rfl, rfl, rfl, rfl⟩))
      (pss_one (ps_if (PW.pt (pw_and (pt_val (pe_callB call_isi (by rfl) T.isi (by decide +kernel) (pa_cons (pv 9) (pa_cons (pe_bltn (v := .ty "tuple") (by rfl) T.tuple (by decide +kernel) rfl) pa_nil)))) (pw_and1 (pt_cmpR (op_inTup (RoomN.u65 hr)) (pe_tup (pa_cons (pv 7) (pa_cons (pe_callB call_len (by rfl) T.len PySem.boot_len (pa_cons (pv 8) pa_nil)) pa_nil))) (pv 9) rfl)))) (pss_one (ps_ret pe_non)) pss_nil))) pss_nil))) pss_nil)
      (pss_one (ps_ret (pe_methS (pv 0) T.cl mF GF (hr.room (k := 5) (by omega) (by omega)) bF pass0 (pa_cons (pv 1) pa_nil))))) pss_nil)
      (pss_cons (ps_if (PW.pt (pw_or (pt_not (pt_val (pe_callB call_isi (by rfl) T.isi (by decide +kernel) (pa_cons (pv 3) (pa_cons (pe_bltn (v := .ty "str") (by rfl) T.str (by decide +kernel) rfl) pa_nil))))) (pw_or1 (pt_cmpR (N3.op_notIn_kv T.dj) (pv 3) (pe_glob (v := .ref aJ) (by rfl) T.gj rfl) rfl)))) (pss_one (ps_ret (pe_lst (pa_cons pe_str pa_nil)))) pss_nil)
      (pss_cons (ps_set (i := 10) scWr.nd rfl (.inl rfl) (N3.pe_kix T.dj (pe_glob (v := .ref aJ) (by rfl) T.gj rfl) (pv 3) (fun _ _ => rfl)))
      (pss_one (ps_ret (pe_callN (i := 10) hr rfl (.inl rfl) (pa_cons (pv 0) (pa_cons (pv 1) (pa_cons (pe_op op_sub (pv 2) pe_int) pa_nil))))))))))))))), ?_⟩
    have hL0 : ¬ ((L : Int) < 0) := by omega
    have tup : ∀ {t : Addr} {ws : List V}, SqT K H t ws → TyX K H (.ref t) (.type "tuple") := fun h => tyx_seqT h
    have places : ∀ {σ : L2.St} {Q' : V → Hp → Prop}, σ[0]? = some (some (.ref j.o)) → Q' (.int n) H → SlX.tSl K (tVar 0) "places" σ H Q' := fun h0 q' => ⟨_, h0, j.o, C, j.dx, p0, _, 3, _, rfl, J.slt, T.cl, T.s0, rfl, q'⟩
    by_cases hw : ∃ (wd : Str) (p : Int) (rest : List PyData), e = .tuple (.str wd :: .int p :: rest) ∧ 2 ≤ rest.length ∧ inP n p = true ∧ wd ∈ (["call", "fun", "let", "deed", "early", "now", "case"] : List Str)
    · obtain ⟨wd, p, rest, rfl, hr2, hp, hm⟩ := hw
      rcases J0 with rfl | ⟨L', rfl, hJ⟩
      · exact (jd_zero hj rfl hm).elim
      obtain ⟨fj, hlk, hHeld⟩ := hJ wd hm
      have hj0 := hj
      have hv0 := hv
      obtain ⟨t, ws, rfl, hT, hA⟩ := tup_open hv
      obtain ⟨z1, ws, rfl, hz1, hA⟩ := all_open hA
      obtain ⟨z2, ws, rfl, hz2, hA⟩ := all_open hA
      have hlw := DpAll.len hA
      cases hz1
      cases hz2
      have hT' := Same.seqT J.same hT
      have n3 : ¬ (((V.str wd :: V.int p :: ws).length : Int) = 3) := by
        show ¬ (((ws.length + 1 + 1 : Nat) : Int) = 3)
        omega
      have l3 : ¬ (((V.str wd :: V.int p :: ws).length : Int) < 3) := by
        show ¬ (((ws.length + 1 + 1 : Nat) : Int) < 3)
        omega
      have hcon : wd ≠ "con" := fun z => by rw [z] at hm; exact absurd hm (by decide)
      refine ⟨_, rfl, .ref t, .ty "tuple", .type "tuple", .type "tuple", true, rfl, .ty _, tup hT', kit_ty (a := "tuple") (b := "tuple") (r := true) (by decide +kernel), true, rfl, iteF ⟨_, rfl, _, _, rfl, rfl, false, bl_f hL0, iteF ?_⟩⟩
      refine ⟨_, rfl, _, _, rfl, .inr ⟨_, hT', rfl⟩, rfl, false, bl_f (fun z => n3 (by injection z)), iteF ?_⟩
      refine ⟨_, rfl, _, _, rfl, .inr ⟨_, hT', rfl⟩, _, _, rfl, rfl, false, bl_f l3, iteF ?_⟩
      refine ⟨_, rfl, t, _, 0, _, rfl, rfl, hT', atI_nat (j := 0) rfl, _, rfl, t, _, 1, _, rfl, rfl, hT', atI_nat (j := 1) rfl, ?_⟩
      refine ⟨_, rfl, .int p, .ty "int", .type "int", .type "int", true, rfl, .ty _, .base (.int _), kit_ty (a := "int") (b := "int") (r := true) (by decide +kernel), true, rfl, iteF ?_⟩
      refine range_rd (n := n) (p := p) rfl (places rfl) ?_
      rw [hp]
      refine iteF ⟨_, rfl, rfl, false, wno hcon, iteF ?_⟩
      refine ⟨_, rfl, .str wd, .ty "str", .type "str", .type "str", true, rfl, .ty _, .base (.str _), kit_ty (a := "str") (b := "str") (r := true) (by decide +kernel), true, rfl, iteF ?_⟩
      refine ⟨_, rfl, wd, rfl, rfl, false, by rw [hlk]; rfl, iteF ?_⟩
      refine ⟨rfl, _, rfl, wd, _, rfl, hlk, fj, _, rfl, hHeld, _, rfl, _, rfl, _, rfl, _, _, rfl, rfl, ?_⟩
      refine ⟨G, j, n, m, S, S', .ref t, _, c, ?_, J, hD, hv0, rfl, hj0, hS, q⟩
      have e1 : (((L' + 1 : Nat) : Int) - 1) = (L' : Int) := by omega
      show [V.ref j.o, V.ref t, V.int (((L' + 1 : Nat) : Int) - 1)] = _
      rw [e1]
    cases hj with
    | atom ha =>
      cases ha with
      | @name p x hp hx =>
        obtain ⟨t, ws, rfl, hT, hA⟩ := tup_open hv
        obtain ⟨z1, ws, rfl, hz1, hA⟩ := all_open hA
        obtain ⟨z2, ws, rfl, hz2, hA⟩ := all_open hA
        obtain ⟨z3, ws, rfl, hz3, hA⟩ := all_open hA
        obtain rfl := nil_open hA
        cases hz1
        cases hz2
        cases hz3
        have hT' := Same.seqT J.same hT
        refine ⟨_, rfl, .ref t, .ty "tuple", .type "tuple", .type "tuple", true, rfl, .ty _, tup hT', kit_ty (a := "tuple") (b := "tuple") (r := true) (by decide +kernel), true, rfl, iteF ⟨_, rfl, _, _, rfl, rfl, false, bl_f hL0, iteF ?_⟩⟩
        refine ⟨_, rfl, _, _, rfl, .inr ⟨_, hT', rfl⟩, rfl, true, by simp, iteT ?_⟩
        refine ⟨_, rfl, t, _, rfl, hT', rfl, _, _, rfl, _, _, rfl, _, _, rfl, rfl, ?_⟩
        refine ⟨_, rfl, .int p, .ty "int", .type "int", .type "int", true, rfl, .ty _, .base (.int _), kit_ty (a := "int") (b := "int") (r := true) (by decide +kernel), true, rfl, iteT ?_⟩
        obtain ⟨p0', p1'⟩ := inP_of hp
        have fin : Q .non H := by
          have := q H (by simpa using J)
          exact this
        have found : SlX.Slt H j.o C j.dx (j.vs n m) := J.slt
        refine range_rd (n := n) (p := p) rfl (places rfl) ?_
        rw [hp]
        refine iteT ⟨_, rfl, rfl, true, by simp, iteT ?_⟩
        refine ⟨_, rfl, .str x, .ty "str", .type "str", .type "str", true, rfl, .ty _, .base (.str _), kit_ty (a := "str") (b := "str") (r := true) (by decide +kernel), true, rfl, iteT ?_⟩
        have hg := J.get x
        rw [hx] at hg
        refine ⟨_, rfl, _, rfl, j.o, C, j.dx, p2, _, 2, _, rfl, J.slt, T.cl, T.s2, rfl, j.nn, _, rfl, hg, true, rfl, iteT ?_⟩
        exact ⟨_, rfl, j.o, C, j.dx, p2, _, 2, _, rfl, J.slt, T.cl, T.s2, rfl, _, rfl, j.nn, _, rfl, hg, true, rfl, iteT fin⟩
      | @num p i hp hi =>
        obtain ⟨t, ws, rfl, hT, hA⟩ := tup_open hv
        obtain ⟨z1, ws, rfl, hz1, hA⟩ := all_open hA
        obtain ⟨z2, ws, rfl, hz2, hA⟩ := all_open hA
        obtain ⟨z3, ws, rfl, hz3, hA⟩ := all_open hA
        obtain rfl := nil_open hA
        cases hz1
        cases hz2
        cases hz3
        have hT' := Same.seqT J.same hT
        refine ⟨_, rfl, .ref t, .ty "tuple", .type "tuple", .type "tuple", true, rfl, .ty _, tup hT', kit_ty (a := "tuple") (b := "tuple") (r := true) (by decide +kernel), true, rfl, iteF ⟨_, rfl, _, _, rfl, rfl, false, bl_f hL0, iteF ?_⟩⟩
        refine ⟨_, rfl, _, _, rfl, .inr ⟨_, hT', rfl⟩, rfl, true, by simp, iteT ?_⟩
        refine ⟨_, rfl, t, _, rfl, hT', rfl, _, _, rfl, _, _, rfl, _, _, rfl, rfl, ?_⟩
        refine ⟨_, rfl, .int p, .ty "int", .type "int", .type "int", true, rfl, .ty _, .base (.int _), kit_ty (a := "int") (b := "int") (r := true) (by decide +kernel), true, rfl, iteT ?_⟩
        have fin : Q .non H := by
          have := q H (by simpa using J)
          exact this
        refine range_rd (n := n) (p := p) rfl (places rfl) ?_
        rw [hp]
        refine iteT ⟨_, rfl, rfl, false, wno (by decide +kernel), iteF ?_⟩
        refine ⟨_, rfl, rfl, true, by simp, iteT ⟨_, rfl, _, rfl, .inl ⟨i, rfl⟩, true, by rw [hi], iteT (iteT fin)⟩⟩
    | @fault _ _ p x hp hx hl =>
      obtain ⟨t, ws, rfl, hT, hA⟩ := tup_open hv
      obtain ⟨z1, ws, rfl, hz1, hA⟩ := all_open hA
      obtain ⟨z2, ws, rfl, hz2, hA⟩ := all_open hA
      obtain ⟨z3, ws, rfl, hz3, hA⟩ := all_open hA
      obtain rfl := nil_open hA
      cases hz1
      cases hz2
      cases hz3
      have hT' := Same.seqT J.same hT
      refine ⟨_, rfl, .ref t, .ty "tuple", .type "tuple", .type "tuple", true, rfl, .ty _, tup hT', kit_ty (a := "tuple") (b := "tuple") (r := true) (by decide +kernel), true, rfl, iteF ⟨_, rfl, _, _, rfl, rfl, false, bl_f hL0, iteF ?_⟩⟩
      refine ⟨_, rfl, _, _, rfl, .inr ⟨_, hT', rfl⟩, rfl, true, by simp, iteT ?_⟩
      refine ⟨_, rfl, t, _, rfl, hT', rfl, _, _, rfl, _, _, rfl, _, _, rfl, rfl, ?_⟩
      refine ⟨_, rfl, .int p, .ty "int", .type "int", .type "int", true, rfl, .ty _, .base (.int _), kit_ty (a := "int") (b := "int") (r := true) (by decide +kernel), true, rfl, iteT ?_⟩
      refine range_rd (n := n) (p := p) rfl (places rfl) ?_
      rw [hp]
      refine iteT ⟨_, rfl, rfl, false, wno (by decide +kernel), iteF ?_⟩
      refine ⟨_, rfl, rfl, false, wno (by decide +kernel), iteF (iteF ⟨_, rfl, rfl, true, by simp, iteT ⟨_, rfl, x, rfl, hl, fun H' s' => ⟨true, by rw [hx], iteT ?_⟩⟩⟩)⟩
      have := q H' (by simpa using J.wide s')
      exact this
    | @con _ _ p mk as hp hl ha hd =>
      obtain ⟨t, ws, rfl, hT, hA⟩ := tup_open hv
      obtain ⟨z1, ws, rfl, hz1, hA⟩ := all_open hA
      obtain ⟨z2, ws, rfl, hz2, hA⟩ := all_open hA
      obtain ⟨z3, ws, rfl, hz3, hA⟩ := all_open hA
      obtain ⟨z4, ws, rfl, hz4, hA⟩ := all_open hA
      obtain rfl := nil_open hA
      cases hz1
      cases hz2
      cases hz3
      have hT' := Same.seqT J.same hT
      have fin : ∀ H', Same H H' → Q .non H' := fun H' s' => by
        have := q H' (by simpa using J.wide s')
        exact this
      obtain ⟨ta, was, rfl, hTa, hAa⟩ := tup_open hz4
      have la := DpAll.len hAa
      refine ⟨_, rfl, .ref t, .ty "tuple", .type "tuple", .type "tuple", true, rfl, .ty _, tup hT', kit_ty (a := "tuple") (b := "tuple") (r := true) (by decide +kernel), true, rfl, iteF ⟨_, rfl, _, _, rfl, rfl, false, bl_f hL0, iteF ?_⟩⟩
      refine ⟨_, rfl, _, _, rfl, .inr ⟨_, hT', rfl⟩, rfl, false, by simp, iteF ?_⟩
      refine ⟨_, rfl, _, _, rfl, .inr ⟨_, hT', rfl⟩, _, _, rfl, rfl, false, bl_f (by simp), iteF ?_⟩
      refine ⟨_, rfl, t, _, 0, _, rfl, rfl, hT', atI_nat (j := 0) rfl, _, rfl, t, _, 1, _, rfl, rfl, hT', atI_nat (j := 1) rfl, ?_⟩
      refine ⟨_, rfl, .int p, .ty "int", .type "int", .type "int", true, rfl, .ty _, .base (.int _), kit_ty (a := "int") (b := "int") (r := true) (by decide +kernel), true, rfl, iteF ?_⟩
      refine range_rd (n := n) (p := p) rfl (places rfl) ?_
      rw [hp]
      refine iteF ⟨_, rfl, rfl, true, by simp, iteT ?_⟩
      refine ⟨_, rfl, _, _, rfl, .inr ⟨_, hT', rfl⟩, rfl, true, by simp, iteT ?_⟩
      refine ⟨_, rfl, t, _, rfl, hT', rfl, _, _, rfl, _, _, rfl, _, _, rfl, _, _, rfl, rfl, ?_⟩
      refine ⟨_, rfl, .str mk, .ty "str", .type "str", .type "str", true, rfl, .ty _, .base (.str _), kit_ty (a := "str") (b := "str") (r := true) (by decide +kernel), true, rfl, iteT ?_⟩
      refine ⟨_, rfl, j.o, j.dx, _, rfl, J.slt, _, rfl, G, j, n, m, S, .ref ta, as, rfl, J, hz4, hl, ha, true, rfl, iteT ?_⟩
      obtain ⟨kvs, hdn, hmk⟩ := hD.dict
      obtain ⟨tl, dl, hv1, hv2, hs1, hany, hsm⟩ := hmk mk as.length hd
      have hdn' := J.same _ _ hdn
      obtain ⟨tl2, wl, e2, hTl, _⟩ := tup_open hv2
      cases e2
      refine ⟨_, rfl, j.o, C, j.dx, p1, _, 0, _, rfl, J.slt, T.cl, T.s1, rfl, j.dn, rfl, .inl ⟨_, .inl hdn'⟩, _, rfl, _, DGet.k (k := .inr mk) hdn', ?_⟩
      rw [hv1]
      refine ⟨_, rfl, .ref tl, .ty "tuple", .type "tuple", .type "tuple", true, rfl, .ty _, tup (Same.seqT J.same hTl), kit_ty (a := "tuple") (b := "tuple") (r := true) (by decide +kernel), true, rfl, iteT ?_⟩
      refine ⟨_, rfl, _, rfl, _, _, rfl, .inr ⟨_, Same.seqT J.same hTa, rfl⟩, by show 2 ≤ sizeLine; decide, fun T2 nT2 => ?_⟩
      have s2 := Same.new (o := .tup [.str mk, .int (was.length : Int)]) nT2
      refine ⟨_, rfl, .tuple [.str mk, .int (was.length : Int)], dl, .tup (SqT.of upd_same) (.cons (.str _) (.cons (.int _) .nil)), Dp.same (J.same.trans s2) _ _ hv2, ?_, hs1, ?_⟩
      · unfold SeqAt.shaped
        rw [Bool.and_eq_true]
        exact ⟨by simp [PyData.canLay0, PyData.canLayAll0, hsm], decide_eq_true (by simp [PyData.depth, PyData.depthAll])⟩
      · rw [la, hany]
        exact ⟨true, rfl, iteT (fin _ (Same.new nT2))⟩
    | call hp hne hl ha hq hx => exact absurd ⟨_, _, _, rfl, Nat.le_refl 2, hp, by simp⟩ hw
    | now hp hq hx hl h1 => exact absurd ⟨_, _, _, rfl, by simp, hp, by simp⟩ hw
    | deed hp hd h1 h2 => exact absurd ⟨_, _, _, rfl, by simp, hp, by simp⟩ hw
    | early hp hq hx hn hl h1 h2 => exact absurd ⟨_, _, _, rfl, by simp, hp, by simp⟩ hw
    | func hp hne hl hb h1 => exact absurd ⟨_, _, _, rfl, Nat.le_refl 2, hp, by simp⟩ hw
    | lets hp hne hl hb h1 => exact absurd ⟨_, _, _, rfl, Nat.le_refl 2, hp, by simp⟩ hw
    | case hp _ _ _ _ _ _ _ => exact absurd ⟨_, _, _, rfl, by simp, hp, by simp⟩ hw
end
end J45

set_option Elab.async false
set_option maxRecDepth 100000
/-! JUDGES' defs -/
namespace J45
open PySem PySem.Spec PyProof.Rows L2 Hx Xr RN
abbrev sCall : Stmt := top 32
abbrev sFun : Stmt := top 33
abbrev sLet : Stmt := top 34
abbrev sCase : Stmt := top 35
abbrev sDeed : Stmt := top 36
abbrev sEarly : Stmt := top 37
abbrev sNow : Stmt := top 38
section
variable {P : Program} {w : World} {K : PySem.W.Frag} {mg : Str → Option Value} {base : Heap} {C p0 p1 p2 p3 aJ : Addr} {kv : List (Str × V)}
theorem scCall : FnScope ["judge", "part", "left", "f", "_", "p", "x"] ["judge", "part", "left"] (defScope sCall) := ⟨rfl, rfl, rfl, by decide +kernel, rfl, by decide +kernel, by decide +kernel⟩
theorem scNow : FnScope ["judge", "part", "left", "wrong"] ["judge", "part", "left"] (defScope sNow) := ⟨rfl, rfl, rfl, by decide +kernel, rfl, by decide +kernel, by decide +kernel⟩
theorem scDeed : FnScope ["judge", "part", "left", "wrong"] ["judge", "part", "left"] (defScope sDeed) := ⟨rfl, rfl, rfl, by decide +kernel, rfl, by decide +kernel, by decide +kernel⟩
theorem scEarly : FnScope ["judge", "part", "left", "wrong"] ["judge", "part", "left"] (defScope sEarly) := ⟨rfl, rfl, rfl, by decide +kernel, rfl, by decide +kernel, by decide +kernel⟩
theorem scFun : FnScope ["judge", "part", "left", "names", "wrong", "bound", "name"] ["judge", "part", "left"] (defScope sFun) := ⟨rfl, rfl, rfl, by decide +kernel, rfl, by decide +kernel, by decide +kernel⟩
theorem spJ_len {C : Addr} {D : Str → Nat → Bool} {L : Nat} {wd : Str} {vs : List V} {H : Hp} {Q : VK} {E : XK} (h : spJudge K C D L wd vs H Q E) : vs.length = 3 := by
  obtain ⟨G, j, n, m, S, S', v, e, c, rfl, _⟩ := h
  rfl
/-- what is asked of a part's own form -/
def FormOk (n : Int) : PyData → Prop
  | .tuple [.str wd, .int p, .int q, .str x, _] => wd = "now" ∧ inP n p = true ∧ inP n q = true ∧ nameB x = true ∧ x.length ≤ 1000
  | .tuple [.str wd, .int p, .str x, _, .int q, _] => wd = "early" ∧ inP n p = true ∧ inP n q = true ∧ nameB x = true ∧ x.length ≤ 1000
  | _ => False
def spPart (K : PySem.W.Frag) : Sp := fun vs H Q _ => ∃ (n : Int) (v : V) (e : PyData), vs = [v, .int n] ∧ Dp K H v e ∧ FormOk n e ∧ (∀ H', Same H H' → Q (.bl true) H')
/-- names bound, none twice -/
def spBind (K : PySem.W.Frag) (C : Addr) : Sp := fun vs H Q _ => ∃ (G : Hp) (j : Jo) (n m : Int) (S S' : Nm) (t : Addr) (xs : List Str) (b : Bool), vs = [.ref j.o, .ref t, .bl b] ∧ JAt K C G H j n S m ∧ SqT K G t (xs.map V.str) ∧ Bnd b S xs S' ∧ S'.length ≤ 16000000 ∧ (∀ H', JAt K C G H' j n S' m → Q (.bl true) H')
/-- DEEDS -/
structure DeedsOk (K : PySem.W.Frag) (w : World) (mg : Str → Option Value) (aD : Addr) : Prop where
  deeds : mg "DEEDS" = some (.ref aD)
  at_ : ∀ H, SqT K H aD ((["plus", "less", "times", "below", "same"] : List Str).map V.str)
theorem JAt.none {K : PySem.W.Frag} {G H : Hp} {j : Jo} {n m : Int} {S : Nm} {T : Addr} (J : JAt K C G H j n S m) (h : H T = none) : G T = none := by
  cases e : G T with
  | none => rfl
  | some u => rw [J.same _ _ e] at h; cases h
theorem JAt.grow {K : PySem.W.Frag} {G H : Hp} {j : Jo} {n m : Int} {S : Nm} {T : Addr} {u : HO} (J : JAt K C G H j n S m) (h : H T = Option.none) : JAt K C (upd G T u) (upd H T u) j n S m := by
  have ne : ∀ {a : Addr}, (∃ v, H a = some v) → a ≠ T := fun ⟨v, e⟩ z => by rw [z, h] at e; cases e
  have no := ne ⟨_, J.obj⟩
  have nd := ne ⟨_, J.own⟩
  have nn := ne ⟨_, J.nms⟩
  refine ⟨fun b v e => ?_, (upd_ne no).trans J.go, (upd_ne nd).trans J.gd, (upd_ne nn).trans J.gn, J.od, J.on, J.dn, (upd_ne no).trans J.obj, (upd_ne nd).trans J.own, (upd_ne nn).trans J.nms⟩
  by_cases c : b = T
  · subst c
    rw [upd_same] at e ⊢
    exact e
  · rw [upd_ne c] at e ⊢
    exact J.same _ _ e
theorem JAt.less {K : PySem.W.Frag} {G H : Hp} {j : Jo} {n m : Int} {S : Nm} {T : Addr} {u : HO} (J : JAt K C (upd G T u) H j n S m) (h : G T = Option.none) : JAt K C G H j n S m := by
  have s := Same.new (o := u) h
  have g : ∀ {a : Addr}, upd G T u a = Option.none → G a = Option.none := fun {a} e => by
    cases e2 : G a with
    | none => rfl
    | some v => rw [s _ _ e2] at e; cases e
  exact ⟨s.trans J.same, g J.go, g J.gd, g J.gn, J.od, J.on, J.dn, J.obj, J.own, J.nms⟩
theorem nm_lt {S : Nm} (h : S.length ≤ 16000000) : (nmK S).length < sizeLine := by
  unfold nmK
  rw [List.length_map]
  exact Nat.lt_of_le_of_lt h (by decide)
theorem all_strs {H : Hp} {ws : List V} : ∀ {xs : List Str}, DpAll K H ws (xs.map PyData.str) → ws = xs.map V.str
  | [], h => nil_open h
  | x :: xs, h => by
    obtain ⟨v, vs, rfl, hv, h2⟩ := all_open h
    cases hv
    rw [all_strs h2]
    rfl
theorem putAll_succ (S : Nm) {xs : List Str} {i : Nat} {x : Str} (h : xs[i]? = some x) (b : Bool) : putAll S (xs.take (i + 1)) b = putN (putAll S (xs.take i) b) x b := by
  unfold putAll
  rw [List.take_add_one, h, List.foldl_append]
  rfl
theorem putAll_take (S : Nm) (xs : List Str) (i : Nat) (b : Bool) : (putAll S (xs.take i) b).length ≤ (putAll S xs b).length := by
  have e : putAll S xs b = putAll (putAll S (xs.take i) b) (xs.drop i) b := by
    unfold putAll
    rw [← List.foldl_append, List.take_append_drop]
  rw [e]
  exact putAll_ge _ _ _
theorem deed_in {d : Str} (h : d ∈ (["plus", "less", "times", "below", "same"] : List Str)) : V.bl (if true = true then !inV (.str d) ((["plus", "less", "times", "below", "same"] : List Str).map V.str) else inV (.str d) ((["plus", "less", "times", "below", "same"] : List Str).map V.str)) = V.bl false := by
  simp only [List.mem_cons, List.not_mem_nil, or_false] at h
  rcases h with rfl | rfl | rfl | rfl | rfl <;> decide +kernel
set_option maxHeartbeats 8000000 in
theorem ok_call {L : Nat} {f fP fR fF : Addr} {fd fdP fdR fdF : FuncData} {spF : Sp} (F : Fun K "call_wrong" "call_wrong" sCall f fd) (T : TxtJ K w mg C p0 p1 p2 p3 aJ kv) {D : Str → Nat → Bool}
    (GP : FnOk P w K mg base CX0 1 fP fdP ["thing", "places"] spPlace) (kP : PySem.W.keepIn K (.ref fP) = true) (bP : Binds K fdP ["thing", "places"] []) (gP : mg "is_place_number" = some (.ref fP))
    (GR : FnOk P w K mg base CX0 2 fR fdR ["self", "atoms"] (spRight K C)) (bR : Binds K fdR ["self", "atoms"] []) (mR : Meth K C "are_right" fR)
    (GF : FnOk P w K mg base CX0 5 fF fdF ["self", "part"] spF) (bF : Binds K fdF ["self", "part"] []) (mF : Meth K C "fault" fF) :
    FnN P w K mg base CX0 (2 * L + 42) f fd ["judge", "part", "left"] (spJudge K C D L "call") := by
  refine okN F scCall (fun vs H Q E h => spJ_len h) (fun cdv A outer st H vs Q E hr h => ?_)
  obtain ⟨G, j, n, m, S, S', v, e, c, rfl, J, hD, hv, hw, hj, hS, q⟩ := h
  have hu := RoomN.u1 hr
  refine ⟨_, (pss_cons (ps_if (PW.pt (pw_and (pt_cmpR op_eq (pe_callB call_len (by rfl) T.len PySem.boot_len (pa_cons (pv 1) pa_nil)) pe_int (nomark _)) (pw_and (pt_truth (pe_ix ix_tup (pv 1) pe_int (fun _ _ => rfl)) (fun _ => rfl)) (pw_and1 (pt_val (pe_methS (pv 0) T.cl mR GR (hr.room (k := 2) (by omega) (by omega)) bR pass0 (pa_cons (pe_ix ix_tup (pv 1) pe_int (fun _ _ => rfl)) pa_nil))))))) (pss_cons (ps_set (i := 3) scCall.nd rfl (.inl rfl) (pe_ix ix_tup (pv 1) pe_int (fun _ _ => rfl)))
      (pss_one (ps_if (PW.pt (pw_and (pt_val (pe_callB call_isi (by rfl) T.isi (by decide +kernel) (pa_cons (pv 3) (pa_cons (pe_bltn (v := .ty "tuple") (by rfl) T.tuple (by decide +kernel) rfl) pa_nil)))) (pw_and (pt_cmpR op_eq (pe_callB call_len (by rfl) T.len PySem.boot_len (pa_cons (pv 3) pa_nil)) pe_int (nomark _)) (pw_and1 (pt_cmpR op_eq (pe_ix ix_tup (pv 3) pe_int (fun _ _ => rfl)) pe_str (nomark _)))))) (pss_cons (ps_asg (pv 3) (pg_tup rfl (pgs_cons (pg_name (i := 4) scCall.nd rfl (.inl rfl)) (pgs_cons (pg_name (i := 5) scCall.nd rfl (.inl rfl)) (pgs_cons (pg_name (i := 6) scCall.nd rfl (.inl rfl)) pgs_nil)))))
      (pss_one (ps_if (PW.pt (pw_and (pt_val (pe_call GP (hr.room (k := 1) (by omega) (by omega)) rfl gP kP bP .nil pass0 (pa_cons (pv 5) (pa_cons (SlX.pe_sl (pv 0)) pa_nil)))) (pw_and (pt_val (pe_callB call_isi (by rfl) T.isi (by decide +kernel) (pa_cons (pv 6) (pa_cons (pe_bltn (v := .ty "str") (by rfl) T.str (by decide +kernel) rfl) pa_nil)))) (pw_and1 (pt_truth (pe_dget1 hu (SlX.pe_sl (pv 0)) (pv 6) ⟨rfl, rfl, rfl, rfl⟩) (fun _ => rfl)))))) (pss_one (ps_ret pe_non)) pss_nil))) pss_nil))) pss_nil)
      (pss_one (ps_ret (pe_methS (pv 0) T.cl mF GF (hr.room (k := 5) (by omega) (by omega)) bF pass0 (pa_cons (pv 1) pa_nil))))), ?_⟩
  have tup : ∀ {H1 : Hp} {t : Addr} {ws : List V}, SqT K H1 t ws → TyX K H1 (.ref t) (.type "tuple") := fun h => tyx_seqT h
  have places : ∀ {H1 : Hp} {S1 : Nm} {m1 : Int} {σ : L2.St} {Q' : V → Hp → Prop}, JAt K C G H1 j n S1 m1 → σ[0]? = some (some (.ref j.o)) → Q' (.int n) H1 → SlX.tSl K (tVar 0) "places" σ H1 Q' := fun J1 h0 q' => ⟨_, h0, j.o, C, j.dx, p0, _, 3, _, rfl, J1.slt, T.cl, T.s0, rfl, q'⟩
  have nmsR : ∀ {H1 : Hp} {S1 : Nm} {m1 : Int} {σ : L2.St} {Q' : V → Hp → Prop}, JAt K C G H1 j n S1 m1 → σ[0]? = some (some (.ref j.o)) → Q' (.ref j.nn) H1 → SlX.tSl K (tVar 0) "names" σ H1 Q' := fun J1 h0 q' => ⟨_, h0, j.o, C, j.dx, p2, _, 2, _, rfl, J1.slt, T.cl, T.s2, rfl, q'⟩
  cases hj with
  | call hp hne hl ha hq hx =>
    obtain ⟨t, ws, rfl, hT, hA⟩ := tup_open hv
    obtain ⟨z1, ws, rfl, hz1, hA⟩ := all_open hA
    obtain ⟨z2, ws, rfl, hz2, hA⟩ := all_open hA
    obtain ⟨z3, ws, rfl, hz3, hA⟩ := all_open hA
    obtain ⟨z4, ws, rfl, hz4, hA⟩ := all_open hA
    obtain rfl := nil_open hA
    cases hz1
    cases hz2
    have hT' := Same.seqT J.same hT
    obtain ⟨ta, was, rfl, hTa, hAa⟩ := tup_open hz4
    obtain ⟨tn, wn, rfl, hTn, hAn⟩ := tup_open hz3
    obtain ⟨y1, wn, rfl, hy1, hAn⟩ := all_open hAn
    obtain ⟨y2, wn, rfl, hy2, hAn⟩ := all_open hAn
    obtain ⟨y3, wn, rfl, hy3, hAn⟩ := all_open hAn
    obtain rfl := nil_open hAn
    cases hy1
    cases hy2
    cases hy3
    have hTn' := Same.seqT J.same hTn
    have hTa' := Same.seqT J.same hTa
    have la := DpAll.len hAa
    have fin : Q .non H := by
      have := q H (by simpa using J)
      exact this
    refine ⟨_, rfl, _, _, rfl, .inr ⟨_, hT', rfl⟩, rfl, true, by simp, iteT ?_⟩
    refine ⟨_, rfl, t, _, 3, _, rfl, rfl, hT', atI_nat (j := 3) rfl, true, .inr (.inl ⟨_, hTa', ?_⟩), iteT ?_⟩
    · cases was with
      | nil => exact absurd (List.length_eq_zero_iff.mp (by simpa using la.symm)) hne
      | cons _ _ => rfl
    refine ⟨_, rfl, j.o, j.dx, _, rfl, J.slt, _, rfl, t, _, 3, _, rfl, rfl, hT', atI_nat (j := 3) rfl, G, j, n, m, S, .ref ta, _, rfl, J, hz4, hl, ha, true, rfl, iteT ?_⟩
    refine ⟨_, rfl, t, _, 2, _, rfl, rfl, hT', atI_nat (j := 2) rfl, ?_⟩
    refine ⟨_, rfl, .ref tn, .ty "tuple", .type "tuple", .type "tuple", true, rfl, .ty _, tup hTn', kit_ty (a := "tuple") (b := "tuple") (r := true) (by decide +kernel), true, rfl, iteT ?_⟩
    refine ⟨_, rfl, _, _, rfl, .inr ⟨_, hTn', rfl⟩, rfl, true, by simp, iteT ?_⟩
    refine ⟨_, rfl, tn, _, 0, _, rfl, rfl, hTn', atI_nat (j := 0) rfl, rfl, true, by simp, iteT ?_⟩
    refine ⟨_, rfl, tn, _, rfl, hTn', rfl, _, _, rfl, _, _, rfl, _, _, rfl, rfl, ?_⟩
    refine ⟨_, rfl, places J rfl ⟨_, n, rfl, true, by rw [show numB n (.int _) = true from hq], iteT ?_⟩⟩
    refine ⟨_, rfl, .str _, .ty "str", .type "str", .type "str", true, rfl, .ty _, .base (.str _), kit_ty (a := "str") (b := "str") (r := true) (by decide +kernel), true, rfl, iteT ?_⟩
    refine nmsR J rfl ⟨j.nn, rfl, .inl ⟨_, .inl J.nms⟩, _, rfl, _, J.get _, ?_⟩
    rw [hx]
    exact ⟨true, rfl, iteT fin⟩
  | atom ha => cases ha <;> exact absurd (Option.some.inj hw) (by decide)
  | _ => exact absurd (Option.some.inj hw) (by decide)
set_option maxHeartbeats 8000000 in
theorem ok_now {L : Nat} {f fI fW : Addr} {fd fdI fdW : FuncData} (F : Fun K "now_wrong" "now_wrong" sNow f fd) (T : TxtJ K w mg C p0 p1 p2 p3 aJ kv) {D : Str → Nat → Bool}
    (GI : FnOk P w K mg base CX0 3 fI fdI ["thing", "places"] (spPart K)) (kI : PySem.W.keepIn K (.ref fI) = true) (bI : Binds K fdI ["thing", "places"] []) (gI : mg "is_part" = some (.ref fI))
    (GW : FnN P w K mg base CX0 (2 * L + 41) fW fdW ["self", "part", "left"] (spWrong K C D L)) (bW : Binds K fdW ["self", "part", "left"] []) (mW : Meth K C "wrong_in" fW) :
    FnN P w K mg base CX0 (2 * L + 42) f fd ["judge", "part", "left"] (spJudge K C D L "now") := by
  refine okN F scNow (fun vs H Q E h => spJ_len h) (fun cdv A outer st H vs Q E hr h => ?_)
  obtain ⟨G, j, n, m, S, S', v, e, c, rfl, J, hD, hv, hw, hj, hS, q⟩ := h
  have hu := RoomN.u1 hr
  refine ⟨_, (pss_cons (ps_if (pt_not (pt_val (pe_call GI (hr.room (k := 3) (by omega) (by omega)) rfl gI kI bI .nil pass0 (pa_cons (pv 1) (pa_cons (SlX.pe_sl (pv 0)) pa_nil))))) (pss_one (ps_ret (pe_lst (pa_cons pe_str pa_nil)))) pss_nil)
      (pss_cons (ps_set (i := 3) scNow.nd rfl (.inl rfl) (pe_methN (pv 0) T.cl mW GW hr bW pass0 (pa_cons (pe_ix ix_tup (pv 1) pe_int (fun _ _ => rfl)) (pa_cons (pv 2) pa_nil))))
      (pss_cons (ps_if (pt_cmpR op_notN (pv 3) pe_non (nomark _)) (pss_cons (ps_expr (pe_bm PySem.F.plainAttrs_list PySem.F.slot_list_append PySem.F.type_list_append mt_append (pv 3) (pa_cons pe_int pa_nil)))
      (pss_one (ps_ret (pv 3)))) pss_nil)
      (pss_cons (ps_slA (pv 0) pe_int ip_add)
      (pss_one (ps_ret pe_non)))))), ?_⟩
  have tup : ∀ {H1 : Hp} {t : Addr} {ws : List V}, SqT K H1 t ws → TyX K H1 (.ref t) (.type "tuple") := fun h => tyx_seqT h
  have places : ∀ {H1 : Hp} {S1 : Nm} {m1 : Int} {σ : L2.St} {Q' : V → Hp → Prop}, JAt K C G H1 j n S1 m1 → σ[0]? = some (some (.ref j.o)) → Q' (.int n) H1 → SlX.tSl K (tVar 0) "places" σ H1 Q' := fun J1 h0 q' => ⟨_, h0, j.o, C, j.dx, p0, _, 3, _, rfl, J1.slt, T.cl, T.s0, rfl, q'⟩
  have nmsR : ∀ {H1 : Hp} {S1 : Nm} {m1 : Int} {σ : L2.St} {Q' : V → Hp → Prop}, JAt K C G H1 j n S1 m1 → σ[0]? = some (some (.ref j.o)) → Q' (.ref j.nn) H1 → SlX.tSl K (tVar 0) "names" σ H1 Q' := fun J1 h0 q' => ⟨_, h0, j.o, C, j.dx, p2, _, 2, _, rfl, J1.slt, T.cl, T.s2, rfl, q'⟩
  cases hj with
  | now hp hq hx hl h1 =>
    obtain ⟨t, ws, rfl, hT, hA⟩ := tup_open hv
    obtain ⟨z1, ws, rfl, hz1, hA⟩ := all_open hA
    obtain ⟨z2, ws, rfl, hz2, hA⟩ := all_open hA
    obtain ⟨z3, ws, rfl, hz3, hA⟩ := all_open hA
    obtain ⟨z4, ws, rfl, hz4, hA⟩ := all_open hA
    obtain ⟨z5, ws, rfl, hz5, hA⟩ := all_open hA
    obtain rfl := nil_open hA
    cases hz1
    cases hz2
    cases hz3
    cases hz4
    have hT' := Same.seqT J.same hT
    refine ⟨_, rfl, places J rfl ⟨n, .ref t, _, rfl, Dp.same J.same _ _ hv, ⟨rfl, hp, hq, hx, hl⟩, fun H1 s1 => ⟨true, rfl, iteF ?_⟩⟩⟩
    have J1 := J.wide s1
    refine ⟨_, rfl, j.o, j.dx, _, rfl, J1.slt, _, rfl, t, _, 4, _, rfl, rfl, (Same.seqT s1 hT'), atI_nat (j := 4) rfl, _, rfl, G, j, n, _, _, _, _, _, _, rfl, J1, hD, hz5, h1, hS, fun H2 J2 => ?_⟩
    refine ⟨_, rfl, rfl, false, rfl, iteF ?_⟩
    refine ⟨_, rfl, j.o, C, j.dx, p3, _, 1, _, rfl, J2.slt, T.cl, T.s3, rfl, _, 1, rfl, rfl, _, J2.slt, ?_⟩
    exact q _ (by simpa [Int.add_assoc] using J2.many)
  | atom ha => cases ha <;> exact absurd (Option.some.inj hw) (by decide)
  | _ => exact absurd (Option.some.inj hw) (by decide)
set_option maxHeartbeats 8000000 in
theorem ok_deed {L : Nat} {f fW aD : Addr} {fd fdW : FuncData} (F : Fun K "deed_wrong" "deed_wrong" sDeed f fd) (T : TxtJ K w mg C p0 p1 p2 p3 aJ kv) (TD : DeedsOk K w mg aD) {D : Str → Nat → Bool}
    (GW : FnN P w K mg base CX0 (2 * L + 41) fW fdW ["self", "part", "left"] (spWrong K C D L)) (bW : Binds K fdW ["self", "part", "left"] []) (mW : Meth K C "wrong_in" fW) :
    FnN P w K mg base CX0 (2 * L + 42) f fd ["judge", "part", "left"] (spJudge K C D L "deed") := by
  refine okN F scDeed (fun vs H Q E h => spJ_len h) (fun cdv A outer st H vs Q E hr h => ?_)
  obtain ⟨G, j, n, m, S, S', v, e, c, rfl, J, hD, hv, hw, hj, hS, q⟩ := h
  have hu := RoomN.u1 hr
  refine ⟨_, (pss_cons (ps_if (PW.pt (pw_or (pt_cmpR op_ne (pe_callB call_len (by rfl) T.len PySem.boot_len (pa_cons (pv 1) pa_nil)) pe_int (nomark _)) (pw_or (pt_not (pt_val (pe_callB call_isi (by rfl) T.isi (by decide +kernel) (pa_cons (pe_ix ix_tup (pv 1) pe_int (fun _ _ => rfl)) (pa_cons (pe_bltn (v := .ty "str") (by rfl) T.str (by decide +kernel) rfl) pa_nil))))) (pw_or1 (pt_cmpR op_notIn_seq (pe_ix ix_tup (pv 1) pe_int (fun _ _ => rfl)) (pe_glob (v := .ref aD) (by rfl) TD.deeds rfl) rfl))))) (pss_one (ps_ret (pe_lst (pa_cons pe_str pa_nil)))) pss_nil)
      (pss_cons (ps_set (i := 3) scDeed.nd rfl (.inl rfl) (pe_methN (pv 0) T.cl mW GW hr bW pass0 (pa_cons (pe_ix ix_tup (pv 1) pe_int (fun _ _ => rfl)) (pa_cons (pv 2) pa_nil))))
      (pss_cons (ps_if (pt_cmpR op_notN (pv 3) pe_non (nomark _)) (pss_cons (ps_expr (pe_bm PySem.F.plainAttrs_list PySem.F.slot_list_append PySem.F.type_list_append mt_append (pv 3) (pa_cons pe_int pa_nil)))
      (pss_one (ps_ret (pv 3)))) pss_nil)
      (pss_cons (ps_set (i := 3) scDeed.nd rfl (.inl rfl) (pe_methN (pv 0) T.cl mW GW hr bW pass0 (pa_cons (pe_ix ix_tup (pv 1) pe_int (fun _ _ => rfl)) (pa_cons (pv 2) pa_nil))))
      (pss_cons (ps_if (pt_cmpR op_notN (pv 3) pe_non (nomark _)) (pss_cons (ps_expr (pe_bm PySem.F.plainAttrs_list PySem.F.slot_list_append PySem.F.type_list_append mt_append (pv 3) (pa_cons pe_int pa_nil)))
      (pss_one (ps_ret (pv 3)))) pss_nil)
      (pss_cons (ps_slA (pv 0) pe_int ip_add)
      (pss_one (ps_ret pe_non)))))))), ?_⟩
  have tup : ∀ {H1 : Hp} {t : Addr} {ws : List V}, SqT K H1 t ws → TyX K H1 (.ref t) (.type "tuple") := fun h => tyx_seqT h
  have places : ∀ {H1 : Hp} {S1 : Nm} {m1 : Int} {σ : L2.St} {Q' : V → Hp → Prop}, JAt K C G H1 j n S1 m1 → σ[0]? = some (some (.ref j.o)) → Q' (.int n) H1 → SlX.tSl K (tVar 0) "places" σ H1 Q' := fun J1 h0 q' => ⟨_, h0, j.o, C, j.dx, p0, _, 3, _, rfl, J1.slt, T.cl, T.s0, rfl, q'⟩
  have nmsR : ∀ {H1 : Hp} {S1 : Nm} {m1 : Int} {σ : L2.St} {Q' : V → Hp → Prop}, JAt K C G H1 j n S1 m1 → σ[0]? = some (some (.ref j.o)) → Q' (.ref j.nn) H1 → SlX.tSl K (tVar 0) "names" σ H1 Q' := fun J1 h0 q' => ⟨_, h0, j.o, C, j.dx, p2, _, 2, _, rfl, J1.slt, T.cl, T.s2, rfl, q'⟩
  cases hj with
  | deed hp hd h1 h2 =>
    obtain ⟨t, ws, rfl, hT, hA⟩ := tup_open hv
    obtain ⟨z1, ws, rfl, hz1, hA⟩ := all_open hA
    obtain ⟨z2, ws, rfl, hz2, hA⟩ := all_open hA
    obtain ⟨z3, ws, rfl, hz3, hA⟩ := all_open hA
    obtain ⟨z4, ws, rfl, hz4, hA⟩ := all_open hA
    obtain ⟨z5, ws, rfl, hz5, hA⟩ := all_open hA
    obtain rfl := nil_open hA
    cases hz1
    cases hz2
    cases hz3
    have hT' := Same.seqT J.same hT
    have ge2 := h2.ge
    refine ⟨_, rfl, _, _, rfl, .inr ⟨_, hT', rfl⟩, rfl, false, by simp, iteF ?_⟩
    refine ⟨_, rfl, t, _, 2, _, rfl, rfl, hT', atI_nat (j := 2) rfl, .str _, .ty "str", .type "str", .type "str", true, rfl, .ty _, .base (.str _), kit_ty (a := "str") (b := "str") (r := true) (by decide +kernel), true, rfl, iteF ?_⟩
    refine ⟨_, rfl, t, _, 2, _, rfl, rfl, hT', atI_nat (j := 2) rfl, aD, _, rfl, .inr (TD.at_ H), rfl, rfl, false, deed_in hd, iteF ?_⟩
    refine ⟨_, rfl, j.o, j.dx, _, rfl, J.slt, _, rfl, t, _, 3, _, rfl, rfl, hT', atI_nat (j := 3) rfl, _, rfl, G, j, n, _, _, _, _, _, _, rfl, J, hD, hz4, h1, (Nat.le_trans ge2 hS), fun H1 J1 => ?_⟩
    refine ⟨_, rfl, rfl, false, rfl, iteF ?_⟩
    refine ⟨_, rfl, j.o, j.dx, _, rfl, J1.slt, _, rfl, t, _, 4, _, rfl, rfl, (Same.seqT J1.same hT), atI_nat (j := 4) rfl, _, rfl, G, j, n, _, _, _, _, _, _, rfl, J1, hD, hz5, h2, hS, fun H2 J2 => ?_⟩
    refine ⟨_, rfl, rfl, false, rfl, iteF ?_⟩
    refine ⟨_, rfl, j.o, C, j.dx, p3, _, 1, _, rfl, J2.slt, T.cl, T.s3, rfl, _, 2, rfl, rfl, _, J2.slt, ?_⟩
    exact q _ (by simpa [Int.add_assoc] using J2.many)
  | atom ha => cases ha <;> exact absurd (Option.some.inj hw) (by decide)
  | _ => exact absurd (Option.some.inj hw) (by decide)
set_option maxHeartbeats 8000000 in
theorem ok_early {L : Nat} {f fI fW fB fF : Addr} {fd fdI fdW fdB fdF : FuncData} {spF : Sp} (F : Fun K "early_wrong" "early_wrong" sEarly f fd) (T : TxtJ K w mg C p0 p1 p2 p3 aJ kv) {D : Str → Nat → Bool}
    (GI : FnOk P w K mg base CX0 3 fI fdI ["thing", "places"] (spPart K)) (kI : PySem.W.keepIn K (.ref fI) = true) (bI : Binds K fdI ["thing", "places"] []) (gI : mg "is_part" = some (.ref fI))
    (GB : FnOk P w K mg base CX0 2 fB fdB ["self", "names", "is_around"] (spBind K C)) (bB : Binds K fdB ["self", "names", "is_around"] []) (mB : Meth K C "bind" fB)
    (GF : FnOk P w K mg base CX0 5 fF fdF ["self", "part"] spF) (bF : Binds K fdF ["self", "part"] []) (mF : Meth K C "fault" fF)
    (GW : FnN P w K mg base CX0 (2 * L + 41) fW fdW ["self", "part", "left"] (spWrong K C D L)) (bW : Binds K fdW ["self", "part", "left"] []) (mW : Meth K C "wrong_in" fW) :
    FnN P w K mg base CX0 (2 * L + 42) f fd ["judge", "part", "left"] (spJudge K C D L "early") := by
  refine okN F scEarly (fun vs H Q E h => spJ_len h) (fun cdv A outer st H vs Q E hr h => ?_)
  obtain ⟨G, j, n, m, S, S', v, e, c, rfl, J, hD, hv, hw, hj, hS, q⟩ := h
  have hu := RoomN.u1 hr
  refine ⟨_, (pss_cons (ps_if (PW.pt (pw_or (pt_not (pt_val (pe_call GI (hr.room (k := 3) (by omega) (by omega)) rfl gI kI bI .nil pass0 (pa_cons (pv 1) (pa_cons (SlX.pe_sl (pv 0)) pa_nil))))) (pw_or1 (pt_not (pt_val (pe_methS (pv 0) T.cl mB GB (hr.room (k := 2) (by omega) (by omega)) bB pass0 (pa_cons (pe_tup (pa_cons (pe_ix ix_tup (pv 1) pe_int (fun _ _ => rfl)) pa_nil)) (pa_cons pe_bl pa_nil)))))))) (pss_one (ps_ret (pe_methS (pv 0) T.cl mF GF (hr.room (k := 5) (by omega) (by omega)) bF pass0 (pa_cons (pv 1) pa_nil)))) pss_nil)
      (pss_cons (ps_set (i := 3) scEarly.nd rfl (.inl rfl) (pe_methN (pv 0) T.cl mW GW hr bW pass0 (pa_cons (pe_ix ix_tup (pv 1) pe_int (fun _ _ => rfl)) (pa_cons (pv 2) pa_nil))))
      (pss_cons (ps_if (pt_cmpR op_notN (pv 3) pe_non (nomark _)) (pss_cons (ps_expr (pe_bm PySem.F.plainAttrs_list PySem.F.slot_list_append PySem.F.type_list_append mt_append (pv 3) (pa_cons pe_int pa_nil)))
      (pss_one (ps_ret (pv 3)))) pss_nil)
      (pss_cons (ps_dput hu (SlX.pe_sl (pv 0)) (pe_ix ix_tup (pv 1) pe_int (fun _ _ => rfl)) pe_bl rfl)
      (pss_cons (ps_set (i := 3) scEarly.nd rfl (.inl rfl) (pe_methN (pv 0) T.cl mW GW hr bW pass0 (pa_cons (pe_ix ix_tup (pv 1) pe_int (fun _ _ => rfl)) (pa_cons (pv 2) pa_nil))))
      (pss_cons (ps_if (pt_cmpR op_notN (pv 3) pe_non (nomark _)) (pss_cons (ps_expr (pe_bm PySem.F.plainAttrs_list PySem.F.slot_list_append PySem.F.type_list_append mt_append (pv 3) (pa_cons pe_int pa_nil)))
      (pss_one (ps_ret (pv 3)))) pss_nil)
      (pss_cons (ps_dput hu (SlX.pe_sl (pv 0)) (pe_ix ix_tup (pv 1) pe_int (fun _ _ => rfl)) pe_bl rfl)
      (pss_cons (ps_slA (pv 0) pe_int ip_add)
      (pss_one (ps_ret pe_non)))))))))), ?_⟩
  have tup : ∀ {H1 : Hp} {t : Addr} {ws : List V}, SqT K H1 t ws → TyX K H1 (.ref t) (.type "tuple") := fun h => tyx_seqT h
  have places : ∀ {H1 : Hp} {S1 : Nm} {m1 : Int} {σ : L2.St} {Q' : V → Hp → Prop}, JAt K C G H1 j n S1 m1 → σ[0]? = some (some (.ref j.o)) → Q' (.int n) H1 → SlX.tSl K (tVar 0) "places" σ H1 Q' := fun J1 h0 q' => ⟨_, h0, j.o, C, j.dx, p0, _, 3, _, rfl, J1.slt, T.cl, T.s0, rfl, q'⟩
  have nmsR : ∀ {H1 : Hp} {S1 : Nm} {m1 : Int} {σ : L2.St} {Q' : V → Hp → Prop}, JAt K C G H1 j n S1 m1 → σ[0]? = some (some (.ref j.o)) → Q' (.ref j.nn) H1 → SlX.tSl K (tVar 0) "names" σ H1 Q' := fun J1 h0 q' => ⟨_, h0, j.o, C, j.dx, p2, _, 2, _, rfl, J1.slt, T.cl, T.s2, rfl, q'⟩
  cases hj with
  | @early _ _ S1 S2 p q x e1 e2 c1 c2 hp hq hn hx hl h1 h2 =>
    obtain ⟨t, ws, rfl, hT, hA⟩ := tup_open hv
    obtain ⟨z1, ws, rfl, hz1, hA⟩ := all_open hA
    obtain ⟨z2, ws, rfl, hz2, hA⟩ := all_open hA
    obtain ⟨z3, ws, rfl, hz3, hA⟩ := all_open hA
    obtain ⟨z4, ws, rfl, hz4, hA⟩ := all_open hA
    obtain ⟨z5, ws, rfl, hz5, hA⟩ := all_open hA
    obtain ⟨z6, ws, rfl, hz6, hA⟩ := all_open hA
    obtain rfl := nil_open hA
    cases hz1
    cases hz2
    cases hz3
    cases hz5
    have hT' := Same.seqT J.same hT
    have g2 : S2.length ≤ 16000000 := Nat.le_trans (putN_ge S2 x false) hS
    have g1 : (putN S1 x true).length ≤ 16000000 := Nat.le_trans h2.ge g2
    have g1' : S1.length ≤ 16000000 := Nat.le_trans (putN_ge S1 x true) g1
    have g0 : (putN S x false).length ≤ 16000000 := Nat.le_trans h1.ge g1'
    refine ⟨_, rfl, places J rfl ⟨n, .ref t, _, rfl, Dp.same J.same _ _ hv, ⟨rfl, hp, hq, hx, hl⟩, fun H1 s1 => ⟨true, rfl, iteF ?_⟩⟩⟩
    have J1 := J.wide s1
    refine ⟨_, rfl, j.o, j.dx, _, rfl, J1.slt, _, rfl, t, _, 2, _, rfl, rfl, Same.seqT s1 hT', atI_nat (j := 2) rfl, by show 1 ≤ sizeLine; decide, fun T1 nT1 => ?_⟩
    refine ⟨upd G T1 (.tup [.str x]), j, n, m, S, _, T1, [x], false, rfl, J1.grow nT1, SqT.of upd_same, .cons hn hx hl .nil, g0, fun H3 J3' => ⟨true, rfl, iteF ?_⟩⟩
    have J3 := J3'.less (J1.none nT1)
    refine ⟨_, rfl, j.o, j.dx, _, rfl, J3.slt, _, rfl, t, _, 3, _, rfl, rfl, (Same.seqT J3.same hT), atI_nat (j := 3) rfl, _, rfl, G, j, n, _, _, _, _, _, _, rfl, J3, hD, hz4, h1, g1', fun H4 J4 => ?_⟩
    refine ⟨_, rfl, rfl, false, rfl, iteF ?_⟩
    refine ⟨_, rfl, j.o, C, j.dx, p2, _, 2, _, rfl, J4.slt, T.cl, T.s2, rfl, _, rfl, t, _, 2, _, rfl, rfl, Same.seqT J4.same hT, atI_nat (j := 2) rfl, j.nn, _, rfl, DPut.k (k := .inr x) J4.nms (nm_lt g1'), ?_⟩
    have J5 := J4.put (x := x) (b := true)
    refine ⟨_, rfl, j.o, j.dx, _, rfl, J5.slt, _, rfl, t, _, 5, _, rfl, rfl, (Same.seqT J5.same hT), atI_nat (j := 5) rfl, _, rfl, G, j, n, _, _, _, _, _, _, rfl, J5, hD, hz6, h2, g2, fun H6 J6 => ?_⟩
    refine ⟨_, rfl, rfl, false, rfl, iteF ?_⟩
    refine ⟨_, rfl, j.o, C, j.dx, p2, _, 2, _, rfl, J6.slt, T.cl, T.s2, rfl, _, rfl, t, _, 2, _, rfl, rfl, Same.seqT J6.same hT, atI_nat (j := 2) rfl, j.nn, _, rfl, DPut.k (k := .inr x) J6.nms (nm_lt g2), ?_⟩
    have J7 := J6.put (x := x) (b := false)
    refine ⟨_, rfl, j.o, C, j.dx, p3, _, 1, _, rfl, J7.slt, T.cl, T.s3, rfl, _, 2, rfl, rfl, _, J7.slt, ?_⟩
    exact q _ (by simpa [Int.add_assoc] using J7.many)
  | atom ha => cases ha <;> exact absurd (Option.some.inj hw) (by decide)
  | _ => exact absurd (Option.some.inj hw) (by decide)
set_option maxHeartbeats 8000000 in
theorem ok_fun {L : Nat} {f fW fB fF : Addr} {fd fdW fdB fdF : FuncData} {spF : Sp} {tM : Tok} (F : Fun K "fun_wrong" "fun_wrong" sFun f fd) (T : TxtJ K w mg C p0 p1 p2 p3 aJ kv) {D : Str → Nat → Bool} (gM : mg "MOST_THINGS" = some (.int 60 tM))
    (GB : FnOk P w K mg base CX0 2 fB fdB ["self", "names", "is_around"] (spBind K C)) (bB : Binds K fdB ["self", "names", "is_around"] []) (mB : Meth K C "bind" fB)
    (GF : FnOk P w K mg base CX0 5 fF fdF ["self", "part"] spF) (bF : Binds K fdF ["self", "part"] []) (mF : Meth K C "fault" fF)
    (GW : FnN P w K mg base CX0 (2 * L + 41) fW fdW ["self", "part", "left"] (spWrong K C D L)) (bW : Binds K fdW ["self", "part", "left"] []) (mW : Meth K C "wrong_in" fW) :
    FnN P w K mg base CX0 (2 * L + 42) f fd ["judge", "part", "left"] (spJudge K C D L "fun") := by
  refine okN F scFun (fun vs H Q E h => spJ_len h) (fun cdv A outer st H vs Q E hr h => ?_)
  obtain ⟨G, j, n, m, S, S', v, e, c, rfl, J, hD, hv, hw, hj, hS, q⟩ := h
  have hu := RoomN.u1 hr
  refine ⟨_, (pss_cons (ps_if (pt_cmpR op_ne (pe_callB call_len (by rfl) T.len PySem.boot_len (pa_cons (pv 1) pa_nil)) pe_int (nomark _)) (pss_one (ps_ret (pe_lst (pa_cons pe_str pa_nil)))) pss_nil)
      (pss_cons (ps_set (i := 3) scFun.nd rfl (.inl rfl) (pe_ix ix_tup (pv 1) pe_int (fun _ _ => rfl)))
      (pss_cons (ps_if (PW.pt (pw_or (pt_not (pt_val (pe_callB call_isi (by rfl) T.isi (by decide +kernel) (pa_cons (pv 3) (pa_cons (pe_bltn (v := .ty "tuple") (by rfl) T.tuple (by decide +kernel) rfl) pa_nil))))) (pw_or (pt_not (pt_chain op_lt op_le pe_int (pe_callB call_len (by rfl) T.len PySem.boot_len (pa_cons (pv 3) pa_nil)) (pe_glob (v := .int 60) (by rfl) gM ⟨_, rfl⟩))) (pw_or1 (pt_not (pt_val (pe_methS (pv 0) T.cl mB GB (hr.room (k := 2) (by omega) (by omega)) bB pass0 (pa_cons (pv 3) (pa_cons pe_bl pa_nil))))))))) (pss_one (ps_ret (pe_methS (pv 0) T.cl mF GF (hr.room (k := 5) (by omega) (by omega)) bF pass0 (pa_cons (pv 1) pa_nil)))) pss_nil)
      (pss_cons (ps_set (i := 4) scFun.nd rfl (.inl rfl) (pe_methN (pv 0) T.cl mW GW hr bW pass0 (pa_cons (pe_ix ix_tup (pv 1) pe_int (fun _ _ => rfl)) (pa_cons (pv 2) pa_nil))))
      (pss_cons (ps_if (pt_cmpR op_notN (pv 4) pe_non (nomark _)) (pss_cons (ps_expr (pe_bm PySem.F.plainAttrs_list PySem.F.slot_list_append PySem.F.type_list_append mt_append (pv 4) (pa_cons pe_int pa_nil)))
      (pss_one (ps_ret (pv 4)))) pss_nil)
      (pss_cons (ps_slA (pv 0) pe_int ip_add)
      (pss_cons (ps_set (i := 5) scFun.nd rfl (.inl rfl) (SlX.pe_sl (pv 0)))
      (pss_cons (ps_for PassesOwn.never rfl (pi_tup (pv 3)) (pg_name (i := 6) scFun.nd rfl (.inl rfl)) (pss_one (ps_dput hu (pv 5) (pv 6) pe_bl rfl)))
      (pss_one (ps_ret pe_non)))))))))), ?_⟩
  have tup : ∀ {H1 : Hp} {t : Addr} {ws : List V}, SqT K H1 t ws → TyX K H1 (.ref t) (.type "tuple") := fun h => tyx_seqT h
  have places : ∀ {H1 : Hp} {S1 : Nm} {m1 : Int} {σ : L2.St} {Q' : V → Hp → Prop}, JAt K C G H1 j n S1 m1 → σ[0]? = some (some (.ref j.o)) → Q' (.int n) H1 → SlX.tSl K (tVar 0) "places" σ H1 Q' := fun J1 h0 q' => ⟨_, h0, j.o, C, j.dx, p0, _, 3, _, rfl, J1.slt, T.cl, T.s0, rfl, q'⟩
  have nmsR : ∀ {H1 : Hp} {S1 : Nm} {m1 : Int} {σ : L2.St} {Q' : V → Hp → Prop}, JAt K C G H1 j n S1 m1 → σ[0]? = some (some (.ref j.o)) → Q' (.ref j.nn) H1 → SlX.tSl K (tVar 0) "names" σ H1 Q' := fun J1 h0 q' => ⟨_, h0, j.o, C, j.dx, p2, _, 2, _, rfl, J1.slt, T.cl, T.s2, rfl, q'⟩
  cases hj with
  | @func _ _ S1 S2 p xs e1 c1 hp hne hl hb h1 =>
    obtain ⟨t, ws, rfl, hT, hA⟩ := tup_open hv
    obtain ⟨z1, ws, rfl, hz1, hA⟩ := all_open hA
    obtain ⟨z2, ws, rfl, hz2, hA⟩ := all_open hA
    obtain ⟨z3, ws, rfl, hz3, hA⟩ := all_open hA
    obtain ⟨z4, ws, rfl, hz4, hA⟩ := all_open hA
    obtain rfl := nil_open hA
    cases hz1
    cases hz2
    have hT' := Same.seqT J.same hT
    obtain ⟨tn, wn, rfl, hTn, hAn⟩ := tup_open hz3
    obtain rfl := all_strs hAn
    have hTn' := Same.seqT J.same hTn
    have lw : (xs.map V.str).length = xs.length := List.length_map _
    have hpos : 0 < xs.length := List.length_pos_iff.mpr hne
    have g2 : S2.length ≤ 16000000 := Nat.le_trans (putAll_ge xs S2 false) hS
    have g1 : S1.length ≤ 16000000 := Nat.le_trans h1.ge g2
    refine ⟨_, rfl, _, _, rfl, .inr ⟨_, hT', rfl⟩, rfl, false, by simp, iteF ?_⟩
    refine ⟨_, rfl, t, _, 2, _, rfl, rfl, hT', atI_nat (j := 2) rfl, ?_⟩
    refine ⟨_, rfl, .ref tn, .ty "tuple", .type "tuple", .type "tuple", true, rfl, .ty _, tup hTn', kit_ty (a := "tuple") (b := "tuple") (r := true) (by decide +kernel), true, rfl, iteF ?_⟩
    refine ⟨_, rfl, _, _, rfl, .inr ⟨_, hTn', rfl⟩, 0, _, rfl, rfl, true, bl_t (by rw [lw]; omega), iteT ⟨_, _, rfl, rfl, true, bl_t (by rw [lw]; omega), iteF ?_⟩⟩
    refine ⟨_, rfl, j.o, j.dx, _, rfl, J.slt, _, rfl, G, j, n, m, S, S1, tn, xs, true, rfl, J, hTn, hb, g1, fun H1 J1 => ⟨true, rfl, iteF ?_⟩⟩
    refine ⟨_, rfl, j.o, j.dx, _, rfl, J1.slt, _, rfl, t, _, 3, _, rfl, rfl, (Same.seqT J1.same hT), atI_nat (j := 3) rfl, _, rfl, G, j, n, _, _, _, _, _, _, rfl, J1, hD, hz4, h1, g2, fun H2 J2 => ?_⟩
    refine ⟨_, rfl, rfl, false, rfl, iteF ?_⟩
    refine ⟨_, rfl, j.o, C, j.dx, p3, _, 1, _, rfl, J2.slt, T.cl, T.s3, rfl, _, 1, rfl, rfl, _, J2.slt, ?_⟩
    have J3 := J2.many (m' := m + c1 + 1)
    refine ⟨_, rfl, j.o, C, j.dx, p2, _, 2, _, rfl, J3.slt, T.cl, T.s2, rfl, ?_⟩
    refine ⟨_, rfl, tn, rfl, ⟨_, Same.seqT J3.same hTn⟩, for_tup (K := K) (a := tn) (xs := xs.map V.str) (fun i σ H' => ∃ v6 : Option V, σ = [some (.ref j.o), some (.ref t), some (.int (L : Int)), some (.ref tn), some .non, some (.ref j.nn), v6] ∧ JAt K C G H' j n (putAll S2 (xs.take i) false) (m + c1 + 1))
      ⟨none, rfl, by simpa [putAll] using J3⟩ (fun i σ H' _ ⟨_, _, J4⟩ => Same.seqT J4.same hTn) ?_ ?_⟩
    · rintro i x σ H' hx ⟨v6, rfl, J4⟩
      rw [List.getElem?_map, Option.map_eq_some_iff] at hx
      obtain ⟨x, hx, rfl⟩ := hx
      have e1 : putAll S2 (xs.take (i + 1)) false = putN (putAll S2 (xs.take i) false) x false := putAll_succ S2 hx false
      have g4 : (putAll S2 (xs.take i) false).length ≤ 16000000 := Nat.le_trans (putAll_take S2 xs i false) hS
      refine ⟨_, rfl, _, rfl, j.nn, _, rfl, DPut.k (k := .inr x) J4.nms (nm_lt g4), some (.str x), rfl, ?_⟩
      rw [e1]
      exact J4.put
    · rintro σ H' ⟨v6, rfl, J4⟩
      rw [lw, List.take_length] at J4
      exact q _ (by simpa [Int.add_assoc] using J4)
  | atom ha => cases ha <;> exact absurd (Option.some.inj hw) (by decide)
  | _ => exact absurd (Option.some.inj hw) (by decide)
end
end J45

set_option Elab.async false
set_option maxRecDepth 100000
/-! atoms right, names bound, parts by their own form -/
namespace J45
open PySem PySem.Spec PyProof.Rows L2 Hx Xr RN
abbrev jRight : Stmt := inClass (top judgeI) 5
abbrev jBind : Stmt := inClass (top judgeI) 6
abbrev sEarlyF : Stmt := top 24
abbrev sNowF : Stmt := top 25
abbrev sPartF : Stmt := top 27
section
variable {P : Program} {w : World} {K : PySem.W.Frag} {mg : Str → Option Value} {base : Heap} {C p0 p1 p2 p3 aJ : Addr} {kv : List (Str × V)}
theorem scRight : FnScope ["self", "atoms", "places", "names", "atom", "word", "p", "x"] ["self", "atoms"] (defScope jRight) := ⟨rfl, rfl, rfl, by decide +kernel, rfl, by decide +kernel, by decide +kernel⟩
theorem scBind : FnScope ["self", "names", "is_around", "bound", "name"] ["self", "names", "is_around"] (defScope jBind) := ⟨rfl, rfl, rfl, by decide +kernel, rfl, by decide +kernel, by decide +kernel⟩
theorem scEarlyF : FnScope ["part", "places"] ["part", "places"] (defScope sEarlyF) := ⟨rfl, rfl, rfl, by decide +kernel, rfl, by decide +kernel, by decide +kernel⟩
theorem scNowF : FnScope ["part", "places"] ["part", "places"] (defScope sNowF) := ⟨rfl, rfl, rfl, by decide +kernel, rfl, by decide +kernel, by decide +kernel⟩
theorem scPart : FnScope ["thing", "places", "form"] ["thing", "places"] (defScope sPartF) := ⟨rfl, rfl, rfl, by decide +kernel, rfl, by decide +kernel, by decide +kernel⟩
theorem ru1 {k : Nat} {A : Around} (r : Room k A) : A.units + 1 < cLine := by have := r.un; omega
theorem range_rdV {σ : L2.St} {H : Hp} {n p : Int} {a b : Nat} (h4 : σ[a]? = some (some (.int p))) (h2 : σ[b]? = some (some (.int n))) {R : Bool → Hp → Prop} (q : R (inP n p) H) :
    tOr (tTest (tChain (rI0 fun i j => V.bl (decide (i < j))) (rI0 fun i j => V.bl (decide (i < j))) (tC (.int 1)) (tVar a) (tVar b))) (tB (tCall spPlace [] E0 (tCons (tVar a) (tCons (tVar b) tNil)))) σ H R := by
  have call : tB (tCall spPlace [] E0 (tCons (tVar a) (tCons (tVar b) tNil))) σ H R := ⟨_, h4, _, h2, p, n, rfl, inP n p, rfl, q⟩
  refine ⟨_, h4, 1, p, rfl, rfl, decide (1 < p), rfl, ?_⟩
  by_cases c : 1 < p
  · rw [decide_eq_true c]
    refine iteT ⟨_, h2, p, n, rfl, rfl, decide (p < n), rfl, ?_⟩
    by_cases c2 : p < n
    · have e : inP n p = true := by
        unfold inP
        rw [Bool.and_eq_true, decide_eq_true_eq, decide_eq_true_eq]
        omega
      rw [e] at q
      rw [decide_eq_true c2]
      exact iteT q
    · rw [decide_eq_false c2]
      exact iteF call
  · rw [decide_eq_false c]
    exact ⟨false, rfl, iteF call⟩
set_option maxHeartbeats 8000000 in
theorem ok_right {f fP fN : Addr} {fd fdP fdN : FuncData} {tM : Tok} (F : Fun K "are_right" "Judge.are_right" jRight f fd) (T : TxtJ K w mg C p0 p1 p2 p3 aJ kv) (gM : mg "MOST_THINGS" = some (.int 60 tM))
    (GP : FnOk P w K mg base CX0 1 fP fdP ["thing", "places"] spPlace) (kP : PySem.W.keepIn K (.ref fP) = true) (bP : Binds K fdP ["thing", "places"] []) (gP : mg "is_place_number" = some (.ref fP))
    (GN : FnOk P w K mg base CX0 1 fN fdN ["thing"] spNum) (kN : PySem.W.keepIn K (.ref fN) = true) (bN : Binds K fdN ["thing"] []) (gN : mg "is_number" = some (.ref fN)) :
    FnOk P w K mg base CX0 2 f fd ["self", "atoms"] (spRight K C) := by
  refine F.ok scRight (fun vs H Q E h => ?_) (fun cdv A outer st H vs Q E hr h => ?_)
  · obtain ⟨G, j, n, m, S, v, as, rfl, _⟩ := h
    rfl
  obtain ⟨G, j, n, m, S, v, as, rfl, J, hv, hl, ha, q⟩ := h
  have hu := ru1 hr
  refine ⟨_, (pss_cons (ps_if (PW.pt (pw_or (pt_not (pt_val (pe_callB call_isi (by rfl) T.isi (by decide +kernel) (pa_cons (pv 1) (pa_cons (pe_bltn (v := .ty "tuple") (by rfl) T.tuple (by decide +kernel) rfl) pa_nil))))) (pw_or1 (pt_cmpR op_gt (pe_callB call_len (by rfl) T.len PySem.boot_len (pa_cons (pv 1) pa_nil)) (pe_glob (v := .int 60) (by rfl) gM ⟨_, rfl⟩) (nomark _))))) (pss_one (ps_ret pe_bl)) pss_nil)
      (pss_cons (ps_set (i := 2) scRight.nd rfl (.inl rfl) (SlX.pe_sl (pv 0)))
      (pss_cons (ps_set (i := 3) scRight.nd rfl (.inl rfl) (SlX.pe_sl (pv 0)))
      (pss_cons (ps_for PassesOwn.never rfl (pi_tup (pv 1)) (pg_name (i := 4) scRight.nd rfl (.inl rfl)) (pss_cons (ps_if (PW.pt (pw_or (pt_not (pt_val (pe_callB call_isi (by rfl) T.isi (by decide +kernel) (pa_cons (pv 4) (pa_cons (pe_bltn (v := .ty "tuple") (by rfl) T.tuple (by decide +kernel) rfl) pa_nil))))) (pw_or1 (pt_cmpR op_ne (pe_callB call_len (by rfl) T.len PySem.boot_len (pa_cons (pv 4) pa_nil)) pe_int (nomark _))))) (pss_one (ps_ret pe_bl)) pss_nil)
      (pss_cons (ps_asg (pv 4) (pg_tup rfl (pgs_cons (pg_name (i := 5) scRight.nd rfl (.inl rfl)) (pgs_cons (pg_name (i := 6) scRight.nd rfl (.inl rfl)) (pgs_cons (pg_name (i := 7) scRight.nd rfl (.inl rfl)) pgs_nil)))))
      (pss_cons (ps_if (PW.pt (pw_or (pt_not (pt_val (pe_callB call_isi (by rfl) T.isi (by decide +kernel) (pa_cons (pv 6) (pa_cons (pe_bltn (v := .ty "int") (by rfl) T.int (by decide +kernel) rfl) pa_nil))))) (pw_or1 (pt_not (PW.pt (pw_or (pt_chain op_lt op_lt pe_int (pv 6) (pv 2)) (pw_or1 (pt_val (pe_call GP (hr.mono (by decide)) rfl gP kP bP .nil pass0 (pa_cons (pv 6) (pa_cons (pv 2) pa_nil))))))))))) (pss_one (ps_ret pe_bl)) pss_nil)
      (pss_one (ps_if (pt_cmpR op_eq (pv 5) pe_str (nomark _)) (pss_one (ps_if (PW.pt (pw_or (pt_not (pt_val (pe_callB call_isi (by rfl) T.isi (by decide +kernel) (pa_cons (pv 7) (pa_cons (pe_bltn (v := .ty "str") (by rfl) T.str (by decide +kernel) rfl) pa_nil))))) (pw_or (pt_cmp (pc_dnotin hu (pv 7) (pv 3)) rfl) (pw_or1 (pt_not (pt_truth (pe_dget hu (pv 3) (pv 7) (fun _ _ => rfl)) (fun _ => rfl))))))) (pss_one (ps_ret pe_bl)) pss_nil)) (pss_one (ps_if (PW.pt (pw_or (pt_cmpR op_ne (pv 5) pe_str (nomark _)) (pw_or1 (pt_not (pt_val (pe_call GN (hr.mono (by decide)) rfl gN kN bN .nil pass0 (pa_cons (pv 7) pa_nil))))))) (pss_one (ps_ret pe_bl)) pss_nil))))))))
      (pss_one (ps_ret pe_bl)))))), ?_⟩
  have tup : ∀ {H1 : Hp} {t : Addr} {ws : List V}, SqT K H1 t ws → TyX K H1 (.ref t) (.type "tuple") := fun h => tyx_seqT h
  obtain ⟨ta, was, rfl, hTa, hA⟩ := tup_open hv
  have hTa' := Same.seqT J.same hTa
  have la := DpAll.len hA
  refine ⟨_, rfl, .ref ta, .ty "tuple", .type "tuple", .type "tuple", true, rfl, .ty _, tup hTa', kit_ty (a := "tuple") (b := "tuple") (r := true) (by decide +kernel), true, rfl, iteF ?_⟩
  refine ⟨_, rfl, _, _, rfl, .inr ⟨_, hTa', rfl⟩, _, _, rfl, rfl, false, bl_f (by omega), iteF ?_⟩
  refine ⟨_, rfl, j.o, C, j.dx, p0, _, 3, _, rfl, J.slt, T.cl, T.s0, rfl, _, rfl, j.o, C, j.dx, p2, _, 2, _, rfl, J.slt, T.cl, T.s2, rfl, ?_⟩
  refine ⟨_, rfl, ta, rfl, ⟨_, hTa'⟩, for_tup (K := K) (a := ta) (xs := was) (fun i σ H' => ∃ v4 v5 v6 v7 : Option V, σ = [some (.ref j.o), some (.ref ta), some (.int n), some (.ref j.nn), v4, v5, v6, v7] ∧ H' = H)
    ⟨none, none, none, none, rfl, rfl⟩ (fun i σ H' _ ⟨_, _, _, _, _, e⟩ => by rw [e]; exact hTa') ?_ ?_⟩
  · rintro i x σ H' hx ⟨v4, v5, v6, v7, rfl, rfl⟩
    obtain ⟨d, hd, dk⟩ := DpAll.get hA hx
    have haj := ha d (List.mem_of_getElem? hd)
    cases haj with
    | @name p x hp hx' =>
      obtain ⟨t, ws, rfl, hT, hA2⟩ := tup_open dk
      obtain ⟨z1, ws, rfl, hz1, hA2⟩ := all_open hA2
      obtain ⟨z2, ws, rfl, hz2, hA2⟩ := all_open hA2
      obtain ⟨z3, ws, rfl, hz3, hA2⟩ := all_open hA2
      obtain rfl := nil_open hA2
      cases hz1
      cases hz2
      cases hz3
      have hT' := Same.seqT J.same hT
      refine ⟨_, rfl, .ref t, .ty "tuple", .type "tuple", .type "tuple", true, rfl, .ty _, tup hT', kit_ty (a := "tuple") (b := "tuple") (r := true) (by decide +kernel), true, rfl, iteF ?_⟩
      refine ⟨_, rfl, _, _, rfl, .inr ⟨_, hT', rfl⟩, rfl, false, by simp, iteF ?_⟩
      refine ⟨_, rfl, t, _, rfl, hT', rfl, _, _, rfl, _, _, rfl, _, _, rfl, rfl, ?_⟩
      refine ⟨_, rfl, .int p, .ty "int", .type "int", .type "int", true, rfl, .ty _, .base (.int _), kit_ty (a := "int") (b := "int") (r := true) (by decide +kernel), true, rfl, iteF ?_⟩
      refine range_rdV (n := n) (p := p) rfl rfl ?_
      rw [hp]
      refine iteF ⟨_, rfl, rfl, true, by simp, iteT ?_⟩
      refine ⟨_, rfl, .str x, .ty "str", .type "str", .type "str", true, rfl, .ty _, .base (.str _), kit_ty (a := "str") (b := "str") (r := true) (by decide +kernel), true, rfl, iteF ?_⟩
      have hg := J.get x
      rw [hx'] at hg
      refine ⟨_, rfl, _, rfl, j.nn, _, rfl, hg, false, rfl, iteF ⟨_, rfl, _, rfl, j.nn, _, rfl, hg, true, rfl, iteF ?_⟩⟩
      exact ⟨_, _, _, _, rfl, rfl⟩
    | @num p i hp hi =>
      obtain ⟨t, ws, rfl, hT, hA2⟩ := tup_open dk
      obtain ⟨z1, ws, rfl, hz1, hA2⟩ := all_open hA2
      obtain ⟨z2, ws, rfl, hz2, hA2⟩ := all_open hA2
      obtain ⟨z3, ws, rfl, hz3, hA2⟩ := all_open hA2
      obtain rfl := nil_open hA2
      cases hz1
      cases hz2
      cases hz3
      have hT' := Same.seqT J.same hT
      refine ⟨_, rfl, .ref t, .ty "tuple", .type "tuple", .type "tuple", true, rfl, .ty _, tup hT', kit_ty (a := "tuple") (b := "tuple") (r := true) (by decide +kernel), true, rfl, iteF ?_⟩
      refine ⟨_, rfl, _, _, rfl, .inr ⟨_, hT', rfl⟩, rfl, false, by simp, iteF ?_⟩
      refine ⟨_, rfl, t, _, rfl, hT', rfl, _, _, rfl, _, _, rfl, _, _, rfl, rfl, ?_⟩
      refine ⟨_, rfl, .int p, .ty "int", .type "int", .type "int", true, rfl, .ty _, .base (.int _), kit_ty (a := "int") (b := "int") (r := true) (by decide +kernel), true, rfl, iteF ?_⟩
      refine range_rdV (n := n) (p := p) rfl rfl ?_
      rw [hp]
      refine iteF ⟨_, rfl, rfl, false, wno (by decide +kernel), iteF ?_⟩
      refine ⟨_, rfl, rfl, false, by simp, iteF ⟨_, rfl, _, rfl, .inl ⟨i, rfl⟩, true, by rw [hi], iteF ?_⟩⟩
      exact ⟨_, _, _, _, rfl, rfl⟩
  · rintro σ H' ⟨v4, v5, v6, v7, rfl, rfl⟩
    exact q
set_option maxHeartbeats 8000000 in
theorem ok_bind {f fA : Addr} {fd fdA : FuncData} (F : Fun K "bind" "Judge.bind" jBind f fd) (T : TxtJ K w mg C p0 p1 p2 p3 aJ kv)
    (GA : FnOk P w K mg base CX0 1 fA fdA ["thing"] spName) (kA : PySem.W.keepIn K (.ref fA) = true) (bA : Binds K fdA ["thing"] []) (gA : mg "is_name" = some (.ref fA)) :
    FnOk P w K mg base CX0 2 f fd ["self", "names", "is_around"] (spBind K C) := by
  refine F.ok scBind (fun vs H Q E h => ?_) (fun cdv A outer st H vs Q E hr h => ?_)
  · obtain ⟨G, j, n, m, S, S', t, xs, b, rfl, _⟩ := h
    rfl
  obtain ⟨G, j, n, m, S, S', t, xs, b, rfl, J, hT, hb, hS, q⟩ := h
  have hu := ru1 hr
  refine ⟨_, (pss_cons (ps_set (i := 3) scBind.nd rfl (.inl rfl) (SlX.pe_sl (pv 0)))
      (pss_cons (ps_for PassesOwn.never rfl (pi_tup (pv 1)) (pg_name (i := 4) scBind.nd rfl (.inl rfl)) (pss_cons (ps_if (PW.pt (pw_or (pt_not (pt_val (pe_callB call_isi (by rfl) T.isi (by decide +kernel) (pa_cons (pv 4) (pa_cons (pe_bltn (v := .ty "str") (by rfl) T.str (by decide +kernel) rfl) pa_nil))))) (pw_or (pt_cmp (pc_din hu (pv 4) (pv 3)) rfl) (pw_or1 (pt_not (pt_val (pe_call GA (hr.mono (by decide)) rfl gA kA bA .nil pass0 (pa_cons (pv 4) pa_nil)))))))) (pss_one (ps_ret pe_bl)) pss_nil)
      (pss_one (ps_dput hu (pv 3) (pv 4) (pv 2) rfl))))
      (pss_one (ps_ret pe_bl)))), ?_⟩
  have hT' := Same.seqT J.same hT
  refine ⟨_, rfl, j.o, C, j.dx, p2, _, 2, _, rfl, J.slt, T.cl, T.s2, rfl, ?_⟩
  refine ⟨_, rfl, t, rfl, ⟨_, hT'⟩, for_tup (K := K) (a := t) (xs := xs.map V.str) (fun i σ H' => ∃ (v4 : Option V) (Si : Nm), σ = [some (.ref j.o), some (.ref t), some (.bl b), some (.ref j.nn), v4] ∧ JAt K C G H' j n Si m ∧ Bnd b Si (xs.drop i) S')
    ⟨none, S, rfl, J, hb⟩ (fun i σ H' _ ⟨_, _, _, J1, _⟩ => Same.seqT J1.same hT) ?_ ?_⟩
  · rintro i x σ H' hx ⟨v4, Si, rfl, J1, hB⟩
    rw [List.getElem?_map, Option.map_eq_some_iff] at hx
    obtain ⟨z, hx, rfl⟩ := hx
    obtain ⟨il, hz⟩ := List.getElem?_eq_some_iff.mp hx
    rw [List.drop_eq_getElem_cons il, hz] at hB
    cases hB with
    | cons hn hm hl hB2 =>
      have g : Si.length ≤ 16000000 := Nat.le_trans (putN_ge _ _ _) (Nat.le_trans hB2.ge hS)
      have hg := J1.get z
      rw [hn] at hg
      refine ⟨_, rfl, .str z, .ty "str", .type "str", .type "str", true, rfl, .ty _, .base (.str _), kit_ty (a := "str") (b := "str") (r := true) (by decide +kernel), true, rfl, iteF ?_⟩
      refine ⟨_, rfl, _, rfl, j.nn, _, rfl, hg, false, rfl, iteF ?_⟩
      refine ⟨_, rfl, z, rfl, hl, fun H2 s2 => ⟨true, by rw [hm], iteF ?_⟩⟩
      refine ⟨_, rfl, _, rfl, _, rfl, j.nn, _, rfl, DPut.k (k := .inr z) (J1.wide s2).nms (nm_lt g), ?_⟩
      exact ⟨some (.str z), _, rfl, (J1.wide s2).put, hB2⟩
  · rintro σ H' ⟨v4, Si, rfl, J1, hB⟩
    have e : xs.drop ((xs.map V.str).length) = [] := by rw [List.length_map, List.drop_length]
    rw [e] at hB
    cases hB
    exact q _ J1
def spForm (K : PySem.W.Frag) (wd : Str) : Sp := fun vs H Q _ => ∃ (n : Int) (v : V) (e : PyData), vs = [v, .int n] ∧ Dp K H v e ∧ wordOf e = some wd ∧ FormOk n e ∧ (∀ H', Same H H' → Q (.bl true) H')
theorem form_inv {n : Int} {e : PyData} (h : FormOk n e) : (∃ p q x e1, e = .tuple [.str "now", .int p, .int q, .str x, e1] ∧ inP n p = true ∧ inP n q = true ∧ nameB x = true ∧ x.length ≤ 1000) ∨
    ∃ p q x e1 e2, e = .tuple [.str "early", .int p, .str x, e1, .int q, e2] ∧ inP n p = true ∧ inP n q = true ∧ nameB x = true ∧ x.length ≤ 1000 := by
  unfold FormOk at h
  split at h
  · obtain ⟨rfl, h⟩ := h
    exact .inl ⟨_, _, _, _, rfl, h⟩
  · obtain ⟨rfl, h⟩ := h
    exact .inr ⟨_, _, _, _, _, rfl, h⟩
  · exact h.elim
set_option maxHeartbeats 8000000 in
theorem ok_nowF {f fP fA : Addr} {fd fdP fdA : FuncData} (F : Fun K "is_now" "is_now" sNowF f fd) (T : TxtF mg)
    (GP : FnOk P w K mg base CX0 1 fP fdP ["thing", "places"] spPlace) (kP : PySem.W.keepIn K (.ref fP) = true) (bP : Binds K fdP ["thing", "places"] []) (gP : mg "is_place_number" = some (.ref fP))
    (GA : FnOk P w K mg base CX0 1 fA fdA ["thing"] spName) (kA : PySem.W.keepIn K (.ref fA) = true) (bA : Binds K fdA ["thing"] []) (gA : mg "is_name" = some (.ref fA)) :
    FnOk P w K mg base CX0 2 f fd ["part", "places"] (spForm K "now") := by
  refine F.ok scNowF (fun vs H Q E h => ?_) (fun cdv A outer st H vs Q E hr h => ?_)
  · obtain ⟨n, v, e, rfl, _⟩ := h
    rfl
  obtain ⟨n, v, e, rfl, hv, hw, hf, q⟩ := h
  refine ⟨_, (pss_one (ps_ret (pe_and (pe_cmpR op_eq (pe_callB call_len (by rfl) T.len PySem.boot_len (pa_cons (pv 0) pa_nil)) pe_int (nomark _)) (pe_and (pe_call GP (hr.mono (by decide)) rfl gP kP bP .nil pass0 (pa_cons (pe_ix ix_tup (pv 0) pe_int (fun _ _ => rfl)) (pa_cons (pv 1) pa_nil))) (pe_one (pe_call GA (hr.mono (by decide)) rfl gA kA bA .nil pass0 (pa_cons (pe_ix ix_tup (pv 0) pe_int (fun _ _ => rfl)) pa_nil))))))), ?_⟩
  rcases form_inv hf with ⟨p, r, x, e1, rfl, hp, hr', hx, hl⟩ | ⟨p, r, x, e1, e2, rfl, hp, hr', hx, hl⟩
  · have hn : numB n (.int r) = true := hr'
    obtain ⟨t, ws, rfl, hT, hA⟩ := tup_open hv
    obtain ⟨z1, ws, rfl, hz1, hA⟩ := all_open hA
    obtain ⟨z2, ws, rfl, hz2, hA⟩ := all_open hA
    obtain ⟨z3, ws, rfl, hz3, hA⟩ := all_open hA
    obtain ⟨z4, ws, rfl, hz4, hA⟩ := all_open hA
    obtain ⟨z5, ws, rfl, hz5, hA⟩ := all_open hA
    obtain rfl := nil_open hA
    cases hz3
    cases hz4
    refine ⟨_, rfl, _, _, rfl, .inr ⟨_, hT, rfl⟩, rfl, true, by simp, iteT ?_⟩
    refine ⟨_, rfl, t, _, 2, _, rfl, rfl, hT, atI_nat (j := 2) rfl, _, rfl, r, n, rfl, true, by rw [hn], iteT ?_⟩
    refine ⟨_, rfl, t, _, 3, _, rfl, rfl, hT, atI_nat (j := 3) rfl, x, rfl, hl, fun H1 s1 => ?_⟩
    rw [hx]
    exact q H1 s1
  · exact absurd (Option.some.inj hw) (by decide)
set_option maxHeartbeats 8000000 in
theorem ok_earlyF {f fP fA : Addr} {fd fdP fdA : FuncData} (F : Fun K "is_early" "is_early" sEarlyF f fd) (T : TxtF mg)
    (GP : FnOk P w K mg base CX0 1 fP fdP ["thing", "places"] spPlace) (kP : PySem.W.keepIn K (.ref fP) = true) (bP : Binds K fdP ["thing", "places"] []) (gP : mg "is_place_number" = some (.ref fP))
    (GA : FnOk P w K mg base CX0 1 fA fdA ["thing"] spName) (kA : PySem.W.keepIn K (.ref fA) = true) (bA : Binds K fdA ["thing"] []) (gA : mg "is_name" = some (.ref fA)) :
    FnOk P w K mg base CX0 2 f fd ["part", "places"] (spForm K "early") := by
  refine F.ok scEarlyF (fun vs H Q E h => ?_) (fun cdv A outer st H vs Q E hr h => ?_)
  · obtain ⟨n, v, e, rfl, _⟩ := h
    rfl
  obtain ⟨n, v, e, rfl, hv, hw, hf, q⟩ := h
  refine ⟨_, (pss_one (ps_ret (pe_and (pe_cmpR op_eq (pe_callB call_len (by rfl) T.len PySem.boot_len (pa_cons (pv 0) pa_nil)) pe_int (nomark _)) (pe_and (pe_call GA (hr.mono (by decide)) rfl gA kA bA .nil pass0 (pa_cons (pe_ix ix_tup (pv 0) pe_int (fun _ _ => rfl)) pa_nil)) (pe_one (pe_call GP (hr.mono (by decide)) rfl gP kP bP .nil pass0 (pa_cons (pe_ix ix_tup (pv 0) pe_int (fun _ _ => rfl)) (pa_cons (pv 1) pa_nil)))))))), ?_⟩
  rcases form_inv hf with ⟨p, r, x, e1, rfl, hp, hr', hx, hl⟩ | ⟨p, r, x, e1, e2, rfl, hp, hr', hx, hl⟩
  · exact absurd (Option.some.inj hw) (by decide)
  · have hn : numB n (.int r) = true := hr'
    obtain ⟨t, ws, rfl, hT, hA⟩ := tup_open hv
    obtain ⟨z1, ws, rfl, hz1, hA⟩ := all_open hA
    obtain ⟨z2, ws, rfl, hz2, hA⟩ := all_open hA
    obtain ⟨z3, ws, rfl, hz3, hA⟩ := all_open hA
    obtain ⟨z4, ws, rfl, hz4, hA⟩ := all_open hA
    obtain ⟨z5, ws, rfl, hz5, hA⟩ := all_open hA
    obtain ⟨z6, ws, rfl, hz6, hA⟩ := all_open hA
    obtain rfl := nil_open hA
    cases hz3
    cases hz5
    refine ⟨_, rfl, _, _, rfl, .inr ⟨_, hT, rfl⟩, rfl, true, by simp, iteT ?_⟩
    refine ⟨_, rfl, t, _, 2, _, rfl, rfl, hT, atI_nat (j := 2) rfl, x, rfl, hl, fun H1 s1 => ⟨true, by rw [hx], iteT ?_⟩⟩
    refine ⟨_, rfl, t, _, 4, _, rfl, rfl, (Same.seqT s1 hT), atI_nat (j := 4) rfl, _, rfl, r, n, rfl, ?_⟩
    rw [hn]
    exact q H1 s1
/-- FORMS, as far as it is asked of -/
def FormsOk (P : Program) (w : World) (K : PySem.W.Frag) (mg : Str → Option Value) (base : Heap) (kvF : List (Str × V)) : Prop :=
  ∀ wd ∈ (["now", "early"] : List Str), ∃ f, kvF.lookup wd = some (.ref f) ∧ HeldN P w K mg base 5 f (spForm K wd)
set_option maxHeartbeats 8000000 in
theorem ok_part {f fP aF : Addr} {fd fdP : FuncData} {kvF : List (Str × V)} (F : Fun K "is_part" "is_part" sPartF f fd) (T : TxtF mg) (tu : mg "tuple" = none) (gF : mg "FORMS" = some (.ref aF)) (DF : N3.KD K w aF kvF) (hF : FormsOk P w K mg base kvF)
    (GP : FnOk P w K mg base CX0 1 fP fdP ["thing", "places"] spPlace) (kP : PySem.W.keepIn K (.ref fP) = true) (bP : Binds K fdP ["thing", "places"] []) (gP : mg "is_place_number" = some (.ref fP)) :
    FnN P w K mg base CX0 6 f fd ["thing", "places"] (spPart K) := by
  refine okN F scPart (fun vs H Q E h => ?_) (fun cdv A outer st H vs Q E hr h => ?_)
  · obtain ⟨n, v, e, rfl, _⟩ := h
    rfl
  obtain ⟨n, v, e, rfl, hv, hf, q⟩ := h
  refine ⟨_, (pss_cons (ps_if (PW.pt (pw_or (pt_not (pt_val (pe_callB call_isi (by rfl) T.isi (by decide +kernel) (pa_cons (pv 0) (pa_cons (pe_bltn (v := .ty "tuple") (by rfl) tu (by decide +kernel) rfl) pa_nil))))) (pw_or (pt_cmpR op_lt (pe_callB call_len (by rfl) T.len PySem.boot_len (pa_cons (pv 0) pa_nil)) pe_int (nomark _)) (pw_or1 (pt_not (pt_val (pe_callB call_isi (by rfl) T.isi (by decide +kernel) (pa_cons (pe_ix ix_tup (pv 0) pe_int (fun _ _ => rfl)) (pa_cons (pe_bltn (v := .ty "str") (by rfl) T.str (by decide +kernel) rfl) pa_nil))))))))) (pss_one (ps_ret pe_bl)) pss_nil)
      (pss_cons (ps_if (PW.pt (pw_or (pt_cmpR (N3.op_notIn_kv DF) (pe_ix ix_tup (pv 0) pe_int (fun _ _ => rfl)) (pe_glob (v := .ref aF) (by rfl) gF rfl) rfl) (pw_or1 (pt_not (pt_val (pe_call GP (hr.room (k := 1) (by omega) (by omega)) rfl gP kP bP .nil pass0 (pa_cons (pe_ix ix_tup (pv 0) pe_int (fun _ _ => rfl)) (pa_cons (pv 1) pa_nil)))))))) (pss_one (ps_ret pe_bl)) pss_nil)
      (pss_cons (ps_set (i := 2) scPart.nd rfl (.inl rfl) (N3.pe_kix DF (pe_glob (v := .ref aF) (by rfl) gF rfl) (pe_ix ix_tup (pv 0) pe_int (fun _ _ => rfl)) (fun _ _ => rfl)))
      (pss_one (ps_ret (pe_callN (i := 2) hr rfl (.inl rfl) (pa_cons (pv 0) (pa_cons (pv 1) pa_nil)))))))), ?_⟩
  have tup : ∀ {H1 : Hp} {t : Addr} {ws : List V}, SqT K H1 t ws → TyX K H1 (.ref t) (.type "tuple") := fun h => tyx_seqT h
  have key : ∃ (wd : Str) (p : Int) (rest : List PyData), e = .tuple (.str wd :: .int p :: rest) ∧ 1 ≤ rest.length ∧ inP n p = true ∧ wd ∈ (["now", "early"] : List Str) := by
    rcases form_inv hf with ⟨p, r, x, e1, rfl, hp, _⟩ | ⟨p, r, x, e1, e2, rfl, hp, _⟩
    · exact ⟨_, _, _, rfl, by simp, hp, by simp⟩
    · exact ⟨_, _, _, rfl, by simp, hp, by simp⟩
  obtain ⟨wd, p, rest, rfl, hr2, hp, hm⟩ := key
  obtain ⟨fj, hlk, hHeld⟩ := hF wd hm
  have hv0 := hv
  have hn : numB n (.int p) = true := hp
  obtain ⟨t, ws, rfl, hT, hA⟩ := tup_open hv
  obtain ⟨z1, ws, rfl, hz1, hA⟩ := all_open hA
  obtain ⟨z2, ws, rfl, hz2, hA⟩ := all_open hA
  have hlw := DpAll.len hA
  cases hz1
  cases hz2
  have l3 : ¬ (((V.str wd :: V.int p :: ws).length : Int) < 3) := by
    show ¬ (((ws.length + 1 + 1 : Nat) : Int) < 3)
    omega
  refine ⟨_, rfl, .ref t, .ty "tuple", .type "tuple", .type "tuple", true, rfl, .ty _, tup hT, kit_ty (a := "tuple") (b := "tuple") (r := true) (by decide +kernel), true, rfl, iteF ?_⟩
  refine ⟨_, rfl, _, _, rfl, .inr ⟨_, hT, rfl⟩, _, _, rfl, rfl, false, bl_f l3, iteF ?_⟩
  refine ⟨_, rfl, t, _, 0, _, rfl, rfl, hT, atI_nat (j := 0) rfl, .str wd, .ty "str", .type "str", .type "str", true, rfl, .ty _, .base (.str _), kit_ty (a := "str") (b := "str") (r := true) (by decide +kernel), true, rfl, iteF ?_⟩
  refine ⟨_, rfl, t, _, 0, _, rfl, rfl, hT, atI_nat (j := 0) rfl, wd, rfl, rfl, false, by rw [hlk]; rfl, iteF ?_⟩
  refine ⟨_, rfl, t, _, 1, _, rfl, rfl, hT, atI_nat (j := 1) rfl, _, rfl, p, n, rfl, true, by rw [hn], iteF ?_⟩
  exact ⟨rfl, _, rfl, t, _, 0, _, rfl, rfl, hT, atI_nat (j := 0) rfl, wd, _, rfl, hlk, fj, _, rfl, hHeld, _, rfl, _, rfl, n, _, _, rfl, hv0, rfl, hf, q⟩
end
end J45

set_option Elab.async false
set_option maxRecDepth 100000
/-! let and case -/
namespace J45
open PySem PySem.Spec PyProof.Rows L2 Hx Xr RN
abbrev jAlts : Stmt := inClass (top judgeI) 7
/-- x not in t, t a tuple of data -/
def rNotInTup (K : PySem.W.Frag) : R2 := fun x y H Q => ∃ d ds, Dp K H x d ∧ Dp K H y (.tuple ds) ∧ SeqAt.shaped d = true ∧ SeqAt.shaped (.tuple ds) = true ∧ Q (.bl (!ds.any fun z => PyData.eqv z d)) H
theorem op_notInTup {X : Cx} (hu : X.A.units + 65 < cLine) : OpR X (compareOp .NotIn) (rNotInTup X.K) := by
  intro pins s σ H x y v u Q I rx ry h
  obtain ⟨d, ds, hd, he, sd, se, q⟩ := h
  obtain ⟨as, r1⟩ := Dp.reads I d x v hd rx
  obtain ⟨bs, r2⟩ := Dp.reads I (.tuple ds) y u he ry
  refine SeqAt.notIn_tuple_reads r2 r1 (SeqAt.canLay_of_shaped se) (SeqAt.canLay_of_shaped sd) (room_in_shaped sd hu) ⟨.bl _, H, I, rfl, q⟩
theorem ru65 {k : Nat} {A : Around} (r : Room k A) : A.units + 65 < cLine := by have := r.un; omega
section
variable {P : Program} {w : World} {K : PySem.W.Frag} {mg : Str → Option Value} {base : Heap} {C p0 p1 p2 p3 aJ : Addr} {kv : List (Str × V)}
theorem scLet : FnScope ["judge", "part", "left", "bindings", "bound", "binding", "name", "number", "_", "e", "wrong"] ["judge", "part", "left"] (defScope sLet) := ⟨rfl, rfl, rfl, by decide +kernel, rfl, by decide +kernel, by decide +kernel⟩
theorem scCase : FnScope ["judge", "part", "left", "_", "e", "x", "alternatives", "other", "wrong", "bound", "number", "names", "one", "name"] ["judge", "part", "left"] (defScope sCase) := ⟨rfl, rfl, rfl, by decide +kernel, rfl, by decide +kernel, by decide +kernel⟩
theorem scAlts : FnScope ["self", "alternatives", "seen", "alternative", "what", "names", "_", "lot"] ["self", "alternatives"] (defScope jAlts) := ⟨rfl, rfl, rfl, by decide +kernel, rfl, by decide +kernel, by decide +kernel⟩
def spAlts (K : PySem.W.Frag) (C : Addr) (D : Str → Nat → Bool) : Sp := fun vs H Q _ => ∃ (G : Hp) (j : Jo) (n m : Int) (S S' : Nm) (v : V) (as : List Alt), vs = [.ref j.o, v] ∧ JAt K C G H j n S m ∧ DataAt K G j.dn D ∧ Dp K G v (.tuple (as.map altD)) ∧ as.length ≤ 60 ∧ AltOk D S [] as S' ∧ S'.length ≤ 16000000 ∧ ∀ H', JAt K C G H' j n S' m → Q (.bl true) H'
def seenK (l : List Key) : List (Key × V) := l.map fun k => (k, V.bl true)
theorem seen_any {l : List Key} {w : Key} (h : w ∉ l) : (seenK l).any (fun kv => decide (kv.1 = w)) = false := by
  rw [List.any_eq_false]
  intro kv hkv
  obtain ⟨k, hk, rfl⟩ := List.mem_map.mp hkv
  intro e
  exact h (of_decide_eq_true e ▸ hk)
theorem seen_none {l : List Key} {w : Key} (h : w ∉ l) : valV (seenK l) w = none := by
  have := valV_any w (seenK l)
  rw [seen_any h] at this
  cases e : valV (seenK l) w with
  | none => rfl
  | some v => rw [e] at this; cases this
theorem seen_put {l : List Key} {w : Key} (h : w ∉ l) : putK (seenK l) w (.bl true) = seenK (l ++ [w]) := by
  unfold putK
  rw [if_neg (by rw [seen_any h]; exact fun z => nomatch z)]
  unfold seenK
  rw [List.map_append]
  rfl
theorem JAt.setO {G H : Hp} {j : Jo} {n m : Int} {S : Nm} {T : Addr} {u : HO} (J : JAt K C G H j n S m) (g : G T = Option.none) (h1 : j.o ≠ T) (h2 : j.dx ≠ T) (h3 : j.nn ≠ T) : JAt K C G (upd H T u) j n S m :=
  ⟨Same.upd J.same g, J.go, J.gd, J.gn, J.od, J.on, J.dn, (upd_ne h1).trans J.obj, (upd_ne h2).trans J.own, (upd_ne h3).trans J.nms⟩
theorem JAt.take {G H : Hp} {j : Jo} {n m : Int} {S : Nm} {T : Addr} {u : HO} (J : JAt K C G H j n S m) (h : H T = some u) (h1 : j.o ≠ T) (h2 : j.dx ≠ T) (h3 : j.nn ≠ T) : JAt K C (upd G T u) H j n S m := by
  refine ⟨fun b v e => ?_, (upd_ne h1).trans J.go, (upd_ne h2).trans J.gd, (upd_ne h3).trans J.gn, J.od, J.on, J.dn, J.obj, J.own, J.nms⟩
  by_cases c : b = T
  · subst c
    rw [upd_same] at e
    rw [← e]
    exact h
  · rw [upd_ne c] at e
    exact J.same _ _ e
theorem dp_what {H : Hp} {v : V} {w : Key} (h : Dp K H v (whatD w)) : v = kV w := by
  cases w with
  | inl i =>
    cases h
    rfl
  | inr x =>
    cases h
    rfl
theorem drop_get {α : Type} {l : List α} {i : Nat} {x : α} (h : l[i]? = some x) : l.drop i = x :: l.drop (i + 1) := by
  obtain ⟨il, e⟩ := List.getElem?_eq_some_iff.mp h
  rw [List.drop_eq_getElem_cons il, e]
theorem DataAt.same {G G' : Hp} {dn : Addr} {D : Str → Nat → Bool} (h : DataAt K G dn D) (s : Same G G') : DataAt K G' dn D := by
  obtain ⟨kvs, h1, h2⟩ := h.dict
  refine ⟨kvs, s _ _ h1, fun m k hd => ?_⟩
  obtain ⟨t, ds, a1, a2, a3⟩ := h2 m k hd
  exact ⟨t, ds, a1, Dp.same s _ _ a2, a3⟩
theorem jd_tuple {n : Int} {D : Str → Nat → Bool} {L : Nat} {S S' : Nm} {e : PyData} {c : Nat} (h : Jd n D L S e S' c) : ∃ ds, e = .tuple ds := by
  cases h with
  | atom ha => cases ha <;> exact ⟨_, rfl⟩
  | _ => exact ⟨_, rfl⟩
theorem jdc_tuple {n : Int} {D : Str → Nat → Bool} {L : Nat} : ∀ {es : List (List Str × PyData)} {S S' : Nm} {c : Nat}, JdC n D L S es S' c → ∀ p ∈ es, ∃ ds, p.2 = .tuple ds
  | [], _, _, _, _, p, hp => nomatch hp
  | q :: es, _, _, _, h, p, hp => by
    cases h with
    | cons h1 h2 =>
      rcases List.mem_cons.mp hp with rfl | hp
      · exact jd_tuple h1
      · exact jdc_tuple h2 p hp
theorem case_iter {G H : Hp} {j : Jo} {n m : Int} {S : Nm} {σ : L2.St} {ta : Addr} {was : List V} {as : List Alt} {o : Option PyData} {z6 : V} {Q : VK} (J : JAt K C G H j n S m) (h6 : σ[6]? = some (some (.ref ta))) (h7 : σ[7]? = some (some z6)) (hTa : SqT K G ta was)
    (hA : DpAll K G was (as.map altD)) (hz : Dp K G z6 (otherD o)) (ho : ∀ e, o = some e → ∃ ds, e = .tuple ds) (h60 : as.length ≤ 60)
    (q : ∀ (G2 H2 : Hp) (Tw : Addr) (W : List V), Same G G2 → JAt K C G2 H2 j n S m → SqT K G2 Tw W → W.length = (ways as o).length →
      (∀ (i : Nat) (x : V), W[i]? = some x → ∃ T3 a t4 ns v d, x = .ref T3 ∧ SqT K G2 T3 [a, .ref t4, v] ∧ SqT K G2 t4 (ns.map V.str) ∧ (ways as o)[i]? = some (ns, d) ∧ Dp K G2 v d) →
      (∀ {H'' : Hp} {Sx : Nm} {mx : Int}, JAt K C G2 H'' j n Sx mx → JAt K C G H'' j n Sx mx) → Q (.ref Tw) H2) :
    tIf (tTest (tOp (fun x y H Q => y = .non ∧ Q (.bl (decide (x = .non))) H) (tVar 7) (tC .non))) (tVar 6) (tTup (StX.tStar K (tVar 6) (tCons (tTup (tCons (tC (.str "")) (tCons (tTup tNil) (tCons (tVar 7) tNil)))) tNil))) σ H Q := by
  have la : was.length = as.length := by rw [DpAll.len hA, List.length_map]
  have item : ∀ {i : Nat} {x : V}, was[i]? = some x → ∃ T3 a t4 ns v d, x = .ref T3 ∧ SqT K G T3 [a, .ref t4, v] ∧ SqT K G t4 (ns.map V.str) ∧ (as.map (fun a : Alt => a.2))[i]? = some (ns, d) ∧ Dp K G v d := by
    intro i x hx
    obtain ⟨d, hd, dk⟩ := DpAll.get hA hx
    rw [List.getElem?_map, Option.map_eq_some_iff] at hd
    obtain ⟨⟨wt, ns, e1⟩, hai, rfl⟩ := hd
    obtain ⟨t2, ws2, rfl, hT2, hA2⟩ := tup_open dk
    obtain ⟨y1, ws2, rfl, hy1, hA2⟩ := all_open hA2
    obtain ⟨y2, ws2, rfl, hy2, hA2⟩ := all_open hA2
    obtain ⟨y3, ws2, rfl, hy3, hA2⟩ := all_open hA2
    obtain rfl := nil_open hA2
    obtain ⟨tn, wn, rfl, hTn, hAn⟩ := tup_open hy2
    obtain rfl := all_strs hAn
    refine ⟨t2, y1, tn, ns, y3, e1, rfl, hT2, hTn, ?_, hy3⟩
    rw [List.getElem?_map, hai]
    rfl
  cases o with
  | none =>
    obtain rfl : z6 = .non := by
      cases hz
      rfl
    refine ⟨_, h7, rfl, true, rfl, iteT ⟨_, h6, ?_⟩⟩
    refine q G H ta was (fun _ _ e => e) J hTa (by rw [la]; simp [ways]) (fun i x hx => ?_) fun h => h
    obtain ⟨T3, a, t4, ns, v, d, h1, h2, h3, h4, h5⟩ := item hx
    exact ⟨T3, a, t4, ns, v, d, h1, h2, h3, by simpa [ways] using h4, h5⟩
  | some e2 =>
    obtain ⟨ds, rfl⟩ := ho e2 rfl
    obtain ⟨tz, wz, rfl, _, _⟩ := tup_open hz
    refine ⟨_, h7, rfl, false, rfl, iteF ?_⟩
    refine ⟨_, h6, ta, was, rfl, .inl (Same.seqT J.same hTa), Nat.zero_le _, fun T0 nT0 => ⟨_, (by exact h7), by show 3 ≤ sizeLine; decide, fun T1 nT1 => ⟨?_, fun T2 nT2 => ?_⟩⟩⟩
    · rw [List.length_append, la]
      exact Nat.le_trans (Nat.add_le_add_right h60 1) (by decide)
    have Ja := J.grow (u := .tup []) nT0
    have Jb := Ja.grow (u := .tup [.str "", .ref T0, .ref tz]) nT1
    have Jc := Jb.grow (u := .tup (was ++ [.ref T1])) nT2
    have s0 : Same G (upd G T0 (.tup [])) := Same.new (J.none nT0)
    have s1 : Same (upd G T0 (.tup [])) (upd (upd G T0 (.tup [])) T1 (.tup [.str "", .ref T0, .ref tz])) := Same.new (Ja.none nT1)
    have s2 : Same (upd (upd G T0 (.tup [])) T1 (.tup [.str "", .ref T0, .ref tz])) (upd (upd (upd G T0 (.tup [])) T1 (.tup [.str "", .ref T0, .ref tz])) T2 (.tup (was ++ [.ref T1]))) := Same.new (Jb.none nT2)
    have sG := (s0.trans s1).trans s2
    refine q _ _ T2 (was ++ [.ref T1]) sG Jc (SqT.of upd_same) (by rw [List.length_append, la]; simp [ways]) (fun i x hx => ?_) fun h => ((h.less (Jb.none nT2)).less (Ja.none nT1)).less (J.none nT0)
    by_cases c : i < was.length
    · rw [List.getElem?_append_left c] at hx
      obtain ⟨T3, a, t4, ns, v, d, h1, h2, h3, h4, h5⟩ := item hx
      refine ⟨T3, a, t4, ns, v, d, h1, Same.seqT sG h2, Same.seqT sG h3, ?_, Dp.same sG _ _ h5⟩
      unfold ways
      rw [List.getElem?_append_left (by rw [List.length_map]; omega)]
      exact h4
    · rw [List.getElem?_append_right (by omega)] at hx
      have i0 : i - was.length = 0 := by
        rcases Nat.eq_zero_or_pos (i - was.length) with z | z
        · exact z
        · rw [List.getElem?_eq_none (show 1 ≤ i - was.length from z)] at hx
          cases hx
      rw [i0] at hx
      cases hx
      refine ⟨T1, _, T0, [], .ref tz, .tuple ds, rfl, Same.seqT s2 (SqT.of upd_same), Same.seqT (s1.trans s2) (SqT.of upd_same), ?_, Dp.same sG _ _ hz⟩
      unfold ways
      rw [List.getElem?_append_right (by rw [List.length_map]; omega), List.length_map, show i - as.length = 0 by omega]
      rfl
set_option maxHeartbeats 8000000 in
theorem ok_let {L : Nat} {f fW fA fF : Addr} {fd fdW fdA fdF : FuncData} {spF : Sp} {tM : Tok} (F : Fun K "let_wrong" "let_wrong" sLet f fd) (T : TxtJ K w mg C p0 p1 p2 p3 aJ kv) {D : Str → Nat → Bool} (gM : mg "MOST_THINGS" = some (.int 60 tM))
    (GA : FnOk P w K mg base CX0 1 fA fdA ["thing"] spName) (kA : PySem.W.keepIn K (.ref fA) = true) (bA : Binds K fdA ["thing"] []) (gA : mg "is_name" = some (.ref fA))
    (GF : FnOk P w K mg base CX0 5 fF fdF ["self", "part"] spF) (bF : Binds K fdF ["self", "part"] []) (mF : Meth K C "fault" fF)
    (GW : FnN P w K mg base CX0 (2 * L + 41) fW fdW ["self", "part", "left"] (spWrong K C D L)) (bW : Binds K fdW ["self", "part", "left"] []) (mW : Meth K C "wrong_in" fW) :
    FnN P w K mg base CX0 (2 * L + 42) f fd ["judge", "part", "left"] (spJudge K C D L "let") := by
  refine okN F scLet (fun vs H Q E h => spJ_len h) (fun cdv A outer st H vs Q E hr h => ?_)
  obtain ⟨G, j, n, m, S, S', v, e, c, rfl, J, hD, hv, hw, hj, hS, q⟩ := h
  have hu := RoomN.u1 hr
  refine ⟨_, (pss_cons (ps_if (pt_cmpR op_ne (pe_callB call_len (by rfl) T.len PySem.boot_len (pa_cons (pv 1) pa_nil)) pe_int (nomark _)) (pss_one (ps_ret (pe_lst (pa_cons pe_str pa_nil)))) pss_nil)
      (pss_cons (ps_set (i := 3) scLet.nd rfl (.inl rfl) (pe_ix ix_tup (pv 1) pe_int (fun _ _ => rfl)))
      (pss_cons (ps_if (PW.pt (pw_or (pt_not (pt_val (pe_callB call_isi (by rfl) T.isi (by decide +kernel) (pa_cons (pv 3) (pa_cons (pe_bltn (v := .ty "tuple") (by rfl) T.tuple (by decide +kernel) rfl) pa_nil))))) (pw_or1 (pt_not (pt_chain op_lt op_le pe_int (pe_callB call_len (by rfl) T.len PySem.boot_len (pa_cons (pv 3) pa_nil)) (pe_glob (v := .int 60) (by rfl) gM ⟨_, rfl⟩)))))) (pss_one (ps_ret (pe_lst (pa_cons pe_str pa_nil)))) pss_nil)
      (pss_cons (ps_set (i := 4) scLet.nd rfl (.inl rfl) (SlX.pe_sl (pv 0)))
      (pss_cons (ps_for PassesOwn.never rfl (pi_tup (pv 3)) (pg_name (i := 5) scLet.nd rfl (.inl rfl)) (pss_cons (ps_if (PW.pt (pw_or (pt_not (pt_val (pe_callB call_isi (by rfl) T.isi (by decide +kernel) (pa_cons (pv 5) (pa_cons (pe_bltn (v := .ty "tuple") (by rfl) T.tuple (by decide +kernel) rfl) pa_nil))))) (pw_or1 (pt_cmpR op_ne (pe_callB call_len (by rfl) T.len PySem.boot_len (pa_cons (pv 5) pa_nil)) pe_int (nomark _))))) (pss_one (ps_ret (pe_lst (pa_cons pe_str pa_nil)))) pss_nil)
      (pss_cons (ps_set (i := 6) scLet.nd rfl (.inl rfl) (pe_ix ix_tup (pv 5) pe_int (fun _ _ => rfl)))
      (pss_cons (ps_if (PW.pt (pw_or (pt_not (pt_val (pe_callB call_isi (by rfl) T.isi (by decide +kernel) (pa_cons (pv 6) (pa_cons (pe_bltn (v := .ty "str") (by rfl) T.str (by decide +kernel) rfl) pa_nil))))) (pw_or (pt_cmp (pc_din hu (pv 6) (pv 4)) rfl) (pw_or1 (pt_not (pt_val (pe_call GA (hr.room (k := 1) (by omega) (by omega)) rfl gA kA bA .nil pass0 (pa_cons (pv 6) pa_nil)))))))) (pss_one (ps_ret (pe_methS (pv 0) T.cl mF GF (hr.room (k := 5) (by omega) (by omega)) bF pass0 (pa_cons (pv 1) pa_nil)))) pss_nil)
      (pss_one (ps_dput hu (pv 4) (pv 6) pe_bl rfl))))))
      (pss_cons (ps_set (i := 7) scLet.nd rfl (.inl rfl) pe_int)
      (pss_cons (ps_for PassesOwn.never rfl (pi_tup (pe_tup (StX.pa_star (pv 3) (pa_cons (pe_tup (pa_cons pe_str (pa_cons (pe_ix ix_tup (pv 1) pe_int (fun _ _ => rfl)) pa_nil))) pa_nil)))) (pg_tup rfl (pgs_cons (pg_name (i := 8) scLet.nd rfl (.inl rfl)) (pgs_cons (pg_name (i := 9) scLet.nd rfl (.inl rfl)) pgs_nil))) (pss_cons (ps_set (i := 10) scLet.nd rfl (.inl rfl) (pe_methN (pv 0) T.cl mW GW hr bW pass0 (pa_cons (pv 9) (pa_cons (pv 2) pa_nil))))
      (pss_cons (ps_if (pt_cmpR op_notN (pv 10) pe_non (nomark _)) (pss_cons (ps_expr (pe_bm PySem.F.plainAttrs_list PySem.F.slot_list_append PySem.F.type_list_append mt_append (pv 10) (pa_cons (pv 7) pa_nil)))
      (pss_one (ps_ret (pv 10)))) pss_nil)
      (pss_one (ps_aug (i := 7) scLet.nd rfl (.inl rfl) pe_int ip_add)))))
      (pss_cons (ps_slA (pv 0) (pv 7) ip_add)
      (pss_cons (ps_for PassesOwn.never rfl (pi_tup (pv 3)) (pg_tup rfl (pgs_cons (pg_name (i := 6) scLet.nd rfl (.inl rfl)) (pgs_cons (pg_name (i := 8) scLet.nd rfl (.inl rfl)) pgs_nil))) (pss_one (ps_dput hu (pv 4) (pv 6) pe_bl rfl)))
      (pss_one (ps_ret pe_non))))))))))), ?_⟩
  have tup : ∀ {H1 : Hp} {t : Addr} {ws : List V}, SqT K H1 t ws → TyX K H1 (.ref t) (.type "tuple") := fun h => tyx_seqT h
  have places : ∀ {H1 : Hp} {S1 : Nm} {m1 : Int} {σ : L2.St} {Q' : V → Hp → Prop}, JAt K C G H1 j n S1 m1 → σ[0]? = some (some (.ref j.o)) → Q' (.int n) H1 → SlX.tSl K (tVar 0) "places" σ H1 Q' := fun J1 h0 q' => ⟨_, h0, j.o, C, j.dx, p0, _, 3, _, rfl, J1.slt, T.cl, T.s0, rfl, q'⟩
  have nmsR : ∀ {H1 : Hp} {S1 : Nm} {m1 : Int} {σ : L2.St} {Q' : V → Hp → Prop}, JAt K C G H1 j n S1 m1 → σ[0]? = some (some (.ref j.o)) → Q' (.ref j.nn) H1 → SlX.tSl K (tVar 0) "names" σ H1 Q' := fun J1 h0 q' => ⟨_, h0, j.o, C, j.dx, p2, _, 2, _, rfl, J1.slt, T.cl, T.s2, rfl, q'⟩
  cases hj with
  | @lets _ _ S1 S2 p bs e1 c1 hp hne hl hb h1 =>
    obtain ⟨t, ws, rfl, hT, hA⟩ := tup_open hv
    obtain ⟨z1, ws, rfl, hz1, hA⟩ := all_open hA
    obtain ⟨z2, ws, rfl, hz2, hA⟩ := all_open hA
    obtain ⟨z3, ws, rfl, hz3, hA⟩ := all_open hA
    obtain ⟨z4, ws, rfl, hz4, hA⟩ := all_open hA
    obtain rfl := nil_open hA
    cases hz1
    cases hz2
    have hT' := Same.seqT J.same hT
    obtain ⟨tb, wb, rfl, hTb, hAb⟩ := tup_open hz3
    have lb : wb.length = bs.length := by rw [DpAll.len hAb, List.length_map]
    have hpos : 0 < bs.length := List.length_pos_iff.mpr hne
    have hTb' := Same.seqT J.same hTb
    have g2 : S2.length ≤ 16000000 := Nat.le_trans (putAll_ge _ S2 false) hS
    have g1 : S1.length ≤ 16000000 := Nat.le_trans h1.ge g2
    refine ⟨_, rfl, _, _, rfl, .inr ⟨_, hT', rfl⟩, rfl, false, by simp, iteF ?_⟩
    refine ⟨_, rfl, t, _, 2, _, rfl, rfl, hT', atI_nat (j := 2) rfl, ?_⟩
    refine ⟨_, rfl, .ref tb, .ty "tuple", .type "tuple", .type "tuple", true, rfl, .ty _, tup hTb', kit_ty (a := "tuple") (b := "tuple") (r := true) (by decide +kernel), true, rfl, iteF ?_⟩
    refine ⟨_, rfl, _, _, rfl, .inr ⟨_, hTb', rfl⟩, 0, _, rfl, rfl, true, bl_t (by rw [lb]; omega), iteT ⟨_, _, rfl, rfl, true, bl_t (by rw [lb]; omega), iteF ?_⟩⟩
    refine ⟨_, rfl, j.o, C, j.dx, p2, _, 2, _, rfl, J.slt, T.cl, T.s2, rfl, ?_⟩
    have pair : ∀ {i : Nat} {x : V}, wb[i]? = some x → ∃ b v t2, bs[i]? = some b ∧ x = .ref t2 ∧ SqT K G t2 [.str b.1, v] ∧ Dp K G v b.2 := by
      intro i x hx
      obtain ⟨d, hd, dk⟩ := DpAll.get hAb hx
      rw [List.getElem?_map, Option.map_eq_some_iff] at hd
      obtain ⟨b, hb', rfl⟩ := hd
      obtain ⟨t2, ws2, rfl, hT2, hA2⟩ := tup_open dk
      obtain ⟨y1, ws2, rfl, hy1, hA2⟩ := all_open hA2
      obtain ⟨y2, ws2, rfl, hy2, hA2⟩ := all_open hA2
      obtain rfl := nil_open hA2
      cases hy1
      exact ⟨b, y2, t2, hb', rfl, hT2, hy2⟩
    refine ⟨_, rfl, tb, rfl, ⟨_, hTb'⟩, for_tup (K := K) (a := tb) (xs := wb) (fun i σ H' => ∃ (v5 v6 : Option V) (Si : Nm), σ = [some (.ref j.o), some (.ref t), some (.int (L : Int)), some (.ref tb), some (.ref j.nn), v5, v6, none, none, none, none] ∧ JAt K C G H' j n Si m ∧ Bnd true Si ((bs.map fun b : Str × PyData => b.1).drop i) S1)
      ⟨none, none, S, rfl, J, hb⟩ (fun i σ H' _ ⟨_, _, _, _, J1, _⟩ => Same.seqT J1.same hTb) ?_ ?_⟩
    · rintro i x σ H' hx ⟨v5, v6, Si, rfl, J1, hB⟩
      obtain ⟨b, v, t2, hbi, rfl, hT2, _⟩ := pair hx
      have hT2' := Same.seqT J1.same hT2
      rw [drop_get (x := b.1) (by rw [List.getElem?_map, hbi]; rfl)] at hB
      cases hB with
      | cons hn hm hl2 hB2 =>
        have g : Si.length ≤ 16000000 := Nat.le_trans (putN_ge _ _ _) (Nat.le_trans hB2.ge g1)
        have hg := J1.get b.1
        rw [hn] at hg
        refine ⟨_, rfl, .ref t2, .ty "tuple", .type "tuple", .type "tuple", true, rfl, .ty _, tup hT2', kit_ty (a := "tuple") (b := "tuple") (r := true) (by decide +kernel), true, rfl, iteF ?_⟩
        refine ⟨_, rfl, _, _, rfl, .inr ⟨_, hT2', rfl⟩, rfl, false, by simp, iteF ?_⟩
        refine ⟨_, rfl, t2, _, 0, _, rfl, rfl, hT2', atI_nat (j := 0) rfl, ?_⟩
        refine ⟨_, rfl, .str b.1, .ty "str", .type "str", .type "str", true, rfl, .ty _, .base (.str _), kit_ty (a := "str") (b := "str") (r := true) (by decide +kernel), true, rfl, iteF ?_⟩
        refine ⟨_, rfl, _, rfl, j.nn, _, rfl, hg, false, rfl, iteF ?_⟩
        refine ⟨_, rfl, b.1, rfl, hl2, fun H2 s2 => ⟨true, by rw [hm], iteF ?_⟩⟩
        refine ⟨_, rfl, _, rfl, j.nn, _, rfl, DPut.k (k := .inr b.1) (J1.wide s2).nms (nm_lt g), ?_⟩
        exact ⟨_, _, _, rfl, (J1.wide s2).put, hB2⟩
    · rintro σ H' ⟨v5, v6, Si, rfl, J1, hB⟩
      have e0 : (bs.map fun b : Str × PyData => b.1).drop wb.length = [] := by rw [lb]; exact List.drop_eq_nil_of_le (by rw [List.length_map]; exact Nat.le_refl _)
      rw [e0] at hB
      cases hB
      refine ⟨_, rfl, tb, wb, rfl, .inl (Same.seqT J1.same hTb), _, rfl, t, _, 3, _, rfl, rfl, Same.seqT J1.same hT, atI_nat (j := 3) rfl, by show 2 ≤ sizeLine; decide, fun T1 nT1 => ⟨?_, fun T2 nT2 => ?_⟩⟩
      · rw [List.length_append, lb]
        exact Nat.le_trans (Nat.add_le_add_right hl 1) (by decide)
      have J2a := J1.grow (u := .tup [.str "", z4]) nT1
      have J2 := J2a.grow (u := .tup (wb ++ [.ref T1])) nT2
      have sG1 : Same G (upd G T1 (.tup [.str "", z4])) := Same.new (J1.none nT1)
      have sG2 : Same (upd G T1 (.tup [.str "", z4])) (upd (upd G T1 (.tup [.str "", z4])) T2 (.tup (wb ++ [.ref T1]))) := Same.new (J2a.none nT2)
      have sG := sG1.trans sG2
      have hW : SqT K (upd (upd G T1 (.tup [.str "", z4])) T2 (.tup (wb ++ [.ref T1]))) T2 (wb ++ [.ref T1]) := SqT.of upd_same
      have hW1 : SqT K (upd (upd G T1 (.tup [.str "", z4])) T2 (.tup (wb ++ [.ref T1]))) T1 [.str "", z4] := Same.seqT sG2 (SqT.of upd_same)
      generalize hG2 : upd (upd G T1 (.tup [.str "", z4])) T2 (.tup (wb ++ [.ref T1])) = G2 at *
      have back : ∀ {H'' : Hp} {Sx : Nm} {mx : Int}, JAt K C G2 H'' j n Sx mx → JAt K C G H'' j n Sx mx := fun {H'' Sx mx} h => by
        rw [← hG2] at h
        exact (h.less (J2a.none nT2)).less (J1.none nT1)
      have item : ∀ {i : Nat} {x : V}, (wb ++ [V.ref T1])[i]? = some x → ∃ T3 a v d, x = .ref T3 ∧ SqT K G2 T3 [a, v] ∧ ((bs.map fun b : Str × PyData => b.2) ++ [e1])[i]? = some d ∧ Dp K G2 v d := by
        intro i x hx
        by_cases c : i < wb.length
        · rw [List.getElem?_append_left c] at hx
          obtain ⟨b, v, t2, hbi, rfl, hT2, hv2⟩ := pair hx
          refine ⟨t2, _, v, b.2, rfl, Same.seqT sG hT2, ?_, Dp.same sG _ _ hv2⟩
          rw [List.getElem?_append_left (by rw [List.length_map]; omega), List.getElem?_map, hbi]
          rfl
        · rw [List.getElem?_append_right (by omega)] at hx
          have i0 : i - wb.length = 0 := by
            rcases Nat.eq_zero_or_pos (i - wb.length) with z | z
            · exact z
            · rw [List.getElem?_eq_none (show 1 ≤ i - wb.length from z)] at hx
              cases hx
          rw [i0] at hx
          cases hx
          refine ⟨T1, _, z4, e1, rfl, hW1, ?_, Dp.same sG _ _ hz4⟩
          rw [List.getElem?_append_right (by rw [List.length_map]; omega), List.length_map, show i - bs.length = 0 by omega]
          rfl
      refine ⟨T2, rfl, ⟨_, Same.seqT J2.same hW⟩, for_tup (K := K) (a := T2) (xs := wb ++ [V.ref T1]) (fun i σ H' => ∃ (v5 v6 v8 v9 v10 : Option V) (Si : Nm) (ci cr : Nat), σ = [some (.ref j.o), some (.ref t), some (.int (L : Int)), some (.ref tb), some (.ref j.nn), v5, v6, some (.int (i : Int)), v8, v9, v10] ∧ JAt K C G2 H' j n Si (m + ci) ∧ JdL n D L Si (((bs.map fun b : Str × PyData => b.2) ++ [e1]).drop i) S2 cr ∧ ci + cr = c1)
        ⟨_, _, none, none, none, S1, 0, c1, rfl, by simpa using J2, h1, Nat.zero_add _⟩ (fun i σ H' _ ⟨_, _, _, _, _, _, _, _, _, J1, _⟩ => Same.seqT J1.same hW) ?_ ?_⟩
      · rintro i x σ H' hx ⟨v5, v6, v8, v9, v10, Si, ci, cr, rfl, J3, hL, hc⟩
        obtain ⟨T3, a, v, d, rfl, hT3, hd, hv3⟩ := item hx
        rw [drop_get hd] at hL
        cases hL with
        | @cons _ _ S3 _ _ _ ca cb k1 k2 =>
          refine ⟨T3, _, rfl, Same.seqT J3.same hT3, rfl, _, _, rfl, _, _, rfl, rfl, ?_⟩
          refine ⟨_, rfl, j.o, j.dx, _, rfl, J3.slt, _, rfl, _, rfl, G2, j, n, _, _, _, v, d, _, rfl, J3, hD.same sG, hv3, k1, Nat.le_trans k2.ge g2, fun H4 J4 => ?_⟩
          refine ⟨_, rfl, rfl, false, rfl, iteF ?_⟩
          refine ⟨_, rfl, (i : Int), 1, rfl, rfl, ?_⟩
          refine ⟨_, _, _, _, _, _, ci + ca, cb, rfl, ?_, k2, by omega⟩
          rw [show m + ((ci + ca : Nat) : Int) = m + ci + ca by omega]
          exact J4
      · rintro σ H' ⟨v5, v6, v8, v9, v10, Si, ci, cr, rfl, J3, hL, hc⟩
        have e2 : ((bs.map fun b : Str × PyData => b.2) ++ [e1]).drop (wb ++ [V.ref T1]).length = [] := List.drop_eq_nil_of_le (by rw [List.length_append, List.length_append, List.length_map, lb]; exact Nat.le_refl _)
        rw [e2] at hL
        cases hL
        have lw : ((wb ++ [V.ref T1]).length : Int) = (bs.length : Int) + 1 := by rw [List.length_append, lb]; rfl
        refine ⟨_, rfl, j.o, C, j.dx, p3, _, 1, _, rfl, J3.slt, T.cl, T.s3, rfl, _, rfl, _, _, rfl, rfl, _, J3.slt, ?_⟩
        have J4 := J3.many (m' := m + ci + ((wb ++ [V.ref T1]).length : Int))
        refine ⟨_, rfl, tb, rfl, ⟨_, Same.seqT J4.same (Same.seqT sG hTb)⟩, for_tup (K := K) (a := tb) (xs := wb) (fun i σ H' => ∃ (v6 v8 : Option V), σ = [some (.ref j.o), some (.ref t), some (.int (L : Int)), some (.ref tb), some (.ref j.nn), v5, v6, some (.int ((wb ++ [V.ref T1]).length : Int)), v8, v9, v10] ∧ JAt K C G2 H' j n (putAll S2 ((bs.map fun b : Str × PyData => b.1).take i) false) (m + ci + ((wb ++ [V.ref T1]).length : Int)))
          ⟨_, _, rfl, by simpa [putAll] using J4⟩ (fun i σ H' _ ⟨_, _, _, J1⟩ => Same.seqT J1.same (Same.seqT sG hTb)) ?_ ?_⟩
        · rintro i x σ H' hx ⟨v6, v8, rfl, J5⟩
          obtain ⟨b, v, t2, hbi, rfl, hT2, _⟩ := pair hx
          have e3 : putAll S2 ((bs.map fun b : Str × PyData => b.1).take (i + 1)) false = putN (putAll S2 ((bs.map fun b : Str × PyData => b.1).take i) false) b.1 false := putAll_succ S2 (by rw [List.getElem?_map, hbi]; rfl) false
          have g4 : (putAll S2 ((bs.map fun b : Str × PyData => b.1).take i) false).length ≤ 16000000 := Nat.le_trans (putAll_take S2 _ i false) hS
          refine ⟨t2, _, rfl, Same.seqT J5.same (Same.seqT sG hT2), rfl, _, _, rfl, _, _, rfl, rfl, ?_⟩
          refine ⟨_, rfl, _, rfl, j.nn, _, rfl, DPut.k (k := .inr b.1) J5.nms (nm_lt g4), _, _, rfl, ?_⟩
          rw [e3]
          exact J5.put
        · rintro σ H' ⟨v6, v8, rfl, J5⟩
          have e4 : (bs.map fun b : Str × PyData => b.1).take wb.length = (bs.map fun b : Str × PyData => b.1) := List.take_of_length_le (by rw [List.length_map, lb]; exact Nat.le_refl _)
          rw [e4] at J5
          refine q _ ?_
          have e5 : m + ((ci + 0 + bs.length + 1 : Nat) : Int) = m + ci + ((wb ++ [V.ref T1]).length : Int) := by rw [lw]; omega
          subst hc
          rw [e5]
          exact back J5
  | atom ha => cases ha <;> exact absurd (Option.some.inj hw) (by decide)
  | _ => exact absurd (Option.some.inj hw) (by decide)
set_option maxHeartbeats 8000000 in
theorem ok_case {L : Nat} {f fW fB fL fF : Addr} {fd fdW fdB fdL fdF : FuncData} {spF : Sp} (F : Fun K "case_wrong" "case_wrong" sCase f fd) (T : TxtJ K w mg C p0 p1 p2 p3 aJ kv) {D : Str → Nat → Bool}
    (GB : FnOk P w K mg base CX0 2 fB fdB ["self", "names", "is_around"] (spBind K C)) (bB : Binds K fdB ["self", "names", "is_around"] []) (mB : Meth K C "bind" fB)
    (GL : FnOk P w K mg base CX0 3 fL fdL ["self", "alternatives"] (spAlts K C D)) (bL : Binds K fdL ["self", "alternatives"] []) (mL : Meth K C "are_alternatives" fL)
    (GF : FnOk P w K mg base CX0 5 fF fdF ["self", "part"] spF) (bF : Binds K fdF ["self", "part"] []) (mF : Meth K C "fault" fF)
    (GW : FnN P w K mg base CX0 (2 * L + 41) fW fdW ["self", "part", "left"] (spWrong K C D L)) (bW : Binds K fdW ["self", "part", "left"] []) (mW : Meth K C "wrong_in" fW) :
    FnN P w K mg base CX0 (2 * L + 42) f fd ["judge", "part", "left"] (spJudge K C D L "case") := by
  refine okN F scCase (fun vs H Q E h => spJ_len h) (fun cdv A outer st H vs Q E hr h => ?_)
  obtain ⟨G, j, n, m, S, S', v, e, c, rfl, J, hD, hv, hw, hj, hS, q⟩ := h
  have hu := RoomN.u1 hr
  refine ⟨_, (pss_cons (ps_if (pt_cmpR op_ne (pe_callB call_len (by rfl) T.len PySem.boot_len (pa_cons (pv 1) pa_nil)) pe_int (nomark _)) (pss_one (ps_ret (pe_lst (pa_cons pe_str pa_nil)))) pss_nil)
      (pss_cons (ps_asg (pv 1) (pg_tup rfl (pgs_cons (pg_name (i := 3) scCase.nd rfl (.inl rfl)) (pgs_cons (pg_name (i := 3) scCase.nd rfl (.inl rfl)) (pgs_cons (pg_name (i := 4) scCase.nd rfl (.inl rfl)) (pgs_cons (pg_name (i := 5) scCase.nd rfl (.inl rfl)) (pgs_cons (pg_name (i := 6) scCase.nd rfl (.inl rfl)) (pgs_cons (pg_name (i := 7) scCase.nd rfl (.inl rfl)) pgs_nil))))))))
      (pss_cons (ps_if (PW.pt (pw_or (pt_not (pt_val (pe_methS (pv 0) T.cl mB GB (hr.room (k := 2) (by omega) (by omega)) bB pass0 (pa_cons (pe_tup (pa_cons (pv 5) pa_nil)) (pa_cons pe_bl pa_nil))))) (pw_or1 (pt_not (pt_val (pe_methS (pv 0) T.cl mL GL (hr.room (k := 3) (by omega) (by omega)) bL pass0 (pa_cons (pv 6) pa_nil))))))) (pss_one (ps_ret (pe_methS (pv 0) T.cl mF GF (hr.room (k := 5) (by omega) (by omega)) bF pass0 (pa_cons (pv 1) pa_nil)))) pss_nil)
      (pss_cons (ps_set (i := 8) scCase.nd rfl (.inl rfl) (pe_methN (pv 0) T.cl mW GW hr bW pass0 (pa_cons (pv 4) (pa_cons (pv 2) pa_nil))))
      (pss_cons (ps_if (pt_cmpR op_notN (pv 8) pe_non (nomark _)) (pss_cons (ps_expr (pe_bm PySem.F.plainAttrs_list PySem.F.slot_list_append PySem.F.type_list_append mt_append (pv 8) (pa_cons pe_int pa_nil)))
      (pss_one (ps_ret (pv 8)))) pss_nil)
      (pss_cons (ps_set (i := 9) scCase.nd rfl (.inl rfl) (SlX.pe_sl (pv 0)))
      (pss_cons (ps_dput hu (pv 9) (pv 5) pe_bl rfl)
      (pss_cons (ps_set (i := 10) scCase.nd rfl (.inl rfl) pe_int)
      (pss_cons (ps_for PassesOwn.never rfl (pi_tup (pe_ifExp (pt_cmpR op_isN (pv 7) pe_non (nomark _)) (pv 6) (pe_tup (StX.pa_star (pv 6) (pa_cons (pe_tup (pa_cons pe_str (pa_cons (pe_tup pa_nil) (pa_cons (pv 7) pa_nil)))) pa_nil))))) (pg_tup rfl (pgs_cons (pg_name (i := 3) scCase.nd rfl (.inl rfl)) (pgs_cons (pg_name (i := 11) scCase.nd rfl (.inl rfl)) (pgs_cons (pg_name (i := 12) scCase.nd rfl (.inl rfl)) pgs_nil)))) (pss_cons (ps_for PassesOwn.never rfl (pi_tup (pv 11)) (pg_name (i := 13) scCase.nd rfl (.inl rfl)) (pss_one (ps_dput hu (pv 9) (pv 13) pe_bl rfl)))
      (pss_cons (ps_set (i := 8) scCase.nd rfl (.inl rfl) (pe_methN (pv 0) T.cl mW GW hr bW pass0 (pa_cons (pv 12) (pa_cons (pv 2) pa_nil))))
      (pss_cons (ps_if (pt_cmpR op_notN (pv 8) pe_non (nomark _)) (pss_cons (ps_expr (pe_bm PySem.F.plainAttrs_list PySem.F.slot_list_append PySem.F.type_list_append mt_append (pv 8) (pa_cons (pv 10) pa_nil)))
      (pss_one (ps_ret (pv 8)))) pss_nil)
      (pss_cons (ps_for PassesOwn.never rfl (pi_tup (pv 11)) (pg_name (i := 13) scCase.nd rfl (.inl rfl)) (pss_one (ps_dput hu (pv 9) (pv 13) pe_bl rfl)))
      (pss_one (ps_aug (i := 10) scCase.nd rfl (.inl rfl) pe_int ip_add)))))))
      (pss_cons (ps_dput hu (pv 9) (pv 5) pe_bl rfl)
      (pss_cons (ps_slA (pv 0) (pv 10) ip_add)
      (pss_one (ps_ret pe_non))))))))))))), ?_⟩
  have tup : ∀ {H1 : Hp} {t : Addr} {ws : List V}, SqT K H1 t ws → TyX K H1 (.ref t) (.type "tuple") := fun h => tyx_seqT h
  have places : ∀ {H1 : Hp} {S1 : Nm} {m1 : Int} {σ : L2.St} {Q' : V → Hp → Prop}, JAt K C G H1 j n S1 m1 → σ[0]? = some (some (.ref j.o)) → Q' (.int n) H1 → SlX.tSl K (tVar 0) "places" σ H1 Q' := fun J1 h0 q' => ⟨_, h0, j.o, C, j.dx, p0, _, 3, _, rfl, J1.slt, T.cl, T.s0, rfl, q'⟩
  have nmsR : ∀ {H1 : Hp} {S1 : Nm} {m1 : Int} {σ : L2.St} {Q' : V → Hp → Prop}, JAt K C G H1 j n S1 m1 → σ[0]? = some (some (.ref j.o)) → Q' (.ref j.nn) H1 → SlX.tSl K (tVar 0) "names" σ H1 Q' := fun J1 h0 q' => ⟨_, h0, j.o, C, j.dx, p2, _, 2, _, rfl, J1.slt, T.cl, T.s2, rfl, q'⟩
  cases hj with
  | @case _ _ S1 S2 S3 p x as o e0 c0 c1 hp hn hx hl h60 ha h0 h1 =>
    obtain ⟨t, ws, rfl, hT, hA⟩ := tup_open hv
    obtain ⟨z1, ws, rfl, hz1, hA⟩ := all_open hA
    obtain ⟨z2, ws, rfl, hz2, hA⟩ := all_open hA
    obtain ⟨z3, ws, rfl, hz3, hA⟩ := all_open hA
    obtain ⟨z4, ws, rfl, hz4, hA⟩ := all_open hA
    obtain ⟨z5, ws, rfl, hz5, hA⟩ := all_open hA
    obtain ⟨z6, ws, rfl, hz6, hA⟩ := all_open hA
    obtain rfl := nil_open hA
    cases hz1
    cases hz2
    cases hz4
    have hT' := Same.seqT J.same hT
    have g3 : S3.length ≤ 16000000 := Nat.le_trans (putN_ge S3 x false) hS
    have g2' : (putN S2 x true).length ≤ 16000000 := Nat.le_trans h1.ge g3
    have g2 : S2.length ≤ 16000000 := Nat.le_trans (putN_ge S2 x true) g2'
    have g1 : S1.length ≤ 16000000 := Nat.le_trans h0.ge g2
    have g0 : (putN S x false).length ≤ 16000000 := Nat.le_trans ha.ge g1
    obtain ⟨ta, was, rfl, hTa, hAa⟩ := tup_open hz5
    refine ⟨_, rfl, _, _, rfl, .inr ⟨_, hT', rfl⟩, rfl, false, by simp, iteF ?_⟩
    refine ⟨_, rfl, t, _, rfl, hT', rfl, _, _, rfl, _, _, rfl, _, _, rfl, _, _, rfl, _, _, rfl, _, _, rfl, rfl, ?_⟩
    refine ⟨_, rfl, j.o, j.dx, _, rfl, J.slt, _, rfl, by show 1 ≤ sizeLine; decide, fun T1 nT1 => ?_⟩
    refine ⟨upd G T1 (.tup [.str x]), j, n, m, S, _, T1, [x], false, rfl, J.grow nT1, SqT.of upd_same, .cons hn hx hl .nil, g0, fun H3 J3' => ⟨true, rfl, iteF ?_⟩⟩
    have J3 := J3'.less (J.none nT1)
    refine ⟨_, rfl, j.o, j.dx, _, rfl, J3.slt, _, rfl, G, j, n, m, _, S1, .ref ta, as, rfl, J3, hD, hz5, h60, ha, g1, fun H4 J4 => ⟨true, rfl, iteF ?_⟩⟩
    refine ⟨_, rfl, j.o, j.dx, _, rfl, J4.slt, _, rfl, _, rfl, G, j, n, _, _, _, z3, _, _, rfl, J4, hD, hz3, h0, g2, fun H5 J5 => ?_⟩
    refine ⟨_, rfl, rfl, false, rfl, iteF ?_⟩
    refine ⟨_, rfl, j.o, C, j.dx, p2, _, 2, _, rfl, J5.slt, T.cl, T.s2, rfl, ?_⟩
    refine ⟨_, rfl, _, rfl, j.nn, _, rfl, DPut.k (k := .inr x) J5.nms (nm_lt g2), ?_⟩
    have J6 := J5.put (x := x) (b := true)
    refine case_iter J6 rfl rfl hTa hAa hz6 (fun e he => ?_) h60 fun G2 H7 Tw W sG J7 hW lW item back => ?_
    · subst he
      exact jdc_tuple h1 ([], e) (by simp [ways])
    refine ⟨Tw, rfl, ⟨_, Same.seqT J7.same hW⟩, for_tup (K := K) (a := Tw) (xs := W) (fun i σ H' => ∃ (v3 v11 v12 v13 : Option V) (Si : Nm) (ci cr : Nat), σ = [some (.ref j.o), some (.ref t), some (.int (L : Int)), v3, some z3, some (.str x), some (.ref ta), some z6, some .non, some (.ref j.nn), some (.int ((i : Int) + 1)), v11, v12, v13] ∧ JAt K C G2 H' j n Si (m + c0 + ci) ∧ JdC n D L Si ((ways as o).drop i) S3 cr ∧ ci + cr = c1)
      ⟨_, none, none, none, _, 0, c1, rfl, (show JAt K C G2 H7 j n (putN S2 x true) (m + c0 + ((0 : Nat) : Int)) by rw [show m + c0 + ((0 : Nat) : Int) = m + c0 by omega]; exact J7), h1, Nat.zero_add _⟩ (fun i σ H' _ ⟨_, _, _, _, _, _, _, _, J1, _⟩ => Same.seqT J1.same hW) ?_ ?_⟩
    · rintro i y σ H' hy ⟨v3, v11, v12, v13, Si, ci, cr, rfl, J8, hC, hc⟩
      obtain ⟨T3, a, t4, ns, v, d, rfl, hT3, ht4, hd, hv3⟩ := item i y hy
      rw [drop_get hd] at hC
      cases hC with
      | @cons _ _ Sa _ _ _ _ ca cb k1 k2 =>
        have gb : (putAll Sa ns false).length ≤ 16000000 := Nat.le_trans k2.ge g3
        have ga : Sa.length ≤ 16000000 := Nat.le_trans (putAll_ge ns Sa false) gb
        have gi : (putAll Si ns true).length ≤ 16000000 := Nat.le_trans k1.ge ga
        refine ⟨T3, _, rfl, Same.seqT J8.same hT3, rfl, _, _, rfl, _, _, rfl, _, _, rfl, rfl, ?_⟩
        refine ⟨_, rfl, t4, rfl, ⟨_, Same.seqT J8.same ht4⟩, for_tup (K := K) (a := t4) (xs := ns.map V.str) (fun k σ H' => ∃ (v13 : Option V), σ = [some (.ref j.o), some (.ref t), some (.int (L : Int)), some a, some z3, some (.str x), some (.ref ta), some z6, some .non, some (.ref j.nn), some (.int ((i : Int) + 1)), some (.ref t4), some v, v13] ∧ JAt K C G2 H' j n (putAll Si (ns.take k) true) (m + c0 + ci))
          ⟨_, rfl, by simpa [putAll] using J8⟩ (fun i σ H' _ ⟨_, _, J1⟩ => Same.seqT J1.same ht4) ?_ ?_⟩
        · rintro k y σ H' hy ⟨v13', rfl, Jk⟩
          rw [List.getElem?_map, Option.map_eq_some_iff] at hy
          obtain ⟨z, hz, rfl⟩ := hy
          have gk : (putAll Si (ns.take k) true).length ≤ 16000000 := Nat.le_trans (putAll_take Si ns k true) gi
          refine ⟨_, rfl, _, rfl, j.nn, _, rfl, DPut.k (k := .inr z) Jk.nms (nm_lt gk), some (.str z), rfl, ?_⟩
          rw [putAll_succ Si hz true]
          exact Jk.put
        rintro σ H' ⟨v13', rfl, J9⟩
        rw [List.length_map, List.take_length] at J9
        refine ⟨_, rfl, j.o, j.dx, _, rfl, J9.slt, _, rfl, _, rfl, G2, j, n, _, _, _, v, d, _, rfl, J9, hD.same sG, hv3, k1, ga, fun H10 J10 => ?_⟩
        refine ⟨_, rfl, rfl, false, rfl, iteF ?_⟩
        refine ⟨_, rfl, t4, rfl, ⟨_, Same.seqT J10.same ht4⟩, for_tup (K := K) (a := t4) (xs := ns.map V.str) (fun k σ H' => ∃ (v13 : Option V), σ = [some (.ref j.o), some (.ref t), some (.int (L : Int)), some a, some z3, some (.str x), some (.ref ta), some z6, some .non, some (.ref j.nn), some (.int ((i : Int) + 1)), some (.ref t4), some v, v13] ∧ JAt K C G2 H' j n (putAll Sa (ns.take k) false) (m + c0 + ci + ca))
          ⟨_, rfl, by simpa [putAll] using J10⟩ (fun i σ H' _ ⟨_, _, J1⟩ => Same.seqT J1.same ht4) ?_ ?_⟩
        · rintro k y σ H' hy ⟨v13', rfl, Jk⟩
          rw [List.getElem?_map, Option.map_eq_some_iff] at hy
          obtain ⟨z, hz, rfl⟩ := hy
          have gk : (putAll Sa (ns.take k) false).length ≤ 16000000 := Nat.le_trans (putAll_take Sa ns k false) gb
          refine ⟨_, rfl, _, rfl, j.nn, _, rfl, DPut.k (k := .inr z) Jk.nms (nm_lt gk), some (.str z), rfl, ?_⟩
          rw [putAll_succ Sa hz false]
          exact Jk.put
        rintro σ H' ⟨v13', rfl, J11⟩
        rw [List.length_map, List.take_length] at J11
        refine ⟨_, rfl, (i : Int) + 1, 1, rfl, rfl, ?_⟩
        refine ⟨_, _, _, _, _, ci + ca, cb, rfl, ?_, k2, by omega⟩
        rw [show m + c0 + ((ci + ca : Nat) : Int) = m + c0 + ci + ca by omega]
        exact J11
    · rintro σ H' ⟨v3, v11, v12, v13, Si, ci, cr, rfl, J8, hC, hc⟩
      rw [lW, List.drop_length] at hC
      cases hC
      refine ⟨_, rfl, _, rfl, j.nn, _, rfl, DPut.k (k := .inr x) J8.nms (nm_lt g3), ?_⟩
      have J9 := J8.put (x := x) (b := false)
      refine ⟨_, rfl, j.o, C, j.dx, p3, _, 1, _, rfl, J9.slt, T.cl, T.s3, rfl, _, rfl, _, _, rfl, rfl, _, J9.slt, ?_⟩
      have J10 := J9.many (m' := m + c0 + ci + ((W.length : Int) + 1))
      refine q _ ?_
      have e5 : m + ((c0 + c1 + (1 + (ways as o).length) : Nat) : Int) = m + c0 + ci + ((W.length : Int) + 1) := by rw [lW]; omega
      rw [e5]
      exact back J10
  | atom ha => cases ha <;> exact absurd (Option.some.inj hw) (by decide)
  | _ => exact absurd (Option.some.inj hw) (by decide)
set_option maxHeartbeats 8000000 in
theorem ok_alts {f fB fN : Addr} {fd fdB fdN : FuncData} {tM : Tok} (F : Fun K "are_alternatives" "Judge.are_alternatives" jAlts f fd) (T : TxtJ K w mg C p0 p1 p2 p3 aJ kv) {D : Str → Nat → Bool} (gM : mg "MOST_THINGS" = some (.int 60 tM))
    (GN : FnOk P w K mg base CX0 1 fN fdN ["thing"] spNum) (kN : PySem.W.keepIn K (.ref fN) = true) (bN : Binds K fdN ["thing"] []) (gN : mg "is_number" = some (.ref fN))
    (GB : FnOk P w K mg base CX0 2 fB fdB ["self", "names", "is_around"] (spBind K C)) (bB : Binds K fdB ["self", "names", "is_around"] []) (mB : Meth K C "bind" fB) :
    FnOk P w K mg base CX0 3 f fd ["self", "alternatives"] (spAlts K C D) := by
  refine F.ok scAlts (fun vs H Q E h => ?_) (fun cdv A outer st H vs Q E hr h => ?_)
  · obtain ⟨G, j, n, m, S, S', v, as, rfl, _⟩ := h
    rfl
  obtain ⟨G, j, n, m, S, S', v, as, rfl, J, hD, hv, hl, ha, hS, q⟩ := h
  have hu := ru1 hr
  refine ⟨_, (pss_cons (ps_if (PW.pt (pw_or (pt_not (pt_val (pe_callB call_isi (by rfl) T.isi (by decide +kernel) (pa_cons (pv 1) (pa_cons (pe_bltn (v := .ty "tuple") (by rfl) T.tuple (by decide +kernel) rfl) pa_nil))))) (pw_or1 (pt_cmpR op_gt (pe_callB call_len (by rfl) T.len PySem.boot_len (pa_cons (pv 1) pa_nil)) (pe_glob (v := .int 60) (by rfl) gM ⟨_, rfl⟩) (nomark _))))) (pss_one (ps_ret pe_bl)) pss_nil)
      (pss_cons (ps_set (i := 2) scAlts.nd rfl (.inl rfl) pe_dnewK)
      (pss_cons (ps_for PassesOwn.never rfl (pi_tup (pv 1)) (pg_name (i := 3) scAlts.nd rfl (.inl rfl)) (pss_cons (ps_if (PW.pt (pw_or (pt_not (pt_val (pe_callB call_isi (by rfl) T.isi (by decide +kernel) (pa_cons (pv 3) (pa_cons (pe_bltn (v := .ty "tuple") (by rfl) T.tuple (by decide +kernel) rfl) pa_nil))))) (pw_or1 (pt_cmpR op_ne (pe_callB call_len (by rfl) T.len PySem.boot_len (pa_cons (pv 3) pa_nil)) pe_int (nomark _))))) (pss_one (ps_ret pe_bl)) pss_nil)
      (pss_cons (ps_asg (pv 3) (pg_tup rfl (pgs_cons (pg_name (i := 4) scAlts.nd rfl (.inl rfl)) (pgs_cons (pg_name (i := 5) scAlts.nd rfl (.inl rfl)) (pgs_cons (pg_name (i := 6) scAlts.nd rfl (.inl rfl)) pgs_nil)))))
      (pss_cons (ps_if (PW.pt (pw_or (pt_not (pt_val (pe_callB call_isi (by rfl) T.isi (by decide +kernel) (pa_cons (pv 5) (pa_cons (pe_bltn (v := .ty "tuple") (by rfl) T.tuple (by decide +kernel) rfl) pa_nil))))) (pw_or1 (pt_cmpR op_gt (pe_callB call_len (by rfl) T.len PySem.boot_len (pa_cons (pv 5) pa_nil)) (pe_glob (v := .int 60) (by rfl) gM ⟨_, rfl⟩) (nomark _))))) (pss_one (ps_ret pe_bl)) pss_nil)
      (C8.pss_cut (ps_if (pt_val (pe_callB call_isi (by rfl) T.isi (by decide +kernel) (pa_cons (pv 4) (pa_cons (pe_bltn (v := .ty "str") (by rfl) T.str (by decide +kernel) rfl) pa_nil)))) (pss_cons (ps_set (i := 7) scAlts.nd rfl (.inl rfl) (pe_dget1 hu (SlX.pe_sl (pv 0)) (pv 4) ⟨rfl, rfl, rfl, rfl⟩))
      (pss_one (ps_if (PW.pt (pw_or (pt_not (pt_val (pe_callB call_isi (by rfl) T.isi (by decide +kernel) (pa_cons (pv 7) (pa_cons (pe_bltn (v := .ty "tuple") (by rfl) T.tuple (by decide +kernel) rfl) pa_nil))))) (pw_or1 (pt_cmpR (op_notInTup (ru65 hr)) (pe_tup (pa_cons (pv 4) (pa_cons (pe_callB call_len (by rfl) T.len PySem.boot_len (pa_cons (pv 5) pa_nil)) pa_nil))) (pv 7) rfl)))) (pss_one (ps_ret pe_bl)) pss_nil))) (pss_one (ps_if (PW.pt (pw_or (pt_not (pt_val (pe_call GN (hr.mono (by decide)) rfl gN kN bN .nil pass0 (pa_cons (pv 4) pa_nil)))) (pw_or1 (pt_truth (pv 5) (fun _ => rfl))))) (pss_one (ps_ret pe_bl)) pss_nil))) (C8.pss_cut (ps_if (PW.pt (pw_or (pt_cmp (pc_din hu (pv 4) (pv 2)) rfl) (pw_or1 (PW.pt (pw_and (pt_truth (pv 5) (fun _ => rfl)) (pw_and1 (pt_not (pt_val (pe_methS (pv 0) T.cl mB GB (hr.mono (by decide)) bB pass0 (pa_cons (pv 5) (pa_cons pe_bl pa_nil))))))))))) (pss_one (ps_ret pe_bl)) pss_nil) (pss_one (ps_dput hu (pv 2) (pv 4) pe_bl rfl))))))))
      (pss_one (ps_ret pe_bl))))), ?_⟩
  have tup : ∀ {H1 : Hp} {t : Addr} {ws : List V}, SqT K H1 t ws → TyX K H1 (.ref t) (.type "tuple") := fun h => tyx_seqT h
  obtain ⟨ta, was, rfl, hTa, hA⟩ := tup_open hv
  have hTa' := Same.seqT J.same hTa
  have la : was.length = as.length := by rw [DpAll.len hA, List.length_map]
  refine ⟨_, rfl, .ref ta, .ty "tuple", .type "tuple", .type "tuple", true, rfl, .ty _, tup hTa', kit_ty (a := "tuple") (b := "tuple") (r := true) (by decide +kernel), true, rfl, iteF ?_⟩
  refine ⟨_, rfl, _, _, rfl, .inr ⟨_, hTa', rfl⟩, _, _, rfl, rfl, false, bl_f (by rw [la]; omega), iteF ?_⟩
  refine fun sd nsd => ?_
  have gsd := J.none nsd
  have no : j.o ≠ sd := fun z => by rw [← z, J.obj] at nsd; cases nsd
  have nd : j.dx ≠ sd := fun z => by rw [← z, J.own] at nsd; cases nsd
  have nn : j.nn ≠ sd := fun z => by rw [← z, J.nms] at nsd; cases nsd
  refine ⟨_, rfl, ta, rfl, ⟨_, Same.seqT (Same.new nsd) hTa'⟩, for_tup (K := K) (a := ta) (xs := was) (fun i σ H' => ∃ (v3 v4 v5 v6 v7 : Option V) (Si : Nm) (seen : List Key), σ = [some (.ref j.o), some (.ref ta), some (.ref sd), v3, v4, v5, v6, v7] ∧ JAt K C G H' j n Si m ∧ H' sd = some (.dK (seenK seen)) ∧ AltOk D Si seen (as.drop i) S' ∧ seen.length = i)
    ⟨none, none, none, none, none, S, [], rfl, J.new nsd, upd_same, ha, rfl⟩ (fun i σ H' _ ⟨_, _, _, _, _, _, _, _, J1, _⟩ => Same.seqT J1.same hTa) ?_ ?_⟩
  · rintro i x σ H' hx ⟨v3, v4, v5, v6, v7, Si, seen, rfl, J1, hsd, hO, hls⟩
    obtain ⟨d, hd, dk⟩ := DpAll.get hA hx
    rw [List.getElem?_map, Option.map_eq_some_iff] at hd
    obtain ⟨⟨wt, ns, e1⟩, hai, rfl⟩ := hd
    have il : i < as.length := (List.getElem?_eq_some_iff.mp hai).1
    rw [drop_get hai] at hO
    cases hO with
    | @cons _ S1 _ _ _ _ _ _ hni h60 hwh hB hrest =>
      obtain ⟨t2, ws2, rfl, hT2, hA2⟩ := tup_open dk
      obtain ⟨y1, ws2, rfl, hy1, hA2⟩ := all_open hA2
      obtain ⟨y2, ws2, rfl, hy2, hA2⟩ := all_open hA2
      obtain ⟨y3, ws2, rfl, hy3, hA2⟩ := all_open hA2
      obtain rfl := nil_open hA2
      obtain rfl := dp_what hy1
      obtain ⟨tn, wn, rfl, hTn, hAn⟩ := tup_open hy2
      obtain rfl := all_strs hAn
      have hT2' := Same.seqT J1.same hT2
      have hTn' := Same.seqT J1.same hTn
      have lw : (ns.map V.str).length = ns.length := List.length_map _
      have g1 : S1.length ≤ 16000000 := Nat.le_trans hrest.ge hS
      refine ⟨_, rfl, .ref t2, .ty "tuple", .type "tuple", .type "tuple", true, rfl, .ty _, tup hT2', kit_ty (a := "tuple") (b := "tuple") (r := true) (by decide +kernel), true, rfl, iteF ?_⟩
      refine ⟨_, rfl, _, _, rfl, .inr ⟨_, hT2', rfl⟩, rfl, false, by simp, iteF ?_⟩
      refine ⟨_, rfl, t2, _, rfl, hT2', rfl, _, _, rfl, _, _, rfl, _, _, rfl, rfl, ?_⟩
      refine ⟨_, rfl, .ref tn, .ty "tuple", .type "tuple", .type "tuple", true, rfl, .ty _, tup hTn', kit_ty (a := "tuple") (b := "tuple") (r := true) (by decide +kernel), true, rfl, iteF ?_⟩
      refine ⟨_, rfl, _, _, rfl, .inr ⟨_, hTn', rfl⟩, _, _, rfl, rfl, false, bl_f (by rw [lw]; omega), iteF ?_⟩
      refine ⟨fun σ' H2 => Same H' H2 ∧ ∃ v7, σ' = [some (.ref j.o), some (.ref ta), some (.ref sd), some (.ref t2), some (kV wt), some (.ref tn), some y3, v7], ?_, ?_⟩
      · cases wt with
        | inr mk =>
          unfold whatOk at hwh
          rw [Bool.and_eq_true] at hwh
          obtain ⟨hd, hsm⟩ := hwh
          refine ⟨_, rfl, .str mk, .ty "str", .type "str", .type "str", true, rfl, .ty _, .base (.str _), kit_ty (a := "str") (b := "str") (r := true) (by decide +kernel), true, rfl, iteT ?_⟩
          obtain ⟨kvs, hdn, hmk⟩ := hD.dict
          obtain ⟨tl, dl, hv1, hv2, hs1, hany, _⟩ := hmk mk ns.length hd
          have hdn' := J1.same _ _ hdn
          obtain ⟨tl2, wl, e2, hTl, _⟩ := tup_open hv2
          cases e2
          refine ⟨_, rfl, j.o, C, j.dx, p1, _, 0, _, rfl, J1.slt, T.cl, T.s1, rfl, j.dn, rfl, .inl ⟨_, .inl hdn'⟩, _, rfl, _, DGet.k (k := .inr mk) hdn', ?_⟩
          rw [hv1]
          refine ⟨_, rfl, .ref tl, .ty "tuple", .type "tuple", .type "tuple", true, rfl, .ty _, tup (Same.seqT J1.same hTl), kit_ty (a := "tuple") (b := "tuple") (r := true) (by decide +kernel), true, rfl, iteF ?_⟩
          refine ⟨_, rfl, _, rfl, _, _, rfl, .inr ⟨_, hTn', rfl⟩, by show 2 ≤ sizeLine; decide, fun T2 nT2 => ?_⟩
          have s2 := Same.new (o := .tup [.str mk, .int ((ns.map V.str).length : Int)]) nT2
          refine ⟨_, rfl, .tuple [.str mk, .int ((ns.map V.str).length : Int)], dl, .tup (SqT.of upd_same) (.cons (.str _) (.cons (.int _) .nil)), Dp.same (J1.same.trans s2) _ _ hv2, ?_, hs1, ?_⟩
          · unfold SeqAt.shaped
            rw [Bool.and_eq_true]
            exact ⟨by simp [PyData.canLay0, PyData.canLayAll0, hsm], decide_eq_true (by simp [PyData.depth, PyData.depthAll])⟩
          · rw [lw, hany]
            exact ⟨false, rfl, iteF ⟨Same.new nT2, _, rfl⟩⟩
        | inl i0 =>
          unfold whatOk at hwh
          rw [Bool.and_eq_true, decide_eq_true_eq] at hwh
          refine ⟨_, rfl, .int i0, .ty "str", .type "int", .type "str", false, rfl, .ty _, .base (.int _), kit_ty (a := "int") (b := "str") (r := false) (by decide +kernel), false, rfl, iteF ?_⟩
          refine ⟨_, rfl, _, rfl, .inl ⟨i0, rfl⟩, true, congrArg V.bl hwh.1, iteF ?_⟩
          have n0 : ns = [] := List.length_eq_zero_iff.mp hwh.2
          subst n0
          exact ⟨_, rfl, false, .inr (.inl ⟨_, hTn', rfl⟩), iteF ⟨fun _ _ e => e, _, rfl⟩⟩
      · rintro σ' H2 ⟨s2, v7', rfl⟩
        have J2 := J1.wide s2
        have hsd2 := s2 _ _ hsd
        refine ⟨fun σ' H3 => σ' = [some (.ref j.o), some (.ref ta), some (.ref sd), some (.ref t2), some (kV wt), some (.ref tn), some y3, v7'] ∧ JAt K C G H3 j n S1 m ∧ H3 sd = some (.dK (seenK seen)), ?_, ?_⟩
        · have hg := DGet.k (k := wt) hsd2
          rw [seen_none hni] at hg
          refine ⟨_, rfl, _, rfl, sd, _, rfl, hg, false, rfl, iteF ?_⟩
          cases ns with
          | nil =>
            cases hB
            exact ⟨_, rfl, false, .inr (.inl ⟨_, Same.seqT s2 hTn', rfl⟩), iteF ⟨rfl, J2, hsd2⟩⟩
          | cons z zs =>
            refine ⟨_, rfl, true, .inr (.inl ⟨_, Same.seqT s2 hTn', rfl⟩), iteT ?_⟩
            refine ⟨_, rfl, j.o, j.dx, _, rfl, J2.slt, _, rfl, upd G sd (.dK (seenK seen)), j, n, m, Si, S1, tn, _, false, rfl, J2.take hsd2 no nd nn, Same.seqT (Same.new gsd) hTn, hB, g1, fun H3 J3 => ⟨true, rfl, iteF ?_⟩⟩
            exact ⟨rfl, J3.less gsd, J3.same _ _ upd_same⟩
        · rintro σ' H3 ⟨rfl, J3, hsd3⟩
          have ls : (seenK seen).length < sizeLine := by
            unfold seenK
            rw [List.length_map, hls]
            exact Nat.lt_of_lt_of_le il (Nat.le_trans hl (by decide))
          refine ⟨_, rfl, _, rfl, sd, _, rfl, DPut.k (k := wt) hsd3 ls, ?_⟩
          rw [seen_put hni]
          exact ⟨_, _, _, _, _, S1, seen ++ [wt], rfl, J3.setO gsd no nd nn, upd_same, hrest, by rw [List.length_append, hls]; rfl⟩
  · rintro σ H' ⟨v3, v4, v5, v6, v7, Si, seen, rfl, J1, hsd, hO, hls⟩
    have e0 : as.drop was.length = [] := by rw [la, List.drop_length]
    rw [e0] at hO
    cases hO
    exact q _ J1
end
end J45

set_option Elab.async false
set_option maxRecDepth 100000
/-! all parts right; parts that are none -/
namespace RN
open PySem PySem.Spec PyProof.Rows L2
theorem FnN.or {P : Program} {w : World} {K : PySem.W.Frag} {mg : Str → Option Value} {base : Heap} {CX : CXT} {n : Nat} {f : Addr} {fd : FuncData} {ps : List Str} {sp1 sp2 : Sp} (F1 : FnN P w K mg base CX n f fd ps sp1) (F2 : FnN P w K mg base CX n f fd ps sp2) :
    FnN P w K mg base CX n f fd ps (fun vs H Q E => sp1 vs H Q E ∨ sp2 vs H Q E) :=
  ⟨fun vs H Q E h => h.elim (F1.len _ _ _ _) (F2.len _ _ _ _), fun A outer s H args us vs Q E hr e0 b r h => h.elim (F1.run A outer s H args us vs Q E hr e0 b r) (F2.run A outer s H args us vs Q E hr e0 b r)⟩
end RN
namespace J45
open PySem PySem.Spec PyProof.Rows L2 Hx Xr RN
abbrev jFault : Stmt := inClass (top judgeI) 3
section
variable {P : Program} {w : World} {K : PySem.W.Frag} {mg : Str → Option Value} {base : Heap} {C p0 p1 p2 p3 aJ : Addr} {kv : List (Str × V)}
/-! ### all that is right -/
theorem all_right {fW fP fN fQ fR fF fA fI fB fL fCall fFun fLet fCase fDeed fEarly fNow aD : Addr} {fdW fdP fdN fdQ fdR fdF fdA fdI fdB fdL fdCall fdFun fdLet fdCase fdDeed fdEarly fdNow : FuncData} {spF : Sp} {tM : Tok} {D : Str → Nat → Bool}
    (T : TxtJ K w mg C p0 p1 p2 p3 aJ kv) (TD : DeedsOk K w mg aD) (gM : mg "MOST_THINGS" = some (.int 60 tM))
    (FW : Fun K "wrong_in" "Judge.wrong_in" jWrong fW fdW) (bW : Binds K fdW ["self", "part", "left"] []) (mW : Meth K C "wrong_in" fW)
    (GP : FnOk P w K mg base CX0 1 fP fdP ["thing", "places"] spPlace) (kP : PySem.W.keepIn K (.ref fP) = true) (bP : Binds K fdP ["thing", "places"] []) (gP : mg "is_place_number" = some (.ref fP))
    (GN : FnOk P w K mg base CX0 1 fN fdN ["thing"] spNum) (kN : PySem.W.keepIn K (.ref fN) = true) (bN : Binds K fdN ["thing"] []) (gN : mg "is_number" = some (.ref fN))
    (GQ : FnOk P w K mg base CX0 2 fQ fdQ ["thing"] spPlain) (kQ : PySem.W.keepIn K (.ref fQ) = true) (bQ : Binds K fdQ ["thing"] []) (gQ : mg "is_plain_name" = some (.ref fQ))
    (GA : FnOk P w K mg base CX0 1 fA fdA ["thing"] spName) (kA : PySem.W.keepIn K (.ref fA) = true) (bA : Binds K fdA ["thing"] []) (gA : mg "is_name" = some (.ref fA))
    (GI : FnOk P w K mg base CX0 3 fI fdI ["thing", "places"] (spPart K)) (kI : PySem.W.keepIn K (.ref fI) = true) (bI : Binds K fdI ["thing", "places"] []) (gI : mg "is_part" = some (.ref fI))
    (GR : FnOk P w K mg base CX0 2 fR fdR ["self", "atoms"] (spRight K C)) (bR : Binds K fdR ["self", "atoms"] []) (mR : Meth K C "are_right" fR)
    (GF : FnOk P w K mg base CX0 5 fF fdF ["self", "part"] spF) (bF : Binds K fdF ["self", "part"] []) (mF : Meth K C "fault" fF)
    (GB : FnOk P w K mg base CX0 2 fB fdB ["self", "names", "is_around"] (spBind K C)) (bB : Binds K fdB ["self", "names", "is_around"] []) (mB : Meth K C "bind" fB)
    (GL : FnOk P w K mg base CX0 3 fL fdL ["self", "alternatives"] (spAlts K C D)) (bL : Binds K fdL ["self", "alternatives"] []) (mL : Meth K C "are_alternatives" fL)
    (FCall : Fun K "call_wrong" "call_wrong" sCall fCall fdCall) (kCall : PySem.W.keepIn K (.ref fCall) = true) (bCall : Binds K fdCall ["judge", "part", "left"] []) (lCall : kv.lookup ("call" : Str) = some (.ref fCall))
    (FFun : Fun K "fun_wrong" "fun_wrong" sFun fFun fdFun) (kFun : PySem.W.keepIn K (.ref fFun) = true) (bFun : Binds K fdFun ["judge", "part", "left"] []) (lFun : kv.lookup ("fun" : Str) = some (.ref fFun))
    (FLet : Fun K "let_wrong" "let_wrong" sLet fLet fdLet) (kLet : PySem.W.keepIn K (.ref fLet) = true) (bLet : Binds K fdLet ["judge", "part", "left"] []) (lLet : kv.lookup ("let" : Str) = some (.ref fLet))
    (FCase : Fun K "case_wrong" "case_wrong" sCase fCase fdCase) (kCase : PySem.W.keepIn K (.ref fCase) = true) (bCase : Binds K fdCase ["judge", "part", "left"] []) (lCase : kv.lookup ("case" : Str) = some (.ref fCase))
    (FDeed : Fun K "deed_wrong" "deed_wrong" sDeed fDeed fdDeed) (kDeed : PySem.W.keepIn K (.ref fDeed) = true) (bDeed : Binds K fdDeed ["judge", "part", "left"] []) (lDeed : kv.lookup ("deed" : Str) = some (.ref fDeed))
    (FEarly : Fun K "early_wrong" "early_wrong" sEarly fEarly fdEarly) (kEarly : PySem.W.keepIn K (.ref fEarly) = true) (bEarly : Binds K fdEarly ["judge", "part", "left"] []) (lEarly : kv.lookup ("early" : Str) = some (.ref fEarly))
    (FNow : Fun K "now_wrong" "now_wrong" sNow fNow fdNow) (kNow : PySem.W.keepIn K (.ref fNow) = true) (bNow : Binds K fdNow ["judge", "part", "left"] []) (lNow : kv.lookup ("now" : Str) = some (.ref fNow)) :
    ∀ L : Nat, FnN P w K mg base CX0 (2 * L + 41) fW fdW ["self", "part", "left"] (spWrong K C D L) := by
  intro L
  induction L with
  | zero => exact ok_wrong FW T GP kP bP gP GN kN bN gN GQ kQ bQ gQ GR bR mR GF bF mF (.inl rfl)
  | succ L GW =>
    refine ok_wrong FW T GP kP bP gP GN kN bN gN GQ kQ bQ gQ GR bR mR GF bF mF (.inr ⟨L, rfl, fun wd hm => ?_⟩)
    simp only [List.mem_cons, List.not_mem_nil, or_false] at hm
    rcases hm with rfl | rfl | rfl | rfl | rfl | rfl | rfl
    · exact ⟨fCall, lCall, ⟨fdCall, _, ok_call FCall T GP kP bP gP GR bR mR GF bF mF, kCall, bCall⟩⟩
    · exact ⟨fFun, lFun, ⟨fdFun, _, ok_fun FFun T gM GB bB mB GF bF mF GW bW mW, kFun, bFun⟩⟩
    · exact ⟨fLet, lLet, ⟨fdLet, _, ok_let FLet T gM GA kA bA gA GF bF mF GW bW mW, kLet, bLet⟩⟩
    · exact ⟨fDeed, lDeed, ⟨fdDeed, _, ok_deed FDeed T TD GW bW mW, kDeed, bDeed⟩⟩
    · exact ⟨fEarly, lEarly, ⟨fdEarly, _, ok_early FEarly T GI kI bI gI GB bB mB GF bF mF GW bW mW, kEarly, bEarly⟩⟩
    · exact ⟨fNow, lNow, ⟨fdNow, _, ok_now FNow T GI kI bI gI GW bW mW, kNow, bNow⟩⟩
    · exact ⟨fCase, lCase, ⟨fdCase, _, ok_case FCase T GB bB mB GL bL mL GF bF mF GW bW mW, kCase, bCase⟩⟩
/-! ### a part at no place -/
def formWords : List Str := ["name", "num", "fault", "con", "call", "fun", "let", "case", "deed", "early", "now"]
def BadAt (n : Int) (e : PyData) : Prop := ∃ (wd : Str) (p : Int) (rest : List PyData), e = .tuple (.str wd :: .int p :: rest) ∧ 1 ≤ rest.length ∧ inP n p = false ∧ wd ∈ formWords
/-- told: a part is none; the numbers that lead there -/
def Told (G : Hp) (path : List V) (Q : VK) : Prop := ∀ (H' : Hp) (a : Addr), Same G H' → G a = none → H' a = some (.lst (.str "part" :: path)) → Q (.ref a) H'
def spPartB (K : PySem.W.Frag) : Sp := fun vs H Q _ => ∃ (n : Int) (v : V) (e : PyData), vs = [v, .int n] ∧ Dp K H v e ∧ BadAt n e ∧ Q (.bl false) H
def spFault (K : PySem.W.Frag) (C : Addr) : Sp := fun vs H Q _ => ∃ (G : Hp) (j : Jo) (n m : Int) (S : Nm) (v : V) (e : PyData), vs = [.ref j.o, v] ∧ JAt K C G H j n S m ∧ Dp K G v e ∧ BadAt n e ∧ Told G [] Q
def spBadW (K : PySem.W.Frag) (C : Addr) (L : Nat) : Sp := fun vs H Q _ => ∃ (G : Hp) (j : Jo) (n m : Int) (S : Nm) (v : V) (e : PyData), vs = [.ref j.o, v, .int (L : Int)] ∧ JAt K C G H j n S m ∧ Dp K G v e ∧ BadAt n e ∧ Told G [] Q
/-- so many nows around a number -/
def chain : Nat → PyData
  | 0 => .tuple [.str "num", .int 0, .int 1]
  | d + 1 => .tuple [.str "now", .int 0, .int 0, .str "x", chain d]
def spBadD (K : PySem.W.Frag) (C : Addr) (d : Nat) : Sp := fun vs H Q _ => ∃ (G : Hp) (j : Jo) (n m : Int) (S : Nm) (v : V), vs = [.ref j.o, v, .int ((d : Int) - 1)] ∧ JAt K C G H j n S m ∧ Dp K G v (chain d) ∧ inP n 0 = true ∧ d ≤ 1000 ∧ Told G (List.replicate d (.int 0)) Q
def spNowD (K : PySem.W.Frag) (C : Addr) (d : Nat) : Sp := fun vs H Q _ => ∃ (G : Hp) (j : Jo) (n m : Int) (S : Nm) (v : V), vs = [.ref j.o, v, .int ((d : Int) - 1)] ∧ JAt K C G H j n S m ∧ Dp K G v (chain (d + 1)) ∧ inP n 0 = true ∧ d ≤ 1000 ∧ Told G (List.replicate (d + 1) (.int 0)) Q
theorem scFault : FnScope ["self", "part"] ["self", "part"] (defScope jFault) := ⟨rfl, rfl, rfl, by decide +kernel, rfl, by decide +kernel, by decide +kernel⟩
set_option maxHeartbeats 8000000 in
theorem ok_partB {f fP aF : Addr} {fd fdP : FuncData} {kvF : List (Str × V)} (F : Fun K "is_part" "is_part" sPartF f fd) (T : TxtF mg) (tu : mg "tuple" = none) (gF : mg "FORMS" = some (.ref aF)) (DF : N3.KD K w aF kvF) (hF : ∀ wd ∈ formWords, (kvF.lookup wd).isSome = true)
    (GP : FnOk P w K mg base CX0 1 fP fdP ["thing", "places"] spPlace) (kP : PySem.W.keepIn K (.ref fP) = true) (bP : Binds K fdP ["thing", "places"] []) (gP : mg "is_place_number" = some (.ref fP)) :
    FnN P w K mg base CX0 6 f fd ["thing", "places"] (spPartB K) := by
  refine okN F scPart (fun vs H Q E h => ?_) (fun cdv A outer st H vs Q E hr h => ?_)
  · obtain ⟨n, v, e, rfl, _⟩ := h
    rfl
  obtain ⟨n, v, e, rfl, hv, ⟨wd, p, rest, rfl, hr2, hp, hm⟩, q⟩ := h
  refine ⟨_, (pss_cons (ps_if (PW.pt (pw_or (pt_not (pt_val (pe_callB call_isi (by rfl) T.isi (by decide +kernel) (pa_cons (pv 0) (pa_cons (pe_bltn (v := .ty "tuple") (by rfl) tu (by decide +kernel) rfl) pa_nil))))) (pw_or (pt_cmpR op_lt (pe_callB call_len (by rfl) T.len PySem.boot_len (pa_cons (pv 0) pa_nil)) pe_int (nomark _)) (pw_or1 (pt_not (pt_val (pe_callB call_isi (by rfl) T.isi (by decide +kernel) (pa_cons (pe_ix ix_tup (pv 0) pe_int (fun _ _ => rfl)) (pa_cons (pe_bltn (v := .ty "str") (by rfl) T.str (by decide +kernel) rfl) pa_nil))))))))) (pss_one (ps_ret pe_bl)) pss_nil)
      (pss_cons (ps_if (PW.pt (pw_or (pt_cmpR (N3.op_notIn_kv DF) (pe_ix ix_tup (pv 0) pe_int (fun _ _ => rfl)) (pe_glob (v := .ref aF) (by rfl) gF rfl) rfl) (pw_or1 (pt_not (pt_val (pe_call GP (hr.room (k := 1) (by omega) (by omega)) rfl gP kP bP .nil pass0 (pa_cons (pe_ix ix_tup (pv 0) pe_int (fun _ _ => rfl)) (pa_cons (pv 1) pa_nil)))))))) (pss_one (ps_ret pe_bl)) pss_nil)
      (pss_cons (ps_set (i := 2) scPart.nd rfl (.inl rfl) (N3.pe_kix DF (pe_glob (v := .ref aF) (by rfl) gF rfl) (pe_ix ix_tup (pv 0) pe_int (fun _ _ => rfl)) (fun _ _ => rfl)))
      (pss_one (ps_ret (pe_callN (i := 2) hr rfl (.inl rfl) (pa_cons (pv 0) (pa_cons (pv 1) pa_nil)))))))), ?_⟩
  have tup : ∀ {H1 : Hp} {t : Addr} {ws : List V}, SqT K H1 t ws → TyX K H1 (.ref t) (.type "tuple") := fun h => tyx_seqT h
  have hv0 := hv
  obtain ⟨t, ws, rfl, hT, hA⟩ := tup_open hv
  obtain ⟨z1, ws, rfl, hz1, hA⟩ := all_open hA
  obtain ⟨z2, ws, rfl, hz2, hA⟩ := all_open hA
  have hlw := DpAll.len hA
  cases hz1
  cases hz2
  have l3 : ¬ (((V.str wd :: V.int p :: ws).length : Int) < 3) := by
    show ¬ (((ws.length + 1 + 1 : Nat) : Int) < 3)
    omega
  have hn : numB n (.int p) = false := hp
  have hlk := hF wd hm
  refine ⟨_, rfl, .ref t, .ty "tuple", .type "tuple", .type "tuple", true, rfl, .ty _, tup hT, kit_ty (a := "tuple") (b := "tuple") (r := true) (by decide +kernel), true, rfl, iteF ?_⟩
  refine ⟨_, rfl, _, _, rfl, .inr ⟨_, hT, rfl⟩, _, _, rfl, rfl, false, bl_f l3, iteF ?_⟩
  refine ⟨_, rfl, t, _, 0, _, rfl, rfl, hT, atI_nat (j := 0) rfl, .str wd, .ty "str", .type "str", .type "str", true, rfl, .ty _, .base (.str _), kit_ty (a := "str") (b := "str") (r := true) (by decide +kernel), true, rfl, iteF ?_⟩
  refine ⟨_, rfl, t, _, 0, _, rfl, rfl, hT, atI_nat (j := 0) rfl, wd, rfl, rfl, false, by rw [hlk]; rfl, iteF ?_⟩
  exact ⟨_, rfl, t, _, 1, _, rfl, rfl, hT, atI_nat (j := 1) rfl, _, rfl, p, n, rfl, false, by rw [hn], iteT q⟩
set_option maxHeartbeats 8000000 in
theorem ok_fault {f fI : Addr} {fd fdI : FuncData} (F : Fun K "fault" "Judge.fault" jFault f fd) (T : TxtJ K w mg C p0 p1 p2 p3 aJ kv)
    (GI : FnOk P w K mg base CX0 3 fI fdI ["thing", "places"] (spPartB K)) (kI : PySem.W.keepIn K (.ref fI) = true) (bI : Binds K fdI ["thing", "places"] []) (gI : mg "is_part" = some (.ref fI)) :
    FnOk P w K mg base CX0 5 f fd ["self", "part"] (spFault K C) := by
  refine F.ok scFault (fun vs H Q E h => ?_) (fun cdv A outer st H vs Q E hr h => ?_)
  · obtain ⟨G, j, n, m, S, v, e, rfl, _⟩ := h
    rfl
  obtain ⟨G, j, n, m, S, v, e, rfl, J, hv, hb, q⟩ := h
  refine ⟨_, (pss_cons (ps_if (pt_not (pt_val (pe_call GI (hr.mono (by decide)) rfl gI kI bI .nil pass0 (pa_cons (pv 1) (pa_cons (SlX.pe_sl (pv 0)) pa_nil))))) (pss_one (ps_ret (pe_lst (pa_cons pe_str pa_nil)))) pss_nil) pss_never), ?_⟩
  have places : ∀ {H1 : Hp} {S1 : Nm} {m1 : Int} {σ : L2.St} {Q' : V → Hp → Prop}, JAt K C G H1 j n S1 m1 → σ[0]? = some (some (.ref j.o)) → Q' (.int n) H1 → SlX.tSl K (tVar 0) "places" σ H1 Q' := fun J1 h0 q' => ⟨_, h0, j.o, C, j.dx, p0, _, 3, _, rfl, J1.slt, T.cl, T.s0, rfl, q'⟩
  refine ⟨_, rfl, places J rfl ⟨n, v, e, rfl, Dp.same J.same _ _ hv, hb, false, rfl, iteT ?_⟩⟩
  exact ⟨by show 1 ≤ sizeLine; decide, fun a na => q _ a (J.same.trans (Same.new na)) (J.none na) upd_same⟩
set_option maxHeartbeats 8000000 in
theorem ok_wrongB {L : Nat} {f fP fN fQ fR fF : Addr} {fd fdP fdN fdQ fdR fdF : FuncData} (F : Fun K "wrong_in" "Judge.wrong_in" jWrong f fd) (T : TxtJ K w mg C p0 p1 p2 p3 aJ kv)
    (GP : FnOk P w K mg base CX0 1 fP fdP ["thing", "places"] spPlace) (kP : PySem.W.keepIn K (.ref fP) = true) (bP : Binds K fdP ["thing", "places"] []) (gP : mg "is_place_number" = some (.ref fP))
    (GN : FnOk P w K mg base CX0 1 fN fdN ["thing"] spNum) (kN : PySem.W.keepIn K (.ref fN) = true) (bN : Binds K fdN ["thing"] []) (gN : mg "is_number" = some (.ref fN))
    (GQ : FnOk P w K mg base CX0 2 fQ fdQ ["thing"] spPlain) (kQ : PySem.W.keepIn K (.ref fQ) = true) (bQ : Binds K fdQ ["thing"] []) (gQ : mg "is_plain_name" = some (.ref fQ))
    (GR : FnOk P w K mg base CX0 2 fR fdR ["self", "atoms"] (spRight K C)) (bR : Binds K fdR ["self", "atoms"] []) (mR : Meth K C "are_right" fR)
    (GF : FnOk P w K mg base CX0 5 fF fdF ["self", "part"] (spFault K C)) (bF : Binds K fdF ["self", "part"] []) (mF : Meth K C "fault" fF) :
    FnN P w K mg base CX0 (2 * L + 41) f fd ["self", "part", "left"] (spBadW K C L) := by
  refine okN F scWr (fun vs H Q E h => ?_) (fun cdv A outer st H vs Q E hr h => ?_)
  · obtain ⟨G, j, n, m, S, v, e, rfl, _⟩ := h
    rfl
  obtain ⟨G, j, n, m, S, v, e, rfl, J, hv, ⟨wd, p, rest, rfl, hr2, hp, hm⟩, q⟩ := h
  have hu := RoomN.u1 hr
  refine ⟨_, (pss_cons (ps_if (PW.pt (pw_or (pt_not (pt_val (pe_callB call_isi (by rfl) T.isi (by decide +kernel) (pa_cons (pv 1) (pa_cons (pe_bltn (v := .ty "tuple") (by rfl) T.tuple (by decide +kernel) rfl) pa_nil))))) (pw_or1 (pt_cmpR op_lt (pv 2) pe_int (nomark _))))) (pss_one (ps_ret (pe_lst (pa_cons pe_str pa_nil)))) pss_nil)
      (pss_cons (ps_if (pt_cmpR op_eq (pe_callB call_len (by rfl) T.len PySem.boot_len (pa_cons (pv 1) pa_nil)) pe_int (nomark _)) (pss_cons (ps_asg (pv 1) (pg_tup rfl (pgs_cons (pg_name (i := 3) scWr.nd rfl (.inl rfl)) (pgs_cons (pg_name (i := 4) scWr.nd rfl (.inl rfl)) (pgs_cons (pg_name (i := 5) scWr.nd rfl (.inl rfl)) pgs_nil)))))
      (pss_cons (ps_if (PW.pt (pw_and (pt_val (pe_callB call_isi (by rfl) T.isi (by decide +kernel) (pa_cons (pv 4) (pa_cons (pe_bltn (v := .ty "int") (by rfl) T.int (by decide +kernel) rfl) pa_nil)))) (pw_and1 (PW.pt (pw_or (pt_chain op_lt op_lt pe_int (pv 4) (SlX.pe_sl (pv 0))) (pw_or1 (pt_val (pe_call GP (hr.room (k := 1) (by omega) (by omega)) rfl gP kP bP .nil pass0 (pa_cons (pv 4) (pa_cons (SlX.pe_sl (pv 0)) pa_nil)))))))))) (pss_one (ps_if (pt_cmpR op_eq (pv 3) pe_str (nomark _)) (pss_one (ps_if (PW.pt (pw_and (pt_val (pe_callB call_isi (by rfl) T.isi (by decide +kernel) (pa_cons (pv 5) (pa_cons (pe_bltn (v := .ty "str") (by rfl) T.str (by decide +kernel) rfl) pa_nil)))) (pw_and (pt_cmp (pc_din hu (pv 5) (SlX.pe_sl (pv 0))) rfl) (pw_and1 (pt_truth (pe_dget hu (SlX.pe_sl (pv 0)) (pv 5) (fun _ _ => rfl)) (fun _ => rfl)))))) (pss_one (ps_ret pe_non)) pss_nil)) (pss_one (ps_if (PW.pt (pw_or (PW.pt (pw_and (pt_cmpR op_eq (pv 3) pe_str (nomark _)) (pw_and1 (pt_val (pe_call GN (hr.room (k := 1) (by omega) (by omega)) rfl gN kN bN .nil pass0 (pa_cons (pv 5) pa_nil)))))) (pw_or1 (PW.pt (pw_and (pt_cmpR op_eq (pv 3) pe_str (nomark _)) (pw_and1 (pt_val (pe_call GQ (hr.room (k := 2) (by omega) (by omega)) rfl gQ kQ bQ .nil pass0 (pa_cons (pv 5) pa_nil))))))))) (pss_one (ps_ret pe_non)) pss_nil)))) pss_nil)
      (pss_one (ps_ret (pe_methS (pv 0) T.cl mF GF (hr.room (k := 5) (by omega) (by omega)) bF pass0 (pa_cons (pv 1) pa_nil)))))) pss_nil)
      (pss_cons (ps_if (pt_cmpR op_lt (pe_callB call_len (by rfl) T.len PySem.boot_len (pa_cons (pv 1) pa_nil)) pe_int (nomark _)) (pss_one (ps_ret (pe_lst (pa_cons pe_str pa_nil)))) pss_nil)
      (pss_cons (ps_set (i := 3) scWr.nd rfl (.inl rfl) (pe_ix ix_tup (pv 1) pe_int (fun _ _ => rfl)))
      (pss_cons (ps_set (i := 4) scWr.nd rfl (.inl rfl) (pe_ix ix_tup (pv 1) pe_int (fun _ _ => rfl)))
      (pss_cons (ps_if (PW.pt (pw_or (pt_not (pt_val (pe_callB call_isi (by rfl) T.isi (by decide +kernel) (pa_cons (pv 4) (pa_cons (pe_bltn (v := .ty "int") (by rfl) T.int (by decide +kernel) rfl) pa_nil))))) (pw_or1 (pt_not (PW.pt (pw_or (pt_chain op_lt op_lt pe_int (pv 4) (SlX.pe_sl (pv 0))) (pw_or1 (pt_val (pe_call GP (hr.room (k := 1) (by omega) (by omega)) rfl gP kP bP .nil pass0 (pa_cons (pv 4) (pa_cons (SlX.pe_sl (pv 0)) pa_nil))))))))))) (pss_one (ps_ret (pe_lst (pa_cons pe_str pa_nil)))) pss_nil)
      (pss_cons (ps_if (pt_cmpR op_eq (pv 3) pe_str (nomark _)) (pss_cons (ps_if (pt_cmpR op_eq (pe_callB call_len (by rfl) T.len PySem.boot_len (pa_cons (pv 1) pa_nil)) pe_int (nomark _)) (pss_cons (ps_asg (pv 1) (pg_tup rfl (pgs_cons (pg_name (i := 6) scWr.nd rfl (.inl rfl)) (pgs_cons (pg_name (i := 6) scWr.nd rfl (.inl rfl)) (pgs_cons (pg_name (i := 7) scWr.nd rfl (.inl rfl)) (pgs_cons (pg_name (i := 8) scWr.nd rfl (.inl rfl)) pgs_nil))))))
      (pss_one (ps_if (PW.pt (pw_and (pt_val (pe_callB call_isi (by rfl) T.isi (by decide +kernel) (pa_cons (pv 7) (pa_cons (pe_bltn (v := .ty "str") (by rfl) T.str (by decide +kernel) rfl) pa_nil)))) (pw_and1 (pt_val (pe_methS (pv 0) T.cl mR GR (hr.room (k := 2) (by omega) (by omega)) bR pass0 (pa_cons (pv 8) pa_nil)))))) (pss_cons (ps_set (i := 9) scWr.nd rfl (.inl rfl) (pe_dget1 hu (SlX.pe_sl (pv 0)) (pv 7) ⟨rfl, rfl, rfl, rfl⟩))
      (pss_one (ps_if (PW.pt (pw_and (pt_val (pe_callB call_isi (by rfl) T.isi (by decide +kernel) (pa_cons (pv 9) (pa_cons (pe_bltn (v := .ty "tuple") (by rfl) T.tuple (by decide +kernel) rfl) pa_nil)))) (pw_and1 (pt_cmpR (op_inTup (RoomN.u65 hr)) (pe_tup (pa_cons (pv 7) (pa_cons (pe_callB call_len (by rfl) T.len PySem.boot_len (pa_cons (pv 8) pa_nil)) pa_nil))) (pv 9) rfl)))) (pss_one (ps_ret pe_non)) pss_nil))) pss_nil))) pss_nil)
      (pss_one (ps_ret (pe_methS (pv 0) T.cl mF GF (hr.room (k := 5) (by omega) (by omega)) bF pass0 (pa_cons (pv 1) pa_nil))))) pss_nil)
      (pss_cons (ps_if (PW.pt (pw_or (pt_not (pt_val (pe_callB call_isi (by rfl) T.isi (by decide +kernel) (pa_cons (pv 3) (pa_cons (pe_bltn (v := .ty "str") (by rfl) T.str (by decide +kernel) rfl) pa_nil))))) (pw_or1 (pt_cmpR (N3.op_notIn_kv T.dj) (pv 3) (pe_glob (v := .ref aJ) (by rfl) T.gj rfl) rfl)))) (pss_one (ps_ret (pe_lst (pa_cons pe_str pa_nil)))) pss_nil)
      (pss_cons (ps_set (i := 10) scWr.nd rfl (.inl rfl) (N3.pe_kix T.dj (pe_glob (v := .ref aJ) (by rfl) T.gj rfl) (pv 3) (fun _ _ => rfl)))
      (pss_one (ps_ret (pe_callN (i := 10) hr rfl (.inl rfl) (pa_cons (pv 0) (pa_cons (pv 1) (pa_cons (pe_op op_sub (pv 2) pe_int) pa_nil))))))))))))))), ?_⟩
  have tup : ∀ {H1 : Hp} {t : Addr} {ws : List V}, SqT K H1 t ws → TyX K H1 (.ref t) (.type "tuple") := fun h => tyx_seqT h
  have places : ∀ {H1 : Hp} {S1 : Nm} {m1 : Int} {σ : L2.St} {Q' : V → Hp → Prop}, JAt K C G H1 j n S1 m1 → σ[0]? = some (some (.ref j.o)) → Q' (.int n) H1 → SlX.tSl K (tVar 0) "places" σ H1 Q' := fun J1 h0 q' => ⟨_, h0, j.o, C, j.dx, p0, _, 3, _, rfl, J1.slt, T.cl, T.s0, rfl, q'⟩
  have hv0 := hv
  obtain ⟨t, ws, rfl, hT, hA⟩ := tup_open hv
  obtain ⟨z1, ws, rfl, hz1, hA⟩ := all_open hA
  obtain ⟨z2, ws, rfl, hz2, hA⟩ := all_open hA
  have hlw := DpAll.len hA
  cases hz1
  cases hz2
  have l3 : ¬ (((V.str wd :: V.int p :: ws).length : Int) < 3) := by
    show ¬ (((ws.length + 1 + 1 : Nat) : Int) < 3)
    omega
  have hT' := Same.seqT J.same hT
  have hL0 : ¬ ((L : Int) < 0) := by omega
  refine ⟨_, rfl, .ref t, .ty "tuple", .type "tuple", .type "tuple", true, rfl, .ty _, tup hT', kit_ty (a := "tuple") (b := "tuple") (r := true) (by decide +kernel), true, rfl, iteF ⟨_, rfl, _, _, rfl, rfl, false, bl_f hL0, iteF ?_⟩⟩
  by_cases c : rest.length = 1
  · obtain ⟨z3, ws, rfl⟩ : ∃ z3 ws', ws = z3 :: ws' := by
      cases ws with
      | nil => exact absurd hlw (by rw [c]; decide)
      | cons a b => exact ⟨a, b, rfl⟩
    obtain rfl : ws = [] := List.length_eq_zero_iff.mp (by rw [c] at hlw; simpa using hlw)
    refine ⟨_, rfl, _, _, rfl, .inr ⟨_, hT', rfl⟩, rfl, true, by simp, iteT ?_⟩
    refine ⟨_, rfl, t, _, rfl, hT', rfl, _, _, rfl, _, _, rfl, _, _, rfl, rfl, ?_⟩
    refine ⟨_, rfl, .int p, .ty "int", .type "int", .type "int", true, rfl, .ty _, .base (.int _), kit_ty (a := "int") (b := "int") (r := true) (by decide +kernel), true, rfl, iteT ?_⟩
    refine range_rd (n := n) (p := p) rfl (places J rfl) ?_
    rw [hp]
    refine iteF ?_
    exact ⟨_, rfl, j.o, j.dx, _, rfl, J.slt, _, rfl, G, j, n, m, S, .ref t, _, rfl, J, hv0, ⟨wd, p, rest, rfl, hr2, hp, hm⟩, q⟩
  · have n3 : ¬ (((V.str wd :: V.int p :: ws).length : Int) = 3) := by
      show ¬ (((ws.length + 1 + 1 : Nat) : Int) = 3)
      omega
    refine ⟨_, rfl, _, _, rfl, .inr ⟨_, hT', rfl⟩, rfl, false, bl_f (fun z => n3 (by injection z)), iteF ?_⟩
    refine ⟨_, rfl, _, _, rfl, .inr ⟨_, hT', rfl⟩, _, _, rfl, rfl, false, bl_f l3, iteF ?_⟩
    refine ⟨_, rfl, t, _, 0, _, rfl, rfl, hT', atI_nat (j := 0) rfl, _, rfl, t, _, 1, _, rfl, rfl, hT', atI_nat (j := 1) rfl, ?_⟩
    refine ⟨_, rfl, .int p, .ty "int", .type "int", .type "int", true, rfl, .ty _, .base (.int _), kit_ty (a := "int") (b := "int") (r := true) (by decide +kernel), true, rfl, iteF ?_⟩
    refine range_rd (n := n) (p := p) rfl (places J rfl) ?_
    rw [hp]
    refine iteT ?_
    exact ⟨by show 1 ≤ sizeLine; decide, fun a na => q _ a (J.same.trans (Same.new na)) (J.none na) upd_same⟩
set_option maxHeartbeats 8000000 in
theorem ok_nowD {d : Nat} {f fI fW : Addr} {fd fdI fdW : FuncData} (F : Fun K "now_wrong" "now_wrong" sNow f fd) (T : TxtJ K w mg C p0 p1 p2 p3 aJ kv)
    (GI : FnOk P w K mg base CX0 3 fI fdI ["thing", "places"] (spPart K)) (kI : PySem.W.keepIn K (.ref fI) = true) (bI : Binds K fdI ["thing", "places"] []) (gI : mg "is_part" = some (.ref fI))
    (GW : FnN P w K mg base CX0 (2 * d + 41) fW fdW ["self", "part", "left"] (spBadD K C d)) (bW : Binds K fdW ["self", "part", "left"] []) (mW : Meth K C "wrong_in" fW) :
    FnN P w K mg base CX0 (2 * d + 42) f fd ["judge", "part", "left"] (spNowD K C d) := by
  refine okN F scNow (fun vs H Q E h => ?_) (fun cdv A outer st H vs Q E hr h => ?_)
  · obtain ⟨G, j, n, m, S, v, rfl, _⟩ := h
    rfl
  obtain ⟨G, j, n, m, S, v, rfl, J, hv, hp, hd, q⟩ := h
  have hu := RoomN.u1 hr
  refine ⟨_, (pss_cons (ps_if (pt_not (pt_val (pe_call GI (hr.room (k := 3) (by omega) (by omega)) rfl gI kI bI .nil pass0 (pa_cons (pv 1) (pa_cons (SlX.pe_sl (pv 0)) pa_nil))))) (pss_one (ps_ret (pe_lst (pa_cons pe_str pa_nil)))) pss_nil)
      (pss_cons (ps_set (i := 3) scNow.nd rfl (.inl rfl) (pe_methN (pv 0) T.cl mW GW hr bW pass0 (pa_cons (pe_ix ix_tup (pv 1) pe_int (fun _ _ => rfl)) (pa_cons (pv 2) pa_nil))))
      (pss_cons (ps_if (pt_cmpR op_notN (pv 3) pe_non (nomark _)) (pss_cons (ps_expr (pe_bm PySem.F.plainAttrs_list PySem.F.slot_list_append PySem.F.type_list_append mt_append (pv 3) (pa_cons pe_int pa_nil)))
      (pss_one (ps_ret (pv 3)))) pss_nil)
      (pss_cons (ps_slA (pv 0) pe_int ip_add)
      (pss_one (ps_ret pe_non)))))), ?_⟩
  have tup : ∀ {H1 : Hp} {t : Addr} {ws : List V}, SqT K H1 t ws → TyX K H1 (.ref t) (.type "tuple") := fun h => tyx_seqT h
  have places : ∀ {H1 : Hp} {S1 : Nm} {m1 : Int} {σ : L2.St} {Q' : V → Hp → Prop}, JAt K C G H1 j n S1 m1 → σ[0]? = some (some (.ref j.o)) → Q' (.int n) H1 → SlX.tSl K (tVar 0) "places" σ H1 Q' := fun J1 h0 q' => ⟨_, h0, j.o, C, j.dx, p0, _, 3, _, rfl, J1.slt, T.cl, T.s0, rfl, q'⟩
  have hv0 := hv
  obtain ⟨t, ws, rfl, hT, hA⟩ := tup_open hv
  obtain ⟨z1, ws, rfl, hz1, hA⟩ := all_open hA
  obtain ⟨z2, ws, rfl, hz2, hA⟩ := all_open hA
  obtain ⟨z3, ws, rfl, hz3, hA⟩ := all_open hA
  obtain ⟨z4, ws, rfl, hz4, hA⟩ := all_open hA
  obtain ⟨z5, ws, rfl, hz5, hA⟩ := all_open hA
  obtain rfl := nil_open hA
  cases hz1
  cases hz2
  cases hz3
  cases hz4
  refine ⟨_, rfl, places J rfl ⟨n, .ref t, _, rfl, Dp.same J.same _ _ hv0, ⟨rfl, hp, hp, by decide +kernel, by decide⟩, fun H1 s1 => ⟨true, rfl, iteF ?_⟩⟩⟩
  have J1 := J.wide s1
  refine ⟨_, rfl, j.o, j.dx, _, rfl, J1.slt, _, rfl, t, _, 4, _, rfl, rfl, Same.seqT J1.same hT, atI_nat (j := 4) rfl, _, rfl, G, j, n, m, S, z5, rfl, J1, hz5, hp, hd, fun H2 a sa na la => ?_⟩
  refine ⟨_, rfl, rfl, true, rfl, iteT ?_⟩
  refine ⟨_, rfl, .inl ⟨rfl, _, SqL.of la⟩, a, _, _, rfl, rfl, la, ?_, ?_⟩
  · rw [List.length_cons, List.length_replicate]
    exact Nat.lt_of_le_of_lt (Nat.add_le_add_right hd 1) (by decide)
  refine ⟨_, rfl, q _ a (Same.upd sa na) na (upd_same.trans ?_)⟩
  rw [List.replicate_succ']
  rfl
set_option maxHeartbeats 8000000 in
theorem ok_wrongD {d : Nat} {f fP fN fQ fR fF : Addr} {fd fdP fdN fdQ fdR fdF : FuncData} {spF : Sp} (F : Fun K "wrong_in" "Judge.wrong_in" jWrong f fd) (T : TxtJ K w mg C p0 p1 p2 p3 aJ kv)
    (GP : FnOk P w K mg base CX0 1 fP fdP ["thing", "places"] spPlace) (kP : PySem.W.keepIn K (.ref fP) = true) (bP : Binds K fdP ["thing", "places"] []) (gP : mg "is_place_number" = some (.ref fP))
    (GN : FnOk P w K mg base CX0 1 fN fdN ["thing"] spNum) (kN : PySem.W.keepIn K (.ref fN) = true) (bN : Binds K fdN ["thing"] []) (gN : mg "is_number" = some (.ref fN))
    (GQ : FnOk P w K mg base CX0 2 fQ fdQ ["thing"] spPlain) (kQ : PySem.W.keepIn K (.ref fQ) = true) (bQ : Binds K fdQ ["thing"] []) (gQ : mg "is_plain_name" = some (.ref fQ))
    (GR : FnOk P w K mg base CX0 2 fR fdR ["self", "atoms"] (spRight K C)) (bR : Binds K fdR ["self", "atoms"] []) (mR : Meth K C "are_right" fR)
    (GF : FnOk P w K mg base CX0 5 fF fdF ["self", "part"] spF) (bF : Binds K fdF ["self", "part"] []) (mF : Meth K C "fault" fF)
    (J0 : d = 0 ∨ ∃ d' fn, d = d' + 1 ∧ kv.lookup ("now" : Str) = some (.ref fn) ∧ HeldN P w K mg base (2 * d' + 42) fn (spNowD K C d')) :
    FnN P w K mg base CX0 (2 * d + 41) f fd ["self", "part", "left"] (spBadD K C d) := by
  refine okN F scWr (fun vs H Q E h => ?_) (fun cdv A outer st H vs Q E hr h => ?_)
  · obtain ⟨G, j, n, m, S, v, rfl, _⟩ := h
    rfl
  obtain ⟨G, j, n, m, S, v, rfl, J, hv, hp, hd, q⟩ := h
  have hu := RoomN.u1 hr
  refine ⟨_, (pss_cons (ps_if (PW.pt (pw_or (pt_not (pt_val (pe_callB call_isi (by rfl) T.isi (by decide +kernel) (pa_cons (pv 1) (pa_cons (pe_bltn (v := .ty "tuple") (by rfl) T.tuple (by decide +kernel) rfl) pa_nil))))) (pw_or1 (pt_cmpR op_lt (pv 2) pe_int (nomark _))))) (pss_one (ps_ret (pe_lst (pa_cons pe_str pa_nil)))) pss_nil)
      (pss_cons (ps_if (pt_cmpR op_eq (pe_callB call_len (by rfl) T.len PySem.boot_len (pa_cons (pv 1) pa_nil)) pe_int (nomark _)) (pss_cons (ps_asg (pv 1) (pg_tup rfl (pgs_cons (pg_name (i := 3) scWr.nd rfl (.inl rfl)) (pgs_cons (pg_name (i := 4) scWr.nd rfl (.inl rfl)) (pgs_cons (pg_name (i := 5) scWr.nd rfl (.inl rfl)) pgs_nil)))))
      (pss_cons (ps_if (PW.pt (pw_and (pt_val (pe_callB call_isi (by rfl) T.isi (by decide +kernel) (pa_cons (pv 4) (pa_cons (pe_bltn (v := .ty "int") (by rfl) T.int (by decide +kernel) rfl) pa_nil)))) (pw_and1 (PW.pt (pw_or (pt_chain op_lt op_lt pe_int (pv 4) (SlX.pe_sl (pv 0))) (pw_or1 (pt_val (pe_call GP (hr.room (k := 1) (by omega) (by omega)) rfl gP kP bP .nil pass0 (pa_cons (pv 4) (pa_cons (SlX.pe_sl (pv 0)) pa_nil)))))))))) (pss_one (ps_if (pt_cmpR op_eq (pv 3) pe_str (nomark _)) (pss_one (ps_if (PW.pt (pw_and (pt_val (pe_callB call_isi (by rfl) T.isi (by decide +kernel) (pa_cons (pv 5) (pa_cons (pe_bltn (v := .ty "str") (by rfl) T.str (by decide +kernel) rfl) pa_nil)))) (pw_and (pt_cmp (pc_din hu (pv 5) (SlX.pe_sl (pv 0))) rfl) (pw_and1 (pt_truth (pe_dget hu (SlX.pe_sl (pv 0)) (pv 5) (fun _ _ => rfl)) (fun _ => rfl)))))) (pss_one (ps_ret pe_non)) pss_nil)) (pss_one (ps_if (PW.pt (pw_or (PW.pt (pw_and (pt_cmpR op_eq (pv 3) pe_str (nomark _)) (pw_and1 (pt_val (pe_call GN (hr.room (k := 1) (by omega) (by omega)) rfl gN kN bN .nil pass0 (pa_cons (pv 5) pa_nil)))))) (pw_or1 (PW.pt (pw_and (pt_cmpR op_eq (pv 3) pe_str (nomark _)) (pw_and1 (pt_val (pe_call GQ (hr.room (k := 2) (by omega) (by omega)) rfl gQ kQ bQ .nil pass0 (pa_cons (pv 5) pa_nil))))))))) (pss_one (ps_ret pe_non)) pss_nil)))) pss_nil)
      (pss_one (ps_ret (pe_methS (pv 0) T.cl mF GF (hr.room (k := 5) (by omega) (by omega)) bF pass0 (pa_cons (pv 1) pa_nil)))))) pss_nil)
      (pss_cons (ps_if (pt_cmpR op_lt (pe_callB call_len (by rfl) T.len PySem.boot_len (pa_cons (pv 1) pa_nil)) pe_int (nomark _)) (pss_one (ps_ret (pe_lst (pa_cons pe_str pa_nil)))) pss_nil)
      (pss_cons (ps_set (i := 3) scWr.nd rfl (.inl rfl) (pe_ix ix_tup (pv 1) pe_int (fun _ _ => rfl)))
      (pss_cons (ps_set (i := 4) scWr.nd rfl (.inl rfl) (pe_ix ix_tup (pv 1) pe_int (fun _ _ => rfl)))
      (pss_cons (ps_if (PW.pt (pw_or (pt_not (pt_val (pe_callB call_isi (by rfl) T.isi (by decide +kernel) (pa_cons (pv 4) (pa_cons (pe_bltn (v := .ty "int") (by rfl) T.int (by decide +kernel) rfl) pa_nil))))) (pw_or1 (pt_not (PW.pt (pw_or (pt_chain op_lt op_lt pe_int (pv 4) (SlX.pe_sl (pv 0))) (pw_or1 (pt_val (pe_call GP (hr.room (k := 1) (by omega) (by omega)) rfl gP kP bP .nil pass0 (pa_cons (pv 4) (pa_cons (SlX.pe_sl (pv 0)) pa_nil))))))))))) (pss_one (ps_ret (pe_lst (pa_cons pe_str pa_nil)))) pss_nil)
      (pss_cons (ps_if (pt_cmpR op_eq (pv 3) pe_str (nomark _)) (pss_cons (ps_if (pt_cmpR op_eq (pe_callB call_len (by rfl) T.len PySem.boot_len (pa_cons (pv 1) pa_nil)) pe_int (nomark _)) (pss_cons (ps_asg (pv 1) (pg_tup rfl (pgs_cons (pg_name (i := 6) scWr.nd rfl (.inl rfl)) (pgs_cons (pg_name (i := 6) scWr.nd rfl (.inl rfl)) (pgs_cons (pg_name (i := 7) scWr.nd rfl (.inl rfl)) (pgs_cons (pg_name (i := 8) scWr.nd rfl (.inl rfl)) pgs_nil))))))
      (pss_one (ps_if (PW.pt (pw_and (pt_val (pe_callB call_isi (by rfl) T.isi (by decide +kernel) (pa_cons (pv 7) (pa_cons (pe_bltn (v := .ty "str") (by rfl) T.str (by decide +kernel) rfl) pa_nil)))) (pw_and1 (pt_val (pe_methS (pv 0) T.cl mR GR (hr.room (k := 2) (by omega) (by omega)) bR pass0 (pa_cons (pv 8) pa_nil)))))) (pss_cons (ps_set (i := 9) scWr.nd rfl (.inl rfl) (pe_dget1 hu (SlX.pe_sl (pv 0)) (pv 7) ⟨rfl, rfl, rfl, rfl⟩))
      (pss_one (ps_if (PW.pt (pw_and (pt_val (pe_callB call_isi (by rfl) T.isi (by decide +kernel) (pa_cons (pv 9) (pa_cons (pe_bltn (v := .ty "tuple") (by rfl) T.tuple (by decide +kernel) rfl) pa_nil)))) (pw_and1 (pt_cmpR (op_inTup (RoomN.u65 hr)) (pe_tup (pa_cons (pv 7) (pa_cons (pe_callB call_len (by rfl) T.len PySem.boot_len (pa_cons (pv 8) pa_nil)) pa_nil))) (pv 9) rfl)))) (pss_one (ps_ret pe_non)) pss_nil))) pss_nil))) pss_nil)
      (pss_one (ps_ret (pe_methS (pv 0) T.cl mF GF (hr.room (k := 5) (by omega) (by omega)) bF pass0 (pa_cons (pv 1) pa_nil))))) pss_nil)
      (pss_cons (ps_if (PW.pt (pw_or (pt_not (pt_val (pe_callB call_isi (by rfl) T.isi (by decide +kernel) (pa_cons (pv 3) (pa_cons (pe_bltn (v := .ty "str") (by rfl) T.str (by decide +kernel) rfl) pa_nil))))) (pw_or1 (pt_cmpR (N3.op_notIn_kv T.dj) (pv 3) (pe_glob (v := .ref aJ) (by rfl) T.gj rfl) rfl)))) (pss_one (ps_ret (pe_lst (pa_cons pe_str pa_nil)))) pss_nil)
      (pss_cons (ps_set (i := 10) scWr.nd rfl (.inl rfl) (N3.pe_kix T.dj (pe_glob (v := .ref aJ) (by rfl) T.gj rfl) (pv 3) (fun _ _ => rfl)))
      (pss_one (ps_ret (pe_callN (i := 10) hr rfl (.inl rfl) (pa_cons (pv 0) (pa_cons (pv 1) (pa_cons (pe_op op_sub (pv 2) pe_int) pa_nil))))))))))))))), ?_⟩
  have tup : ∀ {H1 : Hp} {t : Addr} {ws : List V}, SqT K H1 t ws → TyX K H1 (.ref t) (.type "tuple") := fun h => tyx_seqT h
  have places : ∀ {H1 : Hp} {S1 : Nm} {m1 : Int} {σ : L2.St} {Q' : V → Hp → Prop}, JAt K C G H1 j n S1 m1 → σ[0]? = some (some (.ref j.o)) → Q' (.int n) H1 → SlX.tSl K (tVar 0) "places" σ H1 Q' := fun J1 h0 q' => ⟨_, h0, j.o, C, j.dx, p0, _, 3, _, rfl, J1.slt, T.cl, T.s0, rfl, q'⟩
  rcases J0 with rfl | ⟨d', fn, rfl, hlk, hHeld⟩
  · obtain ⟨t, ws, rfl, hT, hA⟩ := tup_open hv
    have hT' := Same.seqT J.same hT
    refine ⟨_, rfl, .ref t, .ty "tuple", .type "tuple", .type "tuple", true, rfl, .ty _, tup hT', kit_ty (a := "tuple") (b := "tuple") (r := true) (by decide +kernel), true, rfl, iteF ⟨_, rfl, _, _, rfl, rfl, true, bl_t (by decide), iteT ?_⟩⟩
    exact ⟨by show 1 ≤ sizeLine; decide, fun a na => q _ a (J.same.trans (Same.new na)) (J.none na) upd_same⟩
  have hv0 := hv
  obtain ⟨t, ws, rfl, hT, hA⟩ := tup_open hv
  obtain ⟨z1, ws, rfl, hz1, hA⟩ := all_open hA
  obtain ⟨z2, ws, rfl, hz2, hA⟩ := all_open hA
  obtain ⟨z3, ws, rfl, hz3, hA⟩ := all_open hA
  obtain ⟨z4, ws, rfl, hz4, hA⟩ := all_open hA
  obtain ⟨z5, ws, rfl, hz5, hA⟩ := all_open hA
  obtain rfl := nil_open hA
  cases hz1
  cases hz2
  have hT' := Same.seqT J.same hT
  have hL0 : ¬ ((((d' + 1 : Nat) : Int) - 1) < 0) := by omega
  refine ⟨_, rfl, .ref t, .ty "tuple", .type "tuple", .type "tuple", true, rfl, .ty _, tup hT', kit_ty (a := "tuple") (b := "tuple") (r := true) (by decide +kernel), true, rfl, iteF ⟨_, rfl, _, _, rfl, rfl, false, bl_f hL0, iteF ?_⟩⟩
  refine ⟨_, rfl, _, _, rfl, .inr ⟨_, hT', rfl⟩, rfl, false, by simp, iteF ?_⟩
  refine ⟨_, rfl, _, _, rfl, .inr ⟨_, hT', rfl⟩, _, _, rfl, rfl, false, bl_f (by simp), iteF ?_⟩
  refine ⟨_, rfl, t, _, 0, _, rfl, rfl, hT', atI_nat (j := 0) rfl, _, rfl, t, _, 1, _, rfl, rfl, hT', atI_nat (j := 1) rfl, ?_⟩
  refine ⟨_, rfl, .int 0, .ty "int", .type "int", .type "int", true, rfl, .ty _, .base (.int _), kit_ty (a := "int") (b := "int") (r := true) (by decide +kernel), true, rfl, iteF ?_⟩
  refine range_rd (n := n) (p := 0) rfl (places J rfl) ?_
  rw [hp]
  refine iteF ⟨_, rfl, rfl, false, wno (by decide +kernel), iteF ?_⟩
  refine ⟨_, rfl, .str "now", .ty "str", .type "str", .type "str", true, rfl, .ty _, .base (.str _), kit_ty (a := "str") (b := "str") (r := true) (by decide +kernel), true, rfl, iteF ?_⟩
  refine ⟨_, rfl, "now", rfl, rfl, false, by rw [hlk]; rfl, iteF ?_⟩
  refine ⟨rfl, _, rfl, "now", _, rfl, hlk, fn, _, rfl, hHeld, _, rfl, _, rfl, _, rfl, _, _, rfl, rfl, ?_⟩
  refine ⟨G, j, n, m, S, .ref t, ?_, J, hv0, hp, by omega, q⟩
  have e1 : (((d' + 1 : Nat) : Int) - 1 - 1) = (d' : Int) - 1 := by omega
  show [V.ref j.o, V.ref t, V.int (((d' + 1 : Nat) : Int) - 1 - 1)] = _
  rw [e1]
end
end J45

set_option Elab.async false
set_option maxRecDepth 100000
/-! a judge made; a program's parts gone by -/
namespace J45
open PySem PySem.Spec PyProof.Rows L2 Hx Xr RN
abbrev sParts : Stmt := top 48
theorem dc_list {K : PySem.W.Frag} {a : Addr} {xs : List V} {g : TG} {tt : TT} {tk tv : TE} {vs : List Nat} {σ : L2.St} {H1 : Hp} {D : Addr} {Qd : Hp → Prop} (Pv : Nat → Hp → Prop) (h0 : Pv 0 (upd H1 D (.dK []))) (hl : ∀ i H, i ≤ xs.length → Pv i H → SqL K H a xs)
    (hs : ∀ i x H, xs[i]? = some x → Pv i H → g x (wipe σ vs) H fun σ2 H2 => wipe σ2 vs = wipe σ vs ∧ tt σ2 H2 fun b H3 =>
      if b = true then tk σ2 H3 fun y H4 => tv σ2 H4 fun z H5 => ∃ kvs k, y = kV k ∧ H5 D = some (.dK kvs) ∧ kvs.length < sizeLine ∧ Pv (i + 1) (upd H5 D (.dK (putK kvs k z))) else Pv (i + 1) H3) (hd : ∀ H, Pv xs.length H → Qd H) :
    ∃ W : Nat → Nat → Hp → Prop, (∃ m, W 0 m (upd H1 D (.dK []))) ∧ ∀ i m H, W i m H →
      ((Itl K a).stop i H ∧ Qd H) ∨ ((Itl K a).go i H ∧ ∃ Nx : Hp → Prop, (∀ H', Nx H' → ∃ m', m' < m ∧ W (i + 1) m' H') ∧ ∀ x H', (Itl K a).yld i H x H' → g x (wipe σ vs) H' fun σ2 H2 => wipe σ2 vs = wipe σ vs ∧ tt σ2 H2 fun b H3 =>
        if b = true then tk σ2 H3 fun y H4 => tv σ2 H4 fun z H5 => ∃ kvs k, y = kV k ∧ H5 D = some (.dK kvs) ∧ kvs.length < sizeLine ∧ Nx (upd H5 D (.dK (putK kvs k z))) else Nx H3) := by
  refine ⟨fun i m H => m = xs.length - i ∧ i ≤ xs.length ∧ Pv i H, ⟨xs.length, by simp, Nat.zero_le _, h0⟩, ?_⟩
  rintro i m H ⟨rfl, hi, p⟩
  have q := hl i H hi p
  by_cases hlt : i < xs.length
  · refine .inr ⟨⟨xs, xs[i], q, by simp [hlt]⟩, Pv (i + 1), fun H' p' => ⟨xs.length - (i + 1), by omega, rfl, hlt, p'⟩, fun x H' y => ?_⟩
    obtain ⟨e, y⟩ := y
    subst e
    exact hs i x _ (y xs q) p
  · have e : i = xs.length := by omega
    subst e
    exact .inl ⟨⟨xs, q, Nat.le_refl _⟩, hd H p⟩
section
variable {P : Program} {w : World} {K : PySem.W.Frag} {mg : Str → Option Value} {base : Heap} {C p0 p1 p2 p3 aJ : Addr} {kv : List (Str × V)}
abbrev Top := Str × PyData
def topD (b : Top) : PyData := .tuple [.str b.1, b.2]
/-- the list of a program's tops -/
structure TopsAt (K : PySem.W.Frag) (G : Hp) (tl : Addr) (tops : List Top) : Prop where
  ex : ∃ wt : List V, G tl = some (.lst wt) ∧ wt.length = tops.length ∧ ∀ (i : Nat) (x : V), wt[i]? = some x → ∃ (b : Top) (v : V) (t2 : Addr), tops[i]? = some b ∧ x = .ref t2 ∧ SqT K G t2 [.str b.1, v] ∧ Dp K G v b.2
theorem slt_step {H : Hp} {a dx : Addr} {vs : List (Option V)} (h : dx ≠ a) : SlX.Slt (SlX.slH H a C dx vs) a C dx vs := .inr ⟨upd_same, (upd_ne h).trans upd_same⟩
theorem same_slH {G H : Hp} {a dx : Addr} {vs : List (Option V)} (s : Same G H) (ha : G a = none) (hd : G dx = none) : Same G (SlX.slH H a C dx vs) := fun b u e => by
  rw [SlX.slH_ne (fun z => by rw [z, ha] at e; cases e) (fun z => by rw [z, hd] at e; cases e)]
  exact s _ _ e
theorem putAll_le : ∀ (xs : List Str) (S : Nm) (b : Bool), (putAll S xs b).length ≤ S.length + xs.length
  | [], _, _ => Nat.le_refl _
  | x :: xs, S, b => by
    have h1 := putAll_le xs (putN S x b) b
    have h2 := putN_len S x b
    show (putAll (putN S x b) xs b).length ≤ S.length + (xs.length + 1)
    omega
theorem scInit : FnScope ["self", "places", "data", "tops", "x", "_"] ["self", "places", "data", "tops"] (defScope jInit) := ⟨rfl, rfl, rfl, by decide +kernel, rfl, by decide +kernel, by decide +kernel⟩
theorem scParts : FnScope ["program", "judge", "_", "tops", "x", "e", "wrong"] ["program", "judge"] (defScope sParts) := ⟨rfl, rfl, rfl, by decide +kernel, rfl, by decide +kernel, by decide +kernel⟩
def spInit (K : PySem.W.Frag) (C : Addr) : Sp := fun vs H Q _ => ∃ (G : Hp) (x dx dn tl : Addr) (n : Int) (tops : List Top), vs = [.ref x, .int n, .ref dn, .ref tl] ∧ H = upd (upd G dx (.own x)) x (.ins C dx []) ∧ G x = none ∧ G dx = none ∧ dx ≠ x ∧ TopsAt K G tl tops ∧ tops.length ≤ 16000000 ∧
  ∀ H' dd, JAt K C G H' ⟨x, dx, dn, dd⟩ n (putAll [] (tops.map (·.1)) true) 0 → Q .non H'
set_option maxHeartbeats 8000000 in
theorem ok_init {f : Addr} {fd : FuncData} (F : Fun K "__init__" "Judge.__init__" jInit f fd) (T : TxtJ K w mg C p0 p1 p2 p3 aJ kv) : FnOk P w K mg base CX0 1 f fd ["self", "places", "data", "tops"] (spInit K C) := by
  refine F.ok scInit (fun vs H Q E h => ?_) (fun cdv A outer st H vs Q E hr h => ?_)
  · obtain ⟨G, x, dx, dn, tl, n, tops, rfl, _⟩ := h
    rfl
  obtain ⟨G, x, dx, dn, tl, n, tops, rfl, rfl, hx, hdx, hne, ht, hl, q⟩ := h
  refine ⟨_, (pss_cons (SlX.ps_sl (pv 0) (pv 1)) (C8.pss_cut (SlX.ps_sl (pv 0) (pv 2)) (pss_cons (SlX.ps_sl (pv 0) (pe_dc (own := [("x", 4), ("_", 5)]) (g := gTup K 2 (gCons (gName 4) (gCons (gName 5) gNil))) (tt := tYes) rfl scInit.nd (pi_list (pv 3)) (blkOk_by (own := [("x", 4), ("_", 5)]) (N := ["self", "places", "data", "tops", "x", "_"]) (sc := defScope jInit) (by decide +kernel)) (fun _ _ _ _ _ => (pg_tup rfl (pgs_cons (pg_name (i := 4) scInit.nd rfl (.inl rfl)) (pgs_cons (pg_name (i := 5) scInit.nd rfl (.inl rfl)) pgs_nil)))) (fun _ _ _ _ _ => pts_nil) (fun _ _ _ _ _ => pv 4) (fun _ _ _ _ _ => pe_bl)))
      (pss_one (SlX.ps_sl (pv 0) pe_int))))), ?_⟩
  obtain ⟨wt, hwt, lwt, item⟩ := ht.ex
  have s0 : Same G (upd (upd G dx (.own x)) x (.ins C dx [])) := (Same.new hdx).trans (Same.new ((upd_ne (Ne.symm hne)).trans hx))
  refine ⟨_, rfl, _, rfl, x, C, dx, p0, [], 3, rfl, .inl ⟨upd_same, rfl⟩, T.cl, T.s0, ?_⟩
  have s1 := same_slH (C := C) (vs := [none, none, none, some (.int n)]) s0 hx hdx
  refine ⟨fun σ' H2 => σ' = [some (.ref x), some (.int n), some (.ref dn), some (.ref tl), none, none] ∧ SlX.Slt H2 x C dx [some (.ref dn), none, none, some (.int n)] ∧ Same G H2 ∧ H2 x ≠ none ∧ H2 dx ≠ none, ?_, ?_⟩
  refine ⟨_, rfl, _, rfl, x, C, dx, p1, [none, none, none, some (.int n)], 0, rfl, slt_step hne, T.cl, T.s1, ?_⟩
  have s2 := same_slH (C := C) (vs := [some (.ref dn), none, none, some (.int n)]) s1 hx hdx
  refine ⟨rfl, slt_step hne, s2, fun z => ?_, fun z => ?_⟩
  · have : (SlX.slH (SlX.slH (upd (upd G dx (.own x)) x (.ins C dx [])) x C dx [none, none, none, some (.int n)]) x C dx [some (.ref dn), none, none, some (.int n)]) x = some (SlX.SlO x C dx [some (.ref dn), none, none, some (.int n)]) := upd_same
    exact nomatch this.symm.trans z
  · have : (SlX.slH (SlX.slH (upd (upd G dx (.own x)) x (.ins C dx [])) x C dx [none, none, none, some (.int n)]) x C dx [some (.ref dn), none, none, some (.int n)]) dx = some (.xd []) := (upd_ne hne).trans upd_same
    exact nomatch this.symm.trans z
  rintro σ' H2 ⟨rfl, sl2, s2, hx2, hd2⟩
  refine ⟨_, rfl, tl, rfl, ⟨_, SqL.of (s2 _ _ hwt)⟩, fun dd nD => ?_⟩
  have gD : G dd = none := by
    cases e : G dd with
    | none => rfl
    | some u => rw [s2 _ _ e] at nD; cases nD
  have Dx : dd ≠ x := fun z => hx2 (by rw [← z]; exact nD)
  have Dd : dd ≠ dx := fun z => hd2 (by rw [← z]; exact nD)
  refine dc_list (K := K) (a := tl) (xs := wt) (fun i Hk => Hk = upd H2 dd (.dK (nmK (putAll [] ((tops.map fun b : Top => b.1).take i) true)))) (by rfl) (fun i Hk _ e => by rw [e]; exact SqL.of ((s2.trans (Same.new nD)) _ _ hwt)) ?_ ?_
  · rintro i y Hk hy rfl
    obtain ⟨b, v, t2, hb, rfl, hT2, _⟩ := item i y hy
    refine ⟨t2, _, rfl, Same.seqT (s2.trans (Same.new nD)) hT2, rfl, _, _, rfl, _, _, rfl, rfl, rfl, ?_⟩
    dsimp only [tYes]
    rw [if_pos rfl]
    refine ⟨_, rfl, _, .inr b.1, rfl, upd_same, nm_lt ?_, ?_⟩
    · refine Nat.le_trans (putAll_le _ [] true) ?_
      rw [List.length_take, List.length_map]
      show 0 + min i tops.length ≤ _
      omega
    · rw [nmK_put, upd_upd, putAll_succ [] (x := b.1) (by rw [List.getElem?_map, hb]; rfl) true]
  · rintro Hk rfl
    rw [List.take_of_length_le (by rw [List.length_map, lwt]; exact Nat.le_refl _)]
    have s3 := s2.trans (Same.new (o := .dK (nmK (putAll [] (tops.map fun b : Top => b.1) true))) nD)
    have sl3 : SlX.Slt (upd H2 dd (.dK (nmK (putAll [] (tops.map fun b : Top => b.1) true)))) x C dx [some (.ref dn), none, none, some (.int n)] := by
      rcases sl2 with ⟨_, z⟩ | ⟨a1, a2⟩
      · cases z
      · exact .inr ⟨(upd_ne Dx.symm).trans a1, (upd_ne Dd.symm).trans a2⟩
    refine ⟨_, rfl, x, C, dx, p2, [some (.ref dn), none, none, some (.int n)], 2, rfl, sl3, T.cl, T.s2, ?_⟩
    have s4 := same_slH (C := C) (vs := [some (.ref dn), none, some (.ref dd), some (.int n)]) s3 hx hdx
    refine ⟨_, rfl, x, C, dx, p3, [some (.ref dn), none, some (.ref dd), some (.int n)], 1, rfl, slt_step hne, T.cl, T.s3, ?_⟩
    have s5 := same_slH (C := C) (vs := [some (.ref dn), some (.int 0), some (.ref dd), some (.int n)]) s4 hx hdx
    refine q _ dd ⟨s5, hx, hdx, gD, hne, Dx, Dd, upd_same, (upd_ne hne).trans upd_same, ?_⟩
    show SlX.slH _ x C dx _ dd = _
    rw [SlX.slH_ne Dx Dd, SlX.slH_ne Dx Dd, upd_same]
def spPartsR (K : PySem.W.Frag) (C : Addr) (D : Str → Nat → Bool) : Sp := fun vs H Q _ => ∃ (G : Hp) (j : Jo) (n m : Int) (S S' : Nm) (tp tl : Addr) (vp vd : V) (tops : List Top) (c : Nat), vs = [.ref tp, .ref j.o] ∧ JAt K C G H j n S m ∧ DataAt K G j.dn D ∧ SqT K G tp [vp, vd, .ref tl] ∧ TopsAt K G tl tops ∧ JdL n D 200 S (tops.map (·.2)) S' c ∧ S'.length ≤ 16000000 ∧
  if 4000 < m + c + tops.length ∨ 60 < tops.length then ∀ H' a, Same G H' → H' a = some (.tup [.str "great"]) → Q (.ref a) H' else ∀ H', Same G H' → Q .non H'
set_option maxHeartbeats 8000000 in
theorem ok_partsR {f fW : Addr} {fd fdW : FuncData} {t1 t2 t3 : Tok} {D : Str → Nat → Bool} (F : Fun K "parts_wrong" "parts_wrong" sParts f fd) (T : TxtJ K w mg C p0 p1 p2 p3 aJ kv) (gLP : mg "LONGEST_PATH" = some (.int 200 t1)) (gMP : mg "MOST_PARTS" = some (.int 4000 t2)) (gMT : mg "MOST_TOPS" = some (.int 60 t3))
    (GW : FnN P w K mg base CX0 441 fW fdW ["self", "part", "left"] (spWrong K C D 200)) (bW : Binds K fdW ["self", "part", "left"] []) (mW : Meth K C "wrong_in" fW) :
    FnN P w K mg base CX0 442 f fd ["program", "judge"] (spPartsR K C D) := by
  refine okN F scParts (fun vs H Q E h => ?_) (fun cdv A outer st H vs Q E hr h => ?_)
  · obtain ⟨G, j, n, m, S, S', tp, tl, vp, vd, tops, c, rfl, _⟩ := h
    rfl
  obtain ⟨G, j, n, m, S, S', tp, tl, vp, vd, tops, c, rfl, J, hD, hP, ht, hj, hS, q⟩ := h
  refine ⟨_, (pss_cons (ps_asg (pv 0) (pg_tup rfl (pgs_cons (pg_name (i := 2) scParts.nd rfl (.inl rfl)) (pgs_cons (pg_name (i := 2) scParts.nd rfl (.inl rfl)) (pgs_cons (pg_name (i := 3) scParts.nd rfl (.inl rfl)) pgs_nil)))))
      (pss_cons (ps_for PassesOwn.never rfl (pi_list (pv 3)) (pg_tup rfl (pgs_cons (pg_name (i := 4) scParts.nd rfl (.inl rfl)) (pgs_cons (pg_name (i := 5) scParts.nd rfl (.inl rfl)) pgs_nil))) (pss_cons (ps_set (i := 6) scParts.nd rfl (.inl rfl) (pe_methN (pv 1) T.cl mW GW hr bW pass0 (pa_cons (pv 5) (pa_cons (pe_glob (v := .int 200) (by rfl) gLP ⟨_, rfl⟩) pa_nil))))
      (pss_one (ps_if (pt_cmpR op_notN (pv 6) pe_non (nomark _)) pss_never pss_nil))))
      (pss_cons (ps_if (PW.pt (pw_or (pt_cmpR op_gt (pe_op op_add (SlX.pe_sl (pv 1)) (pe_callB call_len (by rfl) T.len PySem.boot_len (pa_cons (pv 3) pa_nil))) (pe_glob (v := .int 4000) (by rfl) gMP ⟨_, rfl⟩) (nomark _)) (pw_or1 (pt_cmpR op_gt (pe_callB call_len (by rfl) T.len PySem.boot_len (pa_cons (pv 3) pa_nil)) (pe_glob (v := .int 60) (by rfl) gMT ⟨_, rfl⟩) (nomark _))))) (pss_one (ps_ret (pe_tup (pa_cons pe_str pa_nil)))) pss_nil)
      (pss_one (ps_ret pe_non))))), ?_⟩
  obtain ⟨wt, hwt, lwt, item⟩ := ht.ex
  refine ⟨_, rfl, tp, _, rfl, Same.seqT J.same hP, rfl, _, _, rfl, _, _, rfl, _, _, rfl, rfl, ?_⟩
  refine ⟨_, rfl, tl, rfl, ⟨_, SqL.of (J.same _ _ hwt)⟩, for_list (K := K) (a := tl) (xs := wt) (fun i σ H' => ∃ (v4 v5 v6 : Option V) (Si : Nm) (ci cr : Nat), σ = [some (.ref tp), some (.ref j.o), some vd, some (.ref tl), v4, v5, v6] ∧ JAt K C G H' j n Si (m + ci) ∧ JdL n D 200 Si ((tops.map fun b : Top => b.2).drop i) S' cr ∧ ci + cr = c)
    ⟨none, none, none, S, 0, c, rfl, (show JAt K C G H j n S (m + ((0 : Nat) : Int)) by rw [show m + ((0 : Nat) : Int) = m by omega]; exact J), hj, Nat.zero_add _⟩ (fun i σ H' _ ⟨_, _, _, _, _, _, _, J1, _⟩ => SqL.of (J1.same _ _ hwt)) ?_ ?_⟩
  · rintro i y σ H' hy ⟨v4, v5, v6, Si, ci, cr, rfl, J3, hL, hc⟩
    obtain ⟨b, v, t2, hb, rfl, hT2, hv⟩ := item i y hy
    rw [drop_get (x := b.2) (by rw [List.getElem?_map, hb]; rfl)] at hL
    cases hL with
    | @cons _ _ S3 _ _ _ ca cb k1 k2 =>
      refine ⟨t2, _, rfl, Same.seqT J3.same hT2, rfl, _, _, rfl, _, _, rfl, rfl, ?_⟩
      refine ⟨_, rfl, j.o, j.dx, _, rfl, J3.slt, _, rfl, G, j, n, _, _, _, v, b.2, _, rfl, J3, hD, hv, k1, Nat.le_trans k2.ge hS, fun H4 J4 => ?_⟩
      refine ⟨_, rfl, rfl, false, rfl, iteF ?_⟩
      refine ⟨_, _, _, _, ci + ca, cb, rfl, ?_, k2, by omega⟩
      rw [show m + ((ci + ca : Nat) : Int) = m + ci + ca by omega]
      exact J4
  · rintro σ H' ⟨v4, v5, v6, Si, ci, cr, rfl, J3, hL, hc⟩
    rw [List.drop_of_length_le (by rw [List.length_map, lwt]; exact Nat.le_refl _)] at hL
    cases hL
    have hwt' : SqL K H' tl wt := SqL.of (J3.same _ _ hwt)
    have l1 : (wt.length : Int) = (tops.length : Int) := by rw [lwt]
    obtain rfl : ci = c := by omega
    refine ⟨_, rfl, j.o, C, j.dx, p3, _, 1, _, rfl, J3.slt, T.cl, T.s3, rfl, _, rfl, _, _, rfl, .inl ⟨_, hwt', rfl⟩, _, _, rfl, rfl, _, _, rfl, rfl, ?_⟩
    by_cases c1 : 4000 < m + ci + tops.length
    · refine ⟨true, bl_t (by omega), iteT ⟨by show 1 ≤ sizeLine; decide, fun a na => ?_⟩⟩
      rw [if_pos (.inl c1)] at q
      exact q _ a (J3.same.trans (Same.new na)) upd_same
    · refine ⟨false, bl_f (by omega), iteF ⟨_, rfl, _, _, rfl, .inl ⟨_, hwt', rfl⟩, _, _, rfl, rfl, ?_⟩⟩
      by_cases c2 : 60 < tops.length
      · refine ⟨true, bl_t (by omega), iteT ⟨by show 1 ≤ sizeLine; decide, fun a na => ?_⟩⟩
        rw [if_pos (.inr c2)] at q
        exact q _ a (J3.same.trans (Same.new na)) upd_same
      · refine ⟨false, bl_f (by omega), iteF ?_⟩
        rw [if_neg (fun z => z.elim c1 c2)] at q
        exact q _ J3.same
end
end J45

set_option Elab.async false
set_option maxRecDepth 100000
/-! a program's frame -/
namespace J45
open PySem PySem.Spec PyProof.Rows L2 Hx Xr RN
abbrev sPlaces : Stmt := top 47
def posB : V → Bool
  | .int i => decide (0 < i) && decide (i < big)
  | _ => false
def numD : PyData → Bool
  | .int _ => true
  | .bool _ => true
  | _ => false
def posD : PyData → Bool
  | .int i => decide (0 < i) && decide (i < big)
  | _ => false
/-- a row of the places: whether it is a place -/
inductive RowOk : PyData → Bool → Prop
  | two {a b : PyData} : numD a = true → numD b = true → RowOk (.tuple [a, b]) (posD a && posD b)
  | len {ds : List PyData} : ds.length ≠ 2 → RowOk (.tuple ds) false
  | none : RowOk .none false
  | list {ds : List PyData} : RowOk (.list ds) false
def firstF : List Bool → Option Nat
  | [] => none
  | b :: bs => if b = true then (firstF bs).map (· + 1) else some 0
theorem firstF_at : ∀ {bs : List Bool} {i : Nat}, (∀ j, j < i → bs[j]? = some true) → bs[i]? = some false → firstF bs = some i
  | [], i, _, h => by simp at h
  | b :: bs, 0, _, h => by
    have e : b = false := by simpa using h
    unfold firstF
    rw [e]
    rfl
  | b :: bs, i + 1, hj, h => by
    have e : b = true := by simpa using hj 0 (Nat.succ_pos _)
    unfold firstF
    rw [if_pos e, firstF_at (bs := bs) (i := i) (fun j hji => by simpa using hj (j + 1) (Nat.succ_lt_succ hji)) (by simpa using h)]
    rfl
theorem firstF_none : ∀ {bs : List Bool}, (∀ j, j < bs.length → bs[j]? = some true) → firstF bs = none
  | [], _ => rfl
  | b :: bs, hj => by
    have e : b = true := by simpa using hj 0 (Nat.succ_pos _)
    unfold firstF
    rw [if_pos e, firstF_none (bs := bs) (fun j hji => by simpa using hj (j + 1) (Nat.succ_lt_succ hji))]
    rfl
section
variable {P : Program} {w : World} {K : PySem.W.Frag} {mg : Str → Option Value} {base : Heap}
theorem tyx_seqL {H : Hp} {a : Addr} {xs : List V} (h : SqL K H a xs) : TyX K H (.ref a) (.type "list") := by
  rcases h with (h | ⟨o, h⟩) | ⟨o, its, n, h1, h2, _⟩
  · exact .base (.lst h)
  · exact .base (.frz h)
  · exact .kList h1 h2
theorem scPl : FnScope ["places", "number", "place", "row", "column"] ["places"] (defScope sPlaces) := ⟨rfl, rfl, rfl, by decide +kernel, rfl, by decide +kernel, by decide +kernel⟩
def toldF (H : Hp) (wd : Str) (r : Option Nat) (Q : VK) : Prop := match r with
  | none => ∀ H', Same H H' → Q .non H'
  | some k => ∀ H' t, Same H H' → H' t = some (.tup [.str wd, .int (k : Int)]) → Q (.ref t) H'
def spPlaces (K : PySem.W.Frag) : Sp := fun vs H Q _ => ∃ (a : Addr) (ws : List V) (ds : List PyData) (bs : List Bool), vs = [.ref a] ∧ SqL K H a ws ∧ DpAll K H ws ds ∧ ds.length = bs.length ∧ (∀ (i : Nat) (d : PyData) (b : Bool), ds[i]? = some d → bs[i]? = some b → RowOk d b) ∧ (∀ H', Same H H' → SqL K H' a ws) ∧ toldF H "places" (firstF bs) Q
theorem pos_rd {σ : L2.St} {H : Hp} {v : V} {a : Nat} (h : σ[a]? = some (some v)) (hv : NumV v) {R : Bool → Hp → Prop} (q : R (!posB v) H) :
    tAnd (tNot (tTest (tChain rLtM rLtM (tC (.int 1)) (tVar a) (tC (.int 1000000))))) (tNot (tAnd (tB (tCall spNum [] E0 (tCons (tVar a) tNil))) (tTest (tOp (rI0 fun i j => .bl (decide (j < i))) (tVar a) (tC (.int 0)))))) σ H R := by
  rcases hv with ⟨i, rfl⟩ | ⟨b, rfl⟩
  · have tail : R (!posB (.int i)) H → tNot (tAnd (tB (tCall spNum [] E0 (tCons (tVar a) tNil))) (tTest (tOp (rI0 fun i j => .bl (decide (j < i))) (tVar a) (tC (.int 0))))) σ H R := by
      intro q
      refine ⟨_, h, _, rfl, .inl ⟨i, rfl⟩, numB big (.int i), rfl, ?_⟩
      have e : posB (.int i) = (numB big (.int i) && decide (0 < i)) := by
        show (decide (0 < i) && decide (i < big)) = ((decide (0 ≤ i) && decide (i < big)) && decide (0 < i))
        by_cases c : 0 < i
        · rw [decide_eq_true c, decide_eq_true (show 0 ≤ i by omega)]
          simp
        · rw [decide_eq_false c]
          simp
      rw [e] at q
      cases hn : numB big (.int i) with
      | false =>
        rw [hn, Bool.false_and] at q
        exact iteF q
      | true =>
        rw [hn, Bool.true_and] at q
        exact iteT ⟨_, h, i, 0, rfl, rfl, _, rfl, q⟩
    refine ⟨_, h, 1, i, rfl, rfl, .inl ⟨_, rfl⟩, decide (1 < i), rfl, ?_⟩
    by_cases c : 1 < i
    · rw [decide_eq_true c]
      refine iteT ⟨i, 1000000, rfl, rfl, .inl ⟨_, rfl⟩, decide (i < 1000000), rfl, ?_⟩
      by_cases c2 : i < 1000000
      · rw [decide_eq_true c2]
        have e : posB (.int i) = true := by
          show (decide (0 < i) && decide (i < big)) = true
          rw [Bool.and_eq_true, decide_eq_true_eq, decide_eq_true_eq]
          exact ⟨by omega, Int.lt_trans c2 (by decide +kernel)⟩
        rw [e] at q
        exact iteF q
      · rw [decide_eq_false c2]
        exact iteT (tail q)
    · rw [decide_eq_false c]
      exact ⟨false, rfl, iteT (tail q)⟩
  · have c : ¬ ((1 : Int) < num01 b) := by
      cases b <;> decide
    refine ⟨_, h, 1, num01 b, rfl, rfl, .inl ⟨_, rfl⟩, decide (1 < num01 b), rfl, ?_⟩
    rw [decide_eq_false c]
    refine ⟨false, rfl, iteT ⟨_, h, _, rfl, .inr ⟨b, rfl⟩, numB big (.bl b), rfl, ?_⟩⟩
    exact iteF q
theorem numD_v {H : Hp} {v : V} {d : PyData} (h : Dp K H v d) (hd : numD d = true) : NumV v ∧ posB v = posD d := by
  cases h with
  | int i => exact ⟨.inl ⟨i, rfl⟩, rfl⟩
  | bl b => exact ⟨.inr ⟨b, rfl⟩, rfl⟩
  | _ => cases hd
theorem num_ty {H : Hp} {v : V} (h : NumV v) : ∃ t : String, TyX K H v (.type t) ∧ PySem.W.kitOne K (.type t) (.type "int") = some true := by
  rcases h with ⟨i, rfl⟩ | ⟨b, rfl⟩
  · exact ⟨"int", .base (.int _), kit_ty (a := "int") (b := "int") (r := true) (by decide +kernel)⟩
  · exact ⟨"bool", .base (.bl _), kit_ty (a := "bool") (b := "int") (r := true) (by decide +kernel)⟩
set_option maxHeartbeats 8000000 in
theorem ok_places {f fN : Addr} {fd fdN : FuncData} {tF : Tok} (F : Fun K "places_wrong" "places_wrong" sPlaces f fd) (T : TxtF mg) (gTu : mg "tuple" = none) (gEn : mg "enumerate" = none) (gFar : mg "FAR" = some (.int 1000000 tF))
    (GN : FnOk P w K mg base CX0 1 fN fdN ["thing"] spNum) (kN : PySem.W.keepIn K (.ref fN) = true) (bN : Binds K fdN ["thing"] []) (gN : mg "is_number" = some (.ref fN)) :
    FnOk P w K mg base CX0 2 f fd ["places"] (spPlaces K) := by
  refine F.ok scPl (fun vs H Q E h => ?_) (fun cdv A outer st H vs Q E hr h => ?_)
  · obtain ⟨a, ws, ds, bs, rfl, _⟩ := h
    rfl
  obtain ⟨a, ws, ds, bs, rfl, hL, hA, hlen, hrow, hst, q⟩ := h
  refine ⟨_, (pss_cons (ps_for PassesOwn.never rfl (pi_enum (by rfl) gEn (pa_cons (pv 0) pa_nil)) (pg_tup rfl (pgs_cons (pg_name (i := 1) scPl.nd rfl (.inl rfl)) (pgs_cons (pg_name (i := 2) scPl.nd rfl (.inl rfl)) pgs_nil))) (pss_cons (ps_if (PW.pt (pw_or (pt_not (pt_val (pe_callB call_isi (by rfl) T.isi (by decide +kernel) (pa_cons (pv 2) (pa_cons (pe_bltn (v := .ty "tuple") (by rfl) gTu (by decide +kernel) rfl) pa_nil))))) (pw_or1 (pt_cmpR op_ne (pe_callB call_len (by rfl) T.len PySem.boot_len (pa_cons (pv 2) pa_nil)) pe_int (nomark _))))) (pss_one (ps_ret (pe_tup (pa_cons pe_str (pa_cons (pv 1) pa_nil))))) pss_nil)
      (pss_cons (ps_asg (pv 2) (pg_tup rfl (pgs_cons (pg_name (i := 3) scPl.nd rfl (.inl rfl)) (pgs_cons (pg_name (i := 4) scPl.nd rfl (.inl rfl)) pgs_nil))))
      (C8.pss_cut (ps_if (PW.pt (pw_or (pt_not (pt_val (pe_callB call_isi (by rfl) T.isi (by decide +kernel) (pa_cons (pv 3) (pa_cons (pe_bltn (v := .ty "int") (by rfl) T.int (by decide +kernel) rfl) pa_nil))))) (pw_or1 (PW.pt (pw_and (pt_not (pt_chain op_ltM op_ltM pe_int (pv 3) (pe_glob (v := .int 1000000) (by rfl) gFar ⟨_, rfl⟩))) (pw_and1 (pt_not (PW.pt (pw_and (pt_val (pe_call GN (hr.mono (by decide)) rfl gN kN bN .nil pass0 (pa_cons (pv 3) pa_nil))) (pw_and1 (pt_cmpR op_gt (pv 3) pe_int (nomark _)))))))))))) (pss_one (ps_ret (pe_tup (pa_cons pe_str (pa_cons (pv 1) pa_nil))))) pss_nil) (C8.pss_cut (ps_if (PW.pt (pw_or (pt_not (pt_val (pe_callB call_isi (by rfl) T.isi (by decide +kernel) (pa_cons (pv 4) (pa_cons (pe_bltn (v := .ty "int") (by rfl) T.int (by decide +kernel) rfl) pa_nil))))) (pw_or1 (PW.pt (pw_and (pt_not (pt_chain op_ltM op_ltM pe_int (pv 4) (pe_glob (v := .int 1000000) (by rfl) gFar ⟨_, rfl⟩))) (pw_and1 (pt_not (PW.pt (pw_and (pt_val (pe_call GN (hr.mono (by decide)) rfl gN kN bN .nil pass0 (pa_cons (pv 4) pa_nil))) (pw_and1 (pt_cmpR op_gt (pv 4) pe_int (nomark _)))))))))))) (pss_one (ps_ret (pe_tup (pa_cons pe_str (pa_cons (pv 1) pa_nil))))) pss_nil) pss_nil)))))
      (pss_one (ps_ret pe_non))), ?_⟩
  have tup : ∀ {H1 : Hp} {t : Addr} {ws : List V}, SqT K H1 t ws → TyX K H1 (.ref t) (.type "tuple") := fun h => tyx_seqT h
  refine ⟨_, rfl, a, ws, rfl, hL, for_it walk_enum (fun i σ H' => ∃ (v1 v2 v3 v4 : Option V), σ = [some (.ref a), v1, v2, v3, v4] ∧ Same H H' ∧ ∀ j, j < i → bs[j]? = some true) ⟨none, none, none, none, rfl, fun _ _ e => e, fun j hj => absurd hj (Nat.not_lt_zero _)⟩ (fun i σ H' _ ⟨_, _, _, _, _, s1, _⟩ => hst _ s1) ?_ ?_⟩
  · rintro i x σ H' H2 hi ⟨v1, v2, v3, v4, rfl, sm, hok⟩ ⟨T, n0, y, rfl, nT, rfl, e1, e2⟩
    cases e1
    refine ⟨T, _, rfl, SqT.of upd_same, rfl, _, _, rfl, _, _, rfl, rfl, ?_⟩
    obtain ⟨d, hd, dk⟩ := DpAll.get hA e2
    have il : i < bs.length := by rw [← hlen]; exact (List.getElem?_eq_some_iff.mp hd).1
    have hr' := hrow i d bs[i] hd (List.getElem?_eq_getElem il)
    have hbi : bs[i]? = some bs[i] := List.getElem?_eq_getElem il
    have bad : bs[i]? = some false → ∀ (t : Addr) (H3 : Hp), Same H H3 → H3 t = none → Q (.ref t) (upd H3 t (.tup [.str "places", .int (i : Int)])) := by
      intro hb t H3 s3 nt
      have e := firstF_at hok hb
      rw [e] at q
      exact q _ t (s3.trans (Same.new nt)) upd_same
    have sm2 : Same H (upd H' T (.tup [.int (i : Int), y])) := sm.trans (Same.new nT)
    have dk2 := Dp.same sm2 _ _ dk
    generalize hb0 : bs[i] = b0 at hr' hbi
    cases hr' with
    | @two a0 b0 na nb =>
      obtain ⟨t, ws2, rfl, hT2, hA2⟩ := tup_open dk2
      obtain ⟨y1, ws2, rfl, hy1, hA2⟩ := all_open hA2
      obtain ⟨y2, ws2, rfl, hy2, hA2⟩ := all_open hA2
      obtain rfl := nil_open hA2
      obtain ⟨nv1, ep1⟩ := numD_v hy1 na
      obtain ⟨nv2, ep2⟩ := numD_v hy2 nb
      refine ⟨_, rfl, .ref t, .ty "tuple", .type "tuple", .type "tuple", true, rfl, .ty _, tup hT2, kit_ty (a := "tuple") (b := "tuple") (r := true) (by decide +kernel), true, rfl, iteF ?_⟩
      refine ⟨_, rfl, _, _, rfl, .inr ⟨_, hT2, rfl⟩, rfl, false, by simp, iteF ?_⟩
      refine ⟨_, rfl, t, _, rfl, hT2, rfl, _, _, rfl, _, _, rfl, rfl, ?_⟩
      refine ⟨fun σ' H3 => σ' = [some (.ref a), some (.int (i : Int)), some (.ref t), some y1, some y2] ∧ H3 = upd H' T (.tup [.int (i : Int), .ref t]) ∧ posD a0 = true, ?_, ?_⟩
      · obtain ⟨ty3, hty3, hk3⟩ := num_ty (K := K) (H := upd H' T (.tup [.int (i : Int), .ref t])) nv1
        refine ⟨_, rfl, y1, .ty "int", .type ty3, .type "int", true, rfl, .ty _, hty3, hk3, true, rfl, iteF ?_⟩
        refine pos_rd rfl nv1 ?_
        rw [ep1]
        cases hp : posD a0 with
        | true => exact iteF ⟨rfl, rfl, rfl⟩
        | false =>
          rw [hp, Bool.false_and] at hbi
          exact iteT ⟨_, rfl, by show 2 ≤ sizeLine; decide, fun t2 nt2 => bad hbi t2 _ sm2 nt2⟩
      · rintro σ' H3 ⟨rfl, rfl, hpa⟩
        rw [hpa, Bool.true_and] at hbi
        refine ⟨fun σ' H3 => σ' = [some (.ref a), some (.int (i : Int)), some (.ref t), some y1, some y2] ∧ H3 = upd H' T (.tup [.int (i : Int), .ref t]) ∧ posD b0 = true, ?_, ?_⟩
        · obtain ⟨ty4, hty4, hk4⟩ := num_ty (K := K) (H := upd H' T (.tup [.int (i : Int), .ref t])) nv2
          refine ⟨_, rfl, y2, .ty "int", .type ty4, .type "int", true, rfl, .ty _, hty4, hk4, true, rfl, iteF ?_⟩
          refine pos_rd rfl nv2 ?_
          rw [ep2]
          cases hp : posD b0 with
          | true => exact iteF ⟨rfl, rfl, rfl⟩
          | false =>
            rw [hp] at hbi
            exact iteT ⟨_, rfl, by show 2 ≤ sizeLine; decide, fun t2 nt2 => bad hbi t2 _ sm2 nt2⟩
        · rintro σ' H3 ⟨rfl, rfl, hpb⟩
          rw [hpb] at hbi
          refine ⟨_, _, _, _, rfl, sm2, fun j hj => ?_⟩
          rcases Nat.lt_succ_iff_lt_or_eq.mp hj with h | h
          · exact hok j h
          · rw [h]
            exact hbi
    | @len ds2 hne =>
      obtain ⟨t, ws2, rfl, hT2, hA2⟩ := tup_open dk2
      have l2 := DpAll.len hA2
      refine ⟨_, rfl, .ref t, .ty "tuple", .type "tuple", .type "tuple", true, rfl, .ty _, tup hT2, kit_ty (a := "tuple") (b := "tuple") (r := true) (by decide +kernel), true, rfl, iteF ?_⟩
      refine ⟨_, rfl, _, _, rfl, .inr ⟨_, hT2, rfl⟩, rfl, true, ?_, iteT ?_⟩
      · rw [decide_eq_false (fun z => hne (by injection z with z; rw [← l2]; omega))]
        rfl
      · exact ⟨_, rfl, by show 2 ≤ sizeLine; decide, fun t2 nt2 => bad hbi t2 _ sm2 nt2⟩
    | none =>
      cases dk2
      refine ⟨_, rfl, _, .ty "tuple", .type "NoneType", .type "tuple", false, rfl, .ty _, .base .non, kit_ty (a := "NoneType") (b := "tuple") (r := false) (by decide +kernel), false, rfl, iteT ?_⟩
      exact ⟨_, rfl, by show 2 ≤ sizeLine; decide, fun t2 nt2 => bad hbi t2 _ sm2 nt2⟩
    | @list ds2 =>
      cases dk2 with
      | lst hL2 hA2 =>
        refine ⟨_, rfl, _, .ty "tuple", .type "list", .type "tuple", false, rfl, .ty _, tyx_seqL hL2, kit_ty (a := "list") (b := "tuple") (r := false) (by decide +kernel), false, rfl, iteT ?_⟩
        exact ⟨_, rfl, by show 2 ≤ sizeLine; decide, fun t2 nt2 => bad hbi t2 _ sm2 nt2⟩
  · rintro σ H' ⟨v1, v2, v3, v4, rfl, sm, hok⟩
    have lw : ws.length = bs.length := by rw [DpAll.len hA, hlen]
    rw [firstF_none (bs := bs) (fun j hj => hok j (by rw [lw]; exact hj))] at q
    exact q _ sm
end
end J45

set_option Elab.async false
set_option maxRecDepth 100000
/-! a program's frame, whole -/
namespace J45
open PySem PySem.Spec PyProof.Rows L2 Hx Xr RN
abbrev sFrame : Stmt := top 46
def tyB (K : PySem.W.Frag) (H : Hp) (v : V) (T : String) (b : Bool) : Prop := ∃ t : Value, TyX K H v t ∧ PySem.W.kitOne K t (.type T) = some b
/-- a row of the tops, as far as its frame goes -/
inductive TopRow : PyData → Option Str → Prop
  | two {z : Str} {e : PyData} : z.length ≤ 1000 → TopRow (.tuple [.str z, e]) (some z)
  | len {ds : List PyData} : ds.length ≠ 2 → TopRow (.tuple ds) none
  | none : TopRow .none none
  | list {ds : List PyData} : TopRow (.list ds) none
def flagT (pre : List (Option Str)) : Option Str → Bool
  | none => false
  | some z => plainB z && !decide (some z ∈ pre)
/-- what is told of a program's frame -/
def ToldP (H : Hp) (Q : VK) : Prop := ∀ H' t, Same H H' → H' t = some (.tup [.str "program"]) → Q (.ref t) H'
section
variable {P : Program} {w : World} {K : PySem.W.Frag} {mg : Str → Option Value} {base : Heap}
theorem scFr : FnScope ["thing", "places", "data", "tops", "wrong", "seen", "number", "top"] ["thing"] (defScope sFrame) := ⟨rfl, rfl, rfl, by decide +kernel, rfl, by decide +kernel, by decide +kernel⟩
/-- a thing by its frame, and what is told of it -/
inductive FrameAt (K : PySem.W.Frag) (H : Hp) (v : V) (Q : VK) : Prop
  | other : tyB K H v "tuple" false → ToldP H Q → FrameAt K H v Q
  | len {t : Addr} {ws : List V} : v = .ref t → SqT K H t ws → ws.length ≠ 3 → ToldP H Q → FrameAt K H v Q
  | kinds {t : Addr} {vp vd vt : V} {b1 b2 b3 : Bool} : v = .ref t → SqT K H t [vp, vd, vt] → tyB K H vp "list" b1 → tyB K H vd "dict" b2 → tyB K H vt "list" b3 → (b1 && (b2 && b3)) = false → ToldP H Q → FrameAt K H v Q
  | rows {t a tl : Addr} {vd : V} {ws wt : List V} {ds dt : List PyData} {bs bt : List Bool} {rt : List (Option Str)} : v = .ref t → SqT K H t [.ref a, vd, .ref tl] → tyB K H vd "dict" true → H a = some (.lst ws) → H tl = some (.lst wt) →
      DpAll K H ws ds → ds.length = bs.length → (∀ (i : Nat) (d : PyData) (b : Bool), ds[i]? = some d → bs[i]? = some b → RowOk d b) →
      DpAll K H wt dt → dt.length = rt.length → rt.length = bt.length → (∀ (i : Nat) (d : PyData) (r : Option Str), dt[i]? = some d → rt[i]? = some r → TopRow d r) → (∀ (i : Nat) (r : Option Str) (b : Bool), rt[i]? = some r → bt[i]? = some b → b = flagT (rt.take i) r) → rt.length ≤ 16000000 →
      (match firstF bs with
        | some k => toldF H "places" (some k) Q
        | none => toldF H "top" (firstF bt) Q) → FrameAt K H v Q
def spFrame (K : PySem.W.Frag) : Sp := fun vs H Q _ => ∃ v : V, vs = [v] ∧ FrameAt K H v Q
theorem seen_some {l : List Key} {w : Key} (h : w ∈ l) : (valV (seenK l) w).isSome = true := by
  rw [← valV_any, List.any_eq_true]
  exact ⟨(w, .bl true), List.mem_map.mpr ⟨w, h, rfl⟩, decide_eq_true rfl⟩
def strK (l : List (Option Str)) : List Key := l.filterMap fun o => o.map Sum.inr
theorem strK_mem {l : List (Option Str)} {z : Str} : (Sum.inr z : Key) ∈ strK l ↔ some z ∈ l := by
  unfold strK
  rw [List.mem_filterMap]
  constructor
  · rintro ⟨o, h1, h2⟩
    cases o with
    | none => cases h2
    | some y =>
      have e : (Sum.inr y : Key) = Sum.inr z := Option.some.inj h2
      injection e with e
      rw [← e]
      exact h1
  · intro h
    exact ⟨some z, h, rfl⟩
set_option maxHeartbeats 8000000 in
theorem ok_frame {f fL fQ : Addr} {fd fdL fdQ : FuncData} (F : Fun K "frame_wrong" "frame_wrong" sFrame f fd) (T : TxtF mg) (gTu : mg "tuple" = none) (gLi : mg "list" = none) (gDi : mg "dict" = none) (gEn : mg "enumerate" = none)
    (GL : FnOk P w K mg base CX0 2 fL fdL ["places"] (spPlaces K)) (kL : PySem.W.keepIn K (.ref fL) = true) (bL : Binds K fdL ["places"] []) (gL : mg "places_wrong" = some (.ref fL))
    (GQ : FnOk P w K mg base CX0 2 fQ fdQ ["thing"] spPlain) (kQ : PySem.W.keepIn K (.ref fQ) = true) (bQ : Binds K fdQ ["thing"] []) (gQ : mg "is_plain_name" = some (.ref fQ)) :
    FnOk P w K mg base CX0 3 f fd ["thing"] (spFrame K) := by
  refine F.ok scFr (fun vs H Q E h => ?_) (fun cdv A outer st H vs Q E hr h => ?_)
  · obtain ⟨v, rfl, _⟩ := h
    rfl
  obtain ⟨v, rfl, h⟩ := h
  have hu := ru1 hr
  refine ⟨_, (pss_cons (ps_if (PW.pt (pw_or (pt_not (pt_val (pe_callB call_isi (by rfl) T.isi (by decide +kernel) (pa_cons (pv 0) (pa_cons (pe_bltn (v := .ty "tuple") (by rfl) gTu (by decide +kernel) rfl) pa_nil))))) (pw_or1 (pt_cmpR op_ne (pe_callB call_len (by rfl) T.len PySem.boot_len (pa_cons (pv 0) pa_nil)) pe_int (nomark _))))) (pss_one (ps_ret (pe_tup (pa_cons pe_str pa_nil)))) pss_nil)
      (pss_cons (ps_asg (pv 0) (pg_tup rfl (pgs_cons (pg_name (i := 1) scFr.nd rfl (.inl rfl)) (pgs_cons (pg_name (i := 2) scFr.nd rfl (.inl rfl)) (pgs_cons (pg_name (i := 3) scFr.nd rfl (.inl rfl)) pgs_nil)))))
      (pss_cons (ps_if (PW.pt (pw_or (pt_not (pt_val (pe_callB call_isi (by rfl) T.isi (by decide +kernel) (pa_cons (pv 1) (pa_cons (pe_bltn (v := .ty "list") (by rfl) gLi (by decide +kernel) rfl) pa_nil))))) (pw_or (pt_not (pt_val (pe_callB call_isi (by rfl) T.isi (by decide +kernel) (pa_cons (pv 2) (pa_cons (pe_bltn (v := .ty "dict") (by rfl) gDi (by decide +kernel) rfl) pa_nil))))) (pw_or1 (pt_not (pt_val (pe_callB call_isi (by rfl) T.isi (by decide +kernel) (pa_cons (pv 3) (pa_cons (pe_bltn (v := .ty "list") (by rfl) gLi (by decide +kernel) rfl) pa_nil))))))))) (pss_one (ps_ret (pe_tup (pa_cons pe_str pa_nil)))) pss_nil)
      (pss_cons (ps_set (i := 4) scFr.nd rfl (.inl rfl) (pe_call GL (hr.mono (by decide)) rfl gL kL bL .nil pass0 (pa_cons (pv 1) pa_nil)))
      (pss_cons (ps_if (pt_cmpR op_notN (pv 4) pe_non (nomark _)) (pss_one (ps_ret (pv 4))) pss_nil)
      (pss_cons (ps_set (i := 5) scFr.nd rfl (.inl rfl) pe_dnewK)
      (pss_cons (ps_for PassesOwn.never rfl (pi_enum (by rfl) gEn (pa_cons (pv 3) pa_nil)) (pg_tup rfl (pgs_cons (pg_name (i := 6) scFr.nd rfl (.inl rfl)) (pgs_cons (pg_name (i := 7) scFr.nd rfl (.inl rfl)) pgs_nil))) (pss_cons (ps_if (PW.pt (pw_or (pt_not (pt_val (pe_callB call_isi (by rfl) T.isi (by decide +kernel) (pa_cons (pv 7) (pa_cons (pe_bltn (v := .ty "tuple") (by rfl) gTu (by decide +kernel) rfl) pa_nil))))) (pw_or (pt_cmpR op_ne (pe_callB call_len (by rfl) T.len PySem.boot_len (pa_cons (pv 7) pa_nil)) pe_int (nomark _)) (pw_or (pt_not (pt_val (pe_call GQ (hr.mono (by decide)) rfl gQ kQ bQ .nil pass0 (pa_cons (pe_ix ix_tup (pv 7) pe_int (fun _ _ => rfl)) pa_nil)))) (pw_or1 (pt_cmp (pc_din hu (pe_ix ix_tup (pv 7) pe_int (fun _ _ => rfl)) (pv 5)) rfl)))))) (pss_one (ps_ret (pe_tup (pa_cons pe_str (pa_cons (pv 6) pa_nil))))) pss_nil)
      (pss_one (ps_dput hu (pv 5) (pe_ix ix_tup (pv 7) pe_int (fun _ _ => rfl)) pe_bl rfl))))
      (pss_one (ps_ret pe_non))))))))), ?_⟩
  have tup : ∀ {H1 : Hp} {t : Addr} {ws : List V}, SqT K H1 t ws → TyX K H1 (.ref t) (.type "tuple") := fun h => tyx_seqT h
  cases h with
  | other hty q =>
    obtain ⟨ty, h1, h2⟩ := hty
    refine ⟨_, rfl, v, .ty "tuple", ty, .type "tuple", false, rfl, .ty _, h1, h2, false, rfl, iteT ?_⟩
    exact ⟨by show 1 ≤ sizeLine; decide, fun t2 nt2 => q _ t2 (Same.new nt2) upd_same⟩
  | @len t ws e hT hne q =>
    subst e
    refine ⟨_, rfl, .ref t, .ty "tuple", .type "tuple", .type "tuple", true, rfl, .ty _, tup hT, kit_ty (a := "tuple") (b := "tuple") (r := true) (by decide +kernel), true, rfl, iteF ?_⟩
    refine ⟨_, rfl, _, _, rfl, .inr ⟨_, hT, rfl⟩, rfl, true, ?_, iteT ?_⟩
    · rw [decide_eq_false (fun z => hne (by injection z with z; omega))]
      rfl
    · exact ⟨by show 1 ≤ sizeLine; decide, fun t2 nt2 => q _ t2 (Same.new nt2) upd_same⟩
  | @kinds t vp vd vt b1 b2 b3 e hT h1 h2 h3 hb q =>
    subst e
    obtain ⟨ty1, a1, k1⟩ := h1
    obtain ⟨ty2, a2, k2⟩ := h2
    obtain ⟨ty3, a3, k3⟩ := h3
    refine ⟨_, rfl, .ref t, .ty "tuple", .type "tuple", .type "tuple", true, rfl, .ty _, tup hT, kit_ty (a := "tuple") (b := "tuple") (r := true) (by decide +kernel), true, rfl, iteF ?_⟩
    refine ⟨_, rfl, _, _, rfl, .inr ⟨_, hT, rfl⟩, rfl, false, by simp, iteF ?_⟩
    refine ⟨_, rfl, t, _, rfl, hT, rfl, _, _, rfl, _, _, rfl, _, _, rfl, rfl, ?_⟩
    refine ⟨_, rfl, vp, .ty "list", ty1, .type "list", b1, rfl, .ty _, a1, k1, b1, rfl, ?_⟩
    cases b1 with
    | false => exact iteT ⟨by show 1 ≤ sizeLine; decide, fun t2 nt2 => q _ t2 (Same.new nt2) upd_same⟩
    | true =>
      refine iteF ⟨_, rfl, vd, .ty "dict", ty2, .type "dict", b2, rfl, .ty _, a2, k2, b2, rfl, ?_⟩
      cases b2 with
      | false => exact iteT ⟨by show 1 ≤ sizeLine; decide, fun t2 nt2 => q _ t2 (Same.new nt2) upd_same⟩
      | true =>
        refine iteF ⟨_, rfl, vt, .ty "list", ty3, .type "list", b3, rfl, .ty _, a3, k3, b3, rfl, ?_⟩
        cases b3 with
        | false => exact iteT ⟨by show 1 ≤ sizeLine; decide, fun t2 nt2 => q _ t2 (Same.new nt2) upd_same⟩
        | true => cases hb
  | @rows t a tl vd ws wt ds dt bs bt rt e hT h2 ha htl hA hlen hrow hB hlt hlb htop hflag hrl q =>
    subst e
    obtain ⟨ty2, a2, k2⟩ := h2
    refine ⟨_, rfl, .ref t, .ty "tuple", .type "tuple", .type "tuple", true, rfl, .ty _, tup hT, kit_ty (a := "tuple") (b := "tuple") (r := true) (by decide +kernel), true, rfl, iteF ?_⟩
    refine ⟨_, rfl, _, _, rfl, .inr ⟨_, hT, rfl⟩, rfl, false, by simp, iteF ?_⟩
    refine ⟨_, rfl, t, _, rfl, hT, rfl, _, _, rfl, _, _, rfl, _, _, rfl, rfl, ?_⟩
    refine ⟨_, rfl, .ref a, .ty "list", .type "list", .type "list", true, rfl, .ty _, .base (.lst ha), kit_ty (a := "list") (b := "list") (r := true) (by decide +kernel), true, rfl, iteF ?_⟩
    refine ⟨_, rfl, vd, .ty "dict", ty2, .type "dict", true, rfl, .ty _, a2, k2, true, rfl, iteF ?_⟩
    refine ⟨_, rfl, .ref tl, .ty "list", .type "list", .type "list", true, rfl, .ty _, .base (.lst htl), kit_ty (a := "list") (b := "list") (r := true) (by decide +kernel), true, rfl, iteF ?_⟩
    refine ⟨_, rfl, a, ws, ds, bs, rfl, SqL.of ha, hA, hlen, hrow, fun H' s' => SqL.of (s' _ _ ha), ?_⟩
    cases hf : firstF bs with
    | some k =>
      rw [hf] at q
      intro H1 t1 s1 e1
      refine ⟨_, rfl, rfl, true, rfl, iteT ?_⟩
      exact ⟨_, rfl, q H1 t1 s1 e1⟩
    | none =>
      rw [hf] at q
      intro H1 s1
      refine ⟨_, rfl, rfl, false, rfl, iteF ?_⟩
      refine fun sd nsd => ?_
      have gsd : H sd = none := by
        cases e : H sd with
        | none => rfl
        | some u => rw [s1 _ _ e] at nsd; cases nsd
      have lwt : wt.length = rt.length := by rw [DpAll.len hB, hlt]
      refine ⟨_, rfl, tl, wt, rfl, SqL.of ((s1.trans (Same.new nsd)) _ _ htl), for_it walk_enum (fun i σ H' => ∃ (v6 v7 : Option V), σ = [some (.ref t), some (.ref a), some vd, some (.ref tl), some .non, some (.ref sd), v6, v7] ∧ Same H H' ∧ H' sd = some (.dK (seenK (strK (rt.take i)))) ∧ ∀ j, j < i → bt[j]? = some true)
        ⟨none, none, rfl, s1.trans (Same.new nsd), upd_same, fun j hj => absurd hj (Nat.not_lt_zero _)⟩ (fun i σ H' _ ⟨_, _, _, s1, _⟩ => SqL.of (s1 _ _ htl)) ?_ ?_⟩
      · rintro i x σ H' H2 hi ⟨v6, v7, rfl, sm, hsd, hok⟩ ⟨T, n0, y, rfl, nT, rfl, e1, e2⟩
        cases e1
        refine ⟨T, _, rfl, SqT.of upd_same, rfl, _, _, rfl, _, _, rfl, rfl, ?_⟩
        obtain ⟨d, hd, dk⟩ := DpAll.get hB e2
        have il : i < rt.length := by rw [← hlt]; exact (List.getElem?_eq_some_iff.mp hd).1
        have hri : rt[i]? = some rt[i] := List.getElem?_eq_getElem il
        have hbi : bt[i]? = some (bt[i]'(by rw [← hlb]; exact il)) := List.getElem?_eq_getElem _
        have hr' := htop i d _ hd hri
        have hfl := hflag i _ _ hri hbi
        rw [hfl] at hbi
        have bad : bt[i]? = some false → ∀ (t : Addr) (H3 : Hp), Same H H3 → H3 t = none → Q (.ref t) (upd H3 t (.tup [.str "top", .int (i : Int)])) := by
          intro hb t H3 s3 nt
          have e := firstF_at hok hb
          rw [e] at q
          exact q _ t (s3.trans (Same.new nt)) upd_same
        have sm2 : Same H (upd H' T (.tup [.int (i : Int), y])) := sm.trans (Same.new nT)
        have hsd2 := (Same.new (o := .tup [.int (i : Int), y]) nT) _ _ hsd
        have dk2 := Dp.same sm2 _ _ dk
        clear hfl
        generalize rt[i] = r0 at hr' hbi hri
        cases hr' with
        | @two z e0 hz =>
          obtain ⟨t2, ws2, rfl, hT2, hA2⟩ := tup_open dk2
          obtain ⟨y1, ws2, rfl, hy1, hA2⟩ := all_open hA2
          obtain ⟨y2, ws2, rfl, hy2, hA2⟩ := all_open hA2
          obtain rfl := nil_open hA2
          cases hy1
          refine ⟨_, rfl, .ref t2, .ty "tuple", .type "tuple", .type "tuple", true, rfl, .ty _, tup hT2, kit_ty (a := "tuple") (b := "tuple") (r := true) (by decide +kernel), true, rfl, iteF ?_⟩
          refine ⟨_, rfl, _, _, rfl, .inr ⟨_, hT2, rfl⟩, rfl, false, by simp, iteF ?_⟩
          refine ⟨_, rfl, t2, _, 0, _, rfl, rfl, hT2, atI_nat (j := 0) rfl, z, rfl, hz, fun H3 s3 => ⟨plainB z, rfl, ?_⟩⟩
          have sm3 := sm2.trans s3
          have hsd3 := s3 _ _ hsd2
          replace hbi : bt[i]? = some (plainB z && !decide (some z ∈ rt.take i)) := hbi
          cases hp : plainB z with
          | false =>
            rw [hp, Bool.false_and] at hbi
            exact iteT ⟨_, rfl, by show 2 ≤ sizeLine; decide, fun t3 nt3 => bad hbi t3 _ sm3 nt3⟩
          | true =>
            rw [hp, Bool.true_and] at hbi
            refine iteF ?_
            have hg := DGet.k (k := .inr z) hsd3
            by_cases hm : some z ∈ rt.take i
            · rw [decide_eq_true hm] at hbi
              refine ⟨_, rfl, t2, _, 0, _, rfl, rfl, Same.seqT s3 hT2, atI_nat (j := 0) rfl, _, rfl, sd, _, rfl, hg, true, ?_, iteT ?_⟩
              · rw [seen_some (strK_mem.mpr hm)]
              · exact ⟨_, rfl, by show 2 ≤ sizeLine; decide, fun t3 nt3 => bad hbi t3 _ sm3 nt3⟩
            · rw [decide_eq_false hm] at hbi
              have hm' : (Sum.inr z : Key) ∉ strK (rt.take i) := fun h => hm (strK_mem.mp h)
              rw [seen_none hm'] at hg
              refine ⟨_, rfl, t2, _, 0, _, rfl, rfl, Same.seqT s3 hT2, atI_nat (j := 0) rfl, _, rfl, sd, _, rfl, hg, false, rfl, iteF ?_⟩
              have ls : (seenK (strK (rt.take i))).length < sizeLine := by
                unfold seenK strK
                rw [List.length_map]
                refine Nat.lt_of_le_of_lt (List.length_filterMap_le _ _) ?_
                rw [List.length_take]
                exact Nat.lt_of_le_of_lt (Nat.min_le_right _ _) (Nat.lt_of_le_of_lt hrl (by decide))
              refine ⟨_, rfl, _, rfl, t2, _, 0, _, rfl, rfl, Same.seqT s3 hT2, atI_nat (j := 0) rfl, sd, _, rfl, DPut.k (k := .inr z) hsd3 ls, ?_⟩
              refine ⟨_, _, rfl, Same.upd sm3 gsd, ?_, fun j hj => ?_⟩
              · rw [seen_put hm', upd_same]
                have : strK (rt.take (i + 1)) = strK (rt.take i) ++ [Sum.inr z] := by
                  unfold strK
                  rw [List.take_add_one, hri, List.filterMap_append]
                  rfl
                rw [this]
              · rcases Nat.lt_succ_iff_lt_or_eq.mp hj with h | h
                · exact hok j h
                · rw [h]
                  exact hbi
        | @len ds2 hne =>
          obtain ⟨t2, ws2, rfl, hT2, hA2⟩ := tup_open dk2
          have l2 := DpAll.len hA2
          refine ⟨_, rfl, .ref t2, .ty "tuple", .type "tuple", .type "tuple", true, rfl, .ty _, tup hT2, kit_ty (a := "tuple") (b := "tuple") (r := true) (by decide +kernel), true, rfl, iteF ?_⟩
          refine ⟨_, rfl, _, _, rfl, .inr ⟨_, hT2, rfl⟩, rfl, true, ?_, iteT ?_⟩
          · rw [decide_eq_false (fun z => hne (by injection z with z; rw [← l2]; omega))]
            rfl
          · exact ⟨_, rfl, by show 2 ≤ sizeLine; decide, fun t3 nt3 => bad hbi t3 _ sm2 nt3⟩
        | none =>
          cases dk2
          refine ⟨_, rfl, _, .ty "tuple", .type "NoneType", .type "tuple", false, rfl, .ty _, .base .non, kit_ty (a := "NoneType") (b := "tuple") (r := false) (by decide +kernel), false, rfl, iteT ?_⟩
          exact ⟨_, rfl, by show 2 ≤ sizeLine; decide, fun t3 nt3 => bad hbi t3 _ sm2 nt3⟩
        | @list ds2 =>
          cases dk2 with
          | lst hL2 hA2 =>
            refine ⟨_, rfl, _, .ty "tuple", .type "list", .type "tuple", false, rfl, .ty _, tyx_seqL hL2, kit_ty (a := "list") (b := "tuple") (r := false) (by decide +kernel), false, rfl, iteT ?_⟩
            exact ⟨_, rfl, by show 2 ≤ sizeLine; decide, fun t3 nt3 => bad hbi t3 _ sm2 nt3⟩
      · rintro σ H' ⟨v6, v7, rfl, sm, hsd, hok⟩
        have lw : wt.length = bt.length := by rw [lwt, hlb]
        rw [firstF_none (bs := bt) (fun j hj => hok j (by rw [lw]; exact hj))] at q
        exact q _ sm
end
end J45

set_option Elab.async false
set_option maxRecDepth 100000
/-! program_wrong -/
namespace J45
open PySem PySem.Spec PyProof.Rows L2 Hx Xr RN
abbrev sProg : Stmt := top 44
abbrev sJof : Stmt := top 45
section
variable {P : Program} {w : World} {K : PySem.W.Frag} {mg : Str → Option Value} {base : Heap} {C p0 p1 p2 p3 aJ : Addr} {kv : List (Str × V)}
theorem scJof : FnScope ["program", "places", "data", "tops"] ["program"] (defScope sJof) := ⟨rfl, rfl, rfl, by decide +kernel, rfl, by decide +kernel, by decide +kernel⟩
theorem scProg : FnScope ["thing", "wrong"] ["thing"] (defScope sProg) := ⟨rfl, rfl, rfl, by decide +kernel, rfl, by decide +kernel, by decide +kernel⟩
def ToldPart (G : Hp) (x0 : Str) (d : Nat) (Q : VK) : Prop := ∀ H' t t2 t3, Same G H' → H' t = some (.tup [.str "part", .ref t2]) → H' t2 = some (.tup [.str x0, .ref t3]) → H' t3 = some (.tup (List.replicate d (.int 0))) → Q (.ref t) H'
/-- the first top's part is none -/
def BadTop (G : Hp) (n : Int) (x0 : Str) (e0 : PyData) (Q : VK) : Prop := (BadAt n e0 ∧ ToldPart G x0 0 Q) ∨ (e0 = chain 201 ∧ inP n 0 = true ∧ ToldPart G x0 201 Q)
def spPartsB (K : PySem.W.Frag) (C : Addr) : Sp := fun vs H Q _ => ∃ (G : Hp) (j : Jo) (n m : Int) (S : Nm) (tp tl : Addr) (vp vd : V) (x0 : Str) (e0 : PyData) (rest : List Top), vs = [.ref tp, .ref j.o] ∧ JAt K C G H j n S m ∧ SqT K G tp [vp, vd, .ref tl] ∧ TopsAt K G tl ((x0, e0) :: rest) ∧ BadTop G n x0 e0 Q
set_option maxHeartbeats 8000000 in
theorem ok_partsB {f fW : Addr} {fd fdW : FuncData} {t1 t2 t3 : Tok} (F : Fun K "parts_wrong" "parts_wrong" sParts f fd) (T : TxtJ K w mg C p0 p1 p2 p3 aJ kv) (gLP : mg "LONGEST_PATH" = some (.int 200 t1)) (gMP : mg "MOST_PARTS" = some (.int 4000 t2)) (gMT : mg "MOST_TOPS" = some (.int 60 t3))
    (GW : FnN P w K mg base CX0 443 fW fdW ["self", "part", "left"] (fun vs H Q E => spBadW K C 200 vs H Q E ∨ spBadD K C 201 vs H Q E)) (bW : Binds K fdW ["self", "part", "left"] []) (mW : Meth K C "wrong_in" fW) :
    FnN P w K mg base CX0 444 f fd ["program", "judge"] (spPartsB K C) := by
  refine okN F scParts (fun vs H Q E h => ?_) (fun cdv A outer st H vs Q E hr h => ?_)
  · obtain ⟨G, j, n, m, S, tp, tl, vp, vd, x0, e0, rest, rfl, _⟩ := h
    rfl
  obtain ⟨G, j, n, m, S, tp, tl, vp, vd, x0, e0, rest, rfl, J, hP, ht, hbad⟩ := h
  refine ⟨_, (pss_cons (ps_asg (pv 0) (pg_tup rfl (pgs_cons (pg_name (i := 2) scParts.nd rfl (.inl rfl)) (pgs_cons (pg_name (i := 2) scParts.nd rfl (.inl rfl)) (pgs_cons (pg_name (i := 3) scParts.nd rfl (.inl rfl)) pgs_nil)))))
      (pss_cons (ps_for PassesOwn.never rfl (pi_list (pv 3)) (pg_tup rfl (pgs_cons (pg_name (i := 4) scParts.nd rfl (.inl rfl)) (pgs_cons (pg_name (i := 5) scParts.nd rfl (.inl rfl)) pgs_nil))) (pss_cons (ps_set (i := 6) scParts.nd rfl (.inl rfl) (pe_methN (pv 1) T.cl mW GW hr bW pass0 (pa_cons (pv 5) (pa_cons (pe_glob (v := .int 200) (by rfl) gLP ⟨_, rfl⟩) pa_nil))))
      (pss_one (ps_if (pt_cmpR op_notN (pv 6) pe_non (nomark _)) (pss_one (ps_ret (pe_tup (pa_cons (pe_ix ix_list (pv 6) pe_int (fun _ _ => rfl)) (pa_cons (pe_tup (pa_cons (pv 4) (pa_cons (pe_callTy call_tuple_of (by rfl) T.tuple (by decide +kernel) (pa_cons (pe_rev0 (pv 6)) pa_nil)) pa_nil))) pa_nil))))) pss_nil))))
      (pss_cons (ps_if (PW.pt (pw_or (pt_cmpR op_gt (pe_op op_add (SlX.pe_sl (pv 1)) (pe_callB call_len (by rfl) T.len PySem.boot_len (pa_cons (pv 3) pa_nil))) (pe_glob (v := .int 4000) (by rfl) gMP ⟨_, rfl⟩) (nomark _)) (pw_or1 (pt_cmpR op_gt (pe_callB call_len (by rfl) T.len PySem.boot_len (pa_cons (pv 3) pa_nil)) (pe_glob (v := .int 60) (by rfl) gMT ⟨_, rfl⟩) (nomark _))))) (pss_one (ps_ret (pe_tup (pa_cons pe_str pa_nil)))) pss_nil)
      (pss_one (ps_ret pe_non))))), ?_⟩
  obtain ⟨wt, hwt, lwt, item⟩ := ht.ex
  refine ⟨_, rfl, tp, _, rfl, Same.seqT J.same hP, rfl, _, _, rfl, _, _, rfl, _, _, rfl, rfl, ?_⟩
  refine ⟨_, rfl, tl, rfl, ⟨_, SqL.of (J.same _ _ hwt)⟩, for_list (K := K) (a := tl) (xs := wt) (fun i σ H' => i = 0 ∧ ∃ (v4 v5 v6 : Option V), σ = [some (.ref tp), some (.ref j.o), some vd, some (.ref tl), v4, v5, v6] ∧ JAt K C G H' j n S m)
    ⟨rfl, none, none, none, rfl, J⟩ (fun i σ H' _ ⟨_, _, _, _, _, J1⟩ => SqL.of (J1.same _ _ hwt)) ?_ ?_⟩
  · rintro i y σ H' hy ⟨rfl, v4, v5, v6, rfl, J3⟩
    obtain ⟨b, v, t2, hb, rfl, hT2, hv⟩ := item 0 y hy
    cases hb
    refine ⟨t2, _, rfl, Same.seqT J3.same hT2, rfl, _, _, rfl, _, _, rfl, rfl, ?_⟩
    have go : ∀ (d : Nat) (a : Addr) (H4 : Hp), Same G H4 → G a = none → H4 a = some (.lst (.str "part" :: List.replicate d (.int 0))) → (∀ H' t t2 t3, Same G H' → H' t = some (.tup [.str "part", .ref t2]) → H' t2 = some (.tup [.str x0, .ref t3]) → H' t3 = some (.tup (List.replicate d (.int 0))) → Q (.ref t) H') →
        ∀ (l1 : Addr) , H4 l1 = none → ∀ l2, upd H4 l1 (.lst (List.replicate d (.int 0)).reverse) l2 = none → ∀ t2, upd (upd H4 l1 (.lst (List.replicate d (.int 0)).reverse)) l2 (.tup (List.replicate d (.int 0)).reverse) t2 = none → ∀ t, upd (upd (upd H4 l1 (.lst (List.replicate d (.int 0)).reverse)) l2 (.tup (List.replicate d (.int 0)).reverse)) t2 (.tup [.str x0, .ref l2]) t = none →
          Q (.ref t) (upd (upd (upd (upd H4 l1 (.lst (List.replicate d (.int 0)).reverse)) l2 (.tup (List.replicate d (.int 0)).reverse)) t2 (.tup [.str x0, .ref l2])) t (.tup [.str "part", .ref t2])) := by
      intro d a H4 s4 na la q l1 n1 l2 n2 t2 n3 t n4
      have s5 := (((Same.new (o := .lst (List.replicate d (.int 0)).reverse) n1).trans (Same.new (o := .tup (List.replicate d (.int 0)).reverse) n2)).trans (Same.new (o := .tup [.str x0, .ref l2]) n3)).trans (Same.new (o := .tup [.str "part", .ref t2]) n4)
      have sA := Same.new (o := .tup [.str x0, .ref l2]) n3
      have sB := Same.new (o := .tup [.str "part", .ref t2]) n4
      refine q _ t t2 l2 (s4.trans s5) upd_same (sB _ _ upd_same) ((sA.trans sB) _ _ ?_)
      rw [upd_same, List.reverse_replicate]
    rcases hbad with ⟨hB, q⟩ | ⟨he, hp, q⟩
    · refine ⟨_, rfl, j.o, j.dx, _, rfl, J3.slt, _, rfl, .inl ⟨G, j, n, m, S, v, e0, rfl, J3, hv, hB, fun H4 a s4 na la => ?_⟩⟩
      refine ⟨_, rfl, rfl, true, rfl, iteT ?_⟩
      exact ⟨_, rfl, a, _, 0, _, rfl, rfl, SqL.of la, atI_nat (j := 0) rfl, _, rfl, _, rfl, a, _, _, rfl, SqL.of la, fun l1 n1 => ⟨l1, _, rfl, .inl ⟨SqL.of upd_same, fun l2 n2 => ⟨by show 2 ≤ sizeLine; decide, fun t2 n3 => ⟨by show 2 ≤ sizeLine; decide, fun t n4 => go 0 a H4 s4 na la q l1 n1 l2 n2 t2 n3 t n4⟩⟩⟩⟩⟩
    · subst he
      refine ⟨_, rfl, j.o, j.dx, _, rfl, J3.slt, _, rfl, .inr ⟨G, j, n, m, S, v, rfl, J3, hv, hp, by decide, fun H4 a s4 na la => ?_⟩⟩
      refine ⟨_, rfl, rfl, true, rfl, iteT ?_⟩
      exact ⟨_, rfl, a, _, 0, _, rfl, rfl, SqL.of la, atI_nat (j := 0) rfl, _, rfl, _, rfl, a, _, _, rfl, SqL.of la, fun l1 n1 => ⟨l1, _, rfl, .inl ⟨SqL.of upd_same, fun l2 n2 => ⟨by show 2 ≤ sizeLine; decide, fun t2 n3 => ⟨by show 2 ≤ sizeLine; decide, fun t n4 => go 201 a H4 s4 na la q l1 n1 l2 n2 t2 n3 t n4⟩⟩⟩⟩⟩
  · rintro σ H' ⟨e, _⟩
    rw [lwt] at e
    cases e
def spJof (K : PySem.W.Frag) (C : Addr) : Sp := fun vs H Q _ => ∃ (tp a dn tl : Addr) (ws : List V) (tops : List Top), vs = [.ref tp] ∧ SqT K H tp [.ref a, .ref dn, .ref tl] ∧ SqL K H a ws ∧ TopsAt K H tl tops ∧ tops.length ≤ 16000000 ∧
  ∀ H' (j : Jo), j.dn = dn → JAt K C H H' j ws.length (putAll [] (tops.map (·.1)) true) 0 → Q (.ref j.o) H'
set_option maxHeartbeats 8000000 in
theorem ok_jof {f fI : Addr} {fd fdI : FuncData} (F : Fun K "judge_of" "judge_of" sJof f fd) (T : TxtJ K w mg C p0 p1 p2 p3 aJ kv) (M : Mk K C fI)
    (GI : FnOk P w K mg base CX0 1 fI fdI ["self", "places", "data", "tops"] (spInit K C)) (bI : Binds K fdI ["self", "places", "data", "tops"] []) :
    FnOk P w K mg base CX0 3 f fd ["program"] (spJof K C) := by
  refine F.ok scJof (fun vs H Q E h => ?_) (fun cdv A outer st H vs Q E hr h => ?_)
  · obtain ⟨tp, a, dn, tl, ws, tops, rfl, _⟩ := h
    rfl
  obtain ⟨tp, a, dn, tl, ws, tops, rfl, hT, hL, ht, hl, q⟩ := h
  refine ⟨_, (pss_cons (ps_asg (pv 0) (pg_tup rfl (pgs_cons (pg_name (i := 1) scJof.nd rfl (.inl rfl)) (pgs_cons (pg_name (i := 2) scJof.nd rfl (.inl rfl)) (pgs_cons (pg_name (i := 3) scJof.nd rfl (.inl rfl)) pgs_nil)))))
      (pss_one (ps_ret (pe_make M GI (hr.mono (by decide)) rfl T.gC bI .nil pass0 (pa_cons (pe_callB call_len (by rfl) T.len PySem.boot_len (pa_cons (pv 1) pa_nil)) (pa_cons (pv 2) (pa_cons (pv 3) pa_nil))))))), ?_⟩
  refine ⟨_, rfl, tp, _, rfl, hT, rfl, _, _, rfl, _, _, rfl, _, _, rfl, rfl, ?_⟩
  refine ⟨_, rfl, _, _, rfl, .inl ⟨_, hL, rfl⟩, _, rfl, _, rfl, fun x dx nx ndx hne => ?_⟩
  exact ⟨H, x, dx, dn, tl, _, tops, rfl, rfl, nx, ndx, hne, ht, hl, fun H' dd J => ⟨rfl, q H' ⟨x, dx, dn, dd⟩ rfl J⟩⟩
theorem FrameAt.imp {H : Hp} {v : V} {Q Q' : VK} (h : FrameAt K H v Q) (hq : ∀ x H', Q x H' → Q' x H') : FrameAt K H v Q' := by
  have tp : ToldP H Q → ToldP H Q' := fun t H' a s e => hq _ _ (t H' a s e)
  cases h with
  | other a q => exact .other a (tp q)
  | len a b c q => exact .len a b c (tp q)
  | kinds a b c d e f q => exact .kinds a b c d e f (tp q)
  | @rows t a tl vd ws wt ds dt bs bt rt e hT h2 ha htl hA hlen hrow hB hlt hlb htop hflag hrl q =>
    refine .rows e hT h2 ha htl hA hlen hrow hB hlt hlb htop hflag hrl ?_
    have tf : ∀ {wd : Str} {r : Option Nat}, toldF H wd r Q → toldF H wd r Q' := fun {wd r} h => by
      cases r with
      | none => exact fun H' s => hq _ _ (h H' s)
      | some k => exact fun H' t s e => hq _ _ (h H' t s e)
    cases hf : firstF bs with
    | none =>
      rw [hf] at q
      exact tf q
    | some k =>
      rw [hf] at q
      exact tf q
/-- a program whose frame is right, by its parts -/
inductive PartsAt (K : PySem.W.Frag) (H : Hp) (v : V) (Q : VK) : Prop
  | right {tp a dn tl : Addr} {ws : List V} {tops : List Top} {D : Str → Nat → Bool} {S' : Nm} {c : Nat} : v = .ref tp → SqT K H tp [.ref a, .ref dn, .ref tl] → SqL K H a ws → TopsAt K H tl tops → tops.length ≤ 16000000 → DataAt K H dn D →
      JdL ws.length D 200 (putAll [] (tops.map (·.1)) true) (tops.map (·.2)) S' c → S'.length ≤ 16000000 →
      (if 4000 < (c : Int) + tops.length ∨ 60 < tops.length then ∀ H' a, Same H H' → H' a = some (.tup [.str "great"]) → Q (.ref a) H' else ∀ H', Same H H' → Q .non H') → PartsAt K H v Q
  | bad {tp a dn tl : Addr} {ws : List V} {x0 : Str} {e0 : PyData} {rest : List Top} : v = .ref tp → SqT K H tp [.ref a, .ref dn, .ref tl] → SqL K H a ws → TopsAt K H tl ((x0, e0) :: rest) → ((x0, e0) :: rest).length ≤ 16000000 → BadTop H ws.length x0 e0 Q → PartsAt K H v Q
def spProg (K : PySem.W.Frag) : Sp := fun vs H Q _ => ∃ v : V, vs = [v] ∧ FrameAt K H v fun x H1 => (x ≠ .non ∧ Q x H1) ∨ (x = .non ∧ PartsAt K H1 v Q)
def spPartsAll (K : PySem.W.Frag) (C : Addr) : Sp := fun vs H Q E => (∃ D, spPartsR K C D vs H Q E) ∨ spPartsB K C vs H Q E
set_option maxHeartbeats 8000000 in
theorem ok_prog {f fFr fPt fJo : Addr} {fd fdFr fdPt fdJo : FuncData} (F : Fun K "program_wrong" "program_wrong" sProg f fd)
    (GFr : FnOk P w K mg base CX0 3 fFr fdFr ["thing"] (spFrame K)) (kFr : PySem.W.keepIn K (.ref fFr) = true) (bFr : Binds K fdFr ["thing"] []) (gFr : mg "frame_wrong" = some (.ref fFr))
    (GPt : FnOk P w K mg base CX0 149 fPt fdPt ["program", "judge"] (spPartsAll K C)) (kPt : PySem.W.keepIn K (.ref fPt) = true) (bPt : Binds K fdPt ["program", "judge"] []) (gPt : mg "parts_wrong" = some (.ref fPt))
    (GJo : FnOk P w K mg base CX0 3 fJo fdJo ["program"] (spJof K C)) (kJo : PySem.W.keepIn K (.ref fJo) = true) (bJo : Binds K fdJo ["program"] []) (gJo : mg "judge_of" = some (.ref fJo)) :
    FnOk P w K mg base CX0 150 f fd ["thing"] (spProg K) := by
  refine F.ok scProg (fun vs H Q E h => ?_) (fun cdv A outer st H vs Q E hr h => ?_)
  · obtain ⟨v, rfl, _⟩ := h
    rfl
  obtain ⟨v, rfl, h⟩ := h
  refine ⟨_, (pss_cons (ps_set (i := 1) scProg.nd rfl (.inl rfl) (pe_call GFr (hr.mono (by decide)) rfl gFr kFr bFr .nil pass0 (pa_cons (pv 0) pa_nil)))
      (pss_one (ps_ret (pe_ifExp (pt_cmpR op_notN (pv 1) pe_non (nomark _)) (pv 1) (pe_call GPt (hr.mono (by decide)) rfl gPt kPt bPt .nil pass0 (pa_cons (pv 0) (pa_cons (pe_call GJo (hr.mono (by decide)) rfl gJo kJo bJo .nil pass0 (pa_cons (pv 0) pa_nil)) pa_nil))))))), ?_⟩
  refine ⟨_, rfl, v, rfl, ?_⟩
  refine FrameAt.imp h fun w1 H1 h1 => ?_
  rcases h1 with ⟨hn, q⟩ | ⟨rfl, q⟩
  · refine ⟨_, rfl, rfl, true, ?_, iteT ⟨_, rfl, q⟩⟩
    rw [decide_eq_false hn]
    rfl
  · refine ⟨_, rfl, rfl, false, rfl, iteF ?_⟩
    cases q with
    | @right tp a dn tl ws tops D S' c e hT hL ht hl hD hj hS q =>
      subst e
      refine ⟨_, rfl, _, rfl, tp, a, dn, tl, ws, tops, rfl, hT, hL, ht, hl, fun H2 j ej J => ?_⟩
      subst ej
      refine .inl ⟨D, H1, j, _, _, _, S', tp, tl, _, _, tops, c, rfl, J, hD, hT, ht, hj, hS, ?_⟩
      rw [Int.zero_add]
      exact q
    | @bad tp a dn tl ws x0 e0 rest e hT hL ht hl hb =>
      subst e
      refine ⟨_, rfl, _, rfl, tp, a, dn, tl, ws, _, rfl, hT, hL, ht, hl, fun H2 j ej J => ?_⟩
      subst ej
      exact .inr ⟨H1, j, _, _, _, tp, tl, _, _, x0, e0, rest, rfl, J, hT, ht, hb⟩
end
end J45

set_option Elab.async false
set_option maxRecDepth 100000
/-! the law's numbers -/
namespace J45
open PySem PySem.Spec PyProof.Rows L2 Hx Xr RN
abbrev sAt : Stmt := top 50
abbrev sMixed : Stmt := top 51
abbrev sPurse : Stmt := top 52
abbrev sDraw : Stmt := top 53
section
variable {P : Program} {w : World} {K : PySem.W.Frag} {mg : Str → Option Value} {base : Heap}
/-- what the law draws from: the purse at a, the own dict at o; G is the heap without both -/
structure PuAt (G H : Hp) (a o : Addr) (n k : Int) : Prop where
  same : Same G H
  ga : G a = none
  go : G o = none
  ne : a ≠ o
  pu : ∃ x c : Int, H a = some (.lst [.int x, .int c, .int n]) ∧ 0 ≤ x ∧ 0 ≤ c ∧ c < 2147483647
  n0 : 0 ≤ n
  ow : H o = some (.dK [(.inr "k", .int k)])
theorem PuAt.none {G H : Hp} {a o : Addr} {n k : Int} {T : Addr} (J : PuAt G H a o n k) (h : H T = none) : G T = none := by
  cases e : G T with
  | none => rfl
  | some u => rw [J.same _ _ e] at h; cases h
theorem PuAt.grow {G H : Hp} {a o : Addr} {n k : Int} {T : Addr} {u : HO} (J : PuAt G H a o n k) (h : H T = Option.none) : PuAt (upd G T u) (upd H T u) a o n k := by
  obtain ⟨x, c, hp, hx⟩ := J.pu
  have na : a ≠ T := fun z => by rw [← z, hp] at h; cases h
  have no : o ≠ T := fun z => by rw [← z, J.ow] at h; cases h
  refine ⟨fun b v e => ?_, (upd_ne na).trans J.ga, (upd_ne no).trans J.go, J.ne, ⟨x, c, (upd_ne na).trans hp, hx⟩, J.n0, (upd_ne no).trans J.ow⟩
  by_cases c : b = T
  · subst c
    rw [upd_same] at e ⊢
    exact e
  · rw [upd_ne c] at e ⊢
    exact J.same _ _ e
theorem PuAt.setP {G H : Hp} {a o : Addr} {n n' k x' c' : Int} (J : PuAt G H a o n k) (x0 : 0 ≤ x') (c0 : 0 ≤ c') (c1 : c' < 2147483647) (n0 : 0 ≤ n') : PuAt G (upd H a (.lst [.int x', .int c', .int n'])) a o n' k :=
  ⟨Same.upd J.same J.ga, J.ga, J.go, J.ne, ⟨x', c', upd_same, x0, c0, c1⟩, n0, (upd_ne J.ne.symm).trans J.ow⟩
def spMixed : Sp := fun vs H Q _ => ∃ (c k : Int), vs = [.int c, .int k] ∧ 0 ≤ c ∧ c < 2147483647 ∧ 0 ≤ k ∧ k ≤ 100000000 ∧ ∀ m : Int, 0 ≤ m → m < 2147483587 → Q (.int m) H
theorem scMx : FnScope ["_law_cell", "_law_k", "_law_number"] ["_law_cell", "_law_k"] (defScope sMixed) := ⟨rfl, rfl, rfl, by decide +kernel, rfl, by decide +kernel, by decide +kernel⟩
theorem scPu : FnScope ["_law_script", "_law_at_here", "_law_cell"] ["_law_script", "_law_at_here"] (defScope sPurse) := ⟨rfl, rfl, rfl, by decide +kernel, rfl, by decide +kernel, by decide +kernel⟩
theorem scDr : FnScope ["_law_purse_here", "_law_out_of", "_law_drawn", "_law_number", "_law_k"] ["_law_purse_here", "_law_out_of"] (defScope sDraw) := ⟨rfl, rfl, rfl, by decide +kernel, rfl, by decide +kernel, by decide +kernel⟩
theorem ok_mixed {f : Addr} {fd : FuncData} (F : Fun K "_law_mixed" "_law_mixed" sMixed f fd) : FnOk P w K mg base CX0 1 f fd ["_law_cell", "_law_k"] spMixed := by
  refine F.ok scMx (fun vs H Q E h => ?_) (fun cdv A outer s H vs Q E hr h => ?_)
  · obtain ⟨c, k, rfl, _⟩ := h
    rfl
  obtain ⟨c, k, rfl, c0, c1, h0, h1, q⟩ := h
  refine ⟨_, (pss_cons (ps_set (i := 2) scMx.nd rfl (.inl rfl) (pe_op op_mod (pe_op op_add (pe_op op_add (pe_op op_add (pe_op op_mul (pv 0) pe_int) (pe_op op_mul (pe_op op_mul pe_int (pv 1)) (pv 1))) (pv 1)) pe_int) pe_int))
      (pss_cons (ps_set (i := 2) scMx.nd rfl (.inl rfl) (pe_op op_mod (pe_op op_add (pe_op op_mul (pv 2) (pv 2)) pe_int) pe_int))
      (pss_one (ps_ret (pe_op op_mod (pe_op op_mul (pv 2) pe_int) pe_int))))), ?_⟩
  refine ⟨_, rfl, _, _, rfl, rfl, .inr ⟨by decide, by decide⟩, _, rfl, _, _, rfl, rfl, .inl ⟨by decide, by decide⟩, _, rfl, _, _, rfl, rfl, .inr ⟨by omega, by omega⟩, _, _, rfl, rfl, _, rfl, _, _, rfl, rfl, _, _, rfl, rfl, _, _, rfl, rfl, by show (0 : Int) < _; decide, ?_⟩
  have n0 := Int.emod_nonneg (c * 1103515245 + 7919 * k * k + k + 1) (show (2147483647 : Int) ≠ 0 by decide)
  have n1 := Int.emod_lt_of_pos (c * 1103515245 + 7919 * k * k + k + 1) (show (0 : Int) < 2147483647 by decide)
  dsimp only [tRet, tSeq, tAsg, gName, tOp, tVar, List.set]
  generalize (c * 1103515245 + 7919 * k * k + k + 1) % 2147483647 = N at n0 n1 ⊢
  refine ⟨_, rfl, _, rfl, _, _, rfl, rfl, .inl ⟨by omega, by omega⟩, _, _, rfl, rfl, _, _, rfl, rfl, by show (0 : Int) < _; decide, ?_⟩
  have m0 := Int.emod_nonneg (N * N + 69621) (show (2147483629 : Int) ≠ 0 by decide)
  have m1 := Int.emod_lt_of_pos (N * N + 69621) (show (0 : Int) < 2147483629 by decide)
  dsimp only [tRet, tSeq, tAsg, gName, tOp, tVar, List.set]
  generalize (N * N + 69621) % 2147483629 = M at m0 m1 ⊢
  refine ⟨_, rfl, _, _, rfl, rfl, .inr ⟨by decide, by decide⟩, _, _, rfl, rfl, by show (0 : Int) < _; decide, ?_⟩
  exact q _ (Int.emod_nonneg _ (by decide)) (Int.emod_lt_of_pos _ (by decide))
def spAt (K : PySem.W.Frag) : Sp := fun vs H Q _ => ∃ (a : Addr) (ns : List Int) (k : Nat), vs = [.ref a, .int k] ∧ SqL K H a (ns.map V.int) ∧ ∀ z : Int, Q (.int z) H
def spPurse (K : PySem.W.Frag) : Sp := fun vs H Q _ => ∃ (a : Addr) (ns : List Int) (k : Nat), vs = [.ref a, .int k] ∧ SqL K H a (ns.map V.int) ∧ k ≤ 1000 ∧ ∀ (p : Addr) (x c : Int), H p = none → 0 ≤ x → 0 ≤ c → c < 2147483647 → Q (.ref p) (upd H p (.lst [.int x, .int c, .int (1000 * k)]))
theorem ok_purse {f fAt : Addr} {fd fdAt : FuncData} (F : Fun K "_law_purse" "_law_purse" sPurse f fd) (gMax : mg "max" = none)
    (GAt : FnOk P w K mg base CX0 1 fAt fdAt ["_law_script", "_law_k"] (spAt K)) (kAt : PySem.W.keepIn K (.ref fAt) = true) (bAt : Binds K fdAt ["_law_script", "_law_k"] []) (gAt : mg "_law_at" = some (.ref fAt)) :
    FnOk P w K mg base CX0 2 f fd ["_law_script", "_law_at_here"] (spPurse K) := by
  refine F.ok scPu (fun vs H Q E h => ?_) (fun cdv A outer s H vs Q E hr h => ?_)
  · obtain ⟨a, ns, k, rfl, _⟩ := h
    rfl
  obtain ⟨a, ns, k, rfl, hL, hk, q⟩ := h
  refine ⟨_, (pss_cons (ps_set (i := 2) scPu.nd rfl (.inl rfl) (pe_call GAt (hr.mono (by decide)) rfl gAt kAt bAt .nil pass0 (pa_cons (pv 0) (pa_cons (pv 1) pa_nil))))
      (pss_one (ps_ret (pe_lst (pa_cons (pe_op op_mod (pe_callB (call_max2 rfl) (by rfl) gMax PyProof.Rows.boot_max (pa_cons (pe_op op_sub (pv 2) (pe_op op_pow pe_int pe_int)) (pa_cons pe_int pa_nil))) (pe_op op_powW (pe_op op_pow pe_int pe_int) pe_int)) (pa_cons (pe_op op_mod (pv 2) pe_int) (pa_cons (pe_op op_mul pe_int (pv 1)) pa_nil))))))), ?_⟩
  refine ⟨_, rfl, _, rfl, a, ns, k, rfl, hL, fun z => ?_⟩
  refine ⟨_, rfl, _, _, rfl, rfl, ⟨by decide, by decide, by decide⟩, _, _, rfl, rfl, _, _, rfl, _, _, rfl, rfl, ⟨by decide, by decide, by decide⟩, _, _, rfl, rfl, ⟨by decide, by decide +kernel⟩, _, _, rfl, rfl, by show (0 : Int) < _; decide +kernel, _, rfl, _, _, rfl, rfl, by show (0 : Int) < _; decide, _, rfl, _, _, rfl, rfl, .inl ⟨by decide, by decide⟩, by show 3 ≤ sizeLine; decide, fun p np => ?_⟩
  exact q p _ _ np (Int.emod_nonneg _ (by decide +kernel)) (Int.emod_nonneg _ (by decide)) (Int.emod_lt_of_pos _ (by decide))
def spDraw : Sp := fun vs H Q _ => ∃ (G : Hp) (a o : Addr) (s n k : Int), vs = [.ref a, .int s] ∧ 1 ≤ s ∧ s < 536870912 ∧ PuAt G H a o n k ∧ n ≤ 50000000 ∧ ∀ (j : Nat) (n' : Int) (H' : Hp), (j : Int) < s → n' ≤ n + 1 → PuAt G H' a o n' k → Q (.int (j : Int)) H'
theorem ok_draw {f fM : Addr} {fd fdM : FuncData} (F : Fun K "_law_draw" "_law_draw" sDraw f fd) (gRa : mg "range" = none)
    (GM : FnOk P w K mg base CX0 1 fM fdM ["_law_cell", "_law_k"] spMixed) (kM : PySem.W.keepIn K (.ref fM) = true) (bM : Binds K fdM ["_law_cell", "_law_k"] []) (gM : mg "_law_mixed" = some (.ref fM)) :
    FnOk P w K mg base CX0 2 f fd ["_law_purse_here", "_law_out_of"] spDraw := by
  refine F.ok scDr (fun vs H Q E h => ?_) (fun cdv A outer st H vs Q E hr h => ?_)
  · obtain ⟨G, a, o, s, n, k, rfl, _⟩ := h
    rfl
  obtain ⟨G, a, o, s, n, k, rfl, s1, s2, J, n1, q⟩ := h
  refine ⟨_, (pss_cons (ps_if (pt_cmpR op_gt (pe_ix ix_list (pv 0) pe_int (fun _ _ => rfl)) pe_int (nomark _)) (pss_cons (ps_set (i := 2) scDr.nd rfl (.inl rfl) (pe_op op_mod (pe_ix ix_list (pv 0) pe_int (fun _ _ => rfl)) (pv 1)))
      (pss_cons (ps_asg (pe_op op_fdiv (pe_ix ix_list (pv 0) pe_int (fun _ _ => rfl)) (pv 1)) (pg_sub (pv 0) pe_int set_list))
      (pss_one (ps_ret (pv 2))))) pss_nil)
      (pss_cons (ps_set (i := 3) scDr.nd rfl (.inl rfl) pe_int)
      (pss_cons (ps_for PassesOwn.never rfl (pi_range1 (by rfl) gRa (pa_cons (pe_op op_add pe_int (pe_op op_fdiv (pe_bits (pv 1)) pe_int)) pa_nil)) (pg_name (i := 4) scDr.nd rfl (.inl rfl)) (pss_cons (ps_asg (pe_op op_add (pe_ix ix_list (pv 0) pe_int (fun _ _ => rfl)) pe_int) (pg_sub (pv 0) pe_int set_list))
      (pss_one (ps_set (i := 3) scDr.nd rfl (.inl rfl) (pe_op op_add (pe_op op_mul (pv 3) pe_int) (pe_call GM (hr.mono (by decide)) rfl gM kM bM .nil pass0 (pa_cons (pe_ix ix_list (pv 0) pe_int (fun _ _ => rfl)) (pa_cons (pe_ix ix_list (pv 0) pe_int (fun _ _ => rfl)) pa_nil))))))))
      (pss_one (ps_ret (pe_op op_mod (pv 3) (pv 1))))))), ?_⟩
  obtain ⟨x, c, hp, x0, c0, c1⟩ := J.pu
  have n0 := J.n0
  have fin : ∀ (N : Int) (n' : Int) (H' : Hp), 0 ≤ N → n' ≤ n + 1 → PuAt G H' a o n' k → Q (.int (N % s)) H' := by
    intro N n' H' N0 hn J'
    obtain ⟨j, hj⟩ := Int.eq_ofNat_of_zero_le (Int.emod_nonneg N (show s ≠ 0 by omega))
    rw [hj]
    refine q j n' H' ?_ hn J'
    rw [← hj]
    exact Int.emod_lt_of_pos _ (by omega)
  refine ⟨_, rfl, a, _, 0, _, rfl, rfl, SqL.of hp, atI_nat (j := 0) rfl, _, _, rfl, rfl, _, rfl, ?_⟩
  refine ite2 (fun h => ?_) (fun h => ?_)
  · refine ⟨_, rfl, a, _, 0, _, rfl, rfl, SqL.of hp, atI_nat (j := 0) rfl, _, rfl, _, _, rfl, rfl, by omega, ?_⟩
    refine ⟨_, rfl, a, _, 0, _, rfl, rfl, SqL.of hp, atI_nat (j := 0) rfl, _, rfl, _, _, rfl, rfl, ⟨by omega, by omega⟩, _, rfl, a, _, 0, 0, rfl, rfl, hp, rfl, _, rfl, ?_⟩
    exact fin x n _ x0 (by omega) (J.setP (Int.ediv_nonneg x0 (by omega)) c0 c1 n0)
  · have hb : Builtin.Int.intBits s ≤ 29 := PyProof.Rows.intBits_le (k := 29) (by omega)
    have hb0 : ((Builtin.Int.intBits s : Nat) : Int) / 30 = 0 := by omega
    refine ⟨_, rfl, s, rfl, _, _, rfl, rfl, ⟨by decide, by decide⟩, _, _, rfl, rfl, 1, by rw [hb0]; rfl, by decide, by decide, for_range (lo := 0) (n := 1) (fun i σ H' => ∃ (v4 : Option V) (num n' : Int), σ = [some (.ref a), some (.int s), none, some (.int num), v4] ∧ 0 ≤ num ∧ PuAt G H' a o n' k ∧ n' ≤ n + i) ⟨none, 0, n, rfl, by decide, J, by omega⟩ ?_ ?_⟩
    · rintro i σ H' hi ⟨v4, num, n', rfl, u0, J1, hn'⟩
      obtain ⟨x, c, hp, x0, c0, c1⟩ := J1.pu
      have m0 := J1.n0
      refine ⟨_, rfl, a, _, 2, _, rfl, rfl, SqL.of hp, atI_nat (j := 2) rfl, _, _, rfl, rfl, _, rfl, a, _, 2, 2, rfl, rfl, hp, rfl, ?_⟩
      refine ⟨_, rfl, _, _, rfl, rfl, .inr ⟨by decide, by decide⟩, _, rfl, a, _, 1, _, rfl, rfl, SqL.of upd_same, atI_nat (j := 1) rfl, _, rfl, a, _, 2, _, rfl, rfl, SqL.of upd_same, atI_nat (j := 2) rfl, c, n' + 1, rfl, c0, c1, by omega, by omega, fun m m0 m1 => ⟨_, _, rfl, rfl, ?_⟩⟩
      exact ⟨_, _, n' + 1, rfl, by omega, J1.setP x0 c0 c1 (by omega), by omega⟩
    · rintro σ H' ⟨v4, num, n', rfl, u0, J1, hn'⟩
      exact ⟨_, rfl, _, rfl, _, _, rfl, rfl, by omega, fin num n' _ u0 hn' J1⟩
end
end J45

set_option Elab.async false
set_option maxRecDepth 100000
/-! what the law grows is judged right: names by their numbers -/
namespace J45
open PySem PySem.Spec PyProof.Rows L2 Hx Xr RN
theorem getN_put (S : Nm) (x y : Str) (b : Bool) : getN (putN S x b) y = if y = x then some b else getN S y := by
  have h1 := nmK_get (putN S x b) y
  have h2 := nmK_get S y
  rw [← nmK_put] at h1
  have h3 := valV_put (nmK S) (.inr x) (.inr y) (.bl b)
  rw [h3] at h1
  by_cases c : y = x
  · subst c
    rw [if_pos rfl] at h1 ⊢
    cases e : getN (putN S y b) y with
    | none => rw [e] at h1; cases h1
    | some u =>
      rw [e] at h1
      have h4 : V.bl b = V.bl u := Option.some.inj h1
      injection h4 with h4
      rw [h4]
  · have ne : ¬ (Sum.inr y : Key) = Sum.inr x := fun z => c (by injection z)
    rw [if_neg ne, h2] at h1
    rw [if_neg c]
    have inj : ∀ {a b : Option Bool}, a.map V.bl = b.map V.bl → a = b := by
      intro a b h
      cases a <;> cases b <;> simp_all
    exact (inj h1).symm
theorem getN_all : ∀ (xs : List Str) (S : Nm) (y : Str) (b : Bool), getN (putAll S xs b) y = if y ∈ xs then some b else getN S y
  | [], S, y, b => by simp [putAll]
  | x :: xs, S, y, b => by
    have ih := getN_all xs (putN S x b) y b
    show getN (putAll (putN S x b) xs b) y = _
    rw [ih, getN_put]
    by_cases c1 : y ∈ xs
    · rw [if_pos c1, if_pos (List.mem_cons_of_mem _ c1)]
    · rw [if_neg c1]
      by_cases c2 : y = x
      · rw [if_pos c2, if_pos (by rw [c2]; exact List.mem_cons_self ..)]
      · rw [if_neg c2, if_neg (by rw [List.mem_cons]; exact fun h => h.elim c2 c1)]
theorem putN_old {S : Nm} {x : Str} {b : Bool} (h : (getN S x).isSome = true) : (putN S x b).length ≤ S.length := by
  rw [getN_mem] at h
  unfold putN
  rw [if_pos h, List.length_map]
  exact Nat.le_refl _
/-- a name's number: the figures behind its letters -/
def idVal (r : List Nat) : Nat := (r.takeWhile fun c => !decide (c = 46)).foldl (fun n c => 10 * n + (c - 48)) 0
def idx (z : Str) : Nat := match z.cps.toList with
  | 118 :: r => idVal r
  | 97 :: 98 :: r => idVal r
  | 122 :: 57 :: r => idVal r
  | _ => 0
/-- judged right, whatever names stand around, as long as those of its own are new -/
structure Gr (n : Int) (D : Str → Nat → Bool) (ar : List Str) (lo hi cb nb d : Nat) (e : PyData) : Prop where
  le : lo ≤ hi
  run : ∀ (L : Nat) (S : Nm), d ≤ L → (∀ x ∈ ar, getN S x = some true) → (∀ x, lo < idx x → idx x ≤ hi → getN S x = none) →
    ∃ (S' : Nm) (c : Nat), Jd n D L S e S' c ∧ (∀ x, (lo < idx x → hi < idx x) → getN S' x = getN S x) ∧ c ≤ cb ∧ S'.length ≤ S.length + nb
section
variable {n : Int} {D : Str → Nat → Bool} {ar : List Str} {lo hi cb nb d : Nat} {e : PyData}
theorem Gr.mono {lo' hi' cb' nb' d' : Nat} (h : Gr n D ar lo hi cb nb d e) (h1 : lo' ≤ lo) (h2 : hi ≤ hi') (h3 : cb ≤ cb') (h4 : nb ≤ nb') (h5 : d ≤ d') : Gr n D ar lo' hi' cb' nb' d' e := by
  refine ⟨Nat.le_trans h1 (Nat.le_trans h.le h2), fun L S hd ha hf => ?_⟩
  obtain ⟨S', c, a, b, c1, l⟩ := h.run L S (Nat.le_trans h5 hd) ha fun x k1 k2 => hf x (by omega) (by omega)
  exact ⟨S', c, a, fun x hx => b x (fun k => by omega), by omega, by omega⟩
def AtomG (n : Int) (ar : List Str) (e : PyData) : Prop := (∃ (p : Int) (x : Str), inP n p = true ∧ x ∈ ar ∧ e = .tuple [.str "name", .int p, .str x]) ∨ ∃ p i : Int, inP n p = true ∧ numB big (.int i) = true ∧ e = .tuple [.str "num", .int p, .int i]
theorem AtomG.j {S : Nm} (h : AtomG n ar e) (ha : ∀ x ∈ ar, getN S x = some true) : AtomJ n S e := by
  rcases h with ⟨p, x, hp, hx, rfl⟩ | ⟨p, i, hp, hi, rfl⟩
  · exact .name hp (ha x hx)
  · exact .num hp hi
theorem Gr.atom (h : AtomG n ar e) : Gr n D ar lo lo 0 0 0 e :=
  ⟨Nat.le_refl _, fun L S _ ha _ => ⟨S, 0, .atom (h.j ha), fun _ _ => rfl, Nat.le_refl _, Nat.le_refl _⟩⟩
theorem Gr.fault {p : Int} {x : Str} (hp : inP n p = true) (hx : plainB x = true) (hl : x.length ≤ 1000) : Gr n D ar lo lo 0 0 0 (.tuple [.str "fault", .int p, .str x]) :=
  ⟨Nat.le_refl _, fun L S _ ha _ => ⟨S, 0, .fault hp hx hl, fun _ _ => rfl, Nat.le_refl _, Nat.le_refl _⟩⟩
theorem Gr.con {p : Int} {m : Str} {as : List PyData} (hp : inP n p = true) (hl : as.length ≤ 60) (h : ∀ a ∈ as, AtomG n ar a) (hd : D m as.length = true) : Gr n D ar lo lo 0 0 0 (.tuple [.str "con", .int p, .str m, .tuple as]) :=
  ⟨Nat.le_refl _, fun L S _ ha _ => ⟨S, 0, .con hp hl (fun a k => (h a k).j ha) hd, fun _ _ => rfl, Nat.le_refl _, Nat.le_refl _⟩⟩
theorem Gr.call {p q : Int} {x : Str} {as : List PyData} (hp : inP n p = true) (hne : as ≠ []) (hl : as.length ≤ 60) (h : ∀ a ∈ as, AtomG n ar a) (hq : inP n q = true) (hx : x ∈ ar) : Gr n D ar lo lo 0 0 1 (.tuple [.str "call", .int p, .tuple [.str "name", .int q, .str x], .tuple as]) := by
  refine ⟨Nat.le_refl _, fun L S hd ha _ => ?_⟩
  obtain ⟨L', rfl⟩ : ∃ L', L = L' + 1 := ⟨L - 1, by omega⟩
  exact ⟨S, 0, .call hp hne hl (fun a k => (h a k).j ha) hq (ha x hx), fun _ _ => rfl, Nat.le_refl _, Nat.le_refl _⟩
theorem Gr.now {p q : Int} {x : Str} (hp : inP n p = true) (hq : inP n q = true) (hx : nameB x = true) (hl : x.length ≤ 1000) (h : Gr n D ar lo hi cb nb d e) : Gr n D ar lo hi (cb + 1) nb (d + 1) (.tuple [.str "now", .int p, .int q, .str x, e]) := by
  refine ⟨h.le, fun L S hd ha hf => ?_⟩
  obtain ⟨L', rfl⟩ : ∃ L', L = L' + 1 := ⟨L - 1, by omega⟩
  obtain ⟨S', c, a, b, c1, l⟩ := h.run L' S (by omega) ha hf
  exact ⟨S', c + 1, .now hp hq hx hl a, b, by omega, l⟩
theorem Gr.deed {p : Int} {w : Str} {e2 : PyData} {mid cb2 nb2 : Nat} (hp : inP n p = true) (hw : w ∈ (["plus", "less", "times", "below", "same"] : List Str)) (h1 : Gr n D ar lo mid cb nb d e) (h2 : Gr n D ar mid hi cb2 nb2 d e2) (har : ∀ x ∈ ar, idx x ≤ lo) :
    Gr n D ar lo hi (cb + cb2 + 2) (nb + nb2) (d + 1) (.tuple [.str "deed", .int p, .str w, e, e2]) := by
  refine ⟨Nat.le_trans h1.le h2.le, fun L S hd ha hf => ?_⟩
  have l1 := h1.le
  have l2 := h2.le
  obtain ⟨L', rfl⟩ : ∃ L', L = L' + 1 := ⟨L - 1, by omega⟩
  obtain ⟨S1, c, a, b, c1, l⟩ := h1.run L' S (by omega) ha fun x k1 k2 => hf x k1 (by omega)
  obtain ⟨S2, c', a', b', c1', l'⟩ := h2.run L' S1 (by omega) (fun x hx => by rw [b x (fun k => by have := har x hx; omega)]; exact ha x hx) fun x k1 k2 => by rw [b x (fun _ => k1)]; exact hf x (by omega) k2
  exact ⟨S2, c + c' + 2, .deed hp hw a a', fun x hx => by rw [b' x (fun k => hx (by omega)), b x (fun k => by have := hx k; omega)], by omega, by omega⟩
theorem Gr.early {p q : Int} {x : Str} {e2 : PyData} {m0 mid cb2 nb2 : Nat} (hp : inP n p = true) (hq : inP n q = true) (hx : nameB x = true) (hl : x.length ≤ 1000) (har : ∀ y ∈ ar, idx y ≤ lo) (hxl : lo < idx x) (hxm : idx x ≤ m0) (h1 : Gr n D ar m0 mid cb nb d e) (h2 : Gr n D (ar ++ [x]) mid hi cb2 nb2 d e2) :
    Gr n D ar lo hi (cb + cb2 + 2) (nb + nb2 + 1) (d + 1) (.tuple [.str "early", .int p, .str x, e, .int q, e2]) := by
  have l1 := h1.le
  have l2 := h2.le
  refine ⟨by omega, fun L S hd ha hf => ?_⟩
  obtain ⟨L', rfl⟩ : ∃ L', L = L' + 1 := ⟨L - 1, by omega⟩
  have hn : getN S x = none := hf x hxl (by omega)
  have nx : ∀ y ∈ ar, y ≠ x := fun y hy z => by have := har y hy; rw [z] at this; omega
  obtain ⟨S1, c, a, b, c1, l⟩ := h1.run L' (putN S x false) (by omega) (fun y hy => by rw [getN_put, if_neg (nx y hy)]; exact ha y hy) fun y k1 k2 => by
    rw [getN_put, if_neg (fun z => by rw [z] at k1; omega)]
    exact hf y (by omega) (by omega)
  obtain ⟨S2, c', a', b', c1', l'⟩ := h2.run L' (putN S1 x true) (by omega) (fun y hy => by
    rcases List.mem_append.mp hy with hy | hy
    · rw [getN_put, if_neg (nx y hy), b y (fun k => by have := har y hy; omega), getN_put, if_neg (nx y hy)]
      exact ha y hy
    · rw [List.mem_singleton.mp hy, getN_put, if_pos rfl]) fun y k1 k2 => by
    rw [getN_put, if_neg (fun z => by rw [z] at k1; omega), b y (fun _ => k1), getN_put, if_neg (fun z => by rw [z] at k1; omega)]
    exact hf y (by omega) k2
  have g1 := putN_len S x false
  have g3 : (putN S1 x true).length ≤ S1.length := putN_old (by rw [b x (fun k => by omega), getN_put, if_pos rfl]; rfl)
  have g4 : (putN S2 x false).length ≤ S2.length := putN_old (by rw [b' x (fun k => by omega), getN_put, if_pos rfl]; rfl)
  refine ⟨putN S2 x false, c + c' + 2, .early hp hq hn hx hl a a', fun y hy => ?_, by omega, by omega⟩
  have ny : y ≠ x := fun z => by rw [z] at hy; have := hy hxl; omega
  rw [getN_put, if_neg ny, b' y (fun k => hy (by omega)), getN_put, if_neg ny, b y (fun k => by have := hy (by omega); omega), getN_put, if_neg ny]
end
end J45

set_option Elab.async false
set_option maxRecDepth 100000
/-! fun, let, case of what the law grows -/
namespace J45
open PySem PySem.Spec PyProof.Rows L2 Hx Xr RN
section
variable {n : Int} {D : Str → Nat → Bool} {ar : List Str} {lo hi cb nb d : Nat} {e : PyData}
theorem bnd_all {b : Bool} : ∀ {xs : List Str} {S : Nm}, xs.Nodup → (∀ x ∈ xs, getN S x = none ∧ nameB x = true ∧ x.length ≤ 1000) → Bnd b S xs (putAll S xs b)
  | [], S, _, _ => .nil
  | x :: xs, S, hd, h => by
    obtain ⟨h1, h2, h3⟩ := h x (List.mem_cons_self ..)
    have hd' := List.nodup_cons.mp hd
    refine .cons h1 h2 h3 (bnd_all hd'.2 fun y hy => ?_)
    obtain ⟨k1, k2, k3⟩ := h y (List.mem_cons_of_mem _ hy)
    refine ⟨?_, k2, k3⟩
    rw [getN_put, if_neg (fun z : y = x => hd'.1 (by rw [← z]; exact hy))]
    exact k1
theorem putAll_old : ∀ {xs : List Str} {S : Nm} {b : Bool}, (∀ x ∈ xs, (getN S x).isSome = true) → (putAll S xs b).length ≤ S.length
  | [], _, _, _ => Nat.le_refl _
  | x :: xs, S, b, h => by
    refine Nat.le_trans (putAll_old (xs := xs) (S := putN S x b) fun y hy => ?_) (putN_old (h x (List.mem_cons_self ..)))
    rw [getN_put]
    split
    · rfl
    · exact h y (List.mem_cons_of_mem _ hy)
theorem Gr.func {p : Int} {xs : List Str} {m0 : Nat} (hp : inP n p = true) (hne : xs ≠ []) (hxl : xs.length ≤ 60) (hnd : xs.Nodup) (hx : ∀ x ∈ xs, lo < idx x ∧ idx x ≤ m0 ∧ nameB x = true ∧ x.length ≤ 1000) (hlo : lo ≤ m0) (har : ∀ y ∈ ar, idx y ≤ lo)
    (h : Gr n D (ar ++ xs) m0 hi cb nb d e) : Gr n D ar lo hi (cb + 1) (nb + xs.length) (d + 1) (.tuple [.str "fun", .int p, .tuple (xs.map PyData.str), e]) := by
  have l1 := h.le
  refine ⟨by omega, fun L S hd ha hf => ?_⟩
  obtain ⟨L', rfl⟩ : ∃ L', L = L' + 1 := ⟨L - 1, by omega⟩
  have nx : ∀ y ∈ ar, y ∉ xs := fun y hy z => by have := har y hy; have := (hx y z).1; omega
  obtain ⟨S1, c, a, b, c1, l⟩ := h.run L' (putAll S xs true) (by omega) (fun y hy => by
    rw [getN_all]
    rcases List.mem_append.mp hy with hy | hy
    · rw [if_neg (nx y hy)]
      exact ha y hy
    · rw [if_pos hy]) fun y k1 k2 => by
    rw [getN_all, if_neg (fun z => by have := (hx y z).2.1; omega)]
    exact hf y (by omega) k2
  have g1 := putAll_le xs S true
  have g2 : (putAll S1 xs false).length ≤ S1.length := putAll_old fun x hxx => by
    rw [b x (fun k => by have := (hx x hxx).2.1; omega), getN_all, if_pos hxx]
    rfl
  refine ⟨putAll S1 xs false, c + 1, .func hp hne hxl (bnd_all hnd fun x hxx => ⟨hf x (hx x hxx).1 (by have := (hx x hxx).2.1; omega), (hx x hxx).2.2⟩) a, fun y hy => ?_, by omega, by omega⟩
  have ny : y ∉ xs := fun z => by have := hx y z; have := hy this.1; omega
  rw [getN_all, if_neg ny, b y (fun k => hy (by omega)), getN_all, if_neg ny]
/-- several parts, one behind the other, the names xs around them all -/
inductive GrL (n : Int) (D : Str → Nat → Bool) (ar xs : List Str) (d : Nat) : Nat → Nat → Nat → Nat → List PyData → Prop
  | nil {lo : Nat} : GrL n D ar xs d lo lo 0 0 []
  | cons {lo mid hi cb nb cb2 nb2 : Nat} {e : PyData} {es : List PyData} : Gr n D (ar ++ xs) lo mid cb nb d e → GrL n D ar xs d mid hi cb2 nb2 es → GrL n D ar xs d lo hi (cb + cb2) (nb + nb2) (e :: es)
theorem GrL.le {xs : List Str} {es : List PyData} (h : GrL n D ar xs d lo hi cb nb es) : lo ≤ hi := by
  induction h with
  | nil => exact Nat.le_refl _
  | cons h1 _ ih => exact Nat.le_trans h1.le ih
theorem GrL.run {xs : List Str} {es : List PyData} (h : GrL n D ar xs d lo hi cb nb es) : ∀ (L : Nat) (S : Nm), d ≤ L → (∀ x ∈ ar ++ xs, idx x ≤ lo) → (∀ x ∈ ar ++ xs, getN S x = some true) → (∀ x, lo < idx x → idx x ≤ hi → getN S x = none) →
    ∃ (S' : Nm) (c : Nat), JdL n D L S es S' c ∧ (∀ x, (lo < idx x → hi < idx x) → getN S' x = getN S x) ∧ c ≤ cb ∧ S'.length ≤ S.length + nb := by
  induction h with
  | nil => exact fun L S _ _ _ _ => ⟨S, 0, .nil, fun _ _ => rfl, Nat.le_refl _, Nat.le_refl _⟩
  | @cons lo mid hi cb nb cb2 nb2 e es h1 h2 ih =>
    intro L S hd hx ha hf
    have l1 := h1.le
    have l2 := h2.le
    obtain ⟨S1, c, a, b, c1, l⟩ := h1.run L S hd ha fun x k1 k2 => hf x k1 (by omega)
    obtain ⟨S2, c', a', b', c1', l'⟩ := ih L S1 hd (fun x hxx => by have := hx x hxx; omega) (fun x hxx => by rw [b x (fun k => by have := hx x hxx; omega)]; exact ha x hxx) fun x k1 k2 => by rw [b x (fun _ => k1)]; exact hf x (by omega) k2
    exact ⟨S2, c + c', .cons a a', fun x hxx => by rw [b' x (fun k => hxx (by omega)), b x (fun k => by have := hxx k; omega)], by omega, by omega⟩
theorem Gr.lets {p : Int} {bs : List (Str × PyData)} {m0 : Nat} (hp : inP n p = true) (hne : bs ≠ []) (hxl : bs.length ≤ 60) (hnd : (bs.map (·.1)).Nodup) (hx : ∀ x ∈ bs.map (·.1), lo < idx x ∧ idx x ≤ m0 ∧ nameB x = true ∧ x.length ≤ 1000) (hlo : lo ≤ m0) (har : ∀ y ∈ ar, idx y ≤ lo)
    (h : GrL n D ar (bs.map (·.1)) d m0 hi cb nb (bs.map (·.2) ++ [e])) : Gr n D ar lo hi (cb + bs.length + 1) (nb + bs.length) (d + 1) (.tuple [.str "let", .int p, .tuple (bs.map fun b => .tuple [.str b.1, b.2]), e]) := by
  have l1 := h.le
  refine ⟨by omega, fun L S hd ha hf => ?_⟩
  obtain ⟨L', rfl⟩ : ∃ L', L = L' + 1 := ⟨L - 1, by omega⟩
  generalize hxs : bs.map (·.1) = xs at *
  have hlen : xs.length = bs.length := by rw [← hxs, List.length_map]
  have nx : ∀ y ∈ ar, y ∉ xs := fun y hy z => by have := har y hy; have := (hx y z).1; omega
  obtain ⟨S1, c, a, b, c1, l⟩ := h.run L' (putAll S xs true) (by omega) (fun y hy => by
    rcases List.mem_append.mp hy with hy | hy
    · have := har y hy
      omega
    · exact (hx y hy).2.1) (fun y hy => by
    rw [getN_all]
    rcases List.mem_append.mp hy with hy | hy
    · rw [if_neg (nx y hy)]
      exact ha y hy
    · rw [if_pos hy]) fun y k1 k2 => by
    rw [getN_all, if_neg (fun z => by have := (hx y z).2.1; omega)]
    exact hf y (by omega) k2
  have g1 := putAll_le xs S true
  have g2 : (putAll S1 xs false).length ≤ S1.length := putAll_old fun x hxx => by
    rw [b x (fun k => by have := (hx x hxx).2.1; omega), getN_all, if_pos hxx]
    rfl
  refine ⟨putAll S1 xs false, c + bs.length + 1, ?_, fun y hy => ?_, by omega, by omega⟩
  · have hb := bnd_all (b := true) (S := S) hnd fun x hxx => ⟨hf x (hx x hxx).1 (by have := (hx x hxx).2.1; omega), (hx x hxx).2.2⟩
    have := Jd.lets (D := D) (n := n) (bs := bs) (e := e) (S := S) (S1 := putAll S xs true) (S2 := S1) (p := p) (c := c) (L := L') hp hne hxl (by rw [hxs]; exact hb) a
    rw [hxs] at this
    exact this
  · have ny : y ∉ xs := fun z => by have := hx y z; have := hy this.1; omega
    rw [getN_all, if_neg ny, b y (fun k => hy (by omega)), getN_all, if_neg ny]
/-- the ways of a case, one behind the other; z stands around all of them -/
inductive Ways (n : Int) (D : Str → Nat → Bool) (ar : List Str) (z : Str) (d : Nat) : Nat → Nat → Nat → Nat → List (List Str × PyData) → Prop
  | nil {lo : Nat} : Ways n D ar z d lo lo 0 0 []
  | cons {lo mid hi cb nb cb2 nb2 : Nat} {ns : List Str} {e : PyData} {es : List (List Str × PyData)} : Gr n D (ar ++ ns ++ [z]) lo mid cb nb d e → Ways n D ar z d mid hi cb2 nb2 es → Ways n D ar z d lo hi (cb + cb2) (nb + nb2 + ns.length) ((ns, e) :: es)
theorem Ways.le {z : Str} {es : List (List Str × PyData)} (h : Ways n D ar z d lo hi cb nb es) : lo ≤ hi := by
  induction h with
  | nil => exact Nat.le_refl _
  | cons h1 _ ih => exact Nat.le_trans h1.le ih
def namesW (es : List (List Str × PyData)) : List Str := es.flatMap (·.1)
theorem Ways.run {z : Str} {l0 m0 : Nat} {es : List (List Str × PyData)} (h : Ways n D ar z d lo hi cb nb es) (har : ∀ y ∈ ar, idx y ≤ l0) (hz0 : l0 < idx z) (hzm : idx z ≤ m0) : ∀ (L : Nat) (S : Nm), d ≤ L → m0 ≤ lo → (∀ x ∈ namesW es, l0 < idx x ∧ idx x ≤ m0 ∧ x ≠ z) →
    (∀ x ∈ ar, getN S x = some true) → getN S z = some true → (∀ x, lo < idx x → idx x ≤ hi → getN S x = none) →
    ∃ (S' : Nm) (c : Nat), JdC n D L S es S' c ∧ (∀ x, (lo < idx x → hi < idx x) → x ∉ namesW es → getN S' x = getN S x) ∧ c ≤ cb ∧ S'.length ≤ S.length + nb := by
  induction h with
  | nil => exact fun L S _ _ _ _ _ _ => ⟨S, 0, .nil, fun _ _ _ => rfl, Nat.le_refl _, Nat.le_refl _⟩
  | @cons lo mid hi cb nb cb2 nb2 ns e es h1 h2 ih =>
    intro L S hd hm hns ha hz hf
    have l1 := h1.le
    have l2 := h2.le
    have nsin : ∀ x ∈ ns, x ∈ namesW ((ns, e) :: es) := fun x hx => by
      unfold namesW
      rw [List.flatMap_cons]
      exact List.mem_append.mpr (.inl hx)
    have esin : ∀ x ∈ namesW es, x ∈ namesW ((ns, e) :: es) := fun x hx => by
      unfold namesW at hx ⊢
      rw [List.flatMap_cons]
      exact List.mem_append.mpr (.inr hx)
    have nx : ∀ y ∈ ar, y ∉ ns := fun y hy k => by have := har y hy; have := (hns y (nsin y k)).1; omega
    have nz : z ∉ ns := fun k => (hns z (nsin z k)).2.2 rfl
    have far : ∀ x, lo < idx x → x ∉ ns := fun x k kn => by have := (hns x (nsin x kn)).2.1; omega
    obtain ⟨S1, c, a, b, c1, l⟩ := h1.run L (putAll S ns true) hd (fun y hy => by
      rw [getN_all]
      rcases List.mem_append.mp hy with hy | hy
      · rcases List.mem_append.mp hy with hy | hy
        · rw [if_neg (nx y hy)]
          exact ha y hy
        · rw [if_pos hy]
      · rw [List.mem_singleton.mp hy, if_neg nz]
        exact hz) fun y k1 k2 => by
      rw [getN_all, if_neg (far y k1)]
      exact hf y k1 (by omega)
    have g1 := putAll_le ns S true
    have g2 : (putAll S1 ns false).length ≤ S1.length := putAll_old fun x hx => by
      rw [b x (fun k => absurd hx (far x k)), getN_all, if_pos hx]
      rfl
    obtain ⟨S2, c', a', b', c1', l'⟩ := ih L (putAll S1 ns false) hd (by omega) (fun x hx => hns x (esin x hx)) (fun y hy => by
      rw [getN_all, if_neg (nx y hy), b y (fun k => by have := har y hy; omega), getN_all, if_neg (nx y hy)]
      exact ha y hy) (by
      rw [getN_all, if_neg nz, b z (fun k => by omega), getN_all, if_neg nz]
      exact hz) fun y k1 k2 => by
      rw [getN_all, if_neg (far y (by omega)), b y (fun _ => k1), getN_all, if_neg (far y (by omega))]
      exact hf y (by omega) k2
    refine ⟨S2, c + c', .cons a a', fun x hx hn => ?_, by omega, by omega⟩
    have hn1 : x ∉ ns := fun k => hn (nsin x k)
    rw [b' x (fun k => hx (by omega)) (fun k => hn (esin x k)), getN_all, if_neg hn1, b x (fun k => by have := hx k; omega), getN_all, if_neg hn1]
/-- alternatives bound: none of what is seen, no name twice -/
theorem alts_ok : ∀ {as : List Alt} {S : Nm} {seen : List Key}, (as.map (·.1)).Nodup → (∀ w ∈ as.map (·.1), w ∉ seen) → (∀ a ∈ as, a.2.1.length ≤ 60 ∧ whatOk D a.1 a.2.1.length = true) → (as.flatMap (·.2.1)).Nodup → (∀ x ∈ as.flatMap (·.2.1), getN S x = none ∧ nameB x = true ∧ x.length ≤ 1000) →
    ∃ S', AltOk D S seen as S' ∧ (∀ x, getN S' x = if x ∈ as.flatMap (·.2.1) then some false else getN S x) ∧ S'.length ≤ S.length + (as.flatMap (·.2.1)).length
  | [], S, seen, _, _, _, _, _ => ⟨S, .nil, fun x => by simp, Nat.le_add_right _ _⟩
  | (w, ns, e) :: as, S, seen, h1, h2, h3, h4, h5 => by
    rw [List.flatMap_cons] at h4 h5
    have h1' := List.nodup_cons.mp h1
    obtain ⟨k1, k2⟩ := h3 _ (List.mem_cons_self ..)
    have hn := List.nodup_append.mp h4
    have hb := bnd_all (b := false) (S := S) hn.1 fun x hx => h5 x (List.mem_append.mpr (.inl hx))
    obtain ⟨S', a, b, l⟩ := alts_ok (as := as) (S := putAll S ns false) (seen := seen ++ [w]) h1'.2 (fun v hv k => by
      rcases List.mem_append.mp k with k | k
      · exact h2 v (List.mem_cons_of_mem _ hv) k
      · rw [List.mem_singleton.mp k] at hv
        exact h1'.1 hv) (fun a ha => h3 a (List.mem_cons_of_mem _ ha)) hn.2.1 (fun x hx => by
      obtain ⟨q1, q2⟩ := h5 x (List.mem_append.mpr (.inr hx))
      refine ⟨?_, q2⟩
      rw [getN_all, if_neg (fun k => hn.2.2 x k x hx rfl)]
      exact q1)
    refine ⟨S', .cons (h2 w (List.mem_cons_self ..)) k1 k2 hb a, fun x => ?_, ?_⟩
    · rw [b x, getN_all, List.flatMap_cons]
      by_cases c1 : x ∈ as.flatMap (·.2.1)
      · rw [if_pos c1, if_pos (List.mem_append.mpr (.inr c1))]
      · rw [if_neg c1]
        by_cases c2 : x ∈ ns
        · rw [if_pos c2, if_pos (List.mem_append.mpr (.inl c2))]
        · rw [if_neg c2, if_neg (fun k => (List.mem_append.mp k).elim c2 c1)]
    · rw [List.flatMap_cons, List.length_append]
      have := putAll_le ns S false
      show S'.length ≤ S.length + (ns.length + (as.flatMap (·.2.1)).length)
      omega
theorem names_ways (as : List Alt) (o : Option PyData) : namesW (ways as o) = as.flatMap (·.2.1) := by
  unfold namesW ways
  rw [List.flatMap_append, List.flatMap_map]
  cases o with
  | none => simp
  | some e => simp
theorem Gr.case {p : Int} {z : Str} {as : List Alt} {o : Option PyData} {m0 mid cb2 nb2 : Nat} (hp : inP n p = true) (hz : lo < idx z ∧ idx z ≤ m0 ∧ nameB z = true ∧ z.length ≤ 1000) (hl : as.length ≤ 60) (hw : (as.map (·.1)).Nodup) (ho : ∀ a ∈ as, a.2.1.length ≤ 60 ∧ whatOk D a.1 a.2.1.length = true)
    (hnd : (as.flatMap (·.2.1)).Nodup) (hns : ∀ x ∈ as.flatMap (·.2.1), lo < idx x ∧ idx x ≤ m0 ∧ x ≠ z ∧ nameB x = true ∧ x.length ≤ 1000) (har : ∀ y ∈ ar, idx y ≤ lo) (h0 : Gr n D ar m0 mid cb nb d e) (h1 : Ways n D ar z d mid hi cb2 nb2 (ways as o)) :
    Gr n D ar lo hi (cb + cb2 + (1 + (ways as o).length)) (nb + nb2 + 1 + (as.flatMap (·.2.1)).length) (d + 1) (.tuple [.str "case", .int p, e, .str z, .tuple (as.map altD), otherD o]) := by
  have l0 := h0.le
  have l1 := h1.le
  refine ⟨by omega, fun L S hd ha hf => ?_⟩
  obtain ⟨L', rfl⟩ : ∃ L', L = L' + 1 := ⟨L - 1, by omega⟩
  have hzn : getN S z = none := hf z hz.1 (by omega)
  have nz : ∀ y ∈ ar, y ≠ z := fun y hy k => by have := har y hy; rw [k] at this; omega
  have nn : ∀ y ∈ ar, y ∉ as.flatMap (·.2.1) := fun y hy k => by have := har y hy; have := (hns y k).1; omega
  have znn : z ∉ as.flatMap (·.2.1) := fun k => (hns z k).2.2.1 rfl
  have far : ∀ x, m0 < idx x → x ≠ z ∧ x ∉ as.flatMap (·.2.1) := fun x k => ⟨fun q => by rw [q] at k; omega, fun q => by have := (hns x q).2.1; omega⟩
  obtain ⟨S1, A1, b1, g1⟩ := alts_ok (D := D) (as := as) (S := putN S z false) (seen := []) hw (fun _ _ k => nomatch k) ho hnd fun x hx => by
    obtain ⟨q1, q2, q3, q4⟩ := hns x hx
    refine ⟨?_, q4⟩
    rw [getN_put, if_neg q3]
    exact hf x q1 (by omega)
  have g0 := putN_len S z false
  have S1z : getN S1 z = some false := by rw [b1 z, if_neg znn, getN_put, if_pos rfl]
  have S1o : ∀ y, y ≠ z → y ∉ as.flatMap (·.2.1) → getN S1 y = getN S y := fun y k1 k2 => by rw [b1 y, if_neg k2, getN_put, if_neg k1]
  obtain ⟨S2, c0, a2, b2, c2, g2⟩ := h0.run L' S1 (by omega) (fun y hy => by rw [S1o y (nz y hy) (nn y hy)]; exact ha y hy) fun y k1 k2 => by
    rw [S1o y (far y k1).1 (far y k1).2]
    exact hf y (by omega) (by omega)
  have S2z : getN S2 z = some false := by rw [b2 z (fun k => by omega)]; exact S1z
  have g3 : (putN S2 z true).length ≤ S2.length := putN_old (by rw [S2z]; rfl)
  obtain ⟨S3, c1, a3, b3, c3, g4⟩ := h1.run har hz.1 hz.2.1 L' (putN S2 z true) (by omega) l0 (fun x hx => by
    rw [names_ways] at hx
    exact ⟨(hns x hx).1, (hns x hx).2.1, (hns x hx).2.2.1⟩) (fun y hy => by
    rw [getN_put, if_neg (nz y hy), b2 y (fun k => by have := har y hy; omega), S1o y (nz y hy) (nn y hy)]
    exact ha y hy) (by rw [getN_put, if_pos rfl]) fun y k1 k2 => by
    rw [getN_put, if_neg (far y (by omega)).1, b2 y (fun _ => k1), S1o y (far y (by omega)).1 (far y (by omega)).2]
    exact hf y (by omega) k2
  have S3z : getN S3 z = some true := by
    rw [b3 z (fun k => by omega) (by rw [names_ways]; exact znn), getN_put, if_pos rfl]
  have g5 : (putN S3 z false).length ≤ S3.length := putN_old (by rw [S3z]; rfl)
  refine ⟨putN S3 z false, c0 + c1 + (1 + (ways as o).length), .case hp hzn hz.2.2.1 hz.2.2.2 hl A1 a2 a3, fun y hy => ?_, by omega, by omega⟩
  have ny : y ≠ z := fun k => by rw [k] at hy; have := hy hz.1; omega
  have nyn : y ∉ as.flatMap (·.2.1) := fun k => by have := hns y k; have := hy this.1; omega
  rw [getN_put, if_neg ny, b3 y (fun k => hy (by omega)) (by rw [names_ways]; exact nyn), getN_put, if_neg ny, b2 y (fun k => by have := hy (by omega); omega), S1o y ny nyn]
end
end J45

set_option Elab.async false
set_option maxRecDepth 100000
/-! names drawn -/
namespace J45
open PySem PySem.Spec PyProof.Rows L2 Hx Xr RN
def preF : List Str := ["v", "ab", "z9"]
def sufF : List Str := ["", "", ".1", ".12"]
def freshZ (k i j : Nat) : Str := (preF.getD i "" ++ (toString (k : Int) : String)) ++ sufF.getD j ""
def FreshN (k : Nat) (z : Str) : Prop := ∃ i j, i < 3 ∧ j < 4 ∧ z = freshZ k i j
theorem fresh_all : ∀ k, k < 65 → ∀ i, i < 3 → ∀ j, j < 4 → (nameB (freshZ k i j) && (decide ((freshZ k i j).length ≤ 60) && (decide (idx (freshZ k i j) = k) && PyData.strOk (freshZ k i j)))) = true := by decide +kernel
theorem fresh_ok {k : Nat} {z : Str} (h : FreshN k z) (hk : k < 65) : nameB z = true ∧ z.length ≤ 60 ∧ idx z = k ∧ PyData.strOk z = true := by
  obtain ⟨i, j, hi, hj, rfl⟩ := h
  have := fresh_all k hk i hi j hj
  rw [Bool.and_eq_true, Bool.and_eq_true, Bool.and_eq_true, decide_eq_true_eq, decide_eq_true_eq] at this
  exact this
theorem str_app_len (a b : Str) : (a ++ b).length = a.length + b.length := by
  show (a.cps ++ b.cps).size = a.cps.size + b.cps.size
  exact Array.size_append
theorem fresh_len {k i j : Nat} (hk : k < 65) (hi : i < 3) (hj : j < 4) : (preF.getD i "" ++ (toString (k : Int) : String) : Str).length + (sufF.getD j "").length ≤ 60 ∧ (preF.getD i "").length + ((toString (k : Int) : String) : Str).length ≤ 60 := by
  have := (fresh_ok ⟨i, j, hi, hj, rfl⟩ hk).2.1
  unfold freshZ at this
  rw [str_app_len] at this
  refine ⟨this, ?_⟩
  rw [str_app_len] at this
  omega
theorem pre_at {i : Nat} (h : i < 3) : atI [V.str "v", V.str "ab", V.str "z9"] (i : Int) = some (V.str (preF.getD i "")) := by
  refine atI_nat (j := i) ?_
  rcases i with _ | _ | _ | i
  · rfl
  · rfl
  · rfl
  · omega
theorem suf_at {i : Nat} (h : i < 4) : atI [V.str "", V.str "", V.str ".1", V.str ".12"] (i : Int) = some (V.str (sufF.getD i "")) := by
  refine atI_nat (j := i) ?_
  rcases i with _ | _ | _ | _ | i
  · rfl
  · rfl
  · rfl
  · rfl
  · omega
theorem own_put (v w : V) : putK [((.inr "k" : Key), v)] (.inr "k") w = [(.inr "k", w)] := by
  unfold putK
  simp
theorem PuAt.setO {G H : Hp} {a o : Addr} {n k k' : Int} (J : PuAt G H a o n k) : PuAt G (upd H o (.dK [(.inr "k", .int k')])) a o n k' := by
  obtain ⟨x, c, hp, hx⟩ := J.pu
  exact ⟨Same.upd J.same J.go, J.ga, J.go, J.ne, ⟨x, c, (upd_ne J.ne).trans hp, hx⟩, J.n0, upd_same⟩
abbrev sFresh : Stmt := top 54
abbrev sAtom : Stmt := top 55
section
variable {P : Program} {w : World} {K : PySem.W.Frag} {mg : Str → Option Value} {base : Heap}
theorem scFresh : FnScope ["_law_purse_here", "_law_own"] ["_law_purse_here", "_law_own"] (defScope sFresh) := ⟨rfl, rfl, rfl, by decide +kernel, rfl, by decide +kernel, by decide +kernel⟩
theorem scAtom : FnScope ["_law_purse_here", "_law_own", "_law_around", "_law_p"] ["_law_purse_here", "_law_own", "_law_around"] (defScope sAtom) := ⟨rfl, rfl, rfl, by decide +kernel, rfl, by decide +kernel, by decide +kernel⟩
theorem ru64 {k : Nat} {A : Around} (r : Room k A) : A.units + 64 < cLine := by have := r.un; omega
def spFresh : Sp := fun vs H Q _ => ∃ (G : Hp) (a o : Addr) (n : Int) (k : Nat), vs = [.ref a, .ref o] ∧ PuAt G H a o n (k : Int) ∧ k + 1 < 65 ∧ n ≤ 40000000 ∧ ∀ (G' : Hp) (z : Str) (H' : Hp) (n' : Int), FreshN (k + 1) z → Same G G' → PuAt G' H' a o n' ((k + 1 : Nat) : Int) → n' ≤ n + 2 → Q (.str z) H'
theorem ok_fresh {f fD : Addr} {fd fdD : FuncData} (F : Fun K "_law_fresh" "_law_fresh" sFresh f fd) (gS : mg "str" = none)
    (GD : FnOk P w K mg base CX0 2 fD fdD ["_law_purse_here", "_law_out_of"] spDraw) (kD : PySem.W.keepIn K (.ref fD) = true) (bD : Binds K fdD ["_law_purse_here", "_law_out_of"] []) (gD : mg "_law_draw" = some (.ref fD)) :
    FnOk P w K mg base CX0 3 f fd ["_law_purse_here", "_law_own"] spFresh := by
  refine F.ok scFresh (fun vs H Q E h => ?_) (fun cdv A outer st H vs Q E hr h => ?_)
  · obtain ⟨G, a, o, n, k, rfl, _⟩ := h
    rfl
  obtain ⟨G, a, o, n, k, rfl, J, hk, hn, q⟩ := h
  have hu := ru1 hr
  refine ⟨_, (pss_cons (ps_dput hu (pv 1) pe_str (pe_op op_add (pe_dget hu (pv 1) pe_str (fun _ _ => rfl)) pe_int) rfl)
      (pss_one (ps_ret (pe_op op_add_str (pe_op op_add_str (pe_ix ix_list (pe_lst (pa_cons pe_str (pa_cons pe_str (pa_cons pe_str pa_nil)))) (pe_call GD (hr.mono (by decide)) rfl gD kD bD .nil pass0 (pa_cons (pv 0) (pa_cons pe_int pa_nil))) (fun _ _ => rfl)) (pe_callTy call_str_int (by rfl) gS (by decide +kernel) (pa_cons (pe_dget hu (pv 1) pe_str (fun _ _ => rfl)) pa_nil))) (pe_ix ix_list (pe_lst (pa_cons pe_str (pa_cons pe_str (pa_cons pe_str (pa_cons pe_str pa_nil))))) (pe_call GD (hr.mono (by decide)) rfl gD kD bD .nil pass0 (pa_cons (pv 0) (pa_cons pe_int pa_nil))) (fun _ _ => rfl)))))), ?_⟩
  have hdr : ∀ {G1 H1 : Hp} {m1 : Int}, PuAt G1 H1 a o m1 ((k + 1 : Nat) : Int) → DGet H1 o (.str "k") (some (.int ((k + 1 : Nat) : Int))) := fun J1 => .inl ⟨_, .inr "k", .inl J1.ow, rfl, rfl⟩
  refine ⟨_, rfl, o, _, rfl, .inl ⟨_, .inr "k", .inl J.ow, rfl, rfl⟩, _, _, rfl, rfl, _, rfl, o, _, rfl, DPut.k (k := .inr "k") J.ow (by show 1 < sizeLine; decide), ?_⟩
  rw [own_put]
  have J1 : PuAt G (upd H o (.dK [(.inr "k", .int ((k : Int) + 1))])) a o n ((k + 1 : Nat) : Int) := J.setO
  refine ⟨by show 3 ≤ sizeLine; decide, fun p np => ?_⟩
  have J2 := J1.grow (u := .lst [.str "v", .str "ab", .str "z9"]) np
  have s1 : Same G (upd G p (.lst [.str "v", .str "ab", .str "z9"])) := Same.new (J1.none np)
  refine ⟨_, rfl, _, a, o, 3, n, _, rfl, by decide, by decide, J2, by omega, fun i n1 H3 hi hn1 J3 => ?_⟩
  have hi' : i < 3 := by omega
  refine ⟨p, _, i, _, rfl, rfl, SqL.of (J3.same _ _ upd_same), pre_at hi', ?_⟩
  refine ⟨_, rfl, o, _, rfl, hdr J3, _, rfl, ?_, ?_⟩
  · have h2 : ((k + 1 : Nat) : Int).natAbs = k + 1 := by omega
    rw [h2]
    exact Nat.lt_of_le_of_lt (Nat.log2_le_self _) (by omega)
  have fr := fun j (hj : j < 4) => fresh_len (k := k + 1) (i := i) (j := j) (by omega) hi' hj
  refine ⟨_, _, rfl, rfl, Nat.le_trans (fr 0 (by decide)).2 (by decide), ?_⟩
  refine ⟨by show 4 ≤ sizeLine; decide, fun p2 np2 => ?_⟩
  have J4 := J3.grow (u := .lst [.str "", .str "", .str ".1", .str ".12"]) np2
  have s2 : Same (upd G p (.lst [.str "v", .str "ab", .str "z9"])) (upd (upd G p (.lst [.str "v", .str "ab", .str "z9"])) p2 (.lst [.str "", .str "", .str ".1", .str ".12"])) := Same.new (J3.none np2)
  refine ⟨_, rfl, _, a, o, 4, n1, _, rfl, by decide, by decide, J4, by omega, fun j n2 H5 hj hn2 J5 => ?_⟩
  have hj' : j < 4 := by omega
  refine ⟨p2, _, j, _, rfl, rfl, SqL.of (J5.same _ _ upd_same), suf_at hj', ?_⟩
  refine ⟨_, _, rfl, rfl, Nat.le_trans (fr j hj').1 (by decide), ?_⟩
  exact q _ _ H5 n2 ⟨i, j, hi', hj', rfl⟩ (s1.trans s2) J5 (by omega)
end
end J45

set_option Elab.async false
set_option maxRecDepth 100000
/-! atoms and tips drawn -/
namespace J45
open PySem PySem.Spec PyProof.Rows L2 Hx Xr RN
section
variable {P : Program} {w : World} {K : PySem.W.Frag} {mg : Str → Option Value} {base : Heap}
/-- the names around, as a list -/
structure AroundAt (G : Hp) (r : Addr) (ar : List Str) : Prop where
  ls : G r = some (.lst (ar.map V.str))
  ne : ar ≠ []
  ok : ∀ x ∈ ar, PyData.strOk x = true
  le : ar.length ≤ 1000
theorem dp_strs {H : Hp} : ∀ {xs : List Str}, DpAll K H (xs.map V.str) (xs.map PyData.str)
  | [] => .nil
  | x :: xs => .cons (.str x) dp_strs
theorem strs_shaped {xs : List Str} (h : ∀ x ∈ xs, PyData.strOk x = true) : SeqAt.shaped (.list (xs.map PyData.str)) = true := by
  have key : ∀ xs : List Str, (∀ x ∈ xs, PyData.strOk x = true) → PyData.canLayAll0 (xs.map PyData.str) = true ∧ PyData.depthAll (xs.map PyData.str) ≤ 1 := by
    intro xs
    induction xs with
    | nil => exact fun _ => ⟨rfl, by simp [PyData.depthAll]⟩
    | cons x xs ih =>
      intro h
      obtain ⟨i1, i2⟩ := ih fun y hy => h y (List.mem_cons_of_mem _ hy)
      have hx := h x (List.mem_cons_self ..)
      refine ⟨by simp [PyData.canLayAll0, PyData.canLay0, hx, i1], ?_⟩
      simp only [List.map_cons, PyData.depthAll, PyData.depth]
      omega
  obtain ⟨k1, k2⟩ := key xs h
  unfold SeqAt.shaped
  rw [Bool.and_eq_true]
  refine ⟨by simp [PyData.canLay0, k1], decide_eq_true ?_⟩
  simp only [PyData.depth]
  omega
theorem eqv_nil {xs : List Str} (h : xs ≠ []) : PyData.eqv (.list (xs.map PyData.str)) (.list []) = false := by
  cases xs with
  | nil => exact absurd rfl h
  | cons x xs => rfl
theorem small_num {x : Nat} (h : x < 1000) : numB big (.int (x : Int)) = true := by
  show (decide ((0 : Int) ≤ x) && decide ((x : Int) < big)) = true
  rw [Bool.and_eq_true, decide_eq_true_eq, decide_eq_true_eq]
  exact ⟨by omega, Int.lt_trans (show (x : Int) < 1000 by omega) (by decide +kernel)⟩
def spAtom (K : PySem.W.Frag) : Sp := fun vs H Q _ => ∃ (G : Hp) (a o r : Addr) (n k : Int) (ar : List Str), vs = [.ref a, .ref o, .ref r] ∧ PuAt G H a o n k ∧ AroundAt G r ar ∧ n ≤ 40000000 ∧ ∀ (G' : Hp) (v : V) (e : PyData) (H' : Hp) (n' : Int), AtomG 20 ar e → Same G G' → Dp K G' v e → PuAt G' H' a o n' k → n' ≤ n + 4 → Q v H'
theorem ok_atom {f fD : Addr} {fd fdD : FuncData} (F : Fun K "_law_atom" "_law_atom" sAtom f fd) (gI : mg "int" = none) (gLen : mg "len" = none)
    (GD : FnOk P w K mg base CX0 2 fD fdD ["_law_purse_here", "_law_out_of"] spDraw) (kD : PySem.W.keepIn K (.ref fD) = true) (bD : Binds K fdD ["_law_purse_here", "_law_out_of"] []) (gD : mg "_law_draw" = some (.ref fD)) :
    FnOk P w K mg base CX0 3 f fd ["_law_purse_here", "_law_own", "_law_around"] (spAtom K) := by
  refine F.ok scAtom (fun vs H Q E h => ?_) (fun cdv A outer st H vs Q E hr h => ?_)
  · obtain ⟨G, a, o, r, n, k, ar, rfl, _⟩ := h
    rfl
  obtain ⟨G, a, o, r, n, k, ar, rfl, J, hA, hn, q⟩ := h
  have hu := ru1 hr
  refine ⟨_, (pss_cons (ps_set (i := 3) scAtom.nd rfl (.inl rfl) (pe_call GD (hr.mono (by decide)) rfl gD kD bD .nil pass0 (pa_cons (pv 0) (pa_cons pe_int pa_nil))))
      (pss_cons (ps_if (PW.pt (pw_or (pt_cmpR (op_eqD (ru64 hr)) (pv 2) (pe_lst pa_nil) rfl) (pw_or1 (pt_cmpR op_eq (pe_call GD (hr.mono (by decide)) rfl gD kD bD .nil pass0 (pa_cons (pv 0) (pa_cons pe_int pa_nil))) pe_int (nomark _))))) (pss_one (ps_ret (pe_tup (pa_cons pe_str (pa_cons (pv 3) (pa_cons (pe_ix ix_list (pe_lst (pa_cons (pe_call GD (hr.mono (by decide)) rfl gD kD bD .nil pass0 (pa_cons (pv 0) (pa_cons pe_int pa_nil))) (pa_cons (pe_op op_sub (pe_op op_pow pe_int pe_int) pe_int) pa_nil))) (pe_callTy call_int1 (by rfl) gI (by decide +kernel) (pa_cons (pe_cmpR op_eq (pe_call GD (hr.mono (by decide)) rfl gD kD bD .nil pass0 (pa_cons (pv 0) (pa_cons pe_int pa_nil))) pe_int (nomark _)) pa_nil)) (fun _ _ => rfl)) pa_nil)))))) pss_nil)
      (pss_one (ps_ret (pe_tup (pa_cons pe_str (pa_cons (pv 3) (pa_cons (pe_ix ix_list (pv 2) (pe_call GD (hr.mono (by decide)) rfl gD kD bD .nil pass0 (pa_cons (pv 0) (pa_cons (pe_callB call_len (by rfl) gLen PySem.boot_len (pa_cons (pv 2) pa_nil)) pa_nil))) (fun _ _ => rfl)) pa_nil)))))))), ?_⟩
  have hAl := Nat.pos_of_ne_zero fun z => hA.ne (List.length_eq_zero_iff.mp z)
  have hAn := hA.le
  refine ⟨_, rfl, G, a, o, 20, n, k, rfl, by decide, by decide, J, by omega, fun p n1 H1 hp hn1 J1 => ?_⟩
  have hpi : inP 20 (p : Int) = true := by
    unfold inP
    rw [Bool.and_eq_true, decide_eq_true_eq, decide_eq_true_eq]
    omega
  refine ⟨_, rfl, Nat.zero_le _, fun r2 nr2 => ?_⟩
  have J2 := J1.grow (u := .lst []) nr2
  have s1 : Same G (upd G r2 (.lst [])) := Same.new (J1.none nr2)
  refine ⟨.list (ar.map PyData.str), .list [], .lst (SqL.of (J2.same _ _ (s1 _ _ hA.ls))) dp_strs, .lst (SqL.of upd_same) .nil, strs_shaped hA.ok, by decide +kernel, ?_⟩
  rw [show PyData.eqv (.list (ar.map PyData.str)) (.list []) = false from eqv_nil hA.ne]
  refine ⟨false, rfl, iteF ?_⟩
  refine ⟨_, rfl, _, a, o, 3, n1, k, rfl, by decide, by decide, J2, by omega, fun c n2 H3 hc hn2 J3 => ?_⟩
  by_cases c0 : c = 0
  · subst c0
    refine ⟨rfl, true, rfl, iteT ?_⟩
    refine ⟨_, rfl, _, rfl, _, a, o, 9, n2, k, rfl, by decide, by decide, J3, by omega, fun x n3 H4 hx hn3 J4 => ?_⟩
    refine ⟨_, _, rfl, rfl, ⟨by decide, by decide, by decide⟩, _, _, rfl, rfl, by show 2 ≤ sizeLine; decide, fun l nl => ?_⟩
    have J5 := J4.grow (u := .lst [.int (x : Int), .int ((10 : Int) ^ Int.toNat 60 - 1)]) nl
    have s2 : Same (upd G r2 (.lst [])) (upd (upd G r2 (.lst [])) l (.lst [.int (x : Int), .int ((10 : Int) ^ Int.toNat 60 - 1)])) := Same.new (J4.none nl)
    refine ⟨_, rfl, _, a, o, 9, n3, k, rfl, by decide, by decide, J5, by omega, fun y n4 H6 hy hn4 J6 => ?_⟩
    refine ⟨rfl, .inr ⟨_, rfl, ?_⟩⟩
    have fin : ∀ (i : Int), numB big (.int i) = true → ∀ t, H6 t = none → Q (.ref t) (upd H6 t (.tup [.str "num", .int (p : Int), .int i])) := by
      intro i hi t nt
      have J7 := J6.grow (u := .tup [.str "num", .int (p : Int), .int i]) nt
      exact q _ _ _ _ n4 (.inr ⟨p, i, hpi, hi, rfl⟩) ((s1.trans s2).trans (Same.new (J6.none nt))) (.tup (SqT.of upd_same) (.cons (.str _) (.cons (.int _) (.cons (.int _) .nil)))) J7 (by omega)
    by_cases y0 : y = 0
    · subst y0
      exact ⟨l, _, 1, _, rfl, rfl, SqL.of (J6.same _ _ upd_same), atI_nat (j := 1) rfl, by show 3 ≤ sizeLine; decide, fun t nt => fin _ (by decide +kernel) t nt⟩
    · rw [decide_eq_false (fun z => y0 (by injection z; omega))]
      exact ⟨l, _, 0, _, rfl, rfl, SqL.of (J6.same _ _ upd_same), atI_nat (j := 0) rfl, by show 3 ≤ sizeLine; decide, fun t nt => fin _ (small_num (by omega)) t nt⟩
  · refine ⟨rfl, false, bl_f (fun z => c0 (by injection z; omega)), iteF ?_⟩
    have hr3 := J3.same _ _ (s1 _ _ hA.ls)
    refine ⟨_, rfl, _, rfl, _, rfl, _, rfl, _, _, rfl, .inl ⟨_, SqL.of hr3, rfl⟩, _, a, o, ((ar.map V.str).length : Int), n2, k, rfl, by rw [List.length_map]; omega, by rw [List.length_map]; omega, J3, by omega, fun x n3 H4 hx hn3 J4 => ?_⟩
    rw [List.length_map] at hx
    have hx' : x < ar.length := by omega
    refine ⟨r, _, x, .str ar[x], rfl, rfl, SqL.of (J4.same _ _ (s1 _ _ hA.ls)), atI_nat (j := x) (by rw [List.getElem?_map, List.getElem?_eq_getElem hx']; rfl), by show 3 ≤ sizeLine; decide, fun t nt => ?_⟩
    have J7 := J4.grow (u := .tup [.str "name", .int (p : Int), .str ar[x]]) nt
    exact q _ _ _ _ n3 (.inl ⟨p, _, hpi, List.getElem_mem hx', rfl⟩) (s1.trans (Same.new (J4.none nt))) (.tup (SqT.of upd_same) (.cons (.str _) (.cons (.int _) (.cons (.str _) .nil)))) J7 (by omega)
end
end J45

set_option Elab.async false
set_option maxRecDepth 100000
/-! tips drawn -/
namespace J45
open PySem PySem.Spec PyProof.Rows L2 Hx Xr RN
/-- the data that the law draws over -/
def Dlaw (m : Str) (k : Nat) : Bool := decide ((m, k) ∈ ([("False", 0), ("True", 0), ("Nil", 0), ("Cons", 2), ("Leaf", 1), ("Fork", 3)] : List (Str × Nat)))
abbrev sTip : Stmt := top 56
section
variable {P : Program} {w : World} {K : PySem.W.Frag} {mg : Str → Option Value} {base : Heap}
theorem scTip : FnScope ["_law_purse_here", "_law_own", "_law_around", "_law_p", "_law_way", "_law_one", "_law_fork"] ["_law_purse_here", "_law_own", "_law_around", "_law_p"] (defScope sTip) := ⟨rfl, rfl, rfl, by decide +kernel, rfl, by decide +kernel, by decide +kernel⟩
theorem PuAt.tup {G H : Hp} {a o : Addr} {n k : Int} {t : Addr} {vs : List V} {ds : List PyData} (J : PuAt G H a o n k) (nt : H t = Option.none) (h : DpAll K G vs ds) :
    PuAt (upd G t (.tup vs)) (upd H t (.tup vs)) a o n k ∧ Same G (upd G t (.tup vs)) ∧ Dp K (upd G t (.tup vs)) (.ref t) (.tuple ds) :=
  ⟨J.grow nt, Same.new (J.none nt), .tup (SqT.of upd_same) (DpAll.same (Same.new (J.none nt)) _ _ h)⟩
theorem AroundAt.up {G G' : Hp} {r : Addr} {ar : List Str} (h : AroundAt G r ar) (s : Same G G') : AroundAt G' r ar := ⟨s _ _ h.ls, h.ne, h.ok, h.le⟩
theorem dp_rep {G : Hp} {v : V} {e : PyData} (h : Dp K G v e) : ∀ m : Nat, DpAll K G (List.replicate m [v]).flatten (List.replicate m e)
  | 0 => .nil
  | m + 1 => .cons h (dp_rep h m)
def TipG (ar : List Str) (e : PyData) : Prop := ∀ lo, Gr 20 Dlaw ar lo lo 0 0 1 e
def spTip (K : PySem.W.Frag) : Sp := fun vs H Q _ => ∃ (G : Hp) (a o r : Addr) (n k p : Int) (ar : List Str), vs = [.ref a, .ref o, .ref r, .int p] ∧ inP 20 p = true ∧ PuAt G H a o n k ∧ AroundAt G r ar ∧ n ≤ 30000000 ∧
  ∀ (G' : Hp) (v : V) (e : PyData) (H' : Hp) (n' : Int), TipG ar e → Same G G' → Dp K G' v e → PuAt G' H' a o n' k → n' ≤ n + 12 → Q v H'
theorem ok_tip {f fD fA : Addr} {fd fdD fdA : FuncData} (F : Fun K "_law_tip" "_law_tip" sTip f fd) (gLen : mg "len" = none)
    (GD : FnOk P w K mg base CX0 2 fD fdD ["_law_purse_here", "_law_out_of"] spDraw) (kD : PySem.W.keepIn K (.ref fD) = true) (bD : Binds K fdD ["_law_purse_here", "_law_out_of"] []) (gD : mg "_law_draw" = some (.ref fD))
    (GA : FnOk P w K mg base CX0 3 fA fdA ["_law_purse_here", "_law_own", "_law_around"] (spAtom K)) (kA : PySem.W.keepIn K (.ref fA) = true) (bA : Binds K fdA ["_law_purse_here", "_law_own", "_law_around"] []) (gA : mg "_law_atom" = some (.ref fA)) :
    FnOk P w K mg base CX0 4 f fd ["_law_purse_here", "_law_own", "_law_around", "_law_p"] (spTip K) := by
  refine F.ok scTip (fun vs H Q E h => ?_) (fun cdv A outer st H vs Q E hr h => ?_)
  · obtain ⟨G, a, o, r, n, k, p, ar, rfl, _⟩ := h
    rfl
  obtain ⟨G, a, o, r, n, k, p, ar, rfl, hp, J, hA, hn, q⟩ := h
  have hu := ru1 hr
  refine ⟨_, (pss_cons (ps_set (i := 4) scTip.nd rfl (.inl rfl) (pe_call GD (hr.mono (by decide)) rfl gD kD bD .nil pass0 (pa_cons (pv 0) (pa_cons pe_int pa_nil))))
      (pss_cons (ps_set (i := 5) scTip.nd rfl (.inl rfl) (pe_call GA (hr.mono (by decide)) rfl gA kA bA .nil pass0 (pa_cons (pv 0) (pa_cons (pv 1) (pa_cons (pv 2) pa_nil)))))
      (C8.pss_cut (ps_if (pt_cmpR op_lt (pv 4) pe_int (nomark _)) (pss_one (ps_ret (pv 5))) pss_nil) (C8.pss_cut (ps_if (pt_cmpR op_eq (pv 4) pe_int (nomark _)) (pss_one (ps_ret (pe_tup (pa_cons pe_str (pa_cons (pv 3) (pa_cons pe_str (pa_cons (pe_tup (pa_cons (pv 5) (pa_cons (pe_call GA (hr.mono (by decide)) rfl gA kA bA .nil pass0 (pa_cons (pv 0) (pa_cons (pv 1) (pa_cons (pv 2) pa_nil)))) pa_nil))) pa_nil))))))) pss_nil) (C8.pss_cut (ps_if (PW.pt (pw_and (pt_cmpR op_eq (pv 4) pe_int (nomark _)) (pw_and1 (pt_cmpR (op_neD (ru64 hr)) (pv 2) (pe_lst pa_nil) rfl)))) (pss_one (ps_ret (pe_tup (pa_cons pe_str (pa_cons (pv 3) (pa_cons (pe_tup (pa_cons pe_str (pa_cons (pv 3) (pa_cons (pe_ix ix_list (pv 2) (pe_call GD (hr.mono (by decide)) rfl gD kD bD .nil pass0 (pa_cons (pv 0) (pa_cons (pe_callB call_len (by rfl) gLen PySem.boot_len (pa_cons (pv 2) pa_nil)) pa_nil))) (fun _ _ => rfl)) pa_nil)))) (pa_cons (pe_op op_repX (pe_tup (pa_cons (pv 5) pa_nil)) (pe_op op_add pe_int (pe_call GD (hr.mono (by decide)) rfl gD kD bD .nil pass0 (pa_cons (pv 0) (pa_cons pe_int pa_nil))))) pa_nil))))))) pss_nil) (pss_cons (ps_set (i := 6) scTip.nd rfl (.inl rfl) (pe_tup (pa_cons pe_str (pa_cons (pv 3) (pa_cons pe_str (pa_cons (pe_tup (pa_cons (pv 5) (pa_cons (pe_tup (pa_cons pe_str (pa_cons (pv 3) (pa_cons pe_int pa_nil)))) (pa_cons (pv 5) pa_nil)))) pa_nil))))))
      (pss_one (ps_ret (pe_ix ix_list (pe_lst (pa_cons (pe_tup (pa_cons pe_str (pa_cons (pv 3) (pa_cons pe_str (pa_cons (pe_tup pa_nil) pa_nil))))) (pa_cons (pe_tup (pa_cons pe_str (pa_cons (pv 3) (pa_cons pe_str pa_nil)))) (pa_cons (pe_tup (pa_cons pe_str (pa_cons (pv 3) (pa_cons pe_str (pa_cons (pe_tup pa_nil) pa_nil))))) (pa_cons (pv 6) pa_nil))))) (pe_call GD (hr.mono (by decide)) rfl gD kD bD .nil pass0 (pa_cons (pv 0) (pa_cons pe_int pa_nil))) (fun _ _ => rfl)))))))))), ?_⟩
  have hAl := Nat.pos_of_ne_zero fun z => hA.ne (List.length_eq_zero_iff.mp z)
  have hAn := hA.le
  refine ⟨_, rfl, G, a, o, 6, n, k, rfl, by decide, by decide, J, by omega, fun w6 n1 H1 hw hn1 J1 => ?_⟩
  refine ⟨_, rfl, _, rfl, _, rfl, G, a, o, r, n1, k, ar, rfl, J1, hA, by omega, fun G1 v1 e1 H3 n2 ha1 s1 d1 J3 hn2 => ?_⟩
  have atomT : ∀ {e : PyData}, AtomG 20 ar e → TipG ar e := fun h lo => (Gr.atom h).mono (Nat.le_refl _) (Nat.le_refl _) (Nat.le_refl _) (Nat.le_refl _) (by decide)
  have conT : ∀ {m : Str} {as : List PyData}, as.length ≤ 60 → (∀ a ∈ as, AtomG 20 ar a) → Dlaw m as.length = true → TipG ar (.tuple [.str "con", .int p, .str m, .tuple as]) := fun h1 h2 h3 lo => (Gr.con hp h1 h2 h3).mono (Nat.le_refl _) (Nat.le_refl _) (Nat.le_refl _) (Nat.le_refl _) (by decide)
  refine ⟨fun σ' H2 => σ' = [some (.ref a), some (.ref o), some (.ref r), some (.int p), some (.int (w6 : Int)), some v1, none] ∧ H3 = H2, ?_, ?_⟩
  · refine ⟨_, rfl, _, _, rfl, rfl, _, rfl, ?_⟩
    refine ite2 (fun _ => ?_) (fun _ => ⟨rfl, rfl⟩)
    exact ⟨_, rfl, q G1 v1 e1 H3 n2 (atomT ha1) s1 d1 J3 (by omega)⟩
  rintro σ' H2 ⟨rfl, rfl⟩
  refine ⟨fun σ' H2 => σ' = [some (.ref a), some (.ref o), some (.ref r), some (.int p), some (.int (w6 : Int)), some v1, none] ∧ H3 = H2, ?_, ?_⟩
  · by_cases c : w6 = 2
    · subst c
      refine ⟨_, rfl, rfl, true, rfl, iteT ?_⟩
      refine ⟨_, rfl, _, rfl, _, rfl, _, rfl, _, rfl, G1, a, o, r, n2, k, ar, rfl, J3, hA.up s1, by omega, fun G2 v2 e2 H4 n3 ha2 s2 d2 J4 hn3 => ?_⟩
      refine ⟨by show 2 ≤ sizeLine; decide, fun t1 nt1 => ⟨by show 4 ≤ sizeLine; decide, fun t2 nt2 => ?_⟩⟩
      obtain ⟨J5, s3, d3⟩ := J4.tup (K := K) nt1 (.cons (Dp.same s2 _ _ d1) (.cons d2 .nil))
      obtain ⟨J6, s4, d4⟩ := J5.tup (K := K) nt2 (.cons (.str "con") (.cons (.int p) (.cons (.str "Cons") (.cons d3 .nil))))
      exact q _ _ _ _ n3 (conT (as := [e1, e2]) (show 2 ≤ 60 by decide) (fun e he => by
        rcases List.mem_cons.mp he with rfl | he
        · exact ha1
        · rw [List.mem_singleton.mp he]
          exact ha2) (show Dlaw "Cons" 2 = true by decide +kernel)) (((s1.trans s2).trans s3).trans s4) d4 J6 (by omega)
    · exact ⟨_, rfl, rfl, false, bl_f (fun z => c (by injection z; omega)), iteF ⟨rfl, rfl⟩⟩
  rintro σ' H2 ⟨rfl, rfl⟩
  refine ⟨fun σ' H2 => σ' = [some (.ref a), some (.ref o), some (.ref r), some (.int p), some (.int (w6 : Int)), some v1, none] ∧ H3 = H2, ?_, ?_⟩
  · by_cases c : w6 = 3
    · subst c
      refine ⟨_, rfl, rfl, true, rfl, iteT ?_⟩
      refine ⟨_, rfl, Nat.zero_le _, fun r2 nr2 => ?_⟩
      have J4 := J3.grow (u := .lst []) nr2
      have s2 : Same G1 (upd G1 r2 (.lst [])) := Same.new (J3.none nr2)
      have hA2 := hA.up (s1.trans s2)
      refine ⟨.list (ar.map PyData.str), .list [], .lst (SqL.of (J4.same _ _ hA2.ls)) dp_strs, .lst (SqL.of upd_same) .nil, strs_shaped hA.ok, by decide +kernel, ?_⟩
      rw [show PyData.eqv (.list (ar.map PyData.str)) (.list []) = false from eqv_nil hA.ne]
      refine ⟨true, rfl, iteT ?_⟩
      refine ⟨_, rfl, _, rfl, _, rfl, _, rfl, _, rfl, _, _, rfl, .inl ⟨_, SqL.of (J4.same _ _ hA2.ls), rfl⟩, _, a, o, ((ar.map V.str).length : Int), n2, k, rfl, by rw [List.length_map]; omega, by rw [List.length_map]; omega, J4, by omega, fun x n3 H4 hx hn3 J5 => ?_⟩
      rw [List.length_map] at hx
      have hx' : x < ar.length := by omega
      refine ⟨r, _, x, .str ar[x], rfl, rfl, SqL.of (J5.same _ _ hA2.ls), atI_nat (j := x) (by rw [List.getElem?_map, List.getElem?_eq_getElem hx']; rfl), by show 3 ≤ sizeLine; decide, fun t1 nt1 => ?_⟩
      obtain ⟨J6, s3, d3⟩ := J5.tup (K := K) nt1 (.cons (.str "name") (.cons (.int p) (.cons (.str ar[x]) .nil)))
      refine ⟨_, rfl, by show 1 ≤ sizeLine; decide, fun t2 nt2 => ?_⟩
      obtain ⟨J7, s4, d4⟩ := J6.tup (K := K) nt2 (.cons (Dp.same (s2.trans s3) _ _ d1) .nil)
      refine ⟨_, rfl, _, a, o, 3, n3, k, rfl, by decide, by decide, J7, by omega, fun y n4 H5 hy hn4 J8 => ⟨_, _, rfl, rfl, ?_⟩⟩
      have callT : ∀ m : Nat, 1 ≤ m → m ≤ 3 → TipG ar (.tuple [.str "call", .int p, .tuple [.str "name", .int p, .str ar[x]], .tuple (List.replicate m e1)]) := fun m m1 m3 lo => Gr.call hp (fun z => by rw [List.replicate_eq_nil_iff] at z; omega) (by rw [List.length_replicate]; omega) (fun e he => by rw [List.eq_of_mem_replicate he]; exact ha1) hp (List.getElem_mem hx')
      by_cases y0 : y = 0
      · subst y0
        refine .inl ⟨t2, _, rfl, rfl, SqT.of (J8.same _ _ upd_same), by simp, by show 4 ≤ sizeLine; decide, fun t nt => ?_⟩
        obtain ⟨J9, s5, d5⟩ := J8.tup (K := K) nt (.cons (.str "call") (.cons (.int p) (.cons (Dp.same s4 _ _ d3) (.cons d4 .nil))))
        exact q _ _ _ _ n4 (callT 1 (by decide) (by decide)) ((((s1.trans s2).trans s3).trans s4).trans s5) d5 J9 (by omega)
      · refine .inr ⟨t2, 1 + (y : Int), _, rfl, rfl, SqT.of (J8.same _ _ upd_same), by simp, by omega, by omega, by show 1 ≤ 1000; decide, fun t3 nt3 => ⟨by show 4 ≤ sizeLine; decide, fun t nt => ?_⟩⟩
        obtain ⟨J9, s5, d5⟩ := J8.tup (K := K) nt3 (dp_rep (Dp.same ((s2.trans s3).trans s4) _ _ d1) (1 + (y : Int)).toNat)
        obtain ⟨J10, s6, d6⟩ := J9.tup (K := K) nt (.cons (.str "call") (.cons (.int p) (.cons (Dp.same (s4.trans s5) _ _ d3) (.cons d5 .nil))))
        exact q _ _ _ _ n4 (callT (1 + (y : Int)).toNat (by omega) (by omega)) (((((s1.trans s2).trans s3).trans s4).trans s5).trans s6) d6 J10 (by omega)
    · exact ⟨_, rfl, rfl, false, bl_f (fun z => c (by injection z; omega)), iteF ⟨rfl, rfl⟩⟩
  rintro σ' H2 ⟨rfl, rfl⟩
  have num4 : AtomG 20 ar (.tuple [.str "num", .int p, .int 4]) := .inr ⟨p, 4, hp, by decide +kernel, rfl⟩
  refine ⟨_, rfl, _, rfl, _, rfl, by show 3 ≤ sizeLine; decide, fun t1 nt1 => ?_⟩
  obtain ⟨J4, s2, d2⟩ := J3.tup (K := K) nt1 (.cons (.str "num") (.cons (.int p) (.cons (.int 4) .nil)))
  refine ⟨_, rfl, by show 3 ≤ sizeLine; decide, fun t2 nt2 => ?_⟩
  obtain ⟨J5, s3, d3⟩ := J4.tup (K := K) nt2 (.cons (Dp.same s2 _ _ d1) (.cons d2 (.cons (Dp.same s2 _ _ d1) .nil)))
  refine ⟨by show 4 ≤ sizeLine; decide, fun t3 nt3 => ?_⟩
  obtain ⟨J6, s4, d4⟩ := J5.tup (K := K) nt3 (.cons (.str "con") (.cons (.int p) (.cons (.str "Fork") (.cons d3 .nil))))
  refine ⟨_, rfl, Nat.zero_le _, fun t4 nt4 => ?_⟩
  obtain ⟨J7, s5, d5⟩ := J6.tup (K := K) nt4 .nil
  refine ⟨by show 4 ≤ sizeLine; decide, fun t5 nt5 => ?_⟩
  obtain ⟨J8, s6, d6⟩ := J7.tup (K := K) nt5 (.cons (.str "con") (.cons (.int p) (.cons (.str "Nil") (.cons d5 .nil))))
  refine ⟨_, rfl, by show 3 ≤ sizeLine; decide, fun t6 nt6 => ?_⟩
  obtain ⟨J9, s7, d7⟩ := J8.tup (K := K) nt6 (.cons (.str "fault") (.cons (.int p) (.cons (.str "none") .nil)))
  refine ⟨_, rfl, Nat.zero_le _, fun t7 nt7 => ?_⟩
  obtain ⟨J10, s8, d8⟩ := J9.tup (K := K) nt7 .nil
  refine ⟨by show 4 ≤ sizeLine; decide, fun t8 nt8 => ?_⟩
  obtain ⟨J11, s9, d9⟩ := J10.tup (K := K) nt8 (.cons (.str "con") (.cons (.int p) (.cons (.str "True") (.cons d8 .nil))))
  refine ⟨_, rfl, by show 4 ≤ sizeLine; decide, fun l nl => ?_⟩
  have J12 := J11.grow (u := .lst [.ref t5, .ref t6, .ref t8, .ref t3]) nl
  have s10 := Same.new (o := .lst [.ref t5, .ref t6, .ref t8, .ref t3]) (J11.none nl)
  have sAll := ((((((((s1.trans s2).trans s3).trans s4).trans s5).trans s6).trans s7).trans s8).trans s9).trans s10
  refine ⟨_, rfl, _, a, o, 4, n2, k, rfl, by decide, by decide, J12, by omega, fun x n3 H4 hx hn3 J13 => ?_⟩
  have hx' : x < 4 := by omega
  have fin : ∀ (v : V) (e : PyData), TipG ar e → Dp K _ v e → Q v H4 := fun v e ht hd => q _ v e H4 n3 ht sAll hd J13 (by omega)
  have q0 : TipG ar (.tuple [.str "con", .int p, .str "Nil", .tuple []]) := conT (Nat.zero_le _) (fun _ h => nomatch h) (by decide +kernel)
  have q2 : TipG ar (.tuple [.str "con", .int p, .str "True", .tuple []]) := conT (Nat.zero_le _) (fun _ h => nomatch h) (by decide +kernel)
  have q1 : TipG ar (.tuple [.str "fault", .int p, .str "none"]) := fun lo => (Gr.fault hp (by decide +kernel) (by decide)).mono (Nat.le_refl _) (Nat.le_refl _) (Nat.le_refl _) (Nat.le_refl _) (by decide)
  rcases x with _ | _ | _ | _ | x
  · exact ⟨l, _, 0, _, rfl, rfl, SqL.of (J13.same _ _ upd_same), atI_nat (j := 0) rfl, fin _ _ q0 (Dp.same ((((s7.trans s8).trans s9)).trans s10) _ _ d6)⟩
  · exact ⟨l, _, 1, _, rfl, rfl, SqL.of (J13.same _ _ upd_same), atI_nat (j := 1) rfl, fin _ _ q1 (Dp.same ((s8.trans s9).trans s10) _ _ d7)⟩
  · exact ⟨l, _, 2, _, rfl, rfl, SqL.of (J13.same _ _ upd_same), atI_nat (j := 2) rfl, fin _ _ q2 (Dp.same s10 _ _ d9)⟩
  · refine ⟨l, _, 3, _, rfl, rfl, SqL.of (J13.same _ _ upd_same), atI_nat (j := 3) rfl, fin _ _ ?_ (Dp.same (((((s5.trans s6).trans s7).trans s8).trans s9).trans s10) _ _ d4)⟩
    refine conT (as := [e1, .tuple [.str "num", .int p, .int 4], e1]) (show 3 ≤ 60 by decide) (fun e he => ?_) (show Dlaw "Fork" 3 = true by decide +kernel)
    rcases List.mem_cons.mp he with rfl | he
    · exact ha1
    rcases List.mem_cons.mp he with rfl | he
    · exact num4
    · rw [List.mem_singleton.mp he]
      exact ha1
  · omega
end
end J45

set_option Elab.async false
set_option maxRecDepth 100000
/-! a case of what is grown, whole -/
namespace J45
open PySem PySem.Spec PyProof.Rows L2 Hx Xr RN
def nmD (q : Int) (z : Str) : PyData := .tuple [.str "name", .int q, .str z]
def altM (m : Str) (ns : List Str) (e2 : PyData) : Alt := (.inr m, ns, e2)
def alt7 (p : Int) : Alt := (.inl 7, [], .tuple [.str "num", .int p, .int 1])
def altN (q : Int) (z : Str) : Alt := (.inr "Nil", [], nmD q z)
def asOf (tl : Bool) (m : Str) (ns : List Str) (e2 : PyData) (p q : Int) (z : Str) : List Alt := if tl then [alt7 p, altN q z] else [altM m ns e2, alt7 p, altN q z]
theorem grX {n : Int} {D : Str → Nat → Bool} {ar ar' : List Str} {lo hi cb nb d : Nat} {e : PyData} (h : Gr n D ar lo hi cb nb d e) (s : ∀ x ∈ ar, x ∈ ar') : Gr n D ar' lo hi cb nb d e :=
  ⟨h.le, fun L S hd ha hf => h.run L S hd (fun x hx => ha x (s x hx)) hf⟩
theorem case_gr {ar : List Str} {k k3 k4 cb nb d : Nat} {p q : Int} {x y z u m : Str} {ns : List Str} {e1 e2 : PyData} {oo : Option PyData} (tl : Bool)
    (gr1 : Gr 20 Dlaw ar (k + 4) k3 cb nb d e1) (gr2 : Gr 20 Dlaw (ar ++ [x, y, z]) k3 k4 cb nb d e2) (hp : inP 20 p = true) (hq : inP 20 q = true) (har : ∀ w ∈ ar, idx w ≤ k)
    (hx : nameB x = true ∧ x.length ≤ 60 ∧ idx x = k + 1) (hy : nameB y = true ∧ y.length ≤ 60 ∧ idx y = k + 2) (hz : nameB z = true ∧ z.length ≤ 60 ∧ idx z = k + 3) (hu : nameB u = true ∧ u.length ≤ 60 ∧ idx u = k + 4)
    (hmn : (m = "Cons" ∧ ns = [x, y]) ∨ (m = "Fork" ∧ ns = [x, y, u])) (how : oo = none ∨ oo = some (nmD q z)) :
    Gr 20 Dlaw ar k k4 (3 * cb + 6) (3 * nb + 20) (d + 1) (.tuple [.str "case", .int p, e1, .str z, .tuple ((asOf tl m ns e2 p q z).map altD), otherD oo]) := by
  have l1 := gr1.le
  have l2 := gr2.le
  have xy : x ≠ y := fun h => by have := hx.2.2; rw [h] at this; omega
  have xu : x ≠ u := fun h => by have := hx.2.2; rw [h] at this; omega
  have yu : y ≠ u := fun h => by have := hy.2.2; rw [h] at this; omega
  have xz : x ≠ z := fun h => by have := hx.2.2; rw [h] at this; omega
  have yz : y ≠ z := fun h => by have := hy.2.2; rw [h] at this; omega
  have uz : u ≠ z := fun h => by have := hu.2.2; rw [h] at this; omega
  have nsx : ns.Nodup ∧ ns.length ≤ 3 ∧ (∀ w ∈ ns, k < idx w ∧ idx w ≤ k + 4 ∧ w ≠ z ∧ nameB w = true ∧ w.length ≤ 1000) ∧ x ∈ ns ∧ y ∈ ns := by
    rcases hmn with ⟨_, rfl⟩ | ⟨_, rfl⟩
    · refine ⟨by simp [xy], (show 2 ≤ 3 by decide), fun w hw => ?_, by simp, by simp⟩
      rcases List.mem_cons.mp hw with rfl | hw
      · exact ⟨by omega, by omega, xz, hx.1, by omega⟩
      · rw [List.mem_singleton.mp hw]
        exact ⟨by omega, by omega, yz, hy.1, by omega⟩
    · refine ⟨by simp [xy, xu, yu], (show 3 ≤ 3 by decide), fun w hw => ?_, by simp, by simp⟩
      rcases List.mem_cons.mp hw with rfl | hw
      · exact ⟨by omega, by omega, xz, hx.1, by omega⟩
      rcases List.mem_cons.mp hw with rfl | hw
      · exact ⟨by omega, by omega, yz, hy.1, by omega⟩
      · rw [List.mem_singleton.mp hw]
        exact ⟨by omega, by omega, uz, hu.1, by omega⟩
  have wm : whatOk Dlaw (.inr m) ns.length = true := by
    rcases hmn with ⟨rfl, rfl⟩ | ⟨rfl, rfl⟩
    · show whatOk Dlaw (.inr "Cons") 2 = true
      decide +kernel
    · show whatOk Dlaw (.inr "Fork") 3 = true
      decide +kernel
  have mN : m ≠ "Nil" := by
    rcases hmn with ⟨rfl, _⟩ | ⟨rfl, _⟩ <;> decide
  have w7 : whatOk Dlaw (.inl 7) 0 = true := by decide +kernel
  have wN : whatOk Dlaw (.inr "Nil") 0 = true := by decide +kernel
  have inZ : z ∈ ar ++ ([] : List Str) ++ [z] := by simp
  have gN : ∀ {lo : Nat}, Gr 20 Dlaw (ar ++ ([] : List Str) ++ [z]) lo lo 0 0 d (nmD q z) := fun {lo} => (Gr.atom (lo := lo) (.inl ⟨q, z, hq, inZ, rfl⟩)).mono (Nat.le_refl _) (Nat.le_refl _) (Nat.le_refl _) (Nat.le_refl _) (Nat.zero_le _)
  have g7 : ∀ {lo : Nat}, Gr 20 Dlaw (ar ++ ([] : List Str) ++ [z]) lo lo 0 0 d (.tuple [.str "num", .int p, .int 1]) := fun {lo} => (Gr.atom (lo := lo) (.inr ⟨p, 1, hp, by decide +kernel, rfl⟩)).mono (Nat.le_refl _) (Nat.le_refl _) (Nat.le_refl _) (Nat.le_refl _) (Nat.zero_le _)
  have gM : Gr 20 Dlaw (ar ++ ns ++ [z]) k3 k4 cb nb d e2 := grX gr2 fun w hw => by
    rcases List.mem_append.mp hw with hw | hw
    · exact List.mem_append.mpr (.inl (List.mem_append.mpr (.inl hw)))
    rcases List.mem_cons.mp hw with rfl | hw
    · exact List.mem_append.mpr (.inl (List.mem_append.mpr (.inr nsx.2.2.2.1)))
    rcases List.mem_cons.mp hw with rfl | hw
    · exact List.mem_append.mpr (.inl (List.mem_append.mpr (.inr nsx.2.2.2.2)))
    · exact List.mem_append.mpr (.inr hw)
  have hzz : k < idx z ∧ idx z ≤ k + 4 ∧ nameB z = true ∧ z.length ≤ 1000 := ⟨by omega, by omega, hz.1, by omega⟩
  have oW : ∀ {lo : Nat}, Ways 20 Dlaw ar z d lo lo 0 0 (oo.toList.map fun e => (([] : List Str), e)) := fun {lo} => by
    rcases how with rfl | rfl
    · exact .nil
    · exact .cons gN .nil
  have oL : (oo.toList.map fun e => (([] : List Str), e)).length ≤ 1 := by
    rcases how with rfl | rfl
    · exact Nat.zero_le _
    · exact Nat.le_refl _
  cases tl with
  | true =>
    have W : Ways 20 Dlaw ar z d k3 k3 0 0 (ways [alt7 p, altN q z] oo) := .cons g7 (.cons gN oW)
    have WL : (ways [alt7 p, altN q z] oo).length ≤ 3 := by
      show ((oo.toList.map fun e => (([] : List Str), e)).length + 1 + 1) ≤ 3
      omega
    refine (Gr.case (m0 := k + 4) (as := [alt7 p, altN q z]) hp hzz (show 2 ≤ 60 by decide) ?_ ?_ List.nodup_nil (fun w hw => nomatch hw) har gr1 W).mono (Nat.le_refl _) l2 (by omega) (by show nb + 0 + 1 + 0 ≤ _; omega) (Nat.le_refl _)
    · show [(Sum.inl 7 : Key), .inr "Nil"].Nodup
      decide +kernel
    · intro a ha
      rcases List.mem_cons.mp ha with rfl | ha
      · exact ⟨Nat.zero_le _, w7⟩
      · rw [List.mem_singleton.mp ha]
        exact ⟨Nat.zero_le _, wN⟩
  | false =>
    have W : Ways 20 Dlaw ar z d k3 k4 (cb + 0) (nb + 0 + ns.length) (ways [altM m ns e2, alt7 p, altN q z] oo) := .cons gM (.cons g7 (.cons gN oW))
    have WL : (ways [altM m ns e2, alt7 p, altN q z] oo).length ≤ 4 := by
      show ((oo.toList.map fun e => (([] : List Str), e)).length + 1 + 1 + 1) ≤ 4
      omega
    have fm : [altM m ns e2, alt7 p, altN q z].flatMap (·.2.1) = ns := by
      show ns ++ ([] ++ ([] ++ [])) = ns
      simp
    have fl : ([altM m ns e2, alt7 p, altN q z].flatMap (·.2.1)).length ≤ 3 := by rw [fm]; exact nsx.2.1
    have nl := nsx.2.1
    refine (Gr.case (m0 := k + 4) (as := [altM m ns e2, alt7 p, altN q z]) hp hzz (by show 3 ≤ 60; decide) ?_ ?_ (by rw [fm]; exact nsx.1) (by rw [fm]; exact nsx.2.2.1) har gr1 W).mono (Nat.le_refl _) (Nat.le_refl _) (by omega) (by omega) (Nat.le_refl _)
    · show [(Sum.inr m : Key), .inl 7, .inr "Nil"].Nodup
      rw [List.nodup_cons]
      refine ⟨fun h => ?_, by decide +kernel⟩
      rcases List.mem_cons.mp h with h | h
      · cases h
      · have h2 := List.mem_singleton.mp h
        injection h2 with h2
        exact mN h2
    · intro a ha
      rcases List.mem_cons.mp ha with rfl | ha
      · exact ⟨by show ns.length ≤ 60; omega, wm⟩
      rcases List.mem_cons.mp ha with rfl | ha
      · exact ⟨Nat.zero_le _, w7⟩
      · rw [List.mem_singleton.mp ha]
        exact ⟨Nat.zero_le _, wN⟩
theorem other_at {K : PySem.W.Frag} {G : Hp} {t : Addr} {q : Int} {z : Str} (h : Dp K G (.ref t) (nmD q z)) {j : Nat} (hj : j < 2) : ∃ (ov : V) (oo : Option PyData), atI [V.non, V.ref t] (j : Int) = some ov ∧ Dp K G ov (otherD oo) ∧ (oo = none ∨ oo = some (nmD q z)) := by
  rcases j with _ | _ | j
  · exact ⟨.non, none, atI_nat (j := 0) rfl, .non, .inl rfl⟩
  · exact ⟨.ref t, some (nmD q z), atI_nat (j := 1) rfl, h, .inr rfl⟩
  · omega
theorem sl3_all (a b c : V) : HT.sIx [a, b, c].length 0 (some ((0 : Nat) : Int)) = 0 ∧ HT.sIx [a, b, c].length [a, b, c].length none = [a, b, c].length := by
  show HT.sIx 3 0 (some ((0 : Nat) : Int)) = 0 ∧ HT.sIx 3 3 none = 3
  decide
theorem sl3_tail (a b c : V) : ¬ (HT.sIx [a, b, c].length 0 (some ((1 : Nat) : Int)) = 0 ∧ HT.sIx [a, b, c].length [a, b, c].length none = [a, b, c].length) := by
  show ¬ (HT.sIx 3 0 (some ((1 : Nat) : Int)) = 0 ∧ HT.sIx 3 3 none = 3)
  decide
end J45

set_option Elab.async false
set_option maxRecDepth 100000
/-! what the law grows -/
namespace J45
open PySem PySem.Spec PyProof.Rows L2 Hx Xr RN
abbrev sGrown : Stmt := top 57
section
variable {P : Program} {w : World} {K : PySem.W.Frag} {mg : Str → Option Value} {base : Heap}
theorem scGrown : FnScope ["_law_purse_here", "_law_own", "_law_around", "_law_deep", "_law_p", "_law_q", "_law_way", "_law_many", "_law_x", "_law_y", "_law_z", "_law_w", "_law_k", "_law_one", "_law_both", "_law_rows", "_law_other"] ["_law_purse_here", "_law_own", "_law_around", "_law_deep"] (defScope sGrown) := ⟨rfl, rfl, rfl, by decide +kernel, rfl, by decide +kernel, by decide +kernel⟩
theorem PuAt.take {G H : Hp} {a o : Addr} {n k : Int} {T : Addr} {u : HO} (J : PuAt G H a o n k) (h : H T = some u) (h1 : a ≠ T) (h2 : o ≠ T) : PuAt (upd G T u) H a o n k := by
  refine ⟨fun b v e => ?_, (upd_ne h1).trans J.ga, (upd_ne h2).trans J.go, J.ne, J.pu, J.n0, J.ow⟩
  by_cases c : b = T
  · subst c
    rw [upd_same] at e
    rw [← e]
    exact h
  · rw [upd_ne c] at e
    exact J.same _ _ e
theorem PuAt.less {G H : Hp} {a o : Addr} {n k : Int} {T : Addr} {u : HO} (J : PuAt (upd G T u) H a o n k) (h : G T = Option.none) : PuAt G H a o n k := by
  have s := Same.new (o := u) h
  have g : ∀ {b : Addr}, upd G T u b = Option.none → G b = Option.none := fun {b} e => by
    cases e2 : G b with
    | none => rfl
    | some v => rw [s _ _ e2] at e; cases e
  exact ⟨s.trans J.same, g J.ga, g J.go, J.ne, J.pu, J.n0, J.ow⟩
theorem PuAt.set {G H : Hp} {a o : Addr} {n k : Int} {T : Addr} {u : HO} (J : PuAt G H a o n k) (g : G T = Option.none) (h1 : a ≠ T) (h2 : o ≠ T) : PuAt G (upd H T u) a o n k := by
  obtain ⟨x, c, hp, hx⟩ := J.pu
  exact ⟨Same.upd J.same g, J.ga, J.go, J.ne, ⟨x, c, (upd_ne h1).trans hp, hx⟩, J.n0, (upd_ne h2).trans J.ow⟩
theorem PuAt.apart {G H : Hp} {a o : Addr} {n k : Int} {T : Addr} (J : PuAt G H a o n k) (h : H T = Option.none) : a ≠ T ∧ o ≠ T := by
  obtain ⟨x, c, hp, hx⟩ := J.pu
  exact ⟨fun z => (by rw [← z, hp] at h; cases h), fun z => (by rw [← z, J.ow] at h; cases h)⟩
theorem inP_nat {p : Nat} (h : p < 20) : inP 20 (p : Int) = true := by
  unfold inP
  rw [Bool.and_eq_true, decide_eq_true_eq, decide_eq_true_eq]
  omega
theorem AroundAt.cat {G : Hp} {r T : Addr} {ar xs : List Str} (h : AroundAt G r ar) (hT : G T = none) (ho : ∀ x ∈ xs, PyData.strOk x = true) (hl : ar.length + xs.length ≤ 1000) : AroundAt (upd G T (.lst (ar.map V.str ++ xs.map V.str))) T (ar ++ xs) :=
  ⟨by rw [upd_same, List.map_append], fun z => h.ne (List.append_eq_nil_iff.mp z).1, fun x hx => (List.mem_append.mp hx).elim (h.ok x) (ho x), by rw [List.length_append]; exact hl⟩
theorem lsz (ar : List Str) (h : ar.length ≤ 1000) (m : Nat) (hm : m ≤ 10) : (ar.map V.str).length + m ≤ sizeLine := by
  rw [List.length_map]
  exact Nat.le_trans (Nat.add_le_add h hm) (by decide)
theorem deed_at {j : Nat} (h : j < 3) : ∃ d : Str, atI [V.str "plus", V.str "below", V.str "same"] (j : Int) = some (V.str d) ∧ d ∈ (["plus", "less", "times", "below", "same"] : List Str) := by
  rcases j with _ | _ | _ | j
  · exact ⟨"plus", atI_nat (j := 0) rfl, by simp⟩
  · exact ⟨"below", atI_nat (j := 1) rfl, by simp⟩
  · exact ⟨"same", atI_nat (j := 2) rfl, by simp⟩
  · omega
theorem gr1x {n : Int} {D : Str → Nat → Bool} (ar xs : List Str) {lo hi cb nb d : Nat} {e : PyData} (h : Gr n D ar lo hi cb nb d e) : Gr n D (ar ++ xs) lo hi cb nb d e :=
  ⟨h.le, fun L S hd ha hf => h.run L S hd (fun x hx => ha x (List.mem_append.mpr (.inl hx))) hf⟩
theorem sl_one (a b : V) : ¬ (HT.sIx [a, b].length 0 none = 0 ∧ HT.sIx [a, b].length [a, b].length (some (1 + ((0 : Nat) : Int))) = [a, b].length) := by
  show ¬ (HT.sIx 2 0 none = 0 ∧ HT.sIx 2 2 (some (1 + ((0 : Nat) : Int))) = 2)
  decide
theorem sl_tail (a b : V) : ¬ (HT.sIx [a, b].length 0 (some (1 : Int)) = 0 ∧ HT.sIx [a, b].length [a, b].length none = [a, b].length) := by
  show ¬ (HT.sIx 2 0 (some (1 : Int)) = 0 ∧ HT.sIx 2 2 none = 2)
  decide
theorem sl_two (a b : V) : HT.sIx [a, b].length 0 none = 0 ∧ HT.sIx [a, b].length [a, b].length (some (1 + ((1 : Nat) : Int))) = [a, b].length := by
  show HT.sIx 2 0 none = 0 ∧ HT.sIx 2 2 (some (1 + ((1 : Nat) : Int))) = 2
  decide
theorem grS {n : Int} {D : Str → Nat → Bool} {ar ar' : List Str} {lo hi cb nb d : Nat} {e : PyData} (h : Gr n D ar lo hi cb nb d e) (s : ∀ x ∈ ar, x ∈ ar') : Gr n D ar' lo hi cb nb d e :=
  ⟨h.le, fun L S hd ha hf => h.run L S hd (fun x hx => ha x (s x hx)) hf⟩
/-- a heap without one object -/
def offG (G : Hp) (T : Addr) : Hp := fun b => if b = T then none else G b
theorem offG_at {G : Hp} {T : Addr} : offG G T T = none := if_pos rfl
theorem offG_sub {G : Hp} {T : Addr} : Same (offG G T) G := fun b u e => by
  unfold offG at e
  by_cases c : b = T
  · rw [if_pos c] at e
    cases e
  · rw [if_neg c] at e
    exact e
theorem offG_from {G0 G : Hp} {T : Addr} (s : Same G0 G) (h : G0 T = none) : Same G0 (offG G T) := fun b u e => by
  unfold offG
  rw [if_neg (fun z => by rw [z, h] at e; cases e)]
  exact s _ _ e
theorem PuAt.off {G H : Hp} {a o : Addr} {n k : Int} {T : Addr} (J : PuAt G H a o n k) : PuAt (offG G T) H a o n k := by
  have g : ∀ {b : Addr}, G b = Option.none → offG G T b = Option.none := fun {b} e => by
    unfold offG
    split
    · rfl
    · exact e
  exact ⟨offG_sub.trans J.same, g J.ga, g J.go, J.ne, J.pu, J.n0, J.ow⟩
/-- grown d deep: judged right; how many draws, names, parts -/
def spGrown (K : PySem.W.Frag) (d : Nat) (cn : Int) (ck cb nb : Nat) : Sp := fun vs H Q _ => ∃ (G : Hp) (a o r : Addr) (n : Int) (k : Nat) (ar : List Str), vs = [.ref a, .ref o, .ref r, .int (d : Int)] ∧ PuAt G H a o n (k : Int) ∧ AroundAt G r ar ∧ (∀ y ∈ ar, idx y ≤ k) ∧ ar.length + 4 * d ≤ 900 ∧ k + ck < 65 ∧ n + cn ≤ 1000000 ∧
  ∀ (G' : Hp) (v : V) (e : PyData) (H' : Hp) (n' : Int) (k' : Nat), Gr 20 Dlaw ar k k' cb nb (d + 1) e → Same G G' → Dp K G' v e → PuAt G' H' a o n' (k' : Int) → n' ≤ n + cn → k' ≤ k + ck → Q v H'
set_option maxHeartbeats 8000000 in
theorem ok_grown {d ck cb nb : Nat} {cn : Int} (cn0 : 0 ≤ cn) {f fD fF fT fG : Addr} {fd fdD fdF fdT fdG : FuncData} (F : Fun K "_law_grown" "_law_grown" sGrown f fd) (gRa : mg "range" = none)
    (GD : FnOk P w K mg base CX0 2 fD fdD ["_law_purse_here", "_law_out_of"] spDraw) (kD : PySem.W.keepIn K (.ref fD) = true) (bD : Binds K fdD ["_law_purse_here", "_law_out_of"] []) (gD : mg "_law_draw" = some (.ref fD))
    (GF : FnOk P w K mg base CX0 3 fF fdF ["_law_purse_here", "_law_own"] spFresh) (kF : PySem.W.keepIn K (.ref fF) = true) (bF : Binds K fdF ["_law_purse_here", "_law_own"] []) (gF : mg "_law_fresh" = some (.ref fF))
    (GT : FnOk P w K mg base CX0 4 fT fdT ["_law_purse_here", "_law_own", "_law_around", "_law_p"] (spTip K)) (kT : PySem.W.keepIn K (.ref fT) = true) (bT : Binds K fdT ["_law_purse_here", "_law_own", "_law_around", "_law_p"] []) (gT : mg "_law_tip" = some (.ref fT))
    (GG : FnOk P w K mg base CX0 (d + 5) fG fdG ["_law_purse_here", "_law_own", "_law_around", "_law_deep"] (spGrown K d cn ck cb nb)) (kG : PySem.W.keepIn K (.ref fG) = true) (bG : Binds K fdG ["_law_purse_here", "_law_own", "_law_around", "_law_deep"] []) (gG : mg "_law_grown" = some (.ref fG)) :
    FnOk P w K mg base CX0 (d + 6) f fd ["_law_purse_here", "_law_own", "_law_around", "_law_deep"] (spGrown K (d + 1) (3 * cn + 30) (3 * ck + 4) (3 * cb + 6) (3 * nb + 20)) := by
  refine F.ok scGrown (fun vs H Q E h => ?_) (fun cdv A outer st H vs Q E hr h => ?_)
  · obtain ⟨G, a, o, r, n, k, ar, rfl, _⟩ := h
    rfl
  obtain ⟨G, a, o, r, n, k, ar, rfl, J, hA, hx, har9, hk, hn, q⟩ := h
  refine ⟨_, (pss_cons (ps_asg (pe_lc (own := [("_law_many", 7)]) (g := gName 7) (tt := tYes) rfl scGrown.nd (pi_list (pe_lst (pa_cons pe_int (pa_cons pe_int (pa_cons pe_int pa_nil))))) (blkOk_by (own := [("_law_many", 7)]) (N := ["_law_purse_here", "_law_own", "_law_around", "_law_deep", "_law_p", "_law_q", "_law_way", "_law_many", "_law_x", "_law_y", "_law_z", "_law_w", "_law_k", "_law_one", "_law_both", "_law_rows", "_law_other"]) (sc := defScope sGrown) (by decide +kernel)) (fun _ _ _ _ _ => pg_name (i := 7) scGrown.nd rfl (.inl rfl)) (fun _ _ _ _ _ => pts_nil) (fun _ _ _ _ _ => (pe_call GD (hr.mono (by omega)) rfl gD kD bD .nil pass0 (pa_cons (pv 0) (pa_cons (pv 7) pa_nil))))) (pg_unl rfl (pgs_cons (pg_name (i := 4) scGrown.nd rfl (.inl rfl)) (pgs_cons (pg_name (i := 5) scGrown.nd rfl (.inl rfl)) (pgs_cons (pg_name (i := 6) scGrown.nd rfl (.inl rfl)) pgs_nil)))))
      (pss_cons (ps_if (PW.pt (pw_or (pt_cmpR op_eq (pv 3) pe_int (nomark _)) (pw_or1 (pt_cmpR op_lt (pv 6) pe_int (nomark _))))) (pss_one (ps_ret (pe_call GT (hr.mono (by omega)) rfl gT kT bT .nil pass0 (pa_cons (pv 0) (pa_cons (pv 1) (pa_cons (pv 2) (pa_cons (pv 4) pa_nil))))))) pss_nil)
      (pss_cons (ps_asg (pe_lc (own := [("_law_k", 12)]) (g := gName 12) (tt := tYes) rfl scGrown.nd (pi_range1 (by rfl) gRa (pa_cons pe_int pa_nil)) (blkOk_by (own := [("_law_k", 12)]) (N := ["_law_purse_here", "_law_own", "_law_around", "_law_deep", "_law_p", "_law_q", "_law_way", "_law_many", "_law_x", "_law_y", "_law_z", "_law_w", "_law_k", "_law_one", "_law_both", "_law_rows", "_law_other"]) (sc := defScope sGrown) (by decide +kernel)) (fun _ _ _ _ _ => pg_name (i := 12) scGrown.nd rfl (.inl rfl)) (fun _ _ _ _ _ => pts_nil) (fun _ _ _ _ _ => (pe_call GF (hr.mono (by omega)) rfl gF kF bF .nil pass0 (pa_cons (pv 0) (pa_cons (pv 1) pa_nil))))) (pg_unl rfl (pgs_cons (pg_name (i := 8) scGrown.nd rfl (.inl rfl)) (pgs_cons (pg_name (i := 9) scGrown.nd rfl (.inl rfl)) (pgs_cons (pg_name (i := 10) scGrown.nd rfl (.inl rfl)) (pgs_cons (pg_name (i := 11) scGrown.nd rfl (.inl rfl)) pgs_nil))))))
      (pss_cons (ps_set (i := 13) scGrown.nd rfl (.inl rfl) (pe_call GG (hr.mono (by omega)) rfl gG kG bG .nil pass0 (pa_cons (pv 0) (pa_cons (pv 1) (pa_cons (pv 2) (pa_cons (pe_op op_sub (pv 3) pe_int) pa_nil))))))
      (pss_cons (ps_if (pt_cmpR op_eq (pv 6) pe_int (nomark _)) (pss_one (ps_ret (pe_tup (pa_cons pe_str (pa_cons (pv 4) (pa_cons (pv 5) (pa_cons pe_str (pa_cons (pv 13) pa_nil)))))))) pss_nil)
      (pss_cons (ps_if (pt_cmpR op_eq (pv 6) pe_int (nomark _)) (pss_one (ps_ret (pe_tup (pa_cons pe_str (pa_cons (pv 4) (pa_cons (pv 8) (pa_cons (pv 13) (pa_cons (pv 5) (pa_cons (pe_call GG (hr.mono (by omega)) rfl gG kG bG .nil pass0 (pa_cons (pv 0) (pa_cons (pv 1) (pa_cons (pe_op op_cat (pv 2) (pe_lst (pa_cons (pv 8) pa_nil))) (pa_cons (pe_op op_sub (pv 3) pe_int) pa_nil))))) pa_nil))))))))) pss_nil)
      (pss_cons (ps_if (pt_cmpR op_eq (pv 6) pe_int (nomark _)) (pss_one (ps_ret (pe_tup (pa_cons pe_str (pa_cons (pv 4) (pa_cons (pe_tup (pa_cons (pv 8) (pa_cons (pv 9) pa_nil))) (pa_cons (pe_call GG (hr.mono (by omega)) rfl gG kG bG .nil pass0 (pa_cons (pv 0) (pa_cons (pv 1) (pa_cons (pe_op op_cat (pv 2) (pe_lst (pa_cons (pv 8) (pa_cons (pv 9) pa_nil)))) (pa_cons (pe_op op_sub (pv 3) pe_int) pa_nil))))) pa_nil))))))) pss_nil)
      (pss_cons (ps_if (pt_cmpR op_lt (pv 6) pe_int (nomark _)) (pss_cons (ps_set (i := 14) scGrown.nd rfl (.inl rfl) (pe_op op_cat (pv 2) (pe_lst (pa_cons (pv 8) (pa_cons (pv 9) pa_nil)))))
      (pss_cons (ps_set (i := 15) scGrown.nd rfl (.inl rfl) (pe_tup (pa_cons (pe_tup (pa_cons (pv 8) (pa_cons (pv 13) pa_nil))) (pa_cons (pe_tup (pa_cons (pv 9) (pa_cons (pe_call GG (hr.mono (by omega)) rfl gG kG bG .nil pass0 (pa_cons (pv 0) (pa_cons (pv 1) (pa_cons (pv 14) (pa_cons (pe_op op_sub (pv 3) pe_int) pa_nil))))) pa_nil))) pa_nil))))
      (pss_one (ps_ret (pe_tup (pa_cons pe_str (pa_cons (pv 4) (pa_cons (pe_slice sl_tupA (pv 15) po_none (po_some (pe_op op_add pe_int (pe_call GD (hr.mono (by omega)) rfl gD kD bD .nil pass0 (pa_cons (pv 0) (pa_cons pe_int pa_nil)))))) (pa_cons (pe_call GG (hr.mono (by omega)) rfl gG kG bG .nil pass0 (pa_cons (pv 0) (pa_cons (pv 1) (pa_cons (pe_op op_cat (pv 2) (pe_lst (pa_cons (pv 8) pa_nil))) (pa_cons (pe_op op_sub (pv 3) pe_int) pa_nil))))) pa_nil))))))))) pss_nil)
      (pss_cons (ps_if (pt_cmpR op_lt (pv 6) pe_int (nomark _)) (pss_cons (ps_set (i := 15) scGrown.nd rfl (.inl rfl) (pe_tup (pa_cons (pe_tup (pa_cons pe_str (pa_cons (pe_tup (pa_cons (pv 8) (pa_cons (pv 9) pa_nil))) (pa_cons (pe_call GG (hr.mono (by omega)) rfl gG kG bG .nil pass0 (pa_cons (pv 0) (pa_cons (pv 1) (pa_cons (pe_op op_cat (pv 2) (pe_lst (pa_cons (pv 8) (pa_cons (pv 9) (pa_cons (pv 10) pa_nil))))) (pa_cons (pe_op op_sub (pv 3) pe_int) pa_nil))))) pa_nil)))) (pa_cons (pe_tup (pa_cons pe_int (pa_cons (pe_tup pa_nil) (pa_cons (pe_tup (pa_cons pe_str (pa_cons (pv 4) (pa_cons pe_int pa_nil)))) pa_nil)))) pa_nil)))) (C8.pss_cut (ps_if (pt_cmpR op_eq (pe_call GD (hr.mono (by omega)) rfl gD kD bD .nil pass0 (pa_cons (pv 0) (pa_cons pe_int pa_nil))) pe_int (nomark _)) (pss_one (ps_set (i := 15) scGrown.nd rfl (.inl rfl) (pe_op op_catA (pe_tup (pa_cons (pe_tup (pa_cons pe_str (pa_cons (pe_tup (pa_cons (pv 8) (pa_cons (pv 9) (pa_cons (pv 11) pa_nil)))) (pa_cons (pe_ix ix_tup (pe_ix ix_tup (pv 15) pe_int (fun _ _ => rfl)) pe_int (fun _ _ => rfl)) pa_nil)))) pa_nil)) (pe_slice sl_tupA (pv 15) (po_some pe_int) po_none)))) pss_nil) (pss_cons (ps_set (i := 15) scGrown.nd rfl (.inl rfl) (pe_op op_catA (pv 15) (pe_tup (pa_cons (pe_tup (pa_cons pe_str (pa_cons (pe_tup pa_nil) (pa_cons (pe_tup (pa_cons pe_str (pa_cons (pv 5) (pa_cons (pv 10) pa_nil)))) pa_nil)))) pa_nil))))
      (pss_cons (ps_set (i := 16) scGrown.nd rfl (.inl rfl) (pe_ix ix_list (pe_lst (pa_cons pe_non (pa_cons (pe_tup (pa_cons pe_str (pa_cons (pv 5) (pa_cons (pv 10) pa_nil)))) pa_nil))) (pe_call GD (hr.mono (by omega)) rfl gD kD bD .nil pass0 (pa_cons (pv 0) (pa_cons pe_int pa_nil))) (fun _ _ => rfl)))
      (pss_one (ps_ret (pe_tup (pa_cons pe_str (pa_cons (pv 4) (pa_cons (pv 13) (pa_cons (pv 10) (pa_cons (pe_slice sl_tupA (pv 15) (po_some (pe_call GD (hr.mono (by omega)) rfl gD kD bD .nil pass0 (pa_cons (pv 0) (pa_cons pe_int pa_nil)))) po_none) (pa_cons (pv 16) pa_nil))))))))))))) pss_nil)
      (pss_one (ps_ret (pe_tup (pa_cons pe_str (pa_cons (pv 4) (pa_cons (pe_ix ix_list (pe_lst (pa_cons pe_str (pa_cons pe_str (pa_cons pe_str pa_nil)))) (pe_call GD (hr.mono (by omega)) rfl gD kD bD .nil pass0 (pa_cons (pv 0) (pa_cons pe_int pa_nil))) (fun _ _ => rfl)) (pa_cons (pv 13) (pa_cons (pe_call GG (hr.mono (by omega)) rfl gG kG bG .nil pass0 (pa_cons (pv 0) (pa_cons (pv 1) (pa_cons (pv 2) (pa_cons (pe_op op_sub (pv 3) pe_int) pa_nil))))) pa_nil))))))))))))))))), ?_⟩
  have hAl := Nat.pos_of_ne_zero fun z => hA.ne (List.length_eq_zero_iff.mp z)
  refine ⟨by show 3 ≤ sizeLine; decide, fun l nl => ⟨l, rfl, ⟨_, SqL.of upd_same⟩, fun Dl nD => ?_⟩⟩
  have J1 := J.grow (u := .lst [.int 20, .int 20, .int 11]) nl
  have s1 : Same G (upd G l (.lst [.int 20, .int 20, .int 11])) := Same.new (J.none nl)
  have gD := J1.none nD
  obtain ⟨aD, oD⟩ := J1.apart nD
  refine lc_list (K := K) (a := l) (xs := [.int 20, .int 20, .int 11]) (fun i Hk => ∃ (js : List Nat) (n1 : Int), js.length = i ∧ Hk Dl = some (.lst (js.map fun j : Nat => V.int (j : Int))) ∧ (∀ (c j : Nat), js[c]? = some j → j < if c = 2 then 11 else 20) ∧ PuAt (upd G l (.lst [.int 20, .int 20, .int 11])) Hk a o n1 (k : Int) ∧ n1 ≤ n + i)
    ⟨[], n, rfl, upd_same, fun c j h => by simp at h, J1.set gD aD oD, by omega⟩ (fun i Hk _ ⟨_, _, _, _, _, J2, _⟩ => SqL.of (J2.same _ _ upd_same)) ?_ ?_
  · rintro i y Hk hy ⟨js, n1, hl, hDl, hb, J2, hn1⟩
    have J3 := J2.take hDl aD oD
    have one : ∀ s : Nat, 1 ≤ s → s ≤ 20 → (s = if i = 2 then 11 else 20) → i < 3 → ∀ (j : Nat) (n2 : Int) (H4 : Hp), (j : Int) < s → n2 ≤ n1 + 1 → PuAt (upd (upd G l (.lst [.int 20, .int 20, .int 11])) Dl (.lst (js.map fun j : Nat => V.int (j : Int)))) H4 a o n2 (k : Int) →
        ∃ acc, H4 Dl = some (.lst acc) ∧ acc.length < sizeLine ∧ (∃ (js : List Nat) (n1 : Int), js.length = i + 1 ∧ upd H4 Dl (.lst (acc ++ [.int (j : Int)])) Dl = some (.lst (js.map fun j : Nat => V.int (j : Int))) ∧ (∀ (c j : Nat), js[c]? = some j → j < if c = 2 then 11 else 20) ∧ PuAt (upd G l (.lst [.int 20, .int 20, .int 11])) (upd H4 Dl (.lst (acc ++ [.int (j : Int)]))) a o n1 (k : Int) ∧ n1 ≤ n + ((i + 1 : Nat) : Int)) := by
      intro s h1 h2 hs i3 j n2 H4 hj hn2 J4
      refine ⟨_, J4.same _ _ upd_same, ?_, js ++ [j], n2, by simp [hl], ?_, ?_, (J4.less gD).set gD aD oD, by omega⟩
      · rw [List.length_map, hl]
        exact Nat.lt_trans i3 (by decide)
      · rw [upd_same, List.map_append]
        rfl
      · intro c j' hc
        by_cases cl : c < js.length
        · rw [List.getElem?_append_left cl] at hc
          exact hb c j' hc
        · rw [List.getElem?_append_right (by omega)] at hc
          have c0 : c - js.length = 0 := by
            rcases Nat.eq_zero_or_pos (c - js.length) with z | z
            · exact z
            · rw [List.getElem?_eq_none (show 1 ≤ c - js.length from z)] at hc
              cases hc
          rw [c0] at hc
          cases hc
          have ci : c = i := by omega
          rw [ci, ← hs]
          omega
    rcases i with _ | _ | _ | i
    · cases hy
      refine ⟨rfl, ?_⟩
      dsimp only [tYes]
      rw [if_pos rfl]
      refine ⟨_, rfl, _, rfl, _, a, o, 20, n1, k, rfl, by decide, by decide, J3, by omega, fun j n2 H4 hj hn2 J4 => one 20 (by decide) (by decide) rfl (by decide) j n2 H4 hj hn2 J4⟩
    · cases hy
      refine ⟨rfl, ?_⟩
      dsimp only [tYes]
      rw [if_pos rfl]
      refine ⟨_, rfl, _, rfl, _, a, o, 20, n1, k, rfl, by decide, by decide, J3, by omega, fun j n2 H4 hj hn2 J4 => one 20 (by decide) (by decide) rfl (by decide) j n2 H4 hj hn2 J4⟩
    · cases hy
      refine ⟨rfl, ?_⟩
      dsimp only [tYes]
      rw [if_pos rfl]
      refine ⟨_, rfl, _, rfl, _, a, o, 11, n1, k, rfl, by decide, by decide, J3, by omega, fun j n2 H4 hj hn2 J4 => one 11 (by decide) (by decide) rfl (by decide) j n2 H4 hj hn2 J4⟩
    · cases hy
  rintro Hk ⟨js, n1, hl, hDl, hb, J2, hn1⟩
  obtain ⟨p, qq, w11, rfl⟩ : ∃ p qq w11, js = [p, qq, w11] := by
    rcases js with _ | ⟨p, _ | ⟨qq, _ | ⟨w11, _ | ⟨y, js⟩⟩⟩⟩
    · cases hl
    · cases hl
    · cases hl
    · exact ⟨p, qq, w11, rfl⟩
    · simp at hl
  have hp20 : inP 20 (p : Int) = true := inP_nat (by simpa using hb 0 p rfl)
  have hq20 : inP 20 (qq : Int) = true := inP_nat (by simpa using hb 1 qq rfl)
  have hw11 : w11 < 11 := by simpa using hb 2 w11 rfl
  clear hb
  replace hn1 : n1 ≤ n + 3 := hn1
  refine ⟨Dl, _, rfl, SqL.of hDl, rfl, _, _, rfl, _, _, rfl, _, _, rfl, rfl, ?_⟩
  have hA1 := hA.up s1
  generalize upd G l (.lst [.int 20, .int 20, .int 11]) = G1 at *
  refine ⟨_, rfl, rfl, false, bl_f (fun z => by injection z; omega), iteF ?_⟩
  refine ⟨_, rfl, _, _, rfl, rfl, _, rfl, ?_⟩
  refine ite2 (fun _ => ?_) (fun hw2 => ?_)
  · refine ⟨_, rfl, _, rfl, _, rfl, _, rfl, G1, a, o, r, n1, k, p, ar, rfl, hp20, J2, hA1, by omega, fun G2 v e H3 n3 ht s2 d2 J3 hn3 => ?_⟩
    exact q G2 v e H3 n3 k ((ht k).mono (Nat.le_refl _) (Nat.le_refl _) (Nat.zero_le _) (Nat.zero_le _) (by omega)) (s1.trans s2) d2 J3 (by omega) (by omega)
  have w2 : 2 ≤ w11 := by
    have : ¬ ((w11 : Int) < 2) := fun z => hw2 (decide_eq_true z)
    omega
  refine ⟨4, rfl, by decide, by decide, fun D2 nD2 => ?_⟩
  have gD2 := J2.none nD2
  obtain ⟨aD2, oD2⟩ := J2.apart nD2
  refine lc_it walk_range (fun i Hk => ∃ (G2 : Hp) (zs : List Str) (n2 : Int), Same G1 G2 ∧ G2 D2 = none ∧ zs.length = i ∧ Hk D2 = some (.lst (zs.map V.str)) ∧ (∀ (c : Nat) (z : Str), zs[c]? = some z → FreshN (k + 1 + c) z) ∧ PuAt G2 Hk a o n2 ((k + i : Nat) : Int) ∧ n2 ≤ n1 + 2 * i)
    ⟨G1, [], n1, fun _ _ e => e, gD2, rfl, upd_same, fun c z h => by simp at h, J2.set gD2 aD2 oD2, by omega⟩ (fun _ _ _ _ => True.intro) ?_ ?_
  · rintro i x Hk H3 hi ⟨G2, zs, n2, s2, g2, hz, hD2, hf, J3, hn2⟩ ⟨rfl, rfl⟩
    have hi4 : i < 4 := hi
    have J4 := J3.take hD2 aD2 oD2
    refine ⟨rfl, ?_⟩
    dsimp only [tYes]
    rw [if_pos rfl]
    refine ⟨_, rfl, _, rfl, _, a, o, n2, k + i, rfl, J4, by omega, by omega, fun G3 z H4 n3 hfz s3 J5 hn3 => ?_⟩
    refine ⟨_, J5.same _ _ (s3 _ _ upd_same), ?_, offG G3 D2, zs ++ [z], n3, ?_, offG_at, by simp [hz], ?_, ?_, ?_, by omega⟩
    · rw [List.length_map, hz]
      exact Nat.lt_trans hi4 (by decide)
    · exact s2.trans (offG_from ((Same.new g2).trans s3) g2)
    · rw [upd_same, List.map_append]
      rfl
    · intro c z' hc
      by_cases cl : c < zs.length
      · rw [List.getElem?_append_left cl] at hc
        exact hf c z' hc
      · rw [List.getElem?_append_right (by omega)] at hc
        have c0 : c - zs.length = 0 := by
          rcases Nat.eq_zero_or_pos (c - zs.length) with h | h
          · exact h
          · rw [List.getElem?_eq_none (show 1 ≤ c - zs.length from h)] at hc
            cases hc
        rw [c0] at hc
        cases hc
        have ci : c = i := by omega
        rw [ci, show k + 1 + i = k + i + 1 by omega]
        exact hfz
    · exact (J5.off (T := D2)).set offG_at aD2 oD2
  rintro Hk ⟨G2, zs, n2, s2, g2, hz, hD2, hf, J3, hn2⟩
  obtain ⟨x, y, z, u4, rfl⟩ : ∃ x y z u4, zs = [x, y, z, u4] := by
    rcases zs with _ | ⟨x, _ | ⟨y, _ | ⟨z, _ | ⟨u4, _ | ⟨u5, zs⟩⟩⟩⟩⟩
    · cases hz
    · cases hz
    · cases hz
    · cases hz
    · exact ⟨x, y, z, u4, rfl⟩
    · have : zs.length + 5 = 4 := hz
      omega
  obtain ⟨nx, lx, ix, ox⟩ := fresh_ok (hf 0 x rfl) (by omega)
  obtain ⟨ny, ly, iy, oy⟩ := fresh_ok (hf 1 y rfl) (by omega)
  obtain ⟨nz, lz, iz, oz⟩ := fresh_ok (hf 2 z rfl) (by omega)
  obtain ⟨nu, lu, iu, ou⟩ := fresh_ok (hf 3 u4 rfl) (by omega)
  clear hf hz
  replace hn2 : n2 ≤ n1 + 8 := hn2
  refine ⟨D2, _, rfl, SqL.of hD2, rfl, _, _, rfl, _, _, rfl, _, _, rfl, _, _, rfl, rfl, ?_⟩
  have hA2 := hA1.up s2
  have e1' : (((d + 1 : Nat) : Int) - 1) = (d : Int) := by omega
  refine ⟨_, rfl, _, rfl, _, rfl, _, rfl, _, _, rfl, rfl, G2, a, o, r, n2, k + 4, ar, (show [V.ref a, V.ref o, V.ref r, V.int (((d + 1 : Nat) : Int) - 1)] = _ by rw [e1']), J3, hA2, fun y hy => by have := hx y hy; omega, by omega, by omega, by omega, fun G3 v1 e1 H3 n3 k3 gr1 s3 d1 J4 hn3 hk3 => ?_⟩
  have hA3 := hA2.up s3
  have ww : w11 = 2 ∨ w11 = 3 ∨ w11 = 4 ∨ w11 = 5 ∨ w11 = 6 ∨ w11 = 7 ∨ w11 = 8 ∨ w11 = 9 ∨ w11 = 10 := by omega
  have har : ∀ w ∈ ar, idx w ≤ k := hx
  have sB := (s1.trans s2).trans s3
  have gl := gr1.le
  rcases ww with rfl | rfl | rfl | rfl | rfl | rfl | rfl | rfl | rfl
  · refine ⟨_, rfl, rfl, true, rfl, iteT ?_⟩
    refine ⟨_, rfl, _, rfl, _, rfl, by show 5 ≤ sizeLine; decide, fun t nt => ?_⟩
    obtain ⟨J5, s4, d4⟩ := J4.tup (K := K) nt (.cons (.str "now") (.cons (.int p) (.cons (.int qq) (.cons (.str "gone") (.cons d1 .nil)))))
    exact q _ _ _ _ n3 k3 ((Gr.now hp20 hq20 (by decide +kernel) (by decide) gr1).mono (by omega) (Nat.le_refl _) (by omega) (by omega) (Nat.le_refl _)) (sB.trans s4) d4 J5 (by omega) (by omega)
  · refine ⟨_, rfl, rfl, false, bl_f (by decide), iteF ⟨_, rfl, rfl, true, rfl, iteT ?_⟩⟩
    refine ⟨_, rfl, _, rfl, _, rfl, _, rfl, _, rfl, _, rfl, _, rfl, _, rfl, by show 1 ≤ sizeLine; decide, fun l2 nl2 => ?_⟩
    have J5 := J4.grow (u := .lst [.str x]) nl2
    have s4 : Same G3 (upd G3 l2 (.lst [.str x])) := Same.new (J4.none nl2)
    refine ⟨r, l2, _, _, rfl, rfl, J5.same _ _ (hA3.up s4).ls, upd_same, lsz ar hA.le 1 (by decide), fun l3 nl3 => ?_⟩
    have J6 := J5.grow (u := .lst (ar.map V.str ++ [.str x])) nl3
    have s5 := Same.new (o := .lst (ar.map V.str ++ [.str x])) (J5.none nl3)
    have hA4 := (hA3.up s4).cat (xs := [x]) (J5.none nl3) (fun y hy => by rw [List.mem_singleton.mp hy]; exact ox) (show ar.length + 1 ≤ 1000 by omega)
    refine ⟨_, rfl, _, _, rfl, rfl, _, a, o, l3, n3, k3, ar ++ [x], (show [V.ref a, V.ref o, V.ref l3, V.int (((d + 1 : Nat) : Int) - 1)] = _ by rw [e1']), J6, hA4, ?_, by rw [List.length_append]; show ar.length + 1 + 4 * d ≤ 900; omega, by omega, by omega, fun G4 v2 e2 H4 n4 k4 gr2 s6 d2 J7 hn4 hk4 => ⟨by show 6 ≤ sizeLine; decide, fun t nt => ?_⟩⟩
    · intro y hy
      rcases List.mem_append.mp hy with hy | hy
      · have := hx y hy
        omega
      · rw [List.mem_singleton.mp hy, ix]
        omega
    obtain ⟨J8, s7, d8⟩ := J7.tup (K := K) nt (.cons (.str "early") (.cons (.int p) (.cons (.str x) (.cons (Dp.same ((s4.trans s5).trans s6) _ _ d1) (.cons (.int qq) (.cons d2 .nil))))))
    have gl2 := gr2.le
    refine q _ _ _ _ n4 k4 ((Gr.early (lo := k) (m0 := k + 4) hp20 hq20 nx (by omega) har (by omega) (by omega) gr1 gr2).mono (Nat.le_refl _) (Nat.le_refl _) (by omega) (by omega) (Nat.le_refl _)) ((((sB.trans s4).trans s5).trans s6).trans s7) d8 J8 (by omega) (by omega)
  · refine ⟨_, rfl, rfl, false, bl_f (by decide), iteF ⟨_, rfl, rfl, false, bl_f (by decide), iteF ⟨_, rfl, rfl, true, rfl, iteT ?_⟩⟩⟩
    refine ⟨_, rfl, _, rfl, _, rfl, by show 2 ≤ sizeLine; decide, fun t2 nt2 => ?_⟩
    obtain ⟨J5, s4, d4⟩ := J4.tup (K := K) nt2 (.cons (.str x) (.cons (.str y) .nil))
    refine ⟨_, rfl, _, rfl, _, rfl, _, rfl, _, rfl, by show 2 ≤ sizeLine; decide, fun l2 nl2 => ?_⟩
    have J6 := J5.grow (u := .lst [.str x, .str y]) nl2
    have s5 := Same.new (o := .lst [.str x, .str y]) (J5.none nl2)
    refine ⟨r, l2, _, _, rfl, rfl, J6.same _ _ ((hA3.up s4).up s5).ls, upd_same, lsz ar hA.le 2 (by decide), fun l3 nl3 => ?_⟩
    have J7 := J6.grow (u := .lst (ar.map V.str ++ [.str x, .str y])) nl3
    have s6 := Same.new (o := .lst (ar.map V.str ++ [.str x, .str y])) (J6.none nl3)
    have hA4 := ((hA3.up s4).up s5).cat (xs := [x, y]) (J6.none nl3) (fun w hw => by
      rcases List.mem_cons.mp hw with rfl | hw
      · exact ox
      · rw [List.mem_singleton.mp hw]
        exact oy) (show ar.length + 2 ≤ 1000 by omega)
    refine ⟨_, rfl, _, _, rfl, rfl, _, a, o, l3, n3, k3, ar ++ [x, y], (show [V.ref a, V.ref o, V.ref l3, V.int (((d + 1 : Nat) : Int) - 1)] = _ by rw [e1']), J7, hA4, ?_, by rw [List.length_append]; show ar.length + 2 + 4 * d ≤ 900; omega, by omega, by omega, fun G4 v2 e2 H4 n4 k4 gr2 s7 d2 J8 hn4 hk4 => ⟨by show 4 ≤ sizeLine; decide, fun t nt => ?_⟩⟩
    · intro w hw
      rcases List.mem_append.mp hw with hw | hw
      · have := hx w hw
        omega
      rcases List.mem_cons.mp hw with rfl | hw
      · rw [ix]
        omega
      · rw [List.mem_singleton.mp hw, iy]
        omega
    obtain ⟨J9, s8, d8⟩ := J8.tup (K := K) nt (.cons (.str "fun") (.cons (.int p) (.cons (Dp.same ((s5.trans s6).trans s7) _ _ d4) (.cons d2 .nil))))
    have gl2 := gr2.le
    have xy : x ≠ y := fun z => by rw [z, iy] at ix; omega
    refine q _ _ _ _ n4 k4 ((Gr.func (lo := k) (m0 := k3) (xs := [x, y]) hp20 (fun z => nomatch z) (show 2 ≤ 60 by decide) (by simp [xy]) (fun w hw => by
      rcases List.mem_cons.mp hw with rfl | hw
      · exact ⟨by omega, by omega, nx, by omega⟩
      · rw [List.mem_singleton.mp hw]
        exact ⟨by omega, by omega, ny, by omega⟩) (by omega) har gr2).mono (Nat.le_refl _) (Nat.le_refl _) (by omega) (by show nb + 2 ≤ _; omega) (Nat.le_refl _)) (((((sB.trans s4).trans s5).trans s6).trans s7).trans s8) d8 J9 (by omega) (by omega)
  · refine ⟨_, rfl, rfl, false, bl_f (by decide), iteF ⟨_, rfl, rfl, false, bl_f (by decide), iteF ⟨_, rfl, rfl, false, bl_f (by decide), iteF ⟨_, rfl, _, _, rfl, rfl, true, bl_t (by decide), iteT ?_⟩⟩⟩⟩
    refine ⟨_, rfl, _, rfl, _, rfl, by show 2 ≤ sizeLine; decide, fun l2 nl2 => ?_⟩
    have J5 := J4.grow (u := .lst [.str x, .str y]) nl2
    have s4 := Same.new (o := .lst [.str x, .str y]) (J4.none nl2)
    refine ⟨r, l2, _, _, rfl, rfl, J5.same _ _ (hA3.up s4).ls, upd_same, lsz ar hA.le 2 (by decide), fun l3 nl3 => ?_⟩
    have J6 := J5.grow (u := .lst (ar.map V.str ++ [.str x, .str y])) nl3
    have s5 := Same.new (o := .lst (ar.map V.str ++ [.str x, .str y])) (J5.none nl3)
    have hA4 := (hA3.up s4).cat (xs := [x, y]) (J5.none nl3) (fun w hw => by
      rcases List.mem_cons.mp hw with rfl | hw
      · exact ox
      · rw [List.mem_singleton.mp hw]
        exact oy) (show ar.length + 2 ≤ 1000 by omega)
    refine ⟨_, rfl, _, rfl, by show 2 ≤ sizeLine; decide, fun t1 nt1 => ?_⟩
    obtain ⟨J7, s6, d6⟩ := J6.tup (K := K) nt1 (.cons (.str x) (.cons (Dp.same (s4.trans s5) _ _ d1) .nil))
    refine ⟨_, rfl, _, rfl, _, rfl, _, rfl, _, rfl, _, _, rfl, rfl, _, a, o, l3, n3, k3, ar ++ [x, y], (show [V.ref a, V.ref o, V.ref l3, V.int (((d + 1 : Nat) : Int) - 1)] = _ by rw [e1']), J7, hA4.up s6, ?_, by rw [List.length_append]; show ar.length + 2 + 4 * d ≤ 900; omega, by omega, by omega, fun G4 v2 e2 H4 n4 k4 gr2 s7 d2 J8 hn4 hk4 => ⟨by show 2 ≤ sizeLine; decide, fun t2 nt2 => ?_⟩⟩
    · intro w hw
      rcases List.mem_append.mp hw with hw | hw
      · have := hx w hw
        omega
      rcases List.mem_cons.mp hw with rfl | hw
      · rw [ix]
        omega
      · rw [List.mem_singleton.mp hw, iy]
        omega
    have gl2 := gr2.le
    have xy : x ≠ y := fun z => by rw [z, iy] at ix; omega
    obtain ⟨J9, s8, d8⟩ := J8.tup (K := K) nt2 (.cons (.str y) (.cons d2 .nil))
    refine ⟨by show 2 ≤ sizeLine; decide, fun t3 nt3 => ?_⟩
    obtain ⟨J10, s9, d9⟩ := J9.tup (K := K) nt3 (.cons (Dp.same (s7.trans s8) _ _ d6) (.cons d8 .nil))
    have sC := ((((((sB.trans s4).trans s5).trans s6).trans s7).trans s8).trans s9)
    have hA5 := ((((((hA3.up s4).up s5).up s6).up s7).up s8).up s9)
    refine ⟨_, rfl, _, rfl, _, rfl, _, a, o, 2, n4, k4, rfl, by decide, by decide, J10, by omega, fun jj n5 H5 hj hn5 J11 => ⟨_, _, rfl, rfl, _, rfl, ?_⟩⟩
    rcases (show jj = 0 ∨ jj = 1 by omega) with rfl | rfl
    · refine ⟨t3, _, rfl, SqT.of (J11.same _ _ upd_same), fun hw => absurd hw (sl_one _ _), fun _ t4 nt4 => ?_⟩
      obtain ⟨JA, sa, da⟩ := J11.tup (K := K) nt4 (.cons (Dp.same ((s7.trans s8).trans s9) _ _ d6) .nil)
      have hA8 := hA5.up sa
      refine ⟨_, rfl, _, rfl, _, rfl, _, rfl, by show 1 ≤ sizeLine; decide, fun l5 nl5 => ?_⟩
      have JB := JA.grow (u := .lst [.str x]) nl5
      have sb := Same.new (o := .lst [.str x]) (JA.none nl5)
      refine ⟨r, l5, _, _, rfl, rfl, JB.same _ _ (hA8.up sb).ls, upd_same, lsz ar hA.le 1 (by decide), fun l6 nl6 => ?_⟩
      have JC := JB.grow (u := .lst (ar.map V.str ++ [.str x])) nl6
      have sc := Same.new (o := .lst (ar.map V.str ++ [.str x])) (JB.none nl6)
      have hA9 := (hA8.up sb).cat (xs := [x]) (JB.none nl6) (fun w hw => by rw [List.mem_singleton.mp hw]; exact ox) (show ar.length + 1 ≤ 1000 by omega)
      refine ⟨_, rfl, _, _, rfl, rfl, _, a, o, l6, n5, k4, ar ++ [x], (show [V.ref a, V.ref o, V.ref l6, V.int (((d + 1 : Nat) : Int) - 1)] = _ by rw [e1']), JC, hA9, ?_, by rw [List.length_append]; show ar.length + 1 + 4 * d ≤ 900; omega, by omega, by omega, fun G5 v3 e3 H6 n6 k5 gr3 sd d3 JD hn6 hk5 => ⟨by show 4 ≤ sizeLine; decide, fun t nt => ?_⟩⟩
      · intro w hw
        rcases List.mem_append.mp hw with hw | hw
        · have := hx w hw
          omega
        · rw [List.mem_singleton.mp hw, ix]
          omega
      have gl3 := gr3.le
      obtain ⟨JE, se, de⟩ := JD.tup (K := K) nt (.cons (.str "let") (.cons (.int p) (.cons (Dp.same ((sb.trans sc).trans sd) _ _ da) (.cons d3 .nil))))
      refine q _ _ _ _ n6 k5 ((Gr.lets (lo := k) (m0 := k + 4) (bs := [(x, e1)]) hp20 (fun z => nomatch z) (show 1 ≤ 60 by decide) (by simp) (fun w hw => by
        have e : w = x := List.mem_singleton.mp hw
        rw [e]
        exact ⟨by omega, by omega, nx, by omega⟩) (by omega) har (.cons (gr1x ar [x] gr1) (.cons (gr3.mono (by omega) (Nat.le_refl _) (Nat.le_refl _) (Nat.le_refl _) (Nat.le_refl _)) .nil))).mono (Nat.le_refl _) (Nat.le_refl _) (by show cb + (cb + 0) + 1 + 1 ≤ _; omega) (by show nb + (nb + 0) + 1 ≤ _; omega) (Nat.le_refl _)) (((((sC.trans sa).trans sb).trans sc).trans sd).trans se) de JE (by omega) (by omega)
    · refine ⟨t3, _, rfl, SqT.of (J11.same _ _ upd_same), fun _ => ?_, fun hw => absurd (sl_two _ _) hw⟩
      have JA := J11
      have hA8 := hA5
      refine ⟨_, rfl, _, rfl, _, rfl, _, rfl, by show 1 ≤ sizeLine; decide, fun l5 nl5 => ?_⟩
      have JB := JA.grow (u := .lst [.str x]) nl5
      have sb := Same.new (o := .lst [.str x]) (JA.none nl5)
      refine ⟨r, l5, _, _, rfl, rfl, JB.same _ _ (hA8.up sb).ls, upd_same, lsz ar hA.le 1 (by decide), fun l6 nl6 => ?_⟩
      have JC := JB.grow (u := .lst (ar.map V.str ++ [.str x])) nl6
      have sc := Same.new (o := .lst (ar.map V.str ++ [.str x])) (JB.none nl6)
      have hA9 := (hA8.up sb).cat (xs := [x]) (JB.none nl6) (fun w hw => by rw [List.mem_singleton.mp hw]; exact ox) (show ar.length + 1 ≤ 1000 by omega)
      refine ⟨_, rfl, _, _, rfl, rfl, _, a, o, l6, n5, k4, ar ++ [x], (show [V.ref a, V.ref o, V.ref l6, V.int (((d + 1 : Nat) : Int) - 1)] = _ by rw [e1']), JC, hA9, ?_, by rw [List.length_append]; show ar.length + 1 + 4 * d ≤ 900; omega, by omega, by omega, fun G5 v3 e3 H6 n6 k5 gr3 sd d3 JD hn6 hk5 => ⟨by show 4 ≤ sizeLine; decide, fun t nt => ?_⟩⟩
      · intro w hw
        rcases List.mem_append.mp hw with hw | hw
        · have := hx w hw
          omega
        · rw [List.mem_singleton.mp hw, ix]
          omega
      have gl3 := gr3.le
      obtain ⟨JE, se, de⟩ := JD.tup (K := K) nt (.cons (.str "let") (.cons (.int p) (.cons (Dp.same ((sb.trans sc).trans sd) _ _ d9) (.cons d3 .nil))))
      refine q _ _ _ _ n6 k5 ((Gr.lets (lo := k) (m0 := k + 4) (bs := [(x, e1), (y, e2)]) hp20 (fun z => nomatch z) (show 2 ≤ 60 by decide) (by simp [xy]) (fun w hw => by
        rcases List.mem_cons.mp hw with e | hw
        · have e : w = x := e
          rw [e]
          exact ⟨by omega, by omega, nx, by omega⟩
        · have e : w = y := List.mem_singleton.mp hw
          rw [e]
          exact ⟨by omega, by omega, ny, by omega⟩) (by omega) har (.cons (gr1x ar [x, y] gr1) (.cons gr2 (.cons (grS gr3 fun w hw => by
        rcases List.mem_append.mp hw with hw | hw
        · exact List.mem_append.mpr (.inl hw)
        · exact List.mem_append.mpr (.inr (by rw [List.mem_singleton.mp hw]; exact List.mem_cons_self ..))) .nil)))).mono (Nat.le_refl _) (Nat.le_refl _) (by show cb + (cb + (cb + 0)) + 2 + 1 ≤ _; omega) (by show nb + (nb + (nb + 0)) + 2 ≤ _; omega) (Nat.le_refl _)) ((((sC.trans sb).trans sc).trans sd).trans se) de JE (by omega) (by omega)
  · refine ⟨_, rfl, rfl, false, bl_f (by decide), iteF ⟨_, rfl, rfl, false, bl_f (by decide), iteF ⟨_, rfl, rfl, false, bl_f (by decide), iteF ⟨_, rfl, _, _, rfl, rfl, true, bl_t (by decide), iteT ?_⟩⟩⟩⟩
    refine ⟨_, rfl, _, rfl, _, rfl, by show 2 ≤ sizeLine; decide, fun l2 nl2 => ?_⟩
    have J5 := J4.grow (u := .lst [.str x, .str y]) nl2
    have s4 := Same.new (o := .lst [.str x, .str y]) (J4.none nl2)
    refine ⟨r, l2, _, _, rfl, rfl, J5.same _ _ (hA3.up s4).ls, upd_same, lsz ar hA.le 2 (by decide), fun l3 nl3 => ?_⟩
    have J6 := J5.grow (u := .lst (ar.map V.str ++ [.str x, .str y])) nl3
    have s5 := Same.new (o := .lst (ar.map V.str ++ [.str x, .str y])) (J5.none nl3)
    have hA4 := (hA3.up s4).cat (xs := [x, y]) (J5.none nl3) (fun w hw => by
      rcases List.mem_cons.mp hw with rfl | hw
      · exact ox
      · rw [List.mem_singleton.mp hw]
        exact oy) (show ar.length + 2 ≤ 1000 by omega)
    refine ⟨_, rfl, _, rfl, by show 2 ≤ sizeLine; decide, fun t1 nt1 => ?_⟩
    obtain ⟨J7, s6, d6⟩ := J6.tup (K := K) nt1 (.cons (.str x) (.cons (Dp.same (s4.trans s5) _ _ d1) .nil))
    refine ⟨_, rfl, _, rfl, _, rfl, _, rfl, _, rfl, _, _, rfl, rfl, _, a, o, l3, n3, k3, ar ++ [x, y], (show [V.ref a, V.ref o, V.ref l3, V.int (((d + 1 : Nat) : Int) - 1)] = _ by rw [e1']), J7, hA4.up s6, ?_, by rw [List.length_append]; show ar.length + 2 + 4 * d ≤ 900; omega, by omega, by omega, fun G4 v2 e2 H4 n4 k4 gr2 s7 d2 J8 hn4 hk4 => ⟨by show 2 ≤ sizeLine; decide, fun t2 nt2 => ?_⟩⟩
    · intro w hw
      rcases List.mem_append.mp hw with hw | hw
      · have := hx w hw
        omega
      rcases List.mem_cons.mp hw with rfl | hw
      · rw [ix]
        omega
      · rw [List.mem_singleton.mp hw, iy]
        omega
    have gl2 := gr2.le
    have xy : x ≠ y := fun z => by rw [z, iy] at ix; omega
    obtain ⟨J9, s8, d8⟩ := J8.tup (K := K) nt2 (.cons (.str y) (.cons d2 .nil))
    refine ⟨by show 2 ≤ sizeLine; decide, fun t3 nt3 => ?_⟩
    obtain ⟨J10, s9, d9⟩ := J9.tup (K := K) nt3 (.cons (Dp.same (s7.trans s8) _ _ d6) (.cons d8 .nil))
    have sC := ((((((sB.trans s4).trans s5).trans s6).trans s7).trans s8).trans s9)
    have hA5 := ((((((hA3.up s4).up s5).up s6).up s7).up s8).up s9)
    refine ⟨_, rfl, _, rfl, _, rfl, _, a, o, 2, n4, k4, rfl, by decide, by decide, J10, by omega, fun jj n5 H5 hj hn5 J11 => ⟨_, _, rfl, rfl, _, rfl, ?_⟩⟩
    rcases (show jj = 0 ∨ jj = 1 by omega) with rfl | rfl
    · refine ⟨t3, _, rfl, SqT.of (J11.same _ _ upd_same), fun hw => absurd hw (sl_one _ _), fun _ t4 nt4 => ?_⟩
      obtain ⟨JA, sa, da⟩ := J11.tup (K := K) nt4 (.cons (Dp.same ((s7.trans s8).trans s9) _ _ d6) .nil)
      have hA8 := hA5.up sa
      refine ⟨_, rfl, _, rfl, _, rfl, _, rfl, by show 1 ≤ sizeLine; decide, fun l5 nl5 => ?_⟩
      have JB := JA.grow (u := .lst [.str x]) nl5
      have sb := Same.new (o := .lst [.str x]) (JA.none nl5)
      refine ⟨r, l5, _, _, rfl, rfl, JB.same _ _ (hA8.up sb).ls, upd_same, lsz ar hA.le 1 (by decide), fun l6 nl6 => ?_⟩
      have JC := JB.grow (u := .lst (ar.map V.str ++ [.str x])) nl6
      have sc := Same.new (o := .lst (ar.map V.str ++ [.str x])) (JB.none nl6)
      have hA9 := (hA8.up sb).cat (xs := [x]) (JB.none nl6) (fun w hw => by rw [List.mem_singleton.mp hw]; exact ox) (show ar.length + 1 ≤ 1000 by omega)
      refine ⟨_, rfl, _, _, rfl, rfl, _, a, o, l6, n5, k4, ar ++ [x], (show [V.ref a, V.ref o, V.ref l6, V.int (((d + 1 : Nat) : Int) - 1)] = _ by rw [e1']), JC, hA9, ?_, by rw [List.length_append]; show ar.length + 1 + 4 * d ≤ 900; omega, by omega, by omega, fun G5 v3 e3 H6 n6 k5 gr3 sd d3 JD hn6 hk5 => ⟨by show 4 ≤ sizeLine; decide, fun t nt => ?_⟩⟩
      · intro w hw
        rcases List.mem_append.mp hw with hw | hw
        · have := hx w hw
          omega
        · rw [List.mem_singleton.mp hw, ix]
          omega
      have gl3 := gr3.le
      obtain ⟨JE, se, de⟩ := JD.tup (K := K) nt (.cons (.str "let") (.cons (.int p) (.cons (Dp.same ((sb.trans sc).trans sd) _ _ da) (.cons d3 .nil))))
      refine q _ _ _ _ n6 k5 ((Gr.lets (lo := k) (m0 := k + 4) (bs := [(x, e1)]) hp20 (fun z => nomatch z) (show 1 ≤ 60 by decide) (by simp) (fun w hw => by
        have e : w = x := List.mem_singleton.mp hw
        rw [e]
        exact ⟨by omega, by omega, nx, by omega⟩) (by omega) har (.cons (gr1x ar [x] gr1) (.cons (gr3.mono (by omega) (Nat.le_refl _) (Nat.le_refl _) (Nat.le_refl _) (Nat.le_refl _)) .nil))).mono (Nat.le_refl _) (Nat.le_refl _) (by show cb + (cb + 0) + 1 + 1 ≤ _; omega) (by show nb + (nb + 0) + 1 ≤ _; omega) (Nat.le_refl _)) (((((sC.trans sa).trans sb).trans sc).trans sd).trans se) de JE (by omega) (by omega)
    · refine ⟨t3, _, rfl, SqT.of (J11.same _ _ upd_same), fun _ => ?_, fun hw => absurd (sl_two _ _) hw⟩
      have JA := J11
      have hA8 := hA5
      refine ⟨_, rfl, _, rfl, _, rfl, _, rfl, by show 1 ≤ sizeLine; decide, fun l5 nl5 => ?_⟩
      have JB := JA.grow (u := .lst [.str x]) nl5
      have sb := Same.new (o := .lst [.str x]) (JA.none nl5)
      refine ⟨r, l5, _, _, rfl, rfl, JB.same _ _ (hA8.up sb).ls, upd_same, lsz ar hA.le 1 (by decide), fun l6 nl6 => ?_⟩
      have JC := JB.grow (u := .lst (ar.map V.str ++ [.str x])) nl6
      have sc := Same.new (o := .lst (ar.map V.str ++ [.str x])) (JB.none nl6)
      have hA9 := (hA8.up sb).cat (xs := [x]) (JB.none nl6) (fun w hw => by rw [List.mem_singleton.mp hw]; exact ox) (show ar.length + 1 ≤ 1000 by omega)
      refine ⟨_, rfl, _, _, rfl, rfl, _, a, o, l6, n5, k4, ar ++ [x], (show [V.ref a, V.ref o, V.ref l6, V.int (((d + 1 : Nat) : Int) - 1)] = _ by rw [e1']), JC, hA9, ?_, by rw [List.length_append]; show ar.length + 1 + 4 * d ≤ 900; omega, by omega, by omega, fun G5 v3 e3 H6 n6 k5 gr3 sd d3 JD hn6 hk5 => ⟨by show 4 ≤ sizeLine; decide, fun t nt => ?_⟩⟩
      · intro w hw
        rcases List.mem_append.mp hw with hw | hw
        · have := hx w hw
          omega
        · rw [List.mem_singleton.mp hw, ix]
          omega
      have gl3 := gr3.le
      obtain ⟨JE, se, de⟩ := JD.tup (K := K) nt (.cons (.str "let") (.cons (.int p) (.cons (Dp.same ((sb.trans sc).trans sd) _ _ d9) (.cons d3 .nil))))
      refine q _ _ _ _ n6 k5 ((Gr.lets (lo := k) (m0 := k + 4) (bs := [(x, e1), (y, e2)]) hp20 (fun z => nomatch z) (show 2 ≤ 60 by decide) (by simp [xy]) (fun w hw => by
        rcases List.mem_cons.mp hw with e | hw
        · have e : w = x := e
          rw [e]
          exact ⟨by omega, by omega, nx, by omega⟩
        · have e : w = y := List.mem_singleton.mp hw
          rw [e]
          exact ⟨by omega, by omega, ny, by omega⟩) (by omega) har (.cons (gr1x ar [x, y] gr1) (.cons gr2 (.cons (grS gr3 fun w hw => by
        rcases List.mem_append.mp hw with hw | hw
        · exact List.mem_append.mpr (.inl hw)
        · exact List.mem_append.mpr (.inr (by rw [List.mem_singleton.mp hw]; exact List.mem_cons_self ..))) .nil)))).mono (Nat.le_refl _) (Nat.le_refl _) (by show cb + (cb + (cb + 0)) + 2 + 1 ≤ _; omega) (by show nb + (nb + (nb + 0)) + 2 ≤ _; omega) (Nat.le_refl _)) ((((sC.trans sb).trans sc).trans sd).trans se) de JE (by omega) (by omega)
  · refine ⟨_, rfl, rfl, false, bl_f (by decide), iteF ⟨_, rfl, rfl, false, bl_f (by decide), iteF ⟨_, rfl, rfl, false, bl_f (by decide), iteF ⟨_, rfl, _, _, rfl, rfl, false, bl_f (by decide), iteF ⟨_, rfl, _, _, rfl, rfl, true, bl_t (by decide), iteT ?_⟩⟩⟩⟩⟩
    refine ⟨_, rfl, _, rfl, by show 2 ≤ sizeLine; decide, fun t1 nt1 => ?_⟩
    obtain ⟨J5, s4, d4⟩ := J4.tup (K := K) nt1 (.cons (.str x) (.cons (.str y) .nil))
    refine ⟨_, rfl, _, rfl, _, rfl, _, rfl, _, rfl, _, rfl, by show 3 ≤ sizeLine; decide, fun l2 nl2 => ?_⟩
    have J6 := J5.grow (u := .lst [.str x, .str y, .str z]) nl2
    have s5 := Same.new (o := .lst [.str x, .str y, .str z]) (J5.none nl2)
    refine ⟨r, l2, _, _, rfl, rfl, J6.same _ _ ((hA3.up s4).up s5).ls, upd_same, lsz ar hA.le 3 (by decide), fun l3 nl3 => ?_⟩
    have J7 := J6.grow (u := .lst (ar.map V.str ++ [.str x, .str y, .str z])) nl3
    have s6 := Same.new (o := .lst (ar.map V.str ++ [.str x, .str y, .str z])) (J6.none nl3)
    have hA4 := ((hA3.up s4).up s5).cat (xs := [x, y, z]) (J6.none nl3) (fun w hw => by
      rcases List.mem_cons.mp hw with rfl | hw
      · exact ox
      rcases List.mem_cons.mp hw with rfl | hw
      · exact oy
      · rw [List.mem_singleton.mp hw]
        exact oz) (show ar.length + 3 ≤ 1000 by omega)
    refine ⟨_, rfl, _, _, rfl, rfl, _, a, o, l3, n3, k3, ar ++ [x, y, z], (show [V.ref a, V.ref o, V.ref l3, V.int (((d + 1 : Nat) : Int) - 1)] = _ by rw [e1']), J7, hA4, ?_, by rw [List.length_append]; show ar.length + 3 + 4 * d ≤ 900; omega, by omega, by omega, fun G4 v2 e2 H4 n4 k4 gr2 s7 d2 J8 hn4 hk4 => ⟨by show 3 ≤ sizeLine; decide, fun t2 nt2 => ?_⟩⟩
    · intro w hw
      rcases List.mem_append.mp hw with hw | hw
      · have := hx w hw
        omega
      rcases List.mem_cons.mp hw with rfl | hw
      · rw [ix]
        omega
      rcases List.mem_cons.mp hw with rfl | hw
      · rw [iy]
        omega
      · rw [List.mem_singleton.mp hw, iz]
        omega
    have gl2 := gr2.le
    have s47 := ((s4.trans s5).trans s6).trans s7
    obtain ⟨J9, s8, d8⟩ := J8.tup (K := K) nt2 (.cons (.str "Cons") (.cons (Dp.same ((s5.trans s6).trans s7) _ _ d4) (.cons d2 .nil)))
    refine ⟨Nat.zero_le _, fun t3 nt3 => ?_⟩
    obtain ⟨J10, s9, d9⟩ := J9.tup (K := K) nt3 .nil
    refine ⟨_, rfl, by show 3 ≤ sizeLine; decide, fun t4 nt4 => ?_⟩
    obtain ⟨J11, s10, d10⟩ := J10.tup (K := K) nt4 (.cons (.str "num") (.cons (.int p) (.cons (.int 1) .nil)))
    refine ⟨by show 3 ≤ sizeLine; decide, fun t5 nt5 => ?_⟩
    obtain ⟨J12, s11, d11⟩ := J11.tup (K := K) nt5 (.cons (.int 7) (.cons (Dp.same s10 _ _ d9) (.cons d10 .nil)))
    refine ⟨by show 2 ≤ sizeLine; decide, fun t6 nt6 => ?_⟩
    obtain ⟨J13, s12, d12⟩ := J12.tup (K := K) nt6 (.cons (Dp.same ((s9.trans s10).trans s11) _ _ d8) (.cons d11 .nil))
    have num1 : AtomG 20 ar (.tuple [.str "num", .int p, .int 1]) := .inr ⟨p, 1, hp20, by decide +kernel, rfl⟩
    refine ⟨fun σ' H' => ∃ (Gm : Hp) (nm : Int) (tr : Addr) (m : Str) (ns : List Str), σ' = [some (.ref a), some (.ref o), some (.ref r), some (.int ((d + 1 : Nat) : Int)), some (.int p), some (.int qq), some (.int 7), none, some (.str x), some (.str y), some (.str z), some (.str u4), none, some v1, none, some (.ref tr), none] ∧
      Same G4 Gm ∧ PuAt Gm H' a o nm (k4 : Int) ∧ nm ≤ n4 + 1 ∧ Dp K Gm (.ref tr) (.tuple [altD (.inr m, ns, e2), altD (.inl 7, [], .tuple [.str "num", .int p, .int 1])]) ∧ ((m = "Cons" ∧ ns = [x, y]) ∨ (m = "Fork" ∧ ns = [x, y, u4])), ?_, ?_⟩
    · refine ⟨_, rfl, _, a, o, 2, n4, k4, rfl, by decide, by decide, J13, by omega, fun jj n5 H5 hj hn5 J14 => ?_⟩
      rcases (show jj = 0 ∨ jj = 1 by omega) with rfl | rfl
      · refine ⟨rfl, true, rfl, iteT ?_⟩
        refine ⟨_, rfl, _, rfl, _, rfl, by show 3 ≤ sizeLine; decide, fun t7 nt7 => ?_⟩
        obtain ⟨J15, s13, d13⟩ := J14.tup (K := K) nt7 (.cons (.str x) (.cons (.str y) (.cons (.str u4) .nil)))
        have k912 := (((s9.trans s10).trans s11).trans s12)
        have hT6 : SqT K (upd H5 t7 (.tup [.str x, .str y, .str u4])) t6 [.ref t2, .ref t5] := SqT.of ((Same.new nt7) _ _ (J14.same _ _ upd_same))
        have hT2 : SqT K (upd H5 t7 (.tup [.str x, .str y, .str u4])) t2 [.str "Cons", .ref t1, v2] := SqT.of ((Same.new nt7) _ _ (J14.same _ _ (k912 _ _ upd_same)))
        refine ⟨_, rfl, t6, _, 0, _, rfl, rfl, hT6, atI_nat (j := 0) rfl, t2, _, 2, _, rfl, rfl, hT2, atI_nat (j := 2) rfl, by show 3 ≤ sizeLine; decide, fun t8 nt8 => ?_⟩
        obtain ⟨J16, s14, d14⟩ := J15.tup (K := K) nt8 (.cons (.str "Fork") (.cons d13 (.cons (Dp.same ((s8.trans k912).trans s13) _ _ d2) .nil)))
        refine ⟨by show 1 ≤ sizeLine; decide, fun t9 nt9 => ?_⟩
        obtain ⟨J17, s15, d15⟩ := J16.tup (K := K) nt9 (.cons d14 .nil)
        have hT6b := Same.seqT (Same.new (o := .tup [.ref t8]) nt9) (Same.seqT (Same.new (o := .tup [.str "Fork", .ref t7, v2]) nt8) hT6)
        refine ⟨_, rfl, 1, rfl, t6, _, rfl, hT6b, fun hw => absurd hw (sl_tail _ _), fun _ t10 nt10 => ?_⟩
        obtain ⟨J18, s16, d16⟩ := J17.tup (K := K) nt10 (.cons (Dp.same (((s12.trans s13).trans s14).trans s15) _ _ d11) .nil)
        refine ⟨t9, t10, _, _, rfl, rfl, SqT.of ((Same.new (o := .tup [.ref t5]) nt10) _ _ upd_same), SqT.of upd_same, by show 2 ≤ sizeLine; decide, (fun h => nomatch h), (fun _ h => nomatch h), fun _ _ t11 nt11 => ?_⟩
        obtain ⟨J19, s17, d17⟩ := J18.tup (K := K) nt11 (.cons (Dp.same (s15.trans s16) _ _ d14) (.cons (Dp.same ((((s12.trans s13).trans s14).trans s15).trans s16) _ _ d11) .nil))
        exact ⟨_, n5, t11, "Fork", [x, y, u4], rfl, ((((((s8.trans k912).trans s13).trans s14).trans s15).trans s16).trans s17), J19, hn5, d17, .inr ⟨rfl, rfl⟩⟩
      · refine ⟨rfl, false, bl_f (by decide), iteF ?_⟩
        exact ⟨_, n5, t6, "Cons", [x, y], rfl, ((((s8.trans s9).trans s10).trans s11).trans s12), J14, hn5, d12, .inl ⟨rfl, rfl⟩⟩
    rintro σ' H' ⟨Gm, nm, tr, m, ns, rfl, sm, Jm, hnm, dm, hmn⟩
    obtain ⟨tr', ws, er, hTr, hAr⟩ := tup_open dm
    cases er
    obtain ⟨w1, ws, rfl, hw1, hAr⟩ := all_open hAr
    obtain ⟨w2, ws, rfl, hw2, hAr⟩ := all_open hAr
    obtain rfl := nil_open hAr
    refine ⟨_, rfl, Nat.zero_le _, fun t7 nt7 => ?_⟩
    obtain ⟨K1, u1, c1⟩ := Jm.tup (K := K) nt7 .nil
    refine ⟨_, rfl, _, rfl, by show 3 ≤ sizeLine; decide, fun t8 nt8 => ?_⟩
    obtain ⟨K2, u2, c2⟩ := K1.tup (K := K) nt8 (.cons (.str "name") (.cons (.int qq) (.cons (.str z) .nil)))
    refine ⟨by show 3 ≤ sizeLine; decide, fun t9 nt9 => ?_⟩
    obtain ⟨K3, u3, c3⟩ := K2.tup (K := K) nt9 (.cons (.str "Nil") (.cons (Dp.same u2 _ _ c1) (.cons c2 .nil)))
    refine ⟨by show 1 ≤ sizeLine; decide, fun t10 nt10 => ?_⟩
    obtain ⟨K4, u5, c4⟩ := K3.tup (K := K) nt10 (.cons c3 .nil)
    have u14 := ((u1.trans u2).trans u3).trans u5
    refine ⟨tr, t10, _, _, rfl, rfl, Same.seqT K4.same (Same.seqT u14 hTr), SqT.of upd_same, by show 3 ≤ sizeLine; decide, (fun h => nomatch h), (fun _ h => nomatch h), fun _ _ t11 nt11 => ?_⟩
    obtain ⟨K5, u6, c5⟩ := K4.tup (K := K) nt11 (.cons (Dp.same u14 _ _ hw1) (.cons (Dp.same u14 _ _ hw2) (.cons (Dp.same u5 _ _ c3) .nil)))
    refine ⟨_, rfl, _, rfl, by show 3 ≤ sizeLine; decide, fun t12 nt12 => ?_⟩
    obtain ⟨K6, u7, c6⟩ := K5.tup (K := K) nt12 (.cons (.str "name") (.cons (.int qq) (.cons (.str z) .nil)))
    refine ⟨by show 2 ≤ sizeLine; decide, fun l4 nl4 => ?_⟩
    have K7 := K6.grow (u := .lst [.non, .ref t12]) nl4
    have u8 := Same.new (o := .lst [V.non, .ref t12]) (K6.none nl4)
    have c7 := Dp.same u8 _ _ c6
    refine ⟨_, rfl, _, a, o, 2, nm, k4, rfl, by decide, by decide, K7, by omega, fun jj n5 H5 hj hn5 K8 => ?_⟩
    obtain ⟨ov, oo, hat, hod, how⟩ := other_at (q := qq) (z := z) c7 (show jj < 2 by omega)
    refine ⟨l4, _, jj, _, rfl, rfl, SqL.of (K8.same _ _ upd_same), hat, ?_⟩
    have u78 := u7.trans u8
    refine ⟨_, rfl, _, rfl, _, rfl, _, rfl, _, rfl, _, a, o, 2, n5, k4, rfl, by decide, by decide, K8, by omega, fun j2 n6 H6 hj2 hn6 K9 => ?_⟩
    have sAll := ((((((sB.trans s47).trans sm).trans u14).trans u6).trans u78))
    have d1' := Dp.same ((((s47.trans sm).trans u14).trans u6).trans u78) _ _ d1
    rcases (show j2 = 0 ∨ j2 = 1 by omega) with rfl | rfl
    · refine ⟨_, rfl, t11, _, rfl, SqT.of (K9.same _ _ (u78 _ _ upd_same)), fun _ => ?_, fun hw => absurd (sl3_all _ _ _) hw⟩
      refine ⟨_, rfl, by show 6 ≤ sizeLine; decide, fun t nt => ?_⟩
      obtain ⟨KA, ua, da⟩ := K9.tup (K := K) nt (.cons (.str "case") (.cons (.int p) (.cons d1' (.cons (.str z) (.cons (Dp.same u78 _ _ c5) (.cons hod .nil))))))
      exact q _ _ _ _ n6 k4 (case_gr (oo := oo) false gr1 gr2 hp20 hq20 har ⟨nx, lx, ix⟩ ⟨ny, ly, iy⟩ ⟨nz, lz, iz⟩ ⟨nu, lu, iu⟩ hmn how) (sAll.trans ua) da KA (by omega) (by omega)
    · refine ⟨_, rfl, t11, _, rfl, SqT.of (K9.same _ _ (u78 _ _ upd_same)), fun hw => absurd hw (sl3_tail _ _ _), fun _ t13 nt13 => ?_⟩
      obtain ⟨KB, ub, db⟩ := K9.tup (K := K) nt13 (.cons (Dp.same ((u14.trans u6).trans u78) _ _ hw2) (.cons (Dp.same ((u5.trans u6).trans u78) _ _ c3) .nil))
      refine ⟨_, rfl, by show 6 ≤ sizeLine; decide, fun t nt => ?_⟩
      obtain ⟨KA, ua, da⟩ := KB.tup (K := K) nt (.cons (.str "case") (.cons (.int p) (.cons (Dp.same ub _ _ d1') (.cons (.str z) (.cons db (.cons (Dp.same ub _ _ hod) .nil))))))
      exact q _ _ _ _ n6 k4 (case_gr (oo := oo) true gr1 gr2 hp20 hq20 har ⟨nx, lx, ix⟩ ⟨ny, ly, iy⟩ ⟨nz, lz, iz⟩ ⟨nu, lu, iu⟩ hmn how) ((sAll.trans ub).trans ua) da KA (by omega) (by omega)
  · refine ⟨_, rfl, rfl, false, bl_f (by decide), iteF ⟨_, rfl, rfl, false, bl_f (by decide), iteF ⟨_, rfl, rfl, false, bl_f (by decide), iteF ⟨_, rfl, _, _, rfl, rfl, false, bl_f (by decide), iteF ⟨_, rfl, _, _, rfl, rfl, true, bl_t (by decide), iteT ?_⟩⟩⟩⟩⟩
    refine ⟨_, rfl, _, rfl, by show 2 ≤ sizeLine; decide, fun t1 nt1 => ?_⟩
    obtain ⟨J5, s4, d4⟩ := J4.tup (K := K) nt1 (.cons (.str x) (.cons (.str y) .nil))
    refine ⟨_, rfl, _, rfl, _, rfl, _, rfl, _, rfl, _, rfl, by show 3 ≤ sizeLine; decide, fun l2 nl2 => ?_⟩
    have J6 := J5.grow (u := .lst [.str x, .str y, .str z]) nl2
    have s5 := Same.new (o := .lst [.str x, .str y, .str z]) (J5.none nl2)
    refine ⟨r, l2, _, _, rfl, rfl, J6.same _ _ ((hA3.up s4).up s5).ls, upd_same, lsz ar hA.le 3 (by decide), fun l3 nl3 => ?_⟩
    have J7 := J6.grow (u := .lst (ar.map V.str ++ [.str x, .str y, .str z])) nl3
    have s6 := Same.new (o := .lst (ar.map V.str ++ [.str x, .str y, .str z])) (J6.none nl3)
    have hA4 := ((hA3.up s4).up s5).cat (xs := [x, y, z]) (J6.none nl3) (fun w hw => by
      rcases List.mem_cons.mp hw with rfl | hw
      · exact ox
      rcases List.mem_cons.mp hw with rfl | hw
      · exact oy
      · rw [List.mem_singleton.mp hw]
        exact oz) (show ar.length + 3 ≤ 1000 by omega)
    refine ⟨_, rfl, _, _, rfl, rfl, _, a, o, l3, n3, k3, ar ++ [x, y, z], (show [V.ref a, V.ref o, V.ref l3, V.int (((d + 1 : Nat) : Int) - 1)] = _ by rw [e1']), J7, hA4, ?_, by rw [List.length_append]; show ar.length + 3 + 4 * d ≤ 900; omega, by omega, by omega, fun G4 v2 e2 H4 n4 k4 gr2 s7 d2 J8 hn4 hk4 => ⟨by show 3 ≤ sizeLine; decide, fun t2 nt2 => ?_⟩⟩
    · intro w hw
      rcases List.mem_append.mp hw with hw | hw
      · have := hx w hw
        omega
      rcases List.mem_cons.mp hw with rfl | hw
      · rw [ix]
        omega
      rcases List.mem_cons.mp hw with rfl | hw
      · rw [iy]
        omega
      · rw [List.mem_singleton.mp hw, iz]
        omega
    have gl2 := gr2.le
    have s47 := ((s4.trans s5).trans s6).trans s7
    obtain ⟨J9, s8, d8⟩ := J8.tup (K := K) nt2 (.cons (.str "Cons") (.cons (Dp.same ((s5.trans s6).trans s7) _ _ d4) (.cons d2 .nil)))
    refine ⟨Nat.zero_le _, fun t3 nt3 => ?_⟩
    obtain ⟨J10, s9, d9⟩ := J9.tup (K := K) nt3 .nil
    refine ⟨_, rfl, by show 3 ≤ sizeLine; decide, fun t4 nt4 => ?_⟩
    obtain ⟨J11, s10, d10⟩ := J10.tup (K := K) nt4 (.cons (.str "num") (.cons (.int p) (.cons (.int 1) .nil)))
    refine ⟨by show 3 ≤ sizeLine; decide, fun t5 nt5 => ?_⟩
    obtain ⟨J12, s11, d11⟩ := J11.tup (K := K) nt5 (.cons (.int 7) (.cons (Dp.same s10 _ _ d9) (.cons d10 .nil)))
    refine ⟨by show 2 ≤ sizeLine; decide, fun t6 nt6 => ?_⟩
    obtain ⟨J13, s12, d12⟩ := J12.tup (K := K) nt6 (.cons (Dp.same ((s9.trans s10).trans s11) _ _ d8) (.cons d11 .nil))
    have num1 : AtomG 20 ar (.tuple [.str "num", .int p, .int 1]) := .inr ⟨p, 1, hp20, by decide +kernel, rfl⟩
    refine ⟨fun σ' H' => ∃ (Gm : Hp) (nm : Int) (tr : Addr) (m : Str) (ns : List Str), σ' = [some (.ref a), some (.ref o), some (.ref r), some (.int ((d + 1 : Nat) : Int)), some (.int p), some (.int qq), some (.int 8), none, some (.str x), some (.str y), some (.str z), some (.str u4), none, some v1, none, some (.ref tr), none] ∧
      Same G4 Gm ∧ PuAt Gm H' a o nm (k4 : Int) ∧ nm ≤ n4 + 1 ∧ Dp K Gm (.ref tr) (.tuple [altD (.inr m, ns, e2), altD (.inl 7, [], .tuple [.str "num", .int p, .int 1])]) ∧ ((m = "Cons" ∧ ns = [x, y]) ∨ (m = "Fork" ∧ ns = [x, y, u4])), ?_, ?_⟩
    · refine ⟨_, rfl, _, a, o, 2, n4, k4, rfl, by decide, by decide, J13, by omega, fun jj n5 H5 hj hn5 J14 => ?_⟩
      rcases (show jj = 0 ∨ jj = 1 by omega) with rfl | rfl
      · refine ⟨rfl, true, rfl, iteT ?_⟩
        refine ⟨_, rfl, _, rfl, _, rfl, by show 3 ≤ sizeLine; decide, fun t7 nt7 => ?_⟩
        obtain ⟨J15, s13, d13⟩ := J14.tup (K := K) nt7 (.cons (.str x) (.cons (.str y) (.cons (.str u4) .nil)))
        have k912 := (((s9.trans s10).trans s11).trans s12)
        have hT6 : SqT K (upd H5 t7 (.tup [.str x, .str y, .str u4])) t6 [.ref t2, .ref t5] := SqT.of ((Same.new nt7) _ _ (J14.same _ _ upd_same))
        have hT2 : SqT K (upd H5 t7 (.tup [.str x, .str y, .str u4])) t2 [.str "Cons", .ref t1, v2] := SqT.of ((Same.new nt7) _ _ (J14.same _ _ (k912 _ _ upd_same)))
        refine ⟨_, rfl, t6, _, 0, _, rfl, rfl, hT6, atI_nat (j := 0) rfl, t2, _, 2, _, rfl, rfl, hT2, atI_nat (j := 2) rfl, by show 3 ≤ sizeLine; decide, fun t8 nt8 => ?_⟩
        obtain ⟨J16, s14, d14⟩ := J15.tup (K := K) nt8 (.cons (.str "Fork") (.cons d13 (.cons (Dp.same ((s8.trans k912).trans s13) _ _ d2) .nil)))
        refine ⟨by show 1 ≤ sizeLine; decide, fun t9 nt9 => ?_⟩
        obtain ⟨J17, s15, d15⟩ := J16.tup (K := K) nt9 (.cons d14 .nil)
        have hT6b := Same.seqT (Same.new (o := .tup [.ref t8]) nt9) (Same.seqT (Same.new (o := .tup [.str "Fork", .ref t7, v2]) nt8) hT6)
        refine ⟨_, rfl, 1, rfl, t6, _, rfl, hT6b, fun hw => absurd hw (sl_tail _ _), fun _ t10 nt10 => ?_⟩
        obtain ⟨J18, s16, d16⟩ := J17.tup (K := K) nt10 (.cons (Dp.same (((s12.trans s13).trans s14).trans s15) _ _ d11) .nil)
        refine ⟨t9, t10, _, _, rfl, rfl, SqT.of ((Same.new (o := .tup [.ref t5]) nt10) _ _ upd_same), SqT.of upd_same, by show 2 ≤ sizeLine; decide, (fun h => nomatch h), (fun _ h => nomatch h), fun _ _ t11 nt11 => ?_⟩
        obtain ⟨J19, s17, d17⟩ := J18.tup (K := K) nt11 (.cons (Dp.same (s15.trans s16) _ _ d14) (.cons (Dp.same ((((s12.trans s13).trans s14).trans s15).trans s16) _ _ d11) .nil))
        exact ⟨_, n5, t11, "Fork", [x, y, u4], rfl, ((((((s8.trans k912).trans s13).trans s14).trans s15).trans s16).trans s17), J19, hn5, d17, .inr ⟨rfl, rfl⟩⟩
      · refine ⟨rfl, false, bl_f (by decide), iteF ?_⟩
        exact ⟨_, n5, t6, "Cons", [x, y], rfl, ((((s8.trans s9).trans s10).trans s11).trans s12), J14, hn5, d12, .inl ⟨rfl, rfl⟩⟩
    rintro σ' H' ⟨Gm, nm, tr, m, ns, rfl, sm, Jm, hnm, dm, hmn⟩
    obtain ⟨tr', ws, er, hTr, hAr⟩ := tup_open dm
    cases er
    obtain ⟨w1, ws, rfl, hw1, hAr⟩ := all_open hAr
    obtain ⟨w2, ws, rfl, hw2, hAr⟩ := all_open hAr
    obtain rfl := nil_open hAr
    refine ⟨_, rfl, Nat.zero_le _, fun t7 nt7 => ?_⟩
    obtain ⟨K1, u1, c1⟩ := Jm.tup (K := K) nt7 .nil
    refine ⟨_, rfl, _, rfl, by show 3 ≤ sizeLine; decide, fun t8 nt8 => ?_⟩
    obtain ⟨K2, u2, c2⟩ := K1.tup (K := K) nt8 (.cons (.str "name") (.cons (.int qq) (.cons (.str z) .nil)))
    refine ⟨by show 3 ≤ sizeLine; decide, fun t9 nt9 => ?_⟩
    obtain ⟨K3, u3, c3⟩ := K2.tup (K := K) nt9 (.cons (.str "Nil") (.cons (Dp.same u2 _ _ c1) (.cons c2 .nil)))
    refine ⟨by show 1 ≤ sizeLine; decide, fun t10 nt10 => ?_⟩
    obtain ⟨K4, u5, c4⟩ := K3.tup (K := K) nt10 (.cons c3 .nil)
    have u14 := ((u1.trans u2).trans u3).trans u5
    refine ⟨tr, t10, _, _, rfl, rfl, Same.seqT K4.same (Same.seqT u14 hTr), SqT.of upd_same, by show 3 ≤ sizeLine; decide, (fun h => nomatch h), (fun _ h => nomatch h), fun _ _ t11 nt11 => ?_⟩
    obtain ⟨K5, u6, c5⟩ := K4.tup (K := K) nt11 (.cons (Dp.same u14 _ _ hw1) (.cons (Dp.same u14 _ _ hw2) (.cons (Dp.same u5 _ _ c3) .nil)))
    refine ⟨_, rfl, _, rfl, by show 3 ≤ sizeLine; decide, fun t12 nt12 => ?_⟩
    obtain ⟨K6, u7, c6⟩ := K5.tup (K := K) nt12 (.cons (.str "name") (.cons (.int qq) (.cons (.str z) .nil)))
    refine ⟨by show 2 ≤ sizeLine; decide, fun l4 nl4 => ?_⟩
    have K7 := K6.grow (u := .lst [.non, .ref t12]) nl4
    have u8 := Same.new (o := .lst [V.non, .ref t12]) (K6.none nl4)
    have c7 := Dp.same u8 _ _ c6
    refine ⟨_, rfl, _, a, o, 2, nm, k4, rfl, by decide, by decide, K7, by omega, fun jj n5 H5 hj hn5 K8 => ?_⟩
    obtain ⟨ov, oo, hat, hod, how⟩ := other_at (q := qq) (z := z) c7 (show jj < 2 by omega)
    refine ⟨l4, _, jj, _, rfl, rfl, SqL.of (K8.same _ _ upd_same), hat, ?_⟩
    have u78 := u7.trans u8
    refine ⟨_, rfl, _, rfl, _, rfl, _, rfl, _, rfl, _, a, o, 2, n5, k4, rfl, by decide, by decide, K8, by omega, fun j2 n6 H6 hj2 hn6 K9 => ?_⟩
    have sAll := ((((((sB.trans s47).trans sm).trans u14).trans u6).trans u78))
    have d1' := Dp.same ((((s47.trans sm).trans u14).trans u6).trans u78) _ _ d1
    rcases (show j2 = 0 ∨ j2 = 1 by omega) with rfl | rfl
    · refine ⟨_, rfl, t11, _, rfl, SqT.of (K9.same _ _ (u78 _ _ upd_same)), fun _ => ?_, fun hw => absurd (sl3_all _ _ _) hw⟩
      refine ⟨_, rfl, by show 6 ≤ sizeLine; decide, fun t nt => ?_⟩
      obtain ⟨KA, ua, da⟩ := K9.tup (K := K) nt (.cons (.str "case") (.cons (.int p) (.cons d1' (.cons (.str z) (.cons (Dp.same u78 _ _ c5) (.cons hod .nil))))))
      exact q _ _ _ _ n6 k4 (case_gr (oo := oo) false gr1 gr2 hp20 hq20 har ⟨nx, lx, ix⟩ ⟨ny, ly, iy⟩ ⟨nz, lz, iz⟩ ⟨nu, lu, iu⟩ hmn how) (sAll.trans ua) da KA (by omega) (by omega)
    · refine ⟨_, rfl, t11, _, rfl, SqT.of (K9.same _ _ (u78 _ _ upd_same)), fun hw => absurd hw (sl3_tail _ _ _), fun _ t13 nt13 => ?_⟩
      obtain ⟨KB, ub, db⟩ := K9.tup (K := K) nt13 (.cons (Dp.same ((u14.trans u6).trans u78) _ _ hw2) (.cons (Dp.same ((u5.trans u6).trans u78) _ _ c3) .nil))
      refine ⟨_, rfl, by show 6 ≤ sizeLine; decide, fun t nt => ?_⟩
      obtain ⟨KA, ua, da⟩ := KB.tup (K := K) nt (.cons (.str "case") (.cons (.int p) (.cons (Dp.same ub _ _ d1') (.cons (.str z) (.cons db (.cons (Dp.same ub _ _ hod) .nil))))))
      exact q _ _ _ _ n6 k4 (case_gr (oo := oo) true gr1 gr2 hp20 hq20 har ⟨nx, lx, ix⟩ ⟨ny, ly, iy⟩ ⟨nz, lz, iz⟩ ⟨nu, lu, iu⟩ hmn how) ((sAll.trans ub).trans ua) da KA (by omega) (by omega)
  · refine ⟨_, rfl, rfl, false, bl_f (by decide), iteF ⟨_, rfl, rfl, false, bl_f (by decide), iteF ⟨_, rfl, rfl, false, bl_f (by decide), iteF ⟨_, rfl, _, _, rfl, rfl, false, bl_f (by decide), iteF ⟨_, rfl, _, _, rfl, rfl, false, bl_f (by decide), iteF ?_⟩⟩⟩⟩⟩
    refine ⟨_, rfl, by show 3 ≤ sizeLine; decide, fun l2 nl2 => ?_⟩
    have J5 := J4.grow (u := .lst [.str "plus", .str "below", .str "same"]) nl2
    have s4 := Same.new (o := .lst [.str "plus", .str "below", .str "same"]) (J4.none nl2)
    refine ⟨_, rfl, _, a, o, 3, n3, k3, rfl, by decide, by decide, J5, by omega, fun jj n4 H4 hj hn4 J6 => ?_⟩
    obtain ⟨dw, hdw, hin⟩ := deed_at (show jj < 3 by omega)
    refine ⟨l2, _, jj, _, rfl, rfl, SqL.of (J6.same _ _ upd_same), hdw, _, rfl, ?_⟩
    refine ⟨_, rfl, _, rfl, _, rfl, _, rfl, _, _, rfl, rfl, _, a, o, r, n4, k3, ar, (show [V.ref a, V.ref o, V.ref r, V.int (((d + 1 : Nat) : Int) - 1)] = _ by rw [e1']), J6, hA3.up s4, fun w hw => by have := hx w hw; omega, by omega, by omega, by omega, fun G4 v2 e2 H5 n5 k4 gr2 s5 d2 J7 hn5 hk4 => ⟨by show 5 ≤ sizeLine; decide, fun t nt => ?_⟩⟩
    obtain ⟨J8, s6, d6⟩ := J7.tup (K := K) nt (.cons (.str "deed") (.cons (.int p) (.cons (.str dw) (.cons (Dp.same (s4.trans s5) _ _ d1) (.cons d2 .nil)))))
    have gl2 := gr2.le
    exact q _ _ _ _ n5 k4 ((Gr.deed (lo := k) hp20 hin (gr1.mono (by omega) (Nat.le_refl _) (Nat.le_refl _) (Nat.le_refl _) (Nat.le_refl _)) gr2 har).mono (Nat.le_refl _) (Nat.le_refl _) (by omega) (by omega) (Nat.le_refl _)) (((sB.trans s4).trans s5).trans s6) d6 J8 (by omega) (by omega)
  · refine ⟨_, rfl, rfl, false, bl_f (by decide), iteF ⟨_, rfl, rfl, false, bl_f (by decide), iteF ⟨_, rfl, rfl, false, bl_f (by decide), iteF ⟨_, rfl, _, _, rfl, rfl, false, bl_f (by decide), iteF ⟨_, rfl, _, _, rfl, rfl, false, bl_f (by decide), iteF ?_⟩⟩⟩⟩⟩
    refine ⟨_, rfl, by show 3 ≤ sizeLine; decide, fun l2 nl2 => ?_⟩
    have J5 := J4.grow (u := .lst [.str "plus", .str "below", .str "same"]) nl2
    have s4 := Same.new (o := .lst [.str "plus", .str "below", .str "same"]) (J4.none nl2)
    refine ⟨_, rfl, _, a, o, 3, n3, k3, rfl, by decide, by decide, J5, by omega, fun jj n4 H4 hj hn4 J6 => ?_⟩
    obtain ⟨dw, hdw, hin⟩ := deed_at (show jj < 3 by omega)
    refine ⟨l2, _, jj, _, rfl, rfl, SqL.of (J6.same _ _ upd_same), hdw, _, rfl, ?_⟩
    refine ⟨_, rfl, _, rfl, _, rfl, _, rfl, _, _, rfl, rfl, _, a, o, r, n4, k3, ar, (show [V.ref a, V.ref o, V.ref r, V.int (((d + 1 : Nat) : Int) - 1)] = _ by rw [e1']), J6, hA3.up s4, fun w hw => by have := hx w hw; omega, by omega, by omega, by omega, fun G4 v2 e2 H5 n5 k4 gr2 s5 d2 J7 hn5 hk4 => ⟨by show 5 ≤ sizeLine; decide, fun t nt => ?_⟩⟩
    obtain ⟨J8, s6, d6⟩ := J7.tup (K := K) nt (.cons (.str "deed") (.cons (.int p) (.cons (.str dw) (.cons (Dp.same (s4.trans s5) _ _ d1) (.cons d2 .nil)))))
    have gl2 := gr2.le
    exact q _ _ _ _ n5 k4 ((Gr.deed (lo := k) hp20 hin (gr1.mono (by omega) (Nat.le_refl _) (Nat.le_refl _) (Nat.le_refl _) (Nat.le_refl _)) gr2 har).mono (Nat.le_refl _) (Nat.le_refl _) (by omega) (by omega) (Nat.le_refl _)) (((sB.trans s4).trans s5).trans s6) d6 J8 (by omega) (by omega)
end
end J45

set_option Elab.async false
set_option maxRecDepth 100000
/-! parts hold no lists; their words; several tops -/
namespace J45
open PySem PySem.Spec PyProof.Rows L2 Hx Xr RN
inductive NoL : PyData → Prop
  | non : NoL .none
  | bl (b : Bool) : NoL (.bool b)
  | int (i : Int) : NoL (.int i)
  | str (x : Str) : NoL (.str x)
  | tup {ds : List PyData} : (∀ d ∈ ds, NoL d) → NoL (.tuple ds)
theorem nln : ∀ d ∈ ([] : List PyData), NoL d := fun _ h => nomatch h
theorem nlc {d : PyData} {ds : List PyData} (h : NoL d) (t : ∀ x ∈ ds, NoL x) : ∀ x ∈ d :: ds, NoL x := fun x hx => by
  rcases List.mem_cons.mp hx with rfl | hx
  · exact h
  · exact t x hx
theorem nls (xs : List Str) : ∀ d ∈ xs.map PyData.str, NoL d := fun d hd => by
  obtain ⟨x, _, rfl⟩ := List.mem_map.mp hd
  exact .str x
theorem AtomJ.noL {n : Int} {S : Nm} {e : PyData} (h : AtomJ n S e) : NoL e := by
  cases h with
  | name _ _ => exact .tup (nlc (.str _) (nlc (.int _) (nlc (.str _) nln)))
  | num _ _ => exact .tup (nlc (.str _) (nlc (.int _) (nlc (.int _) nln)))
theorem case_nl {as : List Alt} {o : Option PyData} (h : ∀ p ∈ ways as o, NoL p.2) : (∀ d ∈ as.map altD, NoL d) ∧ NoL (otherD o) := by
  refine ⟨fun d hd => ?_, ?_⟩
  · obtain ⟨a, ha, rfl⟩ := List.mem_map.mp hd
    have h1 := h a.2 (List.mem_append.mpr (.inl (List.mem_map.mpr ⟨a, ha, rfl⟩)))
    refine .tup (nlc ?_ (nlc (.tup (nls _)) (nlc h1 nln)))
    cases a.1 with
    | inl i => exact .int i
    | inr x => exact .str x
  · cases o with
    | none => exact .non
    | some e => exact h ([], e) (List.mem_append.mpr (.inr (by simp)))
theorem mcs {α : Type} {P : α → Prop} {a : α} {l : List α} (h : P a) (t : ∀ x ∈ l, P x) : ∀ x ∈ a :: l, P x := fun x hx => by
  rcases List.mem_cons.mp hx with rfl | hx
  · exact h
  · exact t x hx
theorem lets_nl {bs : List (Str × PyData)} {e : PyData} (h : ∀ p ∈ bs.map (·.2) ++ [e], NoL p) : (∀ d ∈ (bs.map fun b => PyData.tuple [.str b.1, b.2]), NoL d) ∧ NoL e := by
  refine ⟨fun d hd => ?_, h e (List.mem_append.mpr (.inr (List.mem_cons_self ..)))⟩
  obtain ⟨b, hb, rfl⟩ := List.mem_map.mp hd
  exact .tup (nlc (.str _) (nlc (h b.2 (List.mem_append.mpr (.inl (List.mem_map.mpr ⟨b, hb, rfl⟩)))) nln))
mutual
theorem Jd.noL {n : Int} {D : Str → Nat → Bool} : ∀ {L : Nat} {S S' : Nm} {e : PyData} {c : Nat}, Jd n D L S e S' c → NoL e
  | _, _, _, _, _, .atom h => h.noL
  | _, _, _, _, _, .fault _ _ _ => .tup (nlc (.str _) (nlc (.int _) (nlc (.str _) nln)))
  | _, _, _, _, _, .con _ _ h _ => .tup (nlc (.str _) (nlc (.int _) (nlc (.str _) (nlc (.tup fun d hd => (h d hd).noL) nln))))
  | _, _, _, _, _, .call _ _ _ h _ _ => .tup (nlc (.str _) (nlc (.int _) (nlc (.tup (nlc (.str _) (nlc (.int _) (nlc (.str _) nln)))) (nlc (.tup fun d hd => (h d hd).noL) nln))))
  | _, _, _, _, _, .now _ _ _ _ h1 => .tup (nlc (.str _) (nlc (.int _) (nlc (.int _) (nlc (.str _) (nlc (Jd.noL h1) nln)))))
  | _, _, _, _, _, .deed _ _ h1 h2 => .tup (nlc (.str _) (nlc (.int _) (nlc (.str _) (nlc (Jd.noL h1) (nlc (Jd.noL h2) nln)))))
  | _, _, _, _, _, .early _ _ _ _ _ h1 h2 => .tup (nlc (.str _) (nlc (.int _) (nlc (.str _) (nlc (Jd.noL h1) (nlc (.int _) (nlc (Jd.noL h2) nln))))))
  | _, _, _, _, _, .func _ _ _ _ h1 => .tup (nlc (.str _) (nlc (.int _) (nlc (.tup (nls _)) (nlc (Jd.noL h1) nln))))
  | _, _, _, _, _, .lets _ _ _ _ h1 => .tup (nlc (.str _) (nlc (.int _) (nlc (.tup (lets_nl (JdL.noL h1)).1) (nlc (lets_nl (JdL.noL h1)).2 nln))))
  | _, _, _, _, _, .case _ _ _ _ _ _ h0 h1 => .tup (nlc (.str _) (nlc (.int _) (nlc (Jd.noL h0) (nlc (.str _) (nlc (.tup (case_nl (JdC.noL h1)).1) (nlc (case_nl (JdC.noL h1)).2 nln))))))
theorem JdC.noL {n : Int} {D : Str → Nat → Bool} : ∀ {L : Nat} {S S' : Nm} {es : List (List Str × PyData)} {c : Nat}, JdC n D L S es S' c → ∀ p ∈ es, NoL p.2
  | _, _, _, _, _, .nil => fun _ h => nomatch h
  | _, _, _, _, _, .cons h1 h2 => mcs (P := fun p : List Str × PyData => NoL p.2) (Jd.noL h1) (JdC.noL h2)
theorem JdL.noL {n : Int} {D : Str → Nat → Bool} : ∀ {L : Nat} {S S' : Nm} {es : List PyData} {c : Nat}, JdL n D L S es S' c → ∀ p ∈ es, NoL p
  | _, _, _, _, _, .nil => fun _ h => nomatch h
  | _, _, _, _, _, .cons h1 h2 => mcs (P := NoL) (Jd.noL h1) (JdL.noL h2)
end
theorem Jd.form {n : Int} {D : Str → Nat → Bool} {L : Nat} {S S' : Nm} {e : PyData} {c : Nat} (h : Jd n D L S e S' c) : ∃ (wd : Str) (p : Int) (rest : List PyData), e = .tuple (.str wd :: .int p :: rest) ∧ 1 ≤ rest.length ∧ wd ∈ formWords := by
  cases h with
  | atom h =>
    cases h with
    | name _ _ => exact ⟨_, _, _, rfl, Nat.le_refl _, by decide⟩
    | num _ _ => exact ⟨_, _, _, rfl, Nat.le_refl _, by decide⟩
  | fault _ _ _ => exact ⟨_, _, _, rfl, Nat.le_refl _, by decide⟩
  | con _ _ _ _ => exact ⟨_, _, _, rfl, Nat.le_add_left _ _, by decide⟩
  | call _ _ _ _ _ _ => exact ⟨_, _, _, rfl, Nat.le_add_left _ _, by decide⟩
  | now _ _ _ _ _ => exact ⟨_, _, _, rfl, Nat.le_add_left _ _, by decide⟩
  | deed _ _ _ _ => exact ⟨_, _, _, rfl, Nat.le_add_left _ _, by decide⟩
  | early _ _ _ _ _ _ _ => exact ⟨_, _, _, rfl, Nat.le_add_left _ _, by decide⟩
  | func _ _ _ _ _ => exact ⟨_, _, _, rfl, Nat.le_add_left _ _, by decide⟩
  | lets _ _ _ _ _ => exact ⟨_, _, _, rfl, Nat.le_add_left _ _, by decide⟩
  | case _ _ _ _ _ _ _ _ => exact ⟨_, _, _, rfl, Nat.le_add_left _ _, by decide⟩
/-! ### a heap without a list that changes -/
section
variable {K : PySem.W.Frag} {G G' : Hp} {D : Addr} {ws : List V}
theorem all_off : ∀ {vs : List V} {ds : List PyData}, DpAll K G vs ds → (∀ d ∈ ds, ∀ v, Dp K G v d → Dp K G' v d) → DpAll K G' vs ds
  | _, _, .nil, _ => .nil
  | _, _, .cons h t, f => .cons (f _ (List.mem_cons_self ..) _ h) (all_off t fun d hd => f d (List.mem_cons_of_mem _ hd))
theorem seqT_off {a : Addr} {xs : List V} (hD : G D = some (.lst ws)) (h : SqT K G a xs) : SqT K (offG G D) a xs := by
  have key : ∀ {u : HO}, G a = some u → (∀ zs, u ≠ .lst zs) → offG G D a = some u := fun {u} e hu => by
    unfold offG
    rw [if_neg (fun z => by rw [z, hD] at e; exact hu _ (Option.some.inj e).symm)]
    exact e
  rcases h with (h | ⟨o, h⟩) | h
  · exact .inl (.inl (key h fun zs z => nomatch z))
  · exact .inl (.inr ⟨o, key h fun zs z => nomatch z⟩)
  · exact .inr h
theorem dp_off (hD : G D = some (.lst ws)) : ∀ {e : PyData}, NoL e → ∀ v, Dp K G v e → Dp K (offG G D) v e := by
  intro e h
  induction h with
  | non => intro v hv; cases hv; exact .non
  | bl b => intro v hv; cases hv; exact .bl b
  | int i => intro v hv; cases hv; exact .int i
  | str x => intro v hv; cases hv; exact .str x
  | tup _ ih =>
    intro v hv
    cases hv with
    | tup hS hA => exact .tup (seqT_off hD hS) (all_off hA ih)
end
theorem GrL.snoc {n : Int} {D : Str → Nat → Bool} {ar xs : List Str} {d lo mid hi cb nb cb2 nb2 : Nat} {es : List PyData} {e : PyData} (h : GrL n D ar xs d lo mid cb nb es) (h2 : Gr n D (ar ++ xs) mid hi cb2 nb2 d e) : GrL n D ar xs d lo hi (cb + cb2) (nb + nb2) (es ++ [e]) := by
  induction h with
  | @nil lo =>
    have := GrL.cons (es := []) h2 .nil
    rw [Nat.zero_add, Nat.zero_add]
    exact this
  | cons h1 _ ih =>
    have := GrL.cons h1 (ih h2)
    rw [Nat.add_assoc, Nat.add_assoc]
    exact this
/-- what is grown holds no lists -/
theorem getN_ar : ∀ (ar : List Str) (x : Str), getN (ar.map fun y => (y, true)) x = if x ∈ ar then some true else none
  | [], x => rfl
  | y :: ar, x => by
    have ih := getN_ar ar x
    unfold getN at ih ⊢
    rw [List.map_cons, List.find?_cons]
    dsimp only
    by_cases c : y = x
    · rw [decide_eq_true c, if_pos (by rw [c]; exact List.mem_cons_self ..)]
      rfl
    · rw [decide_eq_false c]
      dsimp only
      rw [ih]
      by_cases c2 : x ∈ ar
      · rw [if_pos c2, if_pos (List.mem_cons_of_mem _ c2)]
      · rw [if_neg c2, if_neg (fun k => (List.mem_cons.mp k).elim (fun z => c z.symm) c2)]
theorem Gr.jd {n : Int} {D : Str → Nat → Bool} {ar : List Str} {lo hi cb nb d : Nat} {e : PyData} (h : Gr n D ar lo hi cb nb d e) (har : ∀ y ∈ ar, idx y ≤ lo) : ∃ L S S' c, Jd n D L S e S' c := by
  obtain ⟨S', c, hj, _⟩ := h.run d (ar.map fun y => (y, true)) (Nat.le_refl _) (fun x hx => by rw [getN_ar, if_pos hx]) fun x k1 _ => by
    rw [getN_ar, if_neg (fun z => by have := har x z; omega)]
  exact ⟨_, _, _, _, hj⟩
end J45

set_option Elab.async false
set_option maxRecDepth 100000
/-! what the law grows, at every depth that it asks for -/
namespace J45
open PySem PySem.Spec PyProof.Rows L2 Hx Xr RN
section
variable {P : Program} {w : World} {K : PySem.W.Frag} {mg : Str → Option Value} {base : Heap}
set_option maxHeartbeats 8000000 in
theorem ok_grown0 {f fD fF fT : Addr} {fd fdD fdF fdT : FuncData} (F : Fun K "_law_grown" "_law_grown" sGrown f fd) (gRa : mg "range" = none) (kG : PySem.W.keepIn K (.ref f) = true) (bG : Binds K fd ["_law_purse_here", "_law_own", "_law_around", "_law_deep"] []) (gG : mg "_law_grown" = some (.ref f))
    (GD : FnOk P w K mg base CX0 2 fD fdD ["_law_purse_here", "_law_out_of"] spDraw) (kD : PySem.W.keepIn K (.ref fD) = true) (bD : Binds K fdD ["_law_purse_here", "_law_out_of"] []) (gD : mg "_law_draw" = some (.ref fD))
    (GF : FnOk P w K mg base CX0 3 fF fdF ["_law_purse_here", "_law_own"] spFresh) (kF : PySem.W.keepIn K (.ref fF) = true) (bF : Binds K fdF ["_law_purse_here", "_law_own"] []) (gF : mg "_law_fresh" = some (.ref fF))
    (GT : FnOk P w K mg base CX0 4 fT fdT ["_law_purse_here", "_law_own", "_law_around", "_law_p"] (spTip K)) (kT : PySem.W.keepIn K (.ref fT) = true) (bT : Binds K fdT ["_law_purse_here", "_law_own", "_law_around", "_law_p"] []) (gT : mg "_law_tip" = some (.ref fT)) :
    FnOk P w K mg base CX0 5 f fd ["_law_purse_here", "_law_own", "_law_around", "_law_deep"] (spGrown K 0 15 0 0 0) := by
  have GG : FnOk P w K mg base CX0 4 f fd ["_law_purse_here", "_law_own", "_law_around", "_law_deep"] (fun _ _ _ _ => False) := ⟨fun _ _ _ _ h => h.elim, fun _ _ _ _ _ _ _ _ _ _ _ _ _ h => h.elim⟩
  refine F.ok scGrown (fun vs H Q E h => ?_) (fun cdv A outer st H vs Q E hr h => ?_)
  · obtain ⟨G, a, o, r, n, k, ar, rfl, _⟩ := h
    rfl
  obtain ⟨G, a, o, r, n, k, ar, rfl, J, hA, hx, har9, hk, hn, q⟩ := h
  refine ⟨_, (pss_cons (ps_asg (pe_lc (own := [("_law_many", 7)]) (g := gName 7) (tt := tYes) rfl scGrown.nd (pi_list (pe_lst (pa_cons pe_int (pa_cons pe_int (pa_cons pe_int pa_nil))))) (blkOk_by (own := [("_law_many", 7)]) (N := ["_law_purse_here", "_law_own", "_law_around", "_law_deep", "_law_p", "_law_q", "_law_way", "_law_many", "_law_x", "_law_y", "_law_z", "_law_w", "_law_k", "_law_one", "_law_both", "_law_rows", "_law_other"]) (sc := defScope sGrown) (by decide +kernel)) (fun _ _ _ _ _ => pg_name (i := 7) scGrown.nd rfl (.inl rfl)) (fun _ _ _ _ _ => pts_nil) (fun _ _ _ _ _ => (pe_call GD (hr.mono (by omega)) rfl gD kD bD .nil pass0 (pa_cons (pv 0) (pa_cons (pv 7) pa_nil))))) (pg_unl rfl (pgs_cons (pg_name (i := 4) scGrown.nd rfl (.inl rfl)) (pgs_cons (pg_name (i := 5) scGrown.nd rfl (.inl rfl)) (pgs_cons (pg_name (i := 6) scGrown.nd rfl (.inl rfl)) pgs_nil)))))
      (pss_cons (ps_if (PW.pt (pw_or (pt_cmpR op_eq (pv 3) pe_int (nomark _)) (pw_or1 (pt_cmpR op_lt (pv 6) pe_int (nomark _))))) (pss_one (ps_ret (pe_call GT (hr.mono (by omega)) rfl gT kT bT .nil pass0 (pa_cons (pv 0) (pa_cons (pv 1) (pa_cons (pv 2) (pa_cons (pv 4) pa_nil))))))) pss_nil)
      (pss_cons (ps_asg (pe_lc (own := [("_law_k", 12)]) (g := gName 12) (tt := tYes) rfl scGrown.nd (pi_range1 (by rfl) gRa (pa_cons pe_int pa_nil)) (blkOk_by (own := [("_law_k", 12)]) (N := ["_law_purse_here", "_law_own", "_law_around", "_law_deep", "_law_p", "_law_q", "_law_way", "_law_many", "_law_x", "_law_y", "_law_z", "_law_w", "_law_k", "_law_one", "_law_both", "_law_rows", "_law_other"]) (sc := defScope sGrown) (by decide +kernel)) (fun _ _ _ _ _ => pg_name (i := 12) scGrown.nd rfl (.inl rfl)) (fun _ _ _ _ _ => pts_nil) (fun _ _ _ _ _ => (pe_call GF (hr.mono (by omega)) rfl gF kF bF .nil pass0 (pa_cons (pv 0) (pa_cons (pv 1) pa_nil))))) (pg_unl rfl (pgs_cons (pg_name (i := 8) scGrown.nd rfl (.inl rfl)) (pgs_cons (pg_name (i := 9) scGrown.nd rfl (.inl rfl)) (pgs_cons (pg_name (i := 10) scGrown.nd rfl (.inl rfl)) (pgs_cons (pg_name (i := 11) scGrown.nd rfl (.inl rfl)) pgs_nil))))))
      (pss_cons (ps_set (i := 13) scGrown.nd rfl (.inl rfl) (pe_call GG (hr.mono (by omega)) rfl gG kG bG .nil pass0 (pa_cons (pv 0) (pa_cons (pv 1) (pa_cons (pv 2) (pa_cons (pe_op op_sub (pv 3) pe_int) pa_nil))))))
      (pss_cons (ps_if (pt_cmpR op_eq (pv 6) pe_int (nomark _)) (pss_one (ps_ret (pe_tup (pa_cons pe_str (pa_cons (pv 4) (pa_cons (pv 5) (pa_cons pe_str (pa_cons (pv 13) pa_nil)))))))) pss_nil)
      (pss_cons (ps_if (pt_cmpR op_eq (pv 6) pe_int (nomark _)) (pss_one (ps_ret (pe_tup (pa_cons pe_str (pa_cons (pv 4) (pa_cons (pv 8) (pa_cons (pv 13) (pa_cons (pv 5) (pa_cons (pe_call GG (hr.mono (by omega)) rfl gG kG bG .nil pass0 (pa_cons (pv 0) (pa_cons (pv 1) (pa_cons (pe_op op_cat (pv 2) (pe_lst (pa_cons (pv 8) pa_nil))) (pa_cons (pe_op op_sub (pv 3) pe_int) pa_nil))))) pa_nil))))))))) pss_nil)
      (pss_cons (ps_if (pt_cmpR op_eq (pv 6) pe_int (nomark _)) (pss_one (ps_ret (pe_tup (pa_cons pe_str (pa_cons (pv 4) (pa_cons (pe_tup (pa_cons (pv 8) (pa_cons (pv 9) pa_nil))) (pa_cons (pe_call GG (hr.mono (by omega)) rfl gG kG bG .nil pass0 (pa_cons (pv 0) (pa_cons (pv 1) (pa_cons (pe_op op_cat (pv 2) (pe_lst (pa_cons (pv 8) (pa_cons (pv 9) pa_nil)))) (pa_cons (pe_op op_sub (pv 3) pe_int) pa_nil))))) pa_nil))))))) pss_nil)
      (pss_cons (ps_if (pt_cmpR op_lt (pv 6) pe_int (nomark _)) (pss_cons (ps_set (i := 14) scGrown.nd rfl (.inl rfl) (pe_op op_cat (pv 2) (pe_lst (pa_cons (pv 8) (pa_cons (pv 9) pa_nil)))))
      (pss_cons (ps_set (i := 15) scGrown.nd rfl (.inl rfl) (pe_tup (pa_cons (pe_tup (pa_cons (pv 8) (pa_cons (pv 13) pa_nil))) (pa_cons (pe_tup (pa_cons (pv 9) (pa_cons (pe_call GG (hr.mono (by omega)) rfl gG kG bG .nil pass0 (pa_cons (pv 0) (pa_cons (pv 1) (pa_cons (pv 14) (pa_cons (pe_op op_sub (pv 3) pe_int) pa_nil))))) pa_nil))) pa_nil))))
      (pss_one (ps_ret (pe_tup (pa_cons pe_str (pa_cons (pv 4) (pa_cons (pe_slice sl_tupA (pv 15) po_none (po_some (pe_op op_add pe_int (pe_call GD (hr.mono (by omega)) rfl gD kD bD .nil pass0 (pa_cons (pv 0) (pa_cons pe_int pa_nil)))))) (pa_cons (pe_call GG (hr.mono (by omega)) rfl gG kG bG .nil pass0 (pa_cons (pv 0) (pa_cons (pv 1) (pa_cons (pe_op op_cat (pv 2) (pe_lst (pa_cons (pv 8) pa_nil))) (pa_cons (pe_op op_sub (pv 3) pe_int) pa_nil))))) pa_nil))))))))) pss_nil)
      (pss_cons (ps_if (pt_cmpR op_lt (pv 6) pe_int (nomark _)) (pss_cons (ps_set (i := 15) scGrown.nd rfl (.inl rfl) (pe_tup (pa_cons (pe_tup (pa_cons pe_str (pa_cons (pe_tup (pa_cons (pv 8) (pa_cons (pv 9) pa_nil))) (pa_cons (pe_call GG (hr.mono (by omega)) rfl gG kG bG .nil pass0 (pa_cons (pv 0) (pa_cons (pv 1) (pa_cons (pe_op op_cat (pv 2) (pe_lst (pa_cons (pv 8) (pa_cons (pv 9) (pa_cons (pv 10) pa_nil))))) (pa_cons (pe_op op_sub (pv 3) pe_int) pa_nil))))) pa_nil)))) (pa_cons (pe_tup (pa_cons pe_int (pa_cons (pe_tup pa_nil) (pa_cons (pe_tup (pa_cons pe_str (pa_cons (pv 4) (pa_cons pe_int pa_nil)))) pa_nil)))) pa_nil)))) (C8.pss_cut (ps_if (pt_cmpR op_eq (pe_call GD (hr.mono (by omega)) rfl gD kD bD .nil pass0 (pa_cons (pv 0) (pa_cons pe_int pa_nil))) pe_int (nomark _)) (pss_one (ps_set (i := 15) scGrown.nd rfl (.inl rfl) (pe_op op_catA (pe_tup (pa_cons (pe_tup (pa_cons pe_str (pa_cons (pe_tup (pa_cons (pv 8) (pa_cons (pv 9) (pa_cons (pv 11) pa_nil)))) (pa_cons (pe_ix ix_tup (pe_ix ix_tup (pv 15) pe_int (fun _ _ => rfl)) pe_int (fun _ _ => rfl)) pa_nil)))) pa_nil)) (pe_slice sl_tupA (pv 15) (po_some pe_int) po_none)))) pss_nil) (pss_cons (ps_set (i := 15) scGrown.nd rfl (.inl rfl) (pe_op op_catA (pv 15) (pe_tup (pa_cons (pe_tup (pa_cons pe_str (pa_cons (pe_tup pa_nil) (pa_cons (pe_tup (pa_cons pe_str (pa_cons (pv 5) (pa_cons (pv 10) pa_nil)))) pa_nil)))) pa_nil))))
      (pss_cons (ps_set (i := 16) scGrown.nd rfl (.inl rfl) (pe_ix ix_list (pe_lst (pa_cons pe_non (pa_cons (pe_tup (pa_cons pe_str (pa_cons (pv 5) (pa_cons (pv 10) pa_nil)))) pa_nil))) (pe_call GD (hr.mono (by omega)) rfl gD kD bD .nil pass0 (pa_cons (pv 0) (pa_cons pe_int pa_nil))) (fun _ _ => rfl)))
      (pss_one (ps_ret (pe_tup (pa_cons pe_str (pa_cons (pv 4) (pa_cons (pv 13) (pa_cons (pv 10) (pa_cons (pe_slice sl_tupA (pv 15) (po_some (pe_call GD (hr.mono (by omega)) rfl gD kD bD .nil pass0 (pa_cons (pv 0) (pa_cons pe_int pa_nil)))) po_none) (pa_cons (pv 16) pa_nil))))))))))))) pss_nil)
      (pss_one (ps_ret (pe_tup (pa_cons pe_str (pa_cons (pv 4) (pa_cons (pe_ix ix_list (pe_lst (pa_cons pe_str (pa_cons pe_str (pa_cons pe_str pa_nil)))) (pe_call GD (hr.mono (by omega)) rfl gD kD bD .nil pass0 (pa_cons (pv 0) (pa_cons pe_int pa_nil))) (fun _ _ => rfl)) (pa_cons (pv 13) (pa_cons (pe_call GG (hr.mono (by omega)) rfl gG kG bG .nil pass0 (pa_cons (pv 0) (pa_cons (pv 1) (pa_cons (pv 2) (pa_cons (pe_op op_sub (pv 3) pe_int) pa_nil))))) pa_nil))))))))))))))))), ?_⟩
  have hAl := Nat.pos_of_ne_zero fun z => hA.ne (List.length_eq_zero_iff.mp z)
  refine ⟨by show 3 ≤ sizeLine; decide, fun l nl => ⟨l, rfl, ⟨_, SqL.of upd_same⟩, fun Dl nD => ?_⟩⟩
  have J1 := J.grow (u := .lst [.int 20, .int 20, .int 11]) nl
  have s1 : Same G (upd G l (.lst [.int 20, .int 20, .int 11])) := Same.new (J.none nl)
  have gD := J1.none nD
  obtain ⟨aD, oD⟩ := J1.apart nD
  refine lc_list (K := K) (a := l) (xs := [.int 20, .int 20, .int 11]) (fun i Hk => ∃ (js : List Nat) (n1 : Int), js.length = i ∧ Hk Dl = some (.lst (js.map fun j : Nat => V.int (j : Int))) ∧ (∀ (c j : Nat), js[c]? = some j → j < if c = 2 then 11 else 20) ∧ PuAt (upd G l (.lst [.int 20, .int 20, .int 11])) Hk a o n1 (k : Int) ∧ n1 ≤ n + i)
    ⟨[], n, rfl, upd_same, fun c j h => by simp at h, J1.set gD aD oD, by omega⟩ (fun i Hk _ ⟨_, _, _, _, _, J2, _⟩ => SqL.of (J2.same _ _ upd_same)) ?_ ?_
  · rintro i y Hk hy ⟨js, n1, hl, hDl, hb, J2, hn1⟩
    have J3 := J2.take hDl aD oD
    have one : ∀ s : Nat, 1 ≤ s → s ≤ 20 → (s = if i = 2 then 11 else 20) → i < 3 → ∀ (j : Nat) (n2 : Int) (H4 : Hp), (j : Int) < s → n2 ≤ n1 + 1 → PuAt (upd (upd G l (.lst [.int 20, .int 20, .int 11])) Dl (.lst (js.map fun j : Nat => V.int (j : Int)))) H4 a o n2 (k : Int) →
        ∃ acc, H4 Dl = some (.lst acc) ∧ acc.length < sizeLine ∧ (∃ (js : List Nat) (n1 : Int), js.length = i + 1 ∧ upd H4 Dl (.lst (acc ++ [.int (j : Int)])) Dl = some (.lst (js.map fun j : Nat => V.int (j : Int))) ∧ (∀ (c j : Nat), js[c]? = some j → j < if c = 2 then 11 else 20) ∧ PuAt (upd G l (.lst [.int 20, .int 20, .int 11])) (upd H4 Dl (.lst (acc ++ [.int (j : Int)]))) a o n1 (k : Int) ∧ n1 ≤ n + ((i + 1 : Nat) : Int)) := by
      intro s h1 h2 hs i3 j n2 H4 hj hn2 J4
      refine ⟨_, J4.same _ _ upd_same, ?_, js ++ [j], n2, by simp [hl], ?_, ?_, (J4.less gD).set gD aD oD, by omega⟩
      · rw [List.length_map, hl]
        exact Nat.lt_trans i3 (by decide)
      · rw [upd_same, List.map_append]
        rfl
      · intro c j' hc
        by_cases cl : c < js.length
        · rw [List.getElem?_append_left cl] at hc
          exact hb c j' hc
        · rw [List.getElem?_append_right (by omega)] at hc
          have c0 : c - js.length = 0 := by
            rcases Nat.eq_zero_or_pos (c - js.length) with z | z
            · exact z
            · rw [List.getElem?_eq_none (show 1 ≤ c - js.length from z)] at hc
              cases hc
          rw [c0] at hc
          cases hc
          have ci : c = i := by omega
          rw [ci, ← hs]
          omega
    rcases i with _ | _ | _ | i
    · cases hy
      refine ⟨rfl, ?_⟩
      dsimp only [tYes]
      rw [if_pos rfl]
      refine ⟨_, rfl, _, rfl, _, a, o, 20, n1, k, rfl, by decide, by decide, J3, by omega, fun j n2 H4 hj hn2 J4 => one 20 (by decide) (by decide) rfl (by decide) j n2 H4 hj hn2 J4⟩
    · cases hy
      refine ⟨rfl, ?_⟩
      dsimp only [tYes]
      rw [if_pos rfl]
      refine ⟨_, rfl, _, rfl, _, a, o, 20, n1, k, rfl, by decide, by decide, J3, by omega, fun j n2 H4 hj hn2 J4 => one 20 (by decide) (by decide) rfl (by decide) j n2 H4 hj hn2 J4⟩
    · cases hy
      refine ⟨rfl, ?_⟩
      dsimp only [tYes]
      rw [if_pos rfl]
      refine ⟨_, rfl, _, rfl, _, a, o, 11, n1, k, rfl, by decide, by decide, J3, by omega, fun j n2 H4 hj hn2 J4 => one 11 (by decide) (by decide) rfl (by decide) j n2 H4 hj hn2 J4⟩
    · cases hy
  rintro Hk ⟨js, n1, hl, hDl, hb, J2, hn1⟩
  obtain ⟨p, qq, w11, rfl⟩ : ∃ p qq w11, js = [p, qq, w11] := by
    rcases js with _ | ⟨p, _ | ⟨qq, _ | ⟨w11, _ | ⟨y, js⟩⟩⟩⟩
    · cases hl
    · cases hl
    · cases hl
    · exact ⟨p, qq, w11, rfl⟩
    · simp at hl
  have hp20 : inP 20 (p : Int) = true := inP_nat (by simpa using hb 0 p rfl)
  have hq20 : inP 20 (qq : Int) = true := inP_nat (by simpa using hb 1 qq rfl)
  have hw11 : w11 < 11 := by simpa using hb 2 w11 rfl
  clear hb
  replace hn1 : n1 ≤ n + 3 := hn1
  refine ⟨Dl, _, rfl, SqL.of hDl, rfl, _, _, rfl, _, _, rfl, _, _, rfl, rfl, ?_⟩
  have hA1 := hA.up s1
  generalize upd G l (.lst [.int 20, .int 20, .int 11]) = G1 at *
  refine ⟨_, rfl, rfl, true, bl_t rfl, iteT ?_⟩
  refine ⟨_, rfl, _, rfl, _, rfl, _, rfl, G1, a, o, r, n1, k, p, ar, rfl, hp20, J2, hA1, by omega, fun G2 v e H3 n3 ht s2 d2 J3 hn3 => ?_⟩
  exact q G2 v e H3 n3 k ((ht k).mono (Nat.le_refl _) (Nat.le_refl _) (Nat.zero_le _) (Nat.zero_le _) (by omega)) (s1.trans s2) d2 J3 (by omega) (by omega)
theorem all_grown {f fD fF fT : Addr} {fd fdD fdF fdT : FuncData} (F : Fun K "_law_grown" "_law_grown" sGrown f fd) (gRa : mg "range" = none) (kG : PySem.W.keepIn K (.ref f) = true) (bG : Binds K fd ["_law_purse_here", "_law_own", "_law_around", "_law_deep"] []) (gG : mg "_law_grown" = some (.ref f))
    (GD : FnOk P w K mg base CX0 2 fD fdD ["_law_purse_here", "_law_out_of"] spDraw) (kD : PySem.W.keepIn K (.ref fD) = true) (bD : Binds K fdD ["_law_purse_here", "_law_out_of"] []) (gD : mg "_law_draw" = some (.ref fD))
    (GF : FnOk P w K mg base CX0 3 fF fdF ["_law_purse_here", "_law_own"] spFresh) (kF : PySem.W.keepIn K (.ref fF) = true) (bF : Binds K fdF ["_law_purse_here", "_law_own"] []) (gF : mg "_law_fresh" = some (.ref fF))
    (GT : FnOk P w K mg base CX0 4 fT fdT ["_law_purse_here", "_law_own", "_law_around", "_law_p"] (spTip K)) (kT : PySem.W.keepIn K (.ref fT) = true) (bT : Binds K fdT ["_law_purse_here", "_law_own", "_law_around", "_law_p"] []) (gT : mg "_law_tip" = some (.ref fT)) :
    FnOk P w K mg base CX0 7 f fd ["_law_purse_here", "_law_own", "_law_around", "_law_deep"] (spGrown K 2 255 16 24 80) := by
  have g0 := ok_grown0 F gRa kG bG gG GD kD bD gD GF kF bF gF GT kT bT gT
  have g1 := ok_grown (d := 0) (by decide) F gRa GD kD bD gD GF kF bF gF GT kT bT gT g0 kG bG gG
  exact ok_grown (d := 1) (by decide) F gRa GD kD bD gD GF kF bF gF GT kT bT gT g1 kG bG gG
end
end J45

set_option Elab.async false
set_option maxRecDepth 100000
/-! a core drawn -/
namespace J45
open PySem PySem.Spec PyProof.Rows L2 Hx Xr RN
abbrev sCore : Stmt := top 58
def names3 : List Str := ["a", "main", "b2"]
def placeD (i : Nat) : PyData := .tuple [.int (1 + ((0 : Int) + (i : Int)) / 6), .int (1 + ((0 : Int) + (i : Int)) % 6 * 9)]
def twoD (a : Str) (i : Int) (b : Str) (j : Int) : PyData := .tuple [.tuple [.str a, .int i], .tuple [.str b, .int j]]
theorem names_cut {j : Nat} (h : j < 3) : cutV [V.str "a", .str "main", .str "b2"] none (some (1 + (j : Int))) = (names3.take (1 + j)).map V.str := by
  rcases j with _ | _ | _ | j
  · rfl
  · rfl
  · rfl
  · omega
theorem names_ok : ∀ x ∈ names3, idx x = 0 ∧ PyData.strOk x = true := by decide +kernel
section
variable {P : Program} {w : World} {K : PySem.W.Frag} {mg : Str → Option Value} {base : Heap}
def dataKV (tT tR tF : Addr) : List (Key × V) := [(.inr "False", .ref tT), (.inr "True", .ref tT), (.inr "Nil", .ref tR), (.inr "Cons", .ref tR), (.inr "Leaf", .ref tF), (.inr "Fork", .ref tF)]
theorem dataKV_merge (tT tR tF : Addr) : mergeK [] (dataKV tT tR tF) = dataKV tT tR tF := by
  rfl
theorem dataAt_law {G : Hp} {dn tT tR tF : Addr} (hd : G dn = some (.dK (dataKV tT tR tF))) (hT : Dp K G (.ref tT) (twoD "False" 0 "True" 0)) (hR : Dp K G (.ref tR) (twoD "Nil" 0 "Cons" 2)) (hF : Dp K G (.ref tF) (twoD "Leaf" 1 "Fork" 3)) : DataAt K G dn Dlaw := by
  refine ⟨_, hd, fun m k h => ?_⟩
  have h' := of_decide_eq_true h
  simp only [List.mem_cons, List.not_mem_nil, or_false, Prod.mk.injEq] at h'
  rcases h' with ⟨rfl, rfl⟩ | ⟨rfl, rfl⟩ | ⟨rfl, rfl⟩ | ⟨rfl, rfl⟩ | ⟨rfl, rfl⟩ | ⟨rfl, rfl⟩
  · exact ⟨tT, _, rfl, hT, by decide +kernel, by decide +kernel, by decide +kernel⟩
  · exact ⟨tT, _, rfl, hT, by decide +kernel, by decide +kernel, by decide +kernel⟩
  · exact ⟨tR, _, rfl, hR, by decide +kernel, by decide +kernel, by decide +kernel⟩
  · exact ⟨tR, _, rfl, hR, by decide +kernel, by decide +kernel, by decide +kernel⟩
  · exact ⟨tF, _, rfl, hF, by decide +kernel, by decide +kernel, by decide +kernel⟩
  · exact ⟨tF, _, rfl, hF, by decide +kernel, by decide +kernel, by decide +kernel⟩
/-- a drawn core at tp -/
structure CoreAt (K : PySem.W.Frag) (G : Hp) (tp pl dn tl : Addr) (wp wt : List V) (tops : List Top) : Prop where
  hT : G tp = some (.tup [.ref pl, .ref dn, .ref tl])
  hPl : G pl = some (.lst wp)
  places : DpAll K G wp ((List.range 20).map placeD)
  hDn : ∃ kvs, G dn = some (.dK kvs)
  data : DataAt K G dn Dlaw
  hTl : G tl = some (.lst wt)
  hTops : DpAll K G wt (tops.map topD)
  names : ∃ m, 1 ≤ m ∧ m ≤ 3 ∧ tops.map (·.1) = names3.take m
  right : ∃ S' c, JdL 20 Dlaw 200 (putAll [] (tops.map (·.1)) true) (tops.map (·.2)) S' c ∧ S'.length ≤ 1000 ∧ c ≤ 1000
theorem CoreAt.same {G G' : Hp} {tp pl dn tl : Addr} {wp wt : List V} {tops : List Top} (h : CoreAt K G tp pl dn tl wp wt tops) (s : Same G G') : CoreAt K G' tp pl dn tl wp wt tops :=
  ⟨s _ _ h.hT, s _ _ h.hPl, DpAll.same s _ _ h.places, h.hDn.imp fun _ e => s _ _ e, h.data.same s, s _ _ h.hTl, DpAll.same s _ _ h.hTops, h.names, h.right⟩
theorem PuAt.disp {G H : Hp} {a o dn tT tR tF : Addr} {n k : Int} (J : PuAt G H a o n k) (nd : H dn = Option.none) : PuAt (upd G dn (.dK (dataKV tT tR tF))) (upd (upd H dn (.dK [])) dn (.dK (mergeK [] (dataKV tT tR tF)))) a o n k := by
  rw [upd_upd, dataKV_merge]
  exact J.grow nd
theorem tops_right {names : List Str} {es : List PyData} {hi cb nb : Nat} (hn : ∀ x ∈ names, idx x = 0) (hl : names.length ≤ 3) (h : GrL 20 Dlaw names [] 3 0 hi cb nb es) (hc : cb ≤ 900) (hb : nb ≤ 900) :
    ∃ S' c, JdL 20 Dlaw 200 (putAll [] names true) es S' c ∧ S'.length ≤ 1000 ∧ c ≤ 1000 := by
  have e : names ++ ([] : List Str) = names := List.append_nil _
  obtain ⟨S', c, a, _, c1, l⟩ := h.run 200 (putAll [] names true) (by decide) (fun x hx => by rw [e] at hx; rw [hn x hx]; exact Nat.le_refl _) (fun x hx => by rw [e] at hx; rw [getN_all, if_pos hx]) fun x k _ => by
    rw [getN_all, if_neg (fun hx => by rw [hn x hx] at k; exact absurd k (Nat.lt_irrefl _))]
    rfl
  have := putAll_le names [] true
  refine ⟨S', c, a, ?_, by omega⟩
  have e0 : ([] : Nm).length = 0 := rfl
  omega
theorem scCore : FnScope ["_law_purse_here", "_law_deep", "_law_own", "_law_tops", "_law_truth", "_law_rows", "_law_places", "_law_k", "_law_found", "_law_x", "_law_forks", "_law_data"] ["_law_purse_here", "_law_deep"] (defScope sCore) := ⟨rfl, rfl, rfl, by decide +kernel, rfl, by decide +kernel, by decide +kernel⟩
def spCore (K : PySem.W.Frag) : Sp := fun vs H Q _ => ∃ (G : Hp) (a : Addr) (x c n : Int), vs = [.ref a, .int 2] ∧ Same G H ∧ G a = none ∧ H a = some (.lst [.int x, .int c, .int n]) ∧ 0 ≤ x ∧ 0 ≤ c ∧ c < 2147483647 ∧ 0 ≤ n ∧ n ≤ 900000 ∧
  ∀ (G' H' : Hp) (tp pl dn tl : Addr) (wp wt : List V) (tops : List Top), Same G G' → Same G' H' → CoreAt K G' tp pl dn tl wp wt tops → Q (.ref tp) H'
set_option maxHeartbeats 8000000 in
theorem ok_core {f fD fG : Addr} {fd fdD fdG : FuncData} (F : Fun K "_law_core" "_law_core" sCore f fd) (gRa : mg "range" = none)
    (GD : FnOk P w K mg base CX0 2 fD fdD ["_law_purse_here", "_law_out_of"] spDraw) (kD : PySem.W.keepIn K (.ref fD) = true) (bD : Binds K fdD ["_law_purse_here", "_law_out_of"] []) (gD : mg "_law_draw" = some (.ref fD))
    (GG : FnOk P w K mg base CX0 7 fG fdG ["_law_purse_here", "_law_own", "_law_around", "_law_deep"] (spGrown K 2 255 16 24 80)) (kG : PySem.W.keepIn K (.ref fG) = true) (bG : Binds K fdG ["_law_purse_here", "_law_own", "_law_around", "_law_deep"] []) (gG : mg "_law_grown" = some (.ref fG)) :
    FnOk P w K mg base CX0 8 f fd ["_law_purse_here", "_law_deep"] (spCore K) := by
  refine F.ok scCore (fun vs H Q E h => ?_) (fun cdv A outer st H vs Q E hr h => ?_)
  · obtain ⟨G, a, x, c, n, rfl, _⟩ := h
    rfl
  obtain ⟨G, a, x, c, n, rfl, s0, ga, hpa, x0, c0, c1, n0, n1, q⟩ := h
  refine ⟨_, (pss_cons (ps_set (i := 2) scCore.nd rfl (.inr rfl) (pe_disp (pps_cons pe_str pe_int pps_nil) (by rfl) (by rfl) (fun z => by cases z) (by decide)))
      (pss_cons (ps_set (i := 3) scCore.nd rfl (.inr rfl) (pe_slice sl_list (pe_lst (pa_cons pe_str (pa_cons pe_str (pa_cons pe_str pa_nil)))) po_none (po_some (pe_op op_add pe_int (pe_call GD (hr.mono (by omega)) rfl gD kD bD .nil pass0 (pa_cons (pv 0) (pa_cons pe_int pa_nil)))))))
      (pss_cons (ps_set (i := 4) scCore.nd rfl (.inl rfl) (pe_tup (pa_cons (pe_tup (pa_cons pe_str (pa_cons pe_int pa_nil))) (pa_cons (pe_tup (pa_cons pe_str (pa_cons pe_int pa_nil))) pa_nil))))
      (pss_cons (ps_set (i := 5) scCore.nd rfl (.inl rfl) (pe_tup (pa_cons (pe_tup (pa_cons pe_str (pa_cons pe_int pa_nil))) (pa_cons (pe_tup (pa_cons pe_str (pa_cons pe_int pa_nil))) pa_nil))))
      (pss_cons (ps_setLc (i := 6) (own := [("_law_k", 7)]) (g := gName 7) (tt := tYes) rfl scCore.nd rfl rfl (sw_true rfl rfl rfl (by decide +kernel)) (pi_range1 (by rfl) gRa (pa_cons pe_int pa_nil)) (blkOk_by (own := [("_law_k", 7)]) (N := ["_law_purse_here", "_law_deep", "_law_own", "_law_tops", "_law_truth", "_law_rows", "_law_places", "_law_k", "_law_found", "_law_x", "_law_forks", "_law_data"]) (sc := defScope sCore) (by decide +kernel)) (fun _ _ _ _ _ => pg_name (i := 7) scCore.nd rfl (.inl rfl)) (fun _ _ _ _ _ => pts_nil) (fun _ _ _ _ _ => (pe_tup (pa_cons (pe_op op_add pe_int (pe_op op_fdiv (pv 7) pe_int)) (pa_cons (pe_op op_add pe_int (pe_op op_mul (pe_op op_mod (pv 7) pe_int) pe_int)) pa_nil)))))
      (pss_cons (ps_setLc (i := 8) (own := [("_law_x", 9)]) (g := gName 9) (tt := tYes) rfl scCore.nd rfl rfl (sw_true rfl rfl rfl (by decide +kernel)) (pi_list (pv 3)) (blkOk_by (own := [("_law_x", 9)]) (N := ["_law_purse_here", "_law_deep", "_law_own", "_law_tops", "_law_truth", "_law_rows", "_law_places", "_law_k", "_law_found", "_law_x", "_law_forks", "_law_data"]) (sc := defScope sCore) (by decide +kernel)) (fun _ _ _ _ _ => pg_name (i := 9) scCore.nd rfl (.inl rfl)) (fun _ _ _ _ _ => pts_nil) (fun _ _ _ _ _ => (pe_tup (pa_cons (pv 9) (pa_cons (pe_call GG (hr.mono (by omega)) rfl gG kG bG .nil pass0 (pa_cons (pv 0) (pa_cons (pv 2) (pa_cons (pv 3) (pa_cons (pv 1) pa_nil))))) pa_nil)))))
      (pss_cons (ps_set (i := 10) scCore.nd rfl (.inl rfl) (pe_tup (pa_cons (pe_tup (pa_cons pe_str (pa_cons pe_int pa_nil))) (pa_cons (pe_tup (pa_cons pe_str (pa_cons pe_int pa_nil))) pa_nil))))
      (pss_cons (ps_set (i := 11) scCore.nd rfl (.inl rfl) (pe_disp (pps_cons pe_str (pv 4) (pps_cons pe_str (pv 4) (pps_cons pe_str (pv 5) (pps_cons pe_str (pv 5) (pps_cons pe_str (pv 10) (pps_cons pe_str (pv 10) pps_nil)))))) (by rfl) (by rfl) (fun z => by cases z) (by decide)))
      (pss_one (ps_ret (pe_tup (pa_cons (pv 6) (pa_cons (pv 11) (pa_cons (pv 8) pa_nil)))))))))))))), ?_⟩
  intro o no
  have e0 : upd (upd H o (.dK [])) o (.dK (mergeK [] [((.inr "k" : Key), V.int 0)])) = upd H o (.dK [(.inr "k", .int 0)]) := by rw [upd_upd]; rfl
  have ao : a ≠ o := fun z => by rw [z, no] at hpa; cases hpa
  have go : G o = none := by
    cases e : G o with
    | none => rfl
    | some u => rw [s0 _ _ e] at no; cases no
  have J0 : PuAt G (upd (upd H o (.dK [])) o (.dK (mergeK [] [((.inr "k" : Key), V.int 0)]))) a o n ((0 : Nat) : Int) := by
    rw [e0]
    exact ⟨s0.trans (Same.new no), ga, go, ao, ⟨x, c, (upd_ne ao).trans hpa, x0, c0, c1⟩, n0, upd_same⟩
  clear e0
  refine ⟨upd_same, [(.inr "k", .int 0)], rfl, by decide, ?_⟩
  refine ⟨by show 3 ≤ sizeLine; decide, fun l nl => ?_⟩
  have J1 := J0.grow (u := .lst [.str "a", .str "main", .str "b2"]) nl
  have s1 := Same.new (o := .lst [.str "a", .str "main", .str "b2"]) (J0.none nl)
  refine ⟨_, rfl, _, a, o, 3, n, 0, rfl, by decide, by decide, J1, by omega, fun jj n2 H2 hj hn2 J2 => ⟨_, _, rfl, rfl, _, rfl, l, _, rfl, SqL.of (J2.same _ _ upd_same), fun r nr => ?_⟩⟩
  have hj3 : jj < 3 := by omega
  rw [names_cut hj3]
  have hnl : (names3.take (1 + jj)).length = 1 + jj := by
    rw [List.length_take]
    show min (1 + jj) 3 = _
    omega
  have hnx : ∀ x ∈ names3.take (1 + jj), idx x = 0 ∧ PyData.strOk x = true := fun x hx => names_ok x (List.mem_of_mem_take hx)
  have hme : ∃ m, 1 ≤ m ∧ m ≤ 3 ∧ names3.take (1 + jj) = names3.take m := ⟨1 + jj, by omega, by omega, rfl⟩
  generalize names3.take (1 + jj) = ns at *
  have J3 := J2.grow (u := .lst (ns.map V.str)) nr
  have s3 := Same.new (o := .lst (ns.map V.str)) (J2.none nr)
  have hA : AroundAt (upd (upd G l (.lst [.str "a", .str "main", .str "b2"])) r (.lst (ns.map V.str))) r ns := ⟨upd_same, fun z => by rw [z] at hnl; exact absurd hnl (by show ¬ (0 = 1 + jj); omega), fun x hx => (hnx x hx).2, by omega⟩
  refine ⟨by show 2 ≤ sizeLine; decide, fun tTa ntTa => ?_⟩
  obtain ⟨tTJ1, tTs1, tTd1⟩ := J3.tup (K := K) ntTa (.cons (.str "False") (.cons (.int 0) .nil))
  refine ⟨by show 2 ≤ sizeLine; decide, fun tTb ntTb => ?_⟩
  obtain ⟨tTJ2, tTs2, tTd2⟩ := tTJ1.tup (K := K) ntTb (.cons (.str "True") (.cons (.int 0) .nil))
  refine ⟨by show 2 ≤ sizeLine; decide, fun tT ntT => ?_⟩
  obtain ⟨J4, tTs3, tTd⟩ := tTJ2.tup (K := K) ntT (.cons (Dp.same tTs2 _ _ tTd1) (.cons tTd2 .nil))
  have sT := (tTs1.trans tTs2).trans tTs3
  replace tTd : Dp K _ (.ref tT) (twoD "False" 0 "True" 0) := tTd
  refine ⟨by show 2 ≤ sizeLine; decide, fun tRa ntRa => ?_⟩
  obtain ⟨tRJ1, tRs1, tRd1⟩ := J4.tup (K := K) ntRa (.cons (.str "Nil") (.cons (.int 0) .nil))
  refine ⟨by show 2 ≤ sizeLine; decide, fun tRb ntRb => ?_⟩
  obtain ⟨tRJ2, tRs2, tRd2⟩ := tRJ1.tup (K := K) ntRb (.cons (.str "Cons") (.cons (.int 2) .nil))
  refine ⟨by show 2 ≤ sizeLine; decide, fun tR ntR => ?_⟩
  obtain ⟨J5, tRs3, tRd⟩ := tRJ2.tup (K := K) ntR (.cons (Dp.same tRs2 _ _ tRd1) (.cons tRd2 .nil))
  have sR := (tRs1.trans tRs2).trans tRs3
  replace tRd : Dp K _ (.ref tR) (twoD "Nil" 0 "Cons" 2) := tRd
  have s5 := (s1.trans s3).trans (sT.trans sR)
  replace hA := hA.up (sT.trans sR)
  replace tTd := Dp.same sR _ _ tTd
  clear s1 s3 J0 J1 J3 tTJ1 tTJ2 J4 tRJ1 tRJ2
  obtain ⟨G5, s5, hA, tTd, tRd, J5⟩ : ∃ G5 : Hp, Same G G5 ∧ AroundAt G5 r ns ∧ Dp K G5 (.ref tT) (twoD "False" 0 "True" 0) ∧ Dp K G5 (.ref tR) (twoD "Nil" 0 "Cons" 2) ∧ PuAt G5 _ a o n2 ((0 : Nat) : Int) := ⟨_, s5, hA, tTd, tRd, J5⟩
  refine ⟨20, rfl, by decide, by decide, fun D1 nD1 => ?_⟩
  have g1 := J5.none nD1
  obtain ⟨a1, o1⟩ := J5.apart nD1
  refine lc_it walk_range (fun i Hk => ∃ (Gk : Hp) (ws : List V), Same G5 Gk ∧ Gk D1 = none ∧ Hk D1 = some (.lst ws) ∧ DpAll K Gk ws ((List.range i).map placeD) ∧ PuAt Gk Hk a o n2 ((0 : Nat) : Int))
    ⟨G5, [], fun _ _ e => e, g1, upd_same, .nil, J5.set g1 a1 o1⟩ (fun _ _ _ _ => True.intro) ?_ ?_
  · rintro i y Hk H3 hi ⟨Gk, ws, s6, g6, hD, hds, J6⟩ ⟨rfl, rfl⟩
    have hi20 : i < 20 := hi
    refine ⟨rfl, ?_⟩
    dsimp only [tYes]
    rw [if_pos rfl]
    refine ⟨_, rfl, _, _, rfl, rfl, ⟨by decide, by decide⟩, _, _, rfl, rfl, _, rfl, _, _, rfl, rfl, by show (0 : Int) < _; decide, _, _, rfl, rfl, .inr ⟨by decide, by decide⟩, _, _, rfl, rfl, by show 2 ≤ sizeLine; decide, fun t nt => ?_⟩
    obtain ⟨J7, s7, d7⟩ := J6.tup (K := K) nt (.cons (.int _) (.cons (.int _) .nil))
    have Dt : D1 ≠ t := fun z => by rw [← z, hD] at nt; cases nt
    refine ⟨ws, (Same.new nt) _ _ hD, ?_, _, ws ++ [.ref t], s6.trans s7, (upd_ne Dt).trans g6, upd_same, ?_, J7.set ((upd_ne Dt).trans g6) a1 o1⟩
    · rw [DpAll.len hds, List.length_map, List.length_range]
      exact Nat.lt_trans hi20 (by decide)
    · rw [List.range_succ, List.map_append]
      exact DpAll.app (DpAll.same s7 _ _ hds) (.cons d7 .nil)
  rintro Hk ⟨Gk, wp, s6, g6, hD, hds, J6⟩
  obtain ⟨G7, s7, hA, tTd, tRd, hG7, hds, J7⟩ : ∃ G7 : Hp, Same G G7 ∧ AroundAt G7 r ns ∧ Dp K G7 (.ref tT) (twoD "False" 0 "True" 0) ∧ Dp K G7 (.ref tR) (twoD "Nil" 0 "Cons" 2) ∧ G7 D1 = some (.lst wp) ∧ DpAll K G7 wp ((List.range 20).map placeD) ∧ PuAt G7 Hk a o n2 ((0 : Nat) : Int) :=
    have s := s6.trans (Same.new (o := .lst wp) g6)
    ⟨_, s5.trans s, hA.up s, Dp.same s _ _ tTd, Dp.same s _ _ tRd, upd_same, DpAll.same (Same.new g6) _ _ hds, J6.take hD a1 o1⟩
  clear J5 J6 J2
  refine ⟨_, rfl, r, rfl, ⟨_, SqL.of (J7.same _ _ hA.ls)⟩, fun D2 nD2 => ?_⟩
  have g2 := J7.none nD2
  obtain ⟨a2, o2⟩ := J7.apart nD2
  have hns3 : ns.length ≤ 3 := by omega
  refine lc_list (K := K) (a := r) (xs := ns.map V.str) (fun i Hk => ∃ (G2 : Hp) (ws : List V) (tops : List Top) (n3 : Int) (k2 cb nb : Nat), Same G7 G2 ∧ G2 D2 = none ∧ Hk D2 = some (.lst ws) ∧ DpAll K G2 ws (tops.map topD) ∧ tops.map (·.1) = ns.take i ∧ GrL 20 Dlaw ns [] 3 0 k2 cb nb (tops.map (·.2)) ∧ PuAt G2 Hk a o n3 (k2 : Int) ∧ n3 ≤ n2 + 255 * i ∧ k2 ≤ 16 * i ∧ cb ≤ 24 * i ∧ nb ≤ 80 * i)
    ⟨G7, [], [], n2, 0, 0, 0, fun _ _ e => e, g2, upd_same, .nil, by rw [List.take_zero]; rfl, .nil, J7.set g2 a2 o2, by omega, by omega, by omega, by omega⟩ (fun i Hk _ ⟨_, _, _, _, _, _, _, s8, _, _, _, _, _, J8, _⟩ => SqL.of (J8.same _ _ (s8 _ _ hA.ls))) ?_ ?_
  · rintro i y Hk hy ⟨G2, ws, tops, n3, k2, cb, nb, s8, g8, hD2, hws, hnt, hgr, J8, hn3, hk2, hcb, hnb⟩
    rw [List.getElem?_map, Option.map_eq_some_iff] at hy
    obtain ⟨x, hx, rfl⟩ := hy
    have hi3 : i < 3 := by
      have := (List.getElem?_eq_some_iff.mp hx).1
      omega
    have hxm : x ∈ ns := List.mem_of_getElem? hx
    have har : ∀ y ∈ ns, idx y ≤ k2 := fun y hy => by rw [(hnx y hy).1]; exact Nat.zero_le _
    have s9 := Same.new (o := .lst ws) g8
    refine ⟨rfl, ?_⟩
    dsimp only [tYes]
    rw [if_pos rfl]
    refine ⟨_, rfl, _, rfl, _, rfl, _, rfl, _, rfl, _, a, o, r, n3, k2, ns, rfl, J8.take hD2 a2 o2, hA.up (s8.trans s9), har, by omega, by omega, by omega, fun G9 v e H9 n9 k9 hg sa hv J9 hn9 hk9 => ⟨by show 2 ≤ sizeLine; decide, fun t nt => ?_⟩⟩
    obtain ⟨JA, sb, hb⟩ := J9.tup (K := K) nt (.cons (.str x) (.cons hv .nil))
    have hDG := sb _ _ (sa _ _ (upd_same (H := G2) (a := D2) (o := .lst ws)))
    have sC : Same G2 (offG (upd G9 t (.tup [.str x, v])) D2) := offG_from (s9.trans (sa.trans sb)) g8
    obtain ⟨_, _, _, _, hjd⟩ := hg.jd har
    refine ⟨ws, JA.same _ _ hDG, ?_, _, ws ++ [.ref t], tops ++ [(x, e)], n9, k9, cb + 24, nb + 80, s8.trans sC, offG_at, upd_same, ?_, ?_, ?_, JA.off.set offG_at a2 o2, by omega, by omega, by omega, by omega⟩
    · have h1 := DpAll.len hws
      have h2 := congrArg List.length hnt
      rw [List.length_map] at h1 h2
      rw [List.length_take] at h2
      exact Nat.lt_of_le_of_lt (show ws.length ≤ 3 by omega) (by decide)
    · rw [List.map_append]
      exact DpAll.app (DpAll.same sC _ _ hws) (.cons (dp_off hDG (.tup (nlc (.str _) (nlc hjd.noL nln))) _ hb) .nil)
    · rw [List.map_append, hnt, List.take_add_one, hx]
      rfl
    · rw [List.map_append]
      exact hgr.snoc (by rw [List.append_nil]; exact hg)
  rintro Hk2 ⟨G2, wt, tops, n3, k2, cb, nb, s8, g8, hD2, hws, hnt, hgr, J8, hn3, hk2, hcb, hnb⟩
  rw [List.length_map] at hn3 hk2 hcb hnb hnt
  rw [List.take_length] at hnt
  obtain ⟨GA, sA, tTd, tRd, hGA, hds, hGw, hws, JA⟩ : ∃ GA : Hp, Same G GA ∧ Dp K GA (.ref tT) (twoD "False" 0 "True" 0) ∧ Dp K GA (.ref tR) (twoD "Nil" 0 "Cons" 2) ∧ GA D1 = some (.lst wp) ∧ DpAll K GA wp ((List.range 20).map placeD) ∧ GA D2 = some (.lst wt) ∧ DpAll K GA wt (tops.map topD) ∧ PuAt GA Hk2 a o n3 (k2 : Int) :=
    have s9 := Same.new (o := .lst wt) g8
    have s := s8.trans s9
    ⟨_, s7.trans s, Dp.same s _ _ tTd, Dp.same s _ _ tRd, s _ _ hG7, DpAll.same s _ _ hds, upd_same, DpAll.same s9 _ _ hws, J8.take hD2 a2 o2⟩
  clear J7 J8
  refine ⟨by show 2 ≤ sizeLine; decide, fun tFa ntFa => ?_⟩
  obtain ⟨tFJ1, tFs1, tFd1⟩ := JA.tup (K := K) ntFa (.cons (.str "Leaf") (.cons (.int 1) .nil))
  refine ⟨by show 2 ≤ sizeLine; decide, fun tFb ntFb => ?_⟩
  obtain ⟨tFJ2, tFs2, tFd2⟩ := tFJ1.tup (K := K) ntFb (.cons (.str "Fork") (.cons (.int 3) .nil))
  refine ⟨by show 2 ≤ sizeLine; decide, fun tF ntF => ?_⟩
  obtain ⟨JB, tFs3, tFd⟩ := tFJ2.tup (K := K) ntF (.cons (Dp.same tFs2 _ _ tFd1) (.cons tFd2 .nil))
  have sF := (tFs1.trans tFs2).trans tFs3
  replace tFd : Dp K _ (.ref tF) (twoD "Leaf" 1 "Fork" 3) := tFd
  intro dn ndn
  have gdn := JB.none ndn
  obtain ⟨adn, odn⟩ := JB.apart ndn
  refine ⟨_, rfl, _, rfl, _, rfl, _, rfl, _, rfl, _, rfl, upd_same, dataKV tT tR tF, rfl, (show 6 ≤ 15 by decide), ?_⟩
  have JC := JB.disp (tT := tT) (tR := tR) (tF := tF) ndn
  have sB := Same.new (o := .dK (dataKV tT tR tF)) gdn
  refine ⟨_, rfl, _, rfl, _, rfl, by show 3 ≤ sizeLine; decide, fun tp ntp => ?_⟩
  have JE := JC.grow (u := .tup [.ref D1, .ref dn, .ref D2]) ntp
  have sE := Same.new (o := .tup [V.ref D1, .ref dn, .ref D2]) (JC.none ntp)
  have sBE := sB.trans sE
  have sFE := sF.trans sBE
  refine q _ _ tp D1 dn D2 wp wt tops (sA.trans sFE) JE.same ⟨upd_same, sFE _ _ hGA, DpAll.same sFE _ _ hds, ⟨_, sE _ _ upd_same⟩, (dataAt_law upd_same (Dp.same (sF.trans sB) _ _ tTd) (Dp.same (sF.trans sB) _ _ tRd) (Dp.same sB _ _ tFd)).same sE, sFE _ _ hGw, DpAll.same sFE _ _ hws, ?_, ?_⟩
  · rw [hnt]
    exact hme
  · rw [hnt]
    exact tops_right (fun x hx => (hnx x hx).1) hns3 hgr (by omega) (by omega)
end
end J45

set_option Elab.async false
set_option maxRecDepth 100000
/-! what is due of a program, by the law -/
namespace J45
open PySem PySem.Spec PyProof.Rows L2 Hx Xr RN
abbrev sIsCount : Stmt := top 66
abbrev sIsName : Stmt := top 67
abbrev sDue : Stmt := top 68
def zLow : Str := "abcdefghijklmnopqrstuvwxyz"
def zBoth : Str := zLow ++ "0123456789"
def lawName (z : Str) : Bool := match z.cps.toList with
  | [] => false
  | c :: _ => decide (c ∈ zLow.cps.toList) && z.cps.toList.all fun c => decide (c ∈ zBoth.cps.toList)
def rNotIn1 : R2 := fun x y H Q => ∃ (c : Nat) (z : Str), x = .str ⟨#[c]⟩ ∧ y = .str z ∧ Q (.bl (!decide (c ∈ z.cps.toList))) H
theorem op_notIn1 {X : Cx} : OpR X (compareOp .NotIn) rNotIn1 := op_notIn_sign
def rAddS : R2 := fun x y H Q => ∃ i j, x = .str i ∧ y = .str j ∧ i.length + j.length ≤ sizeLine ∧ Q (.str (i ++ j)) H
theorem op_addS1 {X : Cx} : OpR X (binaryOp .Add) rAddS := op_add_str
def names6 : List Str := ["a", "main", "b2", "X", "a.1", ""]
theorem names6_ok : ∀ z ∈ names6, lawName z = plainB z ∧ z.length ≤ 4 := by decide +kernel
def smallD : PyData → Bool
  | .int i => decide (i < 1000000000)
  | .bool _ => true
  | _ => false
/-- a row of the places, small -/
inductive RowS : PyData → Bool → Prop
  | two {a b : PyData} : numD a = true → numD b = true → smallD a = true → smallD b = true → RowS (.tuple [a, b]) (posD a && posD b)
  | len {ds : List PyData} : ds.length ≠ 2 → RowS (.tuple ds) false
  | none : RowS .none false
  | list {ds : List PyData} : RowS (.list ds) false
theorem RowS.ok {d : PyData} {b : Bool} (h : RowS d b) : RowOk d b := by
  cases h with
  | two a b _ _ => exact .two a b
  | len h => exact .len h
  | none => exact .none
  | list => exact .list
inductive TopS : PyData → Option Str → Prop
  | two {z : Str} {e : PyData} : z ∈ names6 → TopS (.tuple [.str z, e]) (some z)
  | len {ds : List PyData} : ds.length ≠ 2 → TopS (.tuple ds) none
  | none : TopS .none none
  | list {ds : List PyData} : TopS (.list ds) none
theorem TopS.ok {d : PyData} {r : Option Str} (h : TopS d r) : TopRow d r := by
  cases h with
  | two hz => exact .two (Nat.le_trans (names6_ok _ hz).2 (by decide))
  | len h => exact .len h
  | none => exact .none
  | list => exact .list
theorem cut1_eq (z : Str) : decide (V.str (cutS z none (some 1)) = V.str "") = z.cps.toList.isEmpty := by
  have e : cutS z none (some 1) = ⟨(z.cps.toList.take (HT.sIx z.length z.length (some 1))).toArray⟩ := by
    unfold cutS
    rw [show HT.sIx z.length 0 none = 0 from rfl, List.drop_zero, Nat.sub_zero]
  rw [e]
  cases h : z.cps.toList with
  | nil =>
    rw [List.take_nil]
    exact decide_eq_true (by decide +kernel)
  | cons c r =>
    have hl : z.length = r.length + 1 := by
      show z.cps.size = _
      rw [← Array.length_toList, h]
      rfl
    refine decide_eq_false fun k => ?_
    have k2 : (⟨((c :: r).take (HT.sIx z.length z.length (some 1))).toArray⟩ : Str) = "" := by injection k
    have k3 : ((c :: r).take (HT.sIx z.length z.length (some 1))).toArray = #[] := congrArg Str.cps k2
    have k4 : (c :: r).take (HT.sIx z.length z.length (some 1)) = [] := by simpa using k3
    have k5 : 1 ≤ HT.sIx z.length z.length (some 1) := by
      rw [hl]
      unfold HT.sIx
      simp
    rcases hq : HT.sIx z.length z.length (some 1) with _ | n
    · omega
    · rw [hq] at k4
      cases k4
def mC : Int := 10 ^ (9 : Int).toNat
theorem small_pos {K : PySem.W.Frag} {H : Hp} {v : V} {d : PyData} (h : Dp K H v d) (hn : numD d = true) (hs : smallD d = true) : NumV v ∧ (numB mC v && !decide (v = .int 0)) = posD d := by
  cases h with
  | int i =>
    refine ⟨.inl ⟨i, rfl⟩, ?_⟩
    have hi : i < 1000000000 := of_decide_eq_true hs
    have hm : mC = 1000000000 := by decide
    have hb : (1000000000 : Int) < big := by decide +kernel
    show ((decide (0 ≤ i) && decide (i < mC)) && !decide (V.int i = .int 0)) = (decide (0 < i) && decide (i < big))
    rw [hm, decide_eq_true hi, decide_eq_true (Int.lt_trans hi hb), Bool.and_true, Bool.and_true]
    by_cases c : i = 0
    · subst c
      rfl
    · rw [decide_eq_false (fun z : V.int i = .int 0 => c (by injection z)), Bool.not_false, Bool.and_true, Bool.eq_iff_iff, decide_eq_true_eq, decide_eq_true_eq]
      omega
  | bl b => exact ⟨.inr ⟨b, rfl⟩, rfl⟩
  | non => cases hn
  | str x => cases hn
  | lst _ _ => cases hn
  | tup _ _ => cases hn
def progD : PyData := .tuple [.str "program"]
def dueR (rp rt : Option Nat) (e : Bool) (x : Option Str) : PyData := match rp with
  | some k => .tuple [.str "places", .int (k : Int)]
  | none => match rt with
    | some k => .tuple [.str "top", .int (k : Int)]
    | none => match e, x with
      | true, some x => .tuple [.str "part", .tuple [.str x, .tuple []]]
      | _, _ => .none
section
variable {P : Program} {w : World} {K : PySem.W.Frag} {mg : Str → Option Value} {base : Heap}
/-- three things that have the form of a program, their rows -/
structure RowsAt (K : PySem.W.Frag) (H : Hp) (v : V) (t a tl : Addr) (vd : V) (ws wt : List V) (ds dt : List PyData) (bs bt : List Bool) (rt : List (Option Str)) : Prop where
  e : v = .ref t
  hT : SqT K H t [.ref a, vd, .ref tl]
  h2 : tyB K H vd "dict" true
  ha : H a = some (.lst ws)
  htl : H tl = some (.lst wt)
  hA : DpAll K H ws ds
  hlen : ds.length = bs.length
  hrow : ∀ (i : Nat) (d : PyData) (b : Bool), ds[i]? = some d → bs[i]? = some b → RowS d b
  hB : DpAll K H wt dt
  hlt : dt.length = rt.length
  hlb : rt.length = bt.length
  htop : ∀ (i : Nat) (d : PyData) (r : Option Str), dt[i]? = some d → rt[i]? = some r → TopS d r
  hflag : ∀ (i : Nat) (r : Option Str) (b : Bool), rt[i]? = some r → bt[i]? = some b → b = flagT (rt.take i) r
  hrl : rt.length ≤ 16000000
/-- a thing, and what is due of it -/
inductive ProgAt (K : PySem.W.Frag) (H : Hp) (v : V) : PyData → Prop
  | other : tyB K H v "tuple" false → ProgAt K H v progD
  | len {t : Addr} {ws : List V} : v = .ref t → SqT K H t ws → ws.length ≠ 3 → ProgAt K H v progD
  | kinds {t : Addr} {vp vd vt : V} {b1 b2 b3 : Bool} : v = .ref t → SqT K H t [vp, vd, vt] → tyB K H vp "list" b1 → tyB K H vd "dict" b2 → tyB K H vt "list" b3 → (b1 && (b2 && b3)) = false → ProgAt K H v progD
  | rows {t a tl : Addr} {vd : V} {ws wt : List V} {ds dt : List PyData} {bs bt : List Bool} {rt : List (Option Str)} : RowsAt K H v t a tl vd ws wt ds dt bs bt rt → ProgAt K H v (dueR (firstF bs) (firstF bt) ds.isEmpty (rt.headD none))
def Tells (K : PySem.W.Frag) (H : Hp) (r : PyData) (Q : VK) : Prop := ∀ (H' : Hp) (x : V), Same H H' → Dp K H' x r → Q x H'
theorem scIsC : FnScope ["_law_one_thing", "_law_most"] ["_law_one_thing", "_law_most"] (defScope sIsCount) := ⟨rfl, rfl, rfl, by decide +kernel, rfl, by decide +kernel, by decide +kernel⟩
theorem scIsN : FnScope ["_law_one_thing", "_law_small", "_law_sign"] ["_law_one_thing"] (defScope sIsName) := ⟨rfl, rfl, rfl, by decide +kernel, rfl, by decide +kernel, by decide +kernel⟩
theorem scDue : FnScope ["_law_one_thing", "_law_places", "_law_data", "_law_tops", "_law_k", "_law_row", "_law_n", "_law_met"] ["_law_one_thing"] (defScope sDue) := ⟨rfl, rfl, rfl, by decide +kernel, rfl, by decide +kernel, by decide +kernel⟩
def spIsC : Sp := fun vs H Q _ => ∃ (v : V) (m : Int), vs = [v, .int m] ∧ NumV v ∧ Q (.bl (numB m v)) H
theorem ok_isC {f : Addr} {fd : FuncData} (F : Fun K "_law_is_count" "_law_is_count" sIsCount f fd) (T : TxtF mg) (gBo : mg "bool" = none) : FnOk P w K mg base CX0 1 f fd ["_law_one_thing", "_law_most"] spIsC := by
  refine F.ok scIsC (fun vs H Q E h => ?_) (fun cdv A outer st H vs Q E hr h => ?_)
  · obtain ⟨v, m, rfl, _⟩ := h
    rfl
  obtain ⟨v, m, rfl, hv, q⟩ := h
  refine ⟨_, (pss_one (ps_ret (pe_and (pe_callB call_isi (by rfl) T.isi (by decide +kernel) (pa_cons (pv 0) (pa_cons (pe_bltn (v := .ty "int") (by rfl) T.int (by decide +kernel) rfl) pa_nil))) (pe_and (pe_not (pe_callB call_isi (by rfl) T.isi (by decide +kernel) (pa_cons (pv 0) (pa_cons (pe_bltn (v := .ty "bool") (by rfl) gBo (by decide +kernel) rfl) pa_nil)))) (pe_one (pe_chain op_le op_lt pe_int (pv 0) (pv 1))))))), ?_⟩
  rcases hv with ⟨i, rfl⟩ | ⟨b, rfl⟩
  · refine ⟨_, rfl, .int i, .ty "int", .type "int", .type "int", true, rfl, .ty _, .base (.int _), kit_ty (a := "int") (b := "int") (r := true) (by decide +kernel), true, rfl, iteT ?_⟩
    refine ⟨_, rfl, .int i, .ty "bool", .type "int", .type "bool", false, rfl, .ty _, .base (.int _), kit_ty (a := "int") (b := "bool") (r := false) (by decide +kernel), false, rfl, true, rfl, iteT ?_⟩
    have e : numB m (.int i) = (decide (0 ≤ i) && decide (i < m)) := rfl
    rw [e] at q
    refine ⟨_, rfl, _, _, rfl, rfl, _, rfl, ?_⟩
    by_cases c : 0 ≤ i
    · rw [decide_eq_true c, Bool.true_and] at q
      rw [decide_eq_true c]
      exact iteT ⟨_, rfl, _, _, rfl, rfl, q⟩
    · rw [decide_eq_false c, Bool.false_and] at q
      rw [decide_eq_false c]
      exact iteF q
  · refine ⟨_, rfl, .bl b, .ty "int", .type "bool", .type "int", true, rfl, .ty _, .base (.bl _), kit_ty (a := "bool") (b := "int") (r := true) (by decide +kernel), true, rfl, iteT ?_⟩
    exact ⟨_, rfl, .bl b, .ty "bool", .type "bool", .type "bool", true, rfl, .ty _, .base (.bl _), kit_ty (a := "bool") (b := "bool") (r := true) (by decide +kernel), true, rfl, false, rfl, iteF q⟩
def spIsN : Sp := fun vs H Q _ => ∃ z : Str, vs = [.str z] ∧ z.length ≤ 1000 ∧ ∀ H', Same H H' → Q (.bl (lawName z)) H'
theorem ok_isN {f : Addr} {fd : FuncData} (F : Fun K "_law_is_name" "_law_is_name" sIsName f fd) (T : TxtF mg) : FnOk P w K mg base CX0 1 f fd ["_law_one_thing"] spIsN := by
  refine F.ok scIsN (fun vs H Q E h => ?_) (fun cdv A outer st H vs Q E hr h => ?_)
  · obtain ⟨z, rfl, _⟩ := h
    rfl
  obtain ⟨z, rfl, hz, q⟩ := h
  have hu := ru1 hr
  have hu0 := Nat.lt_of_succ_lt hu
  refine ⟨_, (pss_cons (ps_set (i := 1) scIsN.nd rfl (.inr rfl) pe_str)
      (pss_cons (ps_if (PW.pt (pw_or (pt_not (pt_val (pe_callB call_isi (by rfl) T.isi (by decide +kernel) (pa_cons (pv 0) (pa_cons (pe_bltn (v := .ty "str") (by rfl) T.str (by decide +kernel) rfl) pa_nil))))) (pw_or (pt_cmpR op_eq (pe_slice sl_str (pv 0) po_none (po_some pe_int)) pe_str (nomark _)) (pw_or1 (pt_cmpR op_notIn1 (pe_ix ix_str (pv 0) pe_int (fun _ _ => rfl)) (pv 1) rfl))))) (pss_one (ps_ret pe_bl)) pss_nil)
      (pss_one (ps_ret (pe_cmpR (op_eqE hu0) (pe_lc (own := [("_law_sign", 2)]) (g := gName 2) (tt := tTest (tOp rNotIn1 (tVar 2) (tOp rAddS (tVar 1) (tC (.str "0123456789"))))) rfl scIsN.nd (pi_str (pv 0)) (blkOk_by (own := [("_law_sign", 2)]) (N := ["_law_one_thing", "_law_small", "_law_sign"]) (sc := defScope sIsName) (by decide +kernel)) (fun _ _ _ _ _ => pg_name (i := 2) scIsN.nd rfl (.inl rfl)) (fun _ _ _ _ _ => pts_one (by exact (pt_cmpR op_notIn1 (pv 2) (pe_op op_addS1 (pv 1) pe_str) rfl))) (fun _ _ _ _ _ => (pv 2))) (pe_lst pa_nil) (nomark _)))))), ?_⟩
  have zz : sizeLine = 16777216 := sizeLine_eq
  refine ⟨_, rfl, .str z, .ty "str", .type "str", .type "str", true, rfl, .ty _, .base (.str _), kit_ty (a := "str") (b := "str") (r := true) (by decide +kernel), true, rfl, iteF ?_⟩
  refine ⟨_, rfl, 1, rfl, z, rfl, by omega, rfl, _, rfl, ?_⟩
  rw [cut1_eq]
  cases hc : z.cps.toList with
  | nil =>
    refine iteT (iteT ?_)
    have e : lawName z = false := by unfold lawName; rw [hc]
    have := q H (Same.refl H)
    rw [e] at this
    exact this
  | cons c r =>
    refine iteF ⟨_, rfl, z, 0, c, rfl, rfl, by omega, by rw [hc]; exact atI_nat (j := 0) rfl, _, rfl, c, zLow, rfl, rfl, _, rfl, ?_⟩
    have el : lawName z = (decide (c ∈ zLow.cps.toList) && z.cps.toList.all fun c => decide (c ∈ zBoth.cps.toList)) := by
      unfold lawName
      rw [hc]
    by_cases hin : c ∈ zLow.cps.toList
    · rw [decide_eq_true hin, Bool.true_and] at el
      rw [decide_eq_true hin]
      refine iteF ⟨_, rfl, z, rfl, fun D nD => ?_⟩
      refine lc_it walk_str (fun i Hk => ∃ acc : List V, Hk D = some (.lst acc) ∧ acc.length ≤ i ∧ acc.isEmpty = ((z.cps.toList.take i).all fun c => decide (c ∈ zBoth.cps.toList)) ∧ Same H Hk)
        ⟨[], upd_same, Nat.le_refl _, rfl, Same.new nD⟩ (fun _ _ _ _ => True.intro) ?_ ?_
      · rintro i x Hk H3 hi ⟨acc, hD, hl, he, sm⟩ ⟨rfl, c', hc', rfl⟩
        have hc2 : z.cps.toList[i]? = some c' := by rw [Array.getElem?_toList]; exact hc'
        have hlen : z.cps.size = z.length := rfl
        refine ⟨rfl, _, rfl, _, rfl, zLow, "0123456789", rfl, rfl, by show 26 + 10 ≤ sizeLine; decide, c', zBoth, rfl, rfl, _, rfl, ?_⟩
        have et : ((z.cps.toList.take (i + 1)).all fun c => decide (c ∈ zBoth.cps.toList)) = (((z.cps.toList.take i).all fun c => decide (c ∈ zBoth.cps.toList)) && decide (c' ∈ zBoth.cps.toList)) := by
          rw [List.take_add_one, hc2, List.all_append]
          simp
        by_cases hm : c' ∈ zBoth.cps.toList
        · rw [decide_eq_true hm, Bool.and_true] at et
          rw [decide_eq_true hm]
          refine iteF ⟨acc, hD, by omega, by rw [et]; exact he, sm⟩
        · rw [decide_eq_false hm, Bool.and_false] at et
          rw [decide_eq_false hm]
          refine iteT ⟨_, rfl, acc, hD, by omega, acc ++ [.str ⟨#[c']⟩], upd_same, ?_, ?_, Same.upd sm nD⟩
          · rw [List.length_append]
            show acc.length + 1 ≤ i + 1
            omega
          · rw [et]
            cases acc <;> rfl
      · rintro Hk ⟨acc, hD, hl, he, sm⟩
        refine ⟨Nat.zero_le _, fun r2 nr2 => ⟨D, r2, acc, rfl, rfl, SqL.of ((Same.new nr2) _ _ hD), SqL.of upd_same, ?_⟩⟩
        have := q _ (sm.trans (Same.new (o := .lst []) nr2))
        rw [el] at this
        rw [he, List.take_of_length_le (Nat.le_of_eq Array.length_toList)]
        exact this
    · rw [decide_eq_false hin, Bool.false_and] at el
      rw [decide_eq_false hin]
      have := q H (Same.refl H)
      rw [el] at this
      exact iteT this
def spDue (K : PySem.W.Frag) : Sp := fun vs H Q _ => ∃ (v : V) (r : PyData), vs = [v] ∧ ProgAt K H v r ∧ Tells K H r Q
set_option maxHeartbeats 8000000 in
theorem ok_due {f fC fN : Addr} {fd fdC fdN : FuncData} (F : Fun K "_law_due" "_law_due" sDue f fd) (T : TxtF mg) (gTu : mg "tuple" = none) (gLi : mg "list" = none) (gDi : mg "dict" = none) (gEn : mg "enumerate" = none)
    (GC : FnOk P w K mg base CX0 1 fC fdC ["_law_one_thing", "_law_most"] spIsC) (kC : PySem.W.keepIn K (.ref fC) = true) (bC : Binds K fdC ["_law_one_thing", "_law_most"] []) (gC : mg "_law_is_count" = some (.ref fC))
    (GN : FnOk P w K mg base CX0 1 fN fdN ["_law_one_thing"] spIsN) (kN : PySem.W.keepIn K (.ref fN) = true) (bN : Binds K fdN ["_law_one_thing"] []) (gN : mg "_law_is_name" = some (.ref fN)) :
    FnOk P w K mg base CX0 2 f fd ["_law_one_thing"] (spDue K) := by
  refine F.ok scDue (fun vs H Q E h => ?_) (fun cdv A outer st H vs Q E hr h => ?_)
  · obtain ⟨v, r, rfl, _⟩ := h
    rfl
  obtain ⟨v, r, rfl, h, q⟩ := h
  have hu := ru1 hr
  have hu0 := Nat.lt_of_succ_lt hu
  refine ⟨_, (pss_cons (ps_if (PW.pt (pw_or (pt_not (pt_val (pe_callB call_isi (by rfl) T.isi (by decide +kernel) (pa_cons (pv 0) (pa_cons (pe_bltn (v := .ty "tuple") (by rfl) gTu (by decide +kernel) rfl) pa_nil))))) (pw_or (pt_cmpR op_ne (pe_callB call_len (by rfl) T.len PySem.boot_len (pa_cons (pv 0) pa_nil)) pe_int (nomark _)) (pw_or1 (pt_not (pt_val (pe_callB call_isi (by rfl) T.isi (by decide +kernel) (pa_cons (pe_ix ix_tup (pv 0) pe_int (fun _ _ => rfl)) (pa_cons (pe_bltn (v := .ty "list") (by rfl) gLi (by decide +kernel) rfl) pa_nil))))))))) (pss_one (ps_ret (pe_tup (pa_cons pe_str pa_nil)))) pss_nil)
      (pss_cons (ps_asg (pv 0) (pg_tup rfl (pgs_cons (pg_name (i := 1) scDue.nd rfl (.inl rfl)) (pgs_cons (pg_name (i := 2) scDue.nd rfl (.inl rfl)) (pgs_cons (pg_name (i := 3) scDue.nd rfl (.inl rfl)) pgs_nil)))))
      (pss_cons (ps_if (PW.pt (pw_or (pt_not (pt_val (pe_callB call_isi (by rfl) T.isi (by decide +kernel) (pa_cons (pv 2) (pa_cons (pe_bltn (v := .ty "dict") (by rfl) gDi (by decide +kernel) rfl) pa_nil))))) (pw_or1 (pt_not (pt_val (pe_callB call_isi (by rfl) T.isi (by decide +kernel) (pa_cons (pv 3) (pa_cons (pe_bltn (v := .ty "list") (by rfl) gLi (by decide +kernel) rfl) pa_nil)))))))) (pss_one (ps_ret (pe_tup (pa_cons pe_str pa_nil)))) pss_nil)
      (pss_cons (ps_for PassesOwn.never rfl (pi_enum (by rfl) gEn (pa_cons (pv 1) pa_nil)) (pg_tup rfl (pgs_cons (pg_name (i := 4) scDue.nd rfl (.inl rfl)) (pgs_cons (pg_name (i := 5) scDue.nd rfl (.inl rfl)) pgs_nil))) (pss_cons (ps_if (PW.pt (pw_or (pt_not (pt_val (pe_callB call_isi (by rfl) T.isi (by decide +kernel) (pa_cons (pv 5) (pa_cons (pe_bltn (v := .ty "tuple") (by rfl) gTu (by decide +kernel) rfl) pa_nil))))) (pw_or1 (pt_cmpR op_ne (pe_callB call_len (by rfl) T.len PySem.boot_len (pa_cons (pv 5) pa_nil)) pe_int (nomark _))))) (pss_one (ps_ret (pe_tup (pa_cons pe_str (pa_cons (pv 4) pa_nil))))) pss_nil)
      (pss_one (ps_if (pt_cmpR (op_neE hu0) (pe_lc (own := [("_law_n", 6)]) (g := gName 6) rfl scDue.nd (pi_tup (pv 5)) (blkOk_by (own := [("_law_n", 6)]) (N := ["_law_one_thing", "_law_places", "_law_data", "_law_tops", "_law_k", "_law_row", "_law_n", "_law_met"]) (sc := defScope sDue) (by decide +kernel)) (fun _ _ _ _ _ => pg_name (i := 6) scDue.nd rfl (.inl rfl)) (fun _ _ _ _ _ => pts_one (PW.pt (pw_or (pt_not (pt_val (pe_call GC (hr.mono (by decide)) rfl gC kC bC .nil pass0 (pa_cons (pv 6) (pa_cons (pe_op op_pow pe_int pe_int) pa_nil))))) (pw_or1 (pt_cmpR op_eq (pv 6) pe_int (nomark _)))))) (fun _ _ _ _ _ => pv 6)) (pe_lst pa_nil) (nomark _)) (pss_one (ps_ret (pe_tup (pa_cons pe_str (pa_cons (pv 4) pa_nil))))) pss_nil))))
      (pss_cons (ps_set (i := 7) scDue.nd rfl (.inl rfl) pe_dnewK)
      (pss_cons (ps_for PassesOwn.never rfl (pi_enum (by rfl) gEn (pa_cons (pv 3) pa_nil)) (pg_tup rfl (pgs_cons (pg_name (i := 4) scDue.nd rfl (.inl rfl)) (pgs_cons (pg_name (i := 5) scDue.nd rfl (.inl rfl)) pgs_nil))) (pss_cons (ps_if (PW.pt (pw_or (pt_not (pt_val (pe_callB call_isi (by rfl) T.isi (by decide +kernel) (pa_cons (pv 5) (pa_cons (pe_bltn (v := .ty "tuple") (by rfl) gTu (by decide +kernel) rfl) pa_nil))))) (pw_or (pt_cmpR op_ne (pe_callB call_len (by rfl) T.len PySem.boot_len (pa_cons (pv 5) pa_nil)) pe_int (nomark _)) (pw_or (pt_not (pt_val (pe_call GN (hr.mono (by decide)) rfl gN kN bN .nil pass0 (pa_cons (pe_ix ix_tup (pv 5) pe_int (fun _ _ => rfl)) pa_nil)))) (pw_or1 (pt_cmp (pc_din hu (pe_ix ix_tup (pv 5) pe_int (fun _ _ => rfl)) (pv 7)) rfl)))))) (pss_one (ps_ret (pe_tup (pa_cons pe_str (pa_cons (pv 4) pa_nil))))) pss_nil)
      (pss_one (ps_dput hu (pv 7) (pe_ix ix_tup (pv 5) pe_int (fun _ _ => rfl)) pe_bl rfl))))
      (pss_cons (ps_if (PW.pt (pw_and (pt_cmpR (op_eqE hu0) (pv 1) (pe_lst pa_nil) (nomark _)) (pw_and1 (pt_cmpR (op_neE hu0) (pv 3) (pe_lst pa_nil) (nomark _))))) (pss_one (ps_ret (pe_tup (pa_cons pe_str (pa_cons (pe_tup (pa_cons (pe_ix ix_tup (pe_ix ix_list (pv 3) pe_int (fun _ _ => rfl)) pe_int (fun _ _ => rfl)) (pa_cons (pe_tup pa_nil) pa_nil))) pa_nil))))) pss_nil)
      (pss_one (ps_ret pe_non))))))))), ?_⟩
  have tup : ∀ {H1 : Hp} {t : Addr} {ws : List V}, SqT K H1 t ws → TyX K H1 (.ref t) (.type "tuple") := fun h => tyx_seqT h
  cases h with
  | other hty =>
    obtain ⟨ty, h1, h2⟩ := hty
    refine ⟨_, rfl, v, .ty "tuple", ty, .type "tuple", false, rfl, .ty _, h1, h2, false, rfl, iteT ?_⟩
    exact ⟨by show 1 ≤ sizeLine; decide, fun t2 nt2 => q _ _ (Same.new nt2) (.tup (SqT.of upd_same) (.cons (.str _) .nil))⟩
  | @len t ws e hT hne =>
    subst e
    refine ⟨_, rfl, .ref t, .ty "tuple", .type "tuple", .type "tuple", true, rfl, .ty _, tup hT, kit_ty (a := "tuple") (b := "tuple") (r := true) (by decide +kernel), true, rfl, iteF ?_⟩
    refine ⟨_, rfl, _, _, rfl, .inr ⟨_, hT, rfl⟩, rfl, true, ?_, iteT ?_⟩
    · rw [decide_eq_false (fun z => hne (by injection z with z; omega))]
      rfl
    · exact ⟨by show 1 ≤ sizeLine; decide, fun t2 nt2 => q _ _ (Same.new nt2) (.tup (SqT.of upd_same) (.cons (.str _) .nil))⟩
  | @kinds t vp vd vt b1 b2 b3 e hT h1 h2 h3 hb =>
    subst e
    obtain ⟨ty1, a1, k1⟩ := h1
    obtain ⟨ty2, a2, k2⟩ := h2
    obtain ⟨ty3, a3, k3⟩ := h3
    refine ⟨_, rfl, .ref t, .ty "tuple", .type "tuple", .type "tuple", true, rfl, .ty _, tup hT, kit_ty (a := "tuple") (b := "tuple") (r := true) (by decide +kernel), true, rfl, iteF ?_⟩
    refine ⟨_, rfl, _, _, rfl, .inr ⟨_, hT, rfl⟩, rfl, false, by simp, iteF ?_⟩
    refine ⟨_, rfl, t, _, 0, _, rfl, rfl, hT, atI_nat (j := 0) rfl, vp, .ty "list", ty1, .type "list", b1, rfl, .ty _, a1, k1, b1, rfl, ?_⟩
    cases b1 with
    | false => exact iteT ⟨by show 1 ≤ sizeLine; decide, fun t2 nt2 => q _ _ (Same.new nt2) (.tup (SqT.of upd_same) (.cons (.str _) .nil))⟩
    | true =>
      refine iteF ⟨_, rfl, t, _, rfl, hT, rfl, _, _, rfl, _, _, rfl, _, _, rfl, rfl, ?_⟩
      refine ⟨_, rfl, vd, .ty "dict", ty2, .type "dict", b2, rfl, .ty _, a2, k2, b2, rfl, ?_⟩
      cases b2 with
      | false => exact iteT ⟨by show 1 ≤ sizeLine; decide, fun t2 nt2 => q _ _ (Same.new nt2) (.tup (SqT.of upd_same) (.cons (.str _) .nil))⟩
      | true =>
        refine iteF ⟨_, rfl, vt, .ty "list", ty3, .type "list", b3, rfl, .ty _, a3, k3, b3, rfl, ?_⟩
        cases b3 with
        | false => exact iteT ⟨by show 1 ≤ sizeLine; decide, fun t2 nt2 => q _ _ (Same.new nt2) (.tup (SqT.of upd_same) (.cons (.str _) .nil))⟩
        | true => cases hb
  | @rows t a tl vd ws wt ds dt bs bt rt R =>
    obtain ⟨e, hT, h2, ha, htl, hA, hlen, hrow, hB, hlt, hlb, htop, hflag, hrl⟩ := R
    subst e
    obtain ⟨ty2, a2, k2⟩ := h2
    refine ⟨_, rfl, .ref t, .ty "tuple", .type "tuple", .type "tuple", true, rfl, .ty _, tup hT, kit_ty (a := "tuple") (b := "tuple") (r := true) (by decide +kernel), true, rfl, iteF ?_⟩
    refine ⟨_, rfl, _, _, rfl, .inr ⟨_, hT, rfl⟩, rfl, false, by simp, iteF ?_⟩
    refine ⟨_, rfl, t, _, 0, _, rfl, rfl, hT, atI_nat (j := 0) rfl, .ref a, .ty "list", .type "list", .type "list", true, rfl, .ty _, .base (.lst ha), kit_ty (a := "list") (b := "list") (r := true) (by decide +kernel), true, rfl, iteF ?_⟩
    refine ⟨_, rfl, t, _, rfl, hT, rfl, _, _, rfl, _, _, rfl, _, _, rfl, rfl, ?_⟩
    refine ⟨_, rfl, vd, .ty "dict", ty2, .type "dict", true, rfl, .ty _, a2, k2, true, rfl, iteF ?_⟩
    refine ⟨_, rfl, .ref tl, .ty "list", .type "list", .type "list", true, rfl, .ty _, .base (.lst htl), kit_ty (a := "list") (b := "list") (r := true) (by decide +kernel), true, rfl, iteF ?_⟩
    refine ⟨_, rfl, a, ws, rfl, SqL.of ha, for_it walk_enum (fun i σ H' => ∃ (v4 v5 : Option V), σ = [some (.ref t), some (.ref a), some vd, some (.ref tl), v4, v5, none, none] ∧ Same H H' ∧ ∀ j, j < i → bs[j]? = some true)
      ⟨none, none, rfl, fun _ _ e => e, fun j hj => absurd hj (Nat.not_lt_zero _)⟩ (fun i σ H' _ ⟨_, _, _, s1, _⟩ => SqL.of (s1 _ _ ha)) ?_ ?_⟩
    · rintro i x σ H' H2 hi ⟨v4, v5, rfl, sm, hok⟩ ⟨T, n0, y, rfl, nT, rfl, e1, e2⟩
      cases e1
      refine ⟨T, _, rfl, SqT.of upd_same, rfl, _, _, rfl, _, _, rfl, rfl, ?_⟩
      obtain ⟨d, hd, dk⟩ := DpAll.get hA e2
      have il : i < bs.length := by rw [← hlen]; exact (List.getElem?_eq_some_iff.mp hd).1
      have hr' := hrow i d bs[i] hd (List.getElem?_eq_getElem il)
      have hbi : bs[i]? = some bs[i] := List.getElem?_eq_getElem il
      have bad : bs[i]? = some false → ∀ (t : Addr) (H3 : Hp), Same H H3 → H3 t = none → Q (.ref t) (upd H3 t (.tup [.str "places", .int (i : Int)])) := by
        intro hb t H3 s3 nt
        have e := firstF_at hok hb
        rw [e] at q
        exact q _ _ (s3.trans (Same.new nt)) (.tup (SqT.of upd_same) (.cons (.str _) (.cons (.int _) .nil)))
      have sm2 : Same H (upd H' T (.tup [.int (i : Int), y])) := sm.trans (Same.new nT)
      have dk2 := Dp.same sm2 _ _ dk
      generalize hb0 : bs[i] = b0 at hr' hbi
      cases hr' with
      | @two a0 b0 na nb sa sb =>
        obtain ⟨t2, ws2, rfl, hT2, hA2⟩ := tup_open dk2
        obtain ⟨y1, ws2, rfl, hy1, hA2⟩ := all_open hA2
        obtain ⟨y2, ws2, rfl, hy2, hA2⟩ := all_open hA2
        obtain rfl := nil_open hA2
        refine ⟨_, rfl, .ref t2, .ty "tuple", .type "tuple", .type "tuple", true, rfl, .ty _, tup hT2, kit_ty (a := "tuple") (b := "tuple") (r := true) (by decide +kernel), true, rfl, iteF ?_⟩
        refine ⟨_, rfl, _, _, rfl, .inr ⟨_, hT2, rfl⟩, rfl, false, by simp, iteF ?_⟩
        refine ⟨_, rfl, t2, rfl, ⟨_, hT2⟩, fun D nD => ?_⟩
        have item : ∀ (j : Nat) (x : V), [y1, y2][j]? = some x → ∃ p, [posD a0, posD b0][j]? = some p ∧ NumV x ∧ (numB mC x && !decide (x = .int 0)) = p := by
          intro j x hx
          rcases j with _ | _ | j
          · cases hx
            exact ⟨_, rfl, small_pos hy1 na sa⟩
          · cases hx
            exact ⟨_, rfl, small_pos hy2 nb sb⟩
          · simp at hx
        refine lc_it walk_tup (fun j Hk => ∃ acc : List V, Hk D = some (.lst acc) ∧ acc.length ≤ j ∧ acc.isEmpty = ([posD a0, posD b0].take j).all id ∧ Same (upd H' T (.tup [.int (i : Int), .ref t2])) Hk)
          ⟨[], upd_same, Nat.le_refl _, rfl, Same.new nD⟩ (fun _ _ _ ⟨_, _, _, _, s4⟩ => Same.seqT s4 hT2) ?_ ?_
        · rintro j x Hk H3 hj ⟨acc, hD, hl, he, s4⟩ ⟨rfl, hx⟩
          obtain ⟨p, hp, hnv, hpe⟩ := item j x hx
          have hj2 : j < 2 := hj
          have hsz : acc.length < sizeLine := Nat.lt_of_le_of_lt (show acc.length ≤ 2 by omega) (by decide)
          have et : ([posD a0, posD b0].take (j + 1)).all id = (([posD a0, posD b0].take j).all id && p) := by
            rw [List.take_add_one, hp, List.all_append]
            simp
          have worse : p = false → ∃ acc2 : List V, upd H3 D (.lst (acc ++ [x])) D = some (.lst acc2) ∧ acc2.length ≤ j + 1 ∧ acc2.isEmpty = ([posD a0, posD b0].take (j + 1)).all id ∧ Same (upd H' T (.tup [.int (i : Int), .ref t2])) (upd H3 D (.lst (acc ++ [x]))) := by
            intro hpf
            refine ⟨acc ++ [x], upd_same, ?_, ?_, Same.upd s4 nD⟩
            · rw [List.length_append]
              show acc.length + 1 ≤ j + 1
              omega
            · rw [et, hpf, Bool.and_false]
              cases acc <;> rfl
          refine ⟨rfl, _, rfl, _, _, rfl, rfl, ⟨by decide, by decide, by decide⟩, x, mC, rfl, hnv, numB mC x, rfl, ?_⟩
          cases hb : numB mC x with
          | false =>
            rw [hb, Bool.false_and] at hpe
            exact iteT (iteT ⟨_, rfl, acc, hD, hsz, worse hpe.symm⟩)
          | true =>
            rw [hb, Bool.true_and] at hpe
            obtain ⟨xi, rfl⟩ : ∃ xi, x = .int xi := by
              rcases hnv with h | ⟨b, rfl⟩
              · exact h
              · cases hb
            refine iteF ⟨_, rfl, rfl, _, rfl, ?_⟩
            by_cases c : V.int xi = .int 0
            · rw [decide_eq_true c] at hpe ⊢
              exact iteT ⟨_, rfl, acc, hD, hsz, worse hpe.symm⟩
            · rw [decide_eq_false c] at hpe ⊢
              refine iteF ⟨acc, hD, by omega, ?_, s4⟩
              rw [et, ← hpe]
              show _ = (_ && true)
              rw [Bool.and_true]
              exact he
        rintro Hk ⟨acc, hD, hl, he, s4⟩
        refine ⟨Nat.zero_le _, fun r2 nr2 => ⟨D, r2, acc, rfl, rfl, SqL.of ((Same.new nr2) _ _ hD), SqL.of upd_same, _, rfl, ?_⟩⟩
        have s5 := (sm2.trans s4).trans (Same.new (o := .lst []) nr2)
        replace he : acc.isEmpty = (posD a0 && (posD b0 && true)) := he
        rw [Bool.and_true] at he
        rw [he]
        cases hp : (posD a0 && posD b0) with
        | false =>
          rw [hp] at hbi
          exact iteT ⟨_, rfl, by show 2 ≤ sizeLine; decide, fun t3 nt3 => bad hbi t3 _ s5 nt3⟩
        | true =>
          rw [hp] at hbi
          refine iteF ⟨_, _, rfl, s5, fun j hj => ?_⟩
          rcases Nat.lt_succ_iff_lt_or_eq.mp hj with h | h
          · exact hok j h
          · rw [h]
            exact hbi
      | @len ds2 hne =>
        obtain ⟨t, ws2, rfl, hT2, hA2⟩ := tup_open dk2
        have l2 := DpAll.len hA2
        refine ⟨_, rfl, .ref t, .ty "tuple", .type "tuple", .type "tuple", true, rfl, .ty _, tup hT2, kit_ty (a := "tuple") (b := "tuple") (r := true) (by decide +kernel), true, rfl, iteF ?_⟩
        refine ⟨_, rfl, _, _, rfl, .inr ⟨_, hT2, rfl⟩, rfl, true, ?_, iteT ?_⟩
        · rw [decide_eq_false (fun z => hne (by injection z with z; rw [← l2]; omega))]
          rfl
        · exact ⟨_, rfl, by show 2 ≤ sizeLine; decide, fun t3 nt3 => bad hbi t3 _ sm2 nt3⟩
      | none =>
        cases dk2
        refine ⟨_, rfl, _, .ty "tuple", .type "NoneType", .type "tuple", false, rfl, .ty _, .base .non, kit_ty (a := "NoneType") (b := "tuple") (r := false) (by decide +kernel), false, rfl, iteT ?_⟩
        exact ⟨_, rfl, by show 2 ≤ sizeLine; decide, fun t3 nt3 => bad hbi t3 _ sm2 nt3⟩
      | @list ds2 =>
        cases dk2 with
        | lst hL2 hA2 =>
          refine ⟨_, rfl, _, .ty "tuple", .type "list", .type "tuple", false, rfl, .ty _, tyx_seqL hL2, kit_ty (a := "list") (b := "tuple") (r := false) (by decide +kernel), false, rfl, iteT ?_⟩
          exact ⟨_, rfl, by show 2 ≤ sizeLine; decide, fun t3 nt3 => bad hbi t3 _ sm2 nt3⟩
    rintro σ H1 ⟨v4, v5, rfl, s1, hok⟩
    have lw : ws.length = bs.length := by rw [DpAll.len hA, hlen]
    rw [firstF_none (bs := bs) (fun j hj => hok j (by rw [lw]; exact hj))] at q
    clear hok
    intro sd nsd
    have gsd : H sd = none := by
      cases e : H sd with
      | none => rfl
      | some u => rw [s1 _ _ e] at nsd; cases nsd
    have lwt : wt.length = rt.length := by rw [DpAll.len hB, hlt]
    refine ⟨_, rfl, tl, wt, rfl, SqL.of ((s1.trans (Same.new nsd)) _ _ htl), for_it walk_enum (fun i σ H' => ∃ (v4 v5 : Option V), σ = [some (.ref t), some (.ref a), some vd, some (.ref tl), v4, v5, none, some (.ref sd)] ∧ Same H H' ∧ H' sd = some (.dK (seenK (strK (rt.take i)))) ∧ ∀ j, j < i → bt[j]? = some true)
      ⟨v4, v5, rfl, s1.trans (Same.new nsd), upd_same, fun j hj => absurd hj (Nat.not_lt_zero _)⟩ (fun i σ H' _ ⟨_, _, _, s1, _⟩ => SqL.of (s1 _ _ htl)) ?_ ?_⟩
    · rintro i x σ H' H2 hi ⟨v6, v7, rfl, sm, hsd, hok⟩ ⟨T, n0, y, rfl, nT, rfl, e1, e2⟩
      cases e1
      refine ⟨T, _, rfl, SqT.of upd_same, rfl, _, _, rfl, _, _, rfl, rfl, ?_⟩
      obtain ⟨d, hd, dk⟩ := DpAll.get hB e2
      have il : i < rt.length := by rw [← hlt]; exact (List.getElem?_eq_some_iff.mp hd).1
      have hri : rt[i]? = some rt[i] := List.getElem?_eq_getElem il
      have hbi : bt[i]? = some (bt[i]'(by rw [← hlb]; exact il)) := List.getElem?_eq_getElem _
      have hr' := htop i d _ hd hri
      have hfl := hflag i _ _ hri hbi
      rw [hfl] at hbi
      have bad : bt[i]? = some false → ∀ (t : Addr) (H3 : Hp), Same H H3 → H3 t = none → Q (.ref t) (upd H3 t (.tup [.str "top", .int (i : Int)])) := by
        intro hb t H3 s3 nt
        have e := firstF_at hok hb
        rw [e] at q
        exact q _ _ (s3.trans (Same.new nt)) (.tup (SqT.of upd_same) (.cons (.str _) (.cons (.int _) .nil)))
      have sm2 : Same H (upd H' T (.tup [.int (i : Int), y])) := sm.trans (Same.new nT)
      have hsd2 := (Same.new (o := .tup [.int (i : Int), y]) nT) _ _ hsd
      have dk2 := Dp.same sm2 _ _ dk
      clear hfl
      generalize rt[i] = r0 at hr' hbi hri
      cases hr' with
      | @two z e0 hz =>
        obtain ⟨zl, zlen⟩ := names6_ok z hz
        obtain ⟨t2, ws2, rfl, hT2, hA2⟩ := tup_open dk2
        obtain ⟨y1, ws2, rfl, hy1, hA2⟩ := all_open hA2
        obtain ⟨y2, ws2, rfl, hy2, hA2⟩ := all_open hA2
        obtain rfl := nil_open hA2
        cases hy1
        refine ⟨_, rfl, .ref t2, .ty "tuple", .type "tuple", .type "tuple", true, rfl, .ty _, tup hT2, kit_ty (a := "tuple") (b := "tuple") (r := true) (by decide +kernel), true, rfl, iteF ?_⟩
        refine ⟨_, rfl, _, _, rfl, .inr ⟨_, hT2, rfl⟩, rfl, false, by simp, iteF ?_⟩
        refine ⟨_, rfl, t2, _, 0, _, rfl, rfl, hT2, atI_nat (j := 0) rfl, z, rfl, by omega, fun H3 s3 => ⟨lawName z, rfl, ?_⟩⟩
        rw [zl]
        have sm3 := sm2.trans s3
        have hsd3 := s3 _ _ hsd2
        replace hbi : bt[i]? = some (plainB z && !decide (some z ∈ rt.take i)) := hbi
        cases hp : plainB z with
        | false =>
          rw [hp, Bool.false_and] at hbi
          exact iteT ⟨_, rfl, by show 2 ≤ sizeLine; decide, fun t3 nt3 => bad hbi t3 _ sm3 nt3⟩
        | true =>
          rw [hp, Bool.true_and] at hbi
          refine iteF ?_
          have hg := DGet.k (k := .inr z) hsd3
          by_cases hm : some z ∈ rt.take i
          · rw [decide_eq_true hm] at hbi
            refine ⟨_, rfl, t2, _, 0, _, rfl, rfl, Same.seqT s3 hT2, atI_nat (j := 0) rfl, _, rfl, sd, _, rfl, hg, true, ?_, iteT ?_⟩
            · rw [seen_some (strK_mem.mpr hm)]
            · exact ⟨_, rfl, by show 2 ≤ sizeLine; decide, fun t3 nt3 => bad hbi t3 _ sm3 nt3⟩
          · rw [decide_eq_false hm] at hbi
            have hm' : (Sum.inr z : Key) ∉ strK (rt.take i) := fun h => hm (strK_mem.mp h)
            rw [seen_none hm'] at hg
            refine ⟨_, rfl, t2, _, 0, _, rfl, rfl, Same.seqT s3 hT2, atI_nat (j := 0) rfl, _, rfl, sd, _, rfl, hg, false, rfl, iteF ?_⟩
            have ls : (seenK (strK (rt.take i))).length < sizeLine := by
              unfold seenK strK
              rw [List.length_map]
              refine Nat.lt_of_le_of_lt (List.length_filterMap_le _ _) ?_
              rw [List.length_take]
              exact Nat.lt_of_le_of_lt (Nat.min_le_right _ _) (Nat.lt_of_le_of_lt hrl (by decide))
            refine ⟨_, rfl, _, rfl, t2, _, 0, _, rfl, rfl, Same.seqT s3 hT2, atI_nat (j := 0) rfl, sd, _, rfl, DPut.k (k := .inr z) hsd3 ls, ?_⟩
            refine ⟨_, _, rfl, Same.upd sm3 gsd, ?_, fun j hj => ?_⟩
            · rw [seen_put hm', upd_same]
              have : strK (rt.take (i + 1)) = strK (rt.take i) ++ [Sum.inr z] := by
                unfold strK
                rw [List.take_add_one, hri, List.filterMap_append]
                rfl
              rw [this]
            · rcases Nat.lt_succ_iff_lt_or_eq.mp hj with h | h
              · exact hok j h
              · rw [h]
                exact hbi
      | @len ds2 hne =>
        obtain ⟨t2, ws2, rfl, hT2, hA2⟩ := tup_open dk2
        have l2 := DpAll.len hA2
        refine ⟨_, rfl, .ref t2, .ty "tuple", .type "tuple", .type "tuple", true, rfl, .ty _, tup hT2, kit_ty (a := "tuple") (b := "tuple") (r := true) (by decide +kernel), true, rfl, iteF ?_⟩
        refine ⟨_, rfl, _, _, rfl, .inr ⟨_, hT2, rfl⟩, rfl, true, ?_, iteT ?_⟩
        · rw [decide_eq_false (fun z => hne (by injection z with z; rw [← l2]; omega))]
          rfl
        · exact ⟨_, rfl, by show 2 ≤ sizeLine; decide, fun t3 nt3 => bad hbi t3 _ sm2 nt3⟩
      | none =>
        cases dk2
        refine ⟨_, rfl, _, .ty "tuple", .type "NoneType", .type "tuple", false, rfl, .ty _, .base .non, kit_ty (a := "NoneType") (b := "tuple") (r := false) (by decide +kernel), false, rfl, iteT ?_⟩
        exact ⟨_, rfl, by show 2 ≤ sizeLine; decide, fun t3 nt3 => bad hbi t3 _ sm2 nt3⟩
      | @list ds2 =>
        cases dk2 with
        | lst hL2 hA2 =>
          refine ⟨_, rfl, _, .ty "tuple", .type "list", .type "tuple", false, rfl, .ty _, tyx_seqL hL2, kit_ty (a := "list") (b := "tuple") (r := false) (by decide +kernel), false, rfl, iteT ?_⟩
          exact ⟨_, rfl, by show 2 ≤ sizeLine; decide, fun t3 nt3 => bad hbi t3 _ sm2 nt3⟩
    rintro σ H' ⟨v6, v7, rfl, sm, hsd, hok⟩
    have lw2 : wt.length = bt.length := by rw [lwt, hlb]
    rw [firstF_none (bs := bt) (fun j hj => hok j (by rw [lw2]; exact hj))] at q
    replace q : Tells K H (match ds.isEmpty, rt.headD none with
      | true, some x => .tuple [.str "part", .tuple [.str x, .tuple []]]
      | _, _ => .none) Q := q
    refine ⟨_, rfl, Nat.zero_le _, fun r1 nr1 => ⟨a, r1, ws, rfl, rfl, SqL.of ((sm.trans (Same.new nr1)) _ _ ha), SqL.of upd_same, _, rfl, ?_⟩⟩
    have sA := sm.trans (Same.new (o := .lst []) nr1)
    cases hA with
    | cons h1 h2 =>
      refine iteF ?_
      exact q _ _ sA .non
    | nil =>
      refine iteT ⟨_, rfl, Nat.zero_le _, fun r2 nr2 => ⟨tl, r2, wt, rfl, rfl, SqL.of ((sA.trans (Same.new nr2)) _ _ htl), SqL.of upd_same, _, rfl, ?_⟩⟩
      have sB := sA.trans (Same.new (o := .lst []) nr2)
      cases hB with
      | nil =>
        obtain rfl : rt = [] := List.length_eq_zero_iff.mp hlt.symm
        refine iteF ?_
        exact q _ _ sB .non
      | @cons y wt2 d dt2 hy hB2 =>
        refine iteT ?_
        obtain ⟨r0, rt2, rfl⟩ : ∃ r0 rt2, rt = r0 :: rt2 := by
          cases rt with
          | nil => cases hlt
          | cons a b => exact ⟨a, b, rfl⟩
        have hb0 : bt[0]? = some true := hok 0 (by show 0 < wt2.length + 1; omega)
        have hf0 := hflag 0 _ _ rfl hb0
        obtain ⟨z, rfl⟩ : ∃ z, r0 = some z := by
          cases r0 with
          | none => cases hf0
          | some z => exact ⟨z, rfl⟩
        have ht0 := htop 0 _ _ rfl rfl
        cases ht0 with
        | @two z e0 hz =>
          have dk2 := Dp.same sB _ _ hy
          obtain ⟨t2, ws2, rfl, hT2, hA2⟩ := tup_open dk2
          obtain ⟨y1, ws2, rfl, hy1, hA2⟩ := all_open hA2
          obtain ⟨y2, ws2, rfl, hy2, hA2⟩ := all_open hA2
          obtain rfl := nil_open hA2
          cases hy1
          refine ⟨_, rfl, tl, _, 0, _, rfl, rfl, SqL.of (sB _ _ htl), atI_nat (j := 0) rfl, t2, _, 0, _, rfl, rfl, hT2, atI_nat (j := 0) rfl, Nat.zero_le _, fun t5 nt5 => ⟨by show 2 ≤ sizeLine; decide, fun t6 nt6 => ⟨by show 2 ≤ sizeLine; decide, fun t7 nt7 => ?_⟩⟩⟩
          have s5 := Same.new (o := .tup []) nt5
          have s6 := Same.new (o := .tup [.str z, .ref t5]) nt6
          have s7 := Same.new (o := .tup [.str "part", .ref t6]) nt7
          refine q _ _ (((sB.trans s5).trans s6).trans s7) (.tup (SqT.of upd_same) (.cons (.str _) (.cons (.tup (SqT.of (s7 _ _ upd_same)) (.cons (.str _) (.cons (.tup (SqT.of ((s6.trans s7) _ _ upd_same)) .nil) .nil))) .nil)))
end
end J45

set_option Elab.async false
set_option maxRecDepth 100000
/-! programs, and things that are none: what is due of them, by their form -/
namespace J45
open PySem PySem.Spec PyProof.Rows L2 Hx Xr RN
/-- two lists, row by row -/
def All2 {α β : Type} (R : α → β → Prop) (xs : List α) (ys : List β) : Prop := xs.length = ys.length ∧ ∀ (i : Nat) (x : α) (y : β), xs[i]? = some x → ys[i]? = some y → R x y
section
variable {α β : Type} {R : α → β → Prop}
theorem All2.nil : All2 R [] [] := ⟨rfl, fun i x y h => by simp at h⟩
theorem All2.cons {x : α} {y : β} {xs : List α} {ys : List β} (h : R x y) (t : All2 R xs ys) : All2 R (x :: xs) (y :: ys) := by
  refine ⟨by rw [List.length_cons, List.length_cons, t.1], fun i a b ha hb => ?_⟩
  rcases i with _ | i
  · cases ha
    cases hb
    exact h
  · exact t.2 i a b ha hb
theorem All2.app {xs xs' : List α} {ys ys' : List β} (h : All2 R xs ys) (t : All2 R xs' ys') : All2 R (xs ++ xs') (ys ++ ys') := by
  induction xs generalizing ys with
  | nil =>
    cases ys with
    | nil => exact t
    | cons y ys => cases h.1
  | cons x xs ih =>
    cases ys with
    | nil => cases h.1
    | cons y ys => exact All2.cons (h.2 0 x y rfl rfl) (ih ⟨by have := h.1; simpa using this, fun i a b ha hb => h.2 (i + 1) a b ha hb⟩)
theorem All2.map {γ : Type} {f : γ → α} {g : γ → β} (l : List γ) (h : ∀ x ∈ l, R (f x) (g x)) : All2 R (l.map f) (l.map g) := by
  induction l with
  | nil => exact .nil
  | cons x l ih => exact .cons (h x (List.mem_cons_self ..)) (ih fun y hy => h y (List.mem_cons_of_mem _ hy))
end
/-- which tops are right, by their names -/
def btOf (rt : List (Option Str)) : List Bool := (List.range rt.length).map fun i => flagT (rt.take i) (rt.getD i none)
theorem btOf_len (rt : List (Option Str)) : (btOf rt).length = rt.length := by
  unfold btOf
  rw [List.length_map, List.length_range]
theorem btOf_flag (rt : List (Option Str)) (i : Nat) (r : Option Str) (b : Bool) (h : rt[i]? = some r) (hb : (btOf rt)[i]? = some b) : b = flagT (rt.take i) r := by
  have il : i < rt.length := (List.getElem?_eq_some_iff.mp h).1
  unfold btOf at hb
  rw [List.getElem?_map, List.getElem?_range il] at hb
  have e : flagT (rt.take i) (rt.getD i none) = b := Option.some.inj hb
  rw [← e, List.getD_eq_getElem?_getD, h]
  rfl
def fine (r : PyData) : Prop := r = .none ∨ ∃ x : Str, r = .tuple [.str "part", .tuple [.str x, .tuple []]]
section
variable {K : PySem.W.Frag}
/-- a thing, what is due of it, wherever it stands as it stood -/
structure OddS (K : PySem.W.Frag) (G : Hp) (v : V) (r : PyData) : Prop where
  shaped : SeqAt.shaped r = true
  prog : ∀ H', Same G H' → ProgAt K H' v r
  parts : fine r → ∀ (H' : Hp) (Q : VK), Same G H' → Tells K H' r Q → PartsAt K H' v Q
theorem OddS.same {G G' : Hp} {v : V} {r : PyData} (h : OddS K G v r) (s : Same G G') : OddS K G' v r :=
  ⟨h.shaped, fun H' s' => h.prog H' (s.trans s'), fun hf H' Q s' => h.parts hf H' Q (s.trans s')⟩
theorem tells_same {H H1 : Hp} {r : PyData} {Q : VK} (q : Tells K H r Q) (s : Same H H1) : Tells K H1 r Q := fun H' x s' d => q H' x (s.trans s') d
theorem OddS.frame {G H : Hp} {v : V} {r : PyData} {Q : VK} (h : OddS K G v r) (s : Same G H) (q : Tells K H r Q) : FrameAt K H v fun x H1 => (x ≠ .non ∧ Q x H1) ∨ (x = .non ∧ PartsAt K H1 v Q) := by
  have told : ∀ {r : PyData}, Tells K H r Q → ∀ {H' : Hp} {t : Addr} {vs : List V} {ds : List PyData}, r = .tuple ds → Same H H' → H' t = some (.tup vs) → DpAll K H' vs ds → (V.ref t ≠ .non ∧ Q (.ref t) H') ∨ (V.ref t = .non ∧ PartsAt K H' v Q) :=
    by
    intro r q H' t vs ds e s' ht hd
    exact .inl ⟨(fun z => nomatch z), q H' _ s' (by rw [e]; exact .tup (SqT.of ht) hd)⟩
  have hparts := h.parts
  cases h.prog H s with
  | other hty => exact .other hty fun H' t s' e => told q rfl s' e (.cons (.str _) .nil)
  | len e hT hne => exact .len e hT hne fun H' t s' e => told q rfl s' e (.cons (.str _) .nil)
  | kinds e hT h1 h2 h3 hb => exact .kinds e hT h1 h2 h3 hb fun H' t s' e => told q rfl s' e (.cons (.str _) .nil)
  | @rows t a tl vd ws wt ds dt bs bt rt R =>
    refine .rows R.e R.hT R.h2 R.ha R.htl R.hA R.hlen (fun i d b h1 h2 => (R.hrow i d b h1 h2).ok) R.hB R.hlt R.hlb (fun i d r h1 h2 => (R.htop i d r h1 h2).ok) R.hflag R.hrl ?_
    cases hf : firstF bs with
    | some k =>
      rw [hf] at q
      exact fun H' t s' e => told q rfl s' e (.cons (.str _) (.cons (.int _) .nil))
    | none =>
      rw [hf] at q hparts
      show toldF H "top" (firstF bt) _
      cases hg : firstF bt with
      | some k =>
        rw [hg] at q
        exact fun H' t s' e => told q rfl s' e (.cons (.str _) (.cons (.int _) .nil))
      | none =>
        rw [hg] at q hparts
        refine fun H' s' => .inr ⟨rfl, hparts ?_ H' Q (s.trans s') (tells_same q s')⟩
        show fine (match ds.isEmpty, rt.headD none with
          | true, some x => .tuple [.str "part", .tuple [.str x, .tuple []]]
          | _, _ => .none)
        split
        · exact .inr ⟨_, rfl⟩
        · exact .inl rfl
/-! ### the forms -/
theorem not_fine_prog : ¬ fine progD := by
  rintro (h | ⟨x, h⟩)
  · cases h
  · have h2 : [PyData.str "program"] = [.str "part", .tuple [.str x, .tuple []]] := by injection h
    cases h2
theorem not_fine_two {a : Str} {k : Int} : ¬ fine (.tuple [.str a, .int k]) := by
  rintro (h | ⟨x, h⟩)
  · cases h
  · have h2 : [PyData.str a, .int k] = [.str "part", .tuple [.str x, .tuple []]] := by injection h
    injection h2 with _ h2
    injection h2 with h2 _
    cases h2
variable {G : Hp}
theorem odd_other {v : V} (h : ∀ H', Same G H' → tyB K H' v "tuple" false) : OddS K G v progD :=
  ⟨by decide +kernel, fun H' s => .other (h H' s), fun hf => absurd hf not_fine_prog⟩
theorem odd_len {t : Addr} {ws : List V} (h : G t = some (.tup ws)) (hn : ws.length ≠ 3) : OddS K G (.ref t) progD :=
  ⟨by decide +kernel, fun H' s => .len rfl (SqT.of (s _ _ h)) hn, fun hf => absurd hf not_fine_prog⟩
theorem odd_kinds {t : Addr} {vp vd vt : V} {b1 b2 b3 : Bool} (h : G t = some (.tup [vp, vd, vt])) (h1 : ∀ H', Same G H' → tyB K H' vp "list" b1) (h2 : ∀ H', Same G H' → tyB K H' vd "dict" b2) (h3 : ∀ H', Same G H' → tyB K H' vt "list" b3) (hb : (b1 && (b2 && b3)) = false) : OddS K G (.ref t) progD :=
  ⟨by decide +kernel, fun H' s => .kinds rfl (SqT.of (s _ _ h)) (h1 H' s) (h2 H' s) (h3 H' s) hb, fun hf => absurd hf not_fine_prog⟩
theorem odd_rows {t a tl : Addr} {vd : V} {ws wt : List V} {ds dt : List PyData} {bs : List Bool} {rt : List (Option Str)} (h : G t = some (.tup [.ref a, vd, .ref tl])) (h2 : ∀ H', Same G H' → tyB K H' vd "dict" true) (ha : G a = some (.lst ws)) (htl : G tl = some (.lst wt)) (hA : DpAll K G ws ds) (hrow : All2 RowS ds bs)
    (hB : DpAll K G wt dt) (htop : All2 TopS dt rt) (hl : rt.length ≤ 16000000) (hs : SeqAt.shaped (dueR (firstF bs) (firstF (btOf rt)) ds.isEmpty (rt.headD none)) = true) (hp : fine (dueR (firstF bs) (firstF (btOf rt)) ds.isEmpty (rt.headD none)) → ∀ (H' : Hp) (Q : VK), Same G H' → Tells K H' (dueR (firstF bs) (firstF (btOf rt)) ds.isEmpty (rt.headD none)) Q → PartsAt K H' (.ref t) Q) :
    OddS K G (.ref t) (dueR (firstF bs) (firstF (btOf rt)) ds.isEmpty (rt.headD none)) :=
  ⟨hs, fun H' s => .rows ⟨rfl, SqT.of (s _ _ h), h2 H' s, s _ _ ha, s _ _ htl, DpAll.same s _ _ hA, hrow.1, hrow.2, DpAll.same s _ _ hB, htop.1, (btOf_len rt).symm, htop.2, btOf_flag rt, hl⟩, hp⟩
theorem shaped_two {a : Str} (h : PyData.strOk a = true) (k : Int) : SeqAt.shaped (.tuple [.str a, .int k]) = true := by
  simp [SeqAt.shaped, PyData.canLay0, PyData.canLayAll0, PyData.depth, PyData.depthAll, h]
/-- a place that is none -/
theorem odd_places {t a tl : Addr} {vd : V} {ws wt : List V} {ds dt : List PyData} {bs : List Bool} {rt : List (Option Str)} {k : Nat} (h : G t = some (.tup [.ref a, vd, .ref tl])) (h2 : ∀ H', Same G H' → tyB K H' vd "dict" true) (ha : G a = some (.lst ws)) (htl : G tl = some (.lst wt)) (hA : DpAll K G ws ds) (hrow : All2 RowS ds bs)
    (hB : DpAll K G wt dt) (htop : All2 TopS dt rt) (hl : rt.length ≤ 16000000) (hk : firstF bs = some k) : ∃ r, OddS K G (.ref t) r := by
  refine ⟨_, odd_rows h h2 ha htl hA hrow hB htop hl ?_ ?_⟩
  · rw [hk]
    exact shaped_two (by decide +kernel) _
  · rw [hk]
    exact fun hf => absurd hf not_fine_two
/-- a top that is none -/
theorem odd_tops {t a tl : Addr} {vd : V} {ws wt : List V} {ds dt : List PyData} {bs : List Bool} {rt : List (Option Str)} {k : Nat} (h : G t = some (.tup [.ref a, vd, .ref tl])) (h2 : ∀ H', Same G H' → tyB K H' vd "dict" true) (ha : G a = some (.lst ws)) (htl : G tl = some (.lst wt)) (hA : DpAll K G ws ds) (hrow : All2 RowS ds bs)
    (hB : DpAll K G wt dt) (htop : All2 TopS dt rt) (hl : rt.length ≤ 16000000) (hp : firstF bs = none) (hk : firstF (btOf rt) = some k) : ∃ r, OddS K G (.ref t) r := by
  refine ⟨_, odd_rows h h2 ha htl hA hrow hB htop hl ?_ ?_⟩
  · rw [hp, hk]
    exact shaped_two (by decide +kernel) _
  · rw [hp, hk]
    exact fun hf => absurd hf not_fine_two
end
end J45

set_option Elab.async false
set_option maxRecDepth 100000
/-! a drawn core and what stands beside it -/
namespace J45
open PySem PySem.Spec PyProof.Rows L2 Hx Xr RN
section
variable {α β : Type} {R : α → β → Prop}
theorem All2.take {xs : List α} {ys : List β} (h : All2 R xs ys) (k : Nat) : All2 R (xs.take k) (ys.take k) := by
  refine ⟨by rw [List.length_take, List.length_take, h.1], fun i x y hx hy => ?_⟩
  rw [List.getElem?_take] at hx hy
  by_cases c : i < k
  · rw [if_pos c] at hx hy
    exact h.2 i x y hx hy
  · rw [if_neg c] at hx
    cases hx
theorem All2.drop {xs : List α} {ys : List β} (h : All2 R xs ys) (k : Nat) : All2 R (xs.drop k) (ys.drop k) := by
  refine ⟨by rw [List.length_drop, List.length_drop, h.1], fun i x y hx hy => ?_⟩
  rw [List.getElem?_drop] at hx hy
  exact h.2 _ x y hx hy
end
theorem dp_take {K : PySem.W.Frag} {H : Hp} : ∀ {vs : List V} {ds : List PyData} (k : Nat), DpAll K H vs ds → DpAll K H (vs.take k) (ds.take k)
  | _, _, 0, _ => by rw [List.take_zero, List.take_zero]; exact .nil
  | _, _, k + 1, .nil => .nil
  | _, _, k + 1, .cons h t => .cons h (dp_take k t)
theorem dp_drop {K : PySem.W.Frag} {H : Hp} : ∀ {vs : List V} {ds : List PyData} (k : Nat), DpAll K H vs ds → DpAll K H (vs.drop k) (ds.drop k)
  | _, _, 0, h => h
  | _, _, k + 1, .nil => .nil
  | _, _, k + 1, .cons h t => dp_drop k t
theorem cut_take {xs : List V} {k : Nat} (h : k ≤ xs.length) : cutV xs none (some (k : Int)) = xs.take k := by
  unfold cutV
  rw [show HT.sIx xs.length 0 none = 0 from rfl, List.drop_zero, Nat.sub_zero, HT.sIx_nat, Nat.min_eq_left h]
theorem cut_drop {xs : List V} {k : Nat} (h : k ≤ xs.length) : cutV xs (some (k : Int)) none = xs.drop k := by
  unfold cutV
  rw [show HT.sIx xs.length xs.length none = xs.length from rfl, HT.sIx_nat, Nat.min_eq_left h, List.take_of_length_le (by rw [List.length_drop]; exact Nat.le_refl _)]
def placeB : List Bool := List.replicate 20 true
theorem place_ok : ∀ i : Nat, i < 20 → (posD (.int (1 + ((0 : Int) + (i : Int)) / 6)) && posD (.int (1 + ((0 : Int) + (i : Int)) % 6 * 9))) = true ∧ smallD (.int (1 + ((0 : Int) + (i : Int)) / 6)) = true ∧ smallD (.int (1 + ((0 : Int) + (i : Int)) % 6 * 9)) = true := by decide +kernel
theorem places_rows : All2 RowS ((List.range 20).map placeD) placeB := by
  have e : placeB = (List.range 20).map fun _ => true := by decide
  rw [e]
  refine All2.map _ fun i hi => ?_
  obtain ⟨h1, h2, h3⟩ := place_ok i (List.mem_range.mp hi)
  have := RowS.two (a := .int (1 + ((0 : Int) + (i : Int)) / 6)) (b := .int (1 + ((0 : Int) + (i : Int)) % 6 * 9)) rfl rfl h2 h3
  rw [h1] at this
  exact this
def rtOf (m : Nat) : List (Option Str) := (names3.take m).map some
theorem rt_none {m : Nat} (h1 : 1 ≤ m) (h3 : m ≤ 3) : firstF (btOf (rtOf m)) = none := by
  rcases (show m = 1 ∨ m = 2 ∨ m = 3 by omega) with rfl | rfl | rfl <;> decide +kernel
def oddR : List (Option Str) := [some "X", some "a.1", none, none, some "a", some "", none]
theorem rt_some {m : Nat} (h1 : 1 ≤ m) (h3 : m ≤ 3) : ∀ r ∈ oddR, firstF (btOf (rtOf m ++ [r])) = some m := by
  rcases (show m = 1 ∨ m = 2 ∨ m = 3 by omega) with rfl | rfl | rfl <;> decide +kernel
section
variable {K : PySem.W.Frag} {G : Hp} {tp pl dn tl : Addr} {wp wt : List V} {tops : List Top}
theorem topsAt_of (htl : G tl = some (.lst wt)) (h : DpAll K G wt (tops.map topD)) : TopsAt K G tl tops := by
  refine ⟨wt, htl, ?_, fun i x hx => ?_⟩
  · rw [DpAll.len h, List.length_map]
  · obtain ⟨d, hd, dk⟩ := DpAll.get h hx
    rw [List.getElem?_map, Option.map_eq_some_iff] at hd
    obtain ⟨b, hb, rfl⟩ := hd
    obtain ⟨t2, ws, rfl, hT, hA⟩ := tup_open dk
    obtain ⟨y1, ws, rfl, h1, hA⟩ := all_open hA
    obtain ⟨y2, ws, rfl, h2, hA⟩ := all_open hA
    obtain rfl := nil_open hA
    cases h1
    exact ⟨b, y2, t2, hb, rfl, hT, h2⟩
theorem CoreAt.wl (h : CoreAt K G tp pl dn tl wp wt tops) : wp.length = 20 := by
  have := DpAll.len h.places
  rw [List.length_map, List.length_range] at this
  exact this
theorem CoreAt.mem (h : CoreAt K G tp pl dn tl wp wt tops) : ∃ m, 1 ≤ m ∧ m ≤ 3 ∧ tops.map (fun b => some b.1) = rtOf m ∧ All2 TopS (tops.map topD) (rtOf m) ∧ tops.length = m := by
  obtain ⟨m, m1, m3, e⟩ := h.names
  have e2 : tops.map (fun b => some b.1) = rtOf m := by
    unfold rtOf
    rw [← e, List.map_map]
    rfl
  refine ⟨m, m1, m3, e2, ?_, ?_⟩
  · rw [← e2]
    refine All2.map _ fun b hb => .two ?_
    have hb2 : b.1 ∈ names3.take m := by
      rw [← e]
      exact List.mem_map.mpr ⟨b, hb, rfl⟩
    have hb3 := List.mem_of_mem_take hb2
    simp only [names3, List.mem_cons, List.not_mem_nil, or_false] at hb3
    rcases hb3 with k | k | k <;> rw [k] <;> decide
  · have := congrArg List.length e
    rw [List.length_map, List.length_take] at this
    rw [this]
    show min m 3 = m
    omega
theorem CoreAt.head (h : CoreAt K G tp pl dn tl wp wt tops) : ∃ e0 rest, tops = (("a" : Str), e0) :: rest ∧ BadAt 0 e0 := by
  obtain ⟨m, m1, m3, e⟩ := h.names
  cases ht : tops with
  | nil =>
    rw [ht] at e
    obtain ⟨m', rfl⟩ : ∃ m', m = m' + 1 := ⟨m - 1, by omega⟩
    cases e
  | cons b rest =>
    obtain ⟨x, e0⟩ := b
    rw [ht] at e
    obtain ⟨m', rfl⟩ : ∃ m', m = m' + 1 := ⟨m - 1, by omega⟩
    have ex : x = "a" := by
      injection e
    subst ex
    refine ⟨e0, rest, rfl, ?_⟩
    obtain ⟨S', c, hj, _⟩ := h.right
    rw [ht] at hj
    cases hj with
    | cons h1 _ =>
      obtain ⟨wd, p, r, e, hl, hm⟩ := h1.form
      refine ⟨wd, p, r, e, hl, ?_, hm⟩
      unfold inP
      by_cases c : 0 ≤ p
      · rw [decide_eq_true c, decide_eq_false (show ¬ p < 0 by omega)]
        rfl
      · rw [decide_eq_false c, Bool.false_and]
theorem dict_ty (h : CoreAt K G tp pl dn tl wp wt tops) : ∀ H', Same G H' → tyB K H' (.ref dn) "dict" true := fun H' s => by
  obtain ⟨kvs, e⟩ := h.hDn
  exact ⟨_, .base (.dK (s _ _ e)), kit_ty (a := "dict") (b := "dict") (r := true) (by decide +kernel)⟩
theorem ty_ref {a : Addr} {xs : List V} {T : String} {b : Bool} (h : G a = some (.lst xs)) (k : PySem.W.kitOne K (.type "list") (.type T) = some b) : ∀ H', Same G H' → tyB K H' (.ref a) T b := fun H' s => ⟨_, .base (.lst (s _ _ h)), k⟩
theorem ty_tup {a : Addr} {xs : List V} {T : String} {b : Bool} (h : G a = some (.tup xs)) (k : PySem.W.kitOne K (.type "tuple") (.type T) = some b) : ∀ H', Same G H' → tyB K H' (.ref a) T b := fun H' s => ⟨_, .base (.tup (s _ _ h)), k⟩
/-- the core itself -/
theorem odd_core (h : CoreAt K G tp pl dn tl wp wt tops) : OddS K G (.ref tp) .none := by
  obtain ⟨m, m1, m3, e, hr, lt⟩ := h.mem
  have := odd_rows (K := K) h.hT (dict_ty h) h.hPl h.hTl h.places places_rows h.hTops hr ?_ ?_ ?_
  · rw [rt_none m1 m3, show firstF placeB = none by decide] at this
    exact this
  · unfold rtOf
    rw [List.length_map, List.length_take]
    show min m 3 ≤ _
    omega
  · rw [rt_none m1 m3, show firstF placeB = none by decide]
    rfl
  · rw [rt_none m1 m3, show firstF placeB = none by decide]
    intro _ H' Q s q
    have h' := h.same s
    obtain ⟨S', c, hj, l1, l2⟩ := h'.right
    refine .right rfl (SqT.of h'.hT) (SqL.of h'.hPl) (topsAt_of h'.hTl h'.hTops) (by omega) h'.data (S' := S') (c := c) (by rw [h'.wl]; exact hj) (by omega) ?_
    rw [if_neg (by omega)]
    exact fun H2 s2 => q H2 .non s2 .non
/-- no places -/
theorem odd_bare {t a : Addr} (h : CoreAt K G tp pl dn tl wp wt tops) (ht : G t = some (.tup [.ref a, .ref dn, .ref tl])) (ha : G a = some (.lst [])) : ∃ r, OddS K G (.ref t) r := by
  obtain ⟨m, m1, m3, e, hr, lt⟩ := h.mem
  have hl : (rtOf m).length ≤ 16000000 := by
    unfold rtOf
    rw [List.length_map, List.length_take]
    show min m 3 ≤ _
    omega
  have er : dueR (firstF []) (firstF (btOf (rtOf m))) ([] : List PyData).isEmpty ((rtOf m).headD none) = .tuple [.str "part", .tuple [.str "a", .tuple []]] := by
    rw [rt_none m1 m3]
    obtain ⟨m', rfl⟩ : ∃ m', m = m' + 1 := ⟨m - 1, by omega⟩
    rfl
  refine ⟨_, odd_rows (K := K) ht (dict_ty h) ha h.hTl .nil .nil h.hTops hr hl ?_ ?_⟩
  · rw [er]
    decide +kernel
  · rw [er]
    intro _ H' Q s q
    have h' := h.same s
    obtain ⟨e0, rest, et, hb⟩ := h'.head
    subst et
    refine .bad rfl (SqT.of (s _ _ ht)) (SqL.of (s _ _ ha)) (topsAt_of h'.hTl h'.hTops) (by omega) (.inl ⟨hb, fun H2 t1 t2 t3 s2 e1 e2 e3 => ?_⟩)
    exact q H2 _ s2 (.tup (SqT.of e1) (.cons (.str _) (.cons (.tup (SqT.of e2) (.cons (.str _) (.cons (.tup (SqT.of e3) .nil) .nil))) .nil)))
/-- no tops -/
theorem odd_topless {t a : Addr} (h : CoreAt K G tp pl dn tl wp wt tops) (ht : G t = some (.tup [.ref pl, .ref dn, .ref a])) (ha : G a = some (.lst [])) : ∃ r, OddS K G (.ref t) r := by
  have er : dueR (firstF placeB) (firstF (btOf [])) ((List.range 20).map placeD).isEmpty (([] : List (Option Str)).headD none) = .none := rfl
  refine ⟨_, odd_rows (K := K) ht (dict_ty h) h.hPl ha h.places places_rows .nil .nil (Nat.zero_le _) ?_ ?_⟩
  · rw [er]
    decide +kernel
  · rw [er]
    intro _ H' Q s q
    have h' := h.same s
    refine .right (tops := []) rfl (SqT.of (s _ _ ht)) (SqL.of h'.hPl) (topsAt_of (tops := []) (s _ _ ha) .nil) (Nat.zero_le _) h'.data (S' := _) (c := 0) .nil (by show 0 ≤ _; omega) ?_
    rw [if_neg (by show ¬ (4000 < ((0 : Nat) : Int) + ((0 : Nat) : Int) ∨ 60 < 0); omega)]
    exact fun H2 s2 => q H2 .non s2 .non
end
end J45

set_option Elab.async false
set_option maxRecDepth 100000
/-! a core bent in its form -/
namespace J45
open PySem PySem.Spec PyProof.Rows L2 Hx Xr RN
abbrev sOdd : Stmt := top 69
section
variable {P : Program} {w : World} {K : PySem.W.Frag} {mg : Str → Option Value} {base : Heap}
theorem grow2 {G H : Hp} {t : Addr} (u : HO) (s : Same G H) (nt : H t = none) : Same (upd G t u) (upd H t u) ∧ Same G (upd G t u) := by
  have g : G t = none := by
    cases e : G t with
    | none => rfl
    | some o => rw [s _ _ e] at nt; cases nt
  refine ⟨fun b o e => ?_, Same.new g⟩
  by_cases c : b = t
  · subst c
    rw [upd_same] at e ⊢
    exact e
  · rw [upd_ne c] at e ⊢
    exact s _ _ e
theorem gone {G H : Hp} {t : Addr} (s : Same G H) (nt : H t = none) : G t = none := by
  cases e : G t with
  | none => rfl
  | some o => rw [s _ _ e] at nt; cases nt
/-- a list that changes, beside what stands -/
structure Lst (G H : Hp) (l : Addr) (vs : List V) : Prop where
  same : Same G H
  off : G l = none
  at_ : H l = some (.lst vs)
theorem Lst.grow {G H : Hp} {l t : Addr} {vs : List V} (J : Lst G H l vs) (u : HO) (nt : H t = none) : Lst (upd G t u) (upd H t u) l vs ∧ Same G (upd G t u) := by
  obtain ⟨s1, s2⟩ := grow2 u J.same nt
  have lt : l ≠ t := fun z => by rw [← z, J.at_] at nt; cases nt
  exact ⟨⟨s1, (upd_ne lt).trans J.off, (upd_ne lt).trans J.at_⟩, s2⟩
theorem Lst.put {G H : Hp} {l : Addr} {vs : List V} (J : Lst G H l vs) (ws : List V) : Lst G (upd H l (.lst ws)) l ws := ⟨Same.upd J.same J.off, J.off, upd_same⟩
theorem bent_rows {d : PyData} (h : RowS d false) : All2 RowS (((List.range 20).map placeD).take 3 ++ [d] ++ ((List.range 20).map placeD).drop 4) (placeB.take 3 ++ [false] ++ placeB.drop 4) := ((places_rows.take 3).app (.cons h .nil)).app (places_rows.drop 4)
theorem rt_len (m : Nat) : (rtOf m).length ≤ 3 := by
  unfold rtOf
  rw [List.length_map, List.length_take]
  exact Nat.min_le_right _ _
def oddP : List PyData := [.tuple [.int 0, .int 1], .tuple [.int 1], .list [.int 1, .int 1], .tuple [.int 1, .bool true], .tuple [.int 1, .int (-2)], .none]
theorem oddP_ok : ∀ d ∈ oddP, RowS d false := by
  intro d hd
  simp only [oddP, List.mem_cons, List.not_mem_nil, or_false] at hd
  rcases hd with rfl | rfl | rfl | rfl | rfl | rfl
  · exact RowS.two (a := .int 0) (b := .int 1) rfl rfl (by decide) (by decide)
  · exact .len (by decide)
  · exact .list
  · exact RowS.two (a := .int 1) (b := .bool true) rfl rfl (by decide) rfl
  · exact RowS.two (a := .int 1) (b := .int (-2)) rfl rfl (by decide) (by decide)
  · exact .none
def oneD : PyData := .tuple [.str "num", .int 0, .int 1]
def oddT (e0 : PyData) : List PyData := [.tuple [.str "X", oneD], .tuple [.str "a.1", oneD], .tuple [.str "zz"], .list [.str "zz", .int 1], .tuple [.str "a", e0], .tuple [.str "", oneD], .none]
theorem oddT_ok (e0 : PyData) : All2 TopS (oddT e0) oddR := by
  have n : ∀ z ∈ names6, z ∈ names6 := fun _ h => h
  refine .cons (.two (by decide)) (.cons (.two (by decide)) (.cons (.len (by show (1 : Nat) ≠ 2; decide)) (.cons .list (.cons (.two (by decide)) (.cons (.two (by decide)) (.cons .none .nil))))))
theorem scOdd : FnScope ["_law_program", "_law_places", "_law_data", "_law_tops", "_law_found", "_law_row"] ["_law_program"] (defScope sOdd) := ⟨rfl, rfl, rfl, by decide +kernel, rfl, by decide +kernel, by decide +kernel⟩
def AllOdd (K : PySem.W.Frag) (G : Hp) (vs : List V) : Prop := ∀ v ∈ vs, ∃ r, OddS K G v r
theorem AllOdd.same {G G' : Hp} {vs : List V} (h : AllOdd K G vs) (s : Same G G') : AllOdd K G' vs := fun v hv => (h v hv).imp fun _ k => k.same s
theorem AllOdd.app {G : Hp} {vs ws : List V} (h : AllOdd K G vs) (k : AllOdd K G ws) : AllOdd K G (vs ++ ws) := fun v hv => (List.mem_append.mp hv).elim (h v) (k v)
theorem AllOdd.cons {G : Hp} {v : V} {vs : List V} (h : ∃ r, OddS K G v r) (k : AllOdd K G vs) : AllOdd K G (v :: vs) := fun x hx => (List.mem_cons.mp hx).elim (fun e => by rw [e]; exact h) (k x)
theorem AllOdd.nil {G : Hp} : AllOdd K G [] := fun _ h => nomatch h
def spOdd (K : PySem.W.Frag) : Sp := fun vs H Q _ => ∃ (tp pl dn tl : Addr) (wp wt : List V) (tops : List Top), vs = [.ref tp] ∧ CoreAt K H tp pl dn tl wp wt tops ∧ ∀ (H' : Hp) (l : Addr) (vs : List V), Same H H' → H' l = some (.lst vs) → vs.length ≤ 100 → AllOdd K H' vs → Q (.ref l) H'
set_option maxHeartbeats 8000000 in
theorem ok_odd {f : Addr} {fd : FuncData} (F : Fun K "_law_odd_programs" "_law_odd_programs" sOdd f fd) (gTu : mg "tuple" = none) : FnOk P w K mg base CX0 1 f fd ["_law_program"] (spOdd K) := by
  refine F.ok scOdd (fun vs H Q E h => ?_) (fun cdv A outer st H vs Q E hr h => ?_)
  · obtain ⟨tp, pl, dn, tl, wp, wt, tops, rfl, _⟩ := h
    rfl
  obtain ⟨tp, pl, dn, tl, wp, wt, tops, rfl, C, q⟩ := h
  refine ⟨_, (pss_cons (ps_asg (pv 0) (pg_tup rfl (pgs_cons (pg_name (i := 1) scOdd.nd rfl (.inl rfl)) (pgs_cons (pg_name (i := 2) scOdd.nd rfl (.inl rfl)) (pgs_cons (pg_name (i := 3) scOdd.nd rfl (.inl rfl)) pgs_nil)))))
      (pss_cons (ps_set (i := 4) scOdd.nd rfl (.inl rfl) (pe_lst (pa_cons pe_non (pa_cons pe_int (pa_cons (pe_tup pa_nil) (pa_cons (pe_tup (pa_cons (pv 1) (pa_cons (pv 2) pa_nil))) (pa_cons (pe_lst (pa_cons (pv 1) (pa_cons (pv 2) (pa_cons (pv 3) pa_nil)))) (pa_cons (pe_tup (pa_cons (pe_callTy call_tuple_of (by rfl) gTu (by decide +kernel) (pa_cons (pv 1) pa_nil)) (pa_cons (pv 2) (pa_cons (pv 3) pa_nil)))) (pa_cons (pe_tup (pa_cons (pv 1) (pa_cons (pe_lst pa_nil) (pa_cons (pv 3) pa_nil)))) pa_nil)))))))))
      (pss_cons (ps_for PassesOwn.never rfl (pi_list (pe_lst (pa_cons (pe_tup (pa_cons pe_int (pa_cons pe_int pa_nil))) (pa_cons (pe_tup (pa_cons pe_int pa_nil)) (pa_cons (pe_lst (pa_cons pe_int (pa_cons pe_int pa_nil))) (pa_cons (pe_tup (pa_cons pe_int (pa_cons pe_bl pa_nil))) (pa_cons (pe_tup (pa_cons pe_int (pa_cons (pe_un un_neg pe_int) pa_nil))) (pa_cons pe_non pa_nil)))))))) (pg_name (i := 5) scOdd.nd rfl (.inl rfl)) (pss_one (ps_expr (pe_bm PySem.F.plainAttrs_list PySem.F.slot_list_append PySem.F.type_list_append mt_append (pv 4) (pa_cons (pe_tup (pa_cons (pe_op op_cat (pe_op op_cat (pe_slice sl_list (pv 1) po_none (po_some pe_int)) (pe_lst (pa_cons (pv 5) pa_nil))) (pe_slice sl_list (pv 1) (po_some pe_int) po_none)) (pa_cons (pv 2) (pa_cons (pv 3) pa_nil)))) pa_nil)))))
      (pss_cons (ps_for PassesOwn.never rfl (pi_list (pe_lst (pa_cons (pe_tup (pa_cons pe_str (pa_cons (pe_tup (pa_cons pe_str (pa_cons pe_int (pa_cons pe_int pa_nil)))) pa_nil))) (pa_cons (pe_tup (pa_cons pe_str (pa_cons (pe_tup (pa_cons pe_str (pa_cons pe_int (pa_cons pe_int pa_nil)))) pa_nil))) (pa_cons (pe_tup (pa_cons pe_str pa_nil)) (pa_cons (pe_lst (pa_cons pe_str (pa_cons pe_int pa_nil))) (pa_cons (pe_ix ix_list (pv 3) pe_int (fun _ _ => rfl)) (pa_cons (pe_tup (pa_cons pe_str (pa_cons (pe_tup (pa_cons pe_str (pa_cons pe_int (pa_cons pe_int pa_nil)))) pa_nil))) (pa_cons pe_non pa_nil))))))))) (pg_name (i := 5) scOdd.nd rfl (.inl rfl)) (pss_one (ps_set (i := 4) scOdd.nd rfl (.inl rfl) (pe_op op_cat (pv 4) (pe_lst (pa_cons (pe_tup (pa_cons (pv 1) (pa_cons (pv 2) (pa_cons (pe_op op_cat (pv 3) (pe_lst (pa_cons (pv 5) pa_nil))) pa_nil)))) (pa_cons (pe_tup (pa_cons (pe_op op_cat (pe_slice sl_list (pv 1) po_none (po_some pe_int)) (pe_lst (pa_cons (pe_tup pa_nil) pa_nil))) (pa_cons (pv 2) (pa_cons (pe_op op_cat (pe_lst (pa_cons (pv 5) pa_nil)) (pv 3)) pa_nil)))) pa_nil)))))))
      (pss_one (ps_ret (pe_op op_cat (pv 4) (pe_lst (pa_cons (pe_tup (pa_cons (pv 1) (pa_cons (pv 2) (pa_cons (pe_callTy call_tuple_of (by rfl) gTu (by decide +kernel) (pa_cons (pv 3) pa_nil)) pa_nil)))) (pa_cons (pe_tup (pa_cons (pe_lst pa_nil) (pa_cons (pv 2) (pa_cons (pv 3) pa_nil)))) (pa_cons (pe_tup (pa_cons (pv 1) (pa_cons (pv 2) (pa_cons (pe_lst pa_nil) pa_nil)))) pa_nil))))))))))), ?_⟩
  have wl := C.wl
  refine ⟨_, rfl, tp, _, rfl, SqT.of C.hT, rfl, _, _, rfl, _, _, rfl, _, _, rfl, rfl, ?_⟩
  refine ⟨Nat.zero_le _, fun t3 nt3 => ⟨_, rfl, _, rfl, by show 2 ≤ sizeLine; decide, fun t4 nt4 => ⟨_, rfl, _, rfl, _, rfl, by show 3 ≤ sizeLine; decide, fun l5 nl5 => ?_⟩⟩⟩
  have s3 := Same.new (o := .tup []) nt3
  have s4 := Same.new (o := .tup [V.ref pl, .ref dn]) nt4
  have s5 := Same.new (o := .lst [V.ref pl, .ref dn, .ref tl]) nl5
  have s35 := (s3.trans s4).trans s5
  refine ⟨_, rfl, pl, _, rfl, .inl ⟨SqL.of (s35 _ _ C.hPl), fun t6a n6a => ⟨_, rfl, _, rfl, by show 3 ≤ sizeLine; decide, fun t6 nt6 => ⟨_, rfl, Nat.zero_le _, fun l7a n7a => ⟨_, rfl, by show 3 ≤ sizeLine; decide, fun t7 nt7 => ⟨by show 7 ≤ sizeLine; decide, fun l nl => ?_⟩⟩⟩⟩⟩⟩
  have s6a := Same.new (o := .tup wp) n6a
  have s6 := Same.new (o := .tup [V.ref t6a, .ref dn, .ref tl]) nt6
  have s7a := Same.new (o := .lst []) n7a
  have s7 := Same.new (o := .tup [V.ref pl, .ref l7a, .ref tl]) nt7
  have s67 := (s6.trans s7a).trans s7
  have sB := (s35.trans s6a).trans s67
  have CB := C.same sB
  have O7 : AllOdd K _ [V.non, .int 5, .ref t3, .ref t4, .ref l5, .ref t6, .ref t7] :=
    .cons ⟨_, odd_other fun H' _ => ⟨_, .base .non, kit_ty (a := "NoneType") (b := "tuple") (r := false) (by decide +kernel)⟩⟩ (.cons ⟨_, odd_other fun H' _ => ⟨_, .base (.int 5), kit_ty (a := "int") (b := "tuple") (r := false) (by decide +kernel)⟩⟩
    (.cons ⟨_, odd_len (ws := []) ((((s4.trans s5).trans s6a).trans s67) _ _ upd_same) (by decide)⟩ (.cons ⟨_, odd_len (ws := [V.ref pl, .ref dn]) (((s5.trans s6a).trans s67) _ _ upd_same) (by show (2 : Nat) ≠ 3; decide)⟩
    (.cons ⟨_, odd_other (ty_ref ((s6a.trans s67) _ _ upd_same) (kit_ty (a := "list") (b := "tuple") (r := false) (by decide +kernel)))⟩
    (.cons ⟨_, odd_kinds ((s7a.trans s7) _ _ upd_same) (ty_tup (s67 _ _ upd_same) (kit_ty (a := "tuple") (b := "list") (r := false) (by decide +kernel))) (dict_ty CB) (ty_ref CB.hTl (kit_ty (a := "list") (b := "list") (r := true) (by decide +kernel))) rfl⟩
    (.cons ⟨_, odd_kinds upd_same (ty_ref CB.hPl (kit_ty (a := "list") (b := "list") (r := true) (by decide +kernel))) (ty_ref (s7 _ _ upd_same) (kit_ty (a := "list") (b := "dict") (r := false) (by decide +kernel))) (ty_ref CB.hTl (kit_ty (a := "list") (b := "list") (r := true) (by decide +kernel))) rfl⟩ .nil))))))
  obtain ⟨GB, sB, O7, J0⟩ : ∃ GB : Hp, Same H GB ∧ AllOdd K GB [V.non, .int 5, .ref t3, .ref t4, .ref l5, .ref t6, .ref t7] ∧ Lst GB _ l [V.non, .int 5, .ref t3, .ref t4, .ref l5, .ref t6, .ref t7] := ⟨_, sB, O7, Same.new nl, nl, upd_same⟩
  clear CB s3 s4 s5 s35 s6a s6 s7a s7 s67
  refine ⟨by show 2 ≤ sizeLine; decide, fun r1 n1 => ⟨by show 1 ≤ sizeLine; decide, fun r2 n2 => ⟨by show 2 ≤ sizeLine; decide, fun r3 n3 => ⟨by show 2 ≤ sizeLine; decide, fun r4 n4 => ⟨2, rfl, by show 2 ≤ sizeLine; decide, fun r5 n5 => ⟨by show 6 ≤ sizeLine; decide, fun lr nlr => ?_⟩⟩⟩⟩⟩⟩
  obtain ⟨J1, g1⟩ := J0.grow (.tup [.int 0, .int 1]) n1
  obtain ⟨J2, g2⟩ := J1.grow (.tup [.int 1]) n2
  obtain ⟨J3, g3⟩ := J2.grow (.lst [.int 1, .int 1]) n3
  obtain ⟨J4, g4⟩ := J3.grow (.tup [.int 1, .bl true]) n4
  obtain ⟨J5, g5⟩ := J4.grow (.tup [.int 1, .int (-2)]) n5
  obtain ⟨J6, g6⟩ := J5.grow (.lst [.ref r1, .ref r2, .ref r3, .ref r4, .ref r5, .non]) nlr
  have g56 := g5.trans g6
  have g46 := g4.trans g56
  have g36 := g3.trans g46
  have g26 := g2.trans g36
  obtain ⟨G6, sG, O6, hlr, dr, J6⟩ : ∃ G6 : Hp, Same H G6 ∧ AllOdd K G6 [V.non, .int 5, .ref t3, .ref t4, .ref l5, .ref t6, .ref t7] ∧ G6 lr = some (.lst [.ref r1, .ref r2, .ref r3, .ref r4, .ref r5, .non]) ∧ DpAll K G6 [V.ref r1, .ref r2, .ref r3, .ref r4, .ref r5, .non] oddP ∧ Lst G6 _ l [V.non, .int 5, .ref t3, .ref t4, .ref l5, .ref t6, .ref t7] :=
    ⟨_, sB.trans (g1.trans g26), O7.same (g1.trans g26), upd_same, .cons (.tup (SqT.of (g26 _ _ upd_same)) (.cons (.int _) (.cons (.int _) .nil))) (.cons (.tup (SqT.of (g36 _ _ upd_same)) (.cons (.int _) .nil)) (.cons (.lst (SqL.of (g46 _ _ upd_same)) (.cons (.int _) (.cons (.int _) .nil)))
      (.cons (.tup (SqT.of (g56 _ _ upd_same)) (.cons (.int _) (.cons (.bl _) .nil))) (.cons (.tup (SqT.of (g6 _ _ upd_same)) (.cons (.int _) (.cons (.int _) .nil))) (.cons .non .nil))))), J6⟩
  clear J0 J1 J2 J3 J4 J5 g1 g2 g3 g4 g5 g6 g26 g36 g46 g56
  refine ⟨lr, rfl, ⟨_, SqL.of (J6.same _ _ hlr)⟩, for_list (K := K) (a := lr) (xs := [.ref r1, .ref r2, .ref r3, .ref r4, .ref r5, .non]) (fun i σ H' => ∃ (G2 : Hp) (vs : List V) (v5 : Option V), σ = [some (.ref tp), some (.ref pl), some (.ref dn), some (.ref tl), some (.ref l), v5] ∧ Same G6 G2 ∧ Lst G2 H' l vs ∧ vs.length ≤ 7 + i ∧ AllOdd K G2 vs)
    ⟨G6, _, none, rfl, fun _ _ e => e, J6, by show 7 ≤ 7 + 0; decide, O6⟩ (fun i σ H' _ ⟨_, _, _, _, s6, J, _⟩ => SqL.of (J.same _ _ (s6 _ _ hlr))) ?_ ?_⟩
  · rintro i y σ H' hy ⟨G2, vs, v5, rfl, s6, J, hlen, ho⟩
    have hi6 : i < 6 := (List.getElem?_eq_some_iff.mp hy).1
    obtain ⟨d, hd, dk⟩ := DpAll.get dr hy
    have hrow := oddP_ok d (List.mem_of_getElem? hd)
    have C2 := C.same (sG.trans s6)
    replace dk := Dp.same s6 _ _ dk
    have c3 : cutV wp none (some 3) = wp.take 3 := cut_take (k := 3) (by omega)
    have c4 : cutV wp (some 4) none = wp.drop 4 := cut_drop (k := 4) (by omega)
    have d3 : DpAll K G2 (cutV wp none (some 3)) (((List.range 20).map placeD).take 3) := by rw [c3]; exact dp_take 3 C2.places
    have d4 : DpAll K G2 (cutV wp (some 4) none) (((List.range 20).map placeD).drop 4) := by rw [c4]; exact dp_drop 4 C2.places
    have l3 := cutV_length wp none (some 3)
    have l4 := cutV_length wp (some 4) none
    have zz : 1000 ≤ sizeLine := by decide
    refine ⟨_, rfl, .inl ⟨rfl, _, SqL.of J.at_⟩, ?_⟩
    refine ⟨_, rfl, 3, rfl, pl, wp, rfl, SqL.of (J.same _ _ C2.hPl), fun p1 n1 => ⟨_, rfl, by show 1 ≤ sizeLine; decide, fun p2 n2 => ?_⟩⟩
    obtain ⟨J1, g1⟩ := J.grow (.lst (cutV wp none (some 3))) n1
    obtain ⟨J2, g2⟩ := J1.grow (.lst [y]) n2
    refine ⟨p1, p2, _, _, rfl, rfl, (Same.new n2) _ _ upd_same, upd_same, by show _ + 1 ≤ _; omega, fun p3 n3 => ?_⟩
    obtain ⟨J3, g3⟩ := J2.grow (.lst (cutV wp none (some 3) ++ [y])) n3
    have s3 := (g1.trans g2).trans g3
    refine ⟨_, rfl, 4, rfl, pl, wp, rfl, SqL.of (J3.same _ _ (s3 _ _ C2.hPl)), fun p4 n4 => ?_⟩
    obtain ⟨J4, g4⟩ := J3.grow (.lst (cutV wp (some 4) none)) n4
    refine ⟨p3, p4, _, _, rfl, rfl, (Same.new n4) _ _ upd_same, upd_same, by rw [List.length_append]; show _ + 1 + _ ≤ _; omega, fun p5 n5 => ?_⟩
    obtain ⟨J5, g5⟩ := J4.grow (.lst (cutV wp none (some 3) ++ [y] ++ cutV wp (some 4) none)) n5
    refine ⟨_, rfl, _, rfl, by show 3 ≤ sizeLine; decide, fun t nt => ?_⟩
    obtain ⟨J7, g7⟩ := J5.grow (.tup [.ref p5, .ref dn, .ref tl]) nt
    have sA := ((s3.trans g4).trans g5).trans g7
    have C7 := C2.same sA
    refine ⟨l, _, _, rfl, rfl, J7.at_, by omega, ?_⟩
    refine ⟨_, vs ++ [.ref t], _, rfl, s6.trans sA, J7.put _, by rw [List.length_append]; show _ + 1 ≤ _; omega, (ho.same sA).app (.cons ?_ .nil)⟩
    obtain ⟨m, m1, m3, em, hr, lt⟩ := C7.mem
    have := rt_len m
    refine odd_places (k := 3) (ds := ((List.range 20).map placeD).take 3 ++ [d] ++ ((List.range 20).map placeD).drop 4) (bs := placeB.take 3 ++ [false] ++ placeB.drop 4) upd_same (dict_ty C7) (g7 _ _ upd_same) C7.hTl ?_ (bent_rows hrow) C7.hTops hr (by omega) (by decide)
    exact DpAll.app (DpAll.app (DpAll.same sA _ _ d3) (.cons (Dp.same sA _ _ dk) .nil)) (DpAll.same sA _ _ d4)
  rintro σ H1 ⟨G2, vs, v5, rfl, s6, J, hlen, ho⟩
  replace hlen : vs.length ≤ 13 := hlen
  have sH1 := (sG.trans s6).trans J.same
  have ho1 := ho.same J.same
  have hl1 := J.at_
  have C1 := C.same sH1
  clear ho J s6 J6 O6 dr hlr sG O7 sB
  obtain ⟨e0, rest, et, hbad⟩ := C.head
  subst et
  obtain ⟨w0, wt2, ewt, hw0, _⟩ := all_open C1.hTops
  subst ewt
  refine ⟨by show 3 ≤ sizeLine; decide, fun a1 na1 => ⟨by show 2 ≤ sizeLine; decide, fun a2 na2 => ⟨by show 3 ≤ sizeLine; decide, fun b1 nb1 => ⟨by show 2 ≤ sizeLine; decide, fun b2 nb2 => ⟨by show 1 ≤ sizeLine; decide, fun c1 nc1 => ⟨by show 2 ≤ sizeLine; decide, fun d1 nd1 => ?_⟩⟩⟩⟩⟩⟩
  have g1 := Same.new (o := .tup [.str "num", .int 0, .int 1]) na1
  have g2 := Same.new (o := .tup [.str "X", .ref a1]) na2
  have g3 := Same.new (o := .tup [.str "num", .int 0, .int 1]) nb1
  have g4 := Same.new (o := .tup [.str "a.1", .ref b1]) nb2
  have g5 := Same.new (o := .tup [.str "zz"]) nc1
  have g6 := Same.new (o := .lst [.str "zz", .int 1]) nd1
  have g56 := g5.trans g6
  have g46 := g4.trans g56
  have g36 := g3.trans g46
  have g26 := g2.trans g36
  have g16 := g1.trans g26
  refine ⟨_, rfl, tl, _, 0, w0, rfl, rfl, SqL.of (g16 _ _ C1.hTl), atI_nat (j := 0) rfl, by show 3 ≤ sizeLine; decide, fun f1 nf1 => ⟨by show 2 ≤ sizeLine; decide, fun f2 nf2 => ⟨by show 7 ≤ sizeLine; decide, fun lr nlr => ?_⟩⟩⟩
  have g7 := Same.new (o := .tup [.str "num", .int 0, .int 1]) nf1
  have g8 := Same.new (o := .tup [.str "", .ref f1]) nf2
  have g9 := Same.new (o := .lst [V.ref a2, .ref b2, .ref c1, .ref d1, w0, .ref f2, .non]) nlr
  have g89 := g8.trans g9
  have g79 := g7.trans g89
  have one : ∀ {Hx : Hp} {a : Addr}, Hx a = some (.tup [.str "num", .int 0, .int 1]) → Dp K Hx (.ref a) oneD := fun h => .tup (SqT.of h) (.cons (.str _) (.cons (.int _) (.cons (.int _) .nil)))
  obtain ⟨Hz, eHz, sz, hlr, dr⟩ : ∃ Hz : Hp, Hz = _ ∧ Same H1 Hz ∧ Hz lr = some (.lst [V.ref a2, .ref b2, .ref c1, .ref d1, w0, .ref f2, .non]) ∧ DpAll K Hz [V.ref a2, .ref b2, .ref c1, .ref d1, w0, .ref f2, .non] (oddT e0) :=
    ⟨_, rfl, g16.trans g79, upd_same, .cons (.tup (SqT.of ((g36.trans g79) _ _ upd_same)) (.cons (.str _) (.cons (one ((g26.trans g79) _ _ upd_same)) .nil))) (.cons (.tup (SqT.of ((g56.trans g79) _ _ upd_same)) (.cons (.str _) (.cons (one ((g46.trans g79) _ _ upd_same)) .nil)))
      (.cons (.tup (SqT.of ((g6.trans g79) _ _ upd_same)) (.cons (.str _) .nil)) (.cons (.lst (SqL.of (g79 _ _ upd_same)) (.cons (.str _) (.cons (.int _) .nil))) (.cons (Dp.same (g16.trans g79) _ _ hw0) (.cons (.tup (SqT.of (g9 _ _ upd_same)) (.cons (.str _) (.cons (one (g89 _ _ upd_same)) .nil))) (.cons .non .nil))))))⟩
  rw [← eHz]
  clear g1 g2 g3 g4 g5 g6 g7 g8 g9 g16 g26 g36 g46 g56 g79 g89 eHz
  have Cz := C1.same sz
  refine ⟨lr, rfl, ⟨_, SqL.of hlr⟩, for_list (K := K) (a := lr) (xs := [V.ref a2, .ref b2, .ref c1, .ref d1, w0, .ref f2, .non]) (fun i σ H' => ∃ (l : Addr) (vs : List V) (v5 : Option V), σ = [some (.ref tp), some (.ref pl), some (.ref dn), some (.ref tl), some (.ref l), v5] ∧ Same Hz H' ∧ H' l = some (.lst vs) ∧ vs.length ≤ 13 + 2 * i ∧ AllOdd K H' vs)
    ⟨l, vs, v5, rfl, fun _ _ e => e, sz _ _ hl1, by omega, ho1.same sz⟩ (fun i σ H' _ ⟨_, _, _, _, s6, _⟩ => SqL.of (s6 _ _ hlr)) ?_ ?_⟩
  · clear hl1 ho1 hlen
    rintro i y σ H' hy ⟨l, vs, v5, rfl, s6, hl, hlen, ho⟩
    have hi7 : i < 7 := (List.getElem?_eq_some_iff.mp hy).1
    obtain ⟨d, hd, dk⟩ := DpAll.get dr hy
    obtain ⟨r, hr0⟩ : ∃ r, oddR[i]? = some r := ⟨oddR[i]'hi7, List.getElem?_eq_getElem _⟩
    have hrow := (oddT_ok e0).2 i d r hd hr0
    have hrm := List.mem_of_getElem? hr0
    have C2 := Cz.same s6
    replace dk := Dp.same s6 _ _ dk
    obtain ⟨m, m1, m3, em, hrt, lt⟩ := C2.mem
    have lwt : (w0 :: wt2).length = m := by
      have := DpAll.len C2.hTops
      rw [List.length_map, lt] at this
      exact this
    have lrt := rt_len m
    have zz : 1000 ≤ sizeLine := by decide
    have c1 : cutV wp none (some 1) = wp.take 1 := cut_take (k := 1) (by omega)
    have d1 : DpAll K H' (cutV wp none (some 1)) (((List.range 20).map placeD).take 1) := by rw [c1]; exact dp_take 1 C2.places
    have l1 := cutV_length wp none (some 1)
    refine ⟨_, rfl, _, rfl, _, rfl, _, rfl, _, rfl, by show 1 ≤ sizeLine; decide, fun q1 nq1 => ⟨tl, q1, _, _, rfl, rfl, (Same.new nq1) _ _ C2.hTl, upd_same, by show _ + 1 ≤ _; omega, fun q2 nq2 => ⟨by show 3 ≤ sizeLine; decide, fun t1 nt1 => ?_⟩⟩⟩
    have g1 := Same.new (o := .lst [y]) nq1
    have g2 := Same.new (o := .lst ((w0 :: wt2) ++ [y])) nq2
    have g3 := Same.new (o := .tup [.ref pl, .ref dn, .ref q2]) nt1
    have g13 := (g1.trans g2).trans g3
    have C3 := C2.same g13
    refine ⟨_, rfl, 1, rfl, pl, wp, rfl, SqL.of C3.hPl, fun q3 nq3 => ⟨Nat.zero_le _, fun q4 nq4 => ⟨by show 1 ≤ sizeLine; decide, fun q5 nq5 => ?_⟩⟩⟩
    have g4 := Same.new (o := .lst (cutV wp none (some 1))) nq3
    have g5 := Same.new (o := .tup []) nq4
    have g6 := Same.new (o := .lst [.ref q4]) nq5
    refine ⟨q3, q5, _, _, rfl, rfl, (g5.trans g6) _ _ upd_same, upd_same, by show _ + 1 ≤ _; omega, fun q6 nq6 => ⟨_, rfl, _, rfl, by show 1 ≤ sizeLine; decide, fun q7 nq7 => ?_⟩⟩
    have g7 := Same.new (o := .lst (cutV wp none (some 1) ++ [.ref q4])) nq6
    have g8 := Same.new (o := .lst [y]) nq7
    have g48 := (((g4.trans g5).trans g6).trans g7).trans g8
    have C4 := C3.same g48
    refine ⟨_, rfl, q7, tl, _, _, rfl, rfl, upd_same, C4.hTl, by show 1 + _ ≤ _; omega, fun q8 nq8 => ⟨by show 3 ≤ sizeLine; decide, fun t2 nt2 => ⟨by show 2 ≤ sizeLine; decide, fun q9 nq9 => ?_⟩⟩⟩
    have g9 := Same.new (o := .lst ([y] ++ (w0 :: wt2))) nq8
    have ga := Same.new (o := .tup [.ref q6, .ref dn, .ref q8]) nt2
    have gb := Same.new (o := .lst [.ref t1, .ref t2]) nq9
    have g9b := (g9.trans ga).trans gb
    refine ⟨l, q9, _, _, rfl, rfl, ((g13.trans g48).trans g9b) _ _ hl, upd_same, by show _ + 2 ≤ _; omega, fun l2 nl2 => ?_⟩
    have gc := Same.new (o := .lst (vs ++ [.ref t1, .ref t2])) nl2
    have sA := ((g13.trans g48).trans g9b).trans gc
    refine ⟨l2, _, _, rfl, s6.trans sA, upd_same, by rw [List.length_append]; show _ + 2 ≤ _; omega, (ho.same sA).app (.cons ?_ (.cons ?_ .nil))⟩
    · have : ∃ r, OddS K _ (.ref t1) r := odd_tops (k := m) upd_same (dict_ty C3) C3.hPl (g3 _ _ upd_same) C3.places places_rows (DpAll.app C3.hTops (.cons (Dp.same g13 _ _ dk) .nil)) (hrt.app (.cons hrow .nil)) (by rw [List.length_append]; show _ + 1 ≤ _; omega) (by decide) (rt_some m1 m3 r hrm)
      exact this.imp fun _ h => h.same ((g48.trans g9b).trans gc)
    · have gA := g9.trans ga
      have C5 := C4.same gA
      have : ∃ r, OddS K _ (.ref t2) r := odd_places (k := 1) (ds := ((List.range 20).map placeD).take 1 ++ [.tuple []]) (bs := placeB.take 1 ++ [false]) (dt := [d] ++ ((("a" : Str), e0) :: rest).map topD) (rt := [r] ++ rtOf m) upd_same (dict_ty C5) ((g8.trans gA) _ _ upd_same) (ga _ _ upd_same) (DpAll.app (DpAll.same (g13.trans (g48.trans gA)) _ _ d1) (.cons (.tup (SqT.of (((g6.trans g7).trans (g8.trans gA)) _ _ upd_same)) .nil) .nil)) ((places_rows.take 1).app (.cons (.len (by show (0 : Nat) ≠ 2; decide)) .nil)) (DpAll.app (.cons (Dp.same (g13.trans (g48.trans gA)) _ _ dk) .nil) C5.hTops) (All2.app (.cons hrow .nil) hrt) (by rw [List.length_append]; show 1 + _ ≤ _; omega) (by decide)
      exact this.imp fun _ h => h.same (gb.trans gc)
  clear hl1 ho1 hlen
  rintro σ H2 ⟨l, vs, v5, rfl, s6, hl, hlen, ho⟩
  replace hlen : vs.length ≤ 27 := hlen
  have C2 := Cz.same s6
  have zz : 1000 ≤ sizeLine := by decide
  refine ⟨_, rfl, _, rfl, _, rfl, _, rfl, tl, _, rfl, .inl ⟨SqL.of C2.hTl, fun x1 nx1 => ⟨by show 3 ≤ sizeLine; decide, fun y1 ny1 => ⟨Nat.zero_le _, fun x2 nx2 => ⟨_, rfl, _, rfl, by show 3 ≤ sizeLine; decide, fun y2 ny2 => ⟨_, rfl, _, rfl, Nat.zero_le _, fun x3 nx3 => ⟨by show 3 ≤ sizeLine; decide, fun y3 ny3 => ⟨by show 3 ≤ sizeLine; decide, fun z1 nz1 => ?_⟩⟩⟩⟩⟩⟩⟩⟩
  have g1 := Same.new (o := .tup (w0 :: wt2)) nx1
  have g2 := Same.new (o := .tup [.ref pl, .ref dn, .ref x1]) ny1
  have g3 := Same.new (o := .lst []) nx2
  have g4 := Same.new (o := .tup [.ref x2, .ref dn, .ref tl]) ny2
  have g5 := Same.new (o := .lst []) nx3
  have g6 := Same.new (o := .tup [.ref pl, .ref dn, .ref x3]) ny3
  have g7 := Same.new (o := .lst [.ref y1, .ref y2, .ref y3]) nz1
  have g12 := g1.trans g2
  have g14 := g12.trans (g3.trans g4)
  have g16 := g14.trans (g5.trans g6)
  refine ⟨l, z1, _, _, rfl, rfl, (g16.trans g7) _ _ hl, upd_same, by show _ + 3 ≤ _; omega, fun z2 nz2 => ?_⟩
  have g8 := Same.new (o := .lst (vs ++ [.ref y1, .ref y2, .ref y3])) nz2
  have CA := C2.same g12
  have CB := C2.same g14
  have CC := C2.same g16
  refine q _ z2 _ ((sH1.trans (sz.trans s6)).trans ((g16.trans g7).trans g8)) upd_same (by rw [List.length_append]; show _ + 3 ≤ _; omega) ((ho.same ((g16.trans g7).trans g8)).app (.cons ?_ (.cons ?_ (.cons ?_ .nil))))
  · have : ∃ r, OddS K _ (.ref y1) r := ⟨_, odd_kinds upd_same (ty_ref CA.hPl (kit_ty (a := "list") (b := "list") (r := true) (by decide +kernel))) (dict_ty CA) (ty_tup (g2 _ _ upd_same) (kit_ty (a := "tuple") (b := "list") (r := false) (by decide +kernel))) rfl⟩
    exact this.imp fun _ h => h.same ((g3.trans g4).trans (((g5.trans g6).trans g7).trans g8))
  · have : ∃ r, OddS K _ (.ref y2) r := odd_bare CB upd_same (g4 _ _ upd_same)
    exact this.imp fun _ h => h.same (((g5.trans g6).trans g7).trans g8)
  · have : ∃ r, OddS K _ (.ref y3) r := odd_topless CC upd_same (g6 _ _ upd_same)
    exact this.imp fun _ h => h.same (g7.trans g8)
end
end J45

set_option Elab.async false
set_option maxRecDepth 100000
/-! parts gone by, by the law -/
namespace J45
open PySem PySem.Spec PyProof.Rows L2 Hx Xr RN
abbrev sInner : Stmt := top 59
abbrev sWalked : Stmt := top 60
inductive Inner : PyData → List PyData → Prop
  | num {p i : PyData} : Inner (.tuple [.str "num", p, i]) []
  | deed {p d e1 e2 : PyData} : Inner (.tuple [.str "deed", p, d, e1, e2]) [e1, e2]
  | lets {p e : PyData} {bs : List (Str × PyData)} : Inner (.tuple [.str "let", p, .tuple (bs.map fun b => .tuple [.str b.1, b.2]), e]) (bs.map (·.2) ++ [e])
mutual
inductive Sz : PyData → Nat → Prop
  | mk {e : PyData} {es : List PyData} {c : Nat} : Inner e es → SzL es c → Sz e (c + 1)
inductive SzL : List PyData → Nat → Prop
  | nil : SzL [] 0
  | cons {e : PyData} {es : List PyData} {c1 c2 : Nat} : Sz e c1 → SzL es c2 → SzL (e :: es) (c1 + c2)
end
theorem SzL.all : ∀ {es : List PyData} {c : Nat}, SzL es c → ∃ ns : List Nat, All2 Sz es ns ∧ ns.sum = c
  | _, _, .nil => ⟨[], .nil, rfl⟩
  | _, _, .cons h t => by
    obtain ⟨ns, a, b⟩ := SzL.all t
    exact ⟨_ :: ns, .cons h a, by rw [List.sum_cons, b]⟩
theorem Sz.pos {e : PyData} {c : Nat} (h : Sz e c) : 1 ≤ c := by
  cases h with
  | mk _ _ => exact Nat.le_add_left 1 _
theorem all_len : ∀ {es : List PyData} {ns : List Nat}, All2 Sz es ns → es.length ≤ ns.sum
  | [], ns, _ => Nat.zero_le _
  | e :: es, [], h => by cases h.1
  | e :: es, n :: ns, h => by
    have h1 := (h.2 0 e n rfl rfl).pos
    have h2 := all_len (es := es) (ns := ns) ⟨by have := h.1; simpa using this, fun i x y hx hy => h.2 (i + 1) x y hx hy⟩
    rw [List.sum_cons, List.length_cons]
    omega
theorem dp_snoc {K : PySem.W.Frag} {H : Hp} : ∀ {vs : List V} {ds : List PyData} {d : PyData}, DpAll K H vs (ds ++ [d]) → ∃ ws v, vs = ws ++ [v] ∧ DpAll K H ws ds ∧ Dp K H v d
  | _, [], _, .cons h .nil => ⟨[], _, rfl, .nil, h⟩
  | _, _ :: ds, _, .cons h t => by
    obtain ⟨ws, v, rfl, a, b⟩ := dp_snoc (ds := ds) t
    exact ⟨_ :: ws, v, rfl, .cons h a, b⟩
theorem all_snoc {α β : Type} {R : α → β → Prop} : ∀ {xs : List α} {x : α} {ys : List β}, All2 R (xs ++ [x]) ys → ∃ zs y, ys = zs ++ [y] ∧ All2 R xs zs ∧ R x y
  | [], x, [], h => by cases h.1
  | [], x, y :: ys, h => by
    have e : ys = [] := List.length_eq_zero_iff.mp (by have := h.1; simpa using this.symm)
    subst e
    exact ⟨[], y, rfl, .nil, h.2 0 _ _ rfl rfl⟩
  | a :: xs, x, [], h => by cases h.1
  | a :: xs, x, y :: ys, h => by
    obtain ⟨zs, b, rfl, k1, k2⟩ := all_snoc (xs := xs) (x := x) (ys := ys) ⟨by have := h.1; simpa using this, fun i p q hp hq => h.2 (i + 1) p q hp hq⟩
    exact ⟨y :: zs, b, rfl, .cons (h.2 0 _ _ rfl rfl) k1, k2⟩
theorem drop_sum_le : ∀ (ns : List Nat) (k : Nat), (ns.drop k).sum ≤ ns.sum
  | [], k => by rw [List.drop_nil]; exact Nat.le_refl _
  | n :: ns, 0 => Nat.le_refl _
  | n :: ns, k + 1 => by
    have := drop_sum_le ns k
    rw [List.drop_succ_cons, List.sum_cons]
    omega
/-- two lists that change -/
structure Two (G H : Hp) (f w : Addr) (fs ws : List V) : Prop where
  same : Same G H
  hf : G f = none
  hw : G w = none
  ne : f ≠ w
  af : H f = some (.lst fs)
  aw : H w = some (.lst ws)
theorem Lst.two {G H : Hp} {f w : Addr} {fs ws : List V} (J : Lst G H f fs) (nw : H w = none) : Two G (upd H w (.lst ws)) f w fs ws := by
  have ne : f ≠ w := fun z => by rw [← z, J.at_] at nw; cases nw
  exact ⟨J.same.trans (Same.new nw), J.off, gone J.same nw, ne, (upd_ne ne).trans J.at_, upd_same⟩
section
variable {G H : Hp} {f w t : Addr} {fs ws : List V}
theorem Two.grow (J : Two G H f w fs ws) (u : HO) (nt : H t = none) : Two (upd G t u) (upd H t u) f w fs ws ∧ Same G (upd G t u) := by
  obtain ⟨s1, s2⟩ := grow2 u J.same nt
  have e1 : f ≠ t := fun z => by rw [← z, J.af] at nt; cases nt
  have e2 : w ≠ t := fun z => by rw [← z, J.aw] at nt; cases nt
  exact ⟨⟨s1, (upd_ne e1).trans J.hf, (upd_ne e2).trans J.hw, J.ne, (upd_ne e1).trans J.af, (upd_ne e2).trans J.aw⟩, s2⟩
theorem Two.wide {H' : Hp} (J : Two G H f w fs ws) (s : Same H H') : Two G H' f w fs ws := ⟨J.same.trans s, J.hf, J.hw, J.ne, s _ _ J.af, s _ _ J.aw⟩
theorem Two.putF (J : Two G H f w fs ws) (xs : List V) : Two G (upd H f (.lst xs)) f w xs ws := ⟨Same.upd J.same J.hf, J.hf, J.hw, J.ne, upd_same, (upd_ne J.ne.symm).trans J.aw⟩
theorem Two.putW (J : Two G H f w fs ws) (xs : List V) : Two G (upd H w (.lst xs)) f w fs xs := ⟨Same.upd J.same J.hw, J.hf, J.hw, J.ne, (upd_ne J.ne).trans J.af, upd_same⟩
end
section
variable {P : Program} {w : World} {K : PySem.W.Frag} {mg : Str → Option Value} {base : Heap}
theorem scInner : FnScope ["_law_e", "_law_word", "_law_found", "_law_x", "_law_part", "_law_what", "_law_names"] ["_law_e"] (defScope sInner) := ⟨rfl, rfl, rfl, by decide +kernel, rfl, by decide +kernel, by decide +kernel⟩
theorem scWalked : FnScope ["_law_x", "_law_e", "_law_found", "_law_waiting", "_law_path", "_law_part", "_law_some", "_law_k"] ["_law_x", "_law_e"] (defScope sWalked) := ⟨rfl, rfl, rfl, by decide +kernel, rfl, by decide +kernel, by decide +kernel⟩
def spInner (K : PySem.W.Frag) : Sp := fun vs H Q _ => ∃ (G : Hp) (v : V) (e : PyData) (es : List PyData), vs = [v] ∧ Same G H ∧ Dp K G v e ∧ Inner e es ∧ es.length ≤ 1000 ∧ ∀ (H' : Hp) (l : Addr) (zs : List V), Same H H' → H l = none → H' l = some (.lst zs) → DpAll K G zs es → Q (.ref l) H'
set_option maxHeartbeats 8000000 in
theorem ok_inner {f : Addr} {fd : FuncData} (F : Fun K "_law_inner" "_law_inner" sInner f fd) : FnOk P w K mg base CX0 1 f fd ["_law_e"] (spInner K) := by
  refine F.ok scInner (fun vs H Q E h => ?_) (fun cdv A outer st H vs Q E hr h => ?_)
  · obtain ⟨G, v, e, es, rfl, _⟩ := h
    rfl
  obtain ⟨G, v, e, es, rfl, s0, hv, hi, hl, q⟩ := h
  refine ⟨_, (pss_cons (ps_set (i := 1) scInner.nd rfl (.inl rfl) (pe_ix ix_tup (pv 0) pe_int (fun _ _ => rfl)))
      (pss_cons (ps_if (pt_cmpR op_eq (pv 1) pe_str (nomark _)) (pss_one (ps_ret (pe_lst (pa_cons (pe_ix ix_tup (pv 0) pe_int (fun _ _ => rfl)) pa_nil)))) pss_nil)
      (pss_cons (ps_if (pt_cmpR op_eq (pv 1) pe_str (nomark _)) (pss_one (ps_ret (pe_lst (pa_cons (pe_ix ix_tup (pv 0) pe_int (fun _ _ => rfl)) pa_nil)))) pss_nil)
      (pss_cons (ps_if (pt_cmpR op_eq (pv 1) pe_str (nomark _)) (pss_one (ps_ret (pe_op op_cat (pe_lc (own := [("_law_x", 3), ("_law_part", 4)]) (g := gTup K 2 (gCons (gName 3) (gCons (gName 4) gNil))) (tt := tYes) rfl scInner.nd (pi_tup (pe_ix ix_tup (pv 0) pe_int (fun _ _ => rfl))) (blkOk_by (own := [("_law_x", 3), ("_law_part", 4)]) (N := ["_law_e", "_law_word", "_law_found", "_law_x", "_law_part", "_law_what", "_law_names"]) (sc := defScope sInner) (by decide +kernel)) (fun _ _ _ _ _ => (pg_tup rfl (pgs_cons (pg_name (i := 3) scInner.nd rfl (.inl rfl)) (pgs_cons (pg_name (i := 4) scInner.nd rfl (.inl rfl)) pgs_nil)))) (fun _ _ _ _ _ => pts_nil) (fun _ _ _ _ _ => pv 4)) (pe_lst (pa_cons (pe_ix ix_tup (pv 0) pe_int (fun _ _ => rfl)) pa_nil))))) pss_nil)
      (pss_cons (ps_if (pt_cmpR op_eq (pv 1) pe_str (nomark _)) (pss_cons (ps_set (i := 2) scInner.nd rfl (.inl rfl) (pe_op op_cat (pe_lst (pa_cons (pe_ix ix_tup (pv 0) pe_int (fun _ _ => rfl)) pa_nil)) (pe_lc (own := [("_law_what", 5), ("_law_names", 6), ("_law_part", 4)]) (g := gTup K 3 (gCons (gName 5) (gCons (gName 6) (gCons (gName 4) gNil)))) (tt := tYes) rfl scInner.nd (pi_tup (pe_ix ix_tup (pv 0) pe_int (fun _ _ => rfl))) (blkOk_by (own := [("_law_what", 5), ("_law_names", 6), ("_law_part", 4)]) (N := ["_law_e", "_law_word", "_law_found", "_law_x", "_law_part", "_law_what", "_law_names"]) (sc := defScope sInner) (by decide +kernel)) (fun _ _ _ _ _ => (pg_tup rfl (pgs_cons (pg_name (i := 5) scInner.nd rfl (.inl rfl)) (pgs_cons (pg_name (i := 6) scInner.nd rfl (.inl rfl)) (pgs_cons (pg_name (i := 4) scInner.nd rfl (.inl rfl)) pgs_nil))))) (fun _ _ _ _ _ => pts_nil) (fun _ _ _ _ _ => pv 4))))
      (pss_one (ps_ret (pe_op op_cat (pv 2) (pe_lc (own := [("_law_part", 4)]) (g := gName 4) rfl scInner.nd (pi_list (pe_lst (pa_cons (pe_ix ix_tup (pv 0) pe_int (fun _ _ => rfl)) pa_nil))) (blkOk_by (own := [("_law_part", 4)]) (N := ["_law_e", "_law_word", "_law_found", "_law_x", "_law_part", "_law_what", "_law_names"]) (sc := defScope sInner) (by decide +kernel)) (fun _ _ _ _ _ => pg_name (i := 4) scInner.nd rfl (.inl rfl)) (fun _ _ _ _ _ => pts_one (pt_cmpR op_notN (pv 4) pe_non (nomark _))) (fun _ _ _ _ _ => pv 4)))))) pss_nil)
      (pss_cons (ps_if (pt_cmpR op_eq (pv 1) pe_str (nomark _)) (pss_one (ps_ret (pe_lst (pa_cons (pe_ix ix_tup (pv 0) pe_int (fun _ _ => rfl)) (pa_cons (pe_ix ix_tup (pv 0) pe_int (fun _ _ => rfl)) pa_nil))))) pss_nil)
      (pss_cons (ps_if (pt_cmpR op_eq (pv 1) pe_str (nomark _)) (pss_one (ps_ret (pe_lst (pa_cons (pe_ix ix_tup (pv 0) pe_int (fun _ _ => rfl)) (pa_cons (pe_ix ix_tup (pv 0) pe_int (fun _ _ => rfl)) pa_nil))))) pss_nil)
      (pss_one (ps_ret (pe_lst pa_nil)))))))))), ?_⟩
  cases hi with
  | @num p i =>
    obtain ⟨t, ws, rfl, hT, hA⟩ := tup_open hv
    obtain ⟨z1, ws, rfl, hz1, hA⟩ := all_open hA
    obtain ⟨z2, ws, rfl, hz2, hA⟩ := all_open hA
    obtain ⟨z3, ws, rfl, hz3, hA⟩ := all_open hA
    obtain rfl := nil_open hA
    cases hz1
    have hT' := Same.seqT s0 hT
    refine ⟨_, rfl, t, _, 0, _, rfl, rfl, hT', atI_nat (j := 0) rfl, ?_⟩
    refine ⟨_, rfl, rfl, false, wno (by decide), iteF ⟨_, rfl, rfl, false, wno (by decide), iteF ⟨_, rfl, rfl, false, wno (by decide), iteF ⟨_, rfl, rfl, false, wno (by decide), iteF ⟨_, rfl, rfl, false, wno (by decide), iteF ⟨_, rfl, rfl, false, wno (by decide), iteF ⟨Nat.zero_le _, fun l nl => q _ l [] (Same.new nl) nl upd_same .nil⟩⟩⟩⟩⟩⟩⟩
  | @deed p d e1 e2 =>
    obtain ⟨t, ws, rfl, hT, hA⟩ := tup_open hv
    obtain ⟨z1, ws, rfl, hz1, hA⟩ := all_open hA
    obtain ⟨z2, ws, rfl, hz2, hA⟩ := all_open hA
    obtain ⟨z3, ws, rfl, hz3, hA⟩ := all_open hA
    obtain ⟨z4, ws, rfl, hz4, hA⟩ := all_open hA
    obtain ⟨z5, ws, rfl, hz5, hA⟩ := all_open hA
    obtain rfl := nil_open hA
    cases hz1
    have hT' := Same.seqT s0 hT
    refine ⟨_, rfl, t, _, 0, _, rfl, rfl, hT', atI_nat (j := 0) rfl, ?_⟩
    refine ⟨_, rfl, rfl, false, wno (by decide), iteF ⟨_, rfl, rfl, false, wno (by decide), iteF ⟨_, rfl, rfl, false, wno (by decide), iteF ⟨_, rfl, rfl, false, wno (by decide), iteF ⟨_, rfl, rfl, true, bl_t rfl, iteT ?_⟩⟩⟩⟩⟩
    exact ⟨_, rfl, t, _, 3, _, rfl, rfl, hT', atI_nat (j := 3) rfl, _, rfl, t, _, 4, _, rfl, rfl, hT', atI_nat (j := 4) rfl, by show 2 ≤ sizeLine; decide, fun l nl => q _ l [z4, z5] (Same.new nl) nl upd_same (.cons hz4 (.cons hz5 .nil))⟩
  | @lets p e0 bs =>
    obtain ⟨t, ws, rfl, hT, hA⟩ := tup_open hv
    obtain ⟨z1, ws, rfl, hz1, hA⟩ := all_open hA
    obtain ⟨z2, ws, rfl, hz2, hA⟩ := all_open hA
    obtain ⟨z3, ws, rfl, hz3, hA⟩ := all_open hA
    obtain ⟨z4, ws, rfl, hz4, hA⟩ := all_open hA
    obtain rfl := nil_open hA
    cases hz1
    have hT' := Same.seqT s0 hT
    refine ⟨_, rfl, t, _, 0, _, rfl, rfl, hT', atI_nat (j := 0) rfl, ?_⟩
    refine ⟨_, rfl, rfl, false, wno (by decide), iteF ⟨_, rfl, rfl, false, wno (by decide), iteF ⟨_, rfl, rfl, true, bl_t rfl, iteT ?_⟩⟩⟩
    obtain ⟨tb, wb, rfl, hTb, hAb⟩ := tup_open hz3
    have hTb' := Same.seqT s0 hTb
    have lb := DpAll.len hAb
    rw [List.length_map] at lb
    rw [List.length_append, List.length_map] at hl
    replace hl : bs.length + 1 ≤ 1000 := hl
    have zz : 2000 ≤ sizeLine := by decide
    refine ⟨_, rfl, t, _, 2, _, rfl, rfl, hT', atI_nat (j := 2) rfl, tb, rfl, ⟨_, hTb'⟩, fun D nD => ?_⟩
    refine lc_it walk_tup (fun i Hk => ∃ zs : List V, Hk D = some (.lst zs) ∧ DpAll K G zs ((bs.map (·.2)).take i) ∧ Same H Hk) ⟨[], upd_same, .nil, Same.new nD⟩ (fun _ _ _ ⟨_, _, _, s4⟩ => Same.seqT s4 hTb') ?_ ?_
    · rintro i x Hk H3 hi ⟨zs, hD, hz, sm⟩ ⟨rfl, hx⟩
      obtain ⟨d, hd, dk⟩ := DpAll.get hAb hx
      rw [List.getElem?_map, Option.map_eq_some_iff] at hd
      obtain ⟨b, hb, rfl⟩ := hd
      obtain ⟨t2, w2, rfl, hT2, hA2⟩ := tup_open dk
      obtain ⟨y1, w2, rfl, h1, hA2⟩ := all_open hA2
      obtain ⟨y2, w2, rfl, h2, hA2⟩ := all_open hA2
      obtain rfl := nil_open hA2
      refine ⟨t2, _, rfl, Same.seqT (s0.trans sm) hT2, rfl, _, _, rfl, _, _, rfl, rfl, rfl, ?_⟩
      dsimp only [tYes]
      rw [if_pos rfl]
      refine ⟨_, rfl, zs, hD, ?_, zs ++ [y2], upd_same, ?_, Same.upd sm nD⟩
      · have := DpAll.len hz
        rw [List.length_take, List.length_map] at this
        omega
      · rw [List.take_add_one, List.getElem?_map, hb]
        exact DpAll.app hz (.cons h2 .nil)
    · rintro Hk ⟨zs, hD, hz, sm⟩
      rw [lb, ← List.length_map (f := fun b : Str × PyData => b.2), List.take_length] at hz
      have lz := DpAll.len hz
      rw [List.length_map] at lz
      refine ⟨_, rfl, t, _, 3, _, rfl, rfl, (Same.seqT sm hT'), atI_nat (j := 3) rfl, by show 1 ≤ sizeLine; decide, fun l2 nl2 => ⟨D, l2, _, _, rfl, rfl, (Same.new nl2) _ _ hD, upd_same, by show _ + 1 ≤ _; omega, fun l3 nl3 => ?_⟩⟩
      have s2 := sm.trans (Same.new (o := .lst [z4]) nl2)
      exact q _ l3 (zs ++ [z4]) (s2.trans (Same.new nl3)) (gone s2 nl3) upd_same (DpAll.app hz (.cons hz4 .nil))
def itD (it : List Int × PyData) : PyData := .tuple [.tuple (it.1.map PyData.int), it.2]
def spWalk (K : PySem.W.Frag) : Sp := fun vs H Q _ => ∃ (z : Str) (v : V) (e : PyData) (c : Nat), vs = [.str z, v] ∧ Dp K H v e ∧ Sz e c ∧ c ≤ 1000 ∧ ∀ (H' : Hp) (f : Addr) (fs : List V), Same H H' → H' f = some (.lst fs) → fs.length = c → Q (.ref f) H'
set_option maxHeartbeats 8000000 in
theorem ok_walked {f fI : Addr} {fd fdI : FuncData} (F : Fun K "_law_walked" "_law_walked" sWalked f fd) (gRa : mg "range" = none) (gLen : mg "len" = none)
    (GI : FnOk P w K mg base CX0 1 fI fdI ["_law_e"] (spInner K)) (kI : PySem.W.keepIn K (.ref fI) = true) (bI : Binds K fdI ["_law_e"] []) (gI : mg "_law_inner" = some (.ref fI)) :
    FnOk P w K mg base CX0 2 f fd ["_law_x", "_law_e"] (spWalk K) := by
  refine F.ok scWalked (fun vs H Q E h => ?_) (fun cdv A outer st H vs Q E hr h => ?_)
  · obtain ⟨z, v, e, c, rfl, _⟩ := h
    rfl
  obtain ⟨z, v, e, c, rfl, hv, hz, hc, q⟩ := h
  have hu := ru1 hr
  have hu0 := Nat.lt_of_succ_lt hu
  refine ⟨_, (pss_cons (ps_set (i := 2) scWalked.nd rfl (.inl rfl) (pe_lst pa_nil))
      (pss_cons (ps_set (i := 3) scWalked.nd rfl (.inl rfl) (pe_lst (pa_cons (pe_tup (pa_cons (pe_tup pa_nil) (pa_cons (pv 1) pa_nil))) pa_nil)))
      (pss_cons (ps_while PassesOwn.never (pt_cmpR (op_neE hu0) (pv 3) (pe_lst pa_nil) (nomark _)) (pss_cons (ps_asg (pe_bm0 PySem.F.plainAttrs_list PySem.F.slot_list_pop PySem.F.type_list_pop mt_pop (pv 3)) (pg_tup rfl (pgs_cons (pg_name (i := 4) scWalked.nd rfl (.inl rfl)) (pgs_cons (pg_name (i := 5) scWalked.nd rfl (.inl rfl)) pgs_nil))))
      (pss_cons (ps_expr (pe_bm PySem.F.plainAttrs_list PySem.F.slot_list_append PySem.F.type_list_append mt_append (pv 2) (pa_cons (pe_tup (pa_cons (pe_tup (pa_cons (pv 0) (pa_cons (pv 4) pa_nil))) (pa_cons (pv 5) pa_nil))) pa_nil)))
      (pss_cons (ps_set (i := 6) scWalked.nd rfl (.inl rfl) (pe_call GI (hr.mono (by decide)) rfl gI kI bI .nil pass0 (pa_cons (pv 5) pa_nil)))
      (pss_one (ps_for PassesOwn.never rfl (pi_range3 (by rfl) gRa (pa_cons (pe_op op_sub (pe_callB call_len (by rfl) gLen PySem.boot_len (pa_cons (pv 6) pa_nil)) pe_int) (pa_cons (pe_un un_neg pe_int) (pa_cons (pe_un un_neg pe_int) pa_nil)))) (pg_name (i := 7) scWalked.nd rfl (.inl rfl)) (pss_one (ps_expr (pe_bm PySem.F.plainAttrs_list PySem.F.slot_list_append PySem.F.type_list_append mt_append (pv 3) (pa_cons (pe_tup (pa_cons (pe_op op_catA (pv 4) (pe_tup (pa_cons (pv 7) pa_nil))) (pa_cons (pe_ix ix_list (pv 6) (pv 7) (fun _ _ => rfl)) pa_nil))) pa_nil))))))))))
      (pss_one (ps_ret (pv 2)))))), ?_⟩
  have zz : 2000 ≤ sizeLine := by decide
  refine ⟨Nat.zero_le _, fun f nf => ⟨Nat.zero_le _, fun p0 np0 => ⟨_, rfl, by show 2 ≤ sizeLine; decide, fun t0 nt0 => ⟨by show 1 ≤ sizeLine; decide, fun w nw => ?_⟩⟩⟩⟩
  have J0 : Lst H (upd H f (.lst [])) f [] := ⟨Same.new nf, nf, upd_same⟩
  obtain ⟨J1, g1⟩ := J0.grow (.tup []) np0
  obtain ⟨J2, g2⟩ := J1.grow (.tup [.ref p0, v]) nt0
  have J3 := J2.two (ws := [.ref t0]) nw
  refine ⟨fun m σ H' => ∃ (G2 : Hp) (fs ws : List V) (its : List (List Int × PyData)) (ns : List Nat) (v4 v5 v6 v7 : Option V), σ = [some (.str z), some v, some (.ref f), some (.ref w), v4, v5, v6, v7] ∧ Same H G2 ∧ Two G2 H' f w fs ws ∧ DpAll K G2 ws (its.map itD) ∧ All2 Sz (its.map (·.2)) ns ∧ ns.sum = m ∧ fs.length + m = c ∧ ∀ it ∈ its, it.1.length ≤ fs.length,
    ⟨c, _, [], [.ref t0], [([], e)], [c], none, none, none, none, rfl, g1.trans g2, J3, .cons (.tup (SqT.of upd_same) (.cons (.tup (SqT.of (g2 _ _ upd_same)) .nil) (.cons (Dp.same (g1.trans g2) _ _ hv) .nil))) .nil, .cons hz .nil, by simp, by simp, fun it hit => by rw [List.mem_singleton.mp hit]; exact Nat.le_refl _⟩, ?_⟩
  clear J0 J1 J2 J3 g1 g2
  rintro m σ H' ⟨G2, fs, ws, its, ns, v4, v5, v6, v7, rfl, sG, J, hd, hns, hm, hc2, hpl⟩
  refine ⟨_, rfl, Nat.zero_le _, fun r2 nr2 => ⟨w, r2, ws, rfl, rfl, SqL.of ((Same.new nr2) _ _ J.aw), SqL.of upd_same, _, rfl, ?_⟩⟩
  obtain ⟨J1, g1⟩ := J.grow (.lst []) nr2
  rcases List.eq_nil_or_concat its with rfl | ⟨its', it, rfl⟩
  · cases hd
    have e0 : ns = [] := List.length_eq_zero_iff.mp hns.1.symm
    subst e0
    replace hm : 0 = m := hm
    refine iteF ⟨_, rfl, q _ f fs (sG.trans (g1.trans J1.same)) J1.af (by omega)⟩
  rw [List.concat_eq_append] at *
  rw [List.map_append] at hd hns
  obtain ⟨ws', x, rfl, hd', hx⟩ := dp_snoc hd
  obtain ⟨ns', n, rfl, hns', hn⟩ := all_snoc hns
  have eE : (ws' ++ [x]).isEmpty = false := by cases ws' <;> rfl
  rw [eE]
  refine iteT ⟨_, fun _ _ q => q, ?_⟩
  rw [List.sum_append] at hm
  replace hm : ns'.sum + (n + 0) = m := hm
  obtain ⟨pth, part⟩ := it
  obtain ⟨tx, wx, rfl, hTx, hAx⟩ := tup_open hx
  obtain ⟨y1, wx, rfl, hy1, hAx⟩ := all_open hAx
  obtain ⟨y2, wx, rfl, hy2, hAx⟩ := all_open hAx
  obtain rfl := nil_open hAx
  obtain ⟨pa, wpa, rfl, hTp, hAp⟩ := tup_open hy1
  have hlast : (ws' ++ [V.ref tx])[(ws' ++ [V.ref tx]).length - 1]? = some (.ref tx) := by simp
  have J2 := J1.putW ((ws' ++ [V.ref tx]).dropLast)
  have hdl : DpAll K G2 ((ws' ++ [V.ref tx]).dropLast) (its'.map itD) := by rw [List.dropLast_concat]; exact hd'
  have ldl : ((ws' ++ [V.ref tx]).dropLast).length = its'.length := by rw [DpAll.len hdl, List.length_map]
  have lns : its'.length ≤ ns'.sum := by
    have := all_len hns'
    rw [List.length_map] at this
    exact this
  have pl1 : pth.length ≤ fs.length := hpl (pth, part) (List.mem_append.mpr (.inr (List.mem_cons_self ..)))
  have hpl' : ∀ it ∈ its', it.1.length ≤ fs.length := fun it hit => hpl it (List.mem_append.mpr (.inl hit))
  have lpa : wpa.length = pth.length := by rw [DpAll.len hAp, List.length_map]
  refine ⟨_, rfl, .inl ⟨rfl, _, SqL.of J1.aw⟩, w, _, _, rfl, rfl, J1.aw, hlast, ?_⟩
  refine ⟨tx, _, rfl, Same.seqT (g1.trans J2.same) hTx, rfl, _, _, rfl, _, _, rfl, rfl, ?_⟩
  generalize (ws' ++ [V.ref tx]).dropLast = wd at *
  clear hd hns hx hpl
  refine ⟨_, rfl, .inl ⟨rfl, _, SqL.of J2.af⟩, _, rfl, _, rfl, by show 2 ≤ sizeLine; decide, fun t1 nt1 => ⟨_, rfl, by show 2 ≤ sizeLine; decide, fun t2 nt2 => ?_⟩⟩
  obtain ⟨J3, g3⟩ := J2.grow (.tup [.str z, .ref pa]) nt1
  obtain ⟨J4, g4⟩ := J3.grow (.tup [.ref t1, y2]) nt2
  refine ⟨f, _, _, rfl, rfl, J4.af, by omega, ?_⟩
  have J5 := J4.putF (fs ++ [.ref t2])
  have g14 := (g1.trans g3).trans g4
  cases hn with
  | @mk _ es c0 hi hs =>
  obtain ⟨ns0, h0, e0⟩ := hs.all
  have les := all_len h0
  have l0 := h0.1
  refine ⟨_, rfl, _, y2, part, es, rfl, J5.same, Dp.same g14 _ _ hy2, hi, by omega, fun H5 l zs s5 nl hl hz => ?_⟩
  have J6 := J5.wide s5
  have lw : l ≠ w := fun k => by rw [k, J5.aw] at nl; cases nl
  have lz := DpAll.len hz
  have hTp' := Same.seqT g14 hTp
  have hAp' := DpAll.same g14 _ _ hAp
  have hdl' := DpAll.same g14 _ _ hdl
  have lfs : (fs ++ [V.ref t2]).length = fs.length + 1 := List.length_append
  have sG4 := sG.trans g14
  clear hTx hy1 hy2 hTp hAp hdl J1 J2 J3 J4 J5 g3 g4 g1
  generalize hG4 : upd (upd (upd G2 r2 (.lst [])) t1 (.tup [.str z, .ref pa])) t2 (.tup [.ref t1, y2]) = G4 at *
  clear g14 hG4
  have big : (2 : Int) ^ 62 = 4611686018427387904 := by decide
  refine ⟨_, rfl, _, _, rfl, .inl ⟨_, SqL.of hl, rfl⟩, _, _, rfl, rfl, _, rfl, _, rfl, _, _, _, _, rfl, RgC.neg (by omega) (by omega) (by omega) (by omega), for_rangeC (lo := (zs.length : Int) - 1) (c := -1) (fun i σ H' => ∃ (G5 : Hp) (ws5 : List V) (psh : List (List Int × PyData)) (ns5 : List Nat) (v7 : Option V), σ = [some (.str z), some v, some (.ref f), some (.ref w), some (.ref pa), some y2, some (.ref l), v7] ∧ Same G4 G5 ∧ Two G5 H' f w (fs ++ [.ref t2]) ws5 ∧ H' l = some (.lst zs) ∧ DpAll K G5 ws5 ((its' ++ psh).map itD) ∧ All2 Sz ((its' ++ psh).map (·.2)) (ns' ++ ns5) ∧ ns5.sum = (ns0.drop (ns0.length - i)).sum ∧ (∀ it ∈ psh, it.1.length ≤ fs.length + 1) ∧ psh.length ≤ i)
    ⟨G4, wd, [], [], v7, rfl, fun _ _ e => e, J6, hl, by rw [List.append_nil]; exact hdl', by rw [List.append_nil, List.append_nil]; exact hns', by rw [Nat.sub_zero, List.drop_length], (fun _ h => nomatch h), Nat.le_refl _⟩ ?_ ?_⟩
  · rintro i σ H' hi ⟨G5, ws5, psh, ns5, v7, rfl, sa, J, hl, hd5, hn5, hs5, hp5, hq5⟩
    have hi2 : i < zs.length := by omega
    have hj : zs.length - 1 - i < zs.length := by omega
    obtain ⟨ev, hev, dv⟩ := DpAll.get hz (List.getElem?_eq_getElem hj)
    obtain ⟨nn, hnn⟩ : ∃ nn, ns0[zs.length - 1 - i]? = some nn := ⟨ns0[zs.length - 1 - i]'(by omega), List.getElem?_eq_getElem _⟩
    have hsz := h0.2 _ _ _ hev hnn
    have esum : (ns0.drop (ns0.length - (i + 1))).sum = nn + ns5.sum := by
      have e1 : ns0.length - (i + 1) = zs.length - 1 - i := by omega
      have e2 : zs.length - 1 - i + 1 = ns0.length - i := by omega
      rw [e1, drop_get hnn, List.sum_cons, e2, hs5]
    have ek : ((zs.length : Int) - 1 + ((i : Nat) : Int) * (-1)) = ((zs.length - 1 - i : Nat) : Int) := by omega
    have hw5 : ws5.length ≤ 1000 := by
      have k1 := DpAll.len hd5
      have k2 := all_len hn5
      rw [List.length_map] at k1 k2
      have k3 : ns5.sum ≤ ns0.sum := by
        rw [hs5]
        exact drop_sum_le ns0 _
      rw [List.sum_append] at k2
      omega
    refine ⟨_, rfl, .inl ⟨rfl, _, SqL.of J.aw⟩, _, rfl, _, rfl, by show 1 ≤ sizeLine; decide, fun t3 nt3 => ?_⟩
    obtain ⟨J7, g7⟩ := J.grow (.tup [.int ((zs.length : Int) - 1 + ((i : Nat) : Int) * (-1))]) nt3
    have hl7 := (Same.new (o := .tup [.int ((zs.length : Int) - 1 + ((i : Nat) : Int) * (-1))]) nt3) _ _ hl
    by_cases hp0 : wpa = []
    · refine ⟨pa, t3, wpa, _, rfl, rfl, Same.seqT (sa.trans (g7.trans J7.same)) hTp', SqT.of upd_same, by show _ + 1 ≤ _; omega, fun _ => ?_, fun hh => absurd hp0 hh, fun hh => absurd hp0 hh⟩
      refine ⟨_, rfl, _, rfl, l, zs, _, _, rfl, rfl, SqL.of hl7, by rw [ek]; exact atI_nat (List.getElem?_eq_getElem hj), by show 2 ≤ sizeLine; decide, fun t5 nt5 => ?_⟩
      obtain ⟨J9, g9⟩ := J7.grow (.tup [.ref t3, zs[zs.length - 1 - i]]) nt5
      have sb := g7.trans g9
      refine ⟨w, _, _, rfl, rfl, J9.aw, by omega, ?_⟩
      refine ⟨_, ws5 ++ [.ref t5], psh ++ [([(zs.length : Int) - 1 + ((i : Nat) : Int) * (-1)], ev)], ns5 ++ [nn], _, rfl, sa.trans sb, J9.putW _, (upd_ne lw).trans ((Same.new nt5) _ _ hl7), ?_, ?_, ?_, fun it hit => ?_, ?_⟩
      · rw [← List.append_assoc, List.map_append]
        exact DpAll.app (DpAll.same sb _ _ hd5) (.cons (.tup (SqT.of upd_same) (.cons (Dp.same g9 _ _ (.tup (SqT.of upd_same) (.cons (.int _) .nil))) (.cons (Dp.same (sa.trans sb) _ _ dv) .nil))) .nil)
      · rw [← List.append_assoc, ← List.append_assoc, List.map_append]
        exact hn5.app (.cons hsz .nil)
      · rw [esum, List.sum_append]
        show _ + (nn + 0) = _
        omega
      · rcases List.mem_append.mp hit with h | h
        · exact hp5 it h
        · rw [List.mem_singleton.mp h]
          exact (by show 1 ≤ _; omega)
      · rw [List.length_append]
        show _ + 1 ≤ _
        omega
    · refine ⟨pa, t3, wpa, _, rfl, rfl, Same.seqT (sa.trans (g7.trans J7.same)) hTp', SqT.of upd_same, by show _ + 1 ≤ _; omega, fun hh => absurd hh hp0, (fun _ h => nomatch h), fun _ _ t4 nt4 => ?_⟩
      obtain ⟨J8, g8⟩ := J7.grow (.tup (wpa ++ [.int ((zs.length : Int) - 1 + ((i : Nat) : Int) * (-1))])) nt4
      have hl8 := (Same.new (o := .tup (wpa ++ [.int ((zs.length : Int) - 1 + ((i : Nat) : Int) * (-1))])) nt4) _ _ hl7
      refine ⟨_, rfl, _, rfl, l, zs, _, _, rfl, rfl, SqL.of hl8, by rw [ek]; exact atI_nat (List.getElem?_eq_getElem hj), by show 2 ≤ sizeLine; decide, fun t5 nt5 => ?_⟩
      obtain ⟨J9, g9⟩ := J8.grow (.tup [.ref t4, zs[zs.length - 1 - i]]) nt5
      have sb := (g7.trans g8).trans g9
      refine ⟨w, _, _, rfl, rfl, J9.aw, by omega, ?_⟩
      refine ⟨_, ws5 ++ [.ref t5], psh ++ [((pth ++ [(zs.length : Int) - 1 + ((i : Nat) : Int) * (-1)]), ev)], ns5 ++ [nn], _, rfl, sa.trans sb, J9.putW _, (upd_ne lw).trans ((Same.new nt5) _ _ hl8), ?_, ?_, ?_, fun it hit => ?_, ?_⟩
      · rw [← List.append_assoc, List.map_append]
        exact DpAll.app (DpAll.same sb _ _ hd5) (.cons (.tup (SqT.of upd_same) (.cons (Dp.same g9 _ _ (.tup (SqT.of upd_same) (by rw [List.map_append]; exact DpAll.app (DpAll.same (sa.trans (g7.trans g8)) _ _ hAp') (.cons (.int _) .nil)))) (.cons (Dp.same (sa.trans sb) _ _ dv) .nil))) .nil)
      · rw [← List.append_assoc, ← List.append_assoc, List.map_append]
        exact hn5.app (.cons hsz .nil)
      · rw [esum, List.sum_append]
        show _ + (nn + 0) = _
        omega
      · rcases List.mem_append.mp hit with h | h
        · exact hp5 it h
        · rw [List.mem_singleton.mp h]
          exact (by rw [List.length_append]; show _ + 1 ≤ _; omega)
      · rw [List.length_append]
        show _ + 1 ≤ _
        omega
  · rintro σ H' ⟨G5, ws5, psh, ns5, v7, rfl, sa, J, hl, hd5, hn5, hs5, hp5, hq5⟩
    have et : ((zs.length : Int) - 1 - (-1)).toNat = ns0.length := by omega
    rw [et, Nat.sub_self, List.drop_zero] at hs5
    refine ⟨ns'.sum + ns5.sum, by omega, G5, _, ws5, its' ++ psh, ns' ++ ns5, _, _, _, _, rfl, sG4.trans sa, J, hd5, hn5, by rw [List.sum_append], by omega, fun it hit => ?_⟩
    rcases List.mem_append.mp hit with h | h
    · have := hpl' it h
      omega
    · have := hp5 it h
      omega
end
end J45

set_option Elab.async false
set_option maxRecDepth 100000
/-! programs at the bounds -/
namespace J45
open PySem PySem.Spec PyProof.Rows L2 Hx Xr RN
def tn (c : Str) (k : Nat) : Str := c ++ (toString ((0 : Int) + (k : Int)) : String)
def wn (k j : Nat) : Str := ((("w" : Str) ++ (toString ((0 : Int) + (k : Int)) : String)) ++ ("x" : Str)) ++ (toString ((0 : Int) + (j : Int)) : String)
def digs (r : List Nat) : Nat := r.foldl (fun n c => 10 * n + (c - 48)) 0
/-- the number of a let's name -/
def idw (z : Str) : Nat := match z.cps.toList with
  | 119 :: r => 59 * digs (r.takeWhile fun c => !decide (c = 120)) + digs ((r.dropWhile fun c => !decide (c = 120)).drop 1) + 1
  | _ => 0
def mW (k : Nat) : Nat := if k = 22 then 19 else 59
theorem mW_le (k : Nat) : mW k ≤ 59 := by
  unfold mW
  split <;> decide
theorem wn_ok : ∀ k : Nat, k < 23 → ∀ j : Nat, j < 59 → (nameB (wn k j) && (decide ((wn k j).length ≤ 60) && decide (idw (wn k j) = 59 * k + j + 1))) = true := by decide +kernel
theorem wn_all {k j : Nat} (hk : k < 23) (hj : j < 59) : nameB (wn k j) = true ∧ (wn k j).length ≤ 60 ∧ idw (wn k j) = 59 * k + j + 1 := by
  have := wn_ok k hk j hj
  rw [Bool.and_eq_true, Bool.and_eq_true, decide_eq_true_eq, decide_eq_true_eq] at this
  exact this
def deedD : PyData := .tuple [.str "deed", .int 0, .str "plus", oneD, oneD]
def rows59 (k : Nat) : List (Str × PyData) := (List.range 59).map fun j => (wn k j, deedD)
def rowsW (k : Nat) : List (Str × PyData) := (List.range (mW k)).map fun j => (wn k j, deedD)
def letD (k : Nat) : PyData := .tuple [.str "let", .int 0, .tuple ((rowsW k).map fun b => .tuple [.str b.1, b.2]), oneD]
def wideT : List Top := (List.range 23).map (fun k => (tn "t" k, letD k)) ++ [(("last" : Str), oneD)]
def manyT (m : Nat) : List Top := (List.range m).map fun k => (tn "t" k, oneD)
def moreT : List Top := (List.range 2).map fun k => (tn "u" k, oneD)
def D0 : Str → Nat → Bool := fun _ _ => false
theorem rowsW_take (k : Nat) : rowsW k = (rows59 k).take (mW k) := by
  unfold rowsW rows59
  rw [← List.map_take, List.take_range, Nat.min_eq_left (mW_le k)]
/-! ### judged right -/
theorem oneD_jd {L : Nat} {S : Nm} : Jd 1 D0 L S oneD S 0 := .atom (.num (by decide) (by decide +kernel))
theorem JdL.app {n : Int} {D : Str → Nat → Bool} {L : Nat} : ∀ {es : List PyData} {S S1 S2 : Nm} {es' : List PyData} {c1 c2 : Nat}, JdL n D L S es S1 c1 → JdL n D L S1 es' S2 c2 → JdL n D L S (es ++ es') S2 (c1 + c2)
  | [], _, _, _, _, _, _, .nil, h => by rw [Nat.zero_add]; exact h
  | _ :: _, _, _, _, _, _, _, .cons h t, h2 => by
    rw [Nat.add_assoc]
    exact .cons h (JdL.app t h2)
theorem jd_rep {L : Nat} {S : Nm} {e : PyData} {c : Nat} (h : Jd 1 D0 L S e S c) : ∀ m : Nat, JdL 1 D0 L S (List.replicate m e) S (m * c)
  | 0 => by rw [Nat.zero_mul]; exact .nil
  | m + 1 => by
    rw [Nat.succ_mul, Nat.add_comm (m * c) c]
    exact .cons h (jd_rep h m)
theorem deed_jd {L : Nat} {S : Nm} : Jd 1 D0 (L + 1) S deedD S 2 := .deed (c1 := 0) (c2 := 0) (by decide) (by decide +kernel) oneD_jd oneD_jd
theorem rowsW_snd (k : Nat) : (rowsW k).map (·.2) = List.replicate (mW k) deedD := by
  unfold rowsW
  rw [List.map_map]
  show (List.range (mW k)).map (fun _ => deedD) = _
  rw [List.map_const', List.length_range]
theorem rowsW_fst (k : Nat) : (rowsW k).map (·.1) = (List.range (mW k)).map (wn k) := by
  unfold rowsW
  rw [List.map_map]
  rfl
theorem wn_nodup {k : Nat} (hk : k < 23) : ((List.range (mW k)).map (wn k)).Nodup := by
  refine List.pairwise_map.mpr (List.Pairwise.imp_of_mem (fun {a b} ha hb hab e => ?_) List.nodup_range)
  have h1 := (wn_all hk (Nat.lt_of_lt_of_le (List.mem_range.mp ha) (mW_le k))).2.2
  have h2 := (wn_all hk (Nat.lt_of_lt_of_le (List.mem_range.mp hb) (mW_le k))).2.2
  rw [e] at h1
  omega
theorem let_jd {L k : Nat} {S : Nm} (hk : k < 23) (hf : ∀ x, 59 * k < idw x → getN S x = none) : ∃ S', Jd 1 D0 (L + 2) S (letD k) S' (3 * mW k + 1) ∧ (∀ x, 59 * (k + 1) < idw x → getN S' x = none) ∧ S'.length ≤ S.length + 59 := by
  have hm := mW_le k
  have hmem : ∀ x ∈ (rowsW k).map (·.1), 59 * k < idw x ∧ idw x ≤ 59 * (k + 1) ∧ nameB x = true ∧ x.length ≤ 1000 := fun x hx => by
    rw [rowsW_fst] at hx
    obtain ⟨j, hj, rfl⟩ := List.mem_map.mp hx
    have hj2 := List.mem_range.mp hj
    obtain ⟨a, b, c⟩ := wn_all hk (Nat.lt_of_lt_of_le hj2 hm)
    exact ⟨by omega, by omega, a, by omega⟩
  have hpos : 0 < mW k := by
    unfold mW
    split <;> decide
  have lr : (rowsW k).length = mW k := by
    unfold rowsW
    rw [List.length_map, List.length_range]
  have hb : Bnd true S ((rowsW k).map (·.1)) (putAll S ((rowsW k).map (·.1)) true) := bnd_all (by rw [rowsW_fst]; exact wn_nodup hk) fun x hx => ⟨hf x (hmem x hx).1, (hmem x hx).2.2⟩
  have hj : JdL 1 D0 (L + 1) (putAll S ((rowsW k).map (·.1)) true) ((rowsW k).map (·.2) ++ [oneD]) (putAll S ((rowsW k).map (·.1)) true) (mW k * 2 + (0 + 0)) := by
    rw [rowsW_snd]
    exact (jd_rep deed_jd _).app (.cons oneD_jd .nil)
  have := Jd.lets (p := 0) (by decide) (fun z => by rw [z] at lr; exact absurd lr (by show ¬ (0 = mW k); omega)) (by omega) hb hj
  rw [lr, show mW k * 2 + (0 + 0) + mW k + 1 = 3 * mW k + 1 by omega] at this
  refine ⟨_, this, fun x hx => ?_, ?_⟩
  · have hn : x ∉ (rowsW k).map (·.1) := fun h => by have := (hmem x h).2.1; omega
    rw [getN_all, if_neg hn, getN_all, if_neg hn]
    exact hf x (by omega)
  · have g1 := putAll_le ((rowsW k).map (·.1)) S true
    have g2 : (putAll (putAll S ((rowsW k).map (·.1)) true) ((rowsW k).map (·.1)) false).length ≤ (putAll S ((rowsW k).map (·.1)) true).length := putAll_old fun x hx => by
      rw [getN_all, if_pos hx]
      rfl
    rw [List.length_map, lr] at g1
    omega
theorem lets_jd (S : Nm) (h0 : ∀ x, 0 < idw x → getN S x = none) : ∀ k, k ≤ 23 → ∃ S', JdL 1 D0 200 S ((List.range k).map letD) S' ((List.range k).map fun k => 3 * mW k + 1).sum ∧ (∀ x, 59 * k < idw x → getN S' x = none) ∧ S'.length ≤ S.length + 59 * k := by
  intro k
  induction k with
  | zero => exact fun _ => ⟨S, .nil, fun x hx => h0 x (by omega), by omega⟩
  | succ k ih =>
    intro hk
    obtain ⟨S1, a, b, c⟩ := ih (by omega)
    obtain ⟨S2, a2, b2, c2⟩ := let_jd (L := 198) (k := k) (by omega) b
    refine ⟨S2, ?_, b2, by omega⟩
    rw [List.range_succ, List.map_append, List.map_append, List.sum_append]
    exact a.app (.cons a2 .nil)
theorem sum_3974 : ((List.range 23).map fun k => 3 * mW k + 1).sum = 3974 := by decide +kernel
theorem wide_jd {names : List Str} {m : Nat} (hn : ∀ x ∈ names, idw x = 0) (hl : names.length ≤ 1000) : ∃ S', JdL 1 D0 200 (putAll [] names true) ((List.range 23).map letD ++ List.replicate m oneD) S' 3974 ∧ S'.length ≤ 16000000 := by
  obtain ⟨S', a, _, c⟩ := lets_jd (putAll [] names true) (fun x hx => by
    rw [getN_all, if_neg (fun h => by rw [hn x h] at hx; exact absurd hx (Nat.lt_irrefl _))]
    rfl) 23 (Nat.le_refl _)
  have := putAll_le names [] true
  have e0 : ([] : Nm).length = 0 := rfl
  refine ⟨S', ?_, by omega⟩
  rw [sum_3974] at a
  have := a.app (jd_rep oneD_jd m)
  rw [Nat.mul_zero] at this
  exact this
theorem many_jd (S : Nm) (m : Nat) : JdL 1 D0 200 S (List.replicate m oneD) S 0 := by
  have := jd_rep (L := 200) (S := S) oneD_jd m
  rw [Nat.mul_zero] at this
  exact this
theorem chain_jd {S : Nm} : ∀ (d L : Nat), d ≤ L → Jd 1 D0 L S (chain d) S d
  | 0, L, _ => oneD_jd
  | d + 1, L, h => by
    obtain ⟨L', rfl⟩ : ∃ L', L = L' + 1 := ⟨L - 1, by omega⟩
    exact .now (by decide) (by decide) (by decide +kernel) (by decide) (chain_jd d L' (by omega))
/-! ### their parts, counted -/
theorem oneD_sz : Sz oneD 1 := .mk .num .nil
theorem deed_sz : Sz deedD 3 := .mk (c := 2) .deed (.cons (c1 := 1) (c2 := 1) oneD_sz (.cons (c1 := 1) (c2 := 0) oneD_sz .nil))
theorem rep_sz : ∀ m : Nat, SzL (List.replicate m deedD ++ [oneD]) (3 * m + 1)
  | 0 => .cons (c1 := 1) (c2 := 0) oneD_sz .nil
  | m + 1 => by
    have := SzL.cons deed_sz (rep_sz m)
    rw [show 3 + (3 * m + 1) = 3 * (m + 1) + 1 by omega] at this
    exact this
theorem let_sz (k : Nat) : Sz (letD k) (3 * mW k + 2) := .mk (c := 3 * mW k + 1) .lets (by rw [rowsW_snd]; exact rep_sz _)
def szW : List Nat := ((List.range 23).map fun k => 3 * mW k + 2) ++ [1]
theorem wide_sz : All2 Sz (wideT.map (·.2)) szW := by
  unfold wideT szW
  rw [List.map_append, List.map_map]
  exact All2.app (All2.map _ fun k _ => let_sz k) (.cons oneD_sz .nil)
theorem szW_sum : (szW.map fun n : Nat => (n : Int)).sum = 3998 := by decide +kernel
theorem szW_le : ∀ n ∈ szW, n ≤ 1000 := by decide +kernel
/-! ### their names -/
theorem tn_len : ∀ k : Nat, k < 61 → (tn "t" k).length ≤ 60 ∧ (tn "u" k).length ≤ 60 := by decide +kernel
theorem many_names (m : Nat) : (manyT m).map (fun b => some b.1) = (List.range m).map fun k => some (tn "t" k) := by
  unfold manyT
  rw [List.map_map]
  rfl
theorem many_snd (m : Nat) : (manyT m).map (·.2) = List.replicate m oneD := by
  unfold manyT
  rw [List.map_map]
  show (List.range m).map (fun _ => oneD) = _
  rw [List.map_const', List.length_range]
theorem many_first : firstF (btOf ((List.range 60).map fun k => some (tn "t" k))) = none ∧ firstF (btOf ((List.range 61).map fun k => some (tn "t" k))) = none := by decide +kernel
def wideN : List Str := (List.range 23).map (tn "t") ++ [("last" : Str)] ++ (List.range 2).map (tn "u")
theorem wide_fst : (wideT ++ moreT).map (·.1) = wideN := by
  unfold wideT moreT wideN
  rw [List.map_append, List.map_append, List.map_map, List.map_map]
  rfl
theorem wide_snd : (wideT ++ moreT).map (·.2) = (List.range 23).map letD ++ List.replicate 3 oneD := by
  unfold wideT moreT
  rw [List.map_append, List.map_append, List.map_map, List.map_map, List.append_assoc]
  rfl
theorem wide_first : firstF (btOf (wideN.map some)) = none ∧ firstF (btOf ((wideN ++ [("v" : Str)]).map some)) = none ∧ (∀ x ∈ wideN ++ [("v" : Str)], idw x = 0 ∧ x.length ≤ 60) ∧ wideN.length = 26 := by decide +kernel
end J45

set_option Elab.async false
set_option maxRecDepth 100000
/-! the law at the bounds -/
namespace J45
open PySem PySem.Spec PyProof.Rows L2 Hx Xr RN
abbrev sBounds : Stmt := top 70
section
variable {P : Program} {w : World} {K : PySem.W.Frag} {mg : Str → Option Value} {base : Heap}
/-- a program of one place, at t -/
structure PT (K : PySem.W.Frag) (H : Hp) (t a p1 dn tl : Addr) (wt : List V) (tops : List Top) : Prop where
  hT : H t = some (.tup [.ref a, .ref dn, .ref tl])
  ha : H a = some (.lst [.ref p1])
  hp : H p1 = some (.tup [.int 1, .int 1])
  hd : ∃ kvs, H dn = some (.dK kvs)
  htl : H tl = some (.lst wt)
  hB : DpAll K H wt (tops.map topD)
theorem PT.same {H H' : Hp} {t a p1 dn tl : Addr} {wt : List V} {tops : List Top} (h : PT K H t a p1 dn tl wt tops) (s : Same H H') : PT K H' t a p1 dn tl wt tops :=
  ⟨s _ _ h.hT, s _ _ h.ha, s _ _ h.hp, h.hd.imp fun _ e => s _ _ e, s _ _ h.htl, DpAll.same s _ _ h.hB⟩
def ProgD (K : PySem.W.Frag) (H : Hp) (t : Addr) (Q : VK) : Prop := ∃ v : V, [V.ref t] = [v] ∧ FrameAt K H v fun x H1 => (x ≠ .non ∧ Q x H1) ∨ (x = .non ∧ PartsAt K H1 v Q)
theorem PT.frame {H : Hp} {t a p1 dn tl : Addr} {wt : List V} {tops : List Top} {Q : VK} (h : PT K H t a p1 dn tl wt tops) (hl : ∀ x ∈ tops.map (·.1), x.length ≤ 1000) (hf : firstF (btOf (tops.map fun b => some b.1)) = none) (hn : tops.length ≤ 1000) (hq : ∀ H', Same H H' → PartsAt K H' (.ref t) Q) : ProgD K H t Q := by
  refine ⟨.ref t, rfl, ?_⟩
  obtain ⟨kvs, hd⟩ := h.hd
  have htop : All2 TopRow (tops.map topD) (tops.map fun b => some b.1) := All2.map _ fun b hb => .two (hl b.1 (List.mem_map.mpr ⟨b, hb, rfl⟩))
  refine .rows (ds := [.tuple [.int 1, .int 1]]) (bs := [true]) (rt := tops.map fun b => some b.1) (bt := btOf (tops.map fun b => some b.1)) rfl (SqT.of h.hT) ⟨_, .base (.dK hd), kit_ty (a := "dict") (b := "dict") (r := true) (by decide +kernel)⟩ h.ha h.htl (.cons (.tup (SqT.of h.hp) (.cons (.int _) (.cons (.int _) .nil))) .nil) rfl (fun i d b h1 h2 => ?_) h.hB htop.1 (btOf_len _).symm htop.2 (btOf_flag _) (by rw [List.length_map]; omega) ?_
  · rcases i with _ | i
    · cases h1
      cases h2
      exact RowOk.two (a := .int 1) (b := .int 1) rfl rfl
    · simp at h1
  · show toldF H "top" (firstF (btOf (tops.map fun b => some b.1))) _
    rw [hf]
    exact fun H' s => .inr ⟨rfl, hq H' s⟩
theorem PT.right {H : Hp} {t a p1 dn tl : Addr} {wt : List V} {tops : List Top} {Q : VK} {S' : Nm} {c : Nat} (h : PT K H t a p1 dn tl wt tops) (hl : ∀ x ∈ tops.map (·.1), x.length ≤ 1000) (hf : firstF (btOf (tops.map fun b => some b.1)) = none) (hn : tops.length ≤ 1000)
    (hj : JdL 1 D0 200 (putAll [] (tops.map (·.1)) true) (tops.map (·.2)) S' c) (hS : S'.length ≤ 16000000) (hq : if 4000 < (c : Int) + tops.length ∨ 60 < tops.length then ∀ H' x, Same H H' → H' x = some (.tup [.str "great"]) → Q (.ref x) H' else ∀ H', Same H H' → Q .non H') : ProgD K H t Q := by
  refine h.frame hl hf hn fun H' s => ?_
  have h' := h.same s
  refine .right rfl (SqT.of h'.hT) (SqL.of h'.ha) (topsAt_of h'.htl h'.hB) (by omega) (D := D0) ⟨by
    obtain ⟨kvs, e⟩ := h'.hd
    exact ⟨kvs, e, fun _ _ z => nomatch z⟩⟩ (S' := S') (c := c) hj hS ?_
  by_cases k : 4000 < (c : Int) + tops.length ∨ 60 < tops.length
  · rw [if_pos k] at hq ⊢
    exact fun H2 x s2 e => hq H2 x (s.trans s2) e
  · rw [if_neg k] at hq ⊢
    exact fun H2 s2 => hq H2 (s.trans s2)
theorem PT.deep {H : Hp} {t a p1 dn tl : Addr} {wt : List V} {Q : VK} (h : PT K H t a p1 dn tl wt [("t", chain 201)]) (hq : ∀ (H' : Hp) (x : V), Same H H' → Dp K H' x (.tuple [.str "part", .tuple [.str "t", .tuple (List.replicate 201 (.int 0))]]) → Q x H') : ProgD K H t Q := by
  refine h.frame (fun x hx => ?_) (by decide +kernel) (by show 1 ≤ 1000; decide) fun H' s => ?_
  · rw [List.mem_singleton.mp hx]
    decide
  · have h' := h.same s
    refine .bad rfl (SqT.of h'.hT) (SqL.of h'.ha) (topsAt_of h'.htl h'.hB) (by show 1 ≤ 16000000; decide) (.inr ⟨rfl, (show inP 1 0 = true by decide), fun H2 t1 t2 t3 s2 e1 e2 e3 => ?_⟩)
    refine hq H2 _ (s.trans s2) (.tup (SqT.of e1) (.cons (.str _) (.cons (.tup (SqT.of e2) (.cons (.str _) (.cons (.tup (SqT.of e3) ?_) .nil))) .nil)))
    have rep : ∀ m : Nat, DpAll K H2 (List.replicate m (.int 0)) (List.replicate m (.int 0)) := fun m => by
      induction m with
      | zero => exact .nil
      | succ m ih => exact .cons (.int 0) ih
    exact rep 201
def rLenK (K : PySem.W.Frag) : List V → Hp → VK → Prop := fun xs H Q => ∃ x n, xs = [x] ∧ LenV K x H n ∧ Q (.int (n : Nat)) H
theorem call_lenK {X : Cx} {K : PySem.W.Frag} (e : X.K = K) : CallR X (.builtin "len") (rLenK K) := by
  subst e
  exact call_len
theorem log_small {i : Nat} (h : i < 1000) : ((0 : Int) + (i : Int)).natAbs.log2 < 1920 := by
  have h2 : ((0 : Int) + (i : Int)).natAbs = i := by omega
  rw [h2]
  exact Nat.lt_of_le_of_lt (Nat.log2_le_self _) (by omega)
theorem tn_size {c : Str} {i : Nat} (h : (tn c i).length ≤ 60) : c.length + ((toString ((0 : Int) + (i : Int)) : String) : Str).length ≤ sizeLine := by
  unfold tn at h
  rw [str_app_len] at h
  exact Nat.le_trans h (by decide)
theorem wn_size {k j : Nat} (hk : k < 23) (hj : j < 59) : ("w" : Str).length + ((toString ((0 : Int) + (k : Int)) : String) : Str).length ≤ sizeLine ∧ (("w" : Str) ++ ((toString ((0 : Int) + (k : Int)) : String) : Str)).length + ("x" : Str).length ≤ sizeLine ∧ ((("w" : Str) ++ ((toString ((0 : Int) + (k : Int)) : String) : Str)) ++ ("x" : Str)).length + ((toString ((0 : Int) + (j : Int)) : String) : Str).length ≤ sizeLine := by
  have h := (wn_all hk hj).2.1
  unfold wn at h
  rw [str_app_len] at h
  have h2 := h
  rw [str_app_len] at h2
  have h3 := h2
  rw [str_app_len] at h3
  have zz : 60 ≤ sizeLine := by decide
  exact ⟨by omega, by omega, by omega⟩
theorem manyT_take : ((manyT 61).map topD).take 60 = (manyT 60).map topD := by
  unfold manyT
  rw [← List.map_take, ← List.map_take, List.take_range]
  rfl
theorem many_ok {m : Nat} (h : m ≤ 61) : ∀ x ∈ (manyT m).map (·.1), x.length ≤ 1000 := fun x hx => by
  unfold manyT at hx
  rw [List.map_map] at hx
  obtain ⟨k, hk, rfl⟩ := List.mem_map.mp hx
  have := (tn_len k (by have := List.mem_range.mp hk; omega)).1
  show (tn "t" k).length ≤ 1000
  omega
theorem many_len (m : Nat) : (manyT m).length = m := by
  unfold manyT
  rw [List.length_map, List.length_range]
theorem putAll_len (xs : List Str) (h : xs.length ≤ 1000) : (putAll [] xs true).length ≤ 16000000 := by
  have := putAll_le xs [] true
  have e0 : ([] : Nm).length = 0 := rfl
  omega
def b22 (k : Nat) : Int := 59 - 40 * (if decide (V.int ((0 : Int) + (k : Int)) = V.int 22) = true then (1 : Int) else 0)
theorem b22_eq (k : Nat) : b22 k = (mW k : Int) := by
  unfold b22 mW
  by_cases c : k = 22
  · subst c
    rfl
  · have e : decide (V.int ((0 : Int) + (k : Int)) = V.int 22) = false := decide_eq_false fun z => by
      injection z with z
      omega
    rw [e, if_neg c]
    rfl
theorem rows59_len (k : Nat) : (rows59 k).length = 59 := by
  unfold rows59
  rw [List.length_map, List.length_range]
theorem range59 (k : Nat) : ((List.range 59).map fun j => ((wn k j, deedD) : Str × PyData)) = rows59 k := rfl
theorem wide_len : wideT.length = 24 := by
  unfold wideT
  rw [List.length_append, List.length_map, List.length_range]
  rfl
theorem wide_ok : ∀ x ∈ (wideT ++ moreT).map (·.1), x.length ≤ 1000 := fun x hx => by
  rw [wide_fst] at hx
  have := (wide_first.2.2.1 x (List.mem_append.mpr (.inl hx))).2
  omega
theorem wideV_fst : (wideT ++ moreT ++ [((("v" : Str), oneD) : Top)]).map (·.1) = wideN ++ [("v" : Str)] := by
  rw [List.map_append, wide_fst]
  rfl
theorem wideV_snd : (wideT ++ moreT ++ [((("v" : Str), oneD) : Top)]).map (·.2) = (List.range 23).map letD ++ List.replicate 4 oneD := by
  rw [List.map_append, wide_snd, List.append_assoc]
  rfl
theorem wideV_ok : ∀ x ∈ (wideT ++ moreT ++ [((("v" : Str), oneD) : Top)]).map (·.1), x.length ≤ 1000 := fun x hx => by
  rw [wideV_fst] at hx
  have := (wide_first.2.2.1 x hx).2
  omega
theorem some_fst (tops : List Top) : (tops.map fun b => some b.1) = (tops.map (·.1)).map some := by
  rw [List.map_map]
  rfl
theorem scBounds : FnScope ["_law_truth", "_law_data", "_law_small", "_law_many", "_law_k", "_law_wide", "_law_rows", "_law_j", "_law_parts", "_law_x", "_law_e", "_law_more", "_law_deep"] [] (defScope sBounds) := ⟨rfl, rfl, rfl, by decide +kernel, rfl, by decide +kernel, by decide +kernel⟩
def spBounds : Sp := fun vs H Q _ => vs = [] ∧ ∀ H', Same H H' → Q (.bl true) H'
set_option maxHeartbeats 16000000 in
theorem ok_bounds {f fP fW : Addr} {fd fdP fdW : FuncData} (F : Fun K "_law_bounds_right" "_law_bounds_right" sBounds f fd) (gRa : mg "range" = none) (gStr : mg "str" = none) (gInt : mg "int" = none) (gTu : mg "tuple" = none) (gLen : mg "len" = none) (gSum : mg "sum" = none)
    (GP : FnOk P w K mg base CX0 150 fP fdP ["thing"] (spProg K)) (kP : PySem.W.keepIn K (.ref fP) = true) (bP : Binds K fdP ["thing"] []) (gP : mg "program_wrong" = some (.ref fP))
    (GW : FnOk P w K mg base CX0 2 fW fdW ["_law_x", "_law_e"] (spWalk K)) (kW : PySem.W.keepIn K (.ref fW) = true) (bW : Binds K fdW ["_law_x", "_law_e"] []) (gW : mg "_law_walked" = some (.ref fW)) :
    FnOk P w K mg base CX0 151 f fd [] spBounds := by
  refine F.ok scBounds (fun vs H Q E h => ?_) (fun cdv A outer st H vs Q E hr h => ?_)
  · obtain ⟨rfl, _⟩ := h
    rfl
  obtain ⟨rfl, q⟩ := h
  have hu := ru1 hr
  have hu65 := ru64 hr
  refine ⟨_, (pss_cons (ps_set (i := 0) scBounds.nd rfl (.inl rfl) (pe_tup (pa_cons (pe_tup (pa_cons pe_str (pa_cons pe_int pa_nil))) (pa_cons (pe_tup (pa_cons pe_str (pa_cons pe_int pa_nil))) pa_nil))))
      (pss_cons (ps_set (i := 1) scBounds.nd rfl (.inl rfl) (pe_disp (pps_cons pe_str (pv 0) (pps_cons pe_str (pv 0) pps_nil)) (by rfl) (by rfl) (fun z => by cases z) (by decide)))
      (pss_cons (ps_set (i := 2) scBounds.nd rfl (.inr rfl) (pe_tup (pa_cons pe_str (pa_cons pe_int (pa_cons pe_int pa_nil)))))
      (pss_cons (ps_setLc (i := 3) (own := [("_law_k", 4)]) (g := gName 4) (tt := tYes) rfl scBounds.nd rfl rfl (sw_true rfl rfl rfl (by decide +kernel)) (pi_range1 (by rfl) gRa (pa_cons pe_int pa_nil)) (blkOk_by (own := [("_law_k", 4)]) (N := ["_law_truth", "_law_data", "_law_small", "_law_many", "_law_k", "_law_wide", "_law_rows", "_law_j", "_law_parts", "_law_x", "_law_e", "_law_more", "_law_deep"]) (sc := defScope sBounds) (by decide +kernel)) (fun _ _ _ _ _ => (pg_name (i := 4) scBounds.nd rfl (.inl rfl))) (fun _ _ _ _ _ => pts_nil) (fun _ _ _ _ _ => (pe_tup (pa_cons (pe_op op_add_str pe_str (pe_callTy call_str_int (by rfl) gStr (by decide +kernel) (pa_cons (pv 4) pa_nil))) (pa_cons (pv 2) pa_nil)))))
      (pss_cons (ps_if (pt_cmpR op_notN (pe_call GP (hr.mono (by decide)) rfl gP kP bP .nil pass0 (pa_cons (pe_tup (pa_cons (pe_lst (pa_cons (pe_tup (pa_cons pe_int (pa_cons pe_int pa_nil))) pa_nil)) (pa_cons (pv 1) (pa_cons (pe_slice sl_list (pv 3) po_none (po_some pe_int)) pa_nil)))) pa_nil)) pe_non (nomark _)) (pss_one (ps_ret pe_bl)) pss_nil)
      (pss_cons (ps_if (pt_cmpR (op_neD hu65) (pe_call GP (hr.mono (by decide)) rfl gP kP bP .nil pass0 (pa_cons (pe_tup (pa_cons (pe_lst (pa_cons (pe_tup (pa_cons pe_int (pa_cons pe_int pa_nil))) pa_nil)) (pa_cons (pv 1) (pa_cons (pv 3) pa_nil)))) pa_nil)) (pe_tup (pa_cons pe_str pa_nil)) (nomark _)) (pss_one (ps_ret pe_bl)) pss_nil)
      (pss_cons (ps_set (i := 5) scBounds.nd rfl (.inl rfl) (pe_lst pa_nil))
      (pss_cons (ps_for PassesOwn.never rfl (pi_range1 (by rfl) gRa (pa_cons pe_int pa_nil)) (pg_name (i := 4) scBounds.nd rfl (.inr rfl)) (pss_cons (ps_set (i := 6) scBounds.nd rfl (.inl rfl) (pe_callTy call_tuple_of (by rfl) gTu (by decide +kernel) (pa_cons (pe_lc (own := [("_law_j", 7)]) (g := gName 7) (tt := tYes) rfl scBounds.nd (pi_range1 (by rfl) gRa (pa_cons pe_int pa_nil)) (blkOk_by (own := [("_law_j", 7)]) (N := ["_law_truth", "_law_data", "_law_small", "_law_many", "_law_k", "_law_wide", "_law_rows", "_law_j", "_law_parts", "_law_x", "_law_e", "_law_more", "_law_deep"]) (sc := defScope sBounds) (by decide +kernel)) (fun _ _ _ _ _ => (pg_name (i := 7) scBounds.nd rfl (.inl rfl))) (fun _ _ _ _ _ => pts_nil) (fun _ _ _ _ _ => (pe_tup (pa_cons (pe_op op_add_str (pe_op op_add_str (pe_op op_add_str pe_str (pe_callTy call_str_int (by rfl) gStr (by decide +kernel) (pa_cons (pv 4) pa_nil))) pe_str) (pe_callTy call_str_int (by rfl) gStr (by decide +kernel) (pa_cons (pv 7) pa_nil))) (pa_cons (pe_tup (pa_cons pe_str (pa_cons pe_int (pa_cons pe_str (pa_cons (pv 2) (pa_cons (pv 2) pa_nil)))))) pa_nil))))) pa_nil)))
      (pss_one (ps_expr (pe_bm PySem.F.plainAttrs_list PySem.F.slot_list_append PySem.F.type_list_append mt_append (pv 5) (pa_cons (pe_tup (pa_cons (pe_op op_add_str pe_str (pe_callTy call_str_int (by rfl) gStr (by decide +kernel) (pa_cons (pv 4) pa_nil))) (pa_cons (pe_tup (pa_cons pe_str (pa_cons pe_int (pa_cons (pe_slice sl_tupA (pv 6) po_none (po_some (pe_op op_sub pe_int (pe_op op_mul pe_int (pe_callTy call_int1 (by rfl) gInt (by decide +kernel) (pa_cons (pe_cmpR op_eq (pv 4) pe_int (nomark _)) pa_nil)))))) (pa_cons (pv 2) pa_nil))))) pa_nil))) pa_nil))))))
      (pss_cons (ps_expr (pe_bm PySem.F.plainAttrs_list PySem.F.slot_list_append PySem.F.type_list_append mt_append (pv 5) (pa_cons (pe_tup (pa_cons pe_str (pa_cons (pv 2) pa_nil))) pa_nil)))
      (pss_cons (ps_set (i := 8) scBounds.nd rfl (.inl rfl) (pe_callB (cr_sum rfl) (by rfl) gSum (by decide +kernel) (pa_cons (pe_lc (own := [("_law_x", 9), ("_law_e", 10)]) (g := gTup K 2 (gCons (gName 9) (gCons (gName 10) gNil))) (tt := tYes) rfl scBounds.nd (pi_list (pv 5)) (blkOk_by (own := [("_law_x", 9), ("_law_e", 10)]) (N := ["_law_truth", "_law_data", "_law_small", "_law_many", "_law_k", "_law_wide", "_law_rows", "_law_j", "_law_parts", "_law_x", "_law_e", "_law_more", "_law_deep"]) (sc := defScope sBounds) (by decide +kernel)) (fun _ _ _ _ _ => (pg_tup rfl (pgs_cons (pg_name (i := 9) scBounds.nd rfl (.inl rfl)) (pgs_cons (pg_name (i := 10) scBounds.nd rfl (.inl rfl)) pgs_nil)))) (fun _ _ _ _ _ => pts_nil) (fun _ _ _ _ _ => (pe_callB (call_lenK (K := K) rfl) (by rfl) gLen PySem.boot_len (pa_cons (pe_call GW (hr.mono (by decide)) rfl gW kW bW .nil pass0 (pa_cons (pv 9) (pa_cons (pv 10) pa_nil))) pa_nil)))) pa_nil)))
      (pss_cons (ps_setLc (i := 11) (own := [("_law_k", 4)]) (g := gName 4) (tt := tYes) rfl scBounds.nd rfl rfl (sw_true rfl rfl rfl (by decide +kernel)) (pi_range1 (by rfl) gRa (pa_cons (pe_op op_sub pe_int (pv 8)) pa_nil)) (blkOk_by (own := [("_law_k", 4)]) (N := ["_law_truth", "_law_data", "_law_small", "_law_many", "_law_k", "_law_wide", "_law_rows", "_law_j", "_law_parts", "_law_x", "_law_e", "_law_more", "_law_deep"]) (sc := defScope sBounds) (by decide +kernel)) (fun _ _ _ _ _ => (pg_name (i := 4) scBounds.nd rfl (.inl rfl))) (fun _ _ _ _ _ => pts_nil) (fun _ _ _ _ _ => (pe_tup (pa_cons (pe_op op_add_str pe_str (pe_callTy call_str_int (by rfl) gStr (by decide +kernel) (pa_cons (pv 4) pa_nil))) (pa_cons (pv 2) pa_nil)))))
      (pss_cons (ps_if (pt_cmpR op_notN (pe_call GP (hr.mono (by decide)) rfl gP kP bP .nil pass0 (pa_cons (pe_tup (pa_cons (pe_lst (pa_cons (pe_tup (pa_cons pe_int (pa_cons pe_int pa_nil))) pa_nil)) (pa_cons (pv 1) (pa_cons (pe_op op_cat (pv 5) (pv 11)) pa_nil)))) pa_nil)) pe_non (nomark _)) (pss_one (ps_ret pe_bl)) pss_nil)
      (pss_cons (ps_if (pt_cmpR (op_neD hu65) (pe_call GP (hr.mono (by decide)) rfl gP kP bP .nil pass0 (pa_cons (pe_tup (pa_cons (pe_lst (pa_cons (pe_tup (pa_cons pe_int (pa_cons pe_int pa_nil))) pa_nil)) (pa_cons (pv 1) (pa_cons (pe_op op_cat (pe_op op_cat (pv 5) (pv 11)) (pe_lst (pa_cons (pe_tup (pa_cons pe_str (pa_cons (pv 2) pa_nil))) pa_nil))) pa_nil)))) pa_nil)) (pe_tup (pa_cons pe_str pa_nil)) (nomark _)) (pss_one (ps_ret pe_bl)) pss_nil)
      (pss_cons (ps_set (i := 12) scBounds.nd rfl (.inl rfl) (pv 2))
      (pss_cons (ps_for PassesOwn.never rfl (pi_range1 (by rfl) gRa (pa_cons pe_int pa_nil)) (pg_name (i := 4) scBounds.nd rfl (.inr rfl)) (pss_one (ps_set (i := 12) scBounds.nd rfl (.inl rfl) (pe_tup (pa_cons pe_str (pa_cons pe_int (pa_cons pe_int (pa_cons pe_str (pa_cons (pv 12) pa_nil)))))))))
      (pss_cons (ps_if (pt_cmpR op_notN (pe_call GP (hr.mono (by decide)) rfl gP kP bP .nil pass0 (pa_cons (pe_tup (pa_cons (pe_lst (pa_cons (pe_tup (pa_cons pe_int (pa_cons pe_int pa_nil))) pa_nil)) (pa_cons (pv 1) (pa_cons (pe_lst (pa_cons (pe_tup (pa_cons pe_str (pa_cons (pv 12) pa_nil))) pa_nil)) pa_nil)))) pa_nil)) pe_non (nomark _)) (pss_one (ps_ret pe_bl)) pss_nil)
      (pss_one (ps_ret (pe_cmpR (op_eqD hu65) (pe_call GP (hr.mono (by decide)) rfl gP kP bP .nil pass0 (pa_cons (pe_tup (pa_cons (pe_lst (pa_cons (pe_tup (pa_cons pe_int (pa_cons pe_int pa_nil))) pa_nil)) (pa_cons (pv 1) (pa_cons (pe_lst (pa_cons (pe_tup (pa_cons pe_str (pa_cons (pe_tup (pa_cons pe_str (pa_cons pe_int (pa_cons pe_int (pa_cons pe_str (pa_cons (pv 12) pa_nil)))))) pa_nil))) pa_nil)) pa_nil)))) pa_nil)) (pe_tup (pa_cons pe_str (pa_cons (pe_tup (pa_cons pe_str (pa_cons (pe_op op_repX (pe_tup (pa_cons pe_int pa_nil)) pe_int) pa_nil))) pa_nil))) (nomark _)))))))))))))))))))), ?_⟩
  have zz : 10000 ≤ sizeLine := by decide
  refine ⟨by show 2 ≤ sizeLine; decide, fun a1 na1 => ⟨by show 2 ≤ sizeLine; decide, fun a2 na2 => ⟨by show 2 ≤ sizeLine; decide, fun tT ntT => ?_⟩⟩⟩
  intro dn ndn
  refine ⟨_, rfl, _, rfl, upd_same, [(.inr "False", .ref tT), (.inr "True", .ref tT)], rfl, (show 2 ≤ 15 by decide), ?_⟩
  refine ⟨by show 3 ≤ sizeLine; decide, fun sm nsm => ?_⟩
  have g1 := Same.new (o := .tup [.str "False", .int 0]) na1
  have g2 := Same.new (o := .tup [.str "True", .int 0]) na2
  have g3 := Same.new (o := .tup [.ref a1, .ref a2]) ntT
  have g4 := Same.upd (o := .dK (mergeK [] [((.inr "False" : Key), V.ref tT), (.inr "True", .ref tT)])) (Same.new (o := .dK []) ndn) ndn
  have g5 := Same.new (o := .tup [.str "num", .int 0, .int 1]) nsm
  obtain ⟨H0, eH0, s0, hdn, dsm⟩ : ∃ H0 : Hp, H0 = _ ∧ Same H H0 ∧ (∃ kvs, H0 dn = some (.dK kvs)) ∧ Dp K H0 (.ref sm) oneD := ⟨_, rfl, (((g1.trans g2).trans g3).trans g4).trans g5, ⟨_, g5 _ _ upd_same⟩, .tup (SqT.of upd_same) (.cons (.str _) (.cons (.int _) (.cons (.int _) .nil)))⟩
  rw [← eH0]
  clear g1 g2 g3 g4 g5 eH0 nsm ndn ntT na1 na2
  refine ⟨61, rfl, by decide, by decide, fun D1 nD1 => ?_⟩
  refine lc_it walk_range (fun i Hk => ∃ (Gk : Hp) (ws : List V), Lst Gk Hk D1 ws ∧ Same H0 Gk ∧ DpAll K Gk ws ((manyT i).map topD)) ⟨H0, [], ⟨Same.new nD1, nD1, upd_same⟩, fun _ _ e => e, .nil⟩ (fun _ _ _ _ => True.intro) ?_ ?_
  · rintro i y Hk H3 hi ⟨Gk, ws, J, s1, hd⟩ ⟨rfl, rfl⟩
    have hi61 : i < 61 := hi
    have lws := DpAll.len hd
    rw [List.length_map, many_len] at lws
    refine ⟨rfl, ?_⟩
    dsimp only [tYes]
    rw [if_pos rfl]
    refine ⟨_, rfl, _, rfl, log_small (by omega), _, _, rfl, rfl, tn_size (tn_len i hi61).1, _, rfl, by show 2 ≤ sizeLine; decide, fun t nt => ?_⟩
    obtain ⟨J1, g1⟩ := J.grow (.tup [.str (tn "t" i), .ref sm]) nt
    refine ⟨ws, J1.at_, by omega, _, ws ++ [.ref t], J1.put _, s1.trans g1, ?_⟩
    unfold manyT
    rw [List.range_succ, List.map_append, List.map_append]
    exact DpAll.app (DpAll.same g1 _ _ hd) (.cons (.tup (SqT.of upd_same) (.cons (.str _) (.cons (Dp.same (s1.trans g1) _ _ dsm) .nil))) .nil)
  rintro H1 ⟨Gk, wm, J, s1, hd⟩
  have hm := J.at_
  have hdm := DpAll.same J.same _ _ hd
  have s01 := s1.trans J.same
  clear hd J s1
  obtain ⟨kvs, hdn⟩ := hdn
  have lwm := DpAll.len hdm
  rw [List.length_map, many_len] at lwm
  have c60 : cutV wm none (some 60) = wm.take 60 := cut_take (k := 60) (by omega)
  have d60 : DpAll K H1 (cutV wm none (some 60)) ((manyT 60).map topD) := by
    rw [c60, ← manyT_take]
    exact dp_take 60 hdm
  refine ⟨by show 2 ≤ sizeLine; decide, fun p11 np11 => ⟨by show 1 ≤ sizeLine; decide, fun a1 na1 => ⟨_, rfl, _, rfl, 60, rfl, D1, wm, rfl, SqL.of (((Same.new np11).trans (Same.new na1)) _ _ hm), fun tl1 ntl1 => ⟨by show 3 ≤ sizeLine; decide, fun t1 nt1 => ?_⟩⟩⟩⟩
  have g1 := Same.new (o := .tup [.int 1, .int 1]) np11
  have g2 := Same.new (o := .lst [.ref p11]) na1
  have g3 := Same.new (o := .lst (cutV wm none (some 60))) ntl1
  have g4 := Same.new (o := .tup [.ref a1, .ref dn, .ref tl1]) nt1
  have gA := (g1.trans g2).trans (g3.trans g4)
  refine PT.right (tops := manyT 60) (S' := putAll [] ((manyT 60).map (·.1)) true) (c := 0) ⟨upd_same, (g3.trans g4) _ _ upd_same, ((g2.trans g3).trans g4) _ _ upd_same, ⟨kvs, (s01.trans gA) _ _ hdn⟩, g4 _ _ upd_same, DpAll.same gA _ _ d60⟩ (many_ok (by decide)) (by rw [many_names]; exact many_first.1) (by rw [many_len]; decide) (by rw [many_snd]; exact many_jd _ _) (putAll_len _ (by rw [List.length_map, many_len]; decide)) ?_
  rw [many_len, if_neg (by decide)]
  intro H2 s2
  refine ⟨rfl, false, rfl, iteF ?_⟩
  have s02 := s01.trans (gA.trans s2)
  replace hm := (gA.trans s2) _ _ hm
  replace hdm := DpAll.same (gA.trans s2) _ _ hdm
  clear gA g1 g2 g3 g4 s2 d60 c60
  refine ⟨by show 2 ≤ sizeLine; decide, fun p12 np12 => ⟨by show 1 ≤ sizeLine; decide, fun a2 na2 => ⟨_, rfl, _, rfl, by show 3 ≤ sizeLine; decide, fun t2 nt2 => ?_⟩⟩⟩
  have g1 := Same.new (o := .tup [.int 1, .int 1]) np12
  have g2 := Same.new (o := .lst [.ref p12]) na2
  have g4 := Same.new (o := .tup [.ref a2, .ref dn, .ref D1]) nt2
  have gA := (g1.trans g2).trans g4
  refine PT.right (tops := manyT 61) (S' := putAll [] ((manyT 61).map (·.1)) true) (c := 0) ⟨upd_same, g4 _ _ upd_same, (g2.trans g4) _ _ upd_same, ⟨kvs, (s02.trans gA) _ _ hdn⟩, gA _ _ hm, DpAll.same gA _ _ hdm⟩ (many_ok (by decide)) (by rw [many_names]; exact many_first.2) (by rw [many_len]; decide) (by rw [many_snd]; exact many_jd _ _) (putAll_len _ (by rw [List.length_map, many_len]; decide)) ?_
  rw [many_len, if_pos (by decide)]
  intro H3 x s3 hx
  refine ⟨by show 1 ≤ sizeLine; decide, fun gr ngr => ⟨.tuple [.str "great"], .tuple [.str "great"], .tup (SqT.of ((Same.new ngr) _ _ hx)) (.cons (.str _) .nil), .tup (SqT.of upd_same) (.cons (.str _) .nil), by decide +kernel, by decide +kernel, false, by decide +kernel, iteF ?_⟩⟩
  have s03 := s02.trans ((gA.trans s3).trans (Same.new (o := .tup [.str "great"]) ngr))
  clear gA g1 g2 g4 s3 hx hm hdm s02 s01
  refine ⟨Nat.zero_le _, fun wl nwl => ?_⟩
  obtain ⟨Hb, eHb, sb, hdnb, dsb, nwl'⟩ : ∃ Hb : Hp, Hb = _ ∧ Same H Hb ∧ Hb dn = some (.dK kvs) ∧ Dp K Hb (.ref sm) oneD ∧ Hb wl = none := ⟨_, rfl, s0.trans s03, s03 _ _ hdn, Dp.same s03 _ _ dsm, nwl⟩
  rw [← eHb]
  clear nwl s03 ngr eHb hdn dsm
  refine ⟨23, rfl, by decide, by decide, for_range (lo := 0) (n := 23) (fun i σ H' => ∃ (G2 : Hp) (ws : List V) (v4 v6 : Option V), σ = [some (.ref tT), some (.ref dn), some (.ref sm), some (.ref D1), v4, some (.ref wl), v6, none, none, none, none, none, none] ∧ Lst G2 H' wl ws ∧ Same Hb G2 ∧ DpAll K G2 ws (((List.range i).map fun k => ((tn "t" k, letD k) : Top)).map topD))
    ⟨Hb, [], none, none, rfl, ⟨Same.new nwl', nwl', upd_same⟩, fun _ _ e => e, .nil⟩ ?_ ?_⟩
  · rintro k σ H' hk ⟨G2, ws, v4, v6, rfl, J, s1, hd⟩
    have hk23 : k < 23 := hk
    refine ⟨59, rfl, by decide, by decide, fun D2 nD2 => ?_⟩
    have J2 := J.two (ws := []) nD2
    refine lc_it walk_range (fun i Hk => ∃ (G3 : Hp) (zs : List V), Two G3 Hk wl D2 ws zs ∧ Same G2 G3 ∧ DpAll K G3 zs (((List.range i).map fun j => ((wn k j, deedD) : Str × PyData)).map fun b => .tuple [.str b.1, b.2])) ⟨G2, [], J2, fun _ _ e => e, .nil⟩ (fun _ _ _ _ => True.intro) ?_ ?_
    · rintro j y Hk H3 hj ⟨G3, zs, J3, s3, hz⟩ ⟨rfl, rfl⟩
      have hj59 : j < 59 := hj
      have lzs := DpAll.len hz
      rw [List.length_map, List.length_map, List.length_range] at lzs
      obtain ⟨w1, w2, w3⟩ := wn_size hk23 hj59
      refine ⟨rfl, ?_⟩
      dsimp only [tYes]
      rw [if_pos rfl]
      refine ⟨_, rfl, _, rfl, log_small (by omega), _, _, rfl, rfl, w1, _, _, rfl, rfl, w2, _, rfl, _, rfl, log_small (by omega), _, _, rfl, rfl, w3, _, rfl, _, rfl, by show 5 ≤ sizeLine; decide, fun t1 nt1 => ⟨by show 2 ≤ sizeLine; decide, fun t2 nt2 => ?_⟩⟩
      obtain ⟨J4, g4⟩ := J3.grow (.tup [.str "deed", .int 0, .str "plus", .ref sm, .ref sm]) nt1
      obtain ⟨J5, g5⟩ := J4.grow (.tup [.str (wn k j), .ref t1]) nt2
      have ds1 := Dp.same (((s1.trans s3).trans g4).trans g5) _ _ dsb
      refine ⟨zs, J5.aw, by omega, _, zs ++ [.ref t2], J5.putW _, (s3.trans g4).trans g5, ?_⟩
      rw [List.range_succ, List.map_append, List.map_append]
      exact DpAll.app (DpAll.same (g4.trans g5) _ _ hz) (.cons (.tup (SqT.of upd_same) (.cons (.str _) (.cons (.tup (SqT.of (g5 _ _ upd_same)) (.cons (.str _) (.cons (.int _) (.cons (.str _) (.cons ds1 (.cons ds1 .nil)))))) .nil))) .nil)
    rintro Hk ⟨G3, zs, J3, s3, hz⟩
    replace hz : DpAll K G3 zs ((rows59 k).map fun b => .tuple [.str b.1, b.2]) := hz
    have lzs := DpAll.len hz
    rw [List.length_map, rows59_len] at lzs
    have hzW : DpAll K G3 (zs.take (mW k)) ((rowsW k).map fun b => .tuple [.str b.1, b.2]) := by
      rw [rowsW_take, List.map_take]
      exact dp_take _ hz
    have lws := DpAll.len hd
    rw [List.length_map, List.length_map, List.length_range] at lws
    have J4 : Lst G3 Hk wl ws := ⟨J3.same, J3.hf, J3.af⟩
    refine ⟨D2, _, rfl, .inl ⟨SqL.of J3.aw, fun tt ntt => ?_⟩⟩
    obtain ⟨J5, g5⟩ := J4.grow (.tup zs) ntt
    refine ⟨_, rfl, .inl ⟨rfl, _, SqL.of J5.at_⟩, _, rfl, _, rfl, log_small (by omega), _, _, rfl, rfl, tn_size (tn_len k (by omega)).1, ?_⟩
    refine ⟨_, rfl, _, rfl, rfl, .inr ⟨_, rfl, _, _, rfl, rfl, .inl ⟨by decide, by decide⟩, _, _, rfl, rfl, _, rfl, tt, zs, rfl, SqT.of upd_same, fun hw => ?_, fun hw tt2 ntt2 => ?_⟩⟩
    · replace hw : HT.sIx zs.length 0 none = 0 ∧ HT.sIx zs.length zs.length (some (b22 k)) = zs.length := hw
      rw [b22_eq, HT.sIx_nat, lzs] at hw
      have hm := mW_le k
      have e59 : mW k = 59 := by omega
      rw [List.take_of_length_le (by omega)] at hzW
      refine ⟨_, rfl, by show 4 ≤ sizeLine; decide, fun t3 nt3 => ⟨by show 2 ≤ sizeLine; decide, fun t4 nt4 => ?_⟩⟩
      obtain ⟨J6, g6⟩ := J5.grow (.tup [.str "let", .int 0, .ref tt, .ref sm]) nt3
      obtain ⟨J7, g7⟩ := J6.grow (.tup [.str (tn "t" k), .ref t3]) nt4
      have gZ := (g5.trans g6).trans g7
      refine ⟨wl, _, _, rfl, rfl, J7.at_, by omega, ?_⟩
      refine ⟨_, ws ++ [.ref t4], _, _, rfl, J7.put _, (s1.trans s3).trans gZ, ?_⟩
      rw [List.range_succ, List.map_append, List.map_append]
      refine DpAll.app (DpAll.same (s3.trans gZ) _ _ hd) (.cons (.tup (SqT.of upd_same) (.cons (.str _) (.cons (.tup (SqT.of (g7 _ _ upd_same)) (.cons (.str _) (.cons (.int _) (.cons (.tup (Same.seqT g7 (SqT.of (g6 _ _ upd_same))) (DpAll.same gZ _ _ hzW)) (.cons (Dp.same ((s1.trans s3).trans gZ) _ _ dsb) .nil))))) .nil))) .nil)
    · have ec : cutV zs none (some (b22 k)) = zs.take (mW k) := by
        rw [b22_eq]
        exact cut_take (by have := mW_le k; omega)
      obtain ⟨J5b, g5b⟩ := J5.grow (.tup (cutV zs none (some (b22 k)))) ntt2
      rw [← ec] at hzW
      refine ⟨_, rfl, by show 4 ≤ sizeLine; decide, fun t3 nt3 => ⟨by show 2 ≤ sizeLine; decide, fun t4 nt4 => ?_⟩⟩
      obtain ⟨J6, g6⟩ := J5b.grow (.tup [.str "let", .int 0, .ref tt2, .ref sm]) nt3
      obtain ⟨J7, g7⟩ := J6.grow (.tup [.str (tn "t" k), .ref t3]) nt4
      have gZ := ((g5.trans g5b).trans g6).trans g7
      refine ⟨wl, _, _, rfl, rfl, J7.at_, by omega, ?_⟩
      refine ⟨_, ws ++ [.ref t4], _, _, rfl, J7.put _, (s1.trans s3).trans gZ, ?_⟩
      rw [List.range_succ, List.map_append, List.map_append]
      refine DpAll.app (DpAll.same (s3.trans gZ) _ _ hd) (.cons (.tup (SqT.of upd_same) (.cons (.str _) (.cons (.tup (SqT.of (g7 _ _ upd_same)) (.cons (.str _) (.cons (.int _) (.cons (.tup (Same.seqT g7 (SqT.of (g6 _ _ upd_same))) (DpAll.same gZ _ _ hzW)) (.cons (Dp.same ((s1.trans s3).trans gZ) _ _ dsb) .nil))))) .nil))) .nil)
  rintro σ H4 ⟨G2, ws, v4, v6, rfl, J, s1, hd⟩
  have lws := DpAll.len hd
  rw [List.length_map, List.length_map, List.length_range] at lws
  refine ⟨_, rfl, .inl ⟨rfl, _, SqL.of J.at_⟩, _, rfl, by show 2 ≤ sizeLine; decide, fun t5 nt5 => ?_⟩
  obtain ⟨J1, g1⟩ := J.grow (.tup [.str "last", .ref sm]) nt5
  refine ⟨wl, _, _, rfl, rfl, J1.at_, by omega, ?_⟩
  have J2 := J1.put (ws ++ [.ref t5])
  have hd2 : DpAll K (upd G2 t5 (.tup [.str "last", .ref sm])) (ws ++ [.ref t5]) (wideT.map topD) := by
    unfold wideT
    rw [List.map_append]
    exact DpAll.app (DpAll.same g1 _ _ hd) (.cons (.tup (SqT.of upd_same) (.cons (.str _) (.cons (Dp.same (s1.trans g1) _ _ dsb) .nil))) .nil)
  obtain ⟨H5, eH5, s5, hw5, hd5⟩ : ∃ H5 : Hp, H5 = _ ∧ Same Hb H5 ∧ H5 wl = some (.lst (ws ++ [.ref t5])) ∧ DpAll K H5 (ws ++ [.ref t5]) (wideT.map topD) := ⟨_, rfl, (s1.trans g1).trans J2.same, J2.at_, DpAll.same J2.same _ _ hd2⟩
  rw [← eH5]
  clear eH5 J J1 J2 g1 s1 hd hd2 nt5
  have lw5 : (ws ++ [V.ref t5]).length = 24 := by
    have := DpAll.len hd5
    rw [List.length_map, wide_len] at this
    exact this
  generalize ws ++ [V.ref t5] = ww at *
  refine ⟨_, rfl, wl, rfl, ⟨_, SqL.of hw5⟩, fun D3 nD3 => ?_⟩
  refine lc_it walk_list (fun i Hk => Same H5 Hk ∧ Hk D3 = some (.lst ((szW.take i).map fun n : Nat => V.int (n : Int)))) ⟨Same.new nD3, upd_same⟩ (fun _ _ _ h => SqL.of (h.1 _ _ hw5)) ?_ ?_
  · rintro i x Hk H3 hi ⟨sk, hD⟩ ⟨rfl, hx⟩
    obtain ⟨d, hd, dk⟩ := DpAll.get hd5 hx
    rw [List.getElem?_map, Option.map_eq_some_iff] at hd
    obtain ⟨b, hb, rfl⟩ := hd
    have hi24 : i < 24 := by rw [← lw5]; exact (List.getElem?_eq_some_iff.mp hx).1
    obtain ⟨t2, w2, rfl, hT2, hA2⟩ := tup_open (Dp.same sk _ _ dk)
    obtain ⟨y1, w2, rfl, h1, hA2⟩ := all_open hA2
    obtain ⟨y2, w2, rfl, h2, hA2⟩ := all_open hA2
    obtain rfl := nil_open hA2
    cases h1
    obtain ⟨c, hc⟩ : ∃ c, szW[i]? = some c := by
      have : szW.length = 24 := by decide
      exact ⟨szW[i]'(by omega), List.getElem?_eq_getElem _⟩
    have hb2 : (wideT.map (·.2))[i]? = some b.2 := by rw [List.getElem?_map, hb]; rfl
    have hsz := wide_sz.2 i _ _ hb2 hc
    have hcl := szW_le c (List.mem_of_getElem? hc)
    refine ⟨t2, _, rfl, hT2, rfl, _, _, rfl, _, _, rfl, rfl, rfl, ?_⟩
    dsimp only [tYes]
    rw [if_pos rfl]
    refine ⟨_, rfl, _, rfl, b.1, y2, b.2, c, rfl, h2, hsz, hcl, fun H6 f fs s6 hf lf => ⟨.ref f, c, rfl, .inl ⟨fs, SqL.of hf, lf.symm⟩, _, s6 _ _ hD, ?_, ?_, ?_⟩⟩
    · rw [List.length_map, List.length_take]
      exact Nat.lt_of_le_of_lt (Nat.min_le_left _ _) (by omega)
    · exact Same.upd (sk.trans s6) nD3
    · rw [upd_same, List.take_add_one, hc, List.map_append]
      rfl
  rintro H6 ⟨s6, hD⟩
  have lsz : szW.length = 24 := by decide
  rw [lw5, List.take_of_length_le (by omega)] at hD
  refine ⟨D3, szW.map fun n : Nat => (n : Int), rfl, SqL.of (by rw [hD, List.map_map]; rfl), ?_⟩
  rw [szW_sum]
  refine ⟨_, rfl, _, _, rfl, rfl, 2, rfl, by decide, by decide, fun D4 nD4 => ?_⟩
  have hw6 := s6 _ _ hw5
  have hd6 := DpAll.same s6 _ _ hd5
  have sb6 := s5.trans s6
  have ds6 := Dp.same sb6 _ _ dsb
  clear hd5 hw5 hD
  refine lc_it walk_range (fun i Hk => ∃ (Gk : Hp) (us : List V), Lst Gk Hk D4 us ∧ Same H6 Gk ∧ DpAll K Gk us (((List.range i).map fun k => ((tn "u" k, oneD) : Top)).map topD)) ⟨H6, [], ⟨Same.new nD4, nD4, upd_same⟩, fun _ _ e => e, .nil⟩ (fun _ _ _ _ => True.intro) ?_ ?_
  · rintro i y Hk H3 hi ⟨Gk, us, J, s1, hd⟩ ⟨rfl, rfl⟩
    have hi2 : i < 2 := hi
    have lus := DpAll.len hd
    rw [List.length_map, List.length_map, List.length_range] at lus
    refine ⟨rfl, ?_⟩
    dsimp only [tYes]
    rw [if_pos rfl]
    refine ⟨_, rfl, _, rfl, log_small (by omega), _, _, rfl, rfl, tn_size (tn_len i (by omega)).2, _, rfl, by show 2 ≤ sizeLine; decide, fun t nt => ?_⟩
    obtain ⟨J1, g1⟩ := J.grow (.tup [.str (tn "u" i), .ref sm]) nt
    refine ⟨us, J1.at_, by omega, _, us ++ [.ref t], J1.put _, s1.trans g1, ?_⟩
    rw [List.range_succ, List.map_append, List.map_append]
    exact DpAll.app (DpAll.same g1 _ _ hd) (.cons (.tup (SqT.of upd_same) (.cons (.str _) (.cons (Dp.same (s1.trans g1) _ _ ds6) .nil))) .nil)
  rintro H7 ⟨Gk, us, J, s1, hd⟩
  replace hd : DpAll K Gk us (moreT.map topD) := hd
  have s67 := s1.trans J.same
  have hu7 := J.at_
  have hdu := DpAll.same J.same _ _ hd
  have hw7 := s67 _ _ hw6
  have hdw := DpAll.same s67 _ _ hd6
  have sb7 := sb6.trans s67
  have lus : us.length = 2 := by
    have := DpAll.len hd
    rw [List.length_map] at this
    exact this
  clear hd J s1 hw6 hd6 ds6 s6 sb6
  have dall := DpAll.app hdw hdu
  rw [← List.map_append] at dall
  have l26 : (wideT ++ moreT).length = 26 := by
    rw [List.length_append, wide_len]
    rfl
  obtain ⟨S1, j1, q1⟩ := wide_jd (names := wideN) (m := 3) (fun x hx => (wide_first.2.2.1 x (List.mem_append.mpr (.inl hx))).1) (by rw [wide_first.2.2.2]; decide)
  refine ⟨by show 2 ≤ sizeLine; decide, fun p13 np13 => ⟨by show 1 ≤ sizeLine; decide, fun a3 na3 => ⟨_, rfl, _, rfl, _, rfl, wl, D4, _, _, rfl, rfl, ((Same.new np13).trans (Same.new na3)) _ _ hw7, ((Same.new np13).trans (Same.new na3)) _ _ hu7, by omega, fun tl3 ntl3 => ⟨by show 3 ≤ sizeLine; decide, fun t3 nt3 => ?_⟩⟩⟩⟩
  have g1 := Same.new (o := .tup [.int 1, .int 1]) np13
  have g2 := Same.new (o := .lst [.ref p13]) na3
  have g3 := Same.new (o := .lst (ww ++ us)) ntl3
  have g4 := Same.new (o := .tup [.ref a3, .ref dn, .ref tl3]) nt3
  have gA := (g1.trans g2).trans (g3.trans g4)
  refine PT.right (tops := wideT ++ moreT) (S' := S1) (c := 3974) ⟨upd_same, (g3.trans g4) _ _ upd_same, ((g2.trans g3).trans g4) _ _ upd_same, ⟨kvs, (sb7.trans gA) _ _ hdnb⟩, g4 _ _ upd_same, DpAll.same gA _ _ dall⟩ wide_ok (by rw [some_fst, wide_fst]; exact wide_first.1) (by omega) (by rw [wide_fst, wide_snd]; exact j1) q1 ?_
  rw [l26, if_neg (by decide)]
  intro H8 s8
  refine ⟨rfl, false, rfl, iteF ?_⟩
  have s78 := gA.trans s8
  have sb8 := sb7.trans s78
  have hw8 := s78 _ _ hw7
  have hu8 := s78 _ _ hu7
  have dall8 := DpAll.same s78 _ _ dall
  have ds8 := Dp.same sb8 _ _ dsb
  clear gA g1 g2 g3 g4 s8 hw7 hu7 dall hdu hdw sb7 s78 j1 q1
  obtain ⟨S1, j1, q1⟩ := wide_jd (names := wideN ++ [("v" : Str)]) (m := 4) (fun x hx => (wide_first.2.2.1 x hx).1) (by rw [List.length_append, wide_first.2.2.2]; decide)
  refine ⟨by show 2 ≤ sizeLine; decide, fun p14 np14 => ⟨by show 1 ≤ sizeLine; decide, fun a4 na4 => ⟨_, rfl, _, rfl, _, rfl, wl, D4, _, _, rfl, rfl, ((Same.new np14).trans (Same.new na4)) _ _ hw8, ((Same.new np14).trans (Same.new na4)) _ _ hu8, by omega, fun c4 nc4 => ⟨_, rfl, by show 2 ≤ sizeLine; decide, fun v4t nv4 => ⟨by show 1 ≤ sizeLine; decide, fun l4 nl4 => ⟨c4, l4, _, _, rfl, rfl, ((Same.new nv4).trans (Same.new nl4)) _ _ upd_same, upd_same, by rw [List.length_append]; show _ + 1 ≤ _; omega, fun tl4 ntl4 => ⟨by show 3 ≤ sizeLine; decide, fun t4 nt4 => ?_⟩⟩⟩⟩⟩⟩⟩
  have g1 := Same.new (o := .tup [.int 1, .int 1]) np14
  have g2 := Same.new (o := .lst [.ref p14]) na4
  have g3 := Same.new (o := .lst (ww ++ us)) nc4
  have g4 := Same.new (o := .tup [.str "v", .ref sm]) nv4
  have g5 := Same.new (o := .lst [.ref v4t]) nl4
  have g6 := Same.new (o := .lst ((ww ++ us) ++ [.ref v4t])) ntl4
  have g7 := Same.new (o := .tup [.ref a4, .ref dn, .ref tl4]) nt4
  have g37 := (g3.trans g4).trans ((g5.trans g6).trans g7)
  have g13 := (g1.trans g2).trans (g3.trans g4)
  have g47 := (g5.trans g6).trans g7
  have gA := (g1.trans g2).trans g37
  have dv : Dp K _ (.ref v4t) (topD ("v", oneD)) := .tup (SqT.of (g47 _ _ upd_same)) (.cons (.str _) (.cons (Dp.same gA _ _ ds8) .nil))
  refine PT.right (tops := wideT ++ moreT ++ [((("v" : Str), oneD) : Top)]) (S' := S1) (c := 3974) ⟨upd_same, g37 _ _ upd_same, (g2.trans g37) _ _ upd_same, ⟨kvs, (sb8.trans gA) _ _ hdnb⟩, g7 _ _ upd_same, by rw [List.map_append (f := topD)]; exact DpAll.app (DpAll.same gA _ _ dall8) (.cons dv .nil)⟩ wideV_ok (by rw [some_fst, wideV_fst]; exact wide_first.2.1) (by rw [List.length_append, l26]; decide) (by rw [wideV_fst, wideV_snd]; exact j1) q1 ?_
  rw [List.length_append, l26, if_pos (by decide)]
  intro H9 x s9 hx
  refine ⟨by show 1 ≤ sizeLine; decide, fun gr ngr => ⟨.tuple [.str "great"], .tuple [.str "great"], .tup (SqT.of ((Same.new ngr) _ _ hx)) (.cons (.str _) .nil), .tup (SqT.of upd_same) (.cons (.str _) .nil), by decide +kernel, by decide +kernel, false, by decide +kernel, iteF ?_⟩⟩
  have sg := Same.new (o := .tup [.str "great"]) ngr
  obtain ⟨Hd, eHd, sd, hdd, dsd⟩ : ∃ Hd : Hp, Hd = _ ∧ Same H Hd ∧ Hd dn = some (.dK kvs) ∧ Dp K Hd (.ref sm) oneD := ⟨_, rfl, sb.trans (((sb8.trans gA).trans s9).trans sg), ((sb8.trans gA).trans (s9.trans sg)) _ _ hdnb, Dp.same ((gA.trans s9).trans sg) _ _ ds8⟩
  rw [← eHd]
  clear eHd ngr sg hx s9 dv gA g47 g13 g37 g1 g2 g3 g4 g5 g6 g7 dall8 hw8 hu8 ds8 sb8 j1 q1
  refine ⟨_, rfl, ?_⟩
  refine ⟨200, rfl, by decide, by decide, for_range (lo := 0) (n := 200) (fun i σ H' => ∃ (v4 v6 : Option V) (v12 : V), σ = [some (.ref tT), some (.ref dn), some (.ref sm), some (.ref D1), v4, some (.ref wl), v6, none, some (.int 3998), none, none, some (.ref D4), some v12] ∧ Same Hd H' ∧ Dp K H' v12 (chain i))
    ⟨_, _, _, rfl, fun _ _ e => e, dsd⟩ ?_ ?_⟩
  · rintro i σ H' hi ⟨v4, v6, v12, rfl, s1, hd⟩
    refine ⟨_, rfl, by show 5 ≤ sizeLine; decide, fun t nt => ?_⟩
    have g1 := Same.new (o := .tup [.str "now", .int 0, .int 0, .str "x", v12]) nt
    exact ⟨_, _, _, rfl, s1.trans g1, .tup (SqT.of upd_same) (.cons (.str _) (.cons (.int _) (.cons (.int _) (.cons (.str _) (.cons (Dp.same g1 _ _ hd) .nil)))))⟩
  rintro σ He ⟨v4, v6, v12, rfl, s1, hd⟩
  replace hd : Dp K He v12 (chain 200) := hd
  replace hdd := s1 _ _ hdd
  replace sd := sd.trans s1
  clear s1
  refine ⟨by show 2 ≤ sizeLine; decide, fun p15 np15 => ⟨by show 1 ≤ sizeLine; decide, fun a5 na5 => ⟨_, rfl, _, rfl, by show 2 ≤ sizeLine; decide, fun e5 ne5 => ⟨by show 1 ≤ sizeLine; decide, fun tl5 ntl5 => ⟨by show 3 ≤ sizeLine; decide, fun t5 nt5 => ?_⟩⟩⟩⟩⟩
  have g1 := Same.new (o := .tup [.int 1, .int 1]) np15
  have g2 := Same.new (o := .lst [.ref p15]) na5
  have g3 := Same.new (o := .tup [.str "t", v12]) ne5
  have g4 := Same.new (o := .lst [.ref e5]) ntl5
  have g5 := Same.new (o := .tup [.ref a5, .ref dn, .ref tl5]) nt5
  have g35 := g3.trans (g4.trans g5)
  have gA := (g1.trans g2).trans g35
  refine PT.right (tops := [("t", chain 200)]) (S' := putAll [] [("t" : Str)] true) (c := 200) ⟨upd_same, g35 _ _ upd_same, (g2.trans g35) _ _ upd_same, ⟨kvs, gA _ _ hdd⟩, g5 _ _ upd_same, .cons (.tup (SqT.of ((g4.trans g5) _ _ upd_same)) (.cons (.str _) (.cons (Dp.same gA _ _ hd) .nil))) .nil⟩ (fun x hx => by rw [List.mem_singleton.mp hx]; decide) (by decide +kernel) (by show 1 ≤ 1000; decide) (.cons (c2 := 0) (chain_jd 200 200 (Nat.le_refl _)) .nil) (putAll_len _ (by decide)) ?_
  rw [if_neg (by show ¬ (4000 < ((200 : Nat) : Int) + ((1 : Nat) : Int) ∨ 60 < 1); decide)]
  intro Hf sf
  refine ⟨rfl, false, rfl, iteF ?_⟩
  have sAf := gA.trans sf
  replace hd := Dp.same sAf _ _ hd
  replace hdd := sAf _ _ hdd
  replace sd := sd.trans sAf
  clear sAf gA g35 g1 g2 g3 g4 g5 sf
  refine ⟨by show 2 ≤ sizeLine; decide, fun p16 np16 => ⟨by show 1 ≤ sizeLine; decide, fun a6 na6 => ⟨_, rfl, _, rfl, by show 5 ≤ sizeLine; decide, fun n6 nn6 => ⟨by show 2 ≤ sizeLine; decide, fun e6 ne6 => ⟨by show 1 ≤ sizeLine; decide, fun tl6 ntl6 => ⟨by show 3 ≤ sizeLine; decide, fun t6 nt6 => ?_⟩⟩⟩⟩⟩⟩
  have g1 := Same.new (o := .tup [.int 1, .int 1]) np16
  have g2 := Same.new (o := .lst [.ref p16]) na6
  have g3 := Same.new (o := .tup [.str "now", .int 0, .int 0, .str "x", v12]) nn6
  have g4 := Same.new (o := .tup [.str "t", .ref n6]) ne6
  have g5 := Same.new (o := .lst [.ref e6]) ntl6
  have g6 := Same.new (o := .tup [.ref a6, .ref dn, .ref tl6]) nt6
  have g46 := g4.trans (g5.trans g6)
  have g36 := g3.trans g46
  have gA := (g1.trans g2).trans g36
  refine PT.deep ⟨upd_same, g36 _ _ upd_same, (g2.trans g36) _ _ upd_same, ⟨kvs, gA _ _ hdd⟩, g6 _ _ upd_same, .cons (.tup (SqT.of ((g5.trans g6) _ _ upd_same)) (.cons (.str _) (.cons (.tup (SqT.of (g46 _ _ upd_same)) (.cons (.str _) (.cons (.int _) (.cons (.int _) (.cons (.str _) (.cons (Dp.same gA _ _ hd) .nil)))))) .nil))) .nil⟩ (fun Hg x sg hx => ?_)
  refine ⟨by show 1 ≤ sizeLine; decide, fun z1 nz1 => .inr ⟨z1, 201, _, rfl, rfl, SqT.of upd_same, by simp, by decide, by decide, by show 1 ≤ 1000; decide, fun z2 nz2 => ⟨by show 2 ≤ sizeLine; decide, fun z3 nz3 => ⟨by show 2 ≤ sizeLine; decide, fun z4 nz4 => ?_⟩⟩⟩⟩
  have h1 := Same.new (o := .tup [.int 0]) nz1
  have h2 := Same.new (o := .tup (List.replicate (201 : Int).toNat [V.int 0]).flatten) nz2
  have h3 := Same.new (o := .tup [.str "t", .ref z2]) nz3
  have h4 := Same.new (o := .tup [.str "part", .ref z3]) nz4
  have h34 := h3.trans h4
  have hA := (h1.trans h2).trans h34
  have zeros : ∀ m : Nat, ∀ Hz : Hp, DpAll K Hz (List.replicate m [V.int 0]).flatten (List.replicate m (.int 0)) := fun m Hz => by
    induction m with
    | zero => exact .nil
    | succ m ih => exact .cons (.int 0) ih
  refine ⟨_, _, Dp.same hA _ _ hx, .tup (SqT.of upd_same) (.cons (.str "part") (.cons (.tup (SqT.of (h4 _ _ upd_same)) (.cons (.str "t") (.cons (.tup (SqT.of (h34 _ _ upd_same)) (zeros 201 _)) .nil))) .nil)), by decide +kernel, by decide +kernel, ?_⟩
  rw [show PyData.eqv (.tuple [.str "part", .tuple [.str "t", .tuple (List.replicate 201 (.int 0))]]) (.tuple [.str "part", .tuple [.str "t", .tuple (List.replicate 201 (.int 0))]]) = true by decide +kernel]
  exact q _ (sd.trans ((gA.trans sg).trans hA))
end
end J45

set_option Elab.async false
set_option maxRecDepth 100000
/-! chains that are too deep; the law -/
namespace RN
open PySem PySem.Spec PyProof.Rows L2
theorem FnN.ex {α : Type} {P : Program} {w : World} {K : PySem.W.Frag} {mg : Str → Option Value} {base : Heap} {CX : CXT} {n : Nat} {f : Addr} {fd : FuncData} {ps : List Str} {sp : α → Sp} (F : ∀ a, FnN P w K mg base CX n f fd ps (sp a)) :
    FnN P w K mg base CX n f fd ps (fun vs H Q E => ∃ a, sp a vs H Q E) :=
  ⟨fun vs H Q E ⟨a, h⟩ => (F a).len _ _ _ _ h, fun A outer s H args us vs Q E hr e0 b r ⟨a, h⟩ => (F a).run A outer s H args us vs Q E hr e0 b r h⟩
end RN
namespace J45
open PySem PySem.Spec PyProof.Rows L2 Hx Xr RN
abbrev sLaw : Stmt := top 71
section
variable {P : Program} {w : World} {K : PySem.W.Frag} {mg : Str → Option Value} {base : Heap} {C p0 p1 p2 p3 aJ : Addr} {kv : List (Str × V)}
theorem all_deep {fW fP fN fQ fR fF fI fNow : Addr} {fdW fdP fdN fdQ fdR fdF fdI fdNow : FuncData} {spF : Sp}
    (T : TxtJ K w mg C p0 p1 p2 p3 aJ kv)
    (FW : Fun K "wrong_in" "Judge.wrong_in" jWrong fW fdW) (bW : Binds K fdW ["self", "part", "left"] []) (mW : Meth K C "wrong_in" fW)
    (GP : FnOk P w K mg base CX0 1 fP fdP ["thing", "places"] spPlace) (kP : PySem.W.keepIn K (.ref fP) = true) (bP : Binds K fdP ["thing", "places"] []) (gP : mg "is_place_number" = some (.ref fP))
    (GN : FnOk P w K mg base CX0 1 fN fdN ["thing"] spNum) (kN : PySem.W.keepIn K (.ref fN) = true) (bN : Binds K fdN ["thing"] []) (gN : mg "is_number" = some (.ref fN))
    (GQ : FnOk P w K mg base CX0 2 fQ fdQ ["thing"] spPlain) (kQ : PySem.W.keepIn K (.ref fQ) = true) (bQ : Binds K fdQ ["thing"] []) (gQ : mg "is_plain_name" = some (.ref fQ))
    (GI : FnOk P w K mg base CX0 3 fI fdI ["thing", "places"] (spPart K)) (kI : PySem.W.keepIn K (.ref fI) = true) (bI : Binds K fdI ["thing", "places"] []) (gI : mg "is_part" = some (.ref fI))
    (GR : FnOk P w K mg base CX0 2 fR fdR ["self", "atoms"] (spRight K C)) (bR : Binds K fdR ["self", "atoms"] []) (mR : Meth K C "are_right" fR)
    (GF : FnOk P w K mg base CX0 5 fF fdF ["self", "part"] spF) (bF : Binds K fdF ["self", "part"] []) (mF : Meth K C "fault" fF)
    (FNow : Fun K "now_wrong" "now_wrong" sNow fNow fdNow) (kNow : PySem.W.keepIn K (.ref fNow) = true) (bNow : Binds K fdNow ["judge", "part", "left"] []) (lNow : kv.lookup ("now" : Str) = some (.ref fNow)) :
    ∀ d : Nat, FnN P w K mg base CX0 (2 * d + 41) fW fdW ["self", "part", "left"] (spBadD K C d) := by
  intro d
  induction d with
  | zero => exact ok_wrongD FW T GP kP bP gP GN kN bN gN GQ kQ bQ gQ GR bR mR GF bF mF (.inl rfl)
  | succ d GW => exact ok_wrongD FW T GP kP bP gP GN kN bN gN GQ kQ bQ gQ GR bR mR GF bF mF (.inr ⟨d, fNow, rfl, lNow, ⟨fdNow, _, ok_nowD FNow T GI kI bI gI GW bW mW, kNow, bNow⟩⟩)
theorem scLaw : FnScope ["_law_script", "_law_cell", "_law_purse_here", "_law_program", "_law_some"] ["_law_script"] (defScope sLaw) := ⟨rfl, rfl, rfl, by decide +kernel, rfl, by decide +kernel, by decide +kernel⟩
def spLaw (K : PySem.W.Frag) : Sp := fun vs H Q _ => ∃ (a : Addr) (ns : List Int), vs = [.ref a] ∧ SqL K H a (ns.map V.int) ∧ ns.length ≤ 63 ∧ ∀ H', Q (.bl true) H'
theorem eqv_self {r : PyData} (h : SeqAt.shaped r = true) : PyData.eqv r r = true := SeqAt.eqv_refl r (SeqAt.canLay_of_shaped h)
set_option maxHeartbeats 8000000 in
theorem ok_law {f fU fC fD fP fO fB : Addr} {fd fdU fdC fdD fdP fdO fdB : FuncData} (F : Fun K "law" "law" sLaw f fd) (gRa : mg "range" = none)
    (GU : FnOk P w K mg base CX0 2 fU fdU ["_law_script", "_law_at_here"] (spPurse K)) (kU : PySem.W.keepIn K (.ref fU) = true) (bU : Binds K fdU ["_law_script", "_law_at_here"] []) (gU : mg "_law_purse" = some (.ref fU))
    (GC : FnOk P w K mg base CX0 8 fC fdC ["_law_purse_here", "_law_deep"] (spCore K)) (kC : PySem.W.keepIn K (.ref fC) = true) (bC : Binds K fdC ["_law_purse_here", "_law_deep"] []) (gC : mg "_law_core" = some (.ref fC))
    (GD : FnOk P w K mg base CX0 2 fD fdD ["_law_one_thing"] (spDue K)) (kD : PySem.W.keepIn K (.ref fD) = true) (bD : Binds K fdD ["_law_one_thing"] []) (gD : mg "_law_due" = some (.ref fD))
    (GP : FnOk P w K mg base CX0 150 fP fdP ["thing"] (spProg K)) (kP : PySem.W.keepIn K (.ref fP) = true) (bP : Binds K fdP ["thing"] []) (gP : mg "program_wrong" = some (.ref fP)) (kbP : KBinds K fdP ["thing"] ["thing"] (fun us ws => us ++ ws) (fun vs zs => vs ++ zs))
    (GO : FnOk P w K mg base CX0 1 fO fdO ["_law_program"] (spOdd K)) (kO : PySem.W.keepIn K (.ref fO) = true) (bO : Binds K fdO ["_law_program"] []) (gO : mg "_law_odd_programs" = some (.ref fO))
    (GB : FnOk P w K mg base CX0 151 fB fdB [] spBounds) (kB : PySem.W.keepIn K (.ref fB) = true) (bB : Binds K fdB [] []) (gB : mg "_law_bounds_right" = some (.ref fB)) :
    FnOk P w K mg base CX0 152 f fd ["_law_script"] (spLaw K) := by
  refine F.ok scLaw (fun vs H Q E h => ?_) (fun cdv A outer st H vs Q E hr h => ?_)
  · obtain ⟨a, ns, rfl, _⟩ := h
    rfl
  obtain ⟨a, ns, rfl, hS, hlen, q⟩ := h
  have hu := ru1 hr
  have hu65 := ru64 hr
  refine ⟨_, (pss_cons (ps_for PassesOwn.never rfl (pi_range1 (by rfl) gRa (pa_cons pe_int pa_nil)) (pg_name (i := 1) scLaw.nd rfl (.inl rfl)) (pss_cons (ps_set (i := 2) scLaw.nd rfl (.inl rfl) (pe_call GU (hr.mono (by decide)) rfl gU kU bU .nil pass0 (pa_cons (pv 0) (pa_cons (pv 1) pa_nil))))
      (pss_cons (ps_set (i := 3) scLaw.nd rfl (.inl rfl) (pe_call GC (hr.mono (by decide)) rfl gC kC bC .nil pass0 (pa_cons (pv 2) (pa_cons pe_int pa_nil))))
      (pss_cons (ps_if (PW.pt (pw_or (pt_cmpR op_notN (pe_call GD (hr.mono (by decide)) rfl gD kD bD .nil pass0 (pa_cons (pv 3) pa_nil)) pe_non (nomark _)) (pw_or1 (pt_cmpR op_notN (pe_call GP (hr.mono (by decide)) rfl gP kP bP .nil pass0 (pa_cons (pv 3) pa_nil)) pe_non (nomark _))))) (pss_one (ps_ret pe_bl)) pss_nil)
      (pss_one (ps_for PassesOwn.never rfl (pi_list (pe_call GO (hr.mono (by decide)) rfl gO kO bO .nil pass0 (pa_cons (pv 3) pa_nil))) (pg_name (i := 4) scLaw.nd rfl (.inl rfl)) (pss_one (ps_if (PW.pt (pw_or (pt_cmpR (op_neD hu65) (pe_call GP (hr.mono (by decide)) rfl gP kP bP .nil pass0 (pa_cons (pv 4) pa_nil)) (pe_call GD (hr.mono (by decide)) rfl gD kD bD .nil pass0 (pa_cons (pv 4) pa_nil)) (nomark _)) (pw_or1 (pt_cmpR (op_neD hu65) (pe_callK0 GP (hr.mono (by decide)) (by rfl) gP kP kbP pass0 (pk_cons (pv 4) pk_nil)) (pe_call GD (hr.mono (by decide)) rfl gD kD bD .nil pass0 (pa_cons (pv 4) pa_nil)) (nomark _))))) (pss_one (ps_ret pe_bl)) pss_nil))))))))
      (pss_one (ps_ret (pe_call0 GB (hr.mono (by decide)) rfl gB kB bB .nil pass0)))), ?_⟩
  refine ⟨4, rfl, by decide, by decide, for_range (lo := 0) (n := 4) (fun i σ H' => ∃ v1 v2 v3 v4 : Option V, σ = [some (.ref a), v1, v2, v3, v4] ∧ Same H H') ⟨none, none, none, none, rfl, fun _ _ e => e⟩ ?_ ?_⟩
  · rintro i σ H1 hi ⟨v1, v2, v3, v4, rfl, s1⟩
    have hi4 : i < 4 := hi
    refine ⟨_, rfl, _, rfl, a, ns, i, (show [V.ref a, V.int ((0 : Int) + (i : Int))] = [V.ref a, V.int (i : Int)] by rw [Int.zero_add]), Same.seq s1 hS, by omega, fun p x c np x0 c0 c1 => ?_⟩
    refine ⟨_, rfl, H1, p, x, c, 1000 * (i : Int), rfl, Same.new np, np, upd_same, x0, c0, c1, by omega, by omega, fun G2 H2 tp pl dn tl wp wt tops s2 s3 C => ?_⟩
    have C2 := C.same s3
    have O := odd_core C2
    refine ⟨_, rfl, .ref tp, .none, rfl, O.prog H2 (fun _ _ e => e), fun H3 x3 s4 d3 => ?_⟩
    cases d3
    refine ⟨rfl, false, rfl, iteF ⟨_, rfl, .ref tp, rfl, O.frame s4 fun H4 x4 s5 d4 => ?_⟩⟩
    cases d4
    refine ⟨rfl, false, rfl, iteF ?_⟩
    have C4 := C2.same (s4.trans s5)
    refine ⟨_, rfl, tp, pl, dn, tl, wp, wt, tops, rfl, C4, fun H5 l vs s6 hl hvl ho => ⟨l, rfl, ⟨_, SqL.of hl⟩, for_list (K := K) (a := l) (xs := vs) (fun j σ H' => ∃ v4 : Option V, σ = [some (.ref a), some (.int ((0 : Int) + (i : Int))), some (.ref p), some (.ref tp), v4] ∧ Same H5 H') ⟨_, rfl, fun _ _ e => e⟩ (fun j σ H' _ ⟨_, _, s7⟩ => SqL.of (s7 _ _ hl)) ?_ ?_⟩⟩
    · rintro j y σ H6 hy ⟨v5, rfl, s7⟩
      obtain ⟨r, hr0⟩ := ho y (List.mem_of_getElem? hy)
      have O6 := hr0.same s7
      have er : PyData.eqv r r = true := eqv_self O6.shaped
      refine ⟨_, rfl, y, rfl, O6.frame (fun _ _ e => e) fun H7 x7 s8 d7 => ⟨_, rfl, y, r, rfl, O6.prog H7 s8, fun H8 x8 s9 d8 => ⟨r, r, Dp.same s9 _ _ d7, d8, O6.shaped, O6.shaped, _, rfl, ?_⟩⟩⟩
      rw [er]
      have s68 := s8.trans s9
      have O8 := O6.same s68
      refine iteF ⟨_, rfl, y, rfl, O8.frame (fun _ _ e => e) fun H9 x9 sa d9 => ⟨_, rfl, y, r, rfl, O8.prog H9 sa, fun Ha xa sb da => ⟨r, r, Dp.same sb _ _ d9, da, O6.shaped, O6.shaped, _, rfl, ?_⟩⟩⟩
      rw [er]
      exact iteF ⟨_, rfl, s7.trans (s68.trans (sa.trans sb))⟩
    · rintro σ H6 ⟨v5, rfl, s7⟩
      exact ⟨_, _, _, _, rfl, s1.trans (s2.trans (s3.trans ((s4.trans s5).trans (s6.trans s7))))⟩
  · rintro σ H1 ⟨v1, v2, v3, v4, rfl, s1⟩
    exact ⟨rfl, fun H2 _ => q H2⟩
end
end J45

set_option Elab.async false
set_option maxRecDepth 100000
/-! the script's numbers; what FORMS holds -/
namespace J45
open PySem PySem.Spec PyProof.Rows L2 Hx Xr RN
section
variable {P : Program} {w : World} {K : PySem.W.Frag} {mg : Str → Option Value} {base : Heap}
theorem scAt : FnScope ["_law_script", "_law_k"] ["_law_script", "_law_k"] (defScope sAt) := ⟨rfl, rfl, rfl, by decide +kernel, rfl, by decide +kernel, by decide +kernel⟩
theorem ok_at {f : Addr} {fd : FuncData} (F : Fun K "_law_at" "_law_at" sAt f fd) (gLen : mg "len" = none) : FnOk P w K mg base CX0 1 f fd ["_law_script", "_law_k"] (spAt K) := by
  refine F.ok scAt (fun vs H Q E h => ?_) (fun cdv A outer st H vs Q E hr h => ?_)
  · obtain ⟨a, ns, k, rfl, _⟩ := h
    rfl
  obtain ⟨a, ns, k, rfl, hS, q⟩ := h
  refine ⟨_, (pss_cons (ps_if (pt_cmpR op_lt (pv 1) (pe_callB call_len (by rfl) gLen PySem.boot_len (pa_cons (pv 0) pa_nil)) (nomark _)) (pss_one (ps_ret (pe_ix ix_list (pv 0) (pv 1) (fun _ _ => rfl)))) pss_nil)
      (pss_one (ps_ret pe_int))), ?_⟩
  refine ⟨_, rfl, _, rfl, _, _, rfl, .inl ⟨_, hS, rfl⟩, _, _, rfl, rfl, _, rfl, ?_⟩
  rw [List.length_map]
  by_cases c : k < ns.length
  · rw [decide_eq_true (by omega)]
    refine iteT ⟨_, rfl, _, rfl, a, _, _, _, rfl, rfl, hS, atI_nat (v := V.int ns[k]) ?_, q _⟩
    rw [List.getElem?_map, List.getElem?_eq_getElem c]
    rfl
  · rw [decide_eq_false (by omega)]
    exact iteF (q _)
def formsK : List Str := ["num", "name", "con", "call", "fun", "let", "case", "deed", "fault", "early", "now"]
def judgesK : List Str := ["call", "fun", "let", "case", "deed", "early", "now"]
theorem forms_isSome {a b c d e f g h i j k : V} : ∀ wd ∈ formWords, ((formsK.zip [a, b, c, d, e, f, g, h, i, j, k]).lookup wd).isSome = true := by
  intro wd hw
  simp only [formWords, List.mem_cons, List.not_mem_nil, or_false] at hw
  rcases hw with rfl | rfl | rfl | rfl | rfl | rfl | rfl | rfl | rfl | rfl | rfl <;> rfl
theorem forms_ok {a b c d e f g h i j k : V} {fN fE : Addr} (hj : j = .ref fE) (hk : k = .ref fN) (hN : HeldN P w K mg base 5 fN (spForm K "now")) (hE : HeldN P w K mg base 5 fE (spForm K "early")) : FormsOk P w K mg base (formsK.zip [a, b, c, d, e, f, g, h, i, j, k]) := by
  subst hj hk
  intro wd hw
  simp only [List.mem_cons, List.not_mem_nil, or_false] at hw
  rcases hw with rfl | rfl
  · exact ⟨fN, rfl, hN⟩
  · exact ⟨fE, rfl, hE⟩
end
end J45

set_option Elab.async false
set_option maxRecDepth 100000
/-! the head -/
namespace J45
open PySem PySem.Spec PyProof.Rows L2 Hx Xr RN
theorem vals_DD {t0 t1 t2 t3 t4 : Tok} : Vals ((["plus", "less", "times", "below", "same"] : List Str).map V.str) [Value.str "plus" t0, Value.str "less" t1, Value.str "times" t2, Value.str "below" t3, Value.str "same" t4] := by
  have e : ((["plus", "less", "times", "below", "same"] : List Str).map V.str) = [V.str "plus", V.str "less", V.str "times", V.str "below", V.str "same"] := by decide +kernel
  rw [e]
  exact (.cons ⟨_, rfl⟩ (.cons ⟨_, rfl⟩ (.cons ⟨_, rfl⟩ (.cons ⟨_, rfl⟩ (.cons ⟨_, rfl⟩ .nil)))))
theorem zip_FF {v0 v1 v2 v3 v4 v5 v6 v7 v8 v9 v10 : V} : formsK.zip [v0, v1, v2, v3, v4, v5, v6, v7, v8, v9, v10] = [(("num" : Str), v0), (("name" : Str), v1), (("con" : Str), v2), (("call" : Str), v3), (("fun" : Str), v4), (("let" : Str), v5), (("case" : Str), v6), (("deed" : Str), v7), (("fault" : Str), v8), (("early" : Str), v9), (("now" : Str), v10)] := rfl
theorem zip_JJ {v0 v1 v2 v3 v4 v5 v6 : V} : judgesK.zip [v0, v1, v2, v3, v4, v5, v6] = [(("call" : Str), v0), (("fun" : Str), v1), (("let" : Str), v2), (("case" : Str), v3), (("deed" : Str), v4), (("early" : Str), v5), (("now" : Str), v6)] := rfl
theorem kb_prog {K : PySem.W.Frag} {f : Addr} {fd : FuncData} (F : Fun K "program_wrong" "program_wrong" sProg f fd) : KBinds K fd ["thing"] ["thing"] (fun us ws => us ++ ws) (fun vs zs => vs ++ zs) := by
  obtain ⟨oc, od, kV, doc, pm, an, cdv, ct, osl, rfl, lk, hcd⟩ := F.ex
  refine ⟨fun s us ws X hl => ?_, fun r1 r2 => r1.append r2⟩
  cases us with
  | nil =>
    cases ws with
    | nil => cases hl
    | cons w ws =>
      cases ws with
      | nil => exact .of_eq rfl
      | cons w2 ws => simp at hl
  | cons u us =>
    cases us with
    | nil =>
      cases ws with
      | nil => exact .of_eq rfl
      | cons w ws => simp at hl
    | cons u2 us => simp at hl
set_option maxHeartbeats 16000000 in
theorem all_mk {l : PySem.W.OpenLaw} {w : World} {K : PySem.W.Frag} {h : Heap} {mg : Str → Option Value} {fa aDD aFF aJJ f1 f2 f3 f4 f5 f6 f7 f8 f9 f10 f11 f12 f13 f14 f15 f16 f17 f18 f19 f20 f21 f22 f23 f24 f25 f26 f27 f28 f29 f30 f31 f32 f33 f34 f35 f36 fy1 fy2 fy3 fy4 fy5 fy6 C pC0 pC1 pC2 pC3 fxFF0 fxFF1 fxFF2 fxFF3 fxFF4 fxFF5 fxFF6 fxFF7 fxFF8 : Addr} (X : K.In h) (G : h.Ns mainGlobals mg) (hfa : mg "law" = some (.ref fa))
    {od1 an1 od2 an2 od3 an3 od4 an4 od5 an5 od6 an6 od7 an7 od8 an8 od9 an9 od10 an10 od11 an11 od12 an12 od13 an13 od14 an14 od15 an15 od16 an16 od17 an17 od18 an18 od19 an19 od20 an20 od21 an21 od22 an22 od23 an23 od24 an24 od25 an25 od26 an26 od27 an27 od28 an28 od29 an29 od30 an30 od31 an31 od32 an32 od33 an33 od34 an34 od35 an35 od36 an36 ody1 any1 ody2 any2 ody3 any3 ody4 any4 ody5 any5 ody6 any6 odDD : Option Addr} {sl1 sl2 sl3 sl4 sl5 sl6 sl7 sl8 sl9 sl10 sl11 sl12 sl13 sl14 sl15 sl16 sl17 sl18 sl19 sl20 sl21 sl22 sl23 sl24 sl25 sl26 sl27 sl28 sl29 sl30 sl31 sl32 sl33 sl34 sl35 sl36 sly1 sly2 sly3 sly4 sly5 sly6 slDD : Array (Option Value)} {oc1 kV1 dc1 pm1 cd1 ct1 oc2 kV2 dc2 pm2 cd2 ct2 oc3 kV3 dc3 pm3 cd3 ct3 oc4 kV4 dc4 pm4 cd4 ct4 oc5 kV5 dc5 pm5 cd5 ct5 oc6 kV6 dc6 pm6 cd6 ct6 oc7 kV7 dc7 pm7 cd7 ct7 oc8 kV8 dc8 pm8 cd8 ct8 oc9 kV9 dc9 pm9 cd9 ct9 oc10 kV10 dc10 pm10 cd10 ct10 oc11 kV11 dc11 pm11 cd11 ct11 oc12 kV12 dc12 pm12 cd12 ct12 oc13 kV13 dc13 pm13 cd13 ct13 oc14 kV14 dc14 pm14 cd14 ct14 oc15 kV15 dc15 pm15 cd15 ct15 oc16 kV16 dc16 pm16 cd16 ct16 oc17 kV17 dc17 pm17 cd17 ct17 oc18 kV18 dc18 pm18 cd18 ct18 oc19 kV19 dc19 pm19 cd19 ct19 oc20 kV20 dc20 pm20 cd20 ct20 oc21 kV21 dc21 pm21 cd21 ct21 oc22 kV22 dc22 pm22 cd22 ct22 oc23 kV23 dc23 pm23 cd23 ct23 oc24 kV24 dc24 pm24 cd24 ct24 oc25 kV25 dc25 pm25 cd25 ct25 oc26 kV26 dc26 pm26 cd26 ct26 oc27 kV27 dc27 pm27 cd27 ct27 oc28 kV28 dc28 pm28 cd28 ct28 oc29 kV29 dc29 pm29 cd29 ct29 oc30 kV30 dc30 pm30 cd30 ct30 oc31 kV31 dc31 pm31 cd31 ct31 oc32 kV32 dc32 pm32 cd32 ct32 oc33 kV33 dc33 pm33 cd33 ct33 oc34 kV34 dc34 pm34 cd34 ct34 oc35 kV35 dc35 pm35 cd35 ct35 oc36 kV36 dc36 pm36 cd36 ct36 ocy1 kVy1 dcy1 pmy1 cdy1 cty1 ocy2 kVy2 dcy2 pmy2 cdy2 cty2 ocy3 kVy3 dcy3 pmy3 cdy3 cty3 ocy4 kVy4 dcy4 pmy4 cdy4 cty4 ocy5 kVy5 dcy5 pmy5 cdy5 cty5 ocy6 kVy6 dcy6 pmy6 cdy6 cty6 : Value}
    {itDD : Array Value} {nnDD : Nat}
    {esFF esJJ : Array DictEntry} {nnFF nnJJ : Nat}
    {tA tB tD tE tH tI tJ : Tok}
    (a1 : PySem.W.nsIn K mainGlobals "is_number" = some (some (.ref f1)))
    (l1 : K.lookup f1 = some ⟨oc1, od1, .func (PySem.W.fnOf "is_number" "is_number" (defArgs sNum) (defBody sNum) (defScope sNum) .none kV1 dc1 pm1 an1 cd1 ct1), sl1⟩) (c1 : PySem.W.codeIn K cd1 "is_number" = true) (k1 : PySem.W.keepIn K (.ref f1) = true)
    (a2 : PySem.W.nsIn K mainGlobals "is_plain_name" = some (some (.ref f2)))
    (l2 : K.lookup f2 = some ⟨oc2, od2, .func (PySem.W.fnOf "is_plain_name" "is_plain_name" (defArgs sPlain) (defBody sPlain) (defScope sPlain) .none kV2 dc2 pm2 an2 cd2 ct2), sl2⟩) (c2 : PySem.W.codeIn K cd2 "is_plain_name" = true) (k2 : PySem.W.keepIn K (.ref f2) = true)
    (a3 : PySem.W.nsIn K mainGlobals "is_name" = some (some (.ref f3)))
    (l3 : K.lookup f3 = some ⟨oc3, od3, .func (PySem.W.fnOf "is_name" "is_name" (defArgs sNameF) (defBody sNameF) (defScope sNameF) .none kV3 dc3 pm3 an3 cd3 ct3), sl3⟩) (c3 : PySem.W.codeIn K cd3 "is_name" = true) (k3 : PySem.W.keepIn K (.ref f3) = true)
    (a4 : PySem.W.nsIn K mainGlobals "is_place_number" = some (some (.ref f4)))
    (l4 : K.lookup f4 = some ⟨oc4, od4, .func (PySem.W.fnOf "is_place_number" "is_place_number" (defArgs sPlace) (defBody sPlace) (defScope sPlace) .none kV4 dc4 pm4 an4 cd4 ct4), sl4⟩) (c4 : PySem.W.codeIn K cd4 "is_place_number" = true) (k4 : PySem.W.keepIn K (.ref f4) = true)
    (a5 : PySem.W.nsIn K mainGlobals "is_early" = some (some (.ref f5)))
    (l5 : K.lookup f5 = some ⟨oc5, od5, .func (PySem.W.fnOf "is_early" "is_early" (defArgs sEarlyF) (defBody sEarlyF) (defScope sEarlyF) .none kV5 dc5 pm5 an5 cd5 ct5), sl5⟩) (c5 : PySem.W.codeIn K cd5 "is_early" = true) (k5 : PySem.W.keepIn K (.ref f5) = true)
    (a6 : PySem.W.nsIn K mainGlobals "is_now" = some (some (.ref f6)))
    (l6 : K.lookup f6 = some ⟨oc6, od6, .func (PySem.W.fnOf "is_now" "is_now" (defArgs sNowF) (defBody sNowF) (defScope sNowF) .none kV6 dc6 pm6 an6 cd6 ct6), sl6⟩) (c6 : PySem.W.codeIn K cd6 "is_now" = true) (k6 : PySem.W.keepIn K (.ref f6) = true)
    (a7 : PySem.W.nsIn K mainGlobals "is_part" = some (some (.ref f7)))
    (l7 : K.lookup f7 = some ⟨oc7, od7, .func (PySem.W.fnOf "is_part" "is_part" (defArgs sPartF) (defBody sPartF) (defScope sPartF) .none kV7 dc7 pm7 an7 cd7 ct7), sl7⟩) (c7 : PySem.W.codeIn K cd7 "is_part" = true) (k7 : PySem.W.keepIn K (.ref f7) = true)
    (a8 : PySem.W.nsIn K mainGlobals "call_wrong" = some (some (.ref f8)))
    (l8 : K.lookup f8 = some ⟨oc8, od8, .func (PySem.W.fnOf "call_wrong" "call_wrong" (defArgs sCall) (defBody sCall) (defScope sCall) .none kV8 dc8 pm8 an8 cd8 ct8), sl8⟩) (c8 : PySem.W.codeIn K cd8 "call_wrong" = true) (k8 : PySem.W.keepIn K (.ref f8) = true)
    (a9 : PySem.W.nsIn K mainGlobals "fun_wrong" = some (some (.ref f9)))
    (l9 : K.lookup f9 = some ⟨oc9, od9, .func (PySem.W.fnOf "fun_wrong" "fun_wrong" (defArgs sFun) (defBody sFun) (defScope sFun) .none kV9 dc9 pm9 an9 cd9 ct9), sl9⟩) (c9 : PySem.W.codeIn K cd9 "fun_wrong" = true) (k9 : PySem.W.keepIn K (.ref f9) = true)
    (a10 : PySem.W.nsIn K mainGlobals "let_wrong" = some (some (.ref f10)))
    (l10 : K.lookup f10 = some ⟨oc10, od10, .func (PySem.W.fnOf "let_wrong" "let_wrong" (defArgs sLet) (defBody sLet) (defScope sLet) .none kV10 dc10 pm10 an10 cd10 ct10), sl10⟩) (c10 : PySem.W.codeIn K cd10 "let_wrong" = true) (k10 : PySem.W.keepIn K (.ref f10) = true)
    (a11 : PySem.W.nsIn K mainGlobals "case_wrong" = some (some (.ref f11)))
    (l11 : K.lookup f11 = some ⟨oc11, od11, .func (PySem.W.fnOf "case_wrong" "case_wrong" (defArgs sCase) (defBody sCase) (defScope sCase) .none kV11 dc11 pm11 an11 cd11 ct11), sl11⟩) (c11 : PySem.W.codeIn K cd11 "case_wrong" = true) (k11 : PySem.W.keepIn K (.ref f11) = true)
    (a12 : PySem.W.nsIn K mainGlobals "deed_wrong" = some (some (.ref f12)))
    (l12 : K.lookup f12 = some ⟨oc12, od12, .func (PySem.W.fnOf "deed_wrong" "deed_wrong" (defArgs sDeed) (defBody sDeed) (defScope sDeed) .none kV12 dc12 pm12 an12 cd12 ct12), sl12⟩) (c12 : PySem.W.codeIn K cd12 "deed_wrong" = true) (k12 : PySem.W.keepIn K (.ref f12) = true)
    (a13 : PySem.W.nsIn K mainGlobals "early_wrong" = some (some (.ref f13)))
    (l13 : K.lookup f13 = some ⟨oc13, od13, .func (PySem.W.fnOf "early_wrong" "early_wrong" (defArgs sEarly) (defBody sEarly) (defScope sEarly) .none kV13 dc13 pm13 an13 cd13 ct13), sl13⟩) (c13 : PySem.W.codeIn K cd13 "early_wrong" = true) (k13 : PySem.W.keepIn K (.ref f13) = true)
    (a14 : PySem.W.nsIn K mainGlobals "now_wrong" = some (some (.ref f14)))
    (l14 : K.lookup f14 = some ⟨oc14, od14, .func (PySem.W.fnOf "now_wrong" "now_wrong" (defArgs sNow) (defBody sNow) (defScope sNow) .none kV14 dc14 pm14 an14 cd14 ct14), sl14⟩) (c14 : PySem.W.codeIn K cd14 "now_wrong" = true) (k14 : PySem.W.keepIn K (.ref f14) = true)
    (a15 : PySem.W.nsIn K mainGlobals "program_wrong" = some (some (.ref f15)))
    (l15 : K.lookup f15 = some ⟨oc15, od15, .func (PySem.W.fnOf "program_wrong" "program_wrong" (defArgs sProg) (defBody sProg) (defScope sProg) .none kV15 dc15 pm15 an15 cd15 ct15), sl15⟩) (c15 : PySem.W.codeIn K cd15 "program_wrong" = true) (k15 : PySem.W.keepIn K (.ref f15) = true)
    (a16 : PySem.W.nsIn K mainGlobals "judge_of" = some (some (.ref f16)))
    (l16 : K.lookup f16 = some ⟨oc16, od16, .func (PySem.W.fnOf "judge_of" "judge_of" (defArgs sJof) (defBody sJof) (defScope sJof) .none kV16 dc16 pm16 an16 cd16 ct16), sl16⟩) (c16 : PySem.W.codeIn K cd16 "judge_of" = true) (k16 : PySem.W.keepIn K (.ref f16) = true)
    (a17 : PySem.W.nsIn K mainGlobals "frame_wrong" = some (some (.ref f17)))
    (l17 : K.lookup f17 = some ⟨oc17, od17, .func (PySem.W.fnOf "frame_wrong" "frame_wrong" (defArgs sFrame) (defBody sFrame) (defScope sFrame) .none kV17 dc17 pm17 an17 cd17 ct17), sl17⟩) (c17 : PySem.W.codeIn K cd17 "frame_wrong" = true) (k17 : PySem.W.keepIn K (.ref f17) = true)
    (a18 : PySem.W.nsIn K mainGlobals "places_wrong" = some (some (.ref f18)))
    (l18 : K.lookup f18 = some ⟨oc18, od18, .func (PySem.W.fnOf "places_wrong" "places_wrong" (defArgs sPlaces) (defBody sPlaces) (defScope sPlaces) .none kV18 dc18 pm18 an18 cd18 ct18), sl18⟩) (c18 : PySem.W.codeIn K cd18 "places_wrong" = true) (k18 : PySem.W.keepIn K (.ref f18) = true)
    (a19 : PySem.W.nsIn K mainGlobals "parts_wrong" = some (some (.ref f19)))
    (l19 : K.lookup f19 = some ⟨oc19, od19, .func (PySem.W.fnOf "parts_wrong" "parts_wrong" (defArgs sParts) (defBody sParts) (defScope sParts) .none kV19 dc19 pm19 an19 cd19 ct19), sl19⟩) (c19 : PySem.W.codeIn K cd19 "parts_wrong" = true) (k19 : PySem.W.keepIn K (.ref f19) = true)
    (a20 : PySem.W.nsIn K mainGlobals "_law_at" = some (some (.ref f20)))
    (l20 : K.lookup f20 = some ⟨oc20, od20, .func (PySem.W.fnOf "_law_at" "_law_at" (defArgs sAt) (defBody sAt) (defScope sAt) .none kV20 dc20 pm20 an20 cd20 ct20), sl20⟩) (c20 : PySem.W.codeIn K cd20 "_law_at" = true) (k20 : PySem.W.keepIn K (.ref f20) = true)
    (a21 : PySem.W.nsIn K mainGlobals "_law_mixed" = some (some (.ref f21)))
    (l21 : K.lookup f21 = some ⟨oc21, od21, .func (PySem.W.fnOf "_law_mixed" "_law_mixed" (defArgs sMixed) (defBody sMixed) (defScope sMixed) .none kV21 dc21 pm21 an21 cd21 ct21), sl21⟩) (c21 : PySem.W.codeIn K cd21 "_law_mixed" = true) (k21 : PySem.W.keepIn K (.ref f21) = true)
    (a22 : PySem.W.nsIn K mainGlobals "_law_purse" = some (some (.ref f22)))
    (l22 : K.lookup f22 = some ⟨oc22, od22, .func (PySem.W.fnOf "_law_purse" "_law_purse" (defArgs sPurse) (defBody sPurse) (defScope sPurse) .none kV22 dc22 pm22 an22 cd22 ct22), sl22⟩) (c22 : PySem.W.codeIn K cd22 "_law_purse" = true) (k22 : PySem.W.keepIn K (.ref f22) = true)
    (a23 : PySem.W.nsIn K mainGlobals "_law_draw" = some (some (.ref f23)))
    (l23 : K.lookup f23 = some ⟨oc23, od23, .func (PySem.W.fnOf "_law_draw" "_law_draw" (defArgs sDraw) (defBody sDraw) (defScope sDraw) .none kV23 dc23 pm23 an23 cd23 ct23), sl23⟩) (c23 : PySem.W.codeIn K cd23 "_law_draw" = true) (k23 : PySem.W.keepIn K (.ref f23) = true)
    (a24 : PySem.W.nsIn K mainGlobals "_law_fresh" = some (some (.ref f24)))
    (l24 : K.lookup f24 = some ⟨oc24, od24, .func (PySem.W.fnOf "_law_fresh" "_law_fresh" (defArgs sFresh) (defBody sFresh) (defScope sFresh) .none kV24 dc24 pm24 an24 cd24 ct24), sl24⟩) (c24 : PySem.W.codeIn K cd24 "_law_fresh" = true) (k24 : PySem.W.keepIn K (.ref f24) = true)
    (a25 : PySem.W.nsIn K mainGlobals "_law_atom" = some (some (.ref f25)))
    (l25 : K.lookup f25 = some ⟨oc25, od25, .func (PySem.W.fnOf "_law_atom" "_law_atom" (defArgs sAtom) (defBody sAtom) (defScope sAtom) .none kV25 dc25 pm25 an25 cd25 ct25), sl25⟩) (c25 : PySem.W.codeIn K cd25 "_law_atom" = true) (k25 : PySem.W.keepIn K (.ref f25) = true)
    (a26 : PySem.W.nsIn K mainGlobals "_law_tip" = some (some (.ref f26)))
    (l26 : K.lookup f26 = some ⟨oc26, od26, .func (PySem.W.fnOf "_law_tip" "_law_tip" (defArgs sTip) (defBody sTip) (defScope sTip) .none kV26 dc26 pm26 an26 cd26 ct26), sl26⟩) (c26 : PySem.W.codeIn K cd26 "_law_tip" = true) (k26 : PySem.W.keepIn K (.ref f26) = true)
    (a27 : PySem.W.nsIn K mainGlobals "_law_grown" = some (some (.ref f27)))
    (l27 : K.lookup f27 = some ⟨oc27, od27, .func (PySem.W.fnOf "_law_grown" "_law_grown" (defArgs sGrown) (defBody sGrown) (defScope sGrown) .none kV27 dc27 pm27 an27 cd27 ct27), sl27⟩) (c27 : PySem.W.codeIn K cd27 "_law_grown" = true) (k27 : PySem.W.keepIn K (.ref f27) = true)
    (a28 : PySem.W.nsIn K mainGlobals "_law_core" = some (some (.ref f28)))
    (l28 : K.lookup f28 = some ⟨oc28, od28, .func (PySem.W.fnOf "_law_core" "_law_core" (defArgs sCore) (defBody sCore) (defScope sCore) .none kV28 dc28 pm28 an28 cd28 ct28), sl28⟩) (c28 : PySem.W.codeIn K cd28 "_law_core" = true) (k28 : PySem.W.keepIn K (.ref f28) = true)
    (a29 : PySem.W.nsIn K mainGlobals "_law_inner" = some (some (.ref f29)))
    (l29 : K.lookup f29 = some ⟨oc29, od29, .func (PySem.W.fnOf "_law_inner" "_law_inner" (defArgs sInner) (defBody sInner) (defScope sInner) .none kV29 dc29 pm29 an29 cd29 ct29), sl29⟩) (c29 : PySem.W.codeIn K cd29 "_law_inner" = true) (k29 : PySem.W.keepIn K (.ref f29) = true)
    (a30 : PySem.W.nsIn K mainGlobals "_law_walked" = some (some (.ref f30)))
    (l30 : K.lookup f30 = some ⟨oc30, od30, .func (PySem.W.fnOf "_law_walked" "_law_walked" (defArgs sWalked) (defBody sWalked) (defScope sWalked) .none kV30 dc30 pm30 an30 cd30 ct30), sl30⟩) (c30 : PySem.W.codeIn K cd30 "_law_walked" = true) (k30 : PySem.W.keepIn K (.ref f30) = true)
    (a31 : PySem.W.nsIn K mainGlobals "_law_is_count" = some (some (.ref f31)))
    (l31 : K.lookup f31 = some ⟨oc31, od31, .func (PySem.W.fnOf "_law_is_count" "_law_is_count" (defArgs sIsCount) (defBody sIsCount) (defScope sIsCount) .none kV31 dc31 pm31 an31 cd31 ct31), sl31⟩) (c31 : PySem.W.codeIn K cd31 "_law_is_count" = true) (k31 : PySem.W.keepIn K (.ref f31) = true)
    (a32 : PySem.W.nsIn K mainGlobals "_law_is_name" = some (some (.ref f32)))
    (l32 : K.lookup f32 = some ⟨oc32, od32, .func (PySem.W.fnOf "_law_is_name" "_law_is_name" (defArgs sIsName) (defBody sIsName) (defScope sIsName) .none kV32 dc32 pm32 an32 cd32 ct32), sl32⟩) (c32 : PySem.W.codeIn K cd32 "_law_is_name" = true) (k32 : PySem.W.keepIn K (.ref f32) = true)
    (a33 : PySem.W.nsIn K mainGlobals "_law_due" = some (some (.ref f33)))
    (l33 : K.lookup f33 = some ⟨oc33, od33, .func (PySem.W.fnOf "_law_due" "_law_due" (defArgs sDue) (defBody sDue) (defScope sDue) .none kV33 dc33 pm33 an33 cd33 ct33), sl33⟩) (c33 : PySem.W.codeIn K cd33 "_law_due" = true) (k33 : PySem.W.keepIn K (.ref f33) = true)
    (a34 : PySem.W.nsIn K mainGlobals "_law_odd_programs" = some (some (.ref f34)))
    (l34 : K.lookup f34 = some ⟨oc34, od34, .func (PySem.W.fnOf "_law_odd_programs" "_law_odd_programs" (defArgs sOdd) (defBody sOdd) (defScope sOdd) .none kV34 dc34 pm34 an34 cd34 ct34), sl34⟩) (c34 : PySem.W.codeIn K cd34 "_law_odd_programs" = true) (k34 : PySem.W.keepIn K (.ref f34) = true)
    (a35 : PySem.W.nsIn K mainGlobals "_law_bounds_right" = some (some (.ref f35)))
    (l35 : K.lookup f35 = some ⟨oc35, od35, .func (PySem.W.fnOf "_law_bounds_right" "_law_bounds_right" (defArgs sBounds) (defBody sBounds) (defScope sBounds) .none kV35 dc35 pm35 an35 cd35 ct35), sl35⟩) (c35 : PySem.W.codeIn K cd35 "_law_bounds_right" = true) (k35 : PySem.W.keepIn K (.ref f35) = true)
    (a36 : PySem.W.nsIn K mainGlobals "law" = some (some (.ref f36)))
    (l36 : K.lookup f36 = some ⟨oc36, od36, .func (PySem.W.fnOf "law" "law" (defArgs sLaw) (defBody sLaw) (defScope sLaw) .none kV36 dc36 pm36 an36 cd36 ct36), sl36⟩) (c36 : PySem.W.codeIn K cd36 "law" = true) (k36 : PySem.W.keepIn K (.ref f36) = true)
    (aC : PySem.W.nsIn K mainGlobals "Judge" = some (some (.ref C)))
    (ay1 : PySem.W.findIn K (.ref C) "__init__" = some (some (.ref fy1))) (iy1 : PySem.W.isFn K (.ref fy1) = true)
    (ly1 : K.lookup fy1 = some ⟨ocy1, ody1, .func (PySem.W.fnOf "__init__" "Judge.__init__" (defArgs jInit) (defBody jInit) (defScope jInit) .none kVy1 dcy1 pmy1 any1 cdy1 cty1), sly1⟩) (cy1 : PySem.W.codeIn K cdy1 "Judge.__init__" = true) (ky1 : PySem.W.keepIn K (.ref fy1) = true)
    (ay2 : PySem.W.findIn K (.ref C) "wrong_in" = some (some (.ref fy2))) (iy2 : PySem.W.isFn K (.ref fy2) = true)
    (ly2 : K.lookup fy2 = some ⟨ocy2, ody2, .func (PySem.W.fnOf "wrong_in" "Judge.wrong_in" (defArgs jWrong) (defBody jWrong) (defScope jWrong) .none kVy2 dcy2 pmy2 any2 cdy2 cty2), sly2⟩) (cy2 : PySem.W.codeIn K cdy2 "Judge.wrong_in" = true) (ky2 : PySem.W.keepIn K (.ref fy2) = true)
    (ay3 : PySem.W.findIn K (.ref C) "fault" = some (some (.ref fy3))) (iy3 : PySem.W.isFn K (.ref fy3) = true)
    (ly3 : K.lookup fy3 = some ⟨ocy3, ody3, .func (PySem.W.fnOf "fault" "Judge.fault" (defArgs jFault) (defBody jFault) (defScope jFault) .none kVy3 dcy3 pmy3 any3 cdy3 cty3), sly3⟩) (cy3 : PySem.W.codeIn K cdy3 "Judge.fault" = true) (ky3 : PySem.W.keepIn K (.ref fy3) = true)
    (ay4 : PySem.W.findIn K (.ref C) "are_right" = some (some (.ref fy4))) (iy4 : PySem.W.isFn K (.ref fy4) = true)
    (ly4 : K.lookup fy4 = some ⟨ocy4, ody4, .func (PySem.W.fnOf "are_right" "Judge.are_right" (defArgs jRight) (defBody jRight) (defScope jRight) .none kVy4 dcy4 pmy4 any4 cdy4 cty4), sly4⟩) (cy4 : PySem.W.codeIn K cdy4 "Judge.are_right" = true) (ky4 : PySem.W.keepIn K (.ref fy4) = true)
    (ay5 : PySem.W.findIn K (.ref C) "bind" = some (some (.ref fy5))) (iy5 : PySem.W.isFn K (.ref fy5) = true)
    (ly5 : K.lookup fy5 = some ⟨ocy5, ody5, .func (PySem.W.fnOf "bind" "Judge.bind" (defArgs jBind) (defBody jBind) (defScope jBind) .none kVy5 dcy5 pmy5 any5 cdy5 cty5), sly5⟩) (cy5 : PySem.W.codeIn K cdy5 "Judge.bind" = true) (ky5 : PySem.W.keepIn K (.ref fy5) = true)
    (ay6 : PySem.W.findIn K (.ref C) "are_alternatives" = some (some (.ref fy6))) (iy6 : PySem.W.isFn K (.ref fy6) = true)
    (ly6 : K.lookup fy6 = some ⟨ocy6, ody6, .func (PySem.W.fnOf "are_alternatives" "Judge.are_alternatives" (defArgs jAlts) (defBody jAlts) (defScope jAlts) .none kVy6 dcy6 pmy6 any6 cdy6 cty6), sly6⟩) (cy6 : PySem.W.codeIn K cdy6 "Judge.are_alternatives" = true) (ky6 : PySem.W.keepIn K (.ref fy6) = true)
    (pgC : PySem.W.plainGet K C Str.empty = true) (icC : PySem.W.isClsIn K C = true) (poC : PySem.W.plainOver K C = true) (saC : PySem.W.findIn K (.ref C) "__setattr__" = some (some (.builtin "object.__setattr__"))) (mkC : PySem.W.makesIn K C = true) (kcC : PySem.W.keepIn K (.ref C) = true)
    (sAC0 : PySem.W.findIn K (.ref C) "places" = some (some (.ref pC0))) (sBC0 : PySem.W.specialIn K (.ref pC0) "__get__" = some (some (.builtin "member_descriptor.__get__"))) (sCC0 : PySem.W.takesIn K (.ref pC0) = some true) (sDC0 : PySem.W.typeIn K (.ref pC0) = some (.type "member_descriptor")) (sEC0 : PySem.W.slotIn K pC0 C = some 3)
    (sAC1 : PySem.W.findIn K (.ref C) "data" = some (some (.ref pC1))) (sBC1 : PySem.W.specialIn K (.ref pC1) "__get__" = some (some (.builtin "member_descriptor.__get__"))) (sCC1 : PySem.W.takesIn K (.ref pC1) = some true) (sDC1 : PySem.W.typeIn K (.ref pC1) = some (.type "member_descriptor")) (sEC1 : PySem.W.slotIn K pC1 C = some 0)
    (sAC2 : PySem.W.findIn K (.ref C) "names" = some (some (.ref pC2))) (sBC2 : PySem.W.specialIn K (.ref pC2) "__get__" = some (some (.builtin "member_descriptor.__get__"))) (sCC2 : PySem.W.takesIn K (.ref pC2) = some true) (sDC2 : PySem.W.typeIn K (.ref pC2) = some (.type "member_descriptor")) (sEC2 : PySem.W.slotIn K pC2 C = some 2)
    (sAC3 : PySem.W.findIn K (.ref C) "many" = some (some (.ref pC3))) (sBC3 : PySem.W.specialIn K (.ref pC3) "__get__" = some (some (.builtin "member_descriptor.__get__"))) (sCC3 : PySem.W.takesIn K (.ref pC3) = some true) (sDC3 : PySem.W.typeIn K (.ref pC3) = some (.type "member_descriptor")) (sEC3 : PySem.W.slotIn K pC3 C = some 1)
    (xA : PySem.W.nsIn K mainGlobals "TOO_GREAT" = some (some (.int big tA)))
    (xB : PySem.W.nsIn K mainGlobals "MOST_SIGNS" = some (some (.int 100 tB)))
    (xD : PySem.W.nsIn K mainGlobals "MOST_THINGS" = some (some (.int 60 tD)))
    (xE : PySem.W.nsIn K mainGlobals "LONGEST_PATH" = some (some (.int 200 tE)))
    (xH : PySem.W.nsIn K mainGlobals "MOST_PARTS" = some (some (.int 4000 tH)))
    (xI : PySem.W.nsIn K mainGlobals "MOST_TOPS" = some (some (.int 60 tI)))
    (xJ : PySem.W.nsIn K mainGlobals "FAR" = some (some (.int 1000000 tJ)))
    (xDD : PySem.W.nsIn K mainGlobals "DEEDS" = some (some (.ref aDD))) (lDD : K.lookup aDD = some ⟨.type "tuple", odDD, .seq itDD nnDD, slDD⟩) (vDD : Vals ((["plus", "less", "times", "below", "same"] : List Str).map V.str) itDD.toList)
    (xFF : PySem.W.nsIn K mainGlobals "FORMS" = some (some (.ref aFF))) (lFF : K.lookup aFF = some ⟨.type "dict", none, .dict esFF nnFF, #[]⟩) (hFF : PySem.W.KeysLit w.params esFF.toList) (vFF : N3.EntsR (formsK.zip [V.ref fxFF0, V.ref fxFF1, V.ref fxFF2, V.ref fxFF3, V.ref fxFF4, V.ref fxFF5, V.ref fxFF6, V.ref fxFF7, V.ref fxFF8, V.ref f5, V.ref f6]) esFF.toList) (oFF : (aFF == sysModules) = false)
    (xJJ : PySem.W.nsIn K mainGlobals "JUDGES" = some (some (.ref aJJ))) (lJJ : K.lookup aJJ = some ⟨.type "dict", none, .dict esJJ nnJJ, #[]⟩) (hJJ : PySem.W.KeysLit w.params esJJ.toList) (vJJ : N3.EntsR (judgesK.zip [V.ref f8, V.ref f9, V.ref f10, V.ref f11, V.ref f12, V.ref f13, V.ref f14]) esJJ.toList) (oJJ : (aJJ == sysModules) = false)
    (z_isinstance : PySem.W.nsIn K mainGlobals "isinstance" = some none)
    (z_int : PySem.W.nsIn K mainGlobals "int" = some none)
    (z_str : PySem.W.nsIn K mainGlobals "str" = some none)
    (z_len : PySem.W.nsIn K mainGlobals "len" = some none)
    (z_tuple : PySem.W.nsIn K mainGlobals "tuple" = some none)
    (z_list : PySem.W.nsIn K mainGlobals "list" = some none)
    (z_dict : PySem.W.nsIn K mainGlobals "dict" = some none)
    (z_enumerate : PySem.W.nsIn K mainGlobals "enumerate" = some none)
    (z_range : PySem.W.nsIn K mainGlobals "range" = some none)
    (z_max : PySem.W.nsIn K mainGlobals "max" = some none)
    (z_bool : PySem.W.nsIn K mainGlobals "bool" = some none)
    (z_sum : PySem.W.nsIn K mainGlobals "sum" = some none)
    : ∃ fd : FuncData, (∀ (s : Shared) (v : Value), BindsTo s fd ⟨[v], []⟩ [("_law_script", v)]) ∧ ∀ base : Heap, K.In base → base.Ns mainGlobals mg → FnOk l.prog w K mg base CX0 152 fa fd ["_law_script"] (spLaw K) := by
  have e := hfa.symm.trans (PySem.W.mg_of X G a36)
  cases e
  have F1 := fun_mk (st := sNum) l1 c1 k1
  have b1 := F1.binds (ps := ["thing"]) fun _ _ _ _ _ _ us hl => match us, hl with | [_], _ => rfl
  have g1 := PySem.W.mg_of X G a1
  have F2 := fun_mk (st := sPlain) l2 c2 k2
  have b2 := F2.binds (ps := ["thing"]) fun _ _ _ _ _ _ us hl => match us, hl with | [_], _ => rfl
  have g2 := PySem.W.mg_of X G a2
  have F3 := fun_mk (st := sNameF) l3 c3 k3
  have b3 := F3.binds (ps := ["thing"]) fun _ _ _ _ _ _ us hl => match us, hl with | [_], _ => rfl
  have g3 := PySem.W.mg_of X G a3
  have F4 := fun_mk (st := sPlace) l4 c4 k4
  have b4 := F4.binds (ps := ["thing", "places"]) fun _ _ _ _ _ _ us hl => match us, hl with | [_, _], _ => rfl
  have g4 := PySem.W.mg_of X G a4
  have F5 := fun_mk (st := sEarlyF) l5 c5 k5
  have b5 := F5.binds (ps := ["part", "places"]) fun _ _ _ _ _ _ us hl => match us, hl with | [_, _], _ => rfl
  have g5 := PySem.W.mg_of X G a5
  have F6 := fun_mk (st := sNowF) l6 c6 k6
  have b6 := F6.binds (ps := ["part", "places"]) fun _ _ _ _ _ _ us hl => match us, hl with | [_, _], _ => rfl
  have g6 := PySem.W.mg_of X G a6
  have F7 := fun_mk (st := sPartF) l7 c7 k7
  have b7 := F7.binds (ps := ["thing", "places"]) fun _ _ _ _ _ _ us hl => match us, hl with | [_, _], _ => rfl
  have g7 := PySem.W.mg_of X G a7
  have F8 := fun_mk (st := sCall) l8 c8 k8
  have b8 := F8.binds (ps := ["judge", "part", "left"]) fun _ _ _ _ _ _ us hl => match us, hl with | [_, _, _], _ => rfl
  have g8 := PySem.W.mg_of X G a8
  have F9 := fun_mk (st := sFun) l9 c9 k9
  have b9 := F9.binds (ps := ["judge", "part", "left"]) fun _ _ _ _ _ _ us hl => match us, hl with | [_, _, _], _ => rfl
  have g9 := PySem.W.mg_of X G a9
  have F10 := fun_mk (st := sLet) l10 c10 k10
  have b10 := F10.binds (ps := ["judge", "part", "left"]) fun _ _ _ _ _ _ us hl => match us, hl with | [_, _, _], _ => rfl
  have g10 := PySem.W.mg_of X G a10
  have F11 := fun_mk (st := sCase) l11 c11 k11
  have b11 := F11.binds (ps := ["judge", "part", "left"]) fun _ _ _ _ _ _ us hl => match us, hl with | [_, _, _], _ => rfl
  have g11 := PySem.W.mg_of X G a11
  have F12 := fun_mk (st := sDeed) l12 c12 k12
  have b12 := F12.binds (ps := ["judge", "part", "left"]) fun _ _ _ _ _ _ us hl => match us, hl with | [_, _, _], _ => rfl
  have g12 := PySem.W.mg_of X G a12
  have F13 := fun_mk (st := sEarly) l13 c13 k13
  have b13 := F13.binds (ps := ["judge", "part", "left"]) fun _ _ _ _ _ _ us hl => match us, hl with | [_, _, _], _ => rfl
  have g13 := PySem.W.mg_of X G a13
  have F14 := fun_mk (st := sNow) l14 c14 k14
  have b14 := F14.binds (ps := ["judge", "part", "left"]) fun _ _ _ _ _ _ us hl => match us, hl with | [_, _, _], _ => rfl
  have g14 := PySem.W.mg_of X G a14
  have F15 := fun_mk (st := sProg) l15 c15 k15
  have b15 := F15.binds (ps := ["thing"]) fun _ _ _ _ _ _ us hl => match us, hl with | [_], _ => rfl
  have g15 := PySem.W.mg_of X G a15
  have F16 := fun_mk (st := sJof) l16 c16 k16
  have b16 := F16.binds (ps := ["program"]) fun _ _ _ _ _ _ us hl => match us, hl with | [_], _ => rfl
  have g16 := PySem.W.mg_of X G a16
  have F17 := fun_mk (st := sFrame) l17 c17 k17
  have b17 := F17.binds (ps := ["thing"]) fun _ _ _ _ _ _ us hl => match us, hl with | [_], _ => rfl
  have g17 := PySem.W.mg_of X G a17
  have F18 := fun_mk (st := sPlaces) l18 c18 k18
  have b18 := F18.binds (ps := ["places"]) fun _ _ _ _ _ _ us hl => match us, hl with | [_], _ => rfl
  have g18 := PySem.W.mg_of X G a18
  have F19 := fun_mk (st := sParts) l19 c19 k19
  have b19 := F19.binds (ps := ["program", "judge"]) fun _ _ _ _ _ _ us hl => match us, hl with | [_, _], _ => rfl
  have g19 := PySem.W.mg_of X G a19
  have F20 := fun_mk (st := sAt) l20 c20 k20
  have b20 := F20.binds (ps := ["_law_script", "_law_k"]) fun _ _ _ _ _ _ us hl => match us, hl with | [_, _], _ => rfl
  have g20 := PySem.W.mg_of X G a20
  have F21 := fun_mk (st := sMixed) l21 c21 k21
  have b21 := F21.binds (ps := ["_law_cell", "_law_k"]) fun _ _ _ _ _ _ us hl => match us, hl with | [_, _], _ => rfl
  have g21 := PySem.W.mg_of X G a21
  have F22 := fun_mk (st := sPurse) l22 c22 k22
  have b22 := F22.binds (ps := ["_law_script", "_law_at_here"]) fun _ _ _ _ _ _ us hl => match us, hl with | [_, _], _ => rfl
  have g22 := PySem.W.mg_of X G a22
  have F23 := fun_mk (st := sDraw) l23 c23 k23
  have b23 := F23.binds (ps := ["_law_purse_here", "_law_out_of"]) fun _ _ _ _ _ _ us hl => match us, hl with | [_, _], _ => rfl
  have g23 := PySem.W.mg_of X G a23
  have F24 := fun_mk (st := sFresh) l24 c24 k24
  have b24 := F24.binds (ps := ["_law_purse_here", "_law_own"]) fun _ _ _ _ _ _ us hl => match us, hl with | [_, _], _ => rfl
  have g24 := PySem.W.mg_of X G a24
  have F25 := fun_mk (st := sAtom) l25 c25 k25
  have b25 := F25.binds (ps := ["_law_purse_here", "_law_own", "_law_around"]) fun _ _ _ _ _ _ us hl => match us, hl with | [_, _, _], _ => rfl
  have g25 := PySem.W.mg_of X G a25
  have F26 := fun_mk (st := sTip) l26 c26 k26
  have b26 := F26.binds (ps := ["_law_purse_here", "_law_own", "_law_around", "_law_p"]) fun _ _ _ _ _ _ us hl => match us, hl with | [_, _, _, _], _ => rfl
  have g26 := PySem.W.mg_of X G a26
  have F27 := fun_mk (st := sGrown) l27 c27 k27
  have b27 := F27.binds (ps := ["_law_purse_here", "_law_own", "_law_around", "_law_deep"]) fun _ _ _ _ _ _ us hl => match us, hl with | [_, _, _, _], _ => rfl
  have g27 := PySem.W.mg_of X G a27
  have F28 := fun_mk (st := sCore) l28 c28 k28
  have b28 := F28.binds (ps := ["_law_purse_here", "_law_deep"]) fun _ _ _ _ _ _ us hl => match us, hl with | [_, _], _ => rfl
  have g28 := PySem.W.mg_of X G a28
  have F29 := fun_mk (st := sInner) l29 c29 k29
  have b29 := F29.binds (ps := ["_law_e"]) fun _ _ _ _ _ _ us hl => match us, hl with | [_], _ => rfl
  have g29 := PySem.W.mg_of X G a29
  have F30 := fun_mk (st := sWalked) l30 c30 k30
  have b30 := F30.binds (ps := ["_law_x", "_law_e"]) fun _ _ _ _ _ _ us hl => match us, hl with | [_, _], _ => rfl
  have g30 := PySem.W.mg_of X G a30
  have F31 := fun_mk (st := sIsCount) l31 c31 k31
  have b31 := F31.binds (ps := ["_law_one_thing", "_law_most"]) fun _ _ _ _ _ _ us hl => match us, hl with | [_, _], _ => rfl
  have g31 := PySem.W.mg_of X G a31
  have F32 := fun_mk (st := sIsName) l32 c32 k32
  have b32 := F32.binds (ps := ["_law_one_thing"]) fun _ _ _ _ _ _ us hl => match us, hl with | [_], _ => rfl
  have g32 := PySem.W.mg_of X G a32
  have F33 := fun_mk (st := sDue) l33 c33 k33
  have b33 := F33.binds (ps := ["_law_one_thing"]) fun _ _ _ _ _ _ us hl => match us, hl with | [_], _ => rfl
  have g33 := PySem.W.mg_of X G a33
  have F34 := fun_mk (st := sOdd) l34 c34 k34
  have b34 := F34.binds (ps := ["_law_program"]) fun _ _ _ _ _ _ us hl => match us, hl with | [_], _ => rfl
  have g34 := PySem.W.mg_of X G a34
  have F35 := fun_mk (st := sBounds) l35 c35 k35
  have b35 := F35.binds (ps := []) fun _ _ _ _ _ _ us hl => match us, hl with | [], _ => rfl
  have g35 := PySem.W.mg_of X G a35
  have F36 := fun_mk (st := sLaw) l36 c36 k36
  have Fy1 := fun_mk (st := jInit) ly1 cy1 ky1
  have by1 := Fy1.binds (ps := ["self", "places", "data", "tops"]) fun _ _ _ _ _ _ us hl => match us, hl with | [_, _, _, _], _ => rfl
  have my1 : Meth K C "__init__" fy1 := ⟨ay1, iy1, ky1⟩
  have Fy2 := fun_mk (st := jWrong) ly2 cy2 ky2
  have by2 := Fy2.binds (ps := ["self", "part", "left"]) fun _ _ _ _ _ _ us hl => match us, hl with | [_, _, _], _ => rfl
  have my2 : Meth K C "wrong_in" fy2 := ⟨ay2, iy2, ky2⟩
  have Fy3 := fun_mk (st := jFault) ly3 cy3 ky3
  have by3 := Fy3.binds (ps := ["self", "part"]) fun _ _ _ _ _ _ us hl => match us, hl with | [_, _], _ => rfl
  have my3 : Meth K C "fault" fy3 := ⟨ay3, iy3, ky3⟩
  have Fy4 := fun_mk (st := jRight) ly4 cy4 ky4
  have by4 := Fy4.binds (ps := ["self", "atoms"]) fun _ _ _ _ _ _ us hl => match us, hl with | [_, _], _ => rfl
  have my4 : Meth K C "are_right" fy4 := ⟨ay4, iy4, ky4⟩
  have Fy5 := fun_mk (st := jBind) ly5 cy5 ky5
  have by5 := Fy5.binds (ps := ["self", "names", "is_around"]) fun _ _ _ _ _ _ us hl => match us, hl with | [_, _, _], _ => rfl
  have my5 : Meth K C "bind" fy5 := ⟨ay5, iy5, ky5⟩
  have Fy6 := fun_mk (st := jAlts) ly6 cy6 ky6
  have by6 := Fy6.binds (ps := ["self", "alternatives"]) fun _ _ _ _ _ _ us hl => match us, hl with | [_, _], _ => rfl
  have my6 : Meth K C "are_alternatives" fy6 := ⟨ay6, iy6, ky6⟩
  have gC := PySem.W.mg_of X G aC
  have clC : SlX.SCls K C := ⟨pgC, icC, poC, saC⟩
  have stC0 : SlX.Slot1 K C "places" pC0 3 := ⟨sAC0, sBC0, sCC0, sDC0, sEC0, by decide⟩
  have stC1 : SlX.Slot1 K C "data" pC1 0 := ⟨sAC1, sBC1, sCC1, sDC1, sEC1, by decide⟩
  have stC2 : SlX.Slot1 K C "names" pC2 2 := ⟨sAC2, sBC2, sCC2, sDC2, sEC2, by decide⟩
  have stC3 : SlX.Slot1 K C "many" pC3 1 := ⟨sAC3, sBC3, sCC3, sDC3, sEC3, by decide⟩
  have MkC : Mk K C fy1 := ⟨mkC, ay1, iy1, kcC⟩
  have gcA := PySem.W.mg_of X G xA
  have gcB := PySem.W.mg_of X G xB
  have gcD := PySem.W.mg_of X G xD
  have gcE := PySem.W.mg_of X G xE
  have gcH := PySem.W.mg_of X G xH
  have gcI := PySem.W.mg_of X G xI
  have gcJ := PySem.W.mg_of X G xJ
  have szDD : itDD.size ≤ sizeLine := by
    have e : itDD.size = 5 := (Array.length_toList (xs := itDD)).symm.trans (vDD.length.symm.trans (by decide +kernel))
    rw [e]
    decide +kernel
  have ttDD : ∀ H, SqT K H aDD ((["plus", "less", "times", "below", "same"] : List Str).map V.str) := fun H => .inr ⟨_, itDD, nnDD, lDD, rfl, rfl, szDD, vDD⟩
  have tgDD := PySem.W.mg_of X G xDD
  have tdFF : N3.KD K w aFF (formsK.zip [V.ref fxFF0, V.ref fxFF1, V.ref fxFF2, V.ref fxFF3, V.ref fxFF4, V.ref fxFF5, V.ref fxFF6, V.ref fxFF7, V.ref fxFF8, V.ref f5, V.ref f6]) := ⟨⟨_, _, lFF, hFF, vFF⟩, oFF⟩
  have tgFF := PySem.W.mg_of X G xFF
  have tdJJ : N3.KD K w aJJ (judgesK.zip [V.ref f8, V.ref f9, V.ref f10, V.ref f11, V.ref f12, V.ref f13, V.ref f14]) := ⟨⟨_, _, lJJ, hJJ, vJJ⟩, oJJ⟩
  have tgJJ := PySem.W.mg_of X G xJJ
  have m_isinstance := PySem.W.mg_none_of X G z_isinstance
  have m_int := PySem.W.mg_none_of X G z_int
  have m_str := PySem.W.mg_none_of X G z_str
  have m_len := PySem.W.mg_none_of X G z_len
  have m_tuple := PySem.W.mg_none_of X G z_tuple
  have m_list := PySem.W.mg_none_of X G z_list
  have m_dict := PySem.W.mg_none_of X G z_dict
  have m_enumerate := PySem.W.mg_none_of X G z_enumerate
  have m_range := PySem.W.mg_none_of X G z_range
  have m_max := PySem.W.mg_none_of X G z_max
  have m_bool := PySem.W.mg_none_of X G z_bool
  have m_sum := PySem.W.mg_none_of X G z_sum
  refine ⟨PySem.W.fnOf "law" "law" (defArgs sLaw) (defBody sLaw) (defScope sLaw) .none kV36 dc36 pm36 an36 cd36 ct36, fun s v => .of_eq rfl, fun base _ _ => ?_⟩
  have T : TxtJ K w mg C pC0 pC1 pC2 pC3 aJJ (judgesK.zip [V.ref f8, V.ref f9, V.ref f10, V.ref f11, V.ref f12, V.ref f13, V.ref f14]) := { isi := m_isinstance, int := m_int, str := m_str, len := m_len, great := ⟨_, gcA⟩, signs := ⟨_, gcB⟩, tuple := m_tuple, cl := clC, s0 := stC0, s1 := stC1, s2 := stC2, s3 := stC3, gj := tgJJ, dj := tdJJ, gC := gC, most := ⟨_, gcD⟩ }
  have TD : DeedsOk K w mg aDD := ⟨tgDD, ttDD⟩
  have Gnum : FnOk l.prog w K mg base CX0 1 f1 _ ["thing"] spNum := ok_num F1 T.toTxtF
  have Gname : FnOk l.prog w K mg base CX0 1 f3 _ ["thing"] spName := ok_name F3 T.toTxtF
  have Gplain : FnOk l.prog w K mg base CX0 2 f2 _ ["thing"] spPlain := ok_plain F2 Gname k3 b3 g3
  have Gplace : FnOk l.prog w K mg base CX0 1 f4 _ ["thing", "places"] spPlace := ok_place F4 T.toTxtF
  have GearlyF : FnOk l.prog w K mg base CX0 2 f5 _ ["part", "places"] (spForm K "early") := ok_earlyF F5 T.toTxtF Gplace k4 b4 g4 Gname k3 b3 g3
  have GnowF : FnOk l.prog w K mg base CX0 2 f6 _ ["part", "places"] (spForm K "now") := ok_nowF F6 T.toTxtF Gplace k4 b4 g4 Gname k3 b3 g3
  have HE := (⟨⟨_, _, FnN.of GearlyF (by decide) (by decide), k5, b5⟩⟩ : HeldN l.prog w K mg base 5 f5 (spForm K "early"))
  have HN := (⟨⟨_, _, FnN.of GnowF (by decide) (by decide), k6, b6⟩⟩ : HeldN l.prog w K mg base 5 f6 (spForm K "now"))
  have GpartN : FnN l.prog w K mg base CX0 6 f7 _ ["thing", "places"] (spPart K) := ok_part F7 T.toTxtF m_tuple tgFF tdFF (forms_ok rfl rfl HN HE) Gplace k4 b4 g4
  have GpartBN : FnN l.prog w K mg base CX0 6 f7 _ ["thing", "places"] (spPartB K) := ok_partB F7 T.toTxtF m_tuple tgFF tdFF forms_isSome Gplace k4 b4 g4
  have Gpart : FnOk l.prog w K mg base CX0 3 f7 _ ["thing", "places"] (spPart K) := FnN.fn GpartN (by decide)
  have GpartB : FnOk l.prog w K mg base CX0 3 f7 _ ["thing", "places"] (spPartB K) := FnN.fn GpartBN (by decide)
  have Gfault : FnOk l.prog w K mg base CX0 5 fy3 _ ["self", "part"] (spFault K C) := ok_fault Fy3 T GpartB k7 b7 g7
  have Gright : FnOk l.prog w K mg base CX0 2 fy4 _ ["self", "atoms"] (spRight K C) := ok_right Fy4 T gcD Gplace k4 b4 g4 Gnum k1 b1 g1
  have Gbind : FnOk l.prog w K mg base CX0 2 fy5 _ ["self", "names", "is_around"] (spBind K C) := ok_bind Fy5 T Gname k3 b3 g3
  have Ginit : FnOk l.prog w K mg base CX0 1 fy1 _ ["self", "places", "data", "tops"] (spInit K C) := ok_init Fy1 T
  have Galts : ∀ D : Str → Nat → Bool, FnOk l.prog w K mg base CX0 3 fy6 _ ["self", "alternatives"] (spAlts K C D) := fun D => ok_alts Fy6 T gcD Gnum k1 b1 g1 Gbind by5 my5
  have GW : ∀ (D : Str → Nat → Bool) (L : Nat), FnN l.prog w K mg base CX0 (2 * L + 41) fy2 _ ["self", "part", "left"] (spWrong K C D L) := fun D => all_right T TD gcD Fy2 by2 my2 Gplace k4 b4 g4 Gnum k1 b1 g1 Gplain k2 b2 g2 Gname k3 b3 g3 Gpart k7 b7 g7 Gright by4 my4 Gfault by3 my3 Gbind by5 my5 (Galts D) by6 my6 F8 k8 b8 rfl F9 k9 b9 rfl F10 k10 b10 rfl F11 k11 b11 rfl F12 k12 b12 rfl F13 k13 b13 rfl F14 k14 b14 rfl
  have GDp : ∀ d : Nat, FnN l.prog w K mg base CX0 (2 * d + 41) fy2 _ ["self", "part", "left"] (spBadD K C d) := all_deep T Fy2 by2 my2 Gplace k4 b4 g4 Gnum k1 b1 g1 Gplain k2 b2 g2 Gpart k7 b7 g7 Gright by4 my4 Gfault by3 my3 F14 k14 b14 rfl
  have GWB : FnN l.prog w K mg base CX0 (2 * 200 + 41) fy2 _ ["self", "part", "left"] (spBadW K C 200) := ok_wrongB Fy2 T Gplace k4 b4 g4 Gnum k1 b1 g1 Gplain k2 b2 g2 Gright by4 my4 Gfault by3 my3
  have GPR : FnN l.prog w K mg base CX0 444 f19 _ ["program", "judge"] (fun vs H Q E => ∃ D, spPartsR K C D vs H Q E) := FnN.ex fun D => (ok_partsR F19 T gcE gcH gcI (GW D 200) by2 my2).mono (by decide)
  have GPB : FnN l.prog w K mg base CX0 444 f19 _ ["program", "judge"] (spPartsB K C) := ok_partsB F19 T gcE gcH gcI ((GWB.mono (by decide)).or (GDp 201)) by2 my2
  have GPt : FnOk l.prog w K mg base CX0 149 f19 _ ["program", "judge"] (spPartsAll K C) := FnN.fn (GPR.or GPB) (by decide)
  have Gplaces : FnOk l.prog w K mg base CX0 2 f18 _ ["places"] (spPlaces K) := ok_places F18 T.toTxtF m_tuple m_enumerate gcJ Gnum k1 b1 g1
  have Gframe : FnOk l.prog w K mg base CX0 3 f17 _ ["thing"] (spFrame K) := ok_frame F17 T.toTxtF m_tuple m_list m_dict m_enumerate Gplaces k18 b18 g18 Gplain k2 b2 g2
  have Gjof : FnOk l.prog w K mg base CX0 3 f16 _ ["program"] (spJof K C) := ok_jof F16 T MkC Ginit by1
  have Gprog : FnOk l.prog w K mg base CX0 150 f15 _ ["thing"] (spProg K) := ok_prog F15 Gframe k17 b17 g17 GPt k19 b19 g19 Gjof k16 b16 g16
  have Gat : FnOk l.prog w K mg base CX0 1 f20 _ ["_law_script", "_law_k"] (spAt K) := ok_at F20 m_len
  have Gmixed : FnOk l.prog w K mg base CX0 1 f21 _ ["_law_cell", "_law_k"] spMixed := ok_mixed F21
  have Gpurse : FnOk l.prog w K mg base CX0 2 f22 _ ["_law_script", "_law_at_here"] (spPurse K) := ok_purse F22 m_max Gat k20 b20 g20
  have Gdraw : FnOk l.prog w K mg base CX0 2 f23 _ ["_law_purse_here", "_law_out_of"] spDraw := ok_draw F23 m_range Gmixed k21 b21 g21
  have Gfresh : FnOk l.prog w K mg base CX0 3 f24 _ ["_law_purse_here", "_law_own"] spFresh := ok_fresh F24 m_str Gdraw k23 b23 g23
  have Gatom : FnOk l.prog w K mg base CX0 3 f25 _ ["_law_purse_here", "_law_own", "_law_around"] (spAtom K) := ok_atom F25 m_int m_len Gdraw k23 b23 g23
  have Gtip : FnOk l.prog w K mg base CX0 4 f26 _ ["_law_purse_here", "_law_own", "_law_around", "_law_p"] (spTip K) := ok_tip F26 m_len Gdraw k23 b23 g23 Gatom k25 b25 g25
  have Ggrown : FnOk l.prog w K mg base CX0 7 f27 _ ["_law_purse_here", "_law_own", "_law_around", "_law_deep"] (spGrown K 2 255 16 24 80) := all_grown F27 m_range k27 b27 g27 Gdraw k23 b23 g23 Gfresh k24 b24 g24 Gtip k26 b26 g26
  have Gcore : FnOk l.prog w K mg base CX0 8 f28 _ ["_law_purse_here", "_law_deep"] (spCore K) := ok_core F28 m_range Gdraw k23 b23 g23 Ggrown k27 b27 g27
  have Ginner : FnOk l.prog w K mg base CX0 1 f29 _ ["_law_e"] (spInner K) := ok_inner F29
  have Gwalked : FnOk l.prog w K mg base CX0 2 f30 _ ["_law_x", "_law_e"] (spWalk K) := ok_walked F30 m_range m_len Ginner k29 b29 g29
  have GisC : FnOk l.prog w K mg base CX0 1 f31 _ ["_law_one_thing", "_law_most"] spIsC := ok_isC F31 T.toTxtF m_bool
  have GisN : FnOk l.prog w K mg base CX0 1 f32 _ ["_law_one_thing"] spIsN := ok_isN F32 T.toTxtF
  have Gdue : FnOk l.prog w K mg base CX0 2 f33 _ ["_law_one_thing"] (spDue K) := ok_due F33 T.toTxtF m_tuple m_list m_dict m_enumerate GisC k31 b31 g31 GisN k32 b32 g32
  have Godd : FnOk l.prog w K mg base CX0 1 f34 _ ["_law_program"] (spOdd K) := ok_odd F34 m_tuple
  have Gbounds : FnOk l.prog w K mg base CX0 151 f35 _ [] spBounds := ok_bounds F35 m_range m_str m_int m_tuple m_len m_sum Gprog k15 b15 g15 Gwalked k30 b30 g30
  exact ok_law F36 m_range Gpurse k22 b22 g22 Gcore k28 b28 g28 Gdue k33 b33 g33 Gprog k15 b15 g15 (kb_prog F15) Godd k34 b34 g34 Gbounds k35 b35 g35
theorem walk {l : PySem.W.OpenLaw} {q : Program} {loose : List Str} {XP : (Str → Option Value) → Heap → Prop} {YP : World → Heap → Prop} {d : DefRec} {K : Params → PySem.W.Frag} (hn : l.most = some 63) (hdf : d.params.defaults = [])
    (hY : ∀ (w : World) (h : Heap), YP w h → (K w.params).In h) (F : ∀ (w : World) (mg : Str → Option Value) (fa : Addr) (h : Heap), (K w.params).In h → h.Ns mainGlobals mg → mg d.name = some (.ref fa) → ∃ fd : FuncData,
      (∀ (s : Shared) (u : Value), BindsTo s fd ⟨[u], []⟩ [("_law_script", u)]) ∧ ∀ base : Heap, (K w.params).In base → base.Ns mainGlobals mg → FnOk l.prog w (K w.params) mg base CX0 152 fa fd ["_law_script"] (spLaw (K w.params))) :
    PySem.W.WalkO q loose XP YP l.row.toRowW d [] (fun f vs => PySem.call f vs) := by
  refine L2.walk_of (n := 63) (k := 152) (x := "_law_script") (CX := fun _ => CX0) (sp := fun w => spLaw (K w.params)) hn (by decide) hdf ⟨rfl, by decide, by decide⟩ hY F ?_ ?_
  · exact fun _ _ a ns hl _ hS => ⟨a, ns, rfl, hS, hl, fun _ => rfl⟩
  · exact fun _ _ _ _ _ z => z
end J45

set_option Elab.async false
open PySem PySem.W PyProof.Rows in
set_option maxRecDepth 100000 in
set_option maxHeartbeats 0 in
theorem PySem.Challenge.cw_slumberway_k45_programs_by_their_own_for_holds : PySem.Challenge.rw_slumberway_k45_programs_by_their_own_for.Holds := by
  w_on; o_law; k_head; (case hw => w_witness2)
  k_fill
  refine J45.walk (l := PySem.Challenge.rw_slumberway_k45_programs_by_their_own_for) rfl rfl (fun w h Y => PySem.W.kIn_of Y) ?F
  case F =>
    intro w mg fa h KX G hmg
    refine' J45.all_mk KX G hmg ?a1 ?l1 ?c1 ?k1 ?a2 ?l2 ?c2 ?k2 ?a3 ?l3 ?c3 ?k3 ?a4 ?l4 ?c4 ?k4 ?a5 ?l5 ?c5 ?k5 ?a6 ?l6 ?c6 ?k6 ?a7 ?l7 ?c7 ?k7 ?a8 ?l8 ?c8 ?k8 ?a9 ?l9 ?c9 ?k9 ?a10 ?l10 ?c10 ?k10 ?a11 ?l11 ?c11 ?k11 ?a12 ?l12 ?c12 ?k12 ?a13 ?l13 ?c13 ?k13 ?a14 ?l14 ?c14 ?k14 ?a15 ?l15 ?c15 ?k15 ?a16 ?l16 ?c16 ?k16 ?a17 ?l17 ?c17 ?k17 ?a18 ?l18 ?c18 ?k18 ?a19 ?l19 ?c19 ?k19 ?a20 ?l20 ?c20 ?k20 ?a21 ?l21 ?c21 ?k21 ?a22 ?l22 ?c22 ?k22 ?a23 ?l23 ?c23 ?k23 ?a24 ?l24 ?c24 ?k24 ?a25 ?l25 ?c25 ?k25 ?a26 ?l26 ?c26 ?k26 ?a27 ?l27 ?c27 ?k27 ?a28 ?l28 ?c28 ?k28 ?a29 ?l29 ?c29 ?k29 ?a30 ?l30 ?c30 ?k30 ?a31 ?l31 ?c31 ?k31 ?a32 ?l32 ?c32 ?k32 ?a33 ?l33 ?c33 ?k33 ?a34 ?l34 ?c34 ?k34 ?a35 ?l35 ?c35 ?k35 ?a36 ?l36 ?c36 ?k36 ?aC ?ay1 ?iy1 ?ly1 ?cy1 ?ky1 ?ay2 ?iy2 ?ly2 ?cy2 ?ky2 ?ay3 ?iy3 ?ly3 ?cy3 ?ky3 ?ay4 ?iy4 ?ly4 ?cy4 ?ky4 ?ay5 ?iy5 ?ly5 ?cy5 ?ky5 ?ay6 ?iy6 ?ly6 ?cy6 ?ky6 ?pgC ?icC ?poC ?saC ?mkC ?kcC ?sAC0 ?sBC0 ?sCC0 ?sDC0 ?sEC0 ?sAC1 ?sBC1 ?sCC1 ?sDC1 ?sEC1 ?sAC2 ?sBC2 ?sCC2 ?sDC2 ?sEC2 ?sAC3 ?sBC3 ?sCC3 ?sDC3 ?sEC3 ?xA ?xB ?xD ?xE ?xH ?xI ?xJ ?xDD ?lDD ?vDD ?xFF ?lFF ?hFF ?vFF ?oFF ?xJJ ?lJJ ?hJJ ?vJJ ?oJJ ?z_isinstance ?z_int ?z_str ?z_len ?z_tuple ?z_list ?z_dict ?z_enumerate ?z_range ?z_max ?z_bool ?z_sum
    (case a1 => k_is)
    (case l1 => k_is)
    (case c1 => k_is)
    (case k1 => k_is)
    (case a2 => k_is)
    (case l2 => k_is)
    (case c2 => k_is)
    (case k2 => k_is)
    (case a3 => k_is)
    (case l3 => k_is)
    (case c3 => k_is)
    (case k3 => k_is)
    (case a4 => k_is)
    (case l4 => k_is)
    (case c4 => k_is)
    (case k4 => k_is)
    (case a5 => k_is)
    (case l5 => k_is)
    (case c5 => k_is)
    (case k5 => k_is)
    (case a6 => k_is)
    (case l6 => k_is)
    (case c6 => k_is)
    (case k6 => k_is)
    (case a7 => k_is)
    (case l7 => k_is)
    (case c7 => k_is)
    (case k7 => k_is)
    (case a8 => k_is)
    (case l8 => k_is)
    (case c8 => k_is)
    (case k8 => k_is)
    (case a9 => k_is)
    (case l9 => k_is)
    (case c9 => k_is)
    (case k9 => k_is)
    (case a10 => k_is)
    (case l10 => k_is)
    (case c10 => k_is)
    (case k10 => k_is)
    (case a11 => k_is)
    (case l11 => k_is)
    (case c11 => k_is)
    (case k11 => k_is)
    (case a12 => k_is)
    (case l12 => k_is)
    (case c12 => k_is)
    (case k12 => k_is)
    (case a13 => k_is)
    (case l13 => k_is)
    (case c13 => k_is)
    (case k13 => k_is)
    (case a14 => k_is)
    (case l14 => k_is)
    (case c14 => k_is)
    (case k14 => k_is)
    (case a15 => k_is)
    (case l15 => k_is)
    (case c15 => k_is)
    (case k15 => k_is)
    (case a16 => k_is)
    (case l16 => k_is)
    (case c16 => k_is)
    (case k16 => k_is)
    (case a17 => k_is)
    (case l17 => k_is)
    (case c17 => k_is)
    (case k17 => k_is)
    (case a18 => k_is)
    (case l18 => k_is)
    (case c18 => k_is)
    (case k18 => k_is)
    (case a19 => k_is)
    (case l19 => k_is)
    (case c19 => k_is)
    (case k19 => k_is)
    (case a20 => k_is)
    (case l20 => k_is)
    (case c20 => k_is)
    (case k20 => k_is)
    (case a21 => k_is)
    (case l21 => k_is)
    (case c21 => k_is)
    (case k21 => k_is)
    (case a22 => k_is)
    (case l22 => k_is)
    (case c22 => k_is)
    (case k22 => k_is)
    (case a23 => k_is)
    (case l23 => k_is)
    (case c23 => k_is)
    (case k23 => k_is)
    (case a24 => k_is)
    (case l24 => k_is)
    (case c24 => k_is)
    (case k24 => k_is)
    (case a25 => k_is)
    (case l25 => k_is)
    (case c25 => k_is)
    (case k25 => k_is)
    (case a26 => k_is)
    (case l26 => k_is)
    (case c26 => k_is)
    (case k26 => k_is)
    (case a27 => k_is)
    (case l27 => k_is)
    (case c27 => k_is)
    (case k27 => k_is)
    (case a28 => k_is)
    (case l28 => k_is)
    (case c28 => k_is)
    (case k28 => k_is)
    (case a29 => k_is)
    (case l29 => k_is)
    (case c29 => k_is)
    (case k29 => k_is)
    (case a30 => k_is)
    (case l30 => k_is)
    (case c30 => k_is)
    (case k30 => k_is)
    (case a31 => k_is)
    (case l31 => k_is)
    (case c31 => k_is)
    (case k31 => k_is)
    (case a32 => k_is)
    (case l32 => k_is)
    (case c32 => k_is)
    (case k32 => k_is)
    (case a33 => k_is)
    (case l33 => k_is)
    (case c33 => k_is)
    (case k33 => k_is)
    (case a34 => k_is)
    (case l34 => k_is)
    (case c34 => k_is)
    (case k34 => k_is)
    (case a35 => k_is)
    (case l35 => k_is)
    (case c35 => k_is)
    (case k35 => k_is)
    (case a36 => k_is)
    (case l36 => k_is)
    (case c36 => k_is)
    (case k36 => k_is)
    (case aC => k_is)
    (case ay1 => k_is)
    (case iy1 => k_is)
    (case ly1 => k_is)
    (case cy1 => k_is)
    (case ky1 => k_is)
    (case ay2 => k_is)
    (case iy2 => k_is)
    (case ly2 => k_is)
    (case cy2 => k_is)
    (case ky2 => k_is)
    (case ay3 => k_is)
    (case iy3 => k_is)
    (case ly3 => k_is)
    (case cy3 => k_is)
    (case ky3 => k_is)
    (case ay4 => k_is)
    (case iy4 => k_is)
    (case ly4 => k_is)
    (case cy4 => k_is)
    (case ky4 => k_is)
    (case ay5 => k_is)
    (case iy5 => k_is)
    (case ly5 => k_is)
    (case cy5 => k_is)
    (case ky5 => k_is)
    (case ay6 => k_is)
    (case iy6 => k_is)
    (case ly6 => k_is)
    (case cy6 => k_is)
    (case ky6 => k_is)
    (case pgC => k_is)
    (case icC => k_is)
    (case poC => k_is)
    (case saC => k_is)
    (case mkC => k_is)
    (case kcC => k_is)
    (case sAC0 => k_is)
    (case sBC0 => k_is)
    (case sCC0 => k_is)
    (case sDC0 => k_is)
    (case sEC0 => k_is)
    (case sAC1 => k_is)
    (case sBC1 => k_is)
    (case sCC1 => k_is)
    (case sDC1 => k_is)
    (case sEC1 => k_is)
    (case sAC2 => k_is)
    (case sBC2 => k_is)
    (case sCC2 => k_is)
    (case sDC2 => k_is)
    (case sEC2 => k_is)
    (case sAC3 => k_is)
    (case sBC3 => k_is)
    (case sCC3 => k_is)
    (case sDC3 => k_is)
    (case sEC3 => k_is)
    (case xA => k_is)
    (case xB => k_is)
    (case xD => k_is)
    (case xE => k_is)
    (case xH => k_is)
    (case xI => k_is)
    (case xJ => k_is)
    (case xDD => k_is)
    (case lDD => k_is)
    (case vDD => exact J45.vals_DD)
    (case xFF => k_is)
    (case lFF => k_is)
    (case hFF => exact ⟨⟨_, _, rfl, rfl⟩, ⟨⟨_, _, rfl, rfl⟩, ⟨⟨_, _, rfl, rfl⟩, ⟨⟨_, _, rfl, rfl⟩, ⟨⟨_, _, rfl, rfl⟩, ⟨⟨_, _, rfl, rfl⟩, ⟨⟨_, _, rfl, rfl⟩, ⟨⟨_, _, rfl, rfl⟩, ⟨⟨_, _, rfl, rfl⟩, ⟨⟨_, _, rfl, rfl⟩, ⟨⟨_, _, rfl, rfl⟩, trivial⟩⟩⟩⟩⟩⟩⟩⟩⟩⟩⟩)
    (case vFF => rw [J45.zip_FF]; exact ⟨⟨_, rfl⟩, rfl, ⟨⟨_, rfl⟩, rfl, ⟨⟨_, rfl⟩, rfl, ⟨⟨_, rfl⟩, rfl, ⟨⟨_, rfl⟩, rfl, ⟨⟨_, rfl⟩, rfl, ⟨⟨_, rfl⟩, rfl, ⟨⟨_, rfl⟩, rfl, ⟨⟨_, rfl⟩, rfl, ⟨⟨_, rfl⟩, rfl, ⟨⟨_, rfl⟩, rfl, trivial⟩⟩⟩⟩⟩⟩⟩⟩⟩⟩⟩)
    (case oFF => first | rfl | k_is | decide)
    (case xJJ => k_is)
    (case lJJ => k_is)
    (case hJJ => exact ⟨⟨_, _, rfl, rfl⟩, ⟨⟨_, _, rfl, rfl⟩, ⟨⟨_, _, rfl, rfl⟩, ⟨⟨_, _, rfl, rfl⟩, ⟨⟨_, _, rfl, rfl⟩, ⟨⟨_, _, rfl, rfl⟩, ⟨⟨_, _, rfl, rfl⟩, trivial⟩⟩⟩⟩⟩⟩⟩)
    (case vJJ => rw [J45.zip_JJ]; exact ⟨⟨_, rfl⟩, rfl, ⟨⟨_, rfl⟩, rfl, ⟨⟨_, rfl⟩, rfl, ⟨⟨_, rfl⟩, rfl, ⟨⟨_, rfl⟩, rfl, ⟨⟨_, rfl⟩, rfl, ⟨⟨_, rfl⟩, rfl, trivial⟩⟩⟩⟩⟩⟩⟩)
    (case oJJ => first | rfl | k_is | decide)
    (case z_isinstance => k_is)
    (case z_int => k_is)
    (case z_str => k_is)
    (case z_len => k_is)
    (case z_tuple => k_is)
    (case z_list => k_is)
    (case z_dict => k_is)
    (case z_enumerate => k_is)
    (case z_range => k_is)
    (case z_max => k_is)
    (case z_bool => k_is)
    (case z_sum => k_is)

