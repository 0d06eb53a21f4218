import PyProof.Rows.All
import Wide.All
import OpenK.AllK
import Wide.FinOn
import HandS.ForMost
import HandS.Wide
import HandS.Deep
import HandS.NoneIn
import HandS.IsInst
import HandS.StrMore
import HandS.Codes
import KE.GoesEnumKw
import HandS.ExcIs
import HandS.ExcField
import HandS.TryOnly
import KE.KIsAll
import HandS.ExcOwn
import HandS.More
import HandS.SetFor
import HandS.TupLe
import HandS.ForSpec
import Open.Seg
import PyProof.Sound
import PyProof.Ends
import PyProof.DictFindH
import PyProof.TupleKey
import PyProof.DictKinds
import PyProof.DictDisplay
import PyProof.MakeMany
import PyProof.FactsDict
import PyProof.FactsAll.dict
import PyProof.DictUpdate
import PyProof.EvalArms
import PyProof.Rules
import PyProof.ByEvalTree
import HandS.Head2
import HandS.Words
import HandS.HeadHook2
import KE.KStateDown
import HandS.HeadEnd
import PySem.Challenge.RW_slumberway_k80_rows_edited
/-! The lexer on lists of codes: what a row's lexemes are, and that lexemes written one behind the other are read again. -/
set_option Elab.async false
namespace Lx
inductive Srt where
  | name | word | maker | number | sign
  deriving DecidableEq, Repr
abbrev Tok := Nat × Srt × List Nat
def small (c : Nat) : Bool := decide (97 ≤ c) && decide (c ≤ 122)
def great (c : Nat) : Bool := decide (65 ≤ c) && decide (c ≤ 90)
def figure (c : Nat) : Bool := decide (48 ≤ c) && decide (c ≤ 57)
def alnum (c : Nat) : Bool := small c || great c || figure c
def words : List (List Nat) := [[100, 97, 116, 97], [108, 101, 116], [105, 110], [105, 102], [116, 104, 101, 110], [101, 108, 115, 101], [99, 97, 115, 101], [111, 102], [102, 117, 110]]
def signs : List (List Nat) := [[61, 61], [45, 62], [61], [124], [40], [41], [43], [45], [42], [60], [95]]
def runLen (p : Nat → Bool) (s : List Nat) : Nat := (s.takeWhile p).length
def behind (s : List Nat) (n : Nat) : Bool := match s.drop n with
  | [] => false
  | c :: _ => alnum c
def tokLen : List Nat → Option (Srt × Nat)
  | [] => none
  | c :: r =>
    if small c = true then some (if words.contains ((c :: r).take (1 + runLen small (r.take 7))) = true then .word else .name, 1 + runLen small (r.take 7))
    else if great c = true then some (.maker, 1 + runLen small (r.take 7))
    else if figure c = true then some (.number, if c = 48 then 1 else 1 + runLen figure r)
    else match signs.find? (fun g => g.isPrefixOf (c :: r)) with
      | some g => some (.sign, g.length)
      | none => none
def tokAt (s : List Nat) : Except Nat (Srt × Nat) := match tokLen s with
  | none => .error 0
  | some (t, n) => if t = .sign then .ok (t, n) else if behind s n = true then .error n else .ok (t, n)
def pre (found : List Tok) : Except Nat (List Tok) → Except Nat (List Tok)
  | .ok l => .ok (found ++ l)
  | .error e => .error e
def lex (col : Nat) : List Nat → Except Nat (List Tok)
  | [] => .ok []
  | c :: r =>
    if c = 45 ∧ r.head? = some 45 then .ok []
    else if c = 32 then lex (col + 1) r
    else match tokAt (c :: r) with
      | .error k => .error (col + k)
      | .ok (t, n) => pre [(col, t, (c :: r).take n)] (lex (col + n) (r.drop (n - 1)))
  termination_by s => s.length
  decreasing_by
    all_goals simp only [List.length_cons, List.length_drop]
    all_goals omega
theorem pre_pre (a b : List Tok) (x : Except Nat (List Tok)) : pre a (pre b x) = pre (a ++ b) x := by
  cases x with
  | ok l => simp [pre]
  | error e => rfl
theorem pre_nil (x : Except Nat (List Tok)) : pre [] x = x := by cases x <;> rfl
theorem lex_nil (col : Nat) : lex col [] = .ok [] := by rw [lex.eq_def]
theorem lex_blank (col : Nat) (r : List Nat) : lex col (32 :: r) = lex (col + 1) r := by
  rw [lex.eq_def]
  simp
theorem lex_blanks (g : Nat) : ∀ (col : Nat) (r : List Nat), lex col (List.replicate g 32 ++ r) = lex (col + g) r := by
  induction g with
  | zero => intro col r; simp
  | succ g ih =>
    intro col r
    rw [List.replicate_succ, List.cons_append, lex_blank, ih]
    congr 1
    omega
theorem lex_remark (col : Nat) (r : List Nat) : lex col (45 :: 45 :: r) = .ok [] := by
  rw [lex.eq_def]
  simp
theorem lex_tok {col : Nat} {c : Nat} {r : List Nat} {t : Srt} {n : Nat} (h1 : ¬ (c = 45 ∧ r.head? = some 45)) (h2 : c ≠ 32) (h3 : tokAt (c :: r) = .ok (t, n)) :
    lex col (c :: r) = pre [(col, t, (c :: r).take n)] (lex (col + n) (r.drop (n - 1))) := by
  rw [lex.eq_def]
  simp only [h1, if_false, h2, h3]
/-! ### lexemes that are right, and what may stand behind one -/
def Valid : Srt → List Nat → Prop
  | .name, w => w ≠ [] ∧ w.length ≤ 8 ∧ (∀ c ∈ w, small c = true) ∧ words.contains w = false
  | .word, w => w ∈ words
  | .maker, w => ∃ c r, w = c :: r ∧ great c = true ∧ r.length ≤ 7 ∧ ∀ c ∈ r, small c = true
  | .number, w => w = [48] ∨ ∃ c r, w = c :: r ∧ figure c = true ∧ c ≠ 48 ∧ ∀ c ∈ r, figure c = true
  | .sign, w => w ∈ signs
def compat : Option (Srt × List Nat) → List Nat → Prop
  | none, _ => True
  | some _, [] => True
  | some (t, w), x :: _ => if t = .sign then ¬ (w = [45] ∧ (x = 62 ∨ x = 45)) ∧ ¬ (w = [61] ∧ x = 61) else alnum x = false
theorem takeWhile_app {p : Nat → Bool} : ∀ {w c : List Nat}, (∀ x ∈ w, p x = true) → (∀ x r, c = x :: r → p x = false) → (w ++ c).takeWhile p = w
  | [], [], _, _ => rfl
  | [], x :: r, _, h => by
    have e := h x r rfl
    simp [List.takeWhile, e]
  | a :: w, c, h, h2 => by
    have e := h a (by simp)
    have ih := takeWhile_app (w := w) (c := c) (fun x hx => h x (by simp [hx])) h2
    simp [List.takeWhile, e, ih]
theorem alnum_parts {x : Nat} (h : alnum x = false) : small x = false ∧ great x = false ∧ figure x = false := by
  unfold alnum at h
  simp only [Bool.or_eq_false_iff] at h
  exact ⟨h.1.1, h.1.2, h.2⟩
theorem small_not {c : Nat} (h : small c = true) : great c = false ∧ figure c = false ∧ c ≠ 45 ∧ c ≠ 32 := by
  unfold small at h
  unfold great figure
  simp only [Bool.and_eq_true, decide_eq_true_eq] at h
  simp only [Bool.and_eq_false_iff, decide_eq_false_iff_not]
  omega
theorem great_not {c : Nat} (h : great c = true) : small c = false ∧ figure c = false ∧ c ≠ 45 ∧ c ≠ 32 := by
  unfold great at h
  unfold small figure
  simp only [Bool.and_eq_true, decide_eq_true_eq] at h
  simp only [Bool.and_eq_false_iff, decide_eq_false_iff_not]
  omega
theorem figure_not {c : Nat} (h : figure c = true) : small c = false ∧ great c = false ∧ c ≠ 45 ∧ c ≠ 32 := by
  unfold figure at h
  unfold small great
  simp only [Bool.and_eq_true, decide_eq_true_eq] at h
  simp only [Bool.and_eq_false_iff, decide_eq_false_iff_not]
  omega
theorem run7 {r c : List Nat} (h : ∀ x ∈ r, small x = true) (hl : r.length ≤ 7) (hc : ∀ x q, c = x :: q → small x = false) : runLen small ((r ++ c).take 7) = r.length := by
  unfold runLen
  rw [List.take_append]
  rw [List.take_of_length_le hl, takeWhile_app h]
  intro x q e
  cases c with
  | nil => simp at e
  | cons y s =>
    cases hk : 7 - r.length with
    | zero => rw [hk] at e; simp at e
    | succ k =>
      rw [hk, List.take_succ_cons] at e
      cases e
      exact hc _ _ rfl
theorem behind_app {w c : List Nat} (hc : ∀ x q, c = x :: q → alnum x = false) : behind (w ++ c) w.length = false := by
  unfold behind
  rw [List.drop_left]
  cases c with
  | nil => rfl
  | cons x q => exact hc x q rfl
theorem words_small : ∀ w ∈ words, w ≠ [] ∧ w.length ≤ 8 ∧ ∀ c ∈ w, small c = true := by decide
theorem signs_find : ∀ w ∈ signs, ∀ v ∈ signs, v.isPrefixOf w = true → v = w ∨ (v = [61] ∧ w = [61, 61]) ∨ (v = [45] ∧ w = [45, 62]) := by decide
theorem signs_not : ∀ w ∈ signs, ∃ c r, w = c :: r ∧ small c = false ∧ great c = false ∧ figure c = false ∧ c ≠ 32 ∧ (c = 45 → w = [45] ∨ w = [45, 62]) := by
  intro w h
  simp only [signs, List.mem_cons, List.not_mem_nil, or_false] at h
  rcases h with h | h | h | h | h | h | h | h | h | h | h <;> subst h <;> exact ⟨_, _, rfl, by decide⟩
theorem find_sign {w c : List Nat} (h : w ∈ signs) (hc : compat (some (.sign, w)) c) : signs.find? (fun g => g.isPrefixOf (w ++ c)) = some w := by
  have key : ∀ x q, c = x :: q → ¬ (w = [45] ∧ (x = 62 ∨ x = 45)) ∧ ¬ (w = [61] ∧ x = 61) := by
    intro x q e
    subst e
    simpa [compat] using hc
  simp only [signs, List.mem_cons, List.not_mem_nil, or_false] at h
  cases c with
  | nil => rcases h with h | h | h | h | h | h | h | h | h | h | h <;> subst h <;> decide
  | cons x q =>
    have k := key x q rfl
    rcases h with h | h | h | h | h | h | h | h | h | h | h <;> subst h <;> simp [signs, List.find?, List.isPrefixOf] at k ⊢
    · rw [show (61 == x) = false by simpa using fun e => k e.symm]
    · rw [show (62 == x) = false by simpa using fun e => k.1 e.symm]
theorem tokLen_great {c : Nat} {r : List Nat} (h1 : small c = false) (h2 : great c = true) : tokLen (c :: r) = some (.maker, 1 + runLen small (r.take 7)) := by
  simp only [tokLen, h1, h2, if_true, Bool.false_eq_true, if_false]
theorem tokLen_figure {c : Nat} {r : List Nat} (h1 : small c = false) (h2 : great c = false) (h3 : figure c = true) : tokLen (c :: r) = some (.number, if c = 48 then 1 else 1 + runLen figure r) := by
  simp only [tokLen, h1, h2, h3, if_true, Bool.false_eq_true, if_false]
theorem tokAt_of {s : List Nat} {t : Srt} {n : Nat} (h : tokLen s = some (t, n)) (ht : t ≠ .sign) (hb : behind s n = false) : tokAt s = .ok (t, n) := by
  unfold tokAt
  rw [h]
  simp only [ht, hb, if_false, Bool.false_eq_true]
theorem tok_valid {t : Srt} {w c : List Nat} (hv : Valid t w) (hc : compat (some (t, w)) c) : tokAt (w ++ c) = .ok (t, w.length) := by
  have key : t ≠ .sign → ∀ x q, c = x :: q → alnum x = false := by
    intro ht x q e
    subst e
    simpa [compat, ht] using hc
  have smallCase : ∀ (w : List Nat), w ≠ [] → w.length ≤ 8 → (∀ c ∈ w, small c = true) → (∀ x q, c = x :: q → alnum x = false) → tokAt (w ++ c) = .ok (if words.contains w = true then .word else .name, w.length) := by
    intro w h1 h2 h3 h4
    cases w with
    | nil => exact absurd rfl h1
    | cons a r =>
      have ha := h3 a (by simp)
      have hr : runLen small ((r ++ c).take 7) = r.length := run7 (fun x hx => h3 x (by simp [hx])) (by simpa using h2) fun x q e => (alnum_parts (h4 x q e)).1
      have hl : (a :: r ++ c).take (1 + r.length) = a :: r := by
        rw [show 1 + r.length = (a :: r).length by simp; omega]
        exact List.take_left
      have hb : behind (a :: r ++ c) (1 + r.length) = false := by
        rw [show 1 + r.length = (a :: r).length by simp; omega]
        exact behind_app h4
      have ht : ∀ b : Bool, (if b = true then Srt.word else Srt.name) ≠ .sign := by intro b; cases b <;> decide
      rw [List.cons_append] at hl hb ⊢
      unfold tokAt tokLen
      simp only [ha, if_true, hr, hl, hb]
      rw [if_neg (ht _)]
      simp
      omega
  cases t with
  | name =>
    obtain ⟨h1, h2, h3, h4⟩ := hv
    rw [smallCase w h1 h2 h3 (key (by decide)), h4]
    rfl
  | word =>
    obtain ⟨h1, h2, h3⟩ := words_small w hv
    rw [smallCase w h1 h2 h3 (key (by decide)), if_pos (by simpa using (show w ∈ words from hv))]
  | maker =>
    obtain ⟨a, r, rfl, ha, hl7, h3⟩ := hv
    have h4 := key (by decide)
    have hs := (great_not ha).1
    have hr : runLen small ((r ++ c).take 7) = r.length := run7 h3 hl7 fun x q e => (alnum_parts (h4 x q e)).1
    have hb : behind (a :: r ++ c) (1 + r.length) = false := by
      rw [show 1 + r.length = (a :: r).length by simp; omega]
      exact behind_app h4
    rw [List.cons_append] at hb ⊢
    rw [tokAt_of (by rw [tokLen_great hs ha, hr]) (by decide) hb]
    simp
    omega
  | number =>
    have h4 := key (by decide)
    have fin : ∀ (a : Nat) (r : List Nat), figure a = true → (if a = 48 then 1 else 1 + runLen figure (r ++ c)) = 1 + r.length → tokAt (a :: r ++ c) = .ok (.number, (a :: r).length) := by
      intro a r ha hn
      have hs := (figure_not ha).1
      have hg := (figure_not ha).2.1
      have hb : behind (a :: r ++ c) (1 + r.length) = false := by
        rw [show 1 + r.length = (a :: r).length by simp; omega]
        exact behind_app h4
      rw [List.cons_append] at hb ⊢
      rw [tokAt_of (by rw [tokLen_figure hs hg ha, hn]) (by decide) hb]
      simp
      omega
    rcases hv with rfl | ⟨a, r, rfl, ha, h0, h3⟩
    · exact fin 48 [] (by decide) (by simp)
    · refine fin a r ha ?_
      rw [if_neg h0]
      unfold runLen
      rw [takeWhile_app h3 fun x q e => (alnum_parts (h4 x q e)).2.2]
  | sign =>
    have hf := find_sign hv hc
    obtain ⟨a, r, rfl, h1, h2, h3, _, _⟩ := signs_not w hv
    rw [List.cons_append] at hf ⊢
    unfold tokAt tokLen
    simp [h1, h2, h3, hf]
theorem valid_cons {t : Srt} {w : List Nat} (hv : Valid t w) : ∃ a r, w = a :: r ∧ a ≠ 32 ∧ (a = 45 → t = .sign ∧ (w = [45] ∨ w = [45, 62])) := by
  have sm : ∀ (w : List Nat), w ≠ [] → (∀ c ∈ w, small c = true) → ∃ a r, w = a :: r ∧ a ≠ 32 ∧ a ≠ 45 := by
    intro w h1 h3
    cases w with
    | nil => exact absurd rfl h1
    | cons a r => exact ⟨a, r, rfl, (small_not (h3 a (by simp))).2.2.2, (small_not (h3 a (by simp))).2.2.1⟩
  cases t with
  | name =>
    obtain ⟨a, r, e, h1, h2⟩ := sm w hv.1 hv.2.2.1
    exact ⟨a, r, e, h1, fun q => absurd q h2⟩
  | word =>
    obtain ⟨k1, k2, k3⟩ := words_small w hv
    obtain ⟨a, r, e, h1, h2⟩ := sm w k1 k3
    exact ⟨a, r, e, h1, fun q => absurd q h2⟩
  | maker =>
    obtain ⟨a, r, rfl, ha, _, _⟩ := hv
    exact ⟨a, r, rfl, (great_not ha).2.2.2, fun q => absurd q (great_not ha).2.2.1⟩
  | number =>
    rcases hv with rfl | ⟨a, r, rfl, ha, _, _⟩
    · exact ⟨48, [], rfl, by decide, fun q => absurd q (by decide)⟩
    · exact ⟨a, r, rfl, (figure_not ha).2.2.2, fun q => absurd q (figure_not ha).2.2.1⟩
  | sign =>
    obtain ⟨a, r, rfl, _, _, _, h1, h2⟩ := signs_not w hv
    exact ⟨a, r, rfl, h1, fun q => ⟨rfl, h2 q⟩⟩
theorem lex_word {t : Srt} {w c : List Nat} (col : Nat) (hv : Valid t w) (hc : compat (some (t, w)) c) : lex col (w ++ c) = pre [(col, t, w)] (lex (col + w.length) c) := by
  have ht := tok_valid hv hc
  obtain ⟨a, r, rfl, h32, h45⟩ := valid_cons hv
  have hrem : ¬ (a = 45 ∧ (r ++ c).head? = some 45) := by
    rintro ⟨e, h⟩
    obtain ⟨rfl, q⟩ := h45 e
    rcases q with q | q
    · injection q with q1 q2
      subst q1 q2
      cases c with
      | nil => simp at h
      | cons x s =>
        simp at h
        subst h
        simp [compat] at hc
    · injection q with q1 q2
      subst q1 q2
      simp at h
  rw [List.cons_append] at ht ⊢
  rw [lex_tok hrem h32 ht]
  have e1 : (a :: (r ++ c)).take (a :: r).length = a :: r := by
    rw [← List.cons_append]
    exact List.take_left
  have e2 : (r ++ c).drop ((a :: r).length - 1) = c := by simp
  rw [e1, e2]
/-! ### a row that is written lexeme behind lexeme -/
def Pre (line : List Nat) (found : List Tok) (last : Option (Srt × List Nat)) : Prop := ∀ c, compat last c → lex 0 (line ++ c) = pre found (lex line.length c)
theorem Pre.nil : Pre [] [] none := fun c _ => (pre_nil _).symm
theorem Pre.blanks {line : List Nat} {found : List Tok} {last : Option (Srt × List Nat)} (h : Pre line found last) {g : Nat} (hg : last = none ∨ 0 < g) : Pre (line ++ List.replicate g 32) found none := fun c _ => by
  rw [List.append_assoc, h]
  · rw [lex_blanks]
    simp
  · rcases hg with rfl | hg
    · trivial
    · cases g with
      | zero => omega
      | succ g =>
        rw [List.replicate_succ, List.cons_append]
        cases last with
        | none => trivial
        | some p =>
          obtain ⟨t, w⟩ := p
          cases t <;> simp [compat, alnum, small, great, figure]
theorem Pre.weak {line : List Nat} {found : List Tok} {last : Option (Srt × List Nat)} (h : Pre line found none) : Pre line found last := fun c _ => h c trivial
theorem Pre.word {line : List Nat} {found : List Tok} {last : Option (Srt × List Nat)} {t : Srt} {w : List Nat} (h : Pre line found last) (hv : Valid t w) (hl : compat last w) : Pre (line ++ w) (found ++ [(line.length, t, w)]) (some (t, w)) := fun c hc => by
  have hl' : compat last (w ++ c) := by
    obtain ⟨a, r, rfl, _⟩ := valid_cons hv
    cases last with
    | none => trivial
    | some p => exact hl
  rw [List.append_assoc, h _ hl', lex_word _ hv hc, pre_pre]
  simp
theorem Pre.done {line : List Nat} {found : List Tok} {last : Option (Srt × List Nat)} (h : Pre line found last) : lex 0 line = .ok found := by
  have := h [] (by cases last <;> trivial)
  simpa [lex_nil, pre] using this
theorem Pre.remark {line : List Nat} {found : List Tok} {last : Option (Srt × List Nat)} (h : Pre line found last) (r : List Nat) : lex 0 (line ++ 32 :: 45 :: 45 :: r) = .ok found := by
  have := (h.blanks (g := 1) (.inr (by decide))) (45 :: 45 :: r) trivial
  rw [lex_remark] at this
  simpa [pre] using this
end Lx

set_option Elab.async false
set_option maxRecDepth 100000
/-! Rules that were lacking: a call by keywords alone, enumerate with a start, a power of a great number, a text times a number. -/
namespace Xr
open PySem PySem.Spec PyProof.Rows L2
/-! ### f(k = v), no other argument -/
section
variable {X : Cx} {CX : CXT} {k : Nat} {f : Addr} {fd : FuncData} {ps ks : List Str} {sp : Sp} {E : XK} {x : Str} {p pos : Pos} {kws : List Keyword} {tk : TA} {g : List Value → List Value → List Value} {gV : List V → List V → List V}
theorem pe_callK0 (F : FnOk X.prog X.w X.K X.mg X.base CX k f fd ps sp) (hr : Room k X.A) (hg : Gl X x) (hm : X.mg x = some (.ref f))
    (hk : PySem.W.keepIn X.K (.ref f) = true) (hb : KBinds X.K fd ps ks g gV) (hx : Passes CX X E) (hkw : PK X kws tk)
    (hall : (backToKw pos (keywordEach kws X.env)).all (·.1.isSome) = true := by rfl)
    (hks : (backToKw pos (keywordEach kws X.env)).filterMap (·.1) = ks := by rfl) (hdb : (x == ("__debug__" : Str)) = false := by decide)
    (hpl : ((backTo pos (starEach [] X.env)).any (·.1) || (backToKw pos (keywordEach kws X.env)).any (·.1.isNone)) = false := by rfl) :
    PE X (.Call (.Name x p) [] kws pos) (tCallK sp gV E tNil tk) := by
  refine ⟨fun pins s σ H Q I h => wpAny_Call_Name_kw (ld_glob I hg hm ?_ hdb)⟩
  refine PySem.W.callWith_KW0 (h₀ := X.base) I.ok.mod.kin hk hall ?_ hpl
  refine thn (hkw.run pos pins s σ H _ I h) fun ws s2 ⟨zs, H2, I2, rz, q2⟩ => ⟨I2.kIn, ?_⟩
  rw [hks]
  exact run_fnk F hr hb hx I2 .nil rz q2
end
/-! ### a ** b, a great -/
def CPowW (i j : Int) : Prop := 0 ≤ j ∧ (Builtin.Int.intBits i : Int) * j ≤ 2 ^ 27
theorem op_powW {X : Cx} : OpR X (binaryOp .Pow) (rI CPowW fun i j => .int (i ^ j.toNat)) := opI fun _ _ _ _ _ _ _ hc q => PyProof.Rows.pow_int hc.1 hc.2 q
/-! ### a text times a number from 2 on -/
def timesS (z : Str) (n : Nat) : Str := ⟨(List.replicate n z.cps).foldl (· ++ ·) #[]⟩
theorem timesS_go (l : List (Array Nat)) : ∀ a : Array Nat, (l.foldl (· ++ ·) a).toList = a.toList ++ (l.map Array.toList).flatten := by
  induction l with
  | nil => intro a; simp
  | cons b l ih =>
    intro a
    rw [List.foldl_cons, ih]
    simp
theorem timesS_list (z : Str) (n : Nat) : (timesS z n).cps.toList = (List.replicate n z.cps.toList).flatten := by
  unfold timesS
  rw [timesS_go]
  simp
theorem timesS_len (z : Str) (n : Nat) : (timesS z n).length = n * z.length := by
  show (timesS z n).cps.size = n * z.cps.size
  rw [← Array.length_toList, timesS_list]
  simp
def rMulS : R2 := fun x y H Q => ∃ (z : Str) (n : Int), x = .str z ∧ y = .int n ∧ 0 ≤ n ∧ n ≤ 1000 ∧ 1 ≤ z.length ∧ z.length ≤ 1000 ∧ Q (.str (timesS z n.toNat)) H
theorem timesS_one (z : Str) : timesS z 1 = z := by
  unfold timesS
  simp [List.replicate]
theorem op_mulS {X : Cx} : OpR X (binaryOp .Mult) rMulS := by
  intro pins s σ H x y v u Q I rx ry h
  obtain ⟨z, n, rfl, rfl, h0, h1, h2, h3, q⟩ := h
  obtain ⟨t, rfl⟩ := rx
  obtain ⟨t', rfl⟩ := ry
  refine PySem.P.mul_str ?_ (fun a b => ?_) (fun a b => ?_) ?_
  · have e1 : ¬ n < -(2 ^ 63 : Int) := by omega
    have e2 : ¬ n ≥ 2 ^ 63 := by omega
    rw [decide_eq_false e1, decide_eq_false e2]
    rfl
  · have e3 : (1 : Int) ≤ n := by omega
    have e4 : (1000 : Int) ≤ (2 ^ 63 - 1) / n := by
      refine Int.le_ediv_of_mul_le (by omega) ?_
      omega
    omega
  · have e5 : z.length * n.toNat ≤ 1000 * 1000 := Nat.mul_le_mul h3 (by omega)
    have e6 : sizeLine = 16777216 := sizeLine_eq
    unfold Builtin.Str.tooLong
    exact decide_eq_false (by omega)
  · by_cases c : n < 1
    · rw [if_pos c]
      have e : n.toNat = 0 := by omega
      rw [e] at q
      exact ⟨by decide, ⟨.str Str.empty, H, I.tok _, ⟨_, rfl⟩, q⟩⟩
    · rw [if_neg c]
      have e7 : (z.length == 0) = false := by rw [beq_eq_false_iff_ne]; omega
      by_cases c1 : n = 1
      · subst c1
        have q' : Q (.str z) H := by
          rw [← timesS_one z]
          exact q
        rw [if_pos (by simp)]
        exact ⟨.str z, H, I, ⟨_, rfl⟩, q'⟩
      · have e8 : (n == 1 || z.length == 0) = false := by rw [e7, Bool.or_false, beq_eq_false_iff_ne]; exact c1
        rw [e8]
        rw [if_neg Bool.false_ne_true]
        refine ⟨?_, ⟨.str (timesS z n.toNat), H, I.tok _, ⟨_, rfl⟩, q⟩⟩
        have e5 : n.toNat * z.length ≤ 1000 * 1000 := Nat.mul_le_mul (by omega) h3
        have e6 : sizeLine = 16777216 := sizeLine_eq
        have e9 := timesS_len z n.toNat
        show (timesS z n.toNat).length ≤ sizeLine
        omega
/-! ### enumerate(list, start=k) -/
section
variable {M : Model} {A : Around} {E : Value → Shared → Prop} {s : Shared} {env : Env}
theorem callWith_tyKw {pos : Pos} {T : String} {e : Expr} {rest : List Expr} {kws : List Keyword} {Q : Value → Shared → Prop}
    (h : wpAny M A (spliced (backTo pos (starEach (e :: rest) env))) (fun vs s₁ => wpAny M A (evalAll ((backToKw pos (keywordEach kws env)).map (·.2))) (fun kvs s₂ =>
      wpAny M A (call (.type T) vs (((backToKw pos (keywordEach kws env)).filterMap (·.1)).zip kvs)) Q E s₂) E s₁) E s)
    (he : backTo pos (starEach (e :: rest) env) = (false, eval e env) :: backTo pos (starEach rest env)) (h1 : (backTo pos (starEach (e :: rest) env)).any (·.1) = false)
    (h2 : (backToKw pos (keywordEach kws env)).all (·.1.isSome) = true) (h3 : (backToKw pos (keywordEach kws env)).any (·.1.isNone) = false) :
    wpAny M A (callWith pos (.type T) [] (backTo pos (starEach (e :: rest) env)) (backToKw pos (keywordEach kws env))) Q E s := by
  unfold callWith
  rw [he] at h h1 ⊢
  have hh := evalArgs_kwB (f := .type T) (Q := fun a s₁ => wpAny M A (call (.type T) ([] ++ a.pos) a.kw) Q E s₁) h2 h
  refine wpAny_bind (wpAny_holding (wpAny_mono hh (fun a s₁ b => wpAny_bind (wpAny_standAt ?_)) fun _ _ z => z))
  simp only [h1, h3, Bool.or_false]
  exact wpAny_bind (wpAny_pure (wpAny_bind (wpAny_mono b (fun r s₂ c => wpAny_bind (wpAny_holding (wpAny_point (wpAny_pure c)))) fun _ _ z => z)))
end
/-- the turns: (k + i, x) in a new pair -/
def Itek (K : PySem.W.Frag) (a : Addr) (k : Int) : It where
  go i H := ∃ (xs : List V) (x : V), SqL K H a xs ∧ xs[i]? = some x
  yld i H v H' := ∃ T x, v = .ref T ∧ H T = none ∧ H' = upd H T (.tup [.int (k + (i : Nat)), x]) ∧ ∀ xs, SqL K H a xs → xs[i]? = some x
  stop i H := ∃ xs : List V, SqL K H a xs ∧ xs.length = i
theorem turn_enumk {P : Program} {w : World} {K : PySem.W.Frag} {elts : List Expr} {kk : Nat} {tpos : Pos} (a e it : Addr) (k : Int) :
    Turn P w K (.Tuple elts kk tpos) (Itek K a k) [e, it] e (fun i h => (∃ old, IsEnum h e it (k + (i : Nat)) old) ∧ h.IsListIter it a i ∧ e ≠ it) where
  mem := List.mem_cons_self
  obj i h st b hb := by
    obtain ⟨⟨old, he⟩, ⟨o, ho, _, hd⟩, _⟩ := st
    rcases List.mem_cons.mp hb with z | z
    · subst z; exact ⟨_, he, fun v q => nomatch q⟩
    · rw [List.mem_singleton] at z; subst z; exact ⟨o, ho, fun v q => by rw [hd] at q; cases q⟩
  keep i h h' st kp := ⟨st.1.elim fun old he => ⟨old, kp e List.mem_cons_self _ he⟩, st.2.1.at fun o q => kp it (by simp) o q, st.2.2⟩
  item := by
    intro X hP hw hK hc i pins s σ H E I hf st hg
    subst hP hw hK
    obtain ⟨⟨old, he⟩, hit, hne⟩ := st
    obtain ⟨xs, x, hq, hx⟩ := hg
    obtain ⟨its, rv, p, hz⟩ := I.list hq
    obtain ⟨u, hu, ru⟩ := rv.get hx
    have el := Heap.lt_size he
    have il : it < s.heap.objs.size := by
      obtain ⟨_, q, _⟩ := hit
      exact Heap.lt_size q
    have ha := p.isList
    have hh : X.A.in1.handled = none := I.ok.hd hc
    have nai : a ≠ it := fun z => by
      obtain ⟨o1, g1, c1, _⟩ := ha
      obtain ⟨o2, g2, c2, _⟩ := hit
      rw [z] at g1
      rw [g1] at g2
      cases g2
      rw [c1] at c2
      exact absurd c2 (by decide)
    have nae : e ≠ a := fun z => by
      obtain ⟨o1, g1, c1, _⟩ := ha
      rw [← z] at g1
      rw [show s.heap.get? e = _ from he] at g1
      cases g1
      injection c1 with c2
      exact absurd c2 (by decide)
    have lt : i < its.toArray.size := by
      have q := (List.getElem?_eq_some_iff.mp hu).1
      simpa using q
    have nef : e ∉ [it, a] := fun z => by
      rcases List.mem_cons.mp z with z | z
      · exact hne z
      · exact nae (List.mem_singleton.mp z)
    refine wpAny_pyNext_enum_itemC (Draws.list hh it a nai its.toArray) he ⟨hit, ha⟩ lt hne nef fun y h' tk hy ho hs' hT _ hk => ⟨_, rfl, wpAny_letOwnedTupleGo_enum (s := { s with heap := h', toks := tk + 1 }) ho fun h'' he' sb => ?_⟩
    have hit' := hs'.1
    have ey : y = u := by
      have q : its.toArray[i]? = some u := by simpa using hu
      rw [show its.toArray[i]? = some y from hy] at q
      exact Option.some.inj q
    subst ey
    have hT2 := (sb.2 _ (Nat.ne_of_gt el)).trans hT
    have old2 : ∀ b ob, b ∉ [e, it] → s.heap.get? b = some ob → h''.get? b = some ob := fun b ob hb q => by
      have n1 : b ≠ e := fun z => hb (by simp [z])
      have n2 : b ≠ it := fun z => hb (by simp [z])
      exact (sb.2 b n1).trans (hk b ob n1 n2 q)
    have I1 := I.turnedNew (ch := [e, it]) (t' := tk + 1) (ob := .tup [.int (k + (i : Nat)), x]) old2 hf (Nat.le_refl _) ⟨by show 2 ≤ sizeLine; decide, [.int (k + (i : Nat)) tk, y], .cons ⟨_, rfl⟩ (.cons ru .nil), _, hT2, rfl, _, rfl⟩
    refine ⟨.ref s.heap.objs.size, _, I1, rfl, ⟨_, x, rfl, I.hok.fresh (Nat.le_refl _), rfl, fun ys hy => by rw [I.list_inj hy hq]; exact hx⟩, ⟨⟨y, ?_⟩, hit'.at fun o q => (sb.2 it (Ne.symm hne)).trans q, hne⟩, fun b hb => ?_⟩
    · have e1 : k + ((i + 1 : Nat) : Int) = k + (i : Int) + 1 := by omega
      rw [e1]
      exact he'
    · have lb : b < s.heap.objs.size := by
        rcases List.mem_cons.mp hb with z | z
        · rw [z]; exact el
        · rw [List.mem_singleton.mp z]; exact il
      rw [upd_ne (Nat.ne_of_lt lb)]
      exact (hf b hb).1
  done := by
    intro X hP hw hK hc i pins s σ H E I hf st hg
    subst hP hw hK
    obtain ⟨⟨old, he⟩, hit, hne⟩ := st
    obtain ⟨xs, hq, hx⟩ := hg
    obtain ⟨its, rv, p, hz⟩ := I.list hq
    have f := hf it (by simp)
    have lx := rv.length
    have hh : X.A.in1.handled = none := I.ok.hd hc
    have ha := p.isList
    have nai : a ≠ it := fun z => by
      obtain ⟨o1, g1, c1, _⟩ := ha
      obtain ⟨o2, g2, c2, _⟩ := hit
      rw [z] at g1
      rw [g1] at g2
      cases g2
      rw [c1] at c2
      exact absurd c2 (by decide)
    have en : i = its.toArray.size := by
      rw [List.size_toArray]
      omega
    refine wpAny_pyNext_enum_endD (Draws.list hh it a nai its.toArray) he (by rw [← en]; exact ⟨hit, ha⟩) fun h' eb => ⟨rfl, ?_⟩
    exact I.turned (t' := s.toks) (fun b o hb q => eb b o hb q) f.1 f.2.1 f.2.2.2.1 f.2.2.2.2.1 f.2.2.2.2.2
  self A i s Q E st h := st.1.elim fun old he => wpAny_pyIter_enum he h
def iEnumk (K : PySem.W.Frag) (k : Int) (ta : TA) : TI := fun σ H R => ta σ H fun vs H1 => ∃ a xs, vs = [.ref a] ∧ SqL K H1 a xs ∧ R (Itek K a k) H1
theorem pi_enumk {X : Cx} {e : Expr} {ta : TA} {p pos tpos q1 q2 : Pos} {elts : List Expr} {kk j : Nat} {k : Int} (hg : Gl X "enumerate") (hm : X.mg "enumerate" = none) (ha : PA X [e] ta) (hk0 : -(2 ^ 62) ≤ k) (hk1 : k < 2 ^ 62)
    (he : backTo pos (starEach [e] X.env) = (false, eval e X.env) :: backTo pos (starEach [] X.env) := by rfl) (h1 : (backTo pos (starEach [e] X.env)).any (·.1) = false := by rfl)
    (h2 : (backToKw pos (keywordEach [⟨some "start", .Constant (.int k) j q1, q2⟩] X.env)).all (·.1.isSome) = true := by rfl) (h3 : (backToKw pos (keywordEach [⟨some "start", .Constant (.int k) j q1, q2⟩] X.env)).any (·.1.isNone) = false := by rfl) :
    PI X (.Tuple elts kk tpos) (.Call (.Name "enumerate" p) [e] [⟨some "start", .Constant (.int k) j q1, q2⟩] pos) (iEnumk X.K k ta) := by
  refine ⟨fun pins s σ H R I h => wpAny_Call_Name_kw (ld_blt I hg hm boot_enumerate ?_)⟩
  refine callWith_tyKw (thn (ha.run pos pins s σ H _ I h) fun us s1 ⟨vs, H1, I1, r1, q⟩ => ?_) he h1 h2 h3
  refine thn ((pk_cons (nm := some "start") (kpos := q2) (pe_int (i := k) (j := j) (pos := q1)) pk_nil).run pos pins s1 σ H1 (fun zs H2 => zs = [.int k] ∧ H2 = H1) I1 ⟨rfl, rfl⟩) fun ws s2 ⟨zs, H2, I2, r2, ez, eH⟩ => ?_
  subst ez eH
  obtain ⟨a, xs, ex, hq, q⟩ := q
  subst ex
  cases r1 with
  | cons r rr =>
    cases rr
    cases r
    cases r2 with
    | cons rk rr2 =>
      cases rr2
      obtain ⟨t, rfl⟩ := rk
      obtain ⟨its, rv, p', hz⟩ := I2.list hq
      refine enum_begins_start (begins_list a its.toArray) p'.isList (by omega) (by omega) fun h' he hit hsz hk => wpAny_pyIter_enum he ?_
      have I3 : Inv X pins σ H2 { s2 with heap := h' } := I2.kept (t' := s2.toks) hk
      have he' : IsEnum h' (s2.heap.objs.size + 1) s2.heap.objs.size (k + ((0 : Nat) : Int)) .none := by
        have z : k + ((0 : Nat) : Int) = k := by omega
        rw [z]
        exact he
      refine ⟨s2.heap.objs.size + 1, [s2.heap.objs.size + 1, s2.heap.objs.size], _, _, H2, rfl, I3, turn_enumk a (s2.heap.objs.size + 1) s2.heap.objs.size k, ⟨⟨.none, he'⟩, ⟨_, hit, rfl, rfl⟩, Nat.succ_ne_self _⟩, fun b hb => ?_, q⟩
      have hle : s2.heap.objs.size ≤ b := by
        rcases List.mem_cons.mp hb with z | z
        · rw [z]
          exact Nat.le_succ _
        · rw [List.mem_singleton.mp z]
          exact Nat.le_refl _
      exact I2.fpOk hle (I2.hok.fresh hle)
/-- for i, x in enumerate(list, start=k): the invariant's turns -/
theorem for_enumk {K : PySem.W.Frag} {a : Addr} {xs : List V} {k : Int} {g : TG} {tb : TS} {D : Ends} {σ : L2.St} {H : Hp} (Pv : Nat → L2.St → Hp → Prop) (h0 : Pv 0 σ H)
    (hl : ∀ i σ H, i ≤ xs.length → Pv i σ H → SqL K H a xs)
    (hs : ∀ i x T σ H, xs[i]? = some x → Pv i σ H → H T = none → g (.ref T) σ (upd H T (.tup [.int (k + (i : Nat)), x])) fun σ2 H2 => tb { D with nx := Pv (i + 1), ct := Pv (i + 1), bk := D.nx } σ2 H2)
    (hd : ∀ σ H, Pv xs.length σ H → D.nx σ H) :
    ∃ W : Nat → Nat → L2.St → Hp → Prop, (∃ m, W 0 m σ H) ∧ ∀ i m σ H, W i m σ H → ((Itek K a k).stop i H ∧ D.nx σ H) ∨ ((Itek K a k).go i H ∧ ∃ N : L2.St → Hp → Prop,
      (∀ σ' H', N σ' H' → ∃ m', m' < m ∧ W (i + 1) m' σ' H') ∧ ∀ x H', (Itek K a k).yld i H x H' → g x σ H' fun σ2 H2 => tb { D with nx := N, ct := N, bk := D.nx } σ2 H2) := by
  refine ⟨fun i m σ H => m = xs.length - i ∧ i ≤ xs.length ∧ Pv i σ H, ⟨xs.length, rfl, Nat.zero_le _, h0⟩, ?_⟩
  rintro i m σ H ⟨rfl, hi, p⟩
  have q := hl i σ H hi p
  by_cases c : i < xs.length
  · refine .inr ⟨⟨xs, xs[i], q, by simp [c]⟩, Pv (i + 1), fun σ' H' p' => ⟨_, by omega, rfl, c, p'⟩, ?_⟩
    rintro v H' ⟨T, x, rfl, nT, rfl, hx⟩
    exact hs i x T σ H (hx xs q) p nT
  · have e : xs.length = i := by omega
    exact .inl ⟨⟨xs, q, e⟩, hd σ H (by rw [e]; exact p)⟩
end Xr

set_option Elab.async false
set_option maxRecDepth 100000
/-! Texts as lists of codes, data under a heap that grows, lexemes as data. -/
namespace Hx
open PySem PySem.Spec PyProof.Rows L2
/-! ### texts -/
def ss (l : List Nat) : Str := ⟨l.toArray⟩
theorem ss_list (l : List Nat) : (ss l).cps.toList = l := List.toList_toArray
theorem ss_len (l : List Nat) : (ss l).length = l.length := List.size_toArray
theorem ss_of (z : Str) : ss z.cps.toList = z := by
  unfold ss
  rw [Array.toArray_toList]
theorem ss_app (a b : List Nat) : ss a ++ ss b = ss (a ++ b) := by
  show (⟨a.toArray ++ b.toArray⟩ : Str) = ⟨(a ++ b).toArray⟩
  simp
theorem ss_inj {a b : List Nat} (h : ss a = ss b) : a = b := by
  have := congrArg (fun z => z.cps.toList) h
  simpa [ss_list] using this
theorem ss_at {l : List Nat} {i c : Nat} (h : l[i]? = some c) : atI (ss l).cps.toList (i : Int) = some c := by
  rw [ss_list]
  exact atI_nat h
theorem starts_at {l g : List Nat} {i : Nat} (hi : i ≤ l.length) : Txt.startswith3 (ss l) (ss g) (i : Int) = g.isPrefixOf (l.drop i) := by
  unfold Txt.startswith3
  have e0 : fromIndex (ss l).length (i : Int) = i := by
    unfold fromIndex
    rw [if_neg (by omega)]
    omega
  rw [e0, ss_len, ss_len]
  have e1 : Builtin.Str.subAt (ss l) (ss g) i = ((l.drop i).take g.length == g) := by
    unfold Builtin.Str.subAt
    rw [ss_len]
    show ((l.toArray).extract i (i + g.length) == g.toArray) = _
    rw [List.extract_toArray]
    simp [List.extract_eq_take_drop]
  rw [e1]
  by_cases c : i + g.length ≤ l.length
  · rw [decide_eq_true c, Bool.true_and, Bool.eq_iff_iff, List.isPrefixOf_iff_prefix, beq_iff_eq]
    constructor
    · intro h
      exact ⟨(l.drop i).drop g.length, by
        conv => lhs; lhs; rw [← h]
        exact List.take_append_drop _ _⟩
    · rintro ⟨t, h⟩
      rw [← h, List.take_left]
  · rw [decide_eq_false c, Bool.false_and]
    symm
    rw [Bool.eq_false_iff]
    intro h
    rw [List.isPrefixOf_iff_prefix] at h
    have := h.length_le
    rw [List.length_drop] at this
    omega
theorem cut_ss {l : List Nat} {i j : Nat} (hi : i ≤ l.length) (hj : j ≤ l.length) : cutS (ss l) (some (i : Int)) (some (j : Int)) = ss ((l.drop i).take (j - i)) := by
  unfold cutS
  rw [ss_list, ss_len, HT.sIx_nat, HT.sIx_nat, Nat.min_eq_left hi, Nat.min_eq_left hj]
  rfl
/-! ### data under a heap that grows -/
theorem Same.seqT {K : PySem.W.Frag} {H H' : Hp} {a : Addr} {xs : List V} (e : Same H H') (h : SqT K H a xs) : SqT K H' a xs := by
  rcases h with (h | ⟨o, h⟩) | h
  · exact .inl (.inl (e _ _ h))
  · exact .inl (.inr ⟨o, e _ _ h⟩)
  · exact .inr h
theorem Same.new {H : Hp} {p : Addr} {o : HO} (n : H p = none) : Same H (upd H p o) := fun b u e => by
  rw [upd_ne (ne_of_none e n)]
  exact e
theorem Same.upd {G H : Hp} (e : Same G H) {p : Addr} {o : HO} (n : G p = none) : Same G (L2.upd H p o) := fun b u q => by
  rw [upd_ne (ne_of_none q n)]
  exact e _ _ q
theorem Same.both {G H : Hp} (e : Same G H) (p : Addr) (o : HO) : Same (L2.upd G p o) (L2.upd H p o) := fun b u q => by
  by_cases c : b = p
  · subst c
    rw [upd_same] at q ⊢
    exact q
  · rw [upd_ne c] at q ⊢
    exact e _ _ q
mutual
theorem Dp.same {K : PySem.W.Frag} {H H' : Hp} (e : Same H H') : ∀ (d : PyData) (v : V), Dp K H v d → Dp K H' v d
  | .none, _, h => by cases h; exact .non
  | .bool b, _, h => by cases h; exact .bl b
  | .int i, _, h => by cases h; exact .int i
  | .str x, _, h => by cases h; exact .str x
  | .list ds, _, h => by
    cases h with
    | lst a b => exact .lst (e.seq a) (DpAll.same e ds _ b)
  | .tuple ds, _, h => by
    cases h with
    | tup a b => exact .tup (Same.seqT e a) (DpAll.same e ds _ b)
  | .dict _, _, h => by cases h
theorem DpAll.same {K : PySem.W.Frag} {H H' : Hp} (e : Same H H') : ∀ (ds : List PyData) (vs : List V), DpAll K H vs ds → DpAll K H' vs ds
  | [], _, h => by cases h; exact .nil
  | d :: ds, _, h => by
    cases h with
    | cons a b => exact .cons (Dp.same e d _ a) (DpAll.same e ds _ b)
end
theorem DpAll.len {K : PySem.W.Frag} {H : Hp} : ∀ {vs : List V} {ds : List PyData}, DpAll K H vs ds → vs.length = ds.length
  | _, [], h => by cases h; rfl
  | _, d :: ds, h => by
    cases h with
    | cons a b => exact congrArg (· + 1) (DpAll.len b)
theorem DpAll.app {K : PySem.W.Frag} {H : Hp} : ∀ {vs ws : List V} {ds es : List PyData}, DpAll K H vs ds → DpAll K H ws es → DpAll K H (vs ++ ws) (ds ++ es)
  | _, _, [], _, h, h' => by cases h; exact h'
  | _, _, d :: ds, _, h, h' => by
    cases h with
    | cons a b => exact .cons a (DpAll.app b h')
theorem DpAll.get {K : PySem.W.Frag} {H : Hp} : ∀ {vs : List V} {ds : List PyData} {i : Nat} {v : V}, DpAll K H vs ds → vs[i]? = some v → ∃ d, ds[i]? = some d ∧ Dp K H v d
  | _, [], _, _, h, q => by cases h; simp at q
  | _, d :: ds, i, v, h, q => by
    cases h with
    | cons a b =>
      cases i with
      | zero => simp at q; subst q; exact ⟨d, rfl, a⟩
      | succ i => simpa using DpAll.get b (by simpa using q)
/-- H' holds all of H; F is a part of it that is new, all told -/
structure Newly (H H' F : Hp) : Prop where
  same : Same H H'
  sub : Same F H'
  fresh : ∀ b, F b ≠ none → H b = none
def join (F G : Hp) : Hp := fun b => match F b with
  | some o => some o
  | none => G b
theorem join_left {F G : Hp} : Same F (join F G) := fun b o e => by
  unfold join
  rw [e]
theorem join_none {F G : Hp} {b : Addr} (h1 : F b = none) (h2 : G b = none) : join F G b = none := by
  unfold join
  rw [h1]
  exact h2
theorem join_right {F G : Hp} (h : ∀ b, F b ≠ none → G b = none) : Same G (join F G) := fun b o e => by
  unfold join
  cases q : F b with
  | none => exact e
  | some u =>
    have := h b (by rw [q]; exact fun z => by cases z)
    rw [this] at e
    cases e
theorem join_same {F G H : Hp} (h1 : Same F H) (h2 : Same G H) : Same (join F G) H := fun b o e => by
  unfold join at e
  cases q : F b with
  | none =>
    rw [q] at e
    exact h2 _ _ e
  | some u =>
    rw [q] at e
    cases e
    exact h1 _ _ q
theorem join_fresh {F G H : Hp} (h1 : ∀ b, F b ≠ none → H b = none) (h2 : ∀ b, G b ≠ none → H b = none) : ∀ b, join F G b ≠ none → H b = none := fun b e => by
  unfold join at e
  cases q : F b with
  | none =>
    rw [q] at e
    exact h2 _ e
  | some u => exact h1 b (by rw [q]; exact fun z => by cases z)
/-! ### lexemes as data -/
def sortS : Lx.Srt → Str
  | .name => "name"
  | .word => "word"
  | .maker => "maker"
  | .number => "number"
  | .sign => "sign"
def tokD (k : Nat) (t : Lx.Tok) : PyData := .tuple [.tuple [.int (k : Int), .int ((t.1 : Int) + 1)], .str (sortS t.2.1), .str (ss t.2.2)]
def lexText : Nat → List (List Nat) → Except (Nat × Nat) (List PyData)
  | _, [] => .ok []
  | k, l :: r => match Lx.lex 0 l with
    | .error e => .error (k, e)
    | .ok f => match lexText (k + 1) r with
      | .error e => .error e
      | .ok ds => .ok (f.map (tokD k) ++ ds)
theorem sortS_ok : ∀ t : Lx.Srt, PyData.strOk (sortS t) = true := by intro t; cases t <;> decide +kernel
theorem ss_ok {w : List Nat} (h : ∀ c ∈ w, c < 1114112) : PyData.strOk (ss w) = true := by
  unfold PyData.strOk ss
  simpa using h
end Hx

set_option Elab.async false
set_option maxRecDepth 100000
/-! A caught error that is kept behind its clause: try .. except C as n: x = n; then isinstance(x, ..), x.f. -/
namespace Ex
open PySem PySem.Spec PyProof.Rows L2
/-- at a: an error of the class cls, its own dict d -/
def ExF (cls : Value) (d : Option Addr) (a : Addr) : HO := .ext fun h => ∃ (oe : Obj) (vs : Array Value), h.get? a = some oe ∧ Zc cls d oe ∧ oe.data = .fields vs
theorem exF_ok {P : Program} {w : World} {H : Hp} {h : Heap} {a : Addr} {cls : Value} {d : Option Addr} {oe : Obj} {vs : Array Value} (e : h.get? a = some oe) (z : Zc cls d oe) (dd : oe.data = .fields vs) : ObjOk P w H h a (ExF cls d a) :=
  ⟨⟨oe, vs, e, z, dd⟩, ⟨oe, e⟩, fun _ _ ⟨o, v, q, r⟩ k => ⟨o, v, k o q, r⟩⟩
theorem exF_at {P : Program} {w : World} {H : Hp} {h : Heap} {a : Addr} {cls : Value} {d : Option Addr} (x : HOk P w H h) (e : H a = some (ExF cls d a)) : ∃ (oe : Obj) (vs : Array Value), h.get? a = some oe ∧ Zc cls d oe ∧ oe.data = .fields vs := by
  have q : ObjOk P w H h a (.ext fun h => ∃ (oe : Obj) (vs : Array Value), h.get? a = some oe ∧ Zc cls d oe ∧ oe.data = .fields vs) := x a _ e
  exact q.1
section
variable {X : Cx} {pins : List (Addr × Obj)} {σ : L2.St} {H : Hp} {s : Shared}
theorem hok_track {P : Program} {w : World} {H : Hp} {h : Heap} {a : Addr} {o : HO} (x : HOk P w H h) (hn : H a = none) (new : ObjOk P w (upd H a o) h a o) : HOk P w (upd H a o) h := fun b u e => by
  by_cases c : b = a
  · subst c
    rw [upd_same] at e
    cases e
    exact new
  · rw [upd_ne c] at e
    refine (x b u e).stay (fun _ _ _ q => q) (fun c q => ?_) fun c xs q => ?_
    · rw [upd_ne (ne_of_none q hn)]
      exact q
    · rw [upd_ne (ne_of_none q hn)]
      exact q
/-- what a suite holds may be tracked behind it -/
theorem Inv.keepPin {a : Addr} {oe : Obj} {vs : Array Value} {cls : Value} {d : Option Addr} (I : L2.Inv X ((a, oe) :: pins) σ H s) (z : Zc cls d oe) (dd : oe.data = .fields vs) (n0 : X.s_0.heap.get? a = none)
    (np : ∀ p ∈ X.pn ++ pins, p.1 ≠ a) : L2.Inv X pins σ (upd H a (ExF cls d a)) s := by
  obtain ⟨e1, e2, e3, e4, e5⟩ := I.pin (a, oe) (List.mem_append_right _ List.mem_cons_self)
  dsimp only at e1 e2 e3 e4 e5
  have base := I.base
  refine ⟨I.ok, I.os, I.bare, ⟨base.keep, base.slot, fun b o q n hx => ?_, base.there, fun b xs q => ?_, fun b o u q => ?_, fun b ps q => ?_⟩, I.loc, I.cell, ?_, fun x c q => ?_, fun p hp => ?_, hok_track I.hok e2 (exF_ok e1 z dd), I.len⟩
  · have c : b ≠ a := fun c => by
      rw [c, n0] at q
      cases q
    rw [upd_ne c]
    exact base.free b o q n hx
  · have q2 := base.tups b xs q
    rw [upd_ne (ne_of_none q2 e2)]
    exact q2
  · have q2 := base.frzs b o u q
    rw [upd_ne (ne_of_none q2 e2)]
    exact q2
  · obtain ⟨m, q2⟩ := base.tbls b ps q
    exact ⟨m, by rw [upd_ne (ne_of_none q2 e2)]; exact q2⟩
  · rw [upd_ne (Ne.symm e3)]
    exact I.free
  · have c : c ≠ a := fun z => by
      obtain ⟨v, o, ho, hd⟩ := I.cell x c q
      rw [z, e1] at ho
      cases ho
      exact e5 v hd
    rw [upd_ne c]
    exact I.freeC x _ q
  · have hp' : p ∈ X.pn ++ (a, oe) :: pins := by
      rcases List.mem_append.mp hp with h | h
      · exact List.mem_append_left _ h
      · exact List.mem_append_right _ (List.mem_cons_of_mem _ h)
    obtain ⟨f1, f2, f3, f4, f5⟩ := I.pin p hp'
    exact ⟨f1, by rw [upd_ne (np p hp)]; exact f2, f3, f4, f5⟩
theorem Inv.unsuiteK {a : Addr} {oe : Obj} {pn' : List (Addr × Obj)} (I : L2.Inv (X.suite a ((a, oe) :: (X.pn ++ pins))) pn' σ H s) (ok : X.Ok) : L2.Inv X ((a, oe) :: pins) σ H s :=
  ⟨ok, I.os, I.bare, I.base, I.loc, I.cell, I.free, I.freeC, fun p hp => I.pin p (by
    refine List.mem_append_left _ ?_
    show p ∈ (a, oe) :: (X.pn ++ pins)
    rcases List.mem_append.mp hp with h | h
    · exact List.mem_cons_of_mem _ (List.mem_append_left _ h)
    · rcases List.mem_cons.mp h with h | h
      · rw [h]
        exact List.mem_cons_self
      · exact List.mem_cons_of_mem _ (List.mem_append_right _ h)), I.hok, I.len⟩
end
/-- what the clause wishes of an error of the body: behind it the error stays, tracked -/
def wAsK (K : PySem.W.Frag) (c : Value) (i : Nat) (ts : Addr → Value → Option Addr → TS) (Wout : WX) (D : Ends) : WX := fun cls d σ H => ∃ b, PySem.W.exmOne K cls c = some b ∧
  (b = true → ∀ a, H a = none → ts a cls d { nx := fun σ' H' => D.nx (σ'.set i none) (upd H' a (ExF cls d a)), rt := fun _ _ => False } (σ.set i (some (.ref a))) H) ∧ (b = false → Wout cls d σ H)
section
variable {X : Cx} {x n : Str} {c : Value} {i : Nat} {body suite : List Stmt} {b₀ : Stmt} {np pos pos' : Pos} {tb : WX → TS} {ts : Addr → Value → Option Addr → TS} {Wout : WX}
theorem ps_try_asK (hs : X.stack = X.env :: X.outer) (hf : X.env.frame = some X.env.locals) (hex : X.ex = []) (hN : X.N.Nodup) (hi : X.N[i]? = some n) (hln : X.env.kindOf n = some .local) (hc : Names X x c) (tk : Takes X Wout) (hb : ∀ (W : WX) (pn : List (Addr × Obj)) (xe : Value → Shared → Prop),
    Takes (X.tr pn xe) W → PassesOwn (model X.prog X.w) X.A X.env xe → PSs (X.tr pn xe) body (tb W)) (hsu : ∀ (a : Addr) (oe : Obj) (cls : Value) (d : Option Addr) (pn : List (Addr × Obj)), Zc cls d oe → (∃ vs, oe.data = .fields vs) →
      PSs (X.suite a ((a, oe) :: pn)) (b₀ :: suite) (ts a cls d)) : PS X (.Try body [.ExceptHandler (some (.Name x np)) (some n) (b₀ :: suite) pos'] [] [] pos) (fun D σ H => tb (wAsK X.K c i ts Wout D) D σ H) := by
  refine ⟨fun pins s σ H D I h => ?_⟩
  have ok := I.ok
  have hfr : X.A.frames = some (X.env :: X.outer) := ok.frames.trans (congrArg some hs)
  refine wpAny_Try_except (wpAny_mono ((hb (wAsK X.K c i ts Wout D) (X.pn ++ pins) (fun e s₁ => wpAny (model X.prog X.w) X.A (noteFrame e X.env) (fun _ s₂ => wpAny (model X.prog X.w) X.A (setFlight e none) (fun _ s₃ => wpAny (model X.prog X.w) X.A
    (handleBy e X.env [.ExceptHandler (some (.Name x np)) (some n) (b₀ :: suite) pos']) (SP X pins D) X.xe s₃) X.xe s₂) X.xe s₁) (fun u s' xx => ?_) PassesOwn.looking).run [] s σ H D (I.toTry _) h) (fun f s1 hsp => ?_) (fun e s1 he => he))
  · obtain ⟨a, B, sI, pins', σ', H', cls, d, rfl, J', nb, up, sky, na, os, ag, b, hb1, hyes, hno⟩ := xx
    have J : L2.Inv X pins σ' H' sI := J'.ofTry ok
    rw [hs] at sky
    show wpAny (model X.prog X.w) X.A (noteFrame (.ref a) X.env) _ _ _
    refine Sky.land Zc.steady hfr hf sky fun h3 fl3 up3 => ?_
    have J3 : L2.Inv X pins σ' H' { s' with heap := h3 } := J.landed nb fl3.1 (up.trans up3) os ag
    obtain ⟨oe3, vs3, he3, hz3, hd3⟩ := fl3.there
    have nfr : a ∉ frs (X.env :: X.outer) := fun hm => by
      obtain ⟨_, o', e', hnf⟩ := fl3.2.2.1.mem hm
      rw [he3] at e'
      cases e'
      exact hnf _ hd3
    have nL : a ≠ X.env.locals := fun z => nfr (List.mem_filterMap.mpr ⟨X.env, List.mem_cons_self, hf.trans (congrArg some z.symm)⟩)
    have nF : a ∉ X.fs := fun hm => by
      obtain ⟨e, he, q⟩ := List.mem_filterMap.mp hm
      exact nfr (List.mem_filterMap.mpr ⟨e, List.mem_cons_of_mem _ he, q⟩)
    have nI : sI.heap.get? a = none := by
      cases z : sI.heap.get? a with
      | none => rfl
      | some o =>
        have q := nb a o z (by rw [hs]; exact nfr)
        rw [fl3.2.1] at q
        cases q
    have n0 : X.s_0.heap.get? a = none := by
      cases z : X.s_0.heap.get? a with
      | none => rfl
      | some o =>
        obtain ⟨o', q⟩ := J.base.there a o z (by rw [hex]; exact fun y => nomatch y)
        rw [nI] at q
        cases q
    have np' : ∀ p ∈ X.pn ++ pins, p.1 ≠ a := fun p hp z => by
      have q := (J.pin p hp).1
      rw [z, nI] at q
      cases q
    have S3 := J3.suite he3 hd3 na nL nF
    refine wpAny_handleBy_cons (codeAny_handlers_test ?_) (fun q => nomatch q)
    have LT : PySem.W.Looks (model X.prog X.w) h3 (typeOf (.ref a)) cls := fun A Q E s k q => wpAny_typeOf_ref (k _ _ he3) (hz3.1.symm ▸ q)
    have LM := PySem.W.exm_one (M := model X.prog X.w) J3.kIn LT hb1
    have test : ∀ {Q : Value → Shared → Prop} {E : Value → Shared → Prop}, Q c { s' with heap := h3 } → wpAny (model X.prog X.w) (X.A.mark (some (.ref a))) (eval (.Name x np) X.env) Q E { s' with heap := h3 } := by
      intro Q E q
      obtain ⟨hg, hdbg, hm | ⟨hm, hv, hnn⟩⟩ := hc
      · exact ld_glob (X := X.suite a ((a, oe3) :: (X.pn ++ pins))) S3 hg hm q hdbg
      · exact ld_blt (X := X.suite a ((a, oe3) :: (X.pn ++ pins))) S3 hg hm hv q hnn hdbg
    refine test (LM.here ?_)
    cases b with
    | true =>
      refine codeAny_handlers_suite_as (HandSPX.lands_againZ fl3 fun h4 fl4 up4 => ?_)
      have J4 : L2.Inv X pins σ' H' { s' with heap := h4 } := J.landed nb fl4.1 ((up.trans up3).trans up4) os ag
      obtain ⟨oe4, vs4, he4, hz4, hd4⟩ := fl4.there
      refine store_ok (X := X.suite a ((a, oe4) :: (X.pn ++ pins))) (v := .ref a) (J4.suite he4 hd4 na nL nF) hN hi (.inl hln) rfl (fun s5 S5 => ?_) (.inr hln)
      refine wpAny_mono ((hsu a oe4 cls d (X.pn ++ pins) hz4 ⟨_, hd4⟩).run [] s5 _ H' _ S5 (hyes rfl a na)) (fun f s6 hsp => ?_) (fun _ _ z => z.elim)
      cases f with
      | next =>
        obtain ⟨σ6, H6, S6, q6⟩ := hsp
        exact gone_ok (Inv.unsuiteK S6 ok) hN hi hln fun s7 J7 => ⟨_, _, Inv.keepPin J7 hz4 hd4 n0 np', q6⟩
      | brk => exact hsp.elim fun _ q => q.elim fun _ q => q.2.elim
      | cont => exact hsp.elim fun _ q => q.elim fun _ q => q.2.elim
      | ret u => exact hsp.elim fun _ q => q.elim fun _ q => q.elim fun _ q => q.2.2.elim
    | false =>
      show wpAny _ X.A (handleBy (.ref a) X.env []) _ _ _
      refine wpAny_handleBy_nil ?_
      obtain ⟨k1, k2, k3, oe, vs, T, oT, ts', he, hz, hd, h1, hr⟩ := id fl3
      unfold PySem.passOn
      refine wpAny_bind (wpAny_field he hd h1 ?_)
      rw [if_neg (show ¬ ((Value.ref T == Value.none) = true) from fun z => nomatch z)]
      have fin : wpAny (model X.prog X.w) X.A (setFlight (.ref a) X.env.frame) (fun _ s4 => wpAny (model X.prog X.w) X.A (throw (.ref a) : Sem Flow) (SP X pins D) X.xe s4) X.xe { s' with heap := h3 } := by
        rw [hf]
        refine HandSPX.setFlight_upZ fl3 fun h4 hh4 up4 => wpAny_throw (tk _ _ ⟨a, B, sI, pins, σ', H', cls, d, rfl, J, nb, (up.trans up3).trans up4, .inr (.inr (by rw [hs]; exact hh4)), na, os, ag, hno rfl⟩)
      first
        | exact wpAny_bind (wpAny_pure (wpAny_bind fin))
        | exact wpAny_bind fin
  · cases f with
    | next => exact hsp.elim fun σ' q => q.elim fun H' q => wpAny_execs_nil ⟨σ', H', q.1.ofTry ok, q.2⟩
    | brk => exact hsp.elim fun σ' q => q.elim fun H' q => ⟨σ', H', q.1.ofTry ok, q.2⟩
    | cont => exact hsp.elim fun σ' q => q.elim fun H' q => ⟨σ', H', q.1.ofTry ok, q.2⟩
    | ret u => exact hsp.elim fun v q => q.elim fun σ' q => q.elim fun H' q => ⟨v, σ', H', q.1.ofTry ok, q.2⟩
end
/-! ### isinstance of an error, where the answer is True -/
section
variable {K : PySem.W.Frag} {cls c : Value} {d : Option Addr} {a : Addr}
open PySem.W in
theorem exc_ansT (e : kitOne K cls c = some true) : Answers (fun s => K.In s.heap ∧ ∃ oe : Obj, s.heap.get? a = some oe ∧ oe.cls = cls) (.ref a) c true := by
  intro dep tk prog w A R s hs
  obtain ⟨⟨X, oe, ho, hcl⟩, hq⟩ := hs
  obtain ⟨h0, g, dr, tt, os⟩ := s
  have LT : Looks (model prog w) h0 (typeOf (.ref a)) cls := fun A Q E s k q => wpAny_typeOf_ref (k _ _ ho) (hcl.symm ▸ q)
  unfold kitOne at e
  unfold Builtin.«isinstance.nested»
  refine wpAny_bind (LT.at ?_)
  by_cases q : (cls == c) = true
  · rw [if_pos q]
    first
      | exact wpAny_bind (wpAny_rule (hq tt))
      | exact wpAny_bind (wpAny_rule (wpAny_pure (hq tt)))
      | exact wpAny_bind (wpAny_rule (wpAny_bind (wpAny_pure (wpAny_pure (hq tt)))))
  · rw [if_neg q] at e
    rw [if_neg q]
    obtain ⟨hty, his, hsub⟩ := kit_cls (M := model prog w) X e
    refine wpAny_bind (hty.at ?_)
    rw [if_pos (by decide)]
    k_delta "plainIsInstance"
    refine wpAny_bind (wpAny_bind (his.at ?_))
    simp only [Bool.not_true, Bool.false_eq_true, if_false]
    refine wpAny_bind ((LT.andThen hsub).at ?_)
    first
      | exact wpAny_pure (wpAny_pure (hq tt))
      | (simp only [if_true]; first | exact wpAny_pure (wpAny_pure (hq tt)) | exact wpAny_pure (hq tt) | exact wpAny_bind (wpAny_pure (wpAny_pure (hq tt))))
end
def rIsF (K : PySem.W.Frag) : List V → Hp → VK → Prop := fun xs H Q => ∃ (a : Addr) (cls : Value) (d : Option Addr) (c : V) (u : Value), xs = [.ref a, c] ∧ H a = some (ExF cls d a) ∧ ClsV c u ∧ PySem.W.kitOne K cls u = some true ∧ Q (.bl true) H
open PySem.W in
theorem call_isF {X : Cx} : CallR X (.builtin "isinstance") (rIsF X.K) := by
  intro pins s σ H xs us Q I r h
  obtain ⟨a, cls, d, c, u, rfl, ha, hk, e, q⟩ := h
  cases r with
  | cons rx rr =>
    cases rr with
    | cons rt rr =>
      cases rr
      cases rx
      have eu := hk.eq rt
      subst eu
      obtain ⟨oe, vs, ho, hz, hd⟩ := exF_at I.hok ha
      exact call_isinstance (S := fun _ R s => (X.K.In s.heap ∧ ∃ oe : Obj, s.heap.get? a = some oe ∧ oe.cls = cls) ∧ ∀ tk, R (.ok (.ret (.bool true))) { s with toks := tk })
        (fun prog w A R s hs => isinstance_outer (exc_ansT e 0 _ prog w A R s hs) (fun z => nomatch z)) ⟨⟨I.kIn, oe, ho, hz.1⟩, fun tk => ⟨.bl true, H, I.kept (t' := tk) fun _ _ z => z, rfl, q⟩⟩
/-! ### a field of an error -/
def tXfF (C : Addr) (f : Str) (te : TE) : TE := fun σ H Q => te σ H fun x H1 => ∃ (a dd : Addr) (fs : List (Str × V)) (v : V), x = .ref a ∧ H1 a = some (ExF (.ref C) (some dd) a) ∧ H1 dd = some (.xd fs) ∧ fs.lookup f = some v ∧ Q v H1
theorem pe_xfF {X : Cx} {C : Addr} {e : Expr} {te : TE} {pos : Pos} {n : Str} (T : XfC X.K C) (hno : PySem.W.findIn X.K (.ref C) n = some none) (he : PE X e te) (hb : attributeBase e n X.env (eval e X.env) = eval e X.env := by rfl) : PE X (.Attribute e n pos) (tXfF C n te) := by
  refine ⟨fun pins s σ H Q I h => attr_of hb (thn (he.run pins s σ H _ I h) fun u s1 hh => ?_)⟩
  obtain ⟨x, H1, I1, rx, a, dd, fs, v, ex, ha, ea, l, q⟩ := hh
  subst ex
  obtain rfl : u = Value.ref a := rx
  obtain ⟨oe, vs, ho, hz, hd⟩ := exF_at I1.hok ha
  have hx : ObjOk X.prog X.w H1 s1.heap dd (.xd fs) := I1.hok dd _ ea
  obtain ⟨mA, hns, hr⟩ := hx
  obtain ⟨od, hod, hl⟩ := lookIn_ns hns
  obtain ⟨u, hu, ru⟩ := RelO.some_of (v := v) (o := mA n) (l ▸ hr n)
  have J : PySem.W.InstAt s1.heap a oe C (some od) := ⟨ho, hz.1, (by unfold PySem.W.notCls; rw [hd] <;> rfl), (by rw [hz.2]; exact hod)⟩
  exact HandSPX.exc_get I1.kIn J T.ga T.gg T.exC (PySem.W.findObj_own T.hdC hno rfl (hl n |>.trans (congrArg some hu) |> fun z => z)) (handed_of ru) ⟨v, H1, I1.tok _, ru, q⟩
end Ex

set_option Elab.async false
set_option maxRecDepth 100000
/-! rules: X() of an own error class, methods by keywords that may raise, isinstance of a kept error (both answers), count of flat things, is not of a flag -/
namespace W8
open PySem PySem.Spec PyProof.Rows L2 Hx Xr Ex
section
variable {X : Cx} {C : Addr} {bmB : List Value} {B newId initId : String}
theorem pmk_own0 {x : Str} {p pos : Pos} (F : ExcBaseFacts B newId initId bmB) (q : PySem.W.excIn X.K C bmB newId = true) (gC : X.mg x = some (.ref C)) (kC : PySem.W.keepIn X.K (.ref C) = true) (r : Raises X (.ref C)) (hg : Gl X x)
    (hdb : (x == ("__debug__" : Str)) = false := by decide) : PMk X (.Call (.Name x p) [] [] pos) (fun _ H Q => Q (.ref C) none H) := by
  intro pins s σ H Q I h
  refine wpAny_Call_Name_kw (ld_glob I hg gC ?_ hdb)
  refine PySem.W.callWith_K0 I.kIn kC ?_
  show wpAny _ _ (call (.ref C) []) _ _ _
  obtain ⟨bm, N, nm, qn, bs, hdct, sn, sub, ab, col, dd, k0, k1, k2, k3, k5, mN, hC, hN, hni, T⟩ := exc_obj I.kIn q
  refine wpAny_call_exc_subT F T hC hN hni (fun h' e hm => ?_) (by show 0 ≤ sizeLine; rw [sizeLine_eq]; omega)
  exact mk_of I hm r h (I.hok.gone hm.new)
end
/-! ### o.m(k = v) within a try -/
section
variable {X : Cx} {CX : CXT} {k : Nat} {f C : Addr} {fd : FuncData} {ps ks : List Str} {sp : Sp} {E : L2.St → XK} {m : Str} {o e : Expr} {es : List Expr} {p apos pos : Pos} {ta : TE} {t tk : TA} {kws : List Keyword} {g : List Value → List Value → List Value} {gV : List V → List V → List V}
theorem run_fnkS8 {pins : List (Addr × Obj)} {σ : L2.St} {H : Hp} {s : Shared} {Q : VK} {us ws : List Value} {vs zs : List V} (F : FnOk X.prog X.w X.K X.mg X.base CX k f fd ps sp) (hr : Room k X.A) (hb : KBinds X.K fd ps ks g gV) (hx : PassesAt CX X σ (E σ))
    (I : Inv X pins σ H s) (r : Vals vs us) (rz : Vals zs ws) (h : sp (gV vs zs) H Q (E σ)) : wpAny (model X.prog X.w) X.A (call (.ref f) us (ks.zip ws)) (EP X pins σ Q) X.xe s := by
  have r2 := hb.rel r rz
  have hl : (g us ws).length = ps.length := by rw [← r2.length]; exact F.len _ _ _ _ h
  refine wpAny_call (codeAny_mono (F.run X.A X.stack s H ⟨us, ks.zip ws⟩ (g us ws) (gV vs zs) Q (E σ) hr I.env0 (hb.to s us ws I.kIn hl) r2 h) fun r s' hq => ?_)
  cases r with
  | error e => exact hx pins H s e s' I hq
  | ok fl =>
    cases fl with
    | ret u => exact I.after hq
    | next => exact False.elim hq
    | brk => exact False.elim hq
    | cont => exact False.elim hq
def tMethKS (C : Addr) (m : Str) (sp : Sp) (gV : List V → List V → List V) (E : L2.St → XK) (ta : TE) (tk : TA) : TE := fun σ H Q => ta σ H fun x H1 => ∃ a dx fs, x = .ref a ∧ H1 a = some (.ins C dx fs) ∧ fs.lookup m = none ∧
  tk σ H1 fun zs H2 => sp (gV [x] zs) H2 Q (E σ)
theorem pe_methKS {pl : Sem Bool} (he : PE X o ta) (c : Cls X.K C) (hm : Meth X.K C m f) (F : FnOk X.prog X.w X.K X.mg X.base CX k f fd ps sp) (hr : Room k X.A) (hb : KBinds X.K fd ps ks g gV) (hx : ∀ σ, PassesAt CX X σ (E σ)) (hkw : PK X kws tk)
    (hall : (backToKw pos (keywordEach kws X.env)).all (·.1.isSome) = true := by rfl)
    (hks : (backToKw pos (keywordEach kws X.env)).filterMap (·.1) = ks := by rfl)
    (hpl : ((backTo pos (starEach [] X.env)).any (·.1) || (backToKw pos (keywordEach kws X.env)).any (·.1.isNone)) = false := by rfl)
    (ht : eval (.Call (.Attribute o m apos) [] kws pos) X.env = (do
      let ov ← eval o X.env
      standAt apos.atName
      let (f, first) ← holding [ov] (getMethod ov m pl)
      callWith pos f first (backTo pos (starEach [] X.env)) (backToKw pos (keywordEach kws X.env))) := by rfl) :
    PE X (.Call (.Attribute o m apos) [] kws pos) (tMethKS C m sp gV E ta tk) := by
  refine ⟨fun pins s σ H Q I h => ?_⟩
  refine PySem.W.methodCall_KW (pl := pl) (thn (he.run pins s σ H _ I h) fun u s1 ⟨x, H1, I1, rx, a, dx, fs, ex, ea, l, q⟩ => ?_) ht
  subst ex
  obtain rfl : u = Value.ref a := rx
  refine getmeth_ok I1 ea c hm l ?_
  refine PySem.W.callWith_KW0 (first := [.ref a]) (h₀ := X.base) I.ok.mod.kin hm.kp hall ?_ hpl
  refine thn (hkw.run pos pins s1 σ H1 _ I1 q) fun ws s2 ⟨zs, H2, I2, rz, q2⟩ => ⟨I2.kIn, ?_⟩
  rw [hks]
  exact run_fnkS8 (us := [.ref a]) (vs := [.ref a]) F hr hb (hx σ) I2 (.cons rfl .nil) rz q2
/-- o.m() within a try -/
def tMethS0 (C : Addr) (m : Str) (sp : Sp) (E : L2.St → XK) (ta : TE) : TE := fun σ H Q => ta σ H fun x H1 => ∃ a dx fs, x = .ref a ∧ H1 a = some (.ins C dx fs) ∧ fs.lookup m = none ∧ sp [x] H1 Q (E σ)
theorem pe_methS0 {pl : Sem Bool} (he : PE X o ta) (c : Cls X.K C) (hm : Meth X.K C m f) (F : FnOk X.prog X.w X.K X.mg X.base CX k f fd ps sp) (hr : Room k X.A) (hb : Binds X.K fd ps []) (hx : ∀ σ, PassesAt CX X σ (E σ))
    (ht : eval (.Call (.Attribute o m apos) [] [] pos) X.env = (do
      let ov ← eval o X.env
      standAt apos.atName
      let (f, first) ← holding [ov] (getMethod ov m pl)
      callWith pos f first (backTo pos (starEach [] X.env)) (backToKw pos (keywordEach [] X.env))) := by rfl) :
    PE X (.Call (.Attribute o m apos) [] [] pos) (tMethS0 C m sp E ta) := by
  refine ⟨fun pins s σ H Q I h => ?_⟩
  refine PySem.W.methodCall_KW (pl := pl) (thn (he.run pins s σ H _ I h) fun u s1 ⟨x, H1, I1, rx, a, dx, fs, ex, ea, l, q⟩ => ?_) ht
  subst ex
  obtain rfl : u = Value.ref a := rx
  refine getmeth_ok I1 ea c hm l ?_
  exact PySem.W.callWith_K0 (first := [.ref a]) I1.kIn hm.kp (run_fnS (us := [.ref a]) (vs := [.ref a]) F hr hb (hx σ) I1 (.cons rfl .nil) q)
end
/-! ### isinstance of a kept error without a dict -/
def rIsG (K : PySem.W.Frag) : List V → Hp → VK → Prop := fun xs H Q => ∃ (a D : Addr) (c : V) (cv : Value) (b : Bool), xs = [.ref a, c] ∧ H a = some (ExF (.ref D) none a) ∧ ExcC K D ∧ (∀ u, RelV c u → u = cv) ∧ PySem.W.kitOne K (.ref D) cv = some b ∧ Q (.bl b) H
theorem call_isG {X : Cx} : CallR X (.builtin "isinstance") (rIsG X.K) := by
  intro pins s σ H xs us Q I r h
  obtain ⟨a, D, c, cv, b, rfl, ha, C, hcv, e, q⟩ := h
  cases r with
  | cons rx rr =>
    cases rr with
    | cons rt rr =>
      cases rr
      cases rx
      have ec := hcv _ rt
      subst ec
      obtain ⟨oe, vs, hget, hz, hv⟩ := exF_at I.hok ha
      have J : PySem.W.InstAt s.heap a oe D none := by
        obtain ⟨oc, od, oda, osl⟩ := oe
        obtain ⟨h1, h2⟩ := hz
        dsimp only at h1 h2 hv
        subst h1 h2 hv
        exact ⟨hget, rfl, rfl, trivial⟩
      exact PySem.W.kia_one (PySem.W.handS_kitx_exc C.hg C.hk C.hs C.hd C.ha C.hn C.ht C.hm) I.kIn J e (fun z => nomatch z) fun tk => ⟨.bl b, H, I.kept (t' := tk) fun _ _ z => z, rfl, q⟩
/-! ### xs.count(y) of flat things -/
def rCntF (K : PySem.W.Frag) : V → List V → Hp → VK → Prop := fun x xs H Q => ∃ (p : Addr) (ys : List V) (y : V), x = .ref p ∧ xs = [y] ∧ SqL K H p ys ∧ flatV y = true ∧ ys.all flatV = true ∧ Q (.int (ys.countP (fun z => eqV z y) : Nat)) H
theorem countU {y : V} : ∀ {ys : List V} {us : List Value}, Vals ys us → ys.all flatV = true → us.countP (eqU y) = ys.countP (fun z => eqV z y)
  | _, _, .nil, _ => rfl
  | _, _, .cons r rr, h => by
    simp only [List.all_cons, Bool.and_eq_true] at h
    rw [List.countP_cons, List.countP_cons, countU rr h.2, eqU_of r h.1]
theorem mt_countF {X : Cx} : MtR X "list.count" (rCntF X.K) := by
  intro pins s σ H x xs v us Q I rx rxs h
  obtain ⟨p, ys, y, rfl, rfl, hs, fy, fys, q⟩ := h
  cases rx
  cases rxs with
  | cons ry rt =>
    rename_i uy ut
    cases rt
    obtain ⟨its, rv, ⟨⟨cls, dd, data, sl⟩, n, ho, hc, hdn, hd⟩, hlen⟩ := I.list hs
    simp only at hc hd
    subst hc hd
    refine call_meets PySem.F.slot_list_count ⟨_, ho, rfl⟩ PySem.F.entry_list_count (PySem.F.args_list_count_2 _ _)
      (SeqAt.list_countAt p its.toArray n dd sl uy (eqU y)) ⟨ho, fun u' hu' => mem_eqAt ry fy rv fys u' (by simpa using hu'), ?_⟩
    refine ⟨.int (ys.countP (fun z => eqV z y) : Nat), H, I.tok _, ⟨s.toks, ?_⟩, q⟩
    show Value.int ((its.toArray.toList.countP (eqU y) : Nat) : Int) s.toks = _
    rw [show its.toArray.toList = its from rfl, countU rv fys]
/-! ### is not True, is not False -/
def notBl (x : V) (b : Bool) : Bool := match x with
  | .bl a => !decide (a = b)
  | _ => true
theorem op_isnot_lit {X : Cx} : OpR X (compareOp .IsNot) (fun x y H Q => ∃ b, y = .bl b ∧ ((∃ i, x = .int i) ∨ (∃ a, x = .bl a)) ∧ Q (.bl (notBl x b)) H) := by
  intro pins s σ H x y v u Q I rx ry h
  obtain ⟨b, rfl, hx, q⟩ := h
  cases (show u = Value.bool b from ry)
  rcases hx with ⟨i, rfl⟩ | ⟨a, rfl⟩
  · obtain ⟨t, rfl⟩ := rx
    exact wpAny_isNot_other rfl (fun z => nomatch z) ⟨.bl true, H, I, rfl, q⟩
  · cases (show v = Value.bool a from rx)
    by_cases e : a = b
    · subst e
      exact wpAny_isNot_self rfl ⟨.bl false, H, I, rfl, by simpa [notBl] using q⟩
    · exact wpAny_isNot_other rfl (fun z => e (Value.bool.inj z)) ⟨.bl true, H, I, rfl, by simpa [notBl, e] using q⟩
end W8

set_option Elab.async false
set_option maxRecDepth 100000
namespace P01
open PySem L2 Hx Xr
def top (i : Nat) : Stmt := PySem.Challenge.pw_slumberway_k80_rows_edited.main.body.getD i (.Pass ⟨0, 0, 0, 0⟩)
end P01

set_option Elab.async false
set_option maxRecDepth 100000
/-! the law's purse: mixed, purse, take, at -/
namespace G01
open PySem L2 Hx Xr P01
abbrev sMixed : Stmt := top 227
abbrev sPurse : Stmt := top 228
abbrev sTake : Stmt := top 229
abbrev sAt : Stmt := top 230
section
variable {P : Program} {w : World} {K : PySem.W.Frag} {mg : Str → Option Value} {base : Heap}
def big : Int := 10 ^ 60 + 7
def spMixed : Sp := fun vs H Q _ => ∃ (c k : Int), vs = [.int c, .int k] ∧ 0 ≤ k ∧ k ≤ 100000000 ∧ ∀ m : Int, 0 ≤ m → m < 2 ^ 200 → Q (.int m) H
theorem scM : FnScope ["_law_cell", "_law_k", "_law_number"] ["_law_cell", "_law_k"] (defScope sMixed) := ⟨rfl, rfl, rfl, by decide +kernel, rfl, by decide +kernel, by decide +kernel⟩
theorem natAbs_lt {i : Int} {n : Nat} (h0 : 0 ≤ i) (h : i < 2 ^ n) : i.natAbs < 2 ^ n := by
  have e : ((2 ^ n : Nat) : Int) = (2 : Int) ^ n := by norm_cast
  omega
theorem ok_mixed {f : Addr} {fd : FuncData} (F : Fun K "_law_mixed" "_law_mixed" sMixed f fd) : FnOk P w K mg base CX0 1 f fd ["_law_cell", "_law_k"] spMixed := by
  refine F.ok scM (fun vs H Q E h => ?_) (fun cdv A outer s H vs Q E hr h => ?_)
  · obtain ⟨c, k, rfl, _⟩ := h
    rfl
  · obtain ⟨c, k, rfl, h0, h1, q⟩ := h
    refine ⟨_, pss_cons (ps_set (i := 2) scM.nd rfl (.inl rfl) (pe_op op_add (pe_op op_add (pe_op op_mulW (pe_op op_add (pe_op op_mod (pv 0) (pe_op op_add (pe_op op_pow pe_int pe_int) pe_int)) (pe_op op_mul pe_int (pv 1))) pe_int) (pe_op op_mul pe_int (pv 1))) pe_int))
      (pss_cons (ps_set (i := 2) scM.nd rfl (.inl rfl) (pe_op op_mod (pe_op op_mulW (pv 2) (pv 2)) (pe_op op_add (pe_op op_pow pe_int pe_int) pe_int)))
      (pss_one (ps_ret (pe_op op_mod (pe_op op_mulW (pe_op op_add (pv 2) pe_int) (pe_op op_add (pv 2) pe_int)) (pe_op op_add (pe_op op_pow pe_int pe_int) pe_int))))), ?_⟩
    have e18 : ((10 : Int) ^ Int.toNat 18 + 9) = 1000000000000000009 := by decide +kernel
    have e60 : ((10 : Int) ^ Int.toNat 60 + 7) = 1000000000000000000000000000000000000000000000000000000000007 := by decide +kernel
    refine ⟨_, rfl, _, _, rfl, rfl, ⟨by decide, by decide, by decide⟩, _, _, rfl, rfl, _, _, rfl, rfl, by show (0 : Int) < _; decide +kernel, ?_⟩
    rw [e18]
    refine ⟨_, rfl, _, _, rfl, rfl, .inl ⟨by decide, by decide⟩, _, _, rfl, rfl, ?_⟩
    have a0 : 0 ≤ c % 1000000000000000009 + 7 * k := by omega
    have a1 : c % 1000000000000000009 + 7 * k < 2 ^ 70 := by omega
    refine ⟨_, _, rfl, rfl, wide_mul (natAbs_lt a0 a1) (b := 100) (by decide) (by decide) (by decide) (by decide), ?_⟩
    generalize c % 1000000000000000009 + 7 * k = A at a0 a1 ⊢
    refine ⟨_, rfl, _, _, rfl, rfl, .inl ⟨by decide, by decide⟩, _, _, rfl, rfl, _, _, rfl, rfl, ?_⟩
    have b0 : 0 ≤ A * 739108512309184756019283746561 + 7919 * k + 1 := by omega
    have b1 : A * 739108512309184756019283746561 + 7919 * k + 1 < 2 ^ 175 := by omega
    dsimp only [tRet, tSeq, tAsg, gName, tOp, tVar, List.set]
    generalize A * 739108512309184756019283746561 + 7919 * k + 1 = N at b0 b1 ⊢
    refine ⟨_, rfl, _, rfl, _, _, rfl, rfl, wide_mul (natAbs_lt b0 b1) (natAbs_lt b0 b1) (by decide) (by decide) (by decide), _, _, rfl, rfl, ⟨by decide, by decide, by decide⟩, _, _, rfl, rfl, _, _, rfl, rfl, by show (0 : Int) < _; decide +kernel, ?_⟩
    rw [e60]
    have c0 : 0 ≤ N * N % 1000000000000000000000000000000000000000000000000000000000007 := Int.emod_nonneg _ (by decide)
    have c1 : N * N % 1000000000000000000000000000000000000000000000000000000000007 < 1000000000000000000000000000000000000000000000000000000000007 := Int.emod_lt_of_pos _ (by decide)
    dsimp only [tRet, tSeq, tAsg, gName, tOp, tVar, List.set]
    generalize N * N % 1000000000000000000000000000000000000000000000000000000000007 = M at c0 c1 ⊢
    have d1 : M + 40503 < 2 ^ 201 := by omega
    have d2 : M + 57 < 2 ^ 201 := by omega
    refine ⟨_, rfl, _, _, rfl, rfl, _, rfl, _, _, rfl, rfl, _, _, rfl, rfl, wide_mul (natAbs_lt (by omega) d1) (natAbs_lt (by omega) d2) (by decide) (by decide) (by decide), _, _, rfl, rfl, ⟨by decide, by decide, by decide⟩, _, _, rfl, rfl, _, _, rfl, rfl, by show (0 : Int) < _; decide +kernel, ?_⟩
    rw [e60]
    have f0 : 0 ≤ (M + 40503) * (M + 57) % 1000000000000000000000000000000000000000000000000000000000007 := Int.emod_nonneg _ (by decide)
    have f1 : (M + 40503) * (M + 57) % 1000000000000000000000000000000000000000000000000000000000007 < 1000000000000000000000000000000000000000000000000000000000007 := Int.emod_lt_of_pos _ (by decide)
    exact q _ f0 (by omega)
end
end G01

set_option Elab.async false
set_option maxRecDepth 100000
/-! the law's purse, take, at -/
namespace G01
open PySem L2 Hx Xr P01
def PurseAt (H : Hp) (a : Addr) (n : Int) : Prop := ∃ x z : Int, H a = some (.lst [.int x, .int n, .int z]) ∧ 0 ≤ x ∧ x < 2 ^ 2000 ∧ 0 ≤ z ∧ z < 2 ^ 62 ∧ 0 ≤ n
/-- all but what stands at a is kept -/
def But (a : Addr) (H H' : Hp) : Prop := ∀ b o, b ≠ a → H b = some o → H' b = some o
theorem But.of {a : Addr} {H H' : Hp} (h : Same H H') : But a H H' := fun b o _ e => h b o e
theorem But.refl (a : Addr) (H : Hp) : But a H H := fun _ _ _ e => e
theorem But.trans {a : Addr} {H H1 H2 : Hp} (h : But a H H1) (h' : But a H1 H2) : But a H H2 := fun b o n e => h' b o n (h b o n e)
theorem But.sub {a : Addr} {H H' F : Hp} (h : But a H H') (s : Same F H) (n : F a = none) : Same F H' := fun b o e => h b o (fun z => by rw [z, n] at e; cases e) (s b o e)
theorem But.free {a : Addr} {H H' : Hp} {n : Int} (h : But a H H') (p : PurseAt H' a n) {b : Addr} (e : H' b = none) : H b = none := by
  cases q : H b with
  | none => rfl
  | some o =>
    by_cases c : b = a
    · obtain ⟨x, z, hp, _⟩ := p
      rw [c, hp] at e
      cases e
    · rw [h b o c q] at e
      cases e
theorem But.upd {a : Addr} {H : Hp} {o : HO} : But a H (L2.upd H a o) := fun b u n e => by
  rw [upd_ne n]
  exact e
theorem PurseAt.ne {H : Hp} {a b : Addr} {n : Int} (p : PurseAt H a n) (e : H b = none) : a ≠ b := by
  obtain ⟨x, z, hp, _⟩ := p
  exact ne_of_none hp e
theorem PurseAt.but {H H' : Hp} {a : Addr} {n : Int} (p : PurseAt H a n) (s : H' a = H a) : PurseAt H' a n := by
  obtain ⟨x, z, hp, q⟩ := p
  exact ⟨x, z, s.trans hp, q⟩
theorem PurseAt.same {H H' : Hp} {a : Addr} {n : Int} (p : PurseAt H a n) (s : Same H H') : PurseAt H' a n := by
  obtain ⟨x, z, hp, q⟩ := p
  exact ⟨x, z, s _ _ hp, q⟩
section
variable {P : Program} {w : World} {K : PySem.W.Frag} {mg : Str → Option Value} {base : Heap}
def spPurse : Sp := fun vs H Q _ => ∃ (c k : Int), vs = [.int c, .int k] ∧ 0 ≤ k ∧ k ≤ 1000 ∧ ∀ (p : Addr) (H' : Hp), H p = none → Same H H' → PurseAt H' p 0 → Q (.ref p) H'
theorem scP : FnScope ["_law_cell", "_law_k"] ["_law_cell", "_law_k"] (defScope sPurse) := ⟨rfl, rfl, rfl, by decide +kernel, rfl, by decide +kernel, by decide +kernel⟩
theorem ok_purse {f fM : Addr} {fd fdM : FuncData} (F : Fun K "_law_purse" "_law_purse" sPurse f fd)
    (FM : Fun K "_law_mixed" "_law_mixed" sMixed fM fdM) (bM : Binds K fdM ["_law_cell", "_law_k"] []) (gM : mg "_law_mixed" = some (.ref fM)) :
    FnOk P w K mg base CX0 2 f fd ["_law_cell", "_law_k"] spPurse := by
  have GM : FnOk P w K mg base CX0 1 fM fdM ["_law_cell", "_law_k"] spMixed := ok_mixed FM
  refine F.ok scP (fun vs H Q E h => ?_) (fun cdv A outer s H vs Q E hr h => ?_)
  · obtain ⟨c, k, rfl, _⟩ := h
    rfl
  · obtain ⟨c, k, rfl, h0, h1, q⟩ := h
    refine ⟨_, pss_cons (ps_if (pt_cmpR op_ge (pv 0) (pe_op op_pow pe_int pe_int) (nomark _))
        (pss_one (ps_ret (pe_lst (pa_cons (pe_op op_mod (pe_op op_sub (pv 0) (pe_op op_pow pe_int pe_int)) (pe_op op_powW (pe_op op_pow pe_int pe_int) pe_int)) (pa_cons pe_int (pa_cons (pv 1) pa_nil)))))) pss_nil)
      (pss_one (ps_ret (pe_lst (pa_cons (pe_call GM hr rfl gM FM.kp bM .nil pass0 (pa_cons (pv 0) (pa_cons (pv 1) pa_nil))) (pa_cons pe_int (pa_cons (pe_op op_add (pe_op op_mod (pv 0) (pe_op op_add (pe_op op_pow pe_int pe_int) pe_int)) (pv 1)) pa_nil)))))), ?_⟩
    refine ⟨_, rfl, _, _, rfl, rfl, ⟨by decide, by decide, by decide⟩, _, _, rfl, rfl, _, rfl, ?_⟩
    refine ite2 (fun _ => ?_) (fun _ => ?_)
    · refine ⟨_, rfl, _, _, rfl, rfl, ⟨by decide, by decide, by decide⟩, _, _, rfl, rfl, _, _, rfl, rfl, ⟨by decide, by decide, by decide⟩, _, _, rfl, rfl, ⟨by decide, by decide +kernel⟩, _, _, rfl, rfl, by show (0 : Int) < _; decide +kernel, _, rfl, by show 3 ≤ sizeLine; decide, fun p np => ?_⟩
      refine q p _ np (Same.new np) ⟨_, k, upd_same, Int.emod_nonneg _ (by decide +kernel), Int.lt_trans (Int.emod_lt_of_pos _ (by decide +kernel)) (by decide +kernel), h0, by omega, by decide⟩
    · have e18 : ((10 : Int) ^ Int.toNat 18 + 9) = 1000000000000000009 := by decide +kernel
      refine ⟨_, rfl, _, rfl, c, k, rfl, h0, by omega, fun m m0 m1 => ?_⟩
      refine ⟨_, rfl, _, _, rfl, rfl, ⟨by decide, by decide, by decide⟩, _, _, rfl, rfl, _, _, rfl, rfl, by show (0 : Int) < _; decide +kernel, _, rfl, _, _, rfl, rfl, by show 3 ≤ sizeLine; decide, fun p np => ?_⟩
      refine q p _ np (Same.new np) ⟨m, _, upd_same, m0, Int.lt_trans m1 (by decide +kernel), ?_, ?_, by decide⟩
      · rw [e18]
        omega
      · rw [e18]
        omega
def spTake : Sp := fun vs H Q _ => ∃ (a : Addr) (s n : Int), vs = [.ref a, .int s] ∧ 1 ≤ s ∧ s ≤ 16777216 ∧ PurseAt H a n ∧ n ≤ 5000000 ∧
  ∀ (j : Nat) (n' : Int) (H' : Hp), (j : Int) < s → n' ≤ n + 1 → PurseAt H' a n' → But a H H' → (∀ b, H b = none → H' b = none) → Q (.int (j : Int)) H'
theorem scT : FnScope ["_law_purse_here", "_law_many", "_law_got"] ["_law_purse_here", "_law_many"] (defScope sTake) := ⟨rfl, rfl, rfl, by decide +kernel, rfl, by decide +kernel, by decide +kernel⟩
theorem ok_take {f fM : Addr} {fd fdM : FuncData} (F : Fun K "_law_take" "_law_take" sTake f fd)
    (FM : Fun K "_law_mixed" "_law_mixed" sMixed fM fdM) (bM : Binds K fdM ["_law_cell", "_law_k"] []) (gM : mg "_law_mixed" = some (.ref fM)) :
    FnOk P w K mg base CX0 2 f fd ["_law_purse_here", "_law_many"] spTake := by
  have GM : FnOk P w K mg base CX0 1 fM fdM ["_law_cell", "_law_k"] spMixed := ok_mixed FM
  refine F.ok scT (fun vs H Q E h => ?_) (fun cdv A outer st H vs Q E hr h => ?_)
  · obtain ⟨a, s, n, rfl, _⟩ := h
    rfl
  · obtain ⟨a, s, n, rfl, s1, s2, ⟨x, z, hp, x0, x1, z0, z1, n0⟩, n1, q⟩ := h
    refine ⟨_, C8.pss_cut (ps_if (pt_cmpR op_lt (pe_ix ix_list (pv 0) pe_int (fun _ _ => rfl)) (pv 1) (nomark _))
        (pss_cons (ps_asg (pe_op op_add (pe_ix ix_list (pv 0) pe_int (fun _ _ => rfl)) pe_int) (pg_sub (pv 0) pe_int set_list))
          (pss_one (ps_asg (pe_op op_add (pe_ix ix_list (pv 0) pe_int (fun _ _ => rfl)) (pe_op op_mul (pv 1) (pe_call GM hr rfl gM FM.kp bM .nil pass0
            (pa_cons (pe_ix ix_list (pv 0) pe_int (fun _ _ => rfl)) (pa_cons (pe_op op_add (pe_op op_mul pe_int (pe_ix ix_list (pv 0) pe_int (fun _ _ => rfl))) pe_int) pa_nil))))) (pg_sub (pv 0) pe_int set_list)))) pss_nil)
      (pss_cons (ps_set (i := 2) scT.nd rfl (.inl rfl) (pe_op op_mod (pe_ix ix_list (pv 0) pe_int (fun _ _ => rfl)) (pv 1)))
      (pss_cons (ps_asg (pe_op op_fdiv (pe_ix ix_list (pv 0) pe_int (fun _ _ => rfl)) (pv 1)) (pg_sub (pv 0) pe_int set_list))
      (pss_one (ps_ret (pv 2))))), ?_⟩
    refine ⟨fun σ' H' => ∃ x' n' : Int, σ' = [some (.ref a), some (.int s), none] ∧ H' = upd H a (.lst [.int x', .int n', .int z]) ∧ 0 ≤ x' ∧ x' < 2 ^ 2000 ∧ 0 ≤ n' ∧ n' ≤ n + 1, ?_, ?_⟩
    · refine ⟨_, rfl, a, _, 0, _, rfl, rfl, SqL.of hp, atI_nat (j := 0) rfl, _, rfl, _, _, rfl, rfl, _, rfl, ?_⟩
      refine ite2 (fun c => ?_) (fun c => ?_)
      · refine ⟨_, rfl, a, _, 1, _, rfl, rfl, SqL.of hp, atI_nat (j := 1) rfl, _, _, rfl, rfl, ?_⟩
        refine ⟨_, rfl, a, _, 1, 1, rfl, rfl, hp, rfl, ?_⟩
        refine ⟨_, rfl, a, _, 0, _, rfl, rfl, SqL.of upd_same, atI_nat (j := 0) rfl, _, rfl, _, rfl, a, _, 2, _, rfl, rfl, SqL.of upd_same, atI_nat (j := 2) rfl, _, rfl, a, _, 1, _, rfl, rfl, SqL.of upd_same, atI_nat (j := 1) rfl, _, _, rfl, rfl, .inl ⟨by decide, by decide⟩, _, _, rfl, rfl,
          z, _, rfl, by omega, by omega, fun m m0 m1 => ?_⟩
        have sm0 : 0 ≤ s * m := Int.mul_nonneg (by omega) m0
        have sm1 : s * m ≤ 16777216 * m := Int.mul_le_mul_of_nonneg_right s2 m0
        refine ⟨_, _, rfl, rfl, .inl ⟨by omega, by omega⟩, _, _, rfl, rfl, _, rfl, a, _, 0, 0, rfl, rfl, upd_same, rfl, ?_⟩
        refine ⟨x + s * m, n + 1, rfl, ?_, by omega, ?_, by omega, by omega⟩
        · rw [upd_upd]
          rfl
        · have cx : x < s := of_decide_eq_true c
          have b1 : s * m < 2 ^ 225 := by omega
          have b2 : x + s * m < 2 ^ 226 := by omega
          exact Int.lt_trans b2 (by decide +kernel)
      · refine ⟨x, n, rfl, ?_, x0, x1, n0, by omega⟩
        funext b
        by_cases e : b = a
        · rw [e, upd_same, hp]
        · rw [upd_ne e]
    · rintro σ' H' ⟨x', n', rfl, rfl, x0', x1', n0', n1'⟩
      refine ⟨_, rfl, a, _, 0, _, rfl, rfl, SqL.of upd_same, atI_nat (j := 0) rfl, _, rfl, _, _, rfl, rfl, by omega, ?_⟩
      refine ⟨_, rfl, a, _, 0, _, rfl, rfl, SqL.of upd_same, atI_nat (j := 0) rfl, _, rfl, _, _, rfl, rfl, ⟨by omega, by omega⟩, _, rfl, a, _, 0, 0, rfl, rfl, upd_same, rfl, _, rfl, ?_⟩
      obtain ⟨j, hj⟩ := Int.eq_ofNat_of_zero_le (Int.emod_nonneg x' (show s ≠ 0 by omega))
      have jl : (j : Int) < s := by
        rw [← hj]
        exact Int.emod_lt_of_pos _ (by omega)
      have fin := fun H' => q j n' H' jl n1'
      rw [← hj] at fin
      refine fin _ ⟨x' / s, z, upd_same, Int.ediv_nonneg x0' (by omega), Int.lt_of_le_of_lt (Int.ediv_le_self _ x0') x1', z0, z1, n0'⟩ (by rw [upd_upd]; exact But.upd) fun b e => ?_
      have c : b ≠ a := fun c => by
        rw [c, hp] at e
        cases e
      rw [upd_ne c, upd_ne c]
      exact e
end
end G01

set_option Elab.async false
set_option maxRecDepth 100000
/-! is_whole, refuse_place, refuse_row -/
namespace S8
open PySem PySem.Spec PyProof.Rows L2 Hx Xr P01 G01 W8 Ex
def Arg (H : Hp) (v : V) : Prop := match v with
  | .int _ => True
  | .bl _ => True
  | .non => True
  | .str z => z.length ≤ 1000
  | .ref a => ∃ xs, H a = some (.lst xs)
  | _ => False
def tyV (v : V) : String := match v with
  | .int _ => "int"
  | .bl _ => "bool"
  | .non => "NoneType"
  | .str _ => "str"
  | _ => "list"
theorem Arg.ty {K : PySem.W.Frag} {H : Hp} {v : V} (h : Arg H v) : TyX K H v (.type (tyV v)) := by
  cases v with
  | int i => exact .base (.int _)
  | bl i => exact .base (.bl _)
  | non => exact .base .non
  | str i => exact .base (.str _)
  | ref a =>
    obtain ⟨xs, hx⟩ := h
    exact .base (.lst hx)
  | _ => exact (show False from h).elim
def isIntV (v : V) : Bool := match v with
  | .int _ => true
  | .bl _ => true
  | _ => false
def isStrV (v : V) : Bool := match v with
  | .str _ => true
  | _ => false
theorem Arg.int {K : PySem.W.Frag} {H : Hp} {v : V} (h : Arg H v) : PySem.W.kitOne K (.type (tyV v)) (.type "int") = some (isIntV v) := by
  cases v with
  | int i => exact kit_ty (a := "int") (b := "int") (r := true) (by decide +kernel)
  | bl i => exact kit_ty (a := "bool") (b := "int") (r := true) (by decide +kernel)
  | non => exact kit_ty (a := "NoneType") (b := "int") (r := false) (by decide +kernel)
  | str i => exact kit_ty (a := "str") (b := "int") (r := false) (by decide +kernel)
  | ref a => exact kit_ty (a := "list") (b := "int") (r := false) (by decide +kernel)
  | _ => exact (show False from h).elim
theorem Arg.str {K : PySem.W.Frag} {H : Hp} {v : V} (h : Arg H v) : PySem.W.kitOne K (.type (tyV v)) (.type "str") = some (isStrV v) := by
  cases v with
  | int i => exact kit_ty (a := "int") (b := "str") (r := false) (by decide +kernel)
  | bl i => exact kit_ty (a := "bool") (b := "str") (r := false) (by decide +kernel)
  | non => exact kit_ty (a := "NoneType") (b := "str") (r := false) (by decide +kernel)
  | str i => exact kit_ty (a := "str") (b := "str") (r := true) (by decide +kernel)
  | ref a => exact kit_ty (a := "list") (b := "str") (r := false) (by decide +kernel)
  | _ => exact (show False from h).elim
def whole (v : V) : Bool := match v with
  | .int _ => true
  | _ => false
def plOk (v : V) (m : Int) : Bool := match v with
  | .int i => decide (1 ≤ i) && decide (i ≤ m)
  | _ => false
def rowOk (v : V) : Bool := match v with
  | .str z => decide (z.length ≤ 100) && Txt.isascii z && ((z.length : Int) == 0 || Txt.isprintable z)
  | _ => false
structure TxtS (mg : Str → Option Value) : Prop where
  isi : mg "isinstance" = none
  int : mg "int" = none
  str : mg "str" = none
  len : mg "len" = none
  list : mg "list" = none
  range : mg "range" = none
structure ErX (K : PySem.W.Frag) (mg : Str → Option Value) (x : Str) (C : Addr) : Prop where
  g : mg x = some (.ref C)
  x : PySem.W.excIn K C [.type "ValueError", .type "Exception", .type "BaseException", .type "object"] "ValueError.__new__" = true
  k : PySem.W.keepIn K (.ref C) = true
  b : PySem.W.subIn K (.ref C) (.type "BaseException") = some true
  t : PySem.W.typeIn K (.ref C) = some (.type "type")
section
variable {P : Program} {w : World} {K : PySem.W.Frag} {mg : Str → Option Value} {base : Heap} {CP CB : Addr}
abbrev sWhole : Stmt := top 38
abbrev sPlace : Stmt := top 224
abbrev sRefRow : Stmt := top 225
def spWhole : Sp := fun vs H Q _ => ∃ v, vs = [v] ∧ Arg H v ∧ Q (.bl (whole v)) H
theorem scW : FnScope ["thing"] ["thing"] (defScope sWhole) := ⟨rfl, rfl, rfl, by decide +kernel, rfl, by decide +kernel, by decide +kernel⟩
theorem ok_whole {f : Addr} {fd : FuncData} (F : Fun K "is_whole" "is_whole" sWhole f fd) (T : TxtS mg) : FnOk P w K mg base CX0 1 f fd ["thing"] spWhole := by
  refine F.ok scW (fun vs H Q E h => ?_) (fun cdv A outer s H vs Q E hr h => ?_)
  · obtain ⟨v, rfl, _⟩ := h
    rfl
  · obtain ⟨v, rfl, a, q⟩ := h
    refine ⟨_, (pss_one (ps_ret (pe_and (pe_callB call_isi (by rfl) T.isi (by decide +kernel) (pa_cons (pv 0) (pa_cons (pe_bltn (v := .ty "int") (by rfl) T.int (by decide +kernel) rfl) pa_nil))) (pe_and (pe_cmpR op_isnot_lit (pv 0) pe_bl (nomark _)) (pe_one (pe_cmpR op_isnot_lit (pv 0) pe_bl (nomark _))))))), ?_⟩
    refine ⟨_, rfl, _, _, _, _, _, rfl, .ty "int", a.ty, a.int, _, rfl, ?_⟩
    cases v with
    | int i => exact iteT ⟨_, rfl, _, rfl, .inl ⟨_, rfl⟩, _, rfl, iteT ⟨_, rfl, _, rfl, .inl ⟨_, rfl⟩, q⟩⟩
    | bl b =>
      cases b with
      | true => exact iteT ⟨_, rfl, _, rfl, .inr ⟨_, rfl⟩, _, rfl, iteF q⟩
      | false => exact iteT ⟨_, rfl, _, rfl, .inr ⟨_, rfl⟩, _, rfl, iteT ⟨_, rfl, _, rfl, .inr ⟨_, rfl⟩, q⟩⟩
    | non => exact iteF q
    | str z => exact iteF q
    | ref a => exact iteF q
    | _ => exact (show False from a).elim
def spPlace (CP : Addr) : Sp := fun vs H Q E => ∃ (v : V) (m : Int), vs = [v, .int m] ∧ Arg H v ∧ (plOk v m = true → Q .non H) ∧ (plOk v m = false → E (.ref CP) none H)
theorem scPl : FnScope ["at", "most"] ["at", "most"] (defScope sPlace) := ⟨rfl, rfl, rfl, by decide +kernel, rfl, by decide +kernel, by decide +kernel⟩
theorem ok_place {f fW : Addr} {fd fdW : FuncData} (F : Fun K "refuse_place" "refuse_place" sPlace f fd) (TP : ErX K mg "NoPlace" CP)
    (GW : FnOk P w K mg base CX0 1 fW fdW ["thing"] spWhole) (kW : PySem.W.keepIn K (.ref fW) = true) (bW : Binds K fdW ["thing"] []) (gW : mg "is_whole" = some (.ref fW)) :
    FnOk P w K mg base (L2.CX P w) 2 f fd ["at", "most"] (spPlace CP) := by
  refine F.okX scPl (fun vs H Q E h => ?_) (fun cdv A outer s H vs Q E hr h => ?_)
  · obtain ⟨v, m, rfl, _⟩ := h
    rfl
  · obtain ⟨v, m, rfl, a, q1, q2⟩ := h
    refine ⟨_, (pss_one (ps_if (PW.pt (pw_or (pt_not (pt_val (pe_call GW hr rfl gW kW bW .nil pass0 (pa_cons (pv 0) pa_nil)))) (pw_or1 (pt_not (pt_chain op_le op_le pe_int (pv 0) (pv 1)))))) (pss_one (ps_raise rfl (takes_of rfl rfl rfl rfl) (pmk_own0 PySem.F.excBase_ValueError TP.x TP.g TP.k (raises_own TP.b TP.t) rfl))) pss_nil)), ?_⟩
    refine ⟨_, rfl, v, rfl, a, _, rfl, ?_⟩
    cases v with
    | int i =>
      refine iteF ⟨_, rfl, _, _, rfl, rfl, _, rfl, ?_⟩
      by_cases c1 : 1 ≤ i
      · rw [decide_eq_true c1]
        refine iteT ⟨_, rfl, _, _, rfl, rfl, _, rfl, ?_⟩
        by_cases c2 : i ≤ m
        · rw [decide_eq_true c2]
          exact iteF (q1 (by simp [plOk, c1, c2]))
        · rw [decide_eq_false c2]
          exact iteT (q2 (by simp [plOk, c2]))
      · rw [decide_eq_false c1]
        exact iteF ⟨_, rfl, iteT (q2 (by simp [plOk, c1]))⟩
    | bl b => exact iteT (q2 rfl)
    | non => exact iteT (q2 rfl)
    | str z => exact iteT (q2 rfl)
    | ref a => exact iteT (q2 rfl)
    | _ => exact (show False from a).elim
def spRow (CB : Addr) : Sp := fun vs H Q E => ∃ v : V, vs = [v] ∧ Arg H v ∧ (rowOk v = true → Q .non H) ∧ (rowOk v = false → E (.ref CB) none H)
theorem scRr : FnScope ["row"] ["row"] (defScope sRefRow) := ⟨rfl, rfl, rfl, by decide +kernel, rfl, by decide +kernel, by decide +kernel⟩
theorem ok_refrow {f : Addr} {fd : FuncData} (F : Fun K "refuse_row" "refuse_row" sRefRow f fd) (T : TxtS mg) (TB : ErX K mg "BadRow" CB) {tL : Tok} (gL : mg "LONGEST_ROW" = some (.int 100 tL)) :
    FnOk P w K mg base (L2.CX P w) 1 f fd ["row"] (spRow CB) := by
  refine F.okX scRr (fun vs H Q E h => ?_) (fun cdv A outer s H vs Q E hr h => ?_)
  · obtain ⟨v, rfl, _⟩ := h
    rfl
  · obtain ⟨v, rfl, a, q1, q2⟩ := h
    refine ⟨_, (pss_one (ps_if (PW.pt (pw_or (pt_not (pt_val (pe_callB call_isi (by rfl) T.isi (by decide +kernel) (pa_cons (pv 0) (pa_cons (pe_bltn (v := .ty "str") (by rfl) T.str (by decide +kernel) rfl) pa_nil))))) (pw_or (pt_cmpR op_gt (pe_callB call_len_str (by rfl) T.len PySem.boot_len (pa_cons (pv 0) pa_nil)) (pe_glob (v := .int 100) (by rfl) gL ⟨_, rfl⟩) (nomark _)) (pw_or (pt_not (pt_val (pe_bm0 PySem.F.plainAttrs_str PySem.F.slot_str_isascii PySem.F.type_str_isascii mt_isascii (pv 0)))) (pw_or1 (PW.pt (pw_and (pt_truth (pv 0) (by intro _; rfl)) (pw_and1 (pt_not (pt_val (pe_bm0 PySem.F.plainAttrs_str PySem.F.slot_str_isprintable PySem.F.type_str_isprintable mt_isprintable (pv 0)))))))))))) (pss_one (ps_raise rfl (takes_of rfl rfl rfl rfl) (pmk_own0 PySem.F.excBase_ValueError TB.x TB.g TB.k (raises_own TB.b TB.t) rfl))) pss_nil)), ?_⟩
    refine ⟨_, rfl, _, _, _, _, _, rfl, .ty "str", a.ty, a.str, _, rfl, ?_⟩
    cases v with
    | str z =>
      have zl : z.length ≤ 1000 := a
      refine iteF ⟨_, rfl, z, rfl, by rw [sizeLine_eq]; omega, _, _, rfl, rfl, _, rfl, ?_⟩
      by_cases c1 : (100 : Int) < (z.length : Int)
      · rw [decide_eq_true c1]
        exact iteT (q2 (by
          have : ¬ z.length ≤ 100 := by omega
          simp [rowOk, this]))
      · rw [decide_eq_false c1]
        have c1' : z.length ≤ 100 := by omega
        refine iteF ⟨_, rfl, rfl, z, rfl, rfl, trivial, _, rfl, ?_⟩
        cases c2 : Txt.isascii z with
        | false => exact iteT (q2 (by simp [rowOk, c2]))
        | true =>
          refine iteF ⟨_, rfl, _, ⟨by rw [sizeLine_eq]; omega, rfl⟩, ?_⟩
          cases c3 : ((z.length : Int) != 0) with
          | false =>
            have e : ((z.length : Int) == 0) = true := by
              rw [bne, Bool.not_eq_false'] at c3
              exact c3
            exact iteF (iteF (q1 (by simp only [rowOk, c2, e, Bool.true_or, Bool.and_true, decide_eq_true_eq]; exact c1')))
          | true =>
            have e : ((z.length : Int) == 0) = false := by
              rw [bne, Bool.not_eq_true'] at c3
              exact c3
            refine iteT ⟨_, rfl, rfl, z, rfl, rfl, trivial, _, rfl, ?_⟩
            cases c4 : Txt.isprintable z with
            | false => exact iteT (q2 (by simp only [rowOk, c2, e, c4, Bool.false_or, Bool.and_false]))
            | true => exact iteF (q1 (by simp only [rowOk, c2, e, c4, Bool.false_or, Bool.and_true, decide_eq_true_eq]; exact c1'))
    | bl b => exact iteT (q2 rfl)
    | non => exact iteT (q2 rfl)
    | int z => exact iteT (q2 rfl)
    | ref a => exact iteT (q2 rfl)
    | _ => exact (show False from a).elim
end
end S8

set_option Elab.async false
set_option maxRecDepth 100000
/-! what stands of a workshop: states one behind the other -/
namespace S8
open PySem PySem.Spec PyProof.Rows L2 Hx Xr P01 G01 W8 Ex
def off (qs : List Addr) (H : Hp) : Hp := fun b => if b ∈ qs then none else H b
section
variable {qs : List Addr} {H H' : Hp} {o T : Addr} {ob : HO}
theorem off_at (h : T ∉ qs) : off qs H T = H T := if_neg h
theorem off_in (h : T ∈ qs) : off qs H T = none := if_pos h
theorem off_same : Same (off qs H) H := fun b u e => by
  by_cases c : b ∈ qs
  · rw [off_in c] at e
    cases e
  · rwa [off_at c] at e
theorem off_out {u : HO} (e : off qs H T = some u) : T ∉ qs := fun c => by
  rw [off_in c] at e
  cases e
theorem off_updIn (h : o ∈ qs) : off qs (upd H o ob) = off qs H := by
  funext b
  by_cases c : b ∈ qs
  · rw [off_in c, off_in c]
  · rw [off_at c, off_at c, upd_ne (fun e => c (by rw [e]; exact h))]
theorem off_updOut (h : T ∉ qs) : off qs (upd H T ob) = upd (off qs H) T ob := by
  funext b
  by_cases d : b = T
  · subst d
    rw [off_at h, upd_same, upd_same]
  · rw [upd_ne d]
    by_cases c : b ∈ qs
    · rw [off_in c, off_in c]
    · rw [off_at c, off_at c, upd_ne d]
theorem out_new (th : ∀ b ∈ qs, H b ≠ none) (n : H T = none) : T ∉ qs := fun c => th T c n
theorem off_but (h : o ∈ qs) (b : But o H H') : Same (off qs H) (off qs H') := fun c u e => by
  have nc := off_out e
  rw [off_at nc] at e ⊢
  exact b c u (fun z => nc (by rw [z]; exact h)) e
theorem off_mono (s : Same H H') : Same (off qs H) (off qs H') := fun c u e => by
  have nc := off_out e
  rw [off_at nc] at e ⊢
  exact s c u e
end
theorem lk_hd {k : Str} {v : V} {r : List (Str × V)} : List.lookup k ((k, v) :: r) = some v := by simp [List.lookup]
theorem lk_tl {k j : Str} {v : V} {r : List (Str × V)} (h : ¬ k = j) : List.lookup k ((j, v) :: r) = List.lookup k r := by
  have e : (k == j) = false := by rw [beq_eq_false_iff_ne]; exact h
  simp [List.lookup, e]
theorem pf_hd {k : Str} {v u : V} {r : List (Str × V)} : putF k v ((k, u) :: r) = (k, v) :: r := by
  show (if k = k then _ else _) = _
  rw [if_pos rfl]
theorem pf_tl {k j : Str} {v u : V} {r : List (Str × V)} (h : ¬ j = k) : putF k v ((j, u) :: r) = (j, u) :: putF k v r := by
  show (if j = k then _ else _) = _
  rw [if_neg h]
theorem pf_nil {k : Str} {v : V} : putF k v [] = [(k, v)] := rfl
def sf (l s nx : V) : List (Str × V) := [("lines", l), ("sums", s), ("ahead", nx), ("looked", .non), ("wholeness", .non), ("is_led", .bl false), ("last", .non)]
def wf (v : V) : List (Str × V) := [("state", v)]
section
variable {l s nx v u : V}
theorem sf_lines : (sf l s nx).lookup ("lines" : Str) = some l := lk_hd
theorem sf_sums : (sf l s nx).lookup ("sums" : Str) = some s := (lk_tl (by decide +kernel)).trans lk_hd
theorem sf_ahead : (sf l s nx).lookup ("ahead" : Str) = some nx := (lk_tl (by decide +kernel)).trans ((lk_tl (by decide +kernel)).trans lk_hd)
theorem sf_no {m : Str} (h : (["lines", "sums", "ahead", "looked", "wholeness", "is_led", "last"] : List Str).all (fun j => decide (¬ m = j)) = true) : (sf l s nx).lookup m = none := by
  simp only [List.all_cons, List.all_nil, Bool.and_true, Bool.and_eq_true, decide_eq_true_eq] at h
  obtain ⟨h1, h2, h3, h4, h5, h6, h7⟩ := h
  unfold sf
  rw [lk_tl h1, lk_tl h2, lk_tl h3, lk_tl h4, lk_tl h5, lk_tl h6, lk_tl h7]
  rfl
theorem sf_looked : putF "looked" .non (sf l s nx) = sf l s nx := by
  unfold sf
  rw [pf_tl (by decide +kernel), pf_tl (by decide +kernel), pf_tl (by decide +kernel), pf_hd]
theorem sf_led : putF "is_led" (.bl false) (sf l s nx) = sf l s nx := by
  unfold sf
  rw [pf_tl (by decide +kernel), pf_tl (by decide +kernel), pf_tl (by decide +kernel), pf_tl (by decide +kernel), pf_tl (by decide +kernel), pf_hd]
theorem sf_last : putF "last" .non (sf l s nx) = sf l s nx := by
  unfold sf
  rw [pf_tl (by decide +kernel), pf_tl (by decide +kernel), pf_tl (by decide +kernel), pf_tl (by decide +kernel), pf_tl (by decide +kernel), pf_tl (by decide +kernel), pf_hd]
theorem sf_made : putF "last" .non (putF "is_led" (.bl false) (putF "wholeness" .non (putF "looked" .non (putF "ahead" nx (putF "sums" s (putF "lines" l [])))))) = sf l s nx := by
  have e1 : putF ("sums" : Str) s [(("lines" : Str), l)] = [(("lines" : Str), l), (("sums" : Str), s)] := by rw [pf_tl (by decide +kernel), pf_nil]
  have e2 : putF ("ahead" : Str) nx [(("lines" : Str), l), (("sums" : Str), s)] = [(("lines" : Str), l), (("sums" : Str), s), (("ahead" : Str), nx)] := by rw [pf_tl (by decide +kernel), pf_tl (by decide +kernel), pf_nil]
  have e3 : putF ("looked" : Str) V.non [(("lines" : Str), l), (("sums" : Str), s), (("ahead" : Str), nx)] = [(("lines" : Str), l), (("sums" : Str), s), (("ahead" : Str), nx), (("looked" : Str), V.non)] := by rw [pf_tl (by decide +kernel), pf_tl (by decide +kernel), pf_tl (by decide +kernel), pf_nil]
  have e4 : putF ("wholeness" : Str) V.non [(("lines" : Str), l), (("sums" : Str), s), (("ahead" : Str), nx), (("looked" : Str), V.non)] = [(("lines" : Str), l), (("sums" : Str), s), (("ahead" : Str), nx), (("looked" : Str), V.non), (("wholeness" : Str), V.non)] := by rw [pf_tl (by decide +kernel), pf_tl (by decide +kernel), pf_tl (by decide +kernel), pf_tl (by decide +kernel), pf_nil]
  have e5 : putF ("is_led" : Str) (V.bl false) [(("lines" : Str), l), (("sums" : Str), s), (("ahead" : Str), nx), (("looked" : Str), V.non), (("wholeness" : Str), V.non)] = [(("lines" : Str), l), (("sums" : Str), s), (("ahead" : Str), nx), (("looked" : Str), V.non), (("wholeness" : Str), V.non), (("is_led" : Str), (V.bl false))] := by rw [pf_tl (by decide +kernel), pf_tl (by decide +kernel), pf_tl (by decide +kernel), pf_tl (by decide +kernel), pf_tl (by decide +kernel), pf_nil]
  have e6 : putF ("last" : Str) V.non [(("lines" : Str), l), (("sums" : Str), s), (("ahead" : Str), nx), (("looked" : Str), V.non), (("wholeness" : Str), V.non), (("is_led" : Str), (V.bl false))] = [(("lines" : Str), l), (("sums" : Str), s), (("ahead" : Str), nx), (("looked" : Str), V.non), (("wholeness" : Str), V.non), (("is_led" : Str), (V.bl false)), (("last" : Str), V.non)] := by rw [pf_tl (by decide +kernel), pf_tl (by decide +kernel), pf_tl (by decide +kernel), pf_tl (by decide +kernel), pf_tl (by decide +kernel), pf_tl (by decide +kernel), pf_nil]
  rw [pf_nil, e1, e2, e3, e4, e5, e6]
  rfl
theorem wf_state : (wf v).lookup ("state" : Str) = some v := lk_hd
theorem wf_no {m : Str} (h : ¬ m = "state") : (wf v).lookup m = none := (lk_tl h).trans rfl
theorem wf_put : putF "state" u (wf v) = wf u := pf_hd
end
def Chain (K : PySem.W.Frag) (CS : Addr) (G : Hp) : V → List (List Str) → Prop
  | v, [] => v = .non
  | v, r :: rs => ∃ (a dx l s : Addr) (zs : List V) (nx : V), v = .ref a ∧ G a = some (.ins CS dx (sf (.ref l) (.ref s) nx)) ∧ SqL K G l (r.map V.str) ∧ SqL K G s zs ∧ zs.length = r.length ∧ r.length ≤ 120 ∧ Chain K CS G nx rs
theorem Chain.mono {K : PySem.W.Frag} {CS : Addr} {G G' : Hp} (e : Same G G') : ∀ {rs : List (List Str)} {v : V}, Chain K CS G v rs → Chain K CS G' v rs
  | [], _, h => h
  | _ :: _, _, h => by
    obtain ⟨a, dx, l, s, zs, nx, h1, h2, h3, h4, h5, h6, h7⟩ := h
    exact ⟨a, dx, l, s, zs, nx, h1, e _ _ h2, e.seq h3, e.seq h4, h5, h6, h7.mono e⟩
structure Sh (K : PySem.W.Frag) (CW CS : Addr) (H : Hp) (qs : List Addr) (o : Addr) (ch : List (List Str)) : Prop where
  mem : o ∈ qs
  there : ∀ b ∈ qs, H b ≠ none
  obj : ∃ (dx : Addr) (v : V), H o = some (.ins CW dx (wf v)) ∧ Chain K CS (off qs H) v ch
theorem Sh.mono {K : PySem.W.Frag} {CW CS : Addr} {H H' : Hp} {qs : List Addr} {o : Addr} {ch : List (List Str)} (S : Sh K CW CS H qs o ch) (e : Same H H') : Sh K CW CS H' qs o ch := by
  obtain ⟨dx, v, h1, h2⟩ := S.obj
  exact ⟨S.mem, fun b hb n => S.there b hb (e.free n), dx, v, e _ _ h1, h2.mono (off_mono e)⟩
structure TxtW (K : PySem.W.Frag) (mg : Str → Option Value) (CW CS : Addr) : Prop where
  clS : Cls K CS
  n1 : NoAttr K CS "lines"
  n2 : NoAttr K CS "sums"
  n3 : NoAttr K CS "ahead"
  n4 : NoAttr K CS "looked"
  n5 : NoAttr K CS "wholeness"
  n6 : NoAttr K CS "is_led"
  n7 : NoAttr K CS "last"
  clW : Cls K CW
  nS : NoAttr K CW "state"
  gS : mg "State" = some (.ref CS)
section
variable {P : Program} {w : World} {K : PySem.W.Frag} {mg : Str → Option Value} {base : Heap} {CW CS : Addr}
def iState : Nat := 222
def iShop : Nat := 223
abbrev mSInit : Stmt := inClass (top iState) 0
abbrev mFade : Stmt := inClass (top iState) 3
abbrev mWInit : Stmt := inClass (top iShop) 0
abbrev mBegin : Stmt := inClass (top iShop) 1
abbrev mPut : Stmt := inClass (top iShop) 2
abbrev mCut : Stmt := inClass (top iShop) 3
abbrev mChange : Stmt := inClass (top iShop) 4
abbrev mBack : Stmt := inClass (top iShop) 5
abbrev mRows : Stmt := inClass (top iShop) 6
def spSInit (CS : Addr) : Sp := fun vs H Q _ => ∃ (x dx : Addr) (l s nx : V), vs = [.ref x, l, s, nx] ∧ H x = some (.ins CS dx []) ∧ Q .non (upd H x (.ins CS dx (sf l s nx)))
theorem scSI : FnScope ["self", "lines", "sums", "ahead"] ["self", "lines", "sums", "ahead"] (defScope mSInit) := ⟨rfl, rfl, rfl, by decide +kernel, rfl, by decide +kernel, by decide +kernel⟩
set_option maxHeartbeats 4000000 in
theorem ok_sinit {f : Addr} {fd : FuncData} (F : Fun K "__init__" "State.__init__" mSInit f fd) (T : TxtW K mg CW CS) : FnOk P w K mg base CX0 1 f fd ["self", "lines", "sums", "ahead"] (spSInit CS) := by
  refine F.ok scSI (fun vs H Q E h => ?_) (fun cdv A outer st H vs Q E hr h => ?_)
  · obtain ⟨x, dx, l, s, nx, rfl, _⟩ := h
    rfl
  · obtain ⟨x, dx, l, s, nx, rfl, hx, q⟩ := h
    refine ⟨_, pss_cons (ps_fld (pv 0) (pv 1) rfl) (pss_cons (ps_fld (pv 0) (pv 2) rfl) (pss_cons (ps_fld (pv 0) (pv 3) rfl) (pss_cons (ps_fld (pv 0) pe_non rfl) (pss_cons (ps_fld (pv 0) pe_non rfl) (pss_cons (ps_fld (pv 0) pe_bl rfl) (pss_one (ps_fld (pv 0) pe_non rfl))))))), ?_⟩
    refine ⟨_, rfl, _, rfl, x, CS, dx, _, rfl, hx, T.clS, T.n1, (by show 0 < 1000; decide), ?_⟩
    refine ⟨_, rfl, _, rfl, x, CS, dx, _, rfl, upd_same, T.clS, T.n2, (by show 1 < 1000; decide), ?_⟩
    refine ⟨_, rfl, _, rfl, x, CS, dx, _, rfl, upd_same, T.clS, T.n3, (by show 2 < 1000; decide), ?_⟩
    refine ⟨_, rfl, x, CS, dx, _, rfl, upd_same, T.clS, T.n4, (by show 3 < 1000; decide), ?_⟩
    refine ⟨_, rfl, x, CS, dx, _, rfl, upd_same, T.clS, T.n5, (by show 4 < 1000; decide), ?_⟩
    refine ⟨_, rfl, x, CS, dx, _, rfl, upd_same, T.clS, T.n6, (by show 5 < 1000; decide), ?_⟩
    refine ⟨_, rfl, x, CS, dx, _, rfl, upd_same, T.clS, T.n7, (by show 6 < 1000; decide), ?_⟩
    rw [sf_made, upd_upd, upd_upd, upd_upd, upd_upd, upd_upd, upd_upd]
    exact q
def spFade (CS : Addr) : Sp := fun vs H Q _ => ∃ (x dx : Addr) (l s nx : V), vs = [.ref x] ∧ H x = some (.ins CS dx (sf l s nx)) ∧ Q .non H
theorem scFa : FnScope ["self"] ["self"] (defScope mFade) := ⟨rfl, rfl, rfl, by decide +kernel, rfl, by decide +kernel, by decide +kernel⟩
theorem upd_id {H : Hp} {x : Addr} {o : HO} (h : H x = some o) : upd H x o = H := by
  funext b
  by_cases c : b = x
  · rw [c, upd_same, h]
  · rw [upd_ne c]
set_option maxHeartbeats 4000000 in
theorem ok_fade {f : Addr} {fd : FuncData} (F : Fun K "fade" "State.fade" mFade f fd) (T : TxtW K mg CW CS) : FnOk P w K mg base CX0 1 f fd ["self"] (spFade CS) := by
  refine F.ok scFa (fun vs H Q E h => ?_) (fun cdv A outer st H vs Q E hr h => ?_)
  · obtain ⟨x, dx, l, s, nx, rfl, _⟩ := h
    rfl
  · obtain ⟨x, dx, l, s, nx, rfl, hx, q⟩ := h
    refine ⟨_, pss_cons (ps_fld (pv 0) pe_non rfl) (pss_cons (ps_fld (pv 0) pe_bl rfl) (pss_one (ps_fld (pv 0) pe_non rfl))), ?_⟩
    refine ⟨_, rfl, x, CS, dx, _, rfl, hx, T.clS, T.n4, (by show 7 < 1000; decide), ?_⟩
    rw [sf_looked, upd_id hx]
    refine ⟨_, rfl, x, CS, dx, _, rfl, hx, T.clS, T.n6, (by show 7 < 1000; decide), ?_⟩
    rw [sf_led, upd_id hx]
    refine ⟨_, rfl, x, CS, dx, _, rfl, hx, T.clS, T.n7, (by show 7 < 1000; decide), ?_⟩
    rw [sf_last, upd_id hx]
    exact q
end
end S8

set_option Elab.async false
set_option maxRecDepth 100000
/-! a workshop made, gone on with, its rows, taken back -/
namespace S8
open PySem PySem.Spec PyProof.Rows L2 Hx Xr P01 G01 W8 Ex
section
variable {P : Program} {w : World} {K : PySem.W.Frag} {mg : Str → Option Value} {base : Heap} {CW CS CN : Addr}
theorem ins_ne {H : Hp} {a b C D : Addr} {dx dy : Addr} {l s nx v : V} (h1 : H a = some (.ins C dx (sf l s nx))) (h2 : H b = some (.ins D dy (wf v))) : a ≠ b := fun e => by
  rw [e, h2] at h1
  injection h1 with h1
  injection h1 with _ _ h1
  injection h1 with _ h1
  cases h1
theorem mem_ne {qs : List Addr} {x b : Addr} (h : x ∉ qs) (hb : b ∈ qs) : b ≠ x := fun z => h (by rw [← z]; exact hb)
/-- a new state ahead of a chain -/
theorem Chain.cons {G : Hp} {x dx l s : Addr} {zs : List V} {nx : V} {r : List Str} {rs : List (List Str)} (h : Chain K CS G nx rs) (nX : G x = some (.ins CS dx (sf (.ref l) (.ref s) nx))) (hl : SqL K G l (r.map V.str)) (hs : SqL K G s zs)
    (hz : zs.length = r.length) (hr : r.length ≤ 120) : Chain K CS G (.ref x) (r :: rs) := ⟨x, dx, l, s, zs, nx, rfl, nX, hl, hs, hz, hr, h⟩
def spWInit (K : PySem.W.Frag) (CW CS : Addr) : Sp := fun vs H Q _ => ∃ (qs : List Addr) (o dx : Addr), vs = [.ref o] ∧ o ∈ qs ∧ (∀ b ∈ qs, H b ≠ none) ∧ H o = some (.ins CW dx []) ∧ ∀ H', But o H H' → Sh K CW CS H' qs o [[]] → Q .non H'
theorem scWI : FnScope ["self"] ["self"] (defScope mWInit) := ⟨rfl, rfl, rfl, by decide +kernel, rfl, by decide +kernel, by decide +kernel⟩
set_option maxHeartbeats 4000000 in
theorem ok_winit {f fS : Addr} {fd fdS : FuncData} (F : Fun K "__init__" "Workshop.__init__" mWInit f fd) (T : TxtW K mg CW CS) (M : L2.Mk K CS fS)
    (GS : FnOk P w K mg base CX0 1 fS fdS ["self", "lines", "sums", "ahead"] (spSInit CS)) (bS : Binds K fdS ["self", "lines", "sums", "ahead"] []) : FnOk P w K mg base CX0 3 f fd ["self"] (spWInit K CW CS) := by
  refine F.ok scWI (fun vs H Q E h => ?_) (fun cdv A outer st H vs Q E hr h => ?_)
  · obtain ⟨qs, o, dx, rfl, _⟩ := h
    rfl
  · obtain ⟨qs, o, dx, rfl, mo, th, ho, q⟩ := h
    refine ⟨_, pss_one (ps_fld (pv 0) (pe_make M GS hr rfl T.gS bS .nil pass0 (pa_cons (pe_lst pa_nil) (pa_cons (pe_lst pa_nil) (pa_cons pe_non pa_nil)))) rfl), ?_⟩
    refine ⟨Nat.zero_le _, fun l nl => ⟨Nat.zero_le _, fun s ns => ?_⟩⟩
    intro x dy nx ndx nex
    have ls : l ≠ s := ne_of_none upd_same ns
    have lx : l ≠ x := ne_of_none (by rw [upd_ne ls]; exact upd_same) nx
    have ldx : l ≠ dy := ne_of_none (by rw [upd_ne ls]; exact upd_same) ndx
    have sx : s ≠ x := ne_of_none upd_same nx
    have sdx : s ≠ dy := ne_of_none upd_same ndx
    have ns' : H s = none := by rwa [upd_ne ls.symm] at ns
    have nx' : H x = none := by rwa [upd_ne sx.symm, upd_ne lx.symm] at nx
    have ndx' : H dy = none := by rwa [upd_ne sdx.symm, upd_ne ldx.symm] at ndx
    have ql := out_new th nl
    have qS := out_new th ns'
    have qx := out_new th nx'
    have qdx := out_new th ndx'
    have ol : o ≠ l := ne_of_none ho nl
    have os : o ≠ s := ne_of_none ho ns'
    have ox : o ≠ x := ne_of_none ho nx'
    have odx : o ≠ dy := ne_of_none ho ndx'
    refine ⟨x, dy, .ref l, .ref s, .non, rfl, upd_same, ?_⟩
    rw [upd_upd]
    refine ⟨rfl, _, rfl, o, CW, dx, [], rfl, (by rw [upd_ne ox, upd_ne odx, upd_ne os, upd_ne ol]; exact ho), T.clW, T.nS, (by show 0 < 1000; decide), ?_⟩
    refine q _ (fun b u n e => ?_) ⟨mo, fun b hb => ?_, dx, .ref x, ?_, ?_⟩
    · rw [upd_ne n, upd_ne (ne_of_none e nx'), upd_ne (ne_of_none e ndx'), upd_ne (ne_of_none e ns'), upd_ne (ne_of_none e nl)]
      exact e
    · by_cases c : b = o
      · rw [c, upd_same]
        exact fun z => by cases z
      · rw [upd_ne c, upd_ne (mem_ne qx hb), upd_ne (mem_ne qdx hb), upd_ne (mem_ne qS hb), upd_ne (mem_ne ql hb)]
        exact th b hb
    · rw [upd_same]
      rfl
    · rw [off_updIn mo, off_updOut qx, off_updOut qdx, off_updOut qS, off_updOut ql]
      refine Chain.cons (r := []) (zs := []) (show Chain K CS _ .non [] from rfl) upd_same (SqL.of ?_) (SqL.of ?_) rfl (by decide)
      · rw [upd_ne lx, upd_ne ldx, upd_ne ls]
        exact upd_same
      · rw [upd_ne sx, upd_ne sdx]
        exact upd_same
def spBegin (K : PySem.W.Frag) (CW CS : Addr) : Sp := fun vs H Q _ => ∃ (qs : List Addr) (o l s : Addr) (zs : List V) (r : List Str) (ch : List (List Str)), vs = [.ref o, .ref l, .ref s] ∧ Sh K CW CS H qs o ch ∧ ch ≠ [] ∧ off qs H l = some (.lst (r.map V.str)) ∧ off qs H s = some (.lst zs) ∧ zs.length = r.length ∧ r.length ≤ 120 ∧
  ∀ H', But o H H' → Sh K CW CS H' qs o (r :: ch) → Q .non H'
theorem scBg : FnScope ["self", "lines", "sums", "state", "_"] ["self", "lines", "sums"] (defScope mBegin) := ⟨rfl, rfl, rfl, by decide +kernel, rfl, by decide +kernel, by decide +kernel⟩
set_option maxHeartbeats 8000000 in
theorem ok_begin {f fS fF : Addr} {fd fdS fdF : FuncData} (F : Fun K "begin" "Workshop.begin" mBegin f fd) (T : TxtW K mg CW CS) (TS : TxtS mg) (M : L2.Mk K CS fS) {tK : Tok} (gK : mg "KEPT" = some (.int 8 tK))
    (GS : FnOk P w K mg base CX0 1 fS fdS ["self", "lines", "sums", "ahead"] (spSInit CS)) (bS : Binds K fdS ["self", "lines", "sums", "ahead"] [])
    (GF : FnOk P w K mg base CX0 1 fF fdF ["self"] (spFade CS)) (bF : Binds K fdF ["self"] []) (mF : Meth K CS "fade" fF) : FnOk P w K mg base CX0 3 f fd ["self", "lines", "sums"] (spBegin K CW CS) := by
  refine F.ok scBg (fun vs H Q E h => ?_) (fun cdv A outer st H vs Q E hr h => ?_)
  · obtain ⟨qs, o, l, s, zs, r, ch, rfl, _⟩ := h
    rfl
  · obtain ⟨qs, o, l, s, zs, r, ch, rfl, S, hch, hl, hs, hz, hrl, q⟩ := h
    refine ⟨_, pss_cons (ps_fld (pv 0) (pe_make M GS hr rfl T.gS bS .nil pass0 (pa_cons (pv 1) (pa_cons (pv 2) (pa_cons (pe_fld (pv 0) rfl) pa_nil)))) rfl)
      (pss_cons (ps_set (i := 3) scBg.nd rfl (.inl rfl) (pe_fld (pv 0) rfl))
      (pss_cons (ps_for PassesOwn.never rfl (pi_range1 rfl TS.range (pa_cons (pe_glob (v := .int 8) (by rfl) gK ⟨_, rfl⟩) pa_nil)) (pg_name (i := 4) scBg.nd rfl (.inl rfl))
        (pss_cons (ps_if (pt_cmpR op_isN (pe_fld (pv 3) rfl) pe_non (nomark _)) (pss_one ps_retN) pss_nil)
          (pss_one (ps_set (i := 3) scBg.nd rfl (.inl rfl) (pe_fld (pv 3) rfl)))))
      (pss_one (ps_expr (pe_meth0 (pv 3) T.clS mF GF (hr.mono (by decide)) bF .nil pass0))))), ?_⟩
    obtain ⟨dx, v0, ho, hc⟩ := S.obj
    refine ⟨_, rfl, _, rfl, _, rfl, o, CW, dx, _, _, rfl, ho, T.clW, T.nS, wf_state, ?_⟩
    intro x dy nx ndx nex
    have qx := out_new S.there nx
    have qdx := out_new S.there ndx
    have ox : o ≠ x := ne_of_none ho nx
    have odx : o ≠ dy := ne_of_none ho ndx
    refine ⟨x, dy, .ref l, .ref s, v0, rfl, upd_same, ?_⟩
    rw [upd_upd]
    refine ⟨rfl, _, rfl, o, CW, dx, _, rfl, (by rw [upd_ne ox, upd_ne odx]; exact ho), T.clW, T.nS, (by show 1 < 1000; decide), ?_⟩
    rw [wf_put]
    have sm : Same (off qs H) (upd (upd (off qs H) dy (.own x)) x (.ins CS dy (sf (.ref l) (.ref s) v0))) := fun b u e => by
      have e' := off_same _ _ e
      rw [upd_ne (ne_of_none e' nx), upd_ne (ne_of_none e' ndx)]
      exact e
    have hoff : off qs (upd (upd (upd H dy (.own x)) x (.ins CS dy (sf (.ref l) (.ref s) v0))) o (.ins CW dx (wf (.ref x)))) = upd (upd (off qs H) dy (.own x)) x (.ins CS dy (sf (.ref l) (.ref s) v0)) := by
      rw [off_updIn S.mem, off_updOut qx, off_updOut qdx]
    have hC : Chain K CS (upd (upd (off qs H) dy (.own x)) x (.ins CS dy (sf (.ref l) (.ref s) v0))) (.ref x) (r :: ch) := Chain.cons (hc.mono sm) upd_same (SqL.of (sm _ _ hl)) (SqL.of (sm _ _ hs)) hz hrl
    generalize hH' : upd (upd (upd H dy (.own x)) x (.ins CS dy (sf (.ref l) (.ref s) v0))) o (.ins CW dx (wf (.ref x))) = H1 at hoff ⊢
    have hb : But o H H1 := fun b u n e => by
      rw [← hH', upd_ne n, upd_ne (ne_of_none e nx), upd_ne (ne_of_none e ndx)]
      exact e
    have hS : Sh K CW CS H1 qs o (r :: ch) := by
      refine ⟨S.mem, fun b hbq => ?_, dx, .ref x, by rw [← hH', upd_same], by rw [hoff]; exact hC⟩
      by_cases c : b = o
      · rw [c, ← hH', upd_same]
        exact fun z => by cases z
      · cases e : H b with
        | none => exact (S.there b hbq e).elim
        | some u =>
          rw [hb b u c e]
          exact fun z => by cases z
    have fin := q H1 hb hS
    have ho1 : H1 o = some (.ins CW dx (wf (.ref x))) := by rw [← hH', upd_same]
    refine ⟨_, rfl, o, CW, dx, _, _, rfl, ho1, T.clW, T.nS, wf_state, ?_⟩
    rw [← hoff] at hC
    refine ⟨8, rfl, by decide, by decide, for_range (n := 8) (fun i σ H' => H' = H1 ∧ ∃ (a : V) (v4 : Option V) (r0 : List Str) (rs : List (List Str)), σ = [some (.ref o), some (.ref l), some (.ref s), some a, v4] ∧ Chain K CS (off qs H1) a (r0 :: rs))
      ⟨rfl, .ref x, none, r, ch, rfl, hC⟩ ?_ ?_⟩
    · rintro i σ H' hi ⟨rfl, a, v4, r0, rs, rfl, hA⟩
      obtain ⟨a', dz, l', s', zs', nx', rfl, g1, g2, g3, g4, g5, g6⟩ := hA
      have g1' := off_same _ _ g1
      refine ⟨_, rfl, a', CS, dz, _, _, rfl, g1', T.clS, T.n3, sf_ahead, rfl, _, rfl, ?_⟩
      cases rs with
      | nil =>
        have e : nx' = .non := g6
        rw [e]
        exact iteT fin
      | cons r1 rs =>
        obtain ⟨a2, dz2, l2, s2, zs2, nx2, rfl, k1, k2, k3, k4, k5, k6⟩ := g6
        exact iteF ⟨_, rfl, a', CS, dz, _, _, rfl, g1', T.clS, T.n3, sf_ahead, rfl, .ref a2, _, r1, rs, rfl, a2, dz2, l2, s2, zs2, nx2, rfl, k1, k2, k3, k4, k5, k6⟩
    · rintro σ H' ⟨rfl, a, v4, r0, rs, rfl, hA⟩
      obtain ⟨a', dz, l', s', zs', nx', rfl, g1, g2, g3, g4, g5, g6⟩ := hA
      have g1' := off_same _ _ g1
      exact ⟨_, rfl, a', dz, _, rfl, g1', sf_no (by decide +kernel), a', dz, _, _, _, rfl, g1', fin⟩
def spRows (K : PySem.W.Frag) (CW CS : Addr) : Sp := fun vs H Q _ => ∃ (qs : List Addr) (o : Addr) (r : List Str) (ch : List (List Str)), vs = [.ref o] ∧ Sh K CW CS H qs o (r :: ch) ∧ ∀ l, H l = none → Q (.ref l) (upd H l (.lst (r.map V.str)))
theorem scRo : FnScope ["self"] ["self"] (defScope mRows) := ⟨rfl, rfl, rfl, by decide +kernel, rfl, by decide +kernel, by decide +kernel⟩
set_option maxHeartbeats 4000000 in
theorem ok_rows8 {f : Addr} {fd : FuncData} (F : Fun K "rows" "Workshop.rows" mRows f fd) (T : TxtW K mg CW CS) (TS : TxtS mg) : FnOk P w K mg base CX0 1 f fd ["self"] (spRows K CW CS) := by
  refine F.ok scRo (fun vs H Q E h => ?_) (fun cdv A outer st H vs Q E hr h => ?_)
  · obtain ⟨qs, o, r, ch, rfl, _⟩ := h
    rfl
  · obtain ⟨qs, o, r, ch, rfl, S, q⟩ := h
    refine ⟨_, pss_one (ps_ret (pe_callTy call_list_of (by rfl) TS.list (by decide +kernel) (pa_cons (pe_fld (pe_fld (pv 0) rfl) rfl) pa_nil))), ?_⟩
    obtain ⟨dx, v0, ho, hc⟩ := S.obj
    obtain ⟨a', dz, l', s', zs', nx', rfl, g1, g2, g3, g4, g5, g6⟩ := hc
    have g1' := off_same _ _ g1
    exact ⟨_, rfl, o, CW, dx, _, _, rfl, ho, T.clW, T.nS, wf_state, a', CS, dz, _, _, rfl, g1', T.clS, T.n1, sf_lines, l', _, rfl, .inl (off_same.seq g2), fun l nl => q l nl⟩
def spBack (K : PySem.W.Frag) (CW CS CN : Addr) : Sp := fun vs H Q E => ∃ (qs : List Addr) (o : Addr) (r : List Str) (ch : List (List Str)), vs = [.ref o] ∧ Sh K CW CS H qs o (r :: ch) ∧ (ch = [] → E (.ref CN) none H) ∧ (ch ≠ [] → ∀ H', But o H H' → Sh K CW CS H' qs o ch → Q .non H')
theorem scBk : FnScope ["self"] ["self"] (defScope mBack) := ⟨rfl, rfl, rfl, by decide +kernel, rfl, by decide +kernel, by decide +kernel⟩
set_option maxHeartbeats 4000000 in
theorem ok_back {f : Addr} {fd : FuncData} (F : Fun K "back" "Workshop.back" mBack f fd) (T : TxtW K mg CW CS) (TN : ErX K mg "NoBack" CN) : FnOk P w K mg base (L2.CX P w) 1 f fd ["self"] (spBack K CW CS CN) := by
  refine F.okX scBk (fun vs H Q E h => ?_) (fun cdv A outer st H vs Q E hr h => ?_)
  · obtain ⟨qs, o, r, ch, rfl, _⟩ := h
    rfl
  · obtain ⟨qs, o, r, ch, rfl, S, q1, q2⟩ := h
    refine ⟨_, pss_cons (ps_if (pt_cmpR op_isN (pe_fld (pe_fld (pv 0) rfl) rfl) pe_non (nomark _)) (pss_one (ps_raise rfl (takes_of rfl rfl rfl rfl) (pmk_own0 PySem.F.excBase_ValueError TN.x TN.g TN.k (raises_own TN.b TN.t) rfl))) pss_nil)
      (pss_one (ps_fld (pv 0) (pe_fld (pe_fld (pv 0) rfl) rfl) rfl)), ?_⟩
    obtain ⟨dx, v0, ho, hc⟩ := S.obj
    obtain ⟨a', dz, l', s', zs', nx', rfl, g1, g2, g3, g4, g5, g6⟩ := hc
    have g1' := off_same _ _ g1
    refine ⟨_, rfl, o, CW, dx, _, _, rfl, ho, T.clW, T.nS, wf_state, a', CS, dz, _, _, rfl, g1', T.clS, T.n3, sf_ahead, rfl, _, rfl, ?_⟩
    cases ch with
    | nil =>
      have e : nx' = .non := g6
      rw [e]
      exact iteT (q1 rfl)
    | cons r1 rs =>
      have hC := g6
      obtain ⟨a2, dz2, l2, s2, zs2, nx2, rfl, k1, k2, k3, k4, k5, k6⟩ := g6
      refine iteF ⟨_, rfl, o, CW, dx, _, _, rfl, ho, T.clW, T.nS, wf_state, a', CS, dz, _, _, rfl, g1', T.clS, T.n3, sf_ahead, _, rfl, o, CW, dx, _, rfl, ho, T.clW, T.nS, (by show 1 < 1000; decide), ?_⟩
      rw [wf_put]
      refine q2 (fun z => by cases z) _ But.upd ⟨S.mem, fun b hb => ?_, dx, .ref a2, upd_same, by rw [off_updIn S.mem]; exact hC⟩
      by_cases c : b = o
      · rw [c, upd_same]
        exact fun z => by cases z
      · rw [upd_ne c]
        exact S.there b hb
end
end S8

set_option Elab.async false
set_option maxRecDepth 100000
/-! put, cut, change -/
namespace S8
open PySem PySem.Spec PyProof.Rows L2 Hx Xr P01 G01 W8 Ex
theorem plOk_int {v : V} {m : Int} (h : plOk v m = true) : ∃ i : Int, v = .int i ∧ 1 ≤ i ∧ i ≤ m := by
  unfold plOk at h
  split at h
  · rename_i i
    rw [Bool.and_eq_true, decide_eq_true_eq, decide_eq_true_eq] at h
    exact ⟨i, rfl, h.1, h.2⟩
  · cases h
theorem rowOk_str {v : V} (h : rowOk v = true) : ∃ z : Str, v = .str z ∧ z.length ≤ 100 := by
  unfold rowOk at h
  split at h
  · rename_i z
    rw [Bool.and_eq_true, Bool.and_eq_true, decide_eq_true_eq] at h
    exact ⟨z, rfl, h.1.1⟩
  · cases h
theorem Arg.mono {H H' : Hp} (e : Same H H') {v : V} (h : Arg H v) : Arg H' v := by
  cases v with
  | ref a =>
    obtain ⟨xs, hx⟩ := h
    exact ⟨xs, e _ _ hx⟩
  | int i => exact h
  | bl i => exact h
  | non => exact h
  | str i => exact h
  | _ => exact (show False from h).elim
theorem ixN_nat {n j : Nat} {i : Int} (e : i = (j : Int)) (h : j < n) : ixN n i = some j := by
  subst e
  unfold ixN
  rw [if_pos (by omega), if_pos (by omega)]
  simp
theorem erase_map : ∀ (l : List Str) (j : Nat), (l.map V.str).eraseIdx j = (l.eraseIdx j).map V.str
  | [], j => by simp
  | a :: r, 0 => by simp
  | a :: r, j + 1 => by simp [erase_map r j]
/-- two new lists that are changed: all else stays -/
theorem same_two {H : Hp} {l s : Addr} {x1 x2 y1 y2 : HO} (nl : H l = none) (ns : H s = none) : Same H (upd (upd (upd (upd H l x1) s y1) l x2) s y2) := fun b u e => by
  rw [upd_ne (ne_of_none e ns), upd_ne (ne_of_none e nl), upd_ne (ne_of_none e ns), upd_ne (ne_of_none e nl)]
  exact e
section
variable {P : Program} {w : World} {K : PySem.W.Frag} {mg : Str → Option Value} {base : Heap} {CW CS CN CP CB CM aN : Addr}
def spPut (K : PySem.W.Frag) (CW CS CP CB CM : Addr) : Sp := fun vs H Q E => ∃ (qs : List Addr) (o : Addr) (r : List Str) (ch : List (List Str)) (v u : V), vs = [.ref o, v, u] ∧ Sh K CW CS H qs o (r :: ch) ∧ Arg H v ∧ Arg H u ∧
  (plOk v ((r.length : Int) + 1) = false → ∀ H', Same H H' → E (.ref CP) none H') ∧ (plOk v ((r.length : Int) + 1) = true → rowOk u = false → ∀ H', Same H H' → E (.ref CB) none H') ∧
  (plOk v ((r.length : Int) + 1) = true → rowOk u = true → 120 ≤ r.length → ∀ H', Same H H' → E (.ref CM) none H') ∧
  (∀ (i : Int) (z : Str), v = .int i → u = .str z → plOk v ((r.length : Int) + 1) = true → rowOk u = true → r.length < 120 → ∀ H', But o H H' → Sh K CW CS H' qs o ((r.take (i - 1).toNat ++ [z] ++ r.drop (i - 1).toNat) :: r :: ch) → Q .non H')
theorem scPt : FnScope ["self", "at", "row", "lines", "sums"] ["self", "at", "row"] (defScope mPut) := ⟨rfl, rfl, rfl, by decide +kernel, rfl, by decide +kernel, by decide +kernel⟩
set_option maxHeartbeats 8000000 in
theorem ok_put {f fP fR fB : Addr} {fd fdP fdR fdB : FuncData} (F : Fun K "put" "Workshop.put" mPut f fd) (T : TxtW K mg CW CS) (TS : TxtS mg) (TM : ErX K mg "TooMany" CM) {tM : Tok} (gM : mg "MOST_ROWS" = some (.int 120 tM)) (gN : mg "NOTHING" = some (.ref aN))
    (GP : FnOk P w K mg base (L2.CX P w) 2 fP fdP ["at", "most"] (spPlace CP)) (kP : PySem.W.keepIn K (.ref fP) = true) (bP : Binds K fdP ["at", "most"] []) (gP : mg "refuse_place" = some (.ref fP))
    (GR : FnOk P w K mg base (L2.CX P w) 1 fR fdR ["row"] (spRow CB)) (kR : PySem.W.keepIn K (.ref fR) = true) (bR : Binds K fdR ["row"] []) (gR : mg "refuse_row" = some (.ref fR))
    (GB : FnOk P w K mg base CX0 3 fB fdB ["self", "lines", "sums"] (spBegin K CW CS)) (bB : Binds K fdB ["self", "lines", "sums"] []) (mB : Meth K CW "begin" fB) :
    FnOk P w K mg base (L2.CX P w) 4 f fd ["self", "at", "row"] (spPut K CW CS CP CB CM) := by
  refine F.okX scPt (fun vs H Q E h => ?_) (fun cdv A outer st H vs Q E hr h => ?_)
  · obtain ⟨qs, o, r, ch, v, u, rfl, _⟩ := h
    rfl
  · obtain ⟨qs, o, r, ch, v, u, rfl, S, av, au, qP, qB, qM, q⟩ := h
    refine ⟨_, (pss_cons (ps_set (i := 3) scPt.nd rfl (.inl rfl) (pe_callTy call_list_of (by rfl) TS.list (by decide +kernel) (pa_cons (pe_fld (pe_fld (pv 0) rfl) rfl) pa_nil)))
      (pss_cons (ps_expr (pe_call GP (hr.mono (by decide)) rfl gP kP bP .nil (passes_call (takes_of rfl rfl rfl rfl) fun _ _ _ _ z => z) (pa_cons (pv 1) (pa_cons (pe_op op_add (pe_callB call_len (by rfl) TS.len PySem.boot_len (pa_cons (pv 3) pa_nil)) pe_int) pa_nil))))
      (pss_cons (ps_expr (pe_call GR (hr.mono (by decide)) rfl gR kR bR .nil (passes_call (takes_of rfl rfl rfl rfl) fun _ _ _ _ z => z) (pa_cons (pv 2) pa_nil)))
      (pss_cons (ps_if (pt_cmpR op_ge (pe_callB call_len (by rfl) TS.len PySem.boot_len (pa_cons (pv 3) pa_nil)) (pe_glob (v := .int 120) (by rfl) gM ⟨_, rfl⟩) (nomark _)) (pss_one (ps_raise rfl (takes_of rfl rfl rfl rfl) (pmk_own0 PySem.F.excBase_ValueError TM.x TM.g TM.k (raises_own TM.b TM.t) rfl))) pss_nil)
      (pss_cons (ps_set (i := 4) scPt.nd rfl (.inl rfl) (pe_callTy call_list_of (by rfl) TS.list (by decide +kernel) (pa_cons (pe_fld (pe_fld (pv 0) rfl) rfl) pa_nil)))
      (pss_cons (ps_expr (pe_bm PySem.F.plainAttrs_list PySem.F.slot_list_insert PySem.F.type_list_insert mt_insert (pv 3) (pa_cons (pe_op op_sub (pv 1) pe_int) (pa_cons (pv 2) pa_nil))))
      (pss_cons (ps_expr (pe_bm PySem.F.plainAttrs_list PySem.F.slot_list_insert PySem.F.type_list_insert mt_insert (pv 4) (pa_cons (pe_op op_sub (pv 1) pe_int) (pa_cons (pe_glob (v := .ref aN) (by rfl) gN rfl) pa_nil))))
      (pss_one (ps_expr (pe_meth (pv 0) T.clW mB GB hr bB .nil pass0 (pa_cons (pv 3) (pa_cons (pv 4) pa_nil)))))))))))), ?_⟩
    obtain ⟨dx, v0, ho, hc⟩ := S.obj
    obtain ⟨a', dz, l', s', zs', nx', rfl, g1, g2, g3, g4, g5, g6⟩ := hc
    have g1' := off_same _ _ g1
    refine ⟨_, rfl, o, CW, dx, _, _, rfl, ho, T.clW, T.nS, wf_state, a', CS, dz, _, _, rfl, g1', T.clS, T.n1, sf_lines, l', _, rfl, .inl (off_same.seq g2), fun l nl => ?_⟩
    have s1 : Same H (upd H l (.lst (r.map V.str))) := Same.new nl
    refine ⟨_, rfl, _, rfl, _, _, rfl, .inl ⟨_, SqL.of upd_same, rfl⟩, _, _, rfl, rfl, v, _, rfl, av.mono s1, ?_, ?_⟩
    · intro okp
      rw [List.length_map] at okp
      refine ⟨_, rfl, u, rfl, au.mono s1, ?_, ?_⟩
      · intro okr
        refine ⟨_, rfl, _, _, rfl, .inl ⟨_, SqL.of upd_same, rfl⟩, _, _, rfl, rfl, _, rfl, ?_⟩
        rw [List.length_map]
        by_cases c : (r.length : Int) ≥ 120
        · rw [decide_eq_true c]
          exact iteT (qM okp okr (by omega) _ s1)
        · rw [decide_eq_false c]
          refine iteF ⟨_, rfl, o, CW, dx, _, _, rfl, s1 _ _ ho, T.clW, T.nS, wf_state, a', CS, dz, _, _, rfl, s1 _ _ g1', T.clS, T.n2, sf_sums, s', _, rfl, .inl ((off_same.trans s1).seq g3), fun s ns => ?_⟩
          obtain ⟨i, rfl, i1, i2⟩ := plOk_int okp
          obtain ⟨z, rfl, z1⟩ := rowOk_str okr
          have ls : l ≠ s := ne_of_none upd_same ns
          have ns' : H s = none := by rwa [upd_ne ls.symm] at ns
          have lz : sizeLine = 16777216 := sizeLine_eq
          refine ⟨_, rfl, .inl ⟨rfl, _, SqL.of (by rw [upd_ne ls]; exact upd_same)⟩, _, rfl, _, _, rfl, rfl, _, rfl, l, _, i - 1, .str z, rfl, rfl, (by rw [upd_ne ls]; exact upd_same), (by rw [List.length_map]; omega), (by omega), (by omega), ?_⟩
          refine ⟨_, rfl, .inl ⟨rfl, _, SqL.of (by rw [upd_ne ls.symm]; exact upd_same)⟩, _, rfl, _, _, rfl, rfl, s, _, i - 1, .ref aN, rfl, rfl, (by rw [upd_ne ls.symm]; exact upd_same), (by omega), (by omega), (by omega), ?_⟩
          have hS := S.mono (same_two (x1 := .lst (r.map V.str)) (y1 := .lst zs') (x2 := .lst ((r.map V.str).take (i - 1).toNat ++ [.str z] ++ (r.map V.str).drop (i - 1).toNat)) (y2 := .lst (zs'.take (i - 1).toNat ++ [.ref aN] ++ zs'.drop (i - 1).toNat)) nl ns')
          have sm := same_two (x1 := .lst (r.map V.str)) (y1 := .lst zs') (x2 := .lst ((r.map V.str).take (i - 1).toNat ++ [.str z] ++ (r.map V.str).drop (i - 1).toNat)) (y2 := .lst (zs'.take (i - 1).toNat ++ [.ref aN] ++ zs'.drop (i - 1).toNat)) nl ns'
          refine ⟨_, rfl, o, dx, _, rfl, sm _ _ ho, wf_no (by decide +kernel), _, rfl, _, rfl, qs, o, l, s, zs'.take (i - 1).toNat ++ [.ref aN] ++ zs'.drop (i - 1).toNat, r.take (i - 1).toNat ++ [z] ++ r.drop (i - 1).toNat, _, rfl, hS, (fun z => by cases z), ?_, ?_, ?_, ?_, fun H' hb hS' => ?_⟩
          · rw [off_at (out_new S.there nl), upd_ne ls, upd_same, List.map_append, List.map_append, List.map_take, List.map_drop]
            rfl
          · rw [off_at (out_new S.there ns'), upd_same]
          · simp only [List.length_append, List.length_take, List.length_drop, g4]
            rfl
          · simp only [List.length_append, List.length_take, List.length_drop, List.length_singleton]
            omega
          · exact q i z rfl rfl okp okr (by omega) H' (fun b u n e => hb b u n (sm _ _ e)) hS'
      · intro okr
        exact qB okp okr _ s1
    · intro okp
      rw [List.length_map] at okp
      exact qP okp _ s1
def spCut (K : PySem.W.Frag) (CW CS CP : Addr) : Sp := fun vs H Q E => ∃ (qs : List Addr) (o : Addr) (r : List Str) (ch : List (List Str)) (v : V), vs = [.ref o, v] ∧ Sh K CW CS H qs o (r :: ch) ∧ Arg H v ∧
  (plOk v (r.length : Int) = false → ∀ H', Same H H' → E (.ref CP) none H') ∧
  (∀ (i : Int), v = .int i → plOk v (r.length : Int) = true → ∀ H', But o H H' → Sh K CW CS H' qs o (r.eraseIdx (i - 1).toNat :: r :: ch) → Q .non H')
theorem scCt : FnScope ["self", "at", "lines", "sums"] ["self", "at"] (defScope mCut) := ⟨rfl, rfl, rfl, by decide +kernel, rfl, by decide +kernel, by decide +kernel⟩
theorem seq_nat {n : Nat} {i : Int} (h0 : 0 ≤ i) (h : i < n) : seqIndex? i n = some i.toNat := (ixN_seq (ixN_nat (j := i.toNat) (by omega) (by omega))).1
set_option maxHeartbeats 8000000 in
theorem ok_cut {f fP fB : Addr} {fd fdP fdB : FuncData} (F : Fun K "cut" "Workshop.cut" mCut f fd) (T : TxtW K mg CW CS) (TS : TxtS mg)
    (GP : FnOk P w K mg base (L2.CX P w) 2 fP fdP ["at", "most"] (spPlace CP)) (kP : PySem.W.keepIn K (.ref fP) = true) (bP : Binds K fdP ["at", "most"] []) (gP : mg "refuse_place" = some (.ref fP))
    (GB : FnOk P w K mg base CX0 3 fB fdB ["self", "lines", "sums"] (spBegin K CW CS)) (bB : Binds K fdB ["self", "lines", "sums"] []) (mB : Meth K CW "begin" fB) :
    FnOk P w K mg base (L2.CX P w) 4 f fd ["self", "at"] (spCut K CW CS CP) := by
  refine F.okX scCt (fun vs H Q E h => ?_) (fun cdv A outer st H vs Q E hr h => ?_)
  · obtain ⟨qs, o, r, ch, v, rfl, _⟩ := h
    rfl
  · obtain ⟨qs, o, r, ch, v, rfl, S, av, qP, q⟩ := h
    refine ⟨_, (pss_cons (ps_set (i := 2) scCt.nd rfl (.inl rfl) (pe_callTy call_list_of (by rfl) TS.list (by decide +kernel) (pa_cons (pe_fld (pe_fld (pv 0) rfl) rfl) pa_nil)))
      (pss_cons (ps_expr (pe_call GP (hr.mono (by decide)) rfl gP kP bP .nil (passes_call (takes_of rfl rfl rfl rfl) fun _ _ _ _ z => z) (pa_cons (pv 1) (pa_cons (pe_callB call_len (by rfl) TS.len PySem.boot_len (pa_cons (pv 2) pa_nil)) pa_nil))))
      (pss_cons (ps_set (i := 3) scCt.nd rfl (.inl rfl) (pe_callTy call_list_of (by rfl) TS.list (by decide +kernel) (pa_cons (pe_fld (pe_fld (pv 0) rfl) rfl) pa_nil)))
      (pss_cons (ps_expr (pe_bm PySem.F.plainAttrs_list PySem.F.slot_list_pop PySem.F.type_list_pop mt_popAt (pv 2) (pa_cons (pe_op op_sub (pv 1) pe_int) pa_nil)))
      (pss_cons (ps_expr (pe_bm PySem.F.plainAttrs_list PySem.F.slot_list_pop PySem.F.type_list_pop mt_popAt (pv 3) (pa_cons (pe_op op_sub (pv 1) pe_int) pa_nil)))
      (pss_one (ps_expr (pe_meth (pv 0) T.clW mB GB hr bB .nil pass0 (pa_cons (pv 2) (pa_cons (pv 3) pa_nil)))))))))), ?_⟩
    obtain ⟨dx, v0, ho, hc⟩ := S.obj
    obtain ⟨a', dz, l', s', zs', nx', rfl, g1, g2, g3, g4, g5, g6⟩ := hc
    have g1' := off_same _ _ g1
    refine ⟨_, rfl, o, CW, dx, _, _, rfl, ho, T.clW, T.nS, wf_state, a', CS, dz, _, _, rfl, g1', T.clS, T.n1, sf_lines, l', _, rfl, .inl (off_same.seq g2), fun l nl => ?_⟩
    have s1 : Same H (upd H l (.lst (r.map V.str))) := Same.new nl
    refine ⟨_, rfl, _, rfl, _, _, rfl, .inl ⟨_, SqL.of upd_same, rfl⟩, v, _, rfl, av.mono s1, ?_, ?_⟩
    · intro okp
      rw [List.length_map] at okp
      refine ⟨_, rfl, o, CW, dx, _, _, rfl, s1 _ _ ho, T.clW, T.nS, wf_state, a', CS, dz, _, _, rfl, s1 _ _ g1', T.clS, T.n2, sf_sums, s', _, rfl, .inl ((off_same.trans s1).seq g3), fun s ns => ?_⟩
      obtain ⟨i, rfl, i1, i2⟩ := plOk_int okp
      have ls : l ≠ s := ne_of_none upd_same ns
      have ns' : H s = none := by rwa [upd_ne ls.symm] at ns
      have il : (i - 1).toNat < r.length := by omega
      have il2 : (i - 1).toNat < zs'.length := by omega
      refine ⟨_, rfl, .inl ⟨rfl, _, SqL.of (by rw [upd_ne ls]; exact upd_same)⟩, _, rfl, _, _, rfl, rfl, l, _, i - 1, _, .str r[(i - 1).toNat], rfl, rfl, (by rw [upd_ne ls]; exact upd_same), (by omega), (by omega), seq_nat (by omega) (by rw [List.length_map]; omega), (by rw [List.getElem?_map, List.getElem?_eq_getElem il]; rfl), ?_⟩
      refine ⟨_, rfl, .inl ⟨rfl, _, SqL.of (by rw [upd_ne ls.symm]; exact upd_same)⟩, _, rfl, _, _, rfl, rfl, s, _, i - 1, _, zs'[(i - 1).toNat], rfl, rfl, (by rw [upd_ne ls.symm]; exact upd_same), (by omega), (by omega), seq_nat (by omega) (by omega), (List.getElem?_eq_getElem il2), ?_⟩
      have sm := same_two (x1 := .lst (r.map V.str)) (y1 := .lst zs') (x2 := .lst ((r.map V.str).eraseIdx (i - 1).toNat)) (y2 := .lst (zs'.eraseIdx (i - 1).toNat)) nl ns'
      have hS := S.mono sm
      refine ⟨_, rfl, o, dx, _, rfl, sm _ _ ho, wf_no (by decide +kernel), _, rfl, _, rfl, qs, o, l, s, zs'.eraseIdx (i - 1).toNat, r.eraseIdx (i - 1).toNat, _, rfl, hS, (fun z => by cases z), ?_, ?_, ?_, ?_, fun H' hb hS' => ?_⟩
      · rw [off_at (out_new S.there nl), upd_ne ls, upd_same, erase_map]
      · rw [off_at (out_new S.there ns'), upd_same]
      · rw [List.length_eraseIdx_of_lt il2, List.length_eraseIdx_of_lt il, g4]
      · rw [List.length_eraseIdx_of_lt il]
        omega
      · exact q i rfl okp H' (fun b u n e => hb b u n (sm _ _ e)) hS'
    · intro okp
      rw [List.length_map] at okp
      exact qP okp _ s1
def spChange (K : PySem.W.Frag) (CW CS CP CB : Addr) : Sp := fun vs H Q E => ∃ (qs : List Addr) (o : Addr) (r : List Str) (ch : List (List Str)) (v u : V), vs = [.ref o, v, u] ∧ Sh K CW CS H qs o (r :: ch) ∧ Arg H v ∧ Arg H u ∧
  (plOk v (r.length : Int) = false → ∀ H', Same H H' → E (.ref CP) none H') ∧ (plOk v (r.length : Int) = true → rowOk u = false → ∀ H', Same H H' → E (.ref CB) none H') ∧
  (∀ (i : Int) (z : Str), v = .int i → u = .str z → plOk v (r.length : Int) = true → rowOk u = true → ∀ H', But o H H' → Sh K CW CS H' qs o (r.set (i - 1).toNat z :: r :: ch) → Q .non H')
theorem scCh : FnScope ["self", "at", "row", "lines", "sums"] ["self", "at", "row"] (defScope mChange) := ⟨rfl, rfl, rfl, by decide +kernel, rfl, by decide +kernel, by decide +kernel⟩
set_option maxHeartbeats 8000000 in
theorem ok_change {f fP fR fB : Addr} {fd fdP fdR fdB : FuncData} (F : Fun K "change" "Workshop.change" mChange f fd) (T : TxtW K mg CW CS) (TS : TxtS mg) (gN : mg "NOTHING" = some (.ref aN))
    (GP : FnOk P w K mg base (L2.CX P w) 2 fP fdP ["at", "most"] (spPlace CP)) (kP : PySem.W.keepIn K (.ref fP) = true) (bP : Binds K fdP ["at", "most"] []) (gP : mg "refuse_place" = some (.ref fP))
    (GR : FnOk P w K mg base (L2.CX P w) 1 fR fdR ["row"] (spRow CB)) (kR : PySem.W.keepIn K (.ref fR) = true) (bR : Binds K fdR ["row"] []) (gR : mg "refuse_row" = some (.ref fR))
    (GB : FnOk P w K mg base CX0 3 fB fdB ["self", "lines", "sums"] (spBegin K CW CS)) (bB : Binds K fdB ["self", "lines", "sums"] []) (mB : Meth K CW "begin" fB) :
    FnOk P w K mg base (L2.CX P w) 4 f fd ["self", "at", "row"] (spChange K CW CS CP CB) := by
  refine F.okX scCh (fun vs H Q E h => ?_) (fun cdv A outer st H vs Q E hr h => ?_)
  · obtain ⟨qs, o, r, ch, v, u, rfl, _⟩ := h
    rfl
  · obtain ⟨qs, o, r, ch, v, u, rfl, S, av, au, qP, qB, q⟩ := h
    refine ⟨_, (pss_cons (ps_set (i := 3) scCh.nd rfl (.inl rfl) (pe_callTy call_list_of (by rfl) TS.list (by decide +kernel) (pa_cons (pe_fld (pe_fld (pv 0) rfl) rfl) pa_nil)))
      (pss_cons (ps_expr (pe_call GP (hr.mono (by decide)) rfl gP kP bP .nil (passes_call (takes_of rfl rfl rfl rfl) fun _ _ _ _ z => z) (pa_cons (pv 1) (pa_cons (pe_callB call_len (by rfl) TS.len PySem.boot_len (pa_cons (pv 3) pa_nil)) pa_nil))))
      (pss_cons (ps_expr (pe_call GR (hr.mono (by decide)) rfl gR kR bR .nil (passes_call (takes_of rfl rfl rfl rfl) fun _ _ _ _ z => z) (pa_cons (pv 2) pa_nil)))
      (pss_cons (ps_set (i := 4) scCh.nd rfl (.inl rfl) (pe_callTy call_list_of (by rfl) TS.list (by decide +kernel) (pa_cons (pe_fld (pe_fld (pv 0) rfl) rfl) pa_nil)))
      (pss_cons (ps_asg (pv 2) (pg_sub (pv 3) (pe_op op_sub (pv 1) pe_int) set_list))
      (pss_cons (ps_asg (pe_glob (v := .ref aN) (by rfl) gN rfl) (pg_sub (pv 4) (pe_op op_sub (pv 1) pe_int) set_list))
      (pss_one (ps_expr (pe_meth (pv 0) T.clW mB GB hr bB .nil pass0 (pa_cons (pv 3) (pa_cons (pv 4) pa_nil))))))))))), ?_⟩
    obtain ⟨dx, v0, ho, hc⟩ := S.obj
    obtain ⟨a', dz, l', s', zs', nx', rfl, g1, g2, g3, g4, g5, g6⟩ := hc
    have g1' := off_same _ _ g1
    refine ⟨_, rfl, o, CW, dx, _, _, rfl, ho, T.clW, T.nS, wf_state, a', CS, dz, _, _, rfl, g1', T.clS, T.n1, sf_lines, l', _, rfl, .inl (off_same.seq g2), fun l nl => ?_⟩
    have s1 : Same H (upd H l (.lst (r.map V.str))) := Same.new nl
    refine ⟨_, rfl, _, rfl, _, _, rfl, .inl ⟨_, SqL.of upd_same, rfl⟩, v, _, rfl, av.mono s1, ?_, ?_⟩
    · intro okp
      rw [List.length_map] at okp
      refine ⟨_, rfl, u, rfl, au.mono s1, ?_, ?_⟩
      · intro okr
        refine ⟨_, rfl, o, CW, dx, _, _, rfl, s1 _ _ ho, T.clW, T.nS, wf_state, a', CS, dz, _, _, rfl, s1 _ _ g1', T.clS, T.n2, sf_sums, s', _, rfl, .inl ((off_same.trans s1).seq g3), fun s ns => ?_⟩
        obtain ⟨i, rfl, i1, i2⟩ := plOk_int okp
        obtain ⟨z, rfl, z1⟩ := rowOk_str okr
        have ls : l ≠ s := ne_of_none upd_same ns
        have ns' : H s = none := by rwa [upd_ne ls.symm] at ns
        have il : (i - 1).toNat < r.length := by omega
        have il2 : (i - 1).toNat < zs'.length := by omega
        refine ⟨_, rfl, _, rfl, _, rfl, _, _, rfl, rfl, l, _, i - 1, (i - 1).toNat, rfl, rfl, (by rw [upd_ne ls]; exact upd_same), ixN_nat (by omega) (by rw [List.length_map]; omega), ?_⟩
        refine ⟨_, rfl, _, rfl, _, _, rfl, rfl, s, _, i - 1, (i - 1).toNat, rfl, rfl, (by rw [upd_ne ls.symm]; exact upd_same), ixN_nat (by omega) (by omega), ?_⟩
        have sm := same_two (x1 := .lst (r.map V.str)) (y1 := .lst zs') (x2 := .lst ((r.map V.str).set (i - 1).toNat (.str z))) (y2 := .lst (zs'.set (i - 1).toNat (.ref aN))) nl ns'
        have hS := S.mono sm
        refine ⟨_, rfl, o, dx, _, rfl, sm _ _ ho, wf_no (by decide +kernel), _, rfl, _, rfl, qs, o, l, s, zs'.set (i - 1).toNat (.ref aN), r.set (i - 1).toNat z, _, rfl, hS, (fun z => by cases z), ?_, ?_, ?_, ?_, fun H' hb hS' => ?_⟩
        · rw [off_at (out_new S.there nl), upd_ne ls, upd_same, List.map_set]
        · rw [off_at (out_new S.there ns'), upd_same]
        · rw [List.length_set, List.length_set, g4]
        · rw [List.length_set]
          exact g5
        · exact q i z rfl rfl okp okr H' (fun b u n e => hb b u n (sm _ _ e)) hS'
      · intro okr
        exact qB okp okr _ s1
    · intro okp
      rw [List.length_map] at okp
      exact qP okp _ s1
end
end S8

set_option Elab.async false
set_option maxRecDepth 100000
/-! the law's rows, places -/
namespace S8
open PySem PySem.Spec PyProof.Rows L2 Hx Xr P01 G01 W8 Ex
def tRows : List Str := ["", "f x = x + 1", "data List a = Nil | Cons a (List a)", "  ", "f x =", "-- let", "h = 0", timesS "~" 100, "g = let x = 1 in x", "zz !"]
theorem tRows_ok : ∀ z ∈ tRows, rowOk (.str z) = true := by decide +kernel
theorem at_rows {zs : List V} {j : Nat} (h : j < zs.length) : atI zs (j : Int) = some zs[j] := atI_nat (List.getElem?_eq_getElem h)
def RowV (z : Str) : Prop := z ∈ tRows
section
variable {P : Program} {w : World} {K : PySem.W.Frag} {mg : Str → Option Value} {base : Heap}
abbrev sLrow : Stmt := top 231
abbrev sLbad : Stmt := top 232
abbrev sIsp : Stmt := top 234
def spLrow : Sp := fun vs H Q _ => ∃ (q : Addr) (n : Int), vs = [.ref q] ∧ PurseAt H q n ∧ n ≤ 4000000 ∧ ∀ (z : Str) (n' : Int) (H' : Hp), z ∈ tRows → n' ≤ n + 1 → PurseAt H' q n' → But q H H' → Q (.str z) H'
theorem scLr : FnScope ["_law_purse_here", "_law_some"] ["_law_purse_here"] (defScope sLrow) := ⟨rfl, rfl, rfl, by decide +kernel, rfl, by decide +kernel, by decide +kernel⟩
set_option maxHeartbeats 4000000 in
theorem ok_lrow {f fT fM : Addr} {fd fdT fdM : FuncData} (F : Fun K "_law_row" "_law_row" sLrow f fd)
    (FT : Fun K "_law_take" "_law_take" sTake fT fdT) (bT : Binds K fdT ["_law_purse_here", "_law_many"] []) (gT : mg "_law_take" = some (.ref fT))
    (FM : Fun K "_law_mixed" "_law_mixed" sMixed fM fdM) (bM : Binds K fdM ["_law_cell", "_law_k"] []) (gM : mg "_law_mixed" = some (.ref fM)) : FnOk P w K mg base CX0 3 f fd ["_law_purse_here"] spLrow := by
  have GT : FnOk P w K mg base CX0 2 fT fdT ["_law_purse_here", "_law_many"] spTake := ok_take FT FM bM gM
  refine F.ok scLr (fun vs H Q E h => ?_) (fun cdv A outer st H vs Q E hr h => ?_)
  · obtain ⟨q, n, rfl, _⟩ := h
    rfl
  · obtain ⟨q, n, rfl, pa, hn, k⟩ := h
    refine ⟨_, (pss_cons (ps_set (i := 1) scLr.nd rfl (.inl rfl) (pe_lst (pa_cons pe_str (pa_cons pe_str (pa_cons pe_str (pa_cons pe_str (pa_cons pe_str (pa_cons pe_str (pa_cons pe_str (pa_cons (pe_op op_mulS pe_str pe_int) pa_nil))))))))))
      (pss_one (ps_ret (pe_ix ix_list (pe_op op_cat (pv 1) (pe_lst (pa_cons pe_str (pa_cons pe_str pa_nil)))) (pe_call GT hr rfl gT FT.kp bT .nil pass0 (pa_cons (pv 0) (pa_cons pe_int pa_nil))) (fun _ _ => rfl))))), ?_⟩
    refine ⟨_, _, rfl, rfl, by decide, by decide, by decide, by decide, by show 8 ≤ sizeLine; decide, fun l nl => ?_⟩
    refine ⟨_, rfl, by show 2 ≤ sizeLine; decide, fun m nm => ?_⟩
    have lm : l ≠ m := ne_of_none upd_same nm
    refine ⟨l, m, _, _, rfl, rfl, (by rw [upd_ne lm]; exact upd_same), upd_same, by show 8 + 2 ≤ sizeLine; decide, fun p np => ?_⟩
    have nm' : H m = none := by rwa [upd_ne lm.symm] at nm
    have lp : l ≠ p := ne_of_none (by rw [upd_ne lm]; exact upd_same) np
    have mp : m ≠ p := ne_of_none upd_same np
    have np' : H p = none := by rwa [upd_ne mp.symm, upd_ne lp.symm] at np
    have sm := (Same.new nl (o := .lst (tRows.take 8 |>.map V.str))).trans ((Same.new nm (o := .lst (tRows.drop 8 |>.map V.str))).trans (Same.new np (o := .lst (tRows.map V.str))))
    refine ⟨_, rfl, q, 10, n, rfl, by decide, by decide, pa.same sm, by omega, fun j n' H' hj hn' pa' b none => ?_⟩
    have qp : p ≠ q := fun e => by
      obtain ⟨x, z, hq, _⟩ := pa
      rw [← e, np'] at hq
      cases hq
    have jl : j < (tRows.map V.str).length := by
      show j < 10
      omega
    refine ⟨p, _, _, _, rfl, rfl, SqL.of (b p _ qp upd_same), at_rows jl, ?_⟩
    have e : (tRows.map V.str)[j] = V.str (tRows[j]'(by rw [List.length_map] at jl; exact jl)) := by rw [List.getElem_map]
    show Q ((tRows.map V.str)[j]) H'
    rw [e]
    exact k _ n' H' (List.getElem_mem _) hn' pa' (fun c u nc e => b c u nc (sm _ _ e))
def spLbad : Sp := fun vs H Q _ => ∃ (q : Addr) (n : Int), vs = [.ref q] ∧ PurseAt H q n ∧ n ≤ 4000000 ∧ ∀ (v : V) (n' : Int) (H' : Hp), Arg H' v → rowOk v = false → (∀ z, v = .ref z → H z = none) → n' ≤ n + 1 → PurseAt H' q n' → But q H H' → Q v H'
theorem scLb : FnScope ["_law_purse_here"] ["_law_purse_here"] (defScope sLbad) := ⟨rfl, rfl, rfl, by decide +kernel, rfl, by decide +kernel, by decide +kernel⟩
set_option maxHeartbeats 4000000 in
theorem ok_lbad {f fT fM : Addr} {fd fdT fdM : FuncData} (F : Fun K "_law_bad_row" "_law_bad_row" sLbad f fd)
    (FT : Fun K "_law_take" "_law_take" sTake fT fdT) (bT : Binds K fdT ["_law_purse_here", "_law_many"] []) (gT : mg "_law_take" = some (.ref fT))
    (FM : Fun K "_law_mixed" "_law_mixed" sMixed fM fdM) (bM : Binds K fdM ["_law_cell", "_law_k"] []) (gM : mg "_law_mixed" = some (.ref fM)) : FnOk P w K mg base CX0 3 f fd ["_law_purse_here"] spLbad := by
  have GT : FnOk P w K mg base CX0 2 fT fdT ["_law_purse_here", "_law_many"] spTake := ok_take FT FM bM gM
  refine F.ok scLb (fun vs H Q E h => ?_) (fun cdv A outer st H vs Q E hr h => ?_)
  · obtain ⟨q, n, rfl, _⟩ := h
    rfl
  · obtain ⟨q, n, rfl, pa, hn, k⟩ := h
    refine ⟨_, (pss_one (ps_ret (pe_ix ix_list (pe_lst (pa_cons pe_str (pa_cons (pe_op op_mulS pe_str pe_int) (pa_cons pe_non (pa_cons pe_int (pa_cons (pe_lst (pa_cons pe_str pa_nil)) (pa_cons pe_str pa_nil))))))) (pe_call GT hr rfl gT FT.kp bT .nil pass0 (pa_cons (pv 0) (pa_cons pe_int pa_nil))) (fun _ _ => rfl)))), ?_⟩
    refine ⟨_, _, rfl, rfl, by decide, by decide, by decide, by decide, by show 1 ≤ sizeLine; decide, fun l nl => ?_⟩
    refine ⟨by show 6 ≤ sizeLine; decide, fun p np => ?_⟩
    have lp : l ≠ p := ne_of_none upd_same np
    have np' : H p = none := by rwa [upd_ne lp.symm] at np
    have sm := (Same.new nl (o := .lst [V.str "h"])).trans (Same.new np (o := .lst [V.str "a\tb", V.str (timesS "x" 101), V.non, V.int 5, V.ref l, V.str "a\nb"]))
    refine ⟨_, rfl, q, 6, n, rfl, by decide, by decide, pa.same sm, by omega, fun j n' H' hj hn' pa' b none => ?_⟩
    have qp : p ≠ q := fun e => by
      obtain ⟨x, z, hq, _⟩ := pa
      rw [← e, np'] at hq
      cases hq
    have ql : l ≠ q := fun e => by
      obtain ⟨x, z, hq, _⟩ := pa
      rw [← e, nl] at hq
      cases hq
    have hl : H' l = some (.lst [V.str "h"]) := b l _ ql (by rw [upd_ne lp]; exact upd_same)
    have hb : But q H H' := fun c u nc e => b c u nc (sm _ _ e)
    refine ⟨p, _, _, _, rfl, rfl, SqL.of (b p _ qp upd_same), at_rows (show j < 6 by omega), ?_⟩
    match j, (show j < 6 by omega) with
    | 0, _ => exact k (.str "a\tb") n' H' (by show Str.length _ ≤ 1000; decide) (by decide +kernel) (fun z e => by cases e) hn' pa' hb
    | 1, _ => exact k (.str (timesS "x" 101)) n' H' (by show Str.length _ ≤ 1000; decide +kernel) (by decide +kernel) (fun z e => by cases e) hn' pa' hb
    | 2, _ => exact k _ n' H' trivial rfl (fun z e => by cases e) hn' pa' hb
    | 3, _ => exact k _ n' H' trivial rfl (fun z e => by cases e) hn' pa' hb
    | 4, _ => exact k _ n' H' ⟨_, hl⟩ rfl (fun z e => by cases e; exact nl) hn' pa' hb
    | 5, _ => exact k (.str "a\nb") n' H' (by show Str.length _ ≤ 1000; decide) (by decide +kernel) (fun z e => by cases e) hn' pa' hb
    | (j + 6), h => exact absurd h (by omega)
def spIsp : Sp := fun vs H Q _ => ∃ (v : V) (m : Int), vs = [v, .int m] ∧ Arg H v ∧ Q (.bl (plOk v m)) H
theorem scIp : FnScope ["_law_spot", "_law_most"] ["_law_spot", "_law_most"] (defScope sIsp) := ⟨rfl, rfl, rfl, by decide +kernel, rfl, by decide +kernel, by decide +kernel⟩
set_option maxHeartbeats 4000000 in
theorem ok_isp {f : Addr} {fd : FuncData} (F : Fun K "_law_is_place" "_law_is_place" sIsp f fd) (T : TxtS mg) (mb : mg "bool" = none) : FnOk P w K mg base CX0 1 f fd ["_law_spot", "_law_most"] spIsp := by
  refine F.ok scIp (fun vs H Q E h => ?_) (fun cdv A outer st H vs Q E hr h => ?_)
  · obtain ⟨v, m, rfl, _⟩ := h
    rfl
  · obtain ⟨v, m, rfl, a, q⟩ := h
    refine ⟨_, (pss_one (ps_ret (pe_and (pe_callB call_isi (by rfl) T.isi (by decide +kernel) (pa_cons (pv 0) (pa_cons (pe_bltn (v := .ty "int") (by rfl) T.int (by decide +kernel) rfl) pa_nil))) (pe_and (pe_not (pe_callB call_isi (by rfl) T.isi (by decide +kernel) (pa_cons (pv 0) (pa_cons (pe_bltn (v := .ty "bool") (by rfl) mb (by decide +kernel) rfl) pa_nil)))) (pe_one (pe_chain op_le op_le pe_int (pv 0) (pv 1))))))), ?_⟩
    refine ⟨_, rfl, _, _, _, _, _, rfl, .ty "int", a.ty, a.int, _, rfl, ?_⟩
    cases v with
    | int i =>
      refine iteT ⟨_, rfl, _, _, _, _, _, rfl, .ty "bool", a.ty, kit_ty (a := "int") (b := "bool") (r := false) (by decide +kernel), _, rfl, _, rfl, ?_⟩
      refine iteT ⟨_, rfl, _, _, rfl, rfl, _, rfl, ?_⟩
      by_cases c1 : 1 ≤ i
      · rw [decide_eq_true c1]
        refine iteT ⟨_, rfl, _, _, rfl, rfl, ?_⟩
        have e : plOk (.int i) m = decide (i ≤ m) := by simp [plOk, c1]
        rw [e] at q
        exact q
      · rw [decide_eq_false c1]
        have e : plOk (.int i) m = false := by simp [plOk, c1]
        rw [e] at q
        exact iteF q
    | bl b =>
      refine iteT ⟨_, rfl, _, _, _, _, _, rfl, .ty "bool", a.ty, kit_ty (a := "bool") (b := "bool") (r := true) (by decide +kernel), _, rfl, _, rfl, iteF q⟩
    | non => exact iteF q
    | str z => exact iteF q
    | ref z => exact iteF q
    | _ => exact (show False from a).elim
end
def g12 {α : Type} (us ws : List α) : List α := match us, ws with
  | [s], [a, b] => [s, a, b]
  | _, _ => []
def g12r {α : Type} (us ws : List α) : List α := match us, ws with
  | [s], [a, b] => [s, b, a]
  | _, _ => []
def g11 {α : Type} (us ws : List α) : List α := match us, ws with
  | [s], [a] => [s, a]
  | _, _ => []
theorem rel12 {vs : List V} {us : List Value} {zs : List V} {ws : List Value} (r : Vals vs us) (q : Vals zs ws) : Vals (g12 vs zs) (g12 us ws) := by
  cases r with
  | nil => exact .nil
  | cons a r =>
    cases r with
    | cons _ _ => exact .nil
    | nil =>
      cases q with
      | nil => exact .nil
      | cons b q =>
        cases q with
        | nil => exact .nil
        | cons c q =>
          cases q with
          | nil => exact .cons a (.cons b (.cons c .nil))
          | cons _ _ => exact .nil
theorem rel12r {vs : List V} {us : List Value} {zs : List V} {ws : List Value} (r : Vals vs us) (q : Vals zs ws) : Vals (g12r vs zs) (g12r us ws) := by
  cases r with
  | nil => exact .nil
  | cons a r =>
    cases r with
    | cons _ _ => exact .nil
    | nil =>
      cases q with
      | nil => exact .nil
      | cons b q =>
        cases q with
        | nil => exact .nil
        | cons c q =>
          cases q with
          | nil => exact .cons a (.cons c (.cons b .nil))
          | cons _ _ => exact .nil
theorem rel11 {vs : List V} {us : List Value} {zs : List V} {ws : List Value} (r : Vals vs us) (q : Vals zs ws) : Vals (g11 vs zs) (g11 us ws) := by
  cases r with
  | nil => exact .nil
  | cons a r =>
    cases r with
    | cons _ _ => exact .nil
    | nil =>
      cases q with
      | nil => exact .nil
      | cons b q =>
        cases q with
        | nil => exact .cons a (.cons b .nil)
        | cons _ _ => exact .nil
theorem g12_3 {us ws : List Value} (h : (g12 us ws).length = 3) : ∃ s a b, us = [s] ∧ ws = [a, b] := by
  unfold g12 at h
  split at h
  · exact ⟨_, _, _, rfl, rfl⟩
  · cases h
theorem g12r_3 {us ws : List Value} (h : (g12r us ws).length = 3) : ∃ s a b, us = [s] ∧ ws = [a, b] := by
  unfold g12r at h
  split at h
  · exact ⟨_, _, _, rfl, rfl⟩
  · cases h
theorem g11_2 {us ws : List Value} (h : (g11 us ws).length = 2) : ∃ s a, us = [s] ∧ ws = [a] := by
  unfold g11 at h
  split at h
  · exact ⟨_, _, rfl, rfl⟩
  · cases h
theorem kb_put {K : PySem.W.Frag} {f : Addr} {fd : FuncData} (F : Fun K "put" "Workshop.put" mPut f fd) : KBinds K fd ["self", "at", "row"] ["at", "row"] g12 g12 := by
  obtain ⟨oc, od, kV, doc, pm, an, cdv, ct, osl, rfl, lk, hcd⟩ := F.ex
  refine ⟨fun s us ws X hl => ?_, rel12⟩
  obtain ⟨s, a, b, rfl, rfl⟩ := g12_3 hl
  exact .of_eq rfl
theorem kb_change {K : PySem.W.Frag} {f : Addr} {fd : FuncData} (F : Fun K "change" "Workshop.change" mChange f fd) : KBinds K fd ["self", "at", "row"] ["row", "at"] g12r g12r := by
  obtain ⟨oc, od, kV, doc, pm, an, cdv, ct, osl, rfl, lk, hcd⟩ := F.ex
  refine ⟨fun s us ws X hl => ?_, rel12r⟩
  obtain ⟨s, a, b, rfl, rfl⟩ := g12r_3 hl
  exact .of_eq rfl
theorem kb_cut {K : PySem.W.Frag} {f : Addr} {fd : FuncData} (F : Fun K "cut" "Workshop.cut" mCut f fd) : KBinds K fd ["self", "at"] ["at"] g11 g11 := by
  obtain ⟨oc, od, kV, doc, pm, an, cdv, ct, osl, rfl, lk, hcd⟩ := F.ex
  refine ⟨fun s us ws X hl => ?_, rel11⟩
  obtain ⟨s, a, rfl, rfl⟩ := g11_2 hl
  exact .of_eq rfl
end S8

set_option Elab.async false
set_option maxRecDepth 100000
/-! what the law is told of a deed -/
namespace S8
open PySem PySem.Spec PyProof.Rows L2 Hx Xr P01 G01 W8 Ex
theorem if_false_of {c : Bool} {A B : Prop} (hc : c = false) (h : B) : if c = true then A else B := by
  rw [hc, if_neg Bool.false_ne_true]
  exact h
def posV (v : V) : Nat := match v with
  | .int i => (i - 1).toNat
  | _ => 0
def strV (v : V) : Str := match v with
  | .str z => z
  | _ => ""
def zPut : Str := "put"
def zCut : Str := "cut"
def zChg : Str := "change"
def zNo : Str := ""
def zPl : Str := "NoPlace"
def zBr : Str := "BadRow"
def zTm : Str := "TooMany"
def zNb : Str := "NoBack"
def step (d : Str) (v u : V) : List (List Str) → Str × List (List Str)
  | [] => (zNo, [])
  | r :: rs =>
    if d = zPut then
      (if plOk v ((r.length : Int) + 1) = false then (zPl, r :: rs) else if rowOk u = false then (zBr, r :: rs) else if 120 ≤ r.length then (zTm, r :: rs) else (zNo, (r.take (posV v) ++ [strV u] ++ r.drop (posV v)) :: r :: rs))
    else if d = zCut then (if plOk v (r.length : Int) = false then (zPl, r :: rs) else (zNo, r.eraseIdx (posV v) :: r :: rs))
    else if d = zChg then (if plOk v (r.length : Int) = false then (zPl, r :: rs) else if rowOk u = false then (zBr, r :: rs) else (zNo, r.set (posV v) (strV u) :: r :: rs))
    else match rs with
      | [] => (zNb, [r])
      | r1 :: rs => (zNo, r1 :: rs)
structure TxtD (K : PySem.W.Frag) (mg : Str → Option Value) (CS0 CP CB CM CN : Addr) : Prop where
  gS : mg "SlumberError" = some (.ref CS0)
  e1 : PySem.W.exmOne K (.ref CP) (.ref CS0) = some true
  e2 : PySem.W.exmOne K (.ref CB) (.ref CS0) = some true
  e3 : PySem.W.exmOne K (.ref CM) (.ref CS0) = some true
  e4 : PySem.W.exmOne K (.ref CN) (.ref CS0) = some true
  x1 : ExcC K CP
  x2 : ExcC K CB
  x3 : ExcC K CM
  x4 : ExcC K CN
  k11 : PySem.W.kitOne K (.ref CP) (.ref CP) = some true
  k12 : PySem.W.kitOne K (.ref CP) (.ref CB) = some false
  k13 : PySem.W.kitOne K (.ref CP) (.ref CN) = some false
  k14 : PySem.W.kitOne K (.ref CP) (.ref CM) = some false
  k21 : PySem.W.kitOne K (.ref CB) (.ref CP) = some false
  k22 : PySem.W.kitOne K (.ref CB) (.ref CB) = some true
  k23 : PySem.W.kitOne K (.ref CB) (.ref CN) = some false
  k24 : PySem.W.kitOne K (.ref CB) (.ref CM) = some false
  k31 : PySem.W.kitOne K (.ref CN) (.ref CP) = some false
  k32 : PySem.W.kitOne K (.ref CN) (.ref CB) = some false
  k33 : PySem.W.kitOne K (.ref CN) (.ref CN) = some true
  k34 : PySem.W.kitOne K (.ref CN) (.ref CM) = some false
  k41 : PySem.W.kitOne K (.ref CM) (.ref CP) = some false
  k42 : PySem.W.kitOne K (.ref CM) (.ref CB) = some false
  k43 : PySem.W.kitOne K (.ref CM) (.ref CN) = some false
  k44 : PySem.W.kitOne K (.ref CM) (.ref CM) = some true
/-- which error is which -/
structure Err (K : PySem.W.Frag) (CP CB CM CN D : Addr) (z : Str) : Prop where
  x : ExcC K D
  k : ∃ b1 b2 b3 b4, PySem.W.kitOne K (.ref D) (.ref CP) = some b1 ∧ PySem.W.kitOne K (.ref D) (.ref CB) = some b2 ∧ PySem.W.kitOne K (.ref D) (.ref CN) = some b3 ∧ PySem.W.kitOne K (.ref D) (.ref CM) = some b4 ∧
    ((b1 = true ∧ b2 = false ∧ b3 = false ∧ b4 = false ∧ z = zPl) ∨ (b1 = false ∧ b2 = true ∧ b3 = false ∧ b4 = false ∧ z = zBr) ∨ (b1 = false ∧ b2 = false ∧ b3 = true ∧ b4 = false ∧ z = zNb) ∨ (b1 = false ∧ b2 = false ∧ b3 = false ∧ b4 = true ∧ z = zTm))
section
variable {K : PySem.W.Frag} {mg : Str → Option Value} {CS0 CP CB CM CN : Addr}
theorem TxtD.p (D : TxtD K mg CS0 CP CB CM CN) : Err K CP CB CM CN CP zPl := ⟨D.x1, _, _, _, _, D.k11, D.k12, D.k13, D.k14, .inl ⟨rfl, rfl, rfl, rfl, rfl⟩⟩
theorem TxtD.b (D : TxtD K mg CS0 CP CB CM CN) : Err K CP CB CM CN CB zBr := ⟨D.x2, _, _, _, _, D.k21, D.k22, D.k23, D.k24, .inr (.inl ⟨rfl, rfl, rfl, rfl, rfl⟩)⟩
theorem TxtD.n (D : TxtD K mg CS0 CP CB CM CN) : Err K CP CB CM CN CN zNb := ⟨D.x4, _, _, _, _, D.k31, D.k32, D.k33, D.k34, .inr (.inr (.inl ⟨rfl, rfl, rfl, rfl, rfl⟩))⟩
theorem TxtD.m (D : TxtD K mg CS0 CP CB CM CN) : Err K CP CB CM CN CM zTm := ⟨D.x3, _, _, _, _, D.k41, D.k42, D.k43, D.k44, .inr (.inr (.inr ⟨rfl, rfl, rfl, rfl, rfl⟩))⟩
end
def t_bodyD (K : PySem.W.Frag) (CW CS CP CB CM CN : Addr) : WX → TS := fun W =>
  tIfS (tTest (tOp rEq (tVar 1) (tC (.str "put")))) (tDrop (tMethKS CW "put" (spPut K CW CS CP CB CM) g12 (WE W) (tVar 0) (tCons (tVar 2) (tCons (tVar 3) tNil))))
    (tIfS (tTest (tOp rEq (tVar 1) (tC (.str "cut")))) (tDrop (tMethKS CW "cut" (spCut K CW CS CP) g11 (WE W) (tVar 0) (tCons (tVar 2) tNil)))
      (tIfS (tTest (tOp rEq (tVar 1) (tC (.str "change")))) (tDrop (tMethKS CW "change" (spChange K CW CS CP CB) g12r (WE W) (tVar 0) (tCons (tVar 3) (tCons (tVar 2) tNil))))
        (tDrop (tMethS0 CW "back" (spBack K CW CS CN) (WE W) (tVar 0)))))
section
variable {P : Program} {w : World} {K : PySem.W.Frag} {mg : Str → Option Value} {base : Heap} {CW CS CS0 CN CP CB CM : Addr}
abbrev sDone : Stmt := top 233
def spDone (K : PySem.W.Frag) (CW CS : Addr) : Sp := fun vs H Q _ => ∃ (qs : List Addr) (o : Addr) (d : Str) (v u : V) (r : List Str) (ch : List (List Str)), vs = [.ref o, .str d, v, u] ∧ Sh K CW CS H qs o (r :: ch) ∧ Arg H v ∧ Arg H u ∧
  ∀ H', But o H H' → Sh K CW CS H' qs o (step d v u (r :: ch)).2 → Q (.str (step d v u (r :: ch)).1) H'
theorem scDo : FnScope ["_law_shop", "_law_deed_here", "_law_spot", "_law_said", "_law_error", "caught", "_law_got"] ["_law_shop", "_law_deed_here", "_law_spot", "_law_said"] (defScope sDone) := ⟨rfl, rfl, rfl, by decide +kernel, rfl, by decide +kernel, by decide +kernel⟩
set_option maxHeartbeats 8000000 in
theorem ok_done {f fP fC fH fB : Addr} {fd fdP fdC fdH fdB : FuncData} (F : Fun K "_law_done" "_law_done" sDone f fd) (T : TxtW K mg CW CS) (TS : TxtS mg) (D : TxtD K mg CS0 CP CB CM CN)
    (EP : ErX K mg "NoPlace" CP) (EB : ErX K mg "BadRow" CB) (EN : ErX K mg "NoBack" CN) (EM : ErX K mg "TooMany" CM)
    (GP : FnOk P w K mg base (L2.CX P w) 4 fP fdP ["self", "at", "row"] (spPut K CW CS CP CB CM)) (kbP : KBinds K fdP ["self", "at", "row"] ["at", "row"] g12 g12) (mP : Meth K CW "put" fP)
    (GC : FnOk P w K mg base (L2.CX P w) 4 fC fdC ["self", "at"] (spCut K CW CS CP)) (kbC : KBinds K fdC ["self", "at"] ["at"] g11 g11) (mC : Meth K CW "cut" fC)
    (GH : FnOk P w K mg base (L2.CX P w) 4 fH fdH ["self", "at", "row"] (spChange K CW CS CP CB)) (kbH : KBinds K fdH ["self", "at", "row"] ["row", "at"] g12r g12r) (mH : Meth K CW "change" fH)
    (GB : FnOk P w K mg base (L2.CX P w) 1 fB fdB ["self"] (spBack K CW CS CN)) (bB : Binds K fdB ["self"] []) (mB : Meth K CW "back" fB) :
    FnOk P w K mg base CX0 5 f fd ["_law_shop", "_law_deed_here", "_law_spot", "_law_said"] (spDone K CW CS) := by
  refine F.ok scDo (fun vs H Q E h => ?_) (fun cdv A outer st H vs Q E hr h => ?_)
  · obtain ⟨qs, o, d, v, u, r, ch, rfl, _⟩ := h
    rfl
  · obtain ⟨qs, o, d, v, u, r, ch, rfl, S, av, au, q⟩ := h
    have hr1 : Room 1 _ := hr.mono (by decide)
    refine ⟨_, (pss_cons (ps_set (i := 4) scDo.nd rfl (.inl rfl) pe_non) (C8.pss_cut (ps_try_asK (i := 5) (tb := t_bodyD K CW CS CP CB CM CN) (ts := fun _ _ _ => tAsg (tVar 5) (gName 4)) (Wout := fun _ _ _ _ => False) rfl rfl rfl scDo.nd rfl rfl ⟨rfl, by decide, .inl D.gS⟩ takes0
      (fun W pn xe tk _ => (pss_one (by exact (ps_if (pt_cmpR op_eq (pv 1) pe_str (nomark _)) (pss_one (ps_expr (by exact (pe_methKS (pv 0) T.clW mP GP hr kbP (fun σ => passAt tk σ) (by exact (pk_cons (pv 2) (pk_cons (pv 3) pk_nil))))))) (pss_one (ps_if (pt_cmpR op_eq (pv 1) pe_str (nomark _)) (pss_one (ps_expr (by exact (pe_methKS (pv 0) T.clW mC GC hr kbC (fun σ => passAt tk σ) (by exact (pk_cons (pv 2) pk_nil)))))) (pss_one (ps_if (pt_cmpR op_eq (pv 1) pe_str (nomark _)) (pss_one (ps_expr (by exact (pe_methKS (pv 0) T.clW mH GH hr kbH (fun σ => passAt tk σ) (by exact (pk_cons (pv 3) (pk_cons (pv 2) pk_nil))))))) (pss_one (ps_expr (by exact (pe_methS0 (pv 0) T.clW mB GB hr1 bB (fun σ => passAt tk σ)))))))))))))
      (fun a oe cls d pn hz hf => (pss_one (ps_set (i := 4) scDo.nd rfl (.inl rfl) (pv 5))))) (pss_cons (ps_if (pt_cmpR op_isN (pv 4) pe_non (nomark _)) (pss_one (ps_ret pe_str)) pss_nil)
      (pss_cons (ps_set (i := 6) scDo.nd rfl (.inl rfl) (pe_lst (pa_cons (pe_callB (call_isG (X := _)) (by rfl) TS.isi (by decide +kernel) (pa_cons (pv 4) (pa_cons (pe_glob (v := .ref CP) (by rfl) EP.g rfl) pa_nil))) (pa_cons (pe_callB (call_isG (X := _)) (by rfl) TS.isi (by decide +kernel) (pa_cons (pv 4) (pa_cons (pe_glob (v := .ref CB) (by rfl) EB.g rfl) pa_nil))) (pa_cons (pe_callB (call_isG (X := _)) (by rfl) TS.isi (by decide +kernel) (pa_cons (pv 4) (pa_cons (pe_glob (v := .ref CN) (by rfl) EN.g rfl) pa_nil))) (pa_cons (pe_callB (call_isG (X := _)) (by rfl) TS.isi (by decide +kernel) (pa_cons (pv 4) (pa_cons (pe_glob (v := .ref CM) (by rfl) EM.g rfl) pa_nil))) pa_nil))))))
      (pss_cons (ps_if (pt_cmpR op_ne (pe_bm PySem.F.plainAttrs_list PySem.F.slot_list_count PySem.F.type_list_count mt_countF (pv 6) (pa_cons pe_bl pa_nil)) pe_int (nomark _)) (pss_one (ps_ret pe_str)) pss_nil)
      (pss_one (ps_ret (pe_ix ix_list (pe_lst (pa_cons pe_str (pa_cons pe_str (pa_cons pe_str (pa_cons pe_str pa_nil))))) (pe_bm PySem.F.plainAttrs_list PySem.F.slot_list_index PySem.F.type_list_index mt_index (pv 6) (pa_cons pe_bl pa_nil)) (fun _ _ => rfl))))))))), ?_⟩
    obtain ⟨dx, v0, ho, hc⟩ := S.obj
    refine ⟨fun σ' H' => ∃ e : V, σ' = [some (.ref o), some (.str d), some v, some u, some e, none, none] ∧ But o H H' ∧ Sh K CW CS H' qs o (step d v u (r :: ch)).2 ∧
      ((e = .non ∧ (step d v u (r :: ch)).1 = zNo) ∨ ∃ a DD, e = .ref a ∧ H' a = some (ExF (.ref DD) none a) ∧ Err K CP CB CM CN DD (step d v u (r :: ch)).1), ?_, ?_⟩
    · have bad : ∀ (DD : Addr) (z : Str) (H1 : Hp) (a : Addr), Same H H1 → H1 a = none → Err K CP CB CM CN DD z → step d v u (r :: ch) = (z, r :: ch) → But o H (upd H1 a (ExF (.ref DD) none a)) ∧ Sh K CW CS (upd H1 a (ExF (.ref DD) none a)) qs o (step d v u (r :: ch)).2 ∧
          ((V.ref a = .non ∧ (step d v u (r :: ch)).1 = zNo) ∨ ∃ a' DD', V.ref a = .ref a' ∧ upd H1 a (ExF (.ref DD) none a) a' = some (ExF (.ref DD') none a') ∧ Err K CP CB CM CN DD' (step d v u (r :: ch)).1) := by
        intro DD z H1 a s1 na er st
        rw [st]
        exact ⟨But.of (s1.trans (Same.new na)), S.mono (s1.trans (Same.new na)), .inr ⟨a, DD, rfl, upd_same, er⟩⟩
      refine ⟨_, rfl, rfl, _, rfl, ?_⟩
      show (if decide (V.str d = V.str zPut) = true then _ else _)
      have ed : ∀ z : Str, decide (V.str d = V.str z) = decide (d = z) := fun z => by
        rw [Bool.eq_iff_iff, decide_eq_true_eq, decide_eq_true_eq]
        exact ⟨fun h => by injection h, fun h => by rw [h]⟩
      rw [ed]
      by_cases c1 : d = zPut
      · rw [decide_eq_true c1]
        refine iteT ⟨_, rfl, o, dx, _, rfl, ho, wf_no (by decide +kernel), _, rfl, _, rfl, qs, o, r, ch, v, u, rfl, S, av, au, ?_, ?_, ?_, ?_⟩
        · intro okp H1 s1
          refine ⟨true, D.e1, fun _ a na => ⟨_, rfl, .ref a, rfl, bad CP zPl H1 a s1 na D.p ?_⟩, fun z => Bool.noConfusion z⟩
          show (if d = zPut then _ else _) = _
          rw [if_pos c1, if_pos okp]
        · intro okp okr H1 s1
          refine ⟨true, D.e2, fun _ a na => ⟨_, rfl, .ref a, rfl, bad CB zBr H1 a s1 na D.b ?_⟩, fun z => Bool.noConfusion z⟩
          show (if d = zPut then _ else _) = _
          rw [if_pos c1, if_neg (by rw [okp]; exact fun z => Bool.noConfusion z), if_pos okr]
        · intro okp okr hl H1 s1
          refine ⟨true, D.e3, fun _ a na => ⟨_, rfl, .ref a, rfl, bad CM zTm H1 a s1 na D.m ?_⟩, fun z => Bool.noConfusion z⟩
          show (if d = zPut then _ else _) = _
          rw [if_pos c1, if_neg (by rw [okp]; exact fun z => Bool.noConfusion z), if_neg (by rw [okr]; exact fun z => Bool.noConfusion z), if_pos hl]
        · intro i z e1 e2 okp okr hl H1 hb hS
          have st : step d v u (r :: ch) = (zNo, (r.take (posV v) ++ [strV u] ++ r.drop (posV v)) :: r :: ch) := by
            show (if d = zPut then _ else _) = _
            rw [if_pos c1, if_neg (by rw [okp]; exact fun z => Bool.noConfusion z), if_neg (by rw [okr]; exact fun z => Bool.noConfusion z), if_neg (by omega)]
          refine ⟨.non, rfl, hb, ?_, .inl ⟨rfl, by rw [st]⟩⟩
          rw [st, e1, e2]
          exact hS
      · rw [decide_eq_false c1]
        refine iteF ⟨_, rfl, rfl, _, rfl, ?_⟩
        show (if decide (V.str d = V.str zCut) = true then _ else _)
        rw [ed]
        by_cases c2 : d = zCut
        · rw [decide_eq_true c2]
          refine iteT ⟨_, rfl, o, dx, _, rfl, ho, wf_no (by decide +kernel), _, rfl, qs, o, r, ch, v, rfl, S, av, ?_, ?_⟩
          · intro okp H1 s1
            refine ⟨true, D.e1, fun _ a na => ⟨_, rfl, .ref a, rfl, bad CP zPl H1 a s1 na D.p ?_⟩, fun z => Bool.noConfusion z⟩
            show (if d = zPut then _ else _) = _
            rw [if_neg c1, if_pos c2, if_pos okp]
          · intro i e1 okp H1 hb hS
            have st : step d v u (r :: ch) = (zNo, r.eraseIdx (posV v) :: r :: ch) := by
              show (if d = zPut then _ else _) = _
              rw [if_neg c1, if_pos c2, if_neg (by rw [okp]; exact fun z => Bool.noConfusion z)]
            refine ⟨.non, rfl, hb, ?_, .inl ⟨rfl, by rw [st]⟩⟩
            rw [st, e1]
            exact hS
        · rw [decide_eq_false c2]
          refine iteF ⟨_, rfl, rfl, _, rfl, ?_⟩
          show (if decide (V.str d = V.str zChg) = true then _ else _)
          rw [ed]
          by_cases c3 : d = zChg
          · rw [decide_eq_true c3]
            refine iteT ⟨_, rfl, o, dx, _, rfl, ho, wf_no (by decide +kernel), _, rfl, _, rfl, qs, o, r, ch, v, u, rfl, S, av, au, ?_, ?_, ?_⟩
            · intro okp H1 s1
              refine ⟨true, D.e1, fun _ a na => ⟨_, rfl, .ref a, rfl, bad CP zPl H1 a s1 na D.p ?_⟩, fun z => Bool.noConfusion z⟩
              show (if d = zPut then _ else _) = _
              rw [if_neg c1, if_neg c2, if_pos c3, if_pos okp]
            · intro okp okr H1 s1
              refine ⟨true, D.e2, fun _ a na => ⟨_, rfl, .ref a, rfl, bad CB zBr H1 a s1 na D.b ?_⟩, fun z => Bool.noConfusion z⟩
              show (if d = zPut then _ else _) = _
              rw [if_neg c1, if_neg c2, if_pos c3, if_neg (by rw [okp]; exact fun z => Bool.noConfusion z), if_pos okr]
            · intro i z e1 e2 okp okr H1 hb hS
              have st : step d v u (r :: ch) = (zNo, r.set (posV v) (strV u) :: r :: ch) := by
                show (if d = zPut then _ else _) = _
                rw [if_neg c1, if_neg c2, if_pos c3, if_neg (by rw [okp]; exact fun z => Bool.noConfusion z), if_neg (by rw [okr]; exact fun z => Bool.noConfusion z)]
              refine ⟨.non, rfl, hb, ?_, .inl ⟨rfl, by rw [st]⟩⟩
              rw [st, e1, e2]
              exact hS
          · rw [decide_eq_false c3]
            refine iteF ⟨_, rfl, o, dx, _, rfl, ho, wf_no (by decide +kernel), qs, o, r, ch, rfl, S, ?_, ?_⟩
            · intro e
              refine ⟨true, D.e4, fun _ a na => ⟨_, rfl, .ref a, rfl, bad CN zNb H a (Same.refl _) na D.n ?_⟩, fun z => Bool.noConfusion z⟩
              subst e
              show (if d = zPut then _ else _) = _
              rw [if_neg c1, if_neg c2, if_neg c3]
            · intro e H1 hb hS
              cases ch with
              | nil => exact (e rfl).elim
              | cons r1 rs =>
                have st : step d v u (r :: r1 :: rs) = (zNo, r1 :: rs) := by
                  show (if d = zPut then _ else _) = _
                  rw [if_neg c1, if_neg c2, if_neg c3]
                refine ⟨.non, rfl, hb, ?_, .inl ⟨rfl, by rw [st]⟩⟩
                rw [st]
                exact hS
    · rintro σ' H' ⟨e, rfl, hb, hS, hk⟩
      refine ⟨_, rfl, rfl, _, rfl, ?_⟩
      rcases hk with ⟨rfl, hz⟩ | ⟨a, DD, rfl, ha, er⟩
      · show (if decide (V.non = V.non) = true then _ else _)
        rw [decide_eq_true rfl]
        have := q H' hb hS
        rw [hz] at this
        exact iteT this
      · rw [show decide (V.ref a = V.non) = false from decide_eq_false fun z => nomatch z]
        obtain ⟨b1, b2, b3, b4, k1, k2, k3, k4, hb4⟩ := er.k
        refine iteF ?_
        refine ⟨_, rfl, a, DD, .ref CP, .ref CP, b1, rfl, ha, er.x, (fun _ r => r), k1, ?_⟩
        refine ⟨_, rfl, a, DD, .ref CB, .ref CB, b2, rfl, ha, er.x, (fun _ r => r), k2, ?_⟩
        refine ⟨_, rfl, a, DD, .ref CN, .ref CN, b3, rfl, ha, er.x, (fun _ r => r), k3, ?_⟩
        refine ⟨_, rfl, a, DD, .ref CM, .ref CM, b4, rfl, ha, er.x, (fun _ r => r), k4, ?_⟩
        refine ⟨by show 4 ≤ sizeLine; decide, fun l nl => ?_⟩
        refine ⟨_, rfl, .inl ⟨rfl, _, SqL.of upd_same⟩, l, _, .bl true, rfl, rfl, SqL.of upd_same, rfl, rfl, rfl, _, rfl, ?_⟩
        have fin : ∀ (z : Str) (j : Nat), z = (step d v u (r :: ch)).1 → ([V.str zPl, V.str zBr, V.str zNb, V.str zTm])[j]? = some (V.str z) → ∀ m, upd H' l (.lst [.bl b1, .bl b2, .bl b3, .bl b4]) m = none → Q (.str z) (upd (upd H' l (.lst [.bl b1, .bl b2, .bl b3, .bl b4])) m (.lst [V.str zPl, V.str zBr, V.str zNb, V.str zTm])) := by
          intro z j ez _ m nm
          have s2 := (Same.new nl (o := .lst [.bl b1, .bl b2, .bl b3, .bl b4])).trans (Same.new nm (o := .lst [V.str zPl, V.str zBr, V.str zNb, V.str zTm]))
          rw [ez]
          exact q _ (fun b u n e => s2 _ _ (hb b u n e)) (hS.mono s2)
        rcases hb4 with ⟨rfl, rfl, rfl, rfl, hz⟩ | ⟨rfl, rfl, rfl, rfl, hz⟩ | ⟨rfl, rfl, rfl, rfl, hz⟩ | ⟨rfl, rfl, rfl, rfl, hz⟩
        · refine if_false_of (by decide) ?_
          refine ⟨by show 4 ≤ sizeLine; decide, fun m nm => ?_⟩
          have lm : l ≠ m := ne_of_none upd_same nm
          have hl2 : upd (upd H' l (.lst [.bl true, .bl false, .bl false, .bl false])) m (.lst [V.str zPl, V.str zBr, V.str zNb, V.str zTm]) l = some (.lst [.bl true, .bl false, .bl false, .bl false]) := by rw [upd_ne lm, upd_same]
          refine ⟨_, rfl, .inl ⟨rfl, _, SqL.of hl2⟩, l, _, .bl true, 0, .bl true, rfl, rfl, SqL.of hl2, rfl, rfl, rfl, rfl, (fun n z' h e => ?_), ?_⟩
          · match n, h with
            | (n + 0), h => exact absurd h (by omega)
          · exact ⟨m, _, _, _, rfl, rfl, SqL.of upd_same, atI_nat (j := 0) rfl, fin zPl 0 hz.symm rfl m nm⟩
        · refine if_false_of (by decide) ?_
          refine ⟨by show 4 ≤ sizeLine; decide, fun m nm => ?_⟩
          have lm : l ≠ m := ne_of_none upd_same nm
          have hl2 : upd (upd H' l (.lst [.bl false, .bl true, .bl false, .bl false])) m (.lst [V.str zPl, V.str zBr, V.str zNb, V.str zTm]) l = some (.lst [.bl false, .bl true, .bl false, .bl false]) := by rw [upd_ne lm, upd_same]
          refine ⟨_, rfl, .inl ⟨rfl, _, SqL.of hl2⟩, l, _, .bl true, 1, .bl true, rfl, rfl, SqL.of hl2, rfl, rfl, rfl, rfl, (fun n z' h e => ?_), ?_⟩
          · match n, h with
            | 0, _ => cases e; rfl
            | (n + 1), h => exact absurd h (by omega)
          · exact ⟨m, _, _, _, rfl, rfl, SqL.of upd_same, atI_nat (j := 1) rfl, fin zBr 1 hz.symm rfl m nm⟩
        · refine if_false_of (by decide) ?_
          refine ⟨by show 4 ≤ sizeLine; decide, fun m nm => ?_⟩
          have lm : l ≠ m := ne_of_none upd_same nm
          have hl2 : upd (upd H' l (.lst [.bl false, .bl false, .bl true, .bl false])) m (.lst [V.str zPl, V.str zBr, V.str zNb, V.str zTm]) l = some (.lst [.bl false, .bl false, .bl true, .bl false]) := by rw [upd_ne lm, upd_same]
          refine ⟨_, rfl, .inl ⟨rfl, _, SqL.of hl2⟩, l, _, .bl true, 2, .bl true, rfl, rfl, SqL.of hl2, rfl, rfl, rfl, rfl, (fun n z' h e => ?_), ?_⟩
          · match n, h with
            | 0, _ => cases e; rfl
            | 1, _ => cases e; rfl
            | (n + 2), h => exact absurd h (by omega)
          · exact ⟨m, _, _, _, rfl, rfl, SqL.of upd_same, atI_nat (j := 2) rfl, fin zNb 2 hz.symm rfl m nm⟩
        · refine if_false_of (by decide) ?_
          refine ⟨by show 4 ≤ sizeLine; decide, fun m nm => ?_⟩
          have lm : l ≠ m := ne_of_none upd_same nm
          have hl2 : upd (upd H' l (.lst [.bl false, .bl false, .bl false, .bl true])) m (.lst [V.str zPl, V.str zBr, V.str zNb, V.str zTm]) l = some (.lst [.bl false, .bl false, .bl false, .bl true]) := by rw [upd_ne lm, upd_same]
          refine ⟨_, rfl, .inl ⟨rfl, _, SqL.of hl2⟩, l, _, .bl true, 3, .bl true, rfl, rfl, SqL.of hl2, rfl, rfl, rfl, rfl, (fun n z' h e => ?_), ?_⟩
          · match n, h with
            | 0, _ => cases e; rfl
            | 1, _ => cases e; rfl
            | 2, _ => cases e; rfl
            | (n + 3), h => exact absurd h (by omega)
          · exact ⟨m, _, _, _, rfl, rfl, SqL.of upd_same, atI_nat (j := 3) rfl, fin zTm 3 hz.symm rfl m nm⟩
end
end S8

set_option Elab.async false
set_option maxRecDepth 100000
/-! a deed of the law -/
namespace S8
open PySem PySem.Spec PyProof.Rows L2 Hx Xr P01 G01 W8 Ex
def PastOk (K : PySem.W.Frag) (G : Hp) : List V → List (List Str) → Prop
  | [], [] => True
  | v :: vs, r :: rs => (∃ l, v = .ref l ∧ SqL K G l (r.map V.str)) ∧ PastOk K G vs rs
  | _, _ => False
theorem PastOk.mono {K : PySem.W.Frag} {G G' : Hp} (e : Same G G') : ∀ {vs : List V} {rs : List (List Str)}, PastOk K G vs rs → PastOk K G' vs rs
  | [], [], _ => trivial
  | v :: vs, r :: rs, h => by
    obtain ⟨⟨l, e1, h1⟩, h2⟩ := h
    exact ⟨⟨l, e1, e.seq h1⟩, h2.mono e⟩
  | [], _ :: _, h => (show False from h).elim
  | _ :: _, [], h => (show False from h).elim
theorem PastOk.len {K : PySem.W.Frag} {G : Hp} : ∀ {vs : List V} {rs : List (List Str)}, PastOk K G vs rs → vs.length = rs.length
  | [], [], _ => rfl
  | v :: vs, r :: rs, h => congrArg (· + 1) (PastOk.len h.2)
  | [], _ :: _, h => (show False from h).elim
  | _ :: _, [], h => (show False from h).elim
theorem at_last {xs : List V} {v : V} : atI (xs ++ [v]) (-1) = some v := by
  unfold atI ixN
  rw [if_neg (by decide), if_pos (by rw [List.length_append, List.length_singleton]; omega)]
  show (xs ++ [v])[(-1 + ((xs ++ [v]).length : Int)).toNat]? = _
  rw [show (-1 + ((xs ++ [v]).length : Int)).toNat = xs.length by rw [List.length_append, List.length_singleton]; omega]
  simp
structure Wk (K : PySem.W.Frag) (CW CS : Addr) (H : Hp) (q o p : Addr) (n : Int) (chs pst : List (List Str)) : Prop where
  qo : q ≠ o
  qp : q ≠ p
  op : o ≠ p
  pur : PurseAt H q n
  shop : Sh K CW CS H [q, o, p] o chs
  past : ∃ ys, H p = some (.lst ys.reverse) ∧ PastOk K (off [q, o, p] H) ys pst
section
variable {K : PySem.W.Frag} {CW CS : Addr} {H H' : Hp} {q o p : Addr} {n n' : Int} {chs pst : List (List Str)}
theorem mq : q ∈ [q, o, p] := by simp
theorem mo : o ∈ [q, o, p] := by simp
theorem mp : p ∈ [q, o, p] := by simp
theorem Wk.mono (W : Wk K CW CS H q o p n chs pst) (e : Same H H') : Wk K CW CS H' q o p n chs pst := by
  obtain ⟨ys, h1, h2⟩ := W.past
  exact ⟨W.qo, W.qp, W.op, W.pur.same e, W.shop.mono e, ys, e _ _ h1, h2.mono (off_mono e)⟩
theorem there_but {qs : List Addr} {x : Addr} (th : ∀ b ∈ qs, H b ≠ none) (b : But x H H') (hx : H' x ≠ none) : ∀ b ∈ qs, H' b ≠ none := fun c hc => by
  by_cases e : c = x
  · rw [e]
    exact hx
  · cases z : H c with
    | none => exact (th c hc z).elim
    | some u =>
      rw [b c u e z]
      exact fun y => by cases y
theorem Wk.take (W : Wk K CW CS H q o p n chs pst) (b : But q H H') (pa : PurseAt H' q n') : Wk K CW CS H' q o p n' chs pst := by
  obtain ⟨ys, h1, h2⟩ := W.past
  obtain ⟨dx, v, h3, h4⟩ := W.shop.obj
  have e := off_but (mq (o := o) (p := p)) b
  refine ⟨W.qo, W.qp, W.op, pa, ⟨mo, there_but W.shop.there b ?_, dx, v, b _ _ W.qo.symm h3, h4.mono e⟩, ys, b _ _ W.qp.symm h1, h2.mono e⟩
  obtain ⟨x, z, hq, _⟩ := pa
  rw [hq]
  exact fun y => by cases y
theorem Wk.done {chs' : List (List Str)} (W : Wk K CW CS H q o p n chs pst) (b : But o H H') (S : Sh K CW CS H' [q, o, p] o chs') : Wk K CW CS H' q o p n chs' pst := by
  obtain ⟨ys, h1, h2⟩ := W.past
  have e := off_but (mo (q := q) (p := p)) b
  obtain ⟨x, z, hq, r⟩ := W.pur
  exact ⟨W.qo, W.qp, W.op, ⟨x, z, b _ _ W.qo hq, r⟩, S, ys, b _ _ W.op.symm h1, h2.mono e⟩
theorem Wk.setp {ys : List V} {pst' : List (List Str)} (W : Wk K CW CS H q o p n chs pst) (h : PastOk K (off [q, o, p] H) ys pst') : Wk K CW CS (upd H p (.lst ys.reverse)) q o p n chs pst' := by
  obtain ⟨dx, v, h3, h4⟩ := W.shop.obj
  obtain ⟨x, z, hq, r⟩ := W.pur
  have e : off [q, o, p] (upd H p (.lst ys.reverse)) = off [q, o, p] H := off_updIn mp
  refine ⟨W.qo, W.qp, W.op, ⟨x, z, by rw [upd_ne W.qp]; exact hq, r⟩, ⟨mo, fun b hb => ?_, dx, v, by rw [upd_ne W.op]; exact h3, by rw [e]; exact h4⟩, ys, upd_same, by rw [e]; exact h⟩
  by_cases c : b = p
  · rw [c, upd_same]
    exact fun y => by cases y
  · rw [upd_ne c]
    exact W.shop.there b hb
end
theorem cut_to {xs : List V} {i : Int} {k : Nat} (e : i = (k : Int)) : cutV xs none (some i) = xs.take k := by
  subst e
  unfold cutV
  rw [HT.sIx_nat, HT.sIx_none, List.drop_zero, Nat.sub_zero]
  by_cases c : k ≤ xs.length
  · rw [Nat.min_eq_left c]
  · rw [Nat.min_eq_right (by omega), List.take_of_length_le (Nat.le_refl _), List.take_of_length_le (by omega)]
theorem cut_from {xs : List V} {i : Int} {k : Nat} (e : i = (k : Int)) : cutV xs (some i) none = xs.drop k := by
  subst e
  unfold cutV
  rw [HT.sIx_nat, HT.sIx_none]
  by_cases c : k ≤ xs.length
  · rw [Nat.min_eq_left c, List.take_of_length_le (by rw [List.length_drop]; exact Nat.le_refl _)]
  · rw [Nat.min_eq_right (by omega), List.drop_of_length_le (Nat.le_refl _), List.drop_of_length_le (by omega), List.take_nil]
theorem str_eq {a b : Str} : decide (V.str a = V.str b) = decide (a = b) := by
  rw [Bool.eq_iff_iff, decide_eq_true_eq, decide_eq_true_eq]
  exact ⟨fun h => by injection h, fun h => by rw [h]⟩
theorem bl_eq {Q : VK} {H : Hp} {a b : Str} (e : a = b) (h : Q (.bl true) H) : Q (.bl (decide (V.str a = V.str b))) H := by
  rw [decide_eq_true (congrArg V.str e)]
  exact h
theorem if_str {a b : Str} {A B : Prop} (e : a = b) (h : A) : if decide (V.str a = V.str b) = true then A else B := by
  rw [decide_eq_true (congrArg V.str e), if_pos rfl]
  exact h
theorem if_nstr {a b : Str} {A B : Prop} (e : a ≠ b) (h : B) : if decide (V.str a = V.str b) = true then A else B := by
  rw [str_eq, decide_eq_false e, if_neg Bool.false_ne_true]
  exact h
theorem if_true_of {c : Bool} {A B : Prop} (hc : c = true) (h : A) : if c = true then A else B := by
  rw [if_pos hc]
  exact h
def zBack : Str := "back"
def tSpots (M : Int) : List V := [.int 0, .int (-1), .int (M + 1), .bl true, .str "1", .non, .int (10 ^ Int.toNat 20), .int (0 - 10 ^ Int.toNat 20)]
theorem spots_arg (M : Int) : ∀ v ∈ tSpots M, ∀ H, Arg H v := by
  intro v hv H
  simp only [tSpots, List.mem_cons, List.not_mem_nil, or_false] at hv
  rcases hv with rfl | rfl | rfl | rfl | rfl | rfl | rfl | rfl
  · trivial
  · trivial
  · trivial
  · trivial
  · show Str.length _ ≤ 1000
    decide
  · trivial
  · trivial
  · trivial
theorem rows_arg {z : Str} (h : z ∈ tRows) {H : Hp} : Arg H (.str z) := by
  have := tRows_ok z h
  obtain ⟨z', e, hl⟩ := rowOk_str this
  injection e with e
  subst e
  show z.length ≤ 1000
  omega
theorem zne : zPut ≠ zCut ∧ zPut ≠ zChg ∧ zPut ≠ zBack ∧ zCut ≠ zChg ∧ zCut ≠ zBack ∧ zChg ≠ zBack := by decide +kernel
def Good (L : Nat) (chs : List (List Str)) : Prop := ∀ x ∈ chs, x.length ≤ L ∧ ∀ z ∈ x, z ∈ tRows
theorem if_nn {a b : Str} {A B : Prop} (e : a ≠ b) (h : A) : if (!decide (V.str a = V.str b)) = true then A else B := by
  rw [str_eq, decide_eq_false e]
  exact h
theorem if_nn2 {a b : Str} {A B : Prop} (e : a = b) (h : B) : if (!decide (V.str a = V.str b)) = true then A else B := by
  rw [decide_eq_true (congrArg V.str e)]
  exact h
theorem step_eq {d : Str} {v u : V} {r : List Str} {rs : List (List Str)} : step d v u (r :: rs) =
    if d = zPut then
      (if plOk v ((r.length : Int) + 1) = false then (zPl, r :: rs) else if rowOk u = false then (zBr, r :: rs) else if 120 ≤ r.length then (zTm, r :: rs) else (zNo, (r.take (posV v) ++ [strV u] ++ r.drop (posV v)) :: r :: rs))
    else if d = zCut then (if plOk v (r.length : Int) = false then (zPl, r :: rs) else (zNo, r.eraseIdx (posV v) :: r :: rs))
    else if d = zChg then (if plOk v (r.length : Int) = false then (zPl, r :: rs) else if rowOk u = false then (zBr, r :: rs) else (zNo, r.set (posV v) (strV u) :: r :: rs))
    else match rs with
      | [] => (zNb, [r])
      | r1 :: rs => (zNo, r1 :: rs) := rfl
theorem step_zPut {v u : V} {r : List Str} {rs : List (List Str)} : step zPut v u (r :: rs) = (if plOk v ((r.length : Int) + 1) = false then (zPl, r :: rs) else if rowOk u = false then (zBr, r :: rs) else if 120 ≤ r.length then (zTm, r :: rs) else (zNo, (r.take (posV v) ++ [strV u] ++ r.drop (posV v)) :: r :: rs)) := by
  rw [step_eq, if_pos rfl]
theorem step_zCut {v u : V} {r : List Str} {rs : List (List Str)} : step zCut v u (r :: rs) = (if plOk v (r.length : Int) = false then (zPl, r :: rs) else (zNo, r.eraseIdx (posV v) :: r :: rs)) := by
  rw [step_eq, if_neg zne.1.symm, if_pos rfl]
theorem step_zChg {v u : V} {r : List Str} {rs : List (List Str)} : step zChg v u (r :: rs) = (if plOk v (r.length : Int) = false then (zPl, r :: rs) else if rowOk u = false then (zBr, r :: rs) else (zNo, r.set (posV v) (strV u) :: r :: rs)) := by
  rw [step_eq, if_neg zne.2.1.symm, if_neg zne.2.2.2.1.symm, if_pos rfl]
theorem map_put {r : List Str} {z : Str} {j : Nat} : (r.take j ++ [z] ++ r.drop j).map V.str = (r.map V.str).take j ++ [V.str z] ++ (r.map V.str).drop j := by
  rw [List.map_append, List.map_append, List.map_take, List.map_drop]
  rfl
theorem map_cut {r : List Str} {j : Nat} : (r.eraseIdx j).map V.str = (r.map V.str).take j ++ (r.map V.str).drop (j + 1) := by
  rw [List.eraseIdx_eq_take_drop_succ, List.map_append, List.map_take, List.map_drop]
theorem map_chg {r : List Str} {z : Str} {j : Nat} (h : j < r.length) : (r.set j z).map V.str = (r.map V.str).take j ++ [V.str z] ++ (r.map V.str).drop (j + 1) := by
  rw [List.set_eq_take_append_cons_drop, if_pos h, List.map_append, List.map_cons, List.map_take, List.map_drop, List.append_assoc]
  rfl
theorem good_zPut {L j : Nat} {r : List Str} {ch : List (List Str)} {z : Str} (h : Good L (r :: ch)) (hz : z ∈ tRows) : Good (L + 1) ((r.take j ++ [z] ++ r.drop j) :: r :: ch) := by
  intro x hx
  rcases List.mem_cons.mp hx with e | hx
  · subst e
    have hr := h r List.mem_cons_self
    refine ⟨?_, fun y hy => ?_⟩
    · simp only [List.length_append, List.length_take, List.length_drop, List.length_singleton]
      omega
    · rcases List.mem_append.mp hy with hy | hy
      · rcases List.mem_append.mp hy with hy | hy
        · exact hr.2 y (List.mem_of_mem_take hy)
        · rw [List.mem_singleton.mp hy]
          exact hz
      · exact hr.2 y (List.mem_of_mem_drop hy)
  · exact ⟨Nat.le_succ_of_le (h x hx).1, (h x hx).2⟩
theorem good_zCut {L j : Nat} {r : List Str} {ch : List (List Str)} (h : Good L (r :: ch)) : Good (L + 1) (r.eraseIdx j :: r :: ch) := by
  intro x hx
  rcases List.mem_cons.mp hx with e | hx
  · subst e
    have hr := h r List.mem_cons_self
    refine ⟨?_, fun y hy => hr.2 y (List.mem_of_mem_eraseIdx hy)⟩
    have := List.length_eraseIdx_le r j
    omega
  · exact ⟨Nat.le_succ_of_le (h x hx).1, (h x hx).2⟩
theorem good_zChg {L j : Nat} {r : List Str} {ch : List (List Str)} {z : Str} (h : Good L (r :: ch)) (hz : z ∈ tRows) : Good (L + 1) (r.set j z :: r :: ch) := by
  intro x hx
  rcases List.mem_cons.mp hx with e | hx
  · subst e
    have hr := h r List.mem_cons_self
    refine ⟨by rw [List.length_set]; omega, fun y hy => ?_⟩
    rcases List.mem_or_eq_of_mem_set hy with hy | hy
    · exact hr.2 y hy
    · rw [hy]
      exact hz
  · exact ⟨Nat.le_succ_of_le (h x hx).1, (h x hx).2⟩
section
variable {P : Program} {w : World} {K : PySem.W.Frag} {mg : Str → Option Value} {base : Heap} {CW CS : Addr}
abbrev sDeed : Stmt := top 235
def spDeed (K : PySem.W.Frag) (CW CS : Addr) : Sp := fun vs H Q _ => ∃ (q o p : Addr) (n : Int) (r : List Str) (ch : List (List Str)) (L : Nat), vs = [.ref q, .ref o, .ref p] ∧ Wk K CW CS H q o p n (r :: ch) (r :: ch) ∧ n ≤ 3000000 ∧ Good L (r :: ch) ∧ L ≤ 60 ∧ ch.length ≤ 60 ∧
  ∀ (H' : Hp) (n' : Int) (r' : List Str) (ch' : List (List Str)), n' ≤ n + 20 → Wk K CW CS H' q o p n' (r' :: ch') (r' :: ch') → Good (L + 1) (r' :: ch') → ch'.length ≤ ch.length + 1 → Same (off [q, o, p] H) (off [q, o, p] H') → Q (.bl true) H'
theorem scDd : FnScope ["_law_purse_here", "_law_shop", "_law_past", "_law_rows", "_law_deed_here", "_law_most", "_law_spot", "_law_said", "_law_bad", "_law_told"] ["_law_purse_here", "_law_shop", "_law_past"] (defScope sDeed) := ⟨rfl, rfl, rfl, by decide +kernel, rfl, by decide +kernel, by decide +kernel⟩
def tDeeds : List Str := [zPut, zPut, zPut, zCut, zChg, zBack]
set_option maxHeartbeats 16000000 in
theorem ok_deed {f fT fM fR fB fD fI : Addr} {fd fdT fdM fdR fdB fdD fdI : FuncData} (F : Fun K "_law_deed" "_law_deed" sDeed f fd) (T : TxtS mg) (mm : mg "max" = none)
    (FT : Fun K "_law_take" "_law_take" sTake fT fdT) (bT : Binds K fdT ["_law_purse_here", "_law_many"] []) (gT : mg "_law_take" = some (.ref fT))
    (FM : Fun K "_law_mixed" "_law_mixed" sMixed fM fdM) (bM : Binds K fdM ["_law_cell", "_law_k"] []) (gM : mg "_law_mixed" = some (.ref fM))
    (GR : FnOk P w K mg base CX0 3 fR fdR ["_law_purse_here"] spLrow) (kR : PySem.W.keepIn K (.ref fR) = true) (bR : Binds K fdR ["_law_purse_here"] []) (gR : mg "_law_row" = some (.ref fR))
    (GB : FnOk P w K mg base CX0 3 fB fdB ["_law_purse_here"] spLbad) (kB : PySem.W.keepIn K (.ref fB) = true) (bB : Binds K fdB ["_law_purse_here"] []) (gB : mg "_law_bad_row" = some (.ref fB))
    (GD : FnOk P w K mg base CX0 5 fD fdD ["_law_shop", "_law_deed_here", "_law_spot", "_law_said"] (spDone K CW CS)) (kD : PySem.W.keepIn K (.ref fD) = true) (bD : Binds K fdD ["_law_shop", "_law_deed_here", "_law_spot", "_law_said"] []) (gD : mg "_law_done" = some (.ref fD))
    (GI : FnOk P w K mg base CX0 1 fI fdI ["_law_spot", "_law_most"] spIsp) (kI : PySem.W.keepIn K (.ref fI) = true) (bI : Binds K fdI ["_law_spot", "_law_most"] []) (gI : mg "_law_is_place" = some (.ref fI)) :
    FnOk P w K mg base CX0 6 f fd ["_law_purse_here", "_law_shop", "_law_past"] (spDeed K CW CS) := by
  have GT : FnOk P w K mg base CX0 2 fT fdT ["_law_purse_here", "_law_many"] spTake := ok_take FT FM bM gM
  refine F.ok scDd (fun vs H Q E h => ?_) (fun cdv A outer st H vs Q E hr h => ?_)
  · obtain ⟨q, o, p, n, r, ch, L, rfl, _⟩ := h
    rfl
  · obtain ⟨q, o, p, n, r, ch, L, rfl, W, hn, hg, hL, hc, k⟩ := h
    refine ⟨_, (pss_cons (ps_set (i := 3) scDd.nd rfl (.inl rfl) (pe_ix ix_list (pv 2) (pe_un un_neg pe_int) (fun _ _ => rfl))) (pss_cons (ps_set (i := 4) scDd.nd rfl (.inl rfl) (pe_ix ix_list (pe_lst (pa_cons pe_str (pa_cons pe_str (pa_cons pe_str (pa_cons pe_str (pa_cons pe_str (pa_cons pe_str pa_nil))))))) (pe_call GT (hr.mono (by decide)) rfl gT FT.kp bT .nil pass0 (pa_cons (pv 0) (pa_cons pe_int pa_nil))) (fun _ _ => rfl))) (pss_cons (ps_set (i := 5) scDd.nd rfl (.inl rfl) (pe_op op_add (pe_callB call_len (by rfl) T.len PySem.boot_len (pa_cons (pv 3) pa_nil)) (pe_callTy call_int1 (by rfl) T.int (by decide +kernel) (pa_cons (pe_cmpR op_eq (pv 4) pe_str (nomark _)) pa_nil)))) (pss_cons (ps_set (i := 6) scDd.nd rfl (.inl rfl) (pe_op op_add pe_int (pe_call GT (hr.mono (by decide)) rfl gT FT.kp bT .nil pass0 (pa_cons (pv 0) (pa_cons (pe_callB (call_max2 rfl) (by rfl) mm PyProof.Rows.boot_max (pa_cons pe_int (pa_cons (pv 5) pa_nil))) pa_nil))))) (C8.pss_cut (ps_if (pt_cmpR op_eq (pe_call GT (hr.mono (by decide)) rfl gT FT.kp bT .nil pass0 (pa_cons (pv 0) (pa_cons pe_int pa_nil))) pe_int (nomark _)) (pss_one (ps_set (i := 6) scDd.nd rfl (.inl rfl) (pe_ix ix_list (pe_lst (pa_cons pe_int (pa_cons (pe_un un_neg pe_int) (pa_cons (pe_op op_add (pv 5) pe_int) (pa_cons pe_bl (pa_cons pe_str (pa_cons pe_non (pa_cons (pe_op op_pow pe_int pe_int) (pa_cons (pe_op op_sub pe_int (pe_op op_pow pe_int pe_int)) pa_nil))))))))) (pe_call GT (hr.mono (by decide)) rfl gT FT.kp bT .nil pass0 (pa_cons (pv 0) (pa_cons pe_int pa_nil))) (fun _ _ => rfl)))) pss_nil) (pss_cons (ps_set (i := 7) scDd.nd rfl (.inl rfl) (pe_call GR (hr.mono (by decide)) rfl gR kR bR .nil pass0 (pa_cons (pv 0) pa_nil))) (pss_cons (ps_set (i := 8) scDd.nd rfl (.inl rfl) (pe_cmpR op_eq (pe_call GT (hr.mono (by decide)) rfl gT FT.kp bT .nil pass0 (pa_cons (pv 0) (pa_cons pe_int pa_nil))) pe_int (nomark _))) (C8.pss_cut (ps_if (pt_val (pv 8)) (pss_one (ps_set (i := 7) scDd.nd rfl (.inl rfl) (pe_call GB (hr.mono (by decide)) rfl gB kB bB .nil pass0 (pa_cons (pv 0) pa_nil)))) pss_nil) (pss_cons (ps_set (i := 9) scDd.nd rfl (.inl rfl) (pe_call GD (hr.mono (by decide)) rfl gD kD bD .nil pass0 (pa_cons (pv 1) (pa_cons (pv 4) (pa_cons (pv 6) (pa_cons (pv 7) pa_nil))))))
      (pss_cons (ps_if (pt_cmpR op_eq (pv 4) pe_str (nomark _)) (pss_cons (ps_if (pt_cmpR op_gt (pe_callB call_len (by rfl) T.len PySem.boot_len (pa_cons (pv 2) pa_nil)) pe_int (nomark _)) (pss_cons (ps_expr (pe_bm0 PySem.F.plainAttrs_list PySem.F.slot_list_pop PySem.F.type_list_pop mt_pop (pv 2)))
      (pss_one (ps_ret (pe_cmpR op_eq (pv 9) pe_str (nomark _))))) pss_nil)
      (pss_one (ps_ret (pe_cmpR op_eq (pv 9) pe_str (nomark _))))) pss_nil)
      (pss_cons (ps_if (pt_not (pt_val (pe_call GI (hr.mono (by decide)) rfl gI kI bI .nil pass0 (pa_cons (pv 6) (pa_cons (pv 5) pa_nil))))) (pss_one (ps_ret (pe_cmpR op_eq (pv 9) pe_str (nomark _)))) pss_nil)
      (pss_cons (ps_if (PW.pt (pw_and (pt_val (pv 8)) (pw_and1 (pt_cmpR op_ne (pv 4) pe_str (nomark _))))) (pss_one (ps_ret (pe_cmpR op_eq (pv 9) pe_str (nomark _)))) pss_nil)
      (pss_cons (ps_if (pt_cmpR op_eq (pv 4) pe_str (nomark _)) (pss_one (ps_expr (pe_bm PySem.F.plainAttrs_list PySem.F.slot_list_append PySem.F.type_list_append mt_append (pv 2) (pa_cons (pe_op op_cat (pe_op op_cat (pe_slice sl_list (pv 3) po_none (po_some (pe_op op_sub (pv 6) pe_int))) (pe_lst (pa_cons (pv 7) pa_nil))) (pe_slice sl_list (pv 3) (po_some (pe_op op_sub (pv 6) pe_int)) po_none)) pa_nil)))) pss_nil)
      (pss_cons (ps_if (pt_cmpR op_eq (pv 4) pe_str (nomark _)) (pss_one (ps_expr (pe_bm PySem.F.plainAttrs_list PySem.F.slot_list_append PySem.F.type_list_append mt_append (pv 2) (pa_cons (pe_op op_cat (pe_slice sl_list (pv 3) po_none (po_some (pe_op op_sub (pv 6) pe_int))) (pe_slice sl_list (pv 3) (po_some (pv 6)) po_none)) pa_nil)))) pss_nil)
      (pss_cons (ps_if (pt_cmpR op_eq (pv 4) pe_str (nomark _)) (pss_one (ps_expr (pe_bm PySem.F.plainAttrs_list PySem.F.slot_list_append PySem.F.type_list_append mt_append (pv 2) (pa_cons (pe_op op_cat (pe_op op_cat (pe_slice sl_list (pv 3) po_none (po_some (pe_op op_sub (pv 6) pe_int))) (pe_lst (pa_cons (pv 7) pa_nil))) (pe_slice sl_list (pv 3) (po_some (pv 6)) po_none)) pa_nil)))) pss_nil)
      (pss_one (ps_ret (pe_cmpR op_eq (pv 9) pe_str (nomark _))))))))))))))))))), ?_⟩
    obtain ⟨ys, hp, hy⟩ := W.past
    cases ys with
    | nil => exact (show False from hy).elim
    | cons y ys =>
    obtain ⟨⟨l, rfl, hl⟩, hy2⟩ := hy
    rw [List.reverse_cons] at hp
    have e1 : decide (V.int 0 = V.int 0) = true := rfl
    refine ⟨_, rfl, _, rfl, p, _, -1, .ref l, rfl, rfl, SqL.of hp, at_last, ?_⟩
    -- the deed
    refine ⟨by show 6 ≤ sizeLine; decide, fun t1 nt1 => ?_⟩
    have W1 := W.mono (Same.new nt1 (o := .lst (tDeeds.map V.str)))
    have s1 := off_mono (qs := [q, o, p]) (Same.new nt1 (o := .lst (tDeeds.map V.str)))
    refine ⟨_, rfl, q, 6, n, rfl, by decide, by decide, W1.pur, by omega, fun j1 n1 H1 hj1 hn1 pa1 b1 _ => ?_⟩
    have W2 := W1.take b1 pa1
    have s2 := s1.trans (off_but (mq (o := o) (p := p)) b1)
    have jl : j1 < (tDeeds.map V.str).length := by
      show j1 < 6
      omega
    have t1q : t1 ≠ q := fun e => out_new W.shop.there nt1 (by rw [e]; exact mq)
    refine ⟨t1, _, _, _, rfl, rfl, SqL.of (b1 t1 _ t1q upd_same), at_rows jl, ?_⟩
    obtain ⟨d, hd, hdm⟩ : ∃ d : Str, (tDeeds.map V.str)[j1] = .str d ∧ d ∈ tDeeds := ⟨tDeeds[j1]'(by rw [List.length_map] at jl; exact jl), by rw [List.getElem_map], List.getElem_mem _⟩
    show (fun v => _) ((tDeeds.map V.str)[j1])
    rw [hd]
    have l1 : SqL K H1 l (r.map V.str) := off_same.seq (s2.seq hl)
    refine ⟨_, rfl, _, _, rfl, .inl ⟨_, l1, rfl⟩, _, rfl, rfl, .inr ⟨decide (d = zPut), congrArg (fun b => [V.bl b]) str_eq, (r.length : Int), (if decide (d = zPut) = true then 1 else 0), by rw [List.length_map], rfl, ?_⟩⟩
    dsimp only [tAsg, gName, tSeq, List.set, L2.start]
    generalize hM : (r.length : Int) + (if decide (d = zPut) = true then 1 else 0) = M
    have hM2 : M = (r.length : Int) + (if d = zPut then 1 else 0) := by
      rw [← hM]
      by_cases c : d = zPut
      · rw [decide_eq_true c, if_pos rfl, if_pos c]
      · rw [decide_eq_false c, if_neg Bool.false_ne_true, if_neg c]
    have hr0 : r.length ≤ 60 := Nat.le_trans (hg r List.mem_cons_self).1 hL
    have hMb : 0 ≤ M ∧ M ≤ 61 := by
      rw [hM2]
      by_cases c : d = zPut
      · rw [if_pos c]
        omega
      · rw [if_neg c]
        omega
    refine ⟨_, rfl, _, rfl, _, _, rfl, q, _, n1, rfl, ?_, ?_, W2.pur, by omega, fun j2 n2 H2 hj2 hn2 pa2 b2 _ => ?_⟩
    · by_cases c : M > 1
      · rw [if_pos c]
        omega
      · rw [if_neg c]
        decide
    · by_cases c : M > 1
      · rw [if_pos c]
        omega
      · rw [if_neg c]
        decide
    have W3 := W2.take b2 pa2
    have s3 := s2.trans (off_but (mq (o := o) (p := p)) b2)
    refine ⟨_, _, rfl, rfl, ?_⟩
    refine ⟨fun σ' H' => ∃ (v : V) (n' : Int), σ' = [some (.ref q), some (.ref o), some (.ref p), some (.ref l), some (.str d), some (.int M), some v, none, none, none] ∧ (∀ H, Arg H v) ∧ Wk K CW CS H' q o p n' (r :: ch) (r :: ch) ∧ n' ≤ n + 8 ∧ Same (off [q, o, p] H) (off [q, o, p] H'), ?_, ?_⟩
    · refine ⟨_, rfl, q, 6, n2, rfl, by decide, by decide, W3.pur, by omega, fun j3 n3 H3 hj3 hn3 pa3 b3 _ => ?_⟩
      have W4 := W3.take b3 pa3
      have s4 := s3.trans (off_but (mq (o := o) (p := p)) b3)
      refine ⟨rfl, _, rfl, ?_⟩
      refine ite2 (fun _ => ?_) (fun _ => ?_)
      · refine ⟨_, rfl, _, rfl, _, _, rfl, rfl, _, _, rfl, rfl, ⟨by decide, by decide, by decide⟩, _, _, rfl, rfl, ⟨by decide, by decide, by decide⟩, _, _, rfl, rfl, ?_⟩
        refine ⟨by show 8 ≤ sizeLine; decide, fun t2 nt2 => ?_⟩
        have W5 := W4.mono (Same.new nt2 (o := .lst (tSpots M)))
        have s5 := s4.trans (off_mono (qs := [q, o, p]) (Same.new nt2 (o := .lst (tSpots M))))
        refine ⟨_, rfl, q, 8, n3, rfl, by decide, by decide, W5.pur, by omega, fun j4 n4 H4 hj4 hn4 pa4 b4 _ => ?_⟩
        have W6 := W5.take b4 pa4
        have s6 := s5.trans (off_but (mq (o := o) (p := p)) b4)
        have jl4 : j4 < (tSpots M).length := by
          show j4 < 8
          omega
        have t2q : t2 ≠ q := fun e => out_new W4.shop.there nt2 (by rw [e]; exact mq)
        refine ⟨t2, _, _, _, rfl, rfl, SqL.of (b4 t2 _ t2q upd_same), at_rows jl4, ?_⟩
        exact ⟨(tSpots M)[j4], n4, rfl, spots_arg M _ (List.getElem_mem _), W6, by omega, s6⟩
      · exact ⟨_, n3, rfl, fun _ => trivial, W4, by omega, s4⟩
    · rintro σ' H' ⟨v, n', rfl, av, W7, hn7, s7⟩
      refine ⟨_, rfl, q, n', rfl, W7.pur, by omega, fun z n8 H8 hz hn8 pa8 b8 => ?_⟩
      have W8 := W7.take b8 pa8
      have s8 := s7.trans (off_but (mq (o := o) (p := p)) b8)
      refine ⟨_, rfl, q, 8, n8, rfl, by decide, by decide, W8.pur, by omega, fun j9 n9 H9 hj9 hn9 pa9 b9 _ => ?_⟩
      have W9 := W8.take b9 pa9
      have s9 := s8.trans (off_but (mq (o := o) (p := p)) b9)
      refine ⟨rfl, ?_⟩
      generalize decide (V.int (j9 : Int) = V.int 0) = bad
      refine ⟨fun σ' H' => ∃ (u : V) (n' : Int), σ' = [some (.ref q), some (.ref o), some (.ref p), some (.ref l), some (.str d), some (.int M), some v, some u, some (.bl bad), none] ∧ Arg H' u ∧ (bad = false → ∃ z ∈ tRows, u = .str z) ∧ (bad = true → rowOk u = false) ∧
        Wk K CW CS H' q o p n' (r :: ch) (r :: ch) ∧ n' ≤ n + 12 ∧ Same (off [q, o, p] H) (off [q, o, p] H'), ?_, ?_⟩
      · refine ⟨_, rfl, _, rfl, ?_⟩
        cases bad with
        | true =>
          refine iteT ⟨_, rfl, q, n9, rfl, W9.pur, by omega, fun u n10 H10 au hu _ hn10 pa10 b10 => ?_⟩
          exact ⟨u, n10, rfl, au, fun e => Bool.noConfusion e, fun _ => hu, W9.take b10 pa10, by omega, s9.trans (off_but (mq (o := o) (p := p)) b10)⟩
        | false =>
          exact iteF ⟨.str z, n9, rfl, rows_arg hz, fun _ => ⟨z, hz, rfl⟩, fun e => Bool.noConfusion e, W9, by omega, s9⟩
      · rintro σ' H' ⟨u, n', rfl, au, hu1, hu2, W10, hn10, s10⟩
        refine ⟨_, rfl, _, rfl, _, rfl, _, rfl, [q, o, p], o, d, v, u, r, ch, rfl, W10.shop, av H', au, fun H11 b11 S11 => ?_⟩
        have W11 := W10.done b11 S11
        have s11 := s10.trans (off_but (mo (q := q) (p := p)) b11)
        have k' : ∀ (H' : Hp) (n' : Int) (r' : List Str) (ch' : List (List Str)), n' ≤ n + 20 → Wk K CW CS H' q o p n' (r' :: ch') (r' :: ch') → Good (L + 1) (r' :: ch') → ch'.length ≤ ch.length + 1 → Same (off [q, o, p] H) (off [q, o, p] H') → Q (.bl true) H' := k
        have gs : Good (L + 1) (r :: ch) := fun x hx => ⟨Nat.le_succ_of_le (hg x hx).1, (hg x hx).2⟩
        have l11 : SqL K H11 l (r.map V.str) := off_same.seq (s11.seq hl)
        obtain ⟨ys8, hp8, hy8⟩ := W11.past
        cases ys8 with
        | nil => exact (show False from hy8).elim
        | cons y8 ys8 =>
        obtain ⟨hy8a, hy8b⟩ := hy8
        rw [List.reverse_cons] at hp8
        have hd4 : d = zPut ∨ d = zCut ∨ d = zChg ∨ d = zBack := by
          simp only [tDeeds, List.mem_cons, List.not_mem_nil, or_false] at hdm
          rcases hdm with h | h | h | h | h | h
          · exact .inl h
          · exact .inl h
          · exact .inl h
          · exact .inr (.inl h)
          · exact .inr (.inr (.inl h))
          · exact .inr (.inr (.inr h))
        rcases hd4 with rfl | rfl | rfl | rfl
        · -- zPut
          have hM3 : M = (r.length : Int) + 1 := by rw [hM2, if_pos rfl]
          refine ⟨_, rfl, rfl, _, rfl, if_nstr (a := zPut) (b := zBack) (zne.2.2.1) ?_⟩
          refine ⟨_, rfl, _, rfl, v, M, rfl, av _, _, rfl, ?_⟩
          cases hpl : plOk v M with
          | false =>
            have st : step zPut v u (r :: ch) = (zPl, r :: ch) := by
              rw [hM3] at hpl
              rw [step_zPut, if_pos hpl]
            rw [st] at W11
            exact iteT ⟨_, rfl, rfl, bl_eq (congrArg Prod.fst st) (k' H11 n' r ch (by omega) W11 gs (by omega) s11)⟩
          | true =>
            refine iteF ⟨_, rfl, _, rfl, ?_⟩
            have hpl2 := hpl
            rw [hM3] at hpl2
            obtain ⟨i, rfl, i1, i2⟩ := plOk_int hpl
            have ei : i - 1 = (((i - 1).toNat : Nat) : Int) := by omega
            have ej : i = (((i - 1).toNat + 1 : Nat) : Int) := by omega
            cases bad with
            | true =>
              have okr := hu2 rfl
              have st : step zPut (.int i) u (r :: ch) = (zBr, r :: ch) := by
                rw [step_zPut, if_neg (by rw [hpl2]; exact fun z => Bool.noConfusion z), if_pos okr]
              rw [st] at W11
              refine iteT ⟨_, rfl, rfl, _, rfl, ?_⟩
              refine if_nn (a := zPut) (b := zCut) (zne.1) ?_
              exact ⟨_, rfl, rfl, bl_eq (congrArg Prod.fst st) (k' H11 n' r ch (by omega) W11 gs (by omega) s11)⟩
            | false =>
              obtain ⟨z, hz, rfl⟩ := hu1 rfl
              have okr := tRows_ok z hz
              have st : step zPut (.int i) (.str z) (r :: ch) = (zNo, (r.take (i - 1).toNat ++ [z] ++ r.drop (i - 1).toNat) :: r :: ch) := by
                rw [step_zPut, if_neg (by rw [hpl2]; exact fun z => Bool.noConfusion z), if_neg (by rw [okr]; exact fun z => Bool.noConfusion z), if_neg (by omega)]
                rfl
              rw [st] at W11
              refine iteF (iteF ?_)
              refine ⟨_, rfl, rfl, _, rfl, if_str (a := zPut) (b := zPut) rfl ?_⟩
              have il : (i - 1).toNat ≤ r.length := by omega
              refine ⟨_, rfl, .inl ⟨rfl, _, SqL.of hp8⟩, ?_⟩
              refine ⟨_, rfl, _, rfl, _, _, rfl, rfl, _, rfl, l, _, rfl, l11, fun p1 np1 => ?_⟩
              rw [cut_to ei]
              refine ⟨_, rfl, by show 1 ≤ sizeLine; decide, fun p2 np2 => ?_⟩
              have p12 : p1 ≠ p2 := ne_of_none upd_same np2
              have np2' : H11 p2 = none := by rwa [upd_ne p12.symm] at np2
              have sm2 := (Same.new np1 (o := .lst ((r.map V.str).take (i - 1).toNat))).trans (Same.new np2 (o := .lst [V.str z]))
              refine ⟨p1, p2, _, _, rfl, rfl, (by rw [upd_ne p12]; exact upd_same), upd_same, (by rw [sizeLine_eq, List.length_take, List.length_map, List.length_singleton]; omega), fun p3 np3 => ?_⟩
              have sm3 := sm2.trans (Same.new np3 (o := .lst ((r.map V.str).take (i - 1).toNat ++ [V.str z])))
              refine ⟨_, rfl, _, rfl, _, _, rfl, rfl, _, rfl, l, _, rfl, sm3.seq l11, fun p4 np4 => ?_⟩
              rw [cut_from ei]
              have p34 : p3 ≠ p4 := ne_of_none upd_same np4
              have sm4 := sm3.trans (Same.new np4 (o := .lst ((r.map V.str).drop (i - 1).toNat)))
              refine ⟨p3, p4, _, _, rfl, rfl, (by rw [upd_ne p34]; exact upd_same), upd_same, (by rw [sizeLine_eq]; simp only [List.length_append, List.length_take, List.length_drop, List.length_map, List.length_singleton]; omega), fun p5 np5 => ?_⟩
              have sm5 := sm4.trans (Same.new np5 (o := .lst ((r.map V.str).take (i - 1).toNat ++ [V.str z] ++ (r.map V.str).drop (i - 1).toNat)))
              refine ⟨p, _, _, rfl, rfl, sm5 _ _ hp8, (by rw [List.length_append, List.length_reverse, List.length_singleton, sizeLine_eq, show ys8.length = ch.length from PastOk.len hy8b]; omega), ?_⟩
              have q5 : p5 ∉ [q, o, p] := out_new (W11.mono sm4).shop.there np5
              have W12 := (W11.mono sm5).setp (ys := .ref p5 :: y8 :: ys8) (pst' := (r.take (i - 1).toNat ++ [z] ++ r.drop (i - 1).toNat) :: r :: ch) ⟨⟨p5, rfl, SqL.of (by rw [off_at q5, upd_same, map_put])⟩, PastOk.mono (off_mono sm5) (show PastOk K _ (y8 :: ys8) (r :: ch) from ⟨hy8a, hy8b⟩)⟩
              rw [List.reverse_cons, List.reverse_cons] at W12
              refine ⟨_, rfl, rfl, _, rfl, if_nstr (a := zPut) (b := zCut) (zne.1) ?_⟩
              refine ⟨_, rfl, rfl, _, rfl, if_nstr (a := zPut) (b := zChg) (zne.2.1) ?_⟩
              refine ⟨_, rfl, rfl, bl_eq (congrArg Prod.fst st) (k' _ n' _ (r :: ch) (by omega) W12 ?_ (by simp) ?_)⟩
              · exact good_zPut hg hz
              · rw [off_updIn mp]
                exact s11.trans (off_mono sm5)
        · -- zCut
          have hM3 : M = (r.length : Int) := by rw [hM2, if_neg (zne.1.symm), Int.add_zero]
          refine ⟨_, rfl, rfl, _, rfl, if_nstr (a := zCut) (b := zBack) (zne.2.2.2.2.1) ?_⟩
          refine ⟨_, rfl, _, rfl, v, M, rfl, av _, _, rfl, ?_⟩
          cases hpl : plOk v M with
          | false =>
            have st : step zCut v u (r :: ch) = (zPl, r :: ch) := by
              rw [hM3] at hpl
              rw [step_zCut, if_pos hpl]
            rw [st] at W11
            exact iteT ⟨_, rfl, rfl, bl_eq (congrArg Prod.fst st) (k' H11 n' r ch (by omega) W11 gs (by omega) s11)⟩
          | true =>
            refine iteF ⟨_, rfl, _, rfl, ?_⟩
            have hpl2 := hpl
            rw [hM3] at hpl2
            obtain ⟨i, rfl, i1, i2⟩ := plOk_int hpl
            have ei : i - 1 = (((i - 1).toNat : Nat) : Int) := by omega
            have ej : i = (((i - 1).toNat + 1 : Nat) : Int) := by omega
            have st : step zCut (.int i) u (r :: ch) = (zNo, (r.eraseIdx (i - 1).toNat) :: r :: ch) := by
              rw [step_zCut, if_neg (by rw [hpl2]; exact fun z => Bool.noConfusion z)]
              rfl
            rw [st] at W11
            cases bad with
            | true => 
              refine iteT ⟨_, rfl, rfl, _, rfl, if_nn2 (a := zCut) (b := zCut) rfl ?_⟩
              refine iteF (A := False) ?_
              refine ⟨_, rfl, rfl, _, rfl, if_nstr (a := zCut) (b := zPut) (zne.1.symm) ?_⟩
              refine ⟨_, rfl, rfl, _, rfl, if_str (a := zCut) (b := zCut) rfl ?_⟩
              have il : (i - 1).toNat ≤ r.length := by omega
              refine ⟨_, rfl, .inl ⟨rfl, _, SqL.of hp8⟩, ?_⟩
              refine ⟨_, rfl, _, rfl, _, _, rfl, rfl, _, rfl, l, _, rfl, l11, fun p1 np1 => ?_⟩
              rw [cut_to ei]
              have sm3 := (Same.new np1 (o := .lst ((r.map V.str).take (i - 1).toNat)))
              refine ⟨_, rfl, _, rfl, _, rfl, l, _, rfl, sm3.seq l11, fun p4 np4 => ?_⟩
              rw [cut_from ej]
              have p34 : p1 ≠ p4 := ne_of_none upd_same np4
              have sm4 := sm3.trans (Same.new np4 (o := .lst ((r.map V.str).drop ((i - 1).toNat + 1))))
              refine ⟨p1, p4, _, _, rfl, rfl, (by rw [upd_ne p34]; exact upd_same), upd_same, (by rw [sizeLine_eq]; simp only [List.length_take, List.length_drop, List.length_map]; omega), fun p5 np5 => ?_⟩
              have sm5 := sm4.trans (Same.new np5 (o := .lst ((r.map V.str).take (i - 1).toNat ++ (r.map V.str).drop ((i - 1).toNat + 1))))
              refine ⟨p, _, _, rfl, rfl, sm5 _ _ hp8, (by rw [List.length_append, List.length_reverse, List.length_singleton, sizeLine_eq, show ys8.length = ch.length from PastOk.len hy8b]; omega), ?_⟩
              have q5 : p5 ∉ [q, o, p] := out_new (W11.mono sm4).shop.there np5
              have W12 := (W11.mono sm5).setp (ys := .ref p5 :: y8 :: ys8) (pst' := (r.eraseIdx (i - 1).toNat) :: r :: ch) ⟨⟨p5, rfl, SqL.of (by rw [off_at q5, upd_same, map_cut])⟩, PastOk.mono (off_mono sm5) (show PastOk K _ (y8 :: ys8) (r :: ch) from ⟨hy8a, hy8b⟩)⟩
              rw [List.reverse_cons, List.reverse_cons] at W12
              refine ⟨_, rfl, rfl, _, rfl, if_nstr (a := zCut) (b := zChg) (zne.2.2.2.1) ?_⟩
              refine ⟨_, rfl, rfl, bl_eq (congrArg Prod.fst st) (k' _ n' _ (r :: ch) (by omega) W12 ?_ (by simp) ?_)⟩
              · exact good_zCut hg 
              · rw [off_updIn mp]
                exact s11.trans (off_mono sm5)
            | false =>
              refine iteF (iteF ?_)
              refine ⟨_, rfl, rfl, _, rfl, if_nstr (a := zCut) (b := zPut) (zne.1.symm) ?_⟩
              refine ⟨_, rfl, rfl, _, rfl, if_str (a := zCut) (b := zCut) rfl ?_⟩
              have il : (i - 1).toNat ≤ r.length := by omega
              refine ⟨_, rfl, .inl ⟨rfl, _, SqL.of hp8⟩, ?_⟩
              refine ⟨_, rfl, _, rfl, _, _, rfl, rfl, _, rfl, l, _, rfl, l11, fun p1 np1 => ?_⟩
              rw [cut_to ei]
              have sm3 := (Same.new np1 (o := .lst ((r.map V.str).take (i - 1).toNat)))
              refine ⟨_, rfl, _, rfl, _, rfl, l, _, rfl, sm3.seq l11, fun p4 np4 => ?_⟩
              rw [cut_from ej]
              have p34 : p1 ≠ p4 := ne_of_none upd_same np4
              have sm4 := sm3.trans (Same.new np4 (o := .lst ((r.map V.str).drop ((i - 1).toNat + 1))))
              refine ⟨p1, p4, _, _, rfl, rfl, (by rw [upd_ne p34]; exact upd_same), upd_same, (by rw [sizeLine_eq]; simp only [List.length_take, List.length_drop, List.length_map]; omega), fun p5 np5 => ?_⟩
              have sm5 := sm4.trans (Same.new np5 (o := .lst ((r.map V.str).take (i - 1).toNat ++ (r.map V.str).drop ((i - 1).toNat + 1))))
              refine ⟨p, _, _, rfl, rfl, sm5 _ _ hp8, (by rw [List.length_append, List.length_reverse, List.length_singleton, sizeLine_eq, show ys8.length = ch.length from PastOk.len hy8b]; omega), ?_⟩
              have q5 : p5 ∉ [q, o, p] := out_new (W11.mono sm4).shop.there np5
              have W12 := (W11.mono sm5).setp (ys := .ref p5 :: y8 :: ys8) (pst' := (r.eraseIdx (i - 1).toNat) :: r :: ch) ⟨⟨p5, rfl, SqL.of (by rw [off_at q5, upd_same, map_cut])⟩, PastOk.mono (off_mono sm5) (show PastOk K _ (y8 :: ys8) (r :: ch) from ⟨hy8a, hy8b⟩)⟩
              rw [List.reverse_cons, List.reverse_cons] at W12
              refine ⟨_, rfl, rfl, _, rfl, if_nstr (a := zCut) (b := zChg) (zne.2.2.2.1) ?_⟩
              refine ⟨_, rfl, rfl, bl_eq (congrArg Prod.fst st) (k' _ n' _ (r :: ch) (by omega) W12 ?_ (by simp) ?_)⟩
              · exact good_zCut hg 
              · rw [off_updIn mp]
                exact s11.trans (off_mono sm5)
        · -- zChg
          have hM3 : M = (r.length : Int) := by rw [hM2, if_neg (zne.2.1.symm), Int.add_zero]
          refine ⟨_, rfl, rfl, _, rfl, if_nstr (a := zChg) (b := zBack) (zne.2.2.2.2.2) ?_⟩
          refine ⟨_, rfl, _, rfl, v, M, rfl, av _, _, rfl, ?_⟩
          cases hpl : plOk v M with
          | false =>
            have st : step zChg v u (r :: ch) = (zPl, r :: ch) := by
              rw [hM3] at hpl
              rw [step_zChg, if_pos hpl]
            rw [st] at W11
            exact iteT ⟨_, rfl, rfl, bl_eq (congrArg Prod.fst st) (k' H11 n' r ch (by omega) W11 gs (by omega) s11)⟩
          | true =>
            refine iteF ⟨_, rfl, _, rfl, ?_⟩
            have hpl2 := hpl
            rw [hM3] at hpl2
            obtain ⟨i, rfl, i1, i2⟩ := plOk_int hpl
            have ei : i - 1 = (((i - 1).toNat : Nat) : Int) := by omega
            have ej : i = (((i - 1).toNat + 1 : Nat) : Int) := by omega
            cases bad with
            | true =>
              have okr := hu2 rfl
              have st : step zChg (.int i) u (r :: ch) = (zBr, r :: ch) := by
                rw [step_zChg, if_neg (by rw [hpl2]; exact fun z => Bool.noConfusion z), if_pos okr]
              rw [st] at W11
              refine iteT ⟨_, rfl, rfl, _, rfl, ?_⟩
              refine if_nn (a := zChg) (b := zCut) (zne.2.2.2.1.symm) ?_
              exact ⟨_, rfl, rfl, bl_eq (congrArg Prod.fst st) (k' H11 n' r ch (by omega) W11 gs (by omega) s11)⟩
            | false =>
              obtain ⟨z, hz, rfl⟩ := hu1 rfl
              have okr := tRows_ok z hz
              have st : step zChg (.int i) (.str z) (r :: ch) = (zNo, (r.set (i - 1).toNat z) :: r :: ch) := by
                rw [step_zChg, if_neg (by rw [hpl2]; exact fun z => Bool.noConfusion z), if_neg (by rw [okr]; exact fun z => Bool.noConfusion z)]
                rfl
              rw [st] at W11
              refine iteF (iteF ?_)
              refine ⟨_, rfl, rfl, _, rfl, if_nstr (a := zChg) (b := zPut) (zne.2.1.symm) ?_⟩
              refine ⟨_, rfl, rfl, _, rfl, if_nstr (a := zChg) (b := zCut) (zne.2.2.2.1.symm) ?_⟩
              refine ⟨_, rfl, rfl, _, rfl, if_str (a := zChg) (b := zChg) rfl ?_⟩
              have il : (i - 1).toNat ≤ r.length := by omega
              refine ⟨_, rfl, .inl ⟨rfl, _, SqL.of hp8⟩, ?_⟩
              refine ⟨_, rfl, _, rfl, _, _, rfl, rfl, _, rfl, l, _, rfl, l11, fun p1 np1 => ?_⟩
              rw [cut_to ei]
              refine ⟨_, rfl, by show 1 ≤ sizeLine; decide, fun p2 np2 => ?_⟩
              have p12 : p1 ≠ p2 := ne_of_none upd_same np2
              have np2' : H11 p2 = none := by rwa [upd_ne p12.symm] at np2
              have sm2 := (Same.new np1 (o := .lst ((r.map V.str).take (i - 1).toNat))).trans (Same.new np2 (o := .lst [V.str z]))
              refine ⟨p1, p2, _, _, rfl, rfl, (by rw [upd_ne p12]; exact upd_same), upd_same, (by rw [sizeLine_eq, List.length_take, List.length_map, List.length_singleton]; omega), fun p3 np3 => ?_⟩
              have sm3 := sm2.trans (Same.new np3 (o := .lst ((r.map V.str).take (i - 1).toNat ++ [V.str z])))
              refine ⟨_, rfl, _, rfl, _, rfl, l, _, rfl, sm3.seq l11, fun p4 np4 => ?_⟩
              rw [cut_from ej]
              have p34 : p3 ≠ p4 := ne_of_none upd_same np4
              have sm4 := sm3.trans (Same.new np4 (o := .lst ((r.map V.str).drop ((i - 1).toNat + 1))))
              refine ⟨p3, p4, _, _, rfl, rfl, (by rw [upd_ne p34]; exact upd_same), upd_same, (by rw [sizeLine_eq]; simp only [List.length_append, List.length_take, List.length_drop, List.length_map, List.length_singleton]; omega), fun p5 np5 => ?_⟩
              have sm5 := sm4.trans (Same.new np5 (o := .lst ((r.map V.str).take (i - 1).toNat ++ [V.str z] ++ (r.map V.str).drop ((i - 1).toNat + 1))))
              refine ⟨p, _, _, rfl, rfl, sm5 _ _ hp8, (by rw [List.length_append, List.length_reverse, List.length_singleton, sizeLine_eq, show ys8.length = ch.length from PastOk.len hy8b]; omega), ?_⟩
              have q5 : p5 ∉ [q, o, p] := out_new (W11.mono sm4).shop.there np5
              have W12 := (W11.mono sm5).setp (ys := .ref p5 :: y8 :: ys8) (pst' := (r.set (i - 1).toNat z) :: r :: ch) ⟨⟨p5, rfl, SqL.of (by rw [off_at q5, upd_same, map_chg (by omega)])⟩, PastOk.mono (off_mono sm5) (show PastOk K _ (y8 :: ys8) (r :: ch) from ⟨hy8a, hy8b⟩)⟩
              rw [List.reverse_cons, List.reverse_cons] at W12
              refine ⟨_, rfl, rfl, bl_eq (congrArg Prod.fst st) (k' _ n' _ (r :: ch) (by omega) W12 ?_ (by simp) ?_)⟩
              · exact good_zChg hg hz
              · rw [off_updIn mp]
                exact s11.trans (off_mono sm5)
        · -- back
          refine ⟨_, rfl, rfl, _, rfl, if_str (a := zBack) (b := zBack) rfl ?_⟩
          refine ⟨_, rfl, _, _, rfl, .inl ⟨_, SqL.of hp8, rfl⟩, _, _, rfl, rfl, _, rfl, ?_⟩
          cases ch with
          | nil =>
            have e8 : ys8 = [] := List.length_eq_zero_iff.mp (PastOk.len hy8b)
            subst e8
            have st : step zBack v u [r] = (zNb, [r]) := by
              rw [step_eq, if_neg zne.2.2.1.symm, if_neg zne.2.2.2.2.1.symm, if_neg zne.2.2.2.2.2.symm]
            rw [st] at W11
            refine if_false_of rfl ⟨_, rfl, rfl, ?_⟩
            exact bl_eq (congrArg Prod.fst st) (k' H11 n' r [] (by omega) W11 gs (by simp) s11)
          | cons r1 rs =>
            have st : step zBack v u (r :: r1 :: rs) = (zNo, r1 :: rs) := by
              rw [step_eq, if_neg zne.2.2.1.symm, if_neg zne.2.2.2.2.1.symm, if_neg zne.2.2.2.2.2.symm]
            rw [st] at W11
            have len8 : ys8.length = rs.length + 1 := PastOk.len hy8b
            refine if_true_of (decide_eq_true (by rw [List.length_append, List.length_reverse, List.length_singleton]; omega)) ?_
            refine ⟨_, rfl, .inl ⟨rfl, _, SqL.of hp8⟩, p, _, y8, rfl, rfl, hp8, by simp, ?_⟩
            rw [List.dropLast_concat]
            have W12 := W11.setp hy8b
            refine ⟨_, rfl, rfl, bl_eq (congrArg Prod.fst st) (k' _ n' r1 rs (by omega) W12 (fun x hx => gs x (List.mem_cons_of_mem _ hx)) (by simp; omega) ?_)⟩
            rw [off_updIn mp]
            exact s11
end
end S8

set_option Elab.async false
set_option maxRecDepth 100000
/-! the law's full workshop -/
namespace S8
open PySem PySem.Spec PyProof.Rows L2 Hx Xr P01 G01 W8 Ex
/-! ### a def that lets nothing out -/
theorem calm8 {P : Program} {w : World} {K : PySem.W.Frag} {mg : Str → Option Value} {base : Heap} {k : Nat} {f : Addr} {fd : FuncData} {ps : List Str} {sp sp' : Sp} (F : FnOk P w K mg base (L2.CX P w) k f fd ps sp)
    (h : ∀ vs H Q E, sp' vs H Q E → sp vs H Q (fun _ _ _ => False)) : FnOk P w K mg base CX0 k f fd ps sp' :=
  ⟨fun vs H Q E q => F.len vs H Q _ (h _ _ _ _ q), fun A outer s H args us vs Q E hr he hb hv hs => codeAny_mono (F.run A outer s H args us vs Q _ hr he hb hv (h _ _ _ _ hs)) fun r s' hc => by
    match r, hc with
    | .ok (.ret u), hc => exact hc
    | .error e, ⟨a, B, H', cls, d, _, _, _, _, _, _, _, z⟩ => exact z.elim⟩
def spPutC (K : PySem.W.Frag) (CW CS : Addr) : Sp := fun vs H Q _ => ∃ (qs : List Addr) (o : Addr) (r : List Str) (ch : List (List Str)) (i : Int) (z : Str), vs = [.ref o, .int i, .str z] ∧ Sh K CW CS H qs o (r :: ch) ∧ plOk (.int i) ((r.length : Int) + 1) = true ∧ rowOk (.str z) = true ∧ r.length < 120 ∧
  ∀ H', But o H H' → Sh K CW CS H' qs o ((r.take (i - 1).toNat ++ [z] ++ r.drop (i - 1).toNat) :: r :: ch) → Q .non H'
def spChangeC (K : PySem.W.Frag) (CW CS : Addr) : Sp := fun vs H Q _ => ∃ (qs : List Addr) (o : Addr) (r : List Str) (ch : List (List Str)) (i : Int) (z : Str), vs = [.ref o, .int i, .str z] ∧ Sh K CW CS H qs o (r :: ch) ∧ plOk (.int i) (r.length : Int) = true ∧ rowOk (.str z) = true ∧
  ∀ H', But o H H' → Sh K CW CS H' qs o (r.set (i - 1).toNat z :: r :: ch) → Q .non H'
def spCutC (K : PySem.W.Frag) (CW CS : Addr) : Sp := fun vs H Q _ => ∃ (qs : List Addr) (o : Addr) (r : List Str) (ch : List (List Str)) (i : Int), vs = [.ref o, .int i] ∧ Sh K CW CS H qs o (r :: ch) ∧ plOk (.int i) (r.length : Int) = true ∧
  ∀ H', But o H H' → Sh K CW CS H' qs o (r.eraseIdx (i - 1).toNat :: r :: ch) → Q .non H'
theorem row_arg {z : Str} (h : rowOk (.str z) = true) {H : Hp} : Arg H (.str z) := by
  obtain ⟨z', e, hl⟩ := rowOk_str h
  injection e with e
  subst e
  show z.length ≤ 1000
  omega
section
variable {P : Program} {w : World} {K : PySem.W.Frag} {mg : Str → Option Value} {base : Heap} {CW CS CP CB CM : Addr}
theorem calm_put {f : Addr} {fd : FuncData} (G : FnOk P w K mg base (L2.CX P w) 4 f fd ["self", "at", "row"] (spPut K CW CS CP CB CM)) : FnOk P w K mg base CX0 4 f fd ["self", "at", "row"] (spPutC K CW CS) :=
  calm8 G fun vs H Q E h => by
    obtain ⟨qs, o, r, ch, i, z, rfl, S, h1, h2, h3, q⟩ := h
    exact ⟨qs, o, r, ch, .int i, .str z, rfl, S, trivial, row_arg h2, (fun e => by rw [h1] at e; cases e), (fun _ e => by rw [h2] at e; cases e), (fun _ _ e => absurd h3 (by omega)), fun i' z' e1 e2 _ _ _ H' hb hS => by
      injection e1 with e1
      injection e2 with e2
      subst e1 e2
      exact q H' hb hS⟩
theorem calm_change {f : Addr} {fd : FuncData} (G : FnOk P w K mg base (L2.CX P w) 4 f fd ["self", "at", "row"] (spChange K CW CS CP CB)) : FnOk P w K mg base CX0 4 f fd ["self", "at", "row"] (spChangeC K CW CS) :=
  calm8 G fun vs H Q E h => by
    obtain ⟨qs, o, r, ch, i, z, rfl, S, h1, h2, q⟩ := h
    exact ⟨qs, o, r, ch, .int i, .str z, rfl, S, trivial, row_arg h2, (fun e => by rw [h1] at e; cases e), (fun _ e => by rw [h2] at e; cases e), fun i' z' e1 e2 _ _ H' hb hS => by
      injection e1 with e1
      injection e2 with e2
      subst e1 e2
      exact q H' hb hS⟩
theorem calm_cut {f : Addr} {fd : FuncData} (G : FnOk P w K mg base (L2.CX P w) 4 f fd ["self", "at"] (spCut K CW CS CP)) : FnOk P w K mg base CX0 4 f fd ["self", "at"] (spCutC K CW CS) :=
  calm8 G fun vs H Q E h => by
    obtain ⟨qs, o, r, ch, i, rfl, S, h1, q⟩ := h
    exact ⟨qs, o, r, ch, .int i, rfl, S, trivial, (fun e => by rw [h1] at e; cases e), fun i' e1 _ H' hb hS => by
      injection e1 with e1
      subst e1
      exact q H' hb hS⟩
end
/-! ### texts compared -/
theorem strs_allS {K : PySem.W.Frag} {H : Hp} : ∀ r : List Str, DpAll K H (r.map V.str) (r.map PyData.str)
  | [] => .nil
  | z :: r => .cons (.str _) (strs_allS r)
theorem shaped_S {r : List Str} (h : ∀ z ∈ r, PyData.strOk z = true) : SeqAt.shaped (.list (r.map PyData.str)) = true := by
  have key : ∀ r : List Str, (∀ z ∈ r, PyData.strOk z = true) → PyData.canLayAll0 (r.map PyData.str) = true ∧ PyData.depthAll (r.map PyData.str) ≤ 0 := by
    intro r
    induction r with
    | nil => intro _; exact ⟨rfl, by simp [PyData.depthAll]⟩
    | cons z r ih =>
      intro h
      obtain ⟨i1, i2⟩ := ih fun x hx => h x (List.mem_cons_of_mem _ hx)
      have e1 : PyData.strOk z = true := h z List.mem_cons_self
      refine ⟨?_, ?_⟩
      · simp [PyData.canLay0, PyData.canLayAll0, e1]
        simpa using i1
      · simp [PyData.depth, PyData.depthAll]
        simpa using i2
  obtain ⟨k1, k2⟩ := key r h
  unfold SeqAt.shaped
  rw [Bool.and_eq_true]
  refine ⟨by simpa [PyData.canLay0] using k1, decide_eq_true ?_⟩
  simp only [PyData.depth]
  omega
theorem eqv_self8 {d : PyData} (h : SeqAt.shaped d = true) : PyData.eqv d d = true := SeqAt.eqv_refl d (SeqAt.canLay_of_shaped h)
theorem Sh.addq {K : PySem.W.Frag} {CW CS : Addr} {H : Hp} {qs : List Addr} {o D : Addr} {ch : List (List Str)} {ob : HO} (S : Sh K CW CS H qs o ch) (n : H D = none) : Sh K CW CS (upd H D ob) (D :: qs) o ch := by
  obtain ⟨dx, v, h1, h2⟩ := S.obj
  have e : off (D :: qs) (upd H D ob) = off qs H := by
    funext b
    by_cases c : b = D
    · rw [c, off_in List.mem_cons_self]
      by_cases d : D ∈ qs
      · rw [off_in d]
      · rw [off_at d, n]
    · by_cases d : b ∈ qs
      · rw [off_in d, off_in (List.mem_cons_of_mem _ d)]
      · rw [off_at d, off_at (fun m => (List.mem_cons.mp m).elim c d), upd_ne c]
  refine ⟨List.mem_cons_of_mem _ S.mem, fun b hb => ?_, dx, v, by rw [upd_ne (ne_of_none h1 n)]; exact h1, by rw [e]; exact h2⟩
  by_cases c : b = D
  · rw [c, upd_same]
    exact fun z => by cases z
  · rw [upd_ne c]
    rcases List.mem_cons.mp hb with e | hb
    · exact (c e).elim
    · exact S.there b hb
theorem Sh.updq {K : PySem.W.Frag} {CW CS : Addr} {H : Hp} {qs : List Addr} {o D : Addr} {ch : List (List Str)} {ob : HO} (S : Sh K CW CS H qs o ch) (m : D ∈ qs) (n : D ≠ o) : Sh K CW CS (upd H D ob) qs o ch := by
  obtain ⟨dx, v, h1, h2⟩ := S.obj
  refine ⟨S.mem, fun b hb => ?_, dx, v, by rw [upd_ne n.symm]; exact h1, by rw [off_updIn m]; exact h2⟩
  by_cases c : b = D
  · rw [c, upd_same]
    exact fun z => by cases z
  · rw [upd_ne c]
    exact S.there b hb
theorem Sh.butq {K : PySem.W.Frag} {CW CS : Addr} {H H' : Hp} {qs : List Addr} {o q : Addr} {ch : List (List Str)} (S : Sh K CW CS H qs o ch) (b : But q H H') (hq : H' q ≠ none) (m : q ∈ qs) (n : q ≠ o) : Sh K CW CS H' qs o ch := by
  obtain ⟨dx, v, h1, h2⟩ := S.obj
  exact ⟨S.mem, there_but S.there b hq, dx, v, b _ _ n.symm h1, h2.mono (off_but m b)⟩
def res4 : List Str := [zTm, zTm, zPl, zBr]
def three : List Str := ["", "f = 0", "-- x"]
theorem three_ok : ∀ z ∈ three, rowOk (.str z) = true ∧ PyData.strOk z = true := by decide +kernel
theorem tRows_str : ∀ z ∈ tRows, PyData.strOk z = true := by decide +kernel
section
variable {P : Program} {w : World} {K : PySem.W.Frag} {mg : Str → Option Value} {base : Heap} {CW CS : Addr}
abbrev sFull : Stmt := top 236
abbrev fullN : List Str := ["_law_purse_here", "_law_shop", "_law_k", "_law_rows", "_law_told", "_law_spot", "_law_said"]
def spFull : Sp := fun vs H Q _ => ∃ (q : Addr) (n : Int), vs = [.ref q] ∧ PurseAt H q n ∧ n ≤ 3000000 ∧ ∀ (H' : Hp) (n' : Int), But q H H' → PurseAt H' q n' → n' ≤ n + 1 → Q (.bl true) H'
theorem scFu : FnScope fullN ["_law_purse_here"] (defScope sFull) := ⟨rfl, rfl, rfl, by decide +kernel, rfl, by decide +kernel, by decide +kernel⟩
set_option maxHeartbeats 16000000 in
theorem ok_full {f fT fM fW fP fH fC fO fD : Addr} {fd fdT fdM fdW fdP fdH fdC fdO fdD : FuncData} (F : Fun K "_law_full_right" "_law_full_right" sFull f fd) (T : TxtS mg) (TW : TxtW K mg CW CS) (M : L2.Mk K CW fW) (gW : mg "Workshop" = some (.ref CW))
    (FT : Fun K "_law_take" "_law_take" sTake fT fdT) (bT : Binds K fdT ["_law_purse_here", "_law_many"] []) (gT : mg "_law_take" = some (.ref fT))
    (FM : Fun K "_law_mixed" "_law_mixed" sMixed fM fdM) (bM : Binds K fdM ["_law_cell", "_law_k"] []) (gM : mg "_law_mixed" = some (.ref fM))
    (GW : FnOk P w K mg base CX0 3 fW fdW ["self"] (spWInit K CW CS)) (bW : Binds K fdW ["self"] [])
    (GP : FnOk P w K mg base CX0 4 fP fdP ["self", "at", "row"] (spPutC K CW CS)) (bP : Binds K fdP ["self", "at", "row"] []) (mP : Meth K CW "put" fP)
    (GH : FnOk P w K mg base CX0 4 fH fdH ["self", "at", "row"] (spChangeC K CW CS)) (bH : Binds K fdH ["self", "at", "row"] []) (mH : Meth K CW "change" fH)
    (GC : FnOk P w K mg base CX0 4 fC fdC ["self", "at"] (spCutC K CW CS)) (bC : Binds K fdC ["self", "at"] []) (mC : Meth K CW "cut" fC)
    (GO : FnOk P w K mg base CX0 1 fO fdO ["self"] (spRows K CW CS)) (bO : Binds K fdO ["self"] []) (mO : Meth K CW "rows" fO)
    (GD : FnOk P w K mg base CX0 5 fD fdD ["_law_shop", "_law_deed_here", "_law_spot", "_law_said"] (spDone K CW CS)) (kD : PySem.W.keepIn K (.ref fD) = true) (bD : Binds K fdD ["_law_shop", "_law_deed_here", "_law_spot", "_law_said"] []) (gD : mg "_law_done" = some (.ref fD)) :
    FnOk P w K mg base CX0 6 f fd ["_law_purse_here"] spFull := by
  have GT : FnOk P w K mg base CX0 2 fT fdT ["_law_purse_here", "_law_many"] spTake := ok_take FT FM bM gM
  refine F.ok scFu (fun vs H Q E h => ?_) (fun cdv A outer st H vs Q E hr h => ?_)
  · obtain ⟨q, n, rfl, _⟩ := h
    rfl
  · obtain ⟨q, n, rfl, pa, hn, k⟩ := h
    refine ⟨_, (pss_cons (ps_set (i := 1) scFu.nd rfl (.inr rfl) (pe_make0 M GW (hr.mono (by decide)) rfl gW bW .nil pass0))
      (pss_cons (ps_for PassesOwn.never rfl (pi_range1 rfl T.range (pa_cons pe_int pa_nil)) (pg_name (i := 2) scFu.nd rfl (.inl rfl)) (pss_one (ps_expr (pe_meth (pv 1) TW.clW mP GP (hr.mono (by decide)) bP .nil pass0 (pa_cons (pe_op op_add (pv 2) pe_int) (pa_cons (pe_ix ix_list (pe_lst (pa_cons pe_str (pa_cons pe_str (pa_cons pe_str pa_nil)))) (pe_op op_add (pe_callTy call_int1 (by rfl) T.int (by decide +kernel) (pa_cons (pe_cmpR op_eq (pv 2) pe_int (nomark _)) pa_nil)) (pe_op op_mul pe_int (pe_callTy call_int1 (by rfl) T.int (by decide +kernel) (pa_cons (pe_cmpR op_eq (pe_op op_mod (pv 2) pe_int) pe_int (nomark _)) pa_nil)))) (fun _ _ => rfl)) pa_nil))))))
      (pss_cons (ps_set (i := 3) scFu.nd rfl (.inl rfl) (pe_meth0 (pv 1) TW.clW mO GO (hr.mono (by decide)) bO .nil pass0))
      (pss_cons (ps_setLc (i := 4) (own := [("_law_spot", 5), ("_law_said", 6)]) (g := gTup K 2 (gCons (gName 5) (gCons (gName 6) gNil))) (tt := tYes) rfl scFu.nd rfl rfl (sw_true rfl rfl rfl (by decide +kernel)) (pi_list (pe_lst (pa_cons (pe_tup (pa_cons pe_int (pa_cons pe_str pa_nil))) (pa_cons (pe_tup (pa_cons pe_int (pa_cons pe_str pa_nil))) (pa_cons (pe_tup (pa_cons pe_int (pa_cons pe_str pa_nil))) (pa_cons (pe_tup (pa_cons pe_int (pa_cons (pe_op op_mulS pe_str pe_int) pa_nil))) pa_nil)))))) (blkOk_by (N := fullN) (sc := defScope sFull) (by decide +kernel)) (fun _ _ _ _ _ => (pg_tup rfl (pgs_cons (pg_name (i := 5) scFu.nd rfl (.inl rfl)) (pgs_cons (pg_name (i := 6) scFu.nd rfl (.inl rfl)) pgs_nil)))) (fun _ _ _ _ _ => pts_nil) (fun _ _ _ _ _ => (pe_call GD hr rfl gD kD bD .nil pass0 (pa_cons (pv 1) (pa_cons pe_str (pa_cons (pv 5) (pa_cons (pv 6) pa_nil)))))))
      (pss_cons (ps_if (PW.pt (pw_or (pt_cmpR (op_neD hr.units) (pv 4) (pe_lst (pa_cons pe_str (pa_cons pe_str (pa_cons pe_str (pa_cons pe_str pa_nil))))) (nomark _)) (pw_or (pt_cmpR (op_neD hr.units) (pe_meth0 (pv 1) TW.clW mO GO (hr.mono (by decide)) bO .nil pass0) (pv 3) (nomark _)) (pw_or1 (pt_cmpR op_ne (pe_callB call_len (by rfl) T.len PySem.boot_len (pa_cons (pv 3) pa_nil)) pe_int (nomark _)))))) (pss_one (ps_ret pe_bl)) pss_nil)
      (pss_cons (ps_expr (pe_meth (pv 1) TW.clW mH GH (hr.mono (by decide)) bH .nil pass0 (pa_cons pe_int (pa_cons pe_str pa_nil))))
      (pss_cons (ps_expr (pe_meth (pv 1) TW.clW mC GC (hr.mono (by decide)) bC .nil pass0 (pa_cons (pe_op op_add pe_int (pe_call GT (hr.mono (by decide)) rfl gT FT.kp bT .nil pass0 (pa_cons (pv 0) (pa_cons pe_int pa_nil)))) pa_nil)))
      (pss_one (ps_ret (pe_and (pe_cmpR op_eq (pe_call GD hr rfl gD kD bD .nil pass0 (pa_cons (pv 1) (pa_cons pe_str (pa_cons pe_int (pa_cons pe_str pa_nil))))) pe_str (nomark _)) (pe_one (pe_cmpR op_eq (pe_call GD hr rfl gD kD bD .nil pass0 (pa_cons (pv 1) (pa_cons pe_str (pa_cons pe_int (pa_cons pe_str pa_nil))))) pe_str (nomark _))))))))))))), ?_⟩
    intro x dx nx ndx nex
    have qx : q ≠ x := pa.ne nx
    have qdx : q ≠ dx := pa.ne ndx
    have sm0 : Same H (upd (upd H dx (.own x)) x (.ins CW dx [])) := fun b u e => by
      rw [upd_ne (ne_of_none e nx), upd_ne (ne_of_none e ndx)]
      exact e
    have th : ∀ b ∈ [q, x], (upd (upd H dx (.own x)) x (.ins CW dx [])) b ≠ none := by
      intro b hb
      rcases List.mem_cons.mp hb with rfl | hb
      · obtain ⟨y, z, hq, _⟩ := pa.same sm0
        rw [hq]
        exact fun y => by cases y
      · rw [List.mem_singleton.mp hb, upd_same]
        exact fun y => by cases y
    refine ⟨[q, x], x, dx, rfl, by simp, th, upd_same, fun H1 b1 S1 => ⟨rfl, ?_⟩⟩
    have sm1 : Same H H1 := fun b u e => b1 b u (ne_of_none e nx) (sm0 _ _ e)
    refine ⟨120, rfl, by decide, by decide, for_range (n := 120) (fun i σ H' => ∃ (v2 : Option V) (r : List Str) (ch : List (List Str)), σ = [some (.ref q), some (.ref x), v2, none, none, none, none] ∧ Same H H' ∧ Sh K CW CS H' [q, x] x (r :: ch) ∧ r.length = i ∧ ∀ z ∈ r, z ∈ three)
      ⟨none, [], [], rfl, sm1, S1, rfl, fun z hz => by cases hz⟩ ?_ ?_⟩
    · rintro i σ H2 hi ⟨v2, r, ch, rfl, sm2, S2, hrl, hr3⟩
      obtain ⟨dy, v0, ho, hc⟩ := S2.obj
      have hidx : ∃ z ∈ three, atI (three.map V.str) ((if decide (V.int (0 + (i : Int)) = V.int 7) = true then 1 else 0) + 2 * (if decide (V.int ((0 + (i : Int)) % 9) = V.int 5) = true then 1 else 0) : Int) = some (V.str z) := by
        by_cases c1 : V.int (0 + (i : Int)) = V.int 7
        · by_cases c2 : V.int ((0 + (i : Int)) % 9) = V.int 5
          · injection c1 with c1
            injection c2 with c2
            omega
          · rw [decide_eq_true c1, decide_eq_false c2]
            exact ⟨"f = 0", by decide +kernel, rfl⟩
        · by_cases c2 : V.int ((0 + (i : Int)) % 9) = V.int 5
          · rw [decide_eq_false c1, decide_eq_true c2]
            exact ⟨"-- x", by decide +kernel, rfl⟩
          · rw [decide_eq_false c1, decide_eq_false c2]
            exact ⟨"", by decide +kernel, rfl⟩
      obtain ⟨z, hz, hat⟩ := hidx
      have hi' : i < 120 := hi
      refine ⟨_, rfl, x, dy, _, rfl, ho, wf_no (by decide +kernel), _, rfl, _, _, rfl, rfl, by show 3 ≤ sizeLine; decide, fun t nt => ?_⟩
      refine ⟨_, rfl, rfl, .inr ⟨_, rfl, _, rfl, _, _, rfl, rfl, (by show (0 : Int) < 9; decide), rfl, .inr ⟨_, rfl, _, _, rfl, rfl, .inl ⟨by decide, by decide⟩, _, _, rfl, rfl, t, _, _, .str z, rfl, rfl, SqL.of upd_same, hat, ?_⟩⟩⟩
      refine ⟨[q, x], x, r, ch, 0 + (i : Int) + 1, z, rfl, S2.mono (Same.new nt), ?_, (three_ok z hz).1, (by omega), fun H' hb hS => ?_⟩
      · unfold plOk
        rw [Bool.and_eq_true, decide_eq_true_eq, decide_eq_true_eq]
        omega
      · refine ⟨_, _, _, rfl, fun b u e => ?_, hS, ?_, ?_⟩
        · exact hb b u (ne_of_none e nx) ((Same.new nt) _ _ (sm2 _ _ e))
        · simp only [List.length_append, List.length_take, List.length_drop, List.length_singleton]
          omega
        · intro y hy
          rcases List.mem_append.mp hy with hy | hy
          · rcases List.mem_append.mp hy with hy | hy
            · exact hr3 y (List.mem_of_mem_take hy)
            · rw [List.mem_singleton.mp hy]
              exact hz
          · exact hr3 y (List.mem_of_mem_drop hy)
    · rintro σ H2 ⟨v2, r, ch, rfl, sm2, S2, hrl, hr3⟩
      have hrl' : r.length = 120 := hrl
      obtain ⟨dy, v0, ho2, hc⟩ := S2.obj
      refine ⟨_, rfl, x, dy, _, rfl, ho2, wf_no (by decide +kernel), [q, x], x, r, ch, rfl, S2, fun l3 nl3 => ?_⟩
      have a0 := Same.new nl3 (o := .lst (r.map V.str))
      refine ⟨by show 2 ≤ sizeLine; decide, fun t1 nt1 => ?_⟩
      have a1 := Same.new nt1 (o := .tup [V.int 121, V.str "g = 1"])
      refine ⟨by show 2 ≤ sizeLine; decide, fun t2 nt2 => ?_⟩
      have a2 := Same.new nt2 (o := .tup [V.int 1, V.str ""])
      refine ⟨by show 2 ≤ sizeLine; decide, fun t3 nt3 => ?_⟩
      have a3 := Same.new nt3 (o := .tup [V.int 122, V.str ""])
      refine ⟨_, _, rfl, rfl, by decide, by decide, by decide, by decide, by show 2 ≤ sizeLine; decide, fun t4 nt4 => ?_⟩
      have a4 := Same.new nt4 (o := .tup [V.int 5, V.str (timesS "x" 101)])
      refine ⟨by show 4 ≤ sizeLine; decide, fun L nL => ?_⟩
      have a5 := Same.new nL (o := .lst [V.ref t1, V.ref t2, V.ref t3, V.ref t4])
      have a25 := ((((a0.trans a1).trans a2).trans a3).trans a4).trans a5
      have SL := S2.mono a25
      generalize hHL : upd (upd (upd (upd (upd (upd H2 l3 _) t1 _) t2 _) t3 _) t4 _) L _ = HL at SL a25 ⊢
      have h3 : HL l3 = some (HO.lst (r.map V.str)) := by
        rw [← hHL]
        exact ((((a1.trans a2).trans a3).trans a4).trans a5) l3 _ upd_same
      have h4 : HL t1 = some (HO.tup [V.int 121, V.str "g = 1"]) := by
        rw [← hHL]
        exact (((a2.trans a3).trans a4).trans a5) t1 _ upd_same
      have h5 : HL t2 = some (HO.tup [V.int 1, V.str ""]) := by
        rw [← hHL]
        exact ((a3.trans a4).trans a5) t2 _ upd_same
      have h6 : HL t3 = some (HO.tup [V.int 122, V.str ""]) := by
        rw [← hHL]
        exact (a4.trans a5) t3 _ upd_same
      have h7 : HL t4 = some (HO.tup [V.int 5, V.str (timesS "x" 101)]) := by
        rw [← hHL]
        exact a5 t4 _ upd_same
      have h8 : HL L = some (HO.lst [V.ref t1, V.ref t2, V.ref t3, V.ref t4]) := by
        rw [← hHL]
        exact upd_same
      clear hHL
      have smL : Same H HL := sm2.trans a25
      have hoL := a25 _ _ ho2
      have neLx : ∀ {b : Addr} {ob : HO}, HL b = some ob → (∀ C d fs, ob ≠ .ins C d fs) → b ≠ x := fun hb hn e => by
        rw [e, hoL] at hb
        injection hb with hb
        exact hn _ _ _ hb.symm
      refine ⟨_, rfl, ⟨_, SqL.of h8⟩, fun D nD => lc_list (K := K) (a := L) (xs := [V.ref t1, V.ref t2, V.ref t3, V.ref t4]) (fun i Hk => But x HL Hk ∧ Sh K CW CS Hk [D, q, x] x (r :: ch) ∧ Hk D = some (.lst ((res4.take i).map V.str)))
        ⟨But.of (Same.new nD), SL.addq nD, upd_same⟩ (fun i Hk _ ⟨b, _, _⟩ => SqL.of (b L _ (neLx h8 (fun _ _ _ e => by cases e)) h8)) ?_ ?_⟩
      · rintro i v Hk hv ⟨b, S, hD⟩
        have Dx : D ≠ x := fun e => by
          rw [e, hoL] at nD
          cases nD
        have turn : ∀ (t : Addr) (y : Int) (z : Str) (j : Nat) (zr : Str), HL t = some (.tup [.int y, .str z]) → z.length ≤ 1000 → step zPut (.int y) (.str z) (r :: ch) = (zr, r :: ch) → res4[j]? = some zr → i = j → v = .ref t → gTup K 2 (gCons (gName 5) (gCons (gName 6) gNil)) v (wipe [some (.ref q), some (.ref x), v2, some (.ref l3), none, none, none] [5, 6]) Hk fun σ2 H2 => wipe σ2 [5, 6] = wipe [some (.ref q), some (.ref x), v2, some (.ref l3), none, none, none] [5, 6] ∧ tYes σ2 H2 fun b H3 =>
            if b = true then (tCall (spDone K CW CS) [] E0 (tCons (tVar 1) (tCons (tC (.str "put")) (tCons (tVar 5) (tCons (tVar 6) tNil))))) σ2 H3 fun y H4 => ∃ acc, H4 D = some (.lst acc) ∧ acc.length < sizeLine ∧ (But x HL (upd H4 D (.lst (acc ++ [y]))) ∧ Sh K CW CS (upd H4 D (.lst (acc ++ [y]))) [D, q, x] x (r :: ch) ∧ (upd H4 D (.lst (acc ++ [y]))) D = some (.lst ((res4.take (i + 1)).map V.str))) else
              (But x HL H3 ∧ Sh K CW CS H3 [D, q, x] x (r :: ch) ∧ H3 D = some (.lst ((res4.take (i + 1)).map V.str))) := by
          intro t y z j zr ht hz st hj ij ev
          subst ij
          subst ev
          refine ⟨t, _, rfl, SqT.of (b t _ (neLx ht (fun _ _ _ e => by cases e)) ht), rfl, _, _, rfl, _, _, rfl, rfl, rfl, ?_⟩
          refine ⟨_, rfl, _, rfl, _, rfl, [D, q, x], x, zPut, .int y, .str z, r, ch, rfl, S, trivial, hz, fun H' hb hS => ?_⟩
          rw [st] at hS
          rw [st]
          refine ⟨_, hb D _ Dx hD, ?_, ?_, hS.updq (by simp) Dx, ?_⟩
          · rw [List.length_map, List.length_take, sizeLine_eq]
            show min i 4 < 16777216
            omega
          · intro c u nc e
            rw [upd_ne (ne_of_none e nD)]
            exact hb c u nc (b c u nc e)
          · rw [upd_same, List.take_add_one, hj, List.map_append]
            rfl
        have pl : ∀ y : Int, plOk (.int y) ((r.length : Int) + 1) = plOk (.int y) 121 := fun y => by rw [hrl']; rfl
        match i, hv with
        | 0, hv =>
          cases hv
          exact turn t1 121 "g = 1" 0 zTm h4 (by decide) (by rw [step_zPut, pl, if_neg (by decide), if_neg (by decide +kernel), if_pos (by omega)]) rfl rfl rfl
        | 1, hv =>
          cases hv
          exact turn t2 1 "" 1 zTm h5 (by decide) (by rw [step_zPut, pl, if_neg (by decide), if_neg (by decide +kernel), if_pos (by omega)]) rfl rfl rfl
        | 2, hv =>
          cases hv
          exact turn t3 122 "" 2 zPl h6 (by decide) (by rw [step_zPut, pl, if_pos (by decide)]) rfl rfl rfl
        | 3, hv =>
          cases hv
          exact turn t4 5 (timesS "x" 101) 3 zBr h7 (by decide +kernel) (by rw [step_zPut, pl, if_neg (by decide), if_pos (by decide +kernel)]) rfl rfl rfl
        | (i + 4), hv => cases hv
      · rintro Hk ⟨b, S, hD⟩
        have smK : Same H Hk := fun c u e => b c u (ne_of_none e nx) (smL _ _ e)
        have h3k : Hk l3 = some (.lst (r.map V.str)) := b l3 _ (neLx h3 (fun _ _ _ e => by cases e)) h3
        obtain ⟨dz, v1, ho, hc1⟩ := S.obj
        have sh1 : SeqAt.shaped (.list (res4.map PyData.str)) = true := shaped_S (by decide +kernel)
        have sh2 : SeqAt.shaped (.list (r.map PyData.str)) = true := shaped_S fun z hz => (three_ok z (hr3 z hz)).2
        refine ⟨_, rfl, by show 4 ≤ sizeLine; decide, fun m nm => ?_⟩
        have s1 := Same.new nm (o := .lst (res4.map V.str))
        refine ⟨_, _, .lst (SqL.of (s1 _ _ hD)) (strs_allS res4), .lst (SqL.of upd_same) (strs_allS res4), sh1, sh1, _, rfl, ?_⟩
        rw [eqv_self8 sh1]
        refine ⟨_, rfl, x, dz, _, rfl, s1 _ _ ho, wf_no (by decide +kernel), [D, q, x], x, r, ch, rfl, S.mono s1, fun l5 nl5 => ?_⟩
        have s2 := s1.trans (Same.new nl5 (o := .lst (r.map V.str)))
        refine ⟨_, rfl, _, _, .lst (SqL.of upd_same) (strs_allS r), .lst (SqL.of (s2 _ _ h3k)) (strs_allS r), sh2, sh2, _, rfl, ?_⟩
        rw [eqv_self8 sh2]
        refine ⟨_, rfl, _, _, rfl, .inl ⟨_, SqL.of (s2 _ _ h3k), rfl⟩, rfl, _, rfl, ?_⟩
        refine if_false_of (by rw [List.length_map, hrl']; rfl) ?_
        have pl : ∀ y : Int, plOk (.int y) (r.length : Int) = plOk (.int y) 120 := fun y => by rw [hrl']; rfl
        refine ⟨_, rfl, x, dz, _, rfl, s2 _ _ ho, wf_no (by decide +kernel), [D, q, x], x, r, ch, 120, "g = f", rfl, S.mono s2, by rw [pl]; decide, by decide +kernel, fun H4 b4 S4 => ?_⟩
        obtain ⟨dw, v2', ho4, hc4⟩ := S4.obj
        have sm4 : Same H H4 := fun c u e => b4 c u (ne_of_none e nx) (s2 _ _ (smK _ _ e))
        refine ⟨_, rfl, x, dw, _, rfl, ho4, wf_no (by decide +kernel), _, rfl, q, 100, n, rfl, by decide, by decide, pa.same sm4, by omega, fun j n5 H5 hj hn5 pa5 b5 _ => ⟨_, _, rfl, rfl, ?_⟩⟩
        have S5 := S4.butq b5 (by
          obtain ⟨y, z, hq, _⟩ := pa5
          rw [hq]
          exact fun z => by cases z) (by simp) qx
        have l4 : (r.set ((120 : Int) - 1).toNat "g = f").length = 120 := by rw [List.length_set, hrl']
        generalize r.set ((120 : Int) - 1).toNat "g = f" = r4 at S5 l4
        refine ⟨[D, q, x], x, r4, _, 1 + (j : Int), rfl, S5, ?_, fun H6 b6 S6 => ?_⟩
        · rw [l4]
          unfold plOk
          rw [Bool.and_eq_true, decide_eq_true_eq, decide_eq_true_eq]
          omega
        have l6 : (r4.eraseIdx (1 + (j : Int) - 1).toNat).length = 119 := by
          rw [List.length_eraseIdx_of_lt (by omega), l4]
        generalize r4.eraseIdx (1 + (j : Int) - 1).toNat = r6 at S6 l6
        have st6 : step zPut (.int 120) (.str "") (r6 :: r4 :: r :: ch) = (zNo, (r6.take 119 ++ [("" : Str)] ++ r6.drop 119) :: r6 :: r4 :: r :: ch) := by
          rw [step_zPut, l6, if_neg (by decide), if_neg (by decide +kernel), if_neg (by decide)]
          rfl
        refine ⟨_, rfl, [D, q, x], x, zPut, .int 120, .str "", r6, _, rfl, S6, trivial, row_arg (by decide +kernel), fun H7 b7 S7 => ⟨rfl, _, rfl, ?_⟩⟩
        rw [st6] at S7
        refine if_str (by rw [st6]; rfl) ?_
        have l7 : (r6.take 119 ++ [("" : Str)] ++ r6.drop 119 : List Str).length = 120 := by
          simp only [List.length_append, List.length_take, List.length_drop, List.length_singleton]
          omega
        have S7' : Sh K CW CS H7 [D, q, x] x ((r6.take 119 ++ [("" : Str)] ++ r6.drop 119) :: r6 :: r4 :: r :: ch) := S7
        generalize (r6.take 119 ++ [("" : Str)] ++ r6.drop 119 : List Str) = r7 at S7' l7
        have st7 : step zPut (.int 1) (.str "") (r7 :: r6 :: r4 :: r :: ch) = (zTm, r7 :: r6 :: r4 :: r :: ch) := by
          rw [step_zPut, l7, if_neg (by decide), if_neg (by decide +kernel), if_pos (by decide)]
        refine ⟨_, rfl, [D, q, x], x, zPut, .int 1, .str "", r7, _, rfl, S7', trivial, row_arg (by decide +kernel), fun H8 b8 S8 => ⟨rfl, ?_⟩⟩
        refine bl_eq (by rw [st7]; rfl) (k H8 n5 (fun c u nc e => ?_) ?_ hn5)
        · have cx : c ≠ x := ne_of_none e nx
          exact b8 c u cx (b7 c u cx (b6 c u cx (b5 c u nc (sm4 _ _ e))))
        · obtain ⟨y, z, hq, rest⟩ := pa5
          exact ⟨y, z, b8 q _ qx (b7 q _ qx (b6 q _ qx hq)), rest⟩
end
end S8

set_option Elab.async false
set_option maxRecDepth 100000
/-! the law -/
namespace S8
open PySem PySem.Spec PyProof.Rows L2 Hx Xr P01 G01 W8 Ex
theorem Sh.congr {K : PySem.W.Frag} {CW CS : Addr} {H : Hp} {qs qs' : List Addr} {o : Addr} {ch : List (List Str)} (S : Sh K CW CS H qs o ch) (h : ∀ b, b ∈ qs ↔ b ∈ qs') : Sh K CW CS H qs' o ch := by
  obtain ⟨dx, v, h1, h2⟩ := S.obj
  have e : off qs H = off qs' H := by
    funext b
    by_cases c : b ∈ qs
    · rw [off_in c, off_in ((h b).mp c)]
    · rw [off_at c, off_at (fun d => c ((h b).mpr d))]
  exact ⟨(h o).mp S.mem, fun b hb => S.there b ((h b).mpr hb), dx, v, h1, by rw [← e]; exact h2⟩
section
variable {P : Program} {w : World} {K : PySem.W.Frag} {mg : Str → Option Value} {base : Heap} {CW CS : Addr}
def spAt (K : PySem.W.Frag) : Sp := fun vs H Q _ => ∃ (a : Addr) (ns : List Int) (k : Nat), vs = [.ref a, .int k] ∧ SqL K H a (ns.map V.int) ∧ ∀ z : Int, Q (.int z) H
theorem scAt : FnScope ["_law_script", "_law_k"] ["_law_script", "_law_k"] (defScope sAt) := ⟨rfl, rfl, rfl, by decide +kernel, rfl, by decide +kernel, by decide +kernel⟩
theorem ok_at {f : Addr} {fd : FuncData} (F : Fun K "_law_at" "_law_at" sAt f fd) (ml : mg "len" = none) : FnOk P w K mg base CX0 1 f fd ["_law_script", "_law_k"] (spAt K) := by
  refine F.ok scAt (fun vs H Q E h => ?_) (fun cdv A outer st H vs Q E hr h => ?_)
  · obtain ⟨a, ns, k, rfl, _⟩ := h
    rfl
  · obtain ⟨a, ns, k, rfl, hS, q⟩ := h
    refine ⟨_, pss_cons (ps_if (pt_cmpR op_lt (pv 1) (pe_callB call_len (by rfl) ml PySem.boot_len (pa_cons (pv 0) pa_nil)) (nomark _)) (pss_one (ps_ret (pe_ix ix_list (pv 0) (pv 1) (fun _ _ => rfl)))) pss_nil)
      (pss_one (ps_ret (pe_op op_add (pe_op op_mul pe_int (pv 1)) pe_int))), ?_⟩
    refine ⟨_, rfl, _, rfl, _, _, rfl, .inl ⟨_, hS, rfl⟩, _, _, rfl, rfl, _, rfl, ?_⟩
    rw [List.length_map]
    by_cases c : k < ns.length
    · rw [decide_eq_true (by omega)]
      refine iteT ⟨_, rfl, _, rfl, a, _, _, _, rfl, rfl, hS, atI_nat (v := V.int ns[k]) ?_, q _⟩
      rw [List.getElem?_map, List.getElem?_eq_getElem c]
      rfl
    · rw [decide_eq_false (by omega)]
      exact iteF ⟨_, rfl, _, _, rfl, rfl, .inl ⟨by decide, by decide⟩, _, _, rfl, rfl, q _⟩
def spLaw (K : PySem.W.Frag) : Sp := fun vs H Q _ => ∃ (a : Addr) (ns : List Int), vs = [.ref a] ∧ SqL K H a (ns.map V.int) ∧ ns.length ≤ 63 ∧ ∀ H', Q (.bl true) H'
abbrev sLaw : Stmt := top 237
abbrev lawN : List Str := ["_law_script", "_law_k", "_law_purse_here", "_law_shop", "_law_past", "_law_turn", "_law_told"]
theorem scLaw : FnScope lawN ["_law_script"] (defScope sLaw) := ⟨rfl, rfl, rfl, by decide +kernel, rfl, by decide +kernel, by decide +kernel⟩
set_option maxHeartbeats 16000000 in
theorem ok_law {f fT fM fA fP fFu fDd fW fO : Addr} {fd fdT fdM fdA fdP fdFu fdDd fdW fdO : FuncData} (F : Fun K "law" "law" sLaw f fd) (T : TxtS mg) (mn : mg "min" = none) (TW : TxtW K mg CW CS) (M : L2.Mk K CW fW) (gW : mg "Workshop" = some (.ref CW))
    (FT : Fun K "_law_take" "_law_take" sTake fT fdT) (bT : Binds K fdT ["_law_purse_here", "_law_many"] []) (gT : mg "_law_take" = some (.ref fT))
    (FM : Fun K "_law_mixed" "_law_mixed" sMixed fM fdM) (bM : Binds K fdM ["_law_cell", "_law_k"] []) (gM : mg "_law_mixed" = some (.ref fM))
    (GA : FnOk P w K mg base CX0 1 fA fdA ["_law_script", "_law_k"] (spAt K)) (kA : PySem.W.keepIn K (.ref fA) = true) (bA : Binds K fdA ["_law_script", "_law_k"] []) (gA : mg "_law_at" = some (.ref fA))
    (GP : FnOk P w K mg base CX0 2 fP fdP ["_law_cell", "_law_k"] spPurse) (kP : PySem.W.keepIn K (.ref fP) = true) (bP : Binds K fdP ["_law_cell", "_law_k"] []) (gP : mg "_law_purse" = some (.ref fP))
    (GFu : FnOk P w K mg base CX0 6 fFu fdFu ["_law_purse_here"] spFull) (kFu : PySem.W.keepIn K (.ref fFu) = true) (bFu : Binds K fdFu ["_law_purse_here"] []) (gFu : mg "_law_full_right" = some (.ref fFu))
    (GDd : FnOk P w K mg base CX0 6 fDd fdDd ["_law_purse_here", "_law_shop", "_law_past"] (spDeed K CW CS)) (kDd : PySem.W.keepIn K (.ref fDd) = true) (bDd : Binds K fdDd ["_law_purse_here", "_law_shop", "_law_past"] []) (gDd : mg "_law_deed" = some (.ref fDd))
    (GW : FnOk P w K mg base CX0 3 fW fdW ["self"] (spWInit K CW CS)) (bW : Binds K fdW ["self"] [])
    (GO : FnOk P w K mg base CX0 1 fO fdO ["self"] (spRows K CW CS)) (bO : Binds K fdO ["self"] []) (mO : Meth K CW "rows" fO) :
    FnOk P w K mg base CX0 7 f fd ["_law_script"] (spLaw K) := by
  have GT : FnOk P w K mg base CX0 2 fT fdT ["_law_purse_here", "_law_many"] spTake := ok_take FT FM bM gM
  refine F.ok scLaw (fun vs H Q E h => ?_) (fun cdv A outer st H vs Q E hr h => ?_)
  · obtain ⟨a, ns, rfl, _⟩ := h
    rfl
  · obtain ⟨a, ns, rfl, hS, hlen, k⟩ := h
    have hr1 : Room 1 _ := hr.mono (show 1 ≤ 6 by decide)
    have hr2 : Room 2 _ := hr.mono (show 2 ≤ 6 by decide)
    refine ⟨_, (pss_cons (ps_for PassesOwn.never rfl (pi_range1 rfl T.range (pa_cons (pe_op op_add pe_int (pe_callB (call_min2 rfl) (by rfl) mn PyProof.Rows.boot_min (pa_cons (pe_callB call_len (by rfl) T.len PySem.boot_len (pa_cons (pv 0) pa_nil)) (pa_cons pe_int pa_nil)))) pa_nil)) (pg_name (i := 1) scLaw.nd rfl (.inl rfl)) (pss_cons (ps_set (i := 2) scLaw.nd rfl (.inl rfl) (pe_call GP hr2 rfl gP kP bP .nil pass0 (pa_cons (pe_call GA hr1 rfl gA kA bA .nil pass0 (pa_cons (pv 0) (pa_cons (pv 1) pa_nil))) (pa_cons (pv 1) pa_nil)))) (C8.pss_cut (ps_if (PW.pt (pw_and (pt_cmpR op_eq (pv 1) pe_int (nomark _)) (pw_and (pt_cmpR op_eq (pe_call GT hr2 rfl gT FT.kp bT .nil pass0 (pa_cons (pv 2) (pa_cons pe_int pa_nil))) pe_int (nomark _)) (pw_and1 (pt_not (pt_val (pe_call GFu hr rfl gFu kFu bFu .nil pass0 (pa_cons (pv 2) pa_nil)))))))) (pss_one (ps_ret pe_bl)) pss_nil) (pss_cons (ps_set (i := 3) scLaw.nd rfl (.inl rfl) (pe_make0 M GW (hr.mono (by decide)) rfl gW bW .nil pass0))
      (pss_cons (ps_set (i := 4) scLaw.nd rfl (.inl rfl) (pe_lst (pa_cons (pe_lst pa_nil) pa_nil)))
      (pss_one (ps_for PassesOwn.never rfl (pi_range1 rfl T.range (pa_cons (pe_call GT hr2 rfl gT FT.kp bT .nil pass0 (pa_cons (pv 2) (pa_cons pe_int pa_nil))) pa_nil)) (pg_name (i := 5) scLaw.nd rfl (.inl rfl)) (pss_cons (ps_if (pt_not (pt_val (pe_call GDd hr rfl gDd kDd bDd .nil pass0 (pa_cons (pv 2) (pa_cons (pv 3) (pa_cons (pv 4) pa_nil)))))) (pss_one (ps_ret pe_bl)) pss_nil)
      (pss_cons (ps_set (i := 6) scLaw.nd rfl (.inl rfl) (pe_meth0 (pv 3) TW.clW mO GO hr1 bO .nil pass0))
      (pss_cons (ps_if (PW.pt (pw_or (pt_not (pt_val (pe_callB call_isi (by rfl) T.isi (by decide +kernel) (pa_cons (pv 6) (pa_cons (pe_bltn (v := .ty "list") (by rfl) T.list (by decide +kernel) rfl) pa_nil))))) (pw_or1 (pt_cmpR (op_neD hr.units) (pv 6) (pe_ix ix_list (pv 4) (pe_un un_neg pe_int) (fun _ _ => rfl)) (nomark _))))) (pss_one (ps_ret pe_bl)) pss_nil)
      (pss_cons (ps_expr (pe_bm PySem.F.plainAttrs_list PySem.F.slot_list_append PySem.F.type_list_append mt_append (pv 6) (pa_cons pe_str pa_nil)))
      (pss_one (ps_if (pt_cmpR (op_neD hr.units) (pe_meth0 (pv 3) TW.clW mO GO hr1 bO .nil pass0) (pe_ix ix_list (pv 4) (pe_un un_neg pe_int) (fun _ _ => rfl)) (nomark _)) (pss_one (ps_ret pe_bl)) pss_nil)))))))))))))
      (pss_one (ps_ret pe_bl))), ?_⟩
    have hN : 0 ≤ (2 : Int) + (if (4 : Int) < ((ns.map V.int).length : Int) then 4 else ((ns.map V.int).length : Int)) ∧ (2 : Int) + (if (4 : Int) < ((ns.map V.int).length : Int) then 4 else ((ns.map V.int).length : Int)) ≤ 6 := by
      by_cases c : (4 : Int) < ((ns.map V.int).length : Int)
      · rw [if_pos c]
        decide
      · rw [if_neg c]
        omega
    refine ⟨_, rfl, _, _, rfl, .inl ⟨_, hS, rfl⟩, _, _, rfl, _, _, rfl, rfl, _, rfl, Int.le_trans (by decide) hN.1, Int.lt_of_le_of_lt hN.2 (by decide), for_range (n := ((2 : Int) + (if (4 : Int) < ((ns.map V.int).length : Int) then 4 else ((ns.map V.int).length : Int))).toNat)
      (fun i σ H' => ∃ v1 v2 v3 v4 v5 v6 : Option V, σ = [some (.ref a), v1, v2, v3, v4, v5, v6] ∧ Same H H') ⟨none, none, none, none, none, none, rfl, Same.refl _⟩ ?_ (fun σ H' _ => k H')⟩
    rintro i1 σ H1 hi ⟨v1, v2, v3, v4, v5, v6, rfl, s1⟩
    have hi6 : i1 < 6 := by omega
    refine ⟨_, rfl, _, rfl, a, ns, i1, by rw [Int.zero_add]; rfl, s1.seq hS, fun z => ?_⟩
    refine ⟨_, rfl, z, 0 + (i1 : Int), rfl, by omega, by omega, fun q H2 nq1 s2 pa2 => ?_⟩
    have nq : H q = none := s1.free nq1
    have s2' := s1.trans s2
    refine ⟨fun σ' H' => ∃ (n' : Int), σ' = [some (.ref a), some (.int (0 + (i1 : Int))), some (.ref q), v3, v4, v5, v6] ∧ PurseAt H' q n' ∧ n' ≤ 5 ∧ Same H H', ?_, ?_⟩
    · refine ⟨_, rfl, rfl, _, rfl, ite2 (fun _ => ?_) (fun _ => ?_)⟩
      · refine ⟨_, rfl, q, 4, 0, rfl, by decide, by decide, pa2, by decide, fun j n3 H3 hj hn3 pa3 b3 _ => ⟨rfl, _, rfl, ite2 (fun _ => ?_) (fun _ => ?_)⟩⟩
        · refine ⟨_, rfl, q, n3, rfl, pa3, by omega, fun H4 n4 b4 pa4 hn4 => ⟨_, rfl, iteF ⟨n4, rfl, pa4, by omega, ?_⟩⟩⟩
          exact fun c u e => b4 c u (ne_of_none e nq) (b3 c u (ne_of_none e nq) (s2' _ _ e))
        · exact iteF ⟨n3, rfl, pa3, by omega, fun c u e => b3 c u (ne_of_none e nq) (s2' _ _ e)⟩
      · exact iteF (A := False) ⟨0, rfl, pa2, by decide, s2'⟩
    · rintro σ' H3 ⟨n3, rfl, pa3, hn3, s3⟩
      intro x dx nx ndx nex
      have qx : q ≠ x := pa3.ne nx
      have sm0 : Same H3 (upd (upd H3 dx (.own x)) x (.ins CW dx [])) := fun b u e => by
        rw [upd_ne (ne_of_none e nx), upd_ne (ne_of_none e ndx)]
        exact e
      have th : ∀ b ∈ [q, x], (upd (upd H3 dx (.own x)) x (.ins CW dx [])) b ≠ none := by
        intro b hb
        rcases List.mem_cons.mp hb with rfl | hb
        · obtain ⟨y, z, hq, _⟩ := pa3.same sm0
          rw [hq]
          exact fun y => by cases y
        · rw [List.mem_singleton.mp hb, upd_same]
          exact fun y => by cases y
      refine ⟨[q, x], x, dx, rfl, by simp, th, upd_same, fun H4 b4 S4 => ⟨rfl, ?_⟩⟩
      have nxH : H x = none := s3.free nx
      have s4 : Same H3 H4 := fun c u e => b4 c u (ne_of_none e nx) (sm0 _ _ e)
      refine ⟨by show 0 ≤ sizeLine; decide, fun i0 ni0 => ⟨by show 1 ≤ sizeLine; decide, fun p np => ?_⟩⟩
      have a0 := Same.new ni0 (o := .lst ([] : List V))
      have a1 := Same.new np (o := .lst [V.ref i0])
      have s6 := (s4.trans a0).trans a1
      have npH : H p = none := (s3.trans (s4.trans a0)).free np
      have S6 := ((S4.mono a0).addq np (ob := .lst [V.ref i0])).congr (qs' := [q, x, p]) (fun b => by
        simp only [List.mem_cons, List.not_mem_nil, or_false]
        constructor
        · rintro (h | h | h)
          · exact .inr (.inr h)
          · exact .inl h
          · exact .inr (.inl h)
        · rintro (h | h | h)
          · exact .inr (.inl h)
          · exact .inr (.inr h)
          · exact .inl h)
      have W6 : Wk K CW CS (upd (upd H4 i0 (.lst [])) p (.lst [V.ref i0])) q x p n3 [[]] [[]] := by
        have qp : q ≠ p := (pa3.same (s4.trans a0)).ne np
        obtain ⟨dy, vy, hoy, _⟩ := (S4.mono a0).obj
        have xp : x ≠ p := ne_of_none hoy np
        refine ⟨qx, qp, xp, pa3.same s6, S6, [V.ref i0], upd_same, ⟨i0, rfl, SqL.of ?_⟩, trivial⟩
        have i0p : i0 ≠ p := ne_of_none upd_same np
        have i0n : i0 ∉ [q, x, p] := by
          intro hm
          simp only [List.mem_cons, List.not_mem_nil, or_false] at hm
          rcases hm with h | h | h
          · exact (pa3.same s4).ne ni0 h.symm
          · obtain ⟨dy, vy, hoy, _⟩ := S4.obj
            exact ne_of_none hoy ni0 h.symm
          · exact i0p h
        rw [off_at i0n, upd_ne i0p, upd_same]
        rfl
      generalize hH6 : upd (upd H4 i0 (.lst [])) p (.lst [V.ref i0]) = H6 at W6 s6 ⊢
      have s36 := s3.trans s6
      refine ⟨_, rfl, q, 21, n3, rfl, by decide, by decide, W6.pur, by omega, fun j n7 H7 hj hn7 pa7 b7 _ => ?_⟩
      have W7 := W6.take b7 pa7
      have s7 : Same H H7 := fun c u e => b7 c u (ne_of_none e nq) (s36 _ _ e)
      have jj : ((j : Int)).toNat = j := Int.toNat_natCast j
      refine ⟨_, rfl, by omega, by omega, for_range (n := ((j : Nat) : Int).toNat) (fun i σ H' => ∃ (n : Int) (r : List Str) (ch : List (List Str)) (v5 v6 : Option V), σ = [some (.ref a), some (.int (0 + (i1 : Int))), some (.ref q), some (.ref x), some (.ref p), v5, v6] ∧ Wk K CW CS H' q x p n (r :: ch) (r :: ch) ∧ n ≤ 10 + 20 * (i : Int) ∧ Good i (r :: ch) ∧ ch.length ≤ i ∧ Same H H')
        ⟨n7, [], [], _, _, rfl, W7, by omega, ?_, Nat.le_refl _, s7⟩ ?_ ?_⟩
      · intro y hy
        rw [List.mem_singleton.mp hy]
        exact ⟨Nat.le_refl _, fun z hz => by cases hz⟩
      · rintro i σ H8 hi ⟨n8, r, ch, v5', v6', rfl, W8, hn8, hg, hc, s8⟩
        have hi' : i < 21 := by omega
        refine ⟨_, rfl, _, rfl, _, rfl, q, x, p, n8, r, ch, i, rfl, W8, by omega, hg, by omega, by omega, fun H9 n9 r9 ch9 hn9 W9 hg9 hc9 s9 => ⟨_, rfl, iteF ?_⟩⟩
        have sH9 : Same H H9 := fun c u e => by
          have e8 := s8 _ _ e
          have nc : c ∉ [q, x, p] := by
            intro hm
            simp only [List.mem_cons, List.not_mem_nil, or_false] at hm
            rcases hm with h | h | h
            · rw [h, nq] at e
              cases e
            · rw [h, nxH] at e
              cases e
            · rw [h, npH] at e
              cases e
          have e9 := s9 c u (by rw [off_at nc]; exact e8)
          rw [off_at nc] at e9
          exact e9
        obtain ⟨dy, vy, hox, _⟩ := W9.shop.obj
        obtain ⟨ys, hp9, hy9⟩ := W9.past
        cases ys with
        | nil => exact (show False from hy9).elim
        | cons y9 ys =>
        obtain ⟨⟨l9, rfl, hl9⟩, hy9b⟩ := hy9
        rw [List.reverse_cons] at hp9
        have hl9' := (off_same (qs := [q, x, p])).seq hl9
        have sh : SeqAt.shaped (.list (r9.map PyData.str)) = true := shaped_S fun z hz => tRows_str z ((hg9 r9 List.mem_cons_self).2 z hz)
        have rl : r9.length ≤ 60 := Nat.le_trans (hg9 r9 List.mem_cons_self).1 (by omega)
        refine ⟨_, rfl, x, dy, _, rfl, hox, wf_no (by decide +kernel), [q, x, p], x, r9, ch9, rfl, W9.shop, fun l nl => ?_⟩
        have t1 := Same.new nl (o := .lst (r9.map V.str))
        refine ⟨_, rfl, _, _, _, _, true, rfl, .ty "list", .base (.lst upd_same), kit_ty (by decide +kernel), _, rfl, ?_⟩
        refine ⟨_, rfl, _, rfl, _, rfl, p, _, -1, .ref l9, rfl, rfl, SqL.of (t1 _ _ hp9), at_last, _, _, .lst (SqL.of upd_same) (strs_allS r9), .lst (t1.seq hl9') (strs_allS r9), sh, sh, _, rfl, ?_⟩
        rw [eqv_self8 sh]
        refine iteF (A := False) ?_
        refine ⟨_, rfl, .inl ⟨rfl, _, SqL.of upd_same⟩, l, _, _, rfl, rfl, upd_same, (by rw [List.length_map, sizeLine_eq]; omega), ?_⟩
        rw [upd_upd]
        have t2 := Same.new nl (o := .lst (r9.map V.str ++ [V.str "f = 1"]))
        have W10 := W9.mono t2
        refine ⟨_, rfl, x, dy, _, rfl, t2 _ _ hox, wf_no (by decide +kernel), [q, x, p], x, r9, ch9, rfl, W10.shop, fun m nm => ?_⟩
        have t3 := t2.trans (Same.new nm (o := .lst (r9.map V.str)))
        refine ⟨_, rfl, _, rfl, p, _, -1, .ref l9, rfl, rfl, SqL.of (t3 _ _ hp9), at_last, _, _, .lst (SqL.of upd_same) (strs_allS r9), .lst (t3.seq hl9') (strs_allS r9), sh, sh, _, rfl, ?_⟩
        rw [eqv_self8 sh]
        exact iteF (A := False) ⟨n9, r9, ch9, _, _, rfl, W9.mono t3, by omega, hg9, by omega, sH9.trans t3⟩
      · rintro σ H8 ⟨n8, r, ch, v5', v6', rfl, W8, hn8, hg, hc, s8⟩
        exact ⟨_, _, _, _, _, _, rfl, s8⟩
end
end S8

set_option Elab.async false
set_option maxRecDepth 100000
/-! a run of the top in three parts -/
namespace HA
open PySem PySem.W PySem.Calls PyProof.Rows

/-- real steps up to a flow that is done with so many frames left -/
inductive Path (den : Code → Sem Fin) (p : Program) (w : World) (b : Nat) : Shared → Thread → Flow → Shared → Thread → Prop
  | here {s : Shared} {t : Thread} {f : Flow} : endAt b t = some f → Path den p w b s t f s t
  | go {s s1 s2 : Shared} {t t1 t2 : Thread} {f : Flow} : endAt b t = none → t.calm = true → step den p w s t = .go s1 t1 →
      Path den p w b s1 t1 f s2 t2 → Path den p w b s t f s2 t2

section
variable {α : Type} {p : Program} {w : World} {B : List Frame} {K K' : α → Sem Fin} {H' : Value → Sem Fin} {gd : Bool → Bool} {lv : List Value → List Value}

/-- scheduled steps from here to there -/
def Goes (p : Program) (w : World) (s : Shared) (t : Thread) (s' : Shared) (t' : Thread) : Prop :=
  (∃ n, schedN (denote table) p w n (.single s t) = .running (.single s' t')) ∧ s'.heap.life = s.heap.life
theorem Goes.none (s : Shared) (t : Thread) : Goes p w s t s t := ⟨⟨0, rfl⟩, rfl⟩
theorem Goes.one {s s1 s2 : Shared} {t t1 t2 : Thread} (hz : s.asleep) (hc : t.calm = true) (hs : step (denote table) p w s t = .go s1 t1)
    (x : Goes p w s1 t1 s2 t2) : Goes p w s t s2 t2 := by
  obtain ⟨⟨n, hn⟩, hl⟩ := x
  refine ⟨⟨n + 1, ?_⟩, hl.trans (step_life _ _ _ _ _ _ _ hs)⟩
  have e : sstep (denote table) p w (.single s t) = .go (.single s1 t1) := by
    rcases sstep_single (denote table) p w s t hc hz with q | q
    · rw [q, hs]
      rfl
    · rw [q] at hs
      cases hs
  show (match sstep (denote table) p w (.single s t) with
    | .go c' => schedN (denote table) p w n c'
    | .halt o s => .halted o s) = _
  rw [e]
  exact hn
theorem sched_add {den : Code → Sem Fin} {c2 : Config} : ∀ {n m : Nat} {c c1 : Config}, schedN den p w n c = .running c1 → schedN den p w m c1 = .running c2 → schedN den p w (n + m) c = .running c2
  | 0, m, c, c1, h, k => by
    have e : c = c1 := by
      have h' : SRun.running c = .running c1 := h
      injection h'
    rw [Nat.zero_add, e]
    exact k
  | n + 1, m, c, c1, h, k => by
    rw [show n + 1 + m = n + m + 1 by omega]
    unfold schedN at h ⊢
    cases hs : sstep den p w c with
    | go c' =>
      rw [hs] at h
      exact sched_add (n := n) h k
    | halt o s =>
      rw [hs] at h
      cases h
theorem Goes.trans {s s1 s2 : Shared} {t t1 t2 : Thread} (x : Goes p w s t s1 t1) (y : Goes p w s1 t1 s2 t2) : Goes p w s t s2 t2 := by
  obtain ⟨⟨n, hn⟩, hl⟩ := x
  obtain ⟨⟨m, hm⟩, hl'⟩ := y
  exact ⟨⟨n + m, sched_add hn hm⟩, hl'.trans hl⟩

theorem calm_out {H : Value → Sem Fin} {x : Sem α} {code : Code} {pos : Pos} (hp : ∀ a, x ≠ .pure a) (hr : ∀ e, x ≠ .raise e)
    (h : Thread.calm ⟨x.wrap K H gd lv, code, pos, B⟩ = true) : Thread.calm ⟨x.wrap K' H' gd lv, code, pos, B⟩ = true := by
  cases x with
  | pure a => exact absurd rfl (hp a)
  | raise e => exact absurd rfl (hr e)
  | _ => exact h
theorem calm_in (hB : splitAtGen B = none) {H : Value → Sem Fin} {cur : Sem Fin} {code : Code} {pos : Pos} {a b : List Frame} (F : Frames2 K K' H H' gd lv B a b)
    (h : Thread.calm ⟨cur, code, pos, a⟩ = true) : Thread.calm ⟨cur, code, pos, b⟩ = true := by
  refine Eq.trans ?_ h
  rcases F.split hB with ⟨u, v⟩ | ⟨fs, n, k, k', c, q, ra, rb, u, v, _⟩ <;>
    (cases cur <;> first | rfl | simp only [Thread.calm, Thread.yieldsInsideHandler, Thread.atCollectorCode, Thread.atExit, u, v])

/-- the same run under another continuation: where it comes to its own -/
theorem Path.lift (hB : splitAtGen B = none) {s s2 : Shared} {t t2 : Thread} {f : Flow} (x : Path (denote table) p w B.length s t f s2 t2) :
    ∀ t', Rel2 K K' deadEnd H' gd lv B t t' → s.asleep →
      ∃ a s1 c1 p1, Path (denote table) p w B.length s1 ⟨K a, c1, p1, B⟩ f s2 t2 ∧ Goes p w s t' s1 ⟨K' a, c1, p1, B⟩ := by
  induction x with
  | @here s t f he =>
    obtain ⟨cur, code, pos, st⟩ := t
    rintro ⟨cur', code', pos', st'⟩ ⟨e1, e2, R⟩ hz
    dsimp only at e1 e2 R
    subst e1 e2
    rcases R with ⟨r1, r2, x, r3, r4⟩ | ⟨r1, F⟩
    · subst r1 r2 r3 r4
      cases x with
      | pure a => exact ⟨a, _, _, _, .here he, .none _ _⟩
      | _ =>
        exfalso
        simp [endAt, Sem.wrap] at he
    · exfalso
      have l := F.longer.1
      have : ((st.length == B.length) = false) := beq_eq_false_iff_ne.mpr (Nat.ne_of_gt l)
      simp only [endAt, this] at he
      cases he
  | @go s s1 s2 t t1 t2 f he hc hs hrest ih =>
    obtain ⟨cur, code, pos, st⟩ := t
    rintro ⟨cur', code', pos', st'⟩ ⟨e1, e2, R⟩ hz
    dsimp only at e1 e2 R
    subst e1 e2
    have hz1 : s1.asleep := Shared.asleep_of_life (step_life _ _ _ _ _ _ _ hs) hz
    rcases R with ⟨r1, r2, x, r3, r4⟩ | ⟨r1, F⟩
    · subst r1 r2 r3 r4
      by_cases hp : ∃ a, x = .pure a
      · obtain ⟨a, rfl⟩ := hp
        exact ⟨a, _, _, _, .go he hc hs hrest, .none _ _⟩
      · have hp' : ∀ a, x ≠ .pure a := fun a e => hp ⟨a, e⟩
        have hr : ∀ e, x ≠ .raise e := by
          rintro e rfl
          obtain ⟨heap, gens, drawn, toks, os⟩ := s
          simp only [Sem.wrap, step] at hs
          cases hs
        obtain ⟨t1', k1, k2⟩ := step_outer (K' := K') (H' := H') hB hp' hs
        obtain ⟨a, s3, c1, p1, q1, q2⟩ := ih _ k2 hz1
        exact ⟨a, s3, c1, p1, q1, .one hz (calm_out hp' hr hc) k1 q2⟩
    · subst r1
      obtain ⟨t1', k1, k2⟩ := step_inner hB F hs
      obtain ⟨a, s3, c1, p1, q1, q2⟩ := ih _ k2 hz1
      exact ⟨a, s3, c1, p1, q1, .one hz (calm_in hB F hc) k1 q2⟩
end

/-- a counted run of a piece is such a run; what it leaves alone -/
theorem path_of_seg {p : Program} {w : World} {n0 : Nat} {ann : Option Value} {b : Nat} : ∀ (n : Nat) (s : Shared) (t : Thread) (f : Flow) (s' : Shared) (c : Code) (q : Pos),
    segRun table p w n0 ann b n s t = some (f, s', c, q) →
      (∃ t', Path (denote table) p w b s t f s' t' ∧ t'.code = c ∧ t'.pos = q) ∧ s'.os = s.os ∧
      ∀ a o, a < n0 → a ≠ mainNs → a ≠ cStatics → ann ≠ some (.ref a) → s.heap.get? a = some o → s'.heap.get? a = some o
  | 0, _, _, _, _, _, _, h => by cases h
  | n + 1, s, t, f, s', c, q, h => by
    unfold segRun at h
    cases he : endAt b t with
    | some g =>
      rw [he] at h
      obtain ⟨rfl, rfl, rfl, rfl⟩ : g = f ∧ s = s' ∧ t.code = c ∧ t.pos = q := by simpa using h
      exact ⟨⟨t, .here he, rfl, rfl⟩, rfl, fun _ _ _ _ _ _ z => z⟩
    | none =>
      rw [he] at h
      cases hk : stepOk n0 ann t with
      | false =>
        rw [hk] at h
        cases h
      | true =>
        rw [hk] at h
        cases hs : step (denote table) p w s t with
        | halt o s1 =>
          rw [hs] at h
          cases h
        | go s1 t1 =>
          rw [hs] at h
          obtain ⟨⟨t', x, e1, e2⟩, os, fr⟩ := path_of_seg n s1 t1 f s' c q h
          obtain ⟨hc, hk'⟩ := Bool.and_eq_true_iff.mp hk
          refine ⟨⟨t', .go he hc hs x, e1, e2⟩, os.trans (step_os_same hs (by revert hk'; cases t.cur <;> simp)), fun a o h1 h2 h3 h4 h5 => fr a o h1 h2 h3 h4 ?_⟩
          rw [step_heap (denote table) p w s s1 t t1 hs]
          revert hk'
          cases t.cur <;> intro hk' <;> try exact h5
          case update a' _ g _ =>
            have ne : a ≠ a' := by
              rintro rfl
              simp only [Bool.or_eq_true, Nat.ble_eq, beq_iff_eq] at hk'
              rcases hk' with ((z | z) | z) | z
              · exact absurd h1 (Nat.not_lt.mpr z)
              · exact h2 z
              · exact h3 z
              · exact h4 z
            rw [Heap.get?_update_ne _ _ _ _ ne]
            exact h5
          case alloc x _ => exact Heap.get?_push_of_some x h5

theorem fl_len (l : List Frame) : (forgetAll l).length = l.length := List.length_map ..
/-- a run of the proofs' machine, where frames' kept things are forgotten, is a real one -/
theorem path_of_reach {M : Model} {base : List Frame} {s s' : Shared} {t : Sem Fin} {c : Code} {p : Pos} {pre : List Frame} {e : End} (h : Reach M base s t c p pre s' e) :
    ∀ (f : Flow) (σ : Shared) (τ : Thread), e = .ret (.ok f) → σ.forget = s.forget → τ.forget = (⟨t, c, p, pre ++ base⟩ : Thread).forget →
      ∃ σ' τ', Path M.den M.prog M.w base.length σ τ f σ' τ' ∧ σ'.forget = s'.forget := by
  induction h with
  | exit hx =>
    rintro f σ ⟨cur, code, pos, st⟩ rfl hσ hτ
    obtain ⟨rfl, rfl⟩ := hx
    simp only [Thread.forget, Thread.mk.injEq, List.nil_append] at hτ
    obtain ⟨rfl, rfl, rfl, hst⟩ := hτ
    have hl : st.length = base.length := by
      have := congrArg List.length hst
      rw [fl_len, fl_len] at this
      exact this
    exact ⟨σ, _, .here (by simp [endAt, hl, leafOf]), hσ⟩
  | @step s t c p pre s1 t1 c1 p1 pre1 s' e hs _ ih =>
    rintro f σ ⟨cur, code, pos, st⟩ he hσ hτ
    have hτ' := hτ
    simp only [Thread.forget, Thread.mk.injEq] at hτ
    obtain ⟨rfl, rfl, rfl, hst⟩ := hτ
    have hl : st.length = pre.length + base.length := by
      have := congrArg List.length hst
      rw [fl_len, fl_len, List.length_append] at this
      exact this
    have hend : endAt base.length ⟨cur, code, pos, st⟩ = none := by
      cases hg : endAt base.length ⟨cur, code, pos, st⟩ with
      | none => rfl
      | some g =>
        exfalso
        unfold endAt at hg
        cases hq : (st.length == base.length) with
        | false =>
          simp only [hq] at hg
          cases hg
        | true =>
          have hpre : pre = [] := List.eq_nil_of_length_eq_zero (by have := beq_iff_eq.mp hq; omega)
          have hcur : cur = leafOf (.ok g) := by
            simp only [hq] at hg
            split at hg
            · rename_i z
              injection hg with hg
              rw [← hg]
              rfl
            · cases hg
          exact exits_no_step (e := .ret (.ok g)) ⟨hcur, hpre⟩ hs
    have hq : Thread.loud ⟨cur, code, pos, pre ++ base⟩ = false := by
      cases hq : Thread.loud ⟨cur, code, pos, pre ++ base⟩ with
      | false => rfl
      | true =>
        rw [Model.step_loud M hq] at hs
        cases hs
    rw [Model.step_quiet M hq] at hs
    have hcalm : Thread.calm ⟨cur, code, pos, st⟩ = true := by
      rw [← Thread.calm_forget, hτ', Thread.calm_forget, Thread.calm_eq, hq]
      cases hr : Thread.refused ⟨cur, code, pos, pre ++ base⟩ with
      | false => rfl
      | true =>
        obtain ⟨what, z⟩ := stepK_refused M.den M.prog M.w (s := s) hr
        rw [z] at hs
        cases hs
    have key : (step M.den M.prog M.w σ ⟨cur, code, pos, st⟩).forget = (Step.go s1 ⟨t1, c1, p1, pre1 ++ base⟩).forget := by
      rw [← stepK_forget, ← stepK_comm, hσ, hτ', stepK_comm, hs]
    cases hr : step M.den M.prog M.w σ ⟨cur, code, pos, st⟩ with
    | halt o s2 =>
      rw [hr] at key
      cases key
    | go σ1 τ1 =>
      rw [hr] at key
      simp only [Step.forget, Step.go.injEq] at key
      obtain ⟨σ', τ', x, y⟩ := ih f σ1 τ1 he key.1 key.2
      exact ⟨σ', τ', .go hend hcalm hr x, y⟩
end HA

set_option Elab.async false
set_option maxRecDepth 100000
namespace HA
open PySem PySem.W PySem.Calls PyProof.Rows

theorem wp_wrap {α : Type} (M : Model) (Γ : Ctx) (Q : Fin → Pos → Shared → Prop) (E : Value → Pos → Shared → Prop) (K : α → Sem Fin) (H : Value → Sem Fin) (m : Sem α) (p : Pos) (s : Shared) :
    Sem.wp M Γ (m.wrap K H id id) Q E p s = Sem.wp M Γ m (fun a p' s' => Sem.wp M Γ (K a) Q E p' s') (fun e p' s' => Sem.wp M Γ (H e) Q E p' s') p s := by
  induction m generalizing p s <;> simp only [Sem.wp, Sem.wrap, id, *]

section
open Classical
/-- tells whether the code that runs is the one that ran -/
noncomputable def told (cd : Code) : Flow → Sem Fin
  | .next => .stack fun l => if l.head?.map (·.1) = some cd then .pure (.done .next) else .unsupported "another code"
  | _ => .unsupported "another way"

theorem path_told {p : Program} {w : World} {B : List Frame} {cd c1 : Code} {a : Flow} {s1 s2 : Shared} {p1 : Pos} {t2 : Thread} {f : Flow}
    (x : Path (denote table) p w B.length s1 ⟨told cd a, c1, p1, B⟩ f s2 t2) : a = .next ∧ c1 = cd ∧ s2 = s1 := by
  cases a with
  | next =>
    refine ⟨rfl, ?_⟩
    cases x with
    | here he => simp [endAt, told] at he
    | go he hc hs x =>
      obtain ⟨heap, gens, drawn, toks, os⟩ := s1
      simp only [told, step, Step.go.injEq] at hs
      obtain ⟨rfl, rfl⟩ := hs
      by_cases hcd : c1 = cd
      · subst hcd
        refine ⟨rfl, ?_⟩
        simp only [List.head?_cons, Option.map_some, if_true] at x
        cases x with
        | here _ => rfl
        | go he _ _ _ => simp [endAt] at he
      · exfalso
        rw [if_neg (by simpa using hcd)] at x
        cases x with
        | here he => simp [endAt] at he
        | go _ _ hs _ => simp only [step] at hs; cases hs
  | _ =>
    exfalso
    cases x with
    | here he => simp [endAt, told] at he
    | go _ _ hs _ =>
      obtain ⟨heap, gens, drawn, toks, os⟩ := s1
      simp only [told, step] at hs
      cases hs

/-- a statement of the top whose end the rules tell -/
theorem stmt_goes {p : Program} {w : World} {A : Around} {st : Stmt} {env : Env} {cd : Code} {q pos : Pos} {s S : Shared} (hin : (Ctx.of cd [topFrame q]).In A) (hz : s.asleep) (hg : S.gens = #[])
    (h : wpAny (model p w) A (exec st env) (fun f s' => f = .next ∧ s' = S) (fun _ _ => False) s) (rest : List Stmt) :
    ∃ pos', Goes p w s (restOf (st :: rest) env cd pos [topFrame q]) S (restOf rest env cd pos' [topFrame q]) := by
  have h1 : Sem.wp (model p w) (Ctx.of cd [topFrame q]) ((exec st env).wrap (told cd) deadEnd id id) (Sem.finPost (model p w) (Ctx.of cd [topFrame q]) fun r s' => r = .ok .next ∧ s' = S)
      (fun e _ s' => (Except.error e : Result) = .ok .next ∧ s' = S) pos s := by
    rw [wp_wrap]
    refine (Sem.wp_mono _ _ _ (fun a p' s' z => ?_) (fun e p' s' z => z.elim) pos s (h _ pos hin))
    obtain ⟨rfl, rfl⟩ := z
    show Sem.wp _ _ (.stack _) _ _ p' s'
    rw [Sem.wp_stack]
    rw [if_pos (by rfl), Sem.wp_pure]
    exact ⟨rfl, rfl⟩
  obtain ⟨r, s', hr, rfl, rfl⟩ := (wp_iff_reach _ _ pos s).mp h1
  obtain ⟨σ', τ', x, y⟩ := path_of_reach hr .next s ⟨(exec st env).wrap (told cd) deadEnd id id, cd, pos, [topFrame q]⟩ rfl rfl rfl
  obtain ⟨a, s1, c1, p1, x1, x2⟩ := Path.lift (K' := fun f => match f with | .next => (execs rest env).wrap doneF (leaveH env) id id | f => doneF f) (H' := leaveH env) (B := [topFrame q]) rfl x
    ⟨(exec st env).wrap (fun f => match f with | .next => (execs rest env).wrap doneF (leaveH env) id id | f => doneF f) (leaveH env) id id, cd, pos, [topFrame q]⟩ ⟨rfl, rfl, .inl ⟨rfl, rfl, _, rfl, rfl⟩⟩ hz
  obtain ⟨rfl, rfl, rfl⟩ := path_told x1
  have e : σ' = s' := by
    obtain ⟨heap, gens, drawn, toks, os⟩ := σ'
    obtain ⟨heap', gens', drawn', toks', os'⟩ := s'
    simp only [Shared.forget, Shared.mk.injEq] at y
    obtain ⟨rfl, y, rfl, rfl, rfl⟩ := y
    obtain rfl : gens' = #[] := hg
    have : gens = #[] := by
      have z := congrArg Array.size y
      simp only [Array.size_map] at z
      exact Array.eq_empty_of_size_eq_zero z
    rw [this]
  rw [← e]
  refine ⟨p1, ?_⟩
  unfold restOf
  rw [execs_cons_wrap]
  exact x2
end

/-- a counted run of pieces goes on to what is left -/
theorem seg_goes {p : Program} {w : World} {n0 : Nat} {ann : Option Value} {n : Nat} {l : List Stmt} {env : Env} {c c' : Code} {q pos pos' : Pos} {s s' : Shared} (hz : s.asleep)
    (h : segRun table p w n0 ann 1 n s (piecesOf l env c pos [topFrame q]) = some (.next, s', c', pos')) (rest : List Stmt) :
    Goes p w s (restOf (l ++ rest) env c pos [topFrame q]) s' (restOf rest env c' pos' [topFrame q]) := by
  obtain ⟨⟨t', x, rfl, rfl⟩, _, _⟩ := path_of_seg n _ _ _ _ _ _ h
  obtain ⟨a, s1, c1, p1, x1, x2⟩ := Path.lift (K' := fun f => match f with | .next => (execs rest env).wrap doneF (leaveH env) id id | f => doneF f) (H' := leaveH env) (B := [topFrame q]) rfl x
    ⟨(execs l env).wrap (fun f => match f with | .next => (execs rest env).wrap doneF (leaveH env) id id | f => doneF f) (leaveH env) id id, c, pos, [topFrame q]⟩ ⟨rfl, rfl, .inl ⟨rfl, rfl, _, rfl, rfl⟩⟩ hz
  cases x1 with
  | go he _ _ _ => simp [endAt] at he
  | here he =>
    obtain rfl : a = .next := by simpa [endAt] using he
    unfold restOf
    rw [execs_app_wrap]
    exact x2
end HA

set_option Elab.async false
set_option maxRecDepth 100000
/-! a display of a dict whose keys are pairs of texts, told to the last object -/
namespace HC
open PySem HA

abbrev kd (prog : Program) (w : World) : HeapKind prog w (List Str) := tupleKind (strKind prog w)
abbrev XE := List Str × Addr × Value
abbrev Pr := Str × Str
def key (k : Pr) : List Str := [k.1, k.2]
def tupO (x : Pr) (t : Tok) : Obj := { cls := .type "tuple", data := .seq #[.str x.1 t, .str x.2 (t + 1)] }
def dictO (prog : Program) (w : World) (xs : List XE) : Obj := { cls := .type "dict", data := .dict (xs.map (entryOfKey (kd prog w))).toArray xs.length }
/-- a heap and what is new behind it -/
def G (b : Heap) (L : List Obj) : Heap := ⟨b.objs ++ L.toArray, b.life⟩
theorem G_nil (b : Heap) : G b [] = b := by
  obtain ⟨o, l⟩ := b
  simp [G]
theorem G_push (b : Heap) (L : List Obj) (o : Obj) : (G b L).push o = G b (L ++ [o]) := by
  obtain ⟨os, l⟩ := b
  simp [G, Heap.push]
theorem G_size (b : Heap) (L : List Obj) : (G b L).objs.size = b.objs.size + L.length := by simp [G]
theorem G_get {b : Heap} {L : List Obj} {i : Nat} {o : Obj} (h : L[i]? = some o) (hf : o.isFreed = false) : (G b L).get? (b.objs.size + i) = some o := by
  refine Heap.get?_some_iff.mpr ⟨?_, hf⟩
  simp [G, Array.getElem?_append, h]
theorem G_upd {b : Heap} {L : List Obj} {i : Nat} {o : Obj} (f : Obj → Obj) (h : L[i]? = some o) : (G b L).update (b.objs.size + i) f = G b (L.set i (f o)) := by
  obtain ⟨os, l⟩ := b
  simp only [G, Heap.update, Heap.mk.injEq, and_true]
  apply Array.ext'
  apply List.ext_getElem?
  intro j
  have hi : i < L.length := (List.getElem?_eq_some_iff.mp h).1
  simp only [Array.toList_modify, Array.toList_append, List.getElem?_modify, List.getElem?_append, List.getElem?_set, Array.length_toList]
  by_cases hj : j < os.size
  · have : ¬ os.size + i = j := by omega
    simp [hj, this]
  · by_cases he : os.size + i = j
    · subst he
      have e : L[i] = o := (List.getElem?_eq_some_iff.mp h).2
      simp only [hi, e, if_neg hj, List.getElem?_eq_getElem, Nat.add_sub_cancel_left, if_true]
      rfl
    · have : ¬ i = j - os.size := by omega
      simp [hj, he, this]

section
variable {prog : Program} {w : World}

theorem tupO_free (x : Pr) (t : Tok) : (tupO x t).isFreed = false := rfl
theorem dictO_free (xs : List XE) : (dictO prog w xs).isFreed = false := rfl
theorem dictO_put (xs : List XE) (x : XE) : Obj.mapDictKeys (·.push ((entryOfKey (kd prog w)) x)) (dictO prog w xs) = dictO prog w (xs ++ [x]) := by
  simp [dictO, Obj.mapDictKeys]
theorem tup_dict (x : Pr) (t : Tok) (xs : List XE) : tupO x t ≠ dictO prog w xs := by
  intro h
  have := congrArg Obj.data h
  cases this

/-- an entry whose key is a tuple among the new things -/
def Good (n0 : Nat) (L : List Obj) (x : XE) : Prop := ∃ i k t, x.1 = key k ∧ x.2.1 = n0 + i ∧ L[i]? = some (tupO k t)
structure Inv (prog : Program) (w : World) (n0 : Nat) (L : List Obj) (i0 : Nat) (xs : List XE) : Prop where
  at0 : L[i0]? = some (dictO prog w xs)
  good : ∀ x ∈ xs, Good n0 L x
  nod : (xs.map (·.1)).Nodup
theorem Good.app {n0 : Nat} {L : List Obj} {x : XE} (h : Good n0 L x) (R : List Obj) : Good n0 (L ++ R) x := by
  obtain ⟨i, k, t, a, b, c⟩ := h
  exact ⟨i, k, t, a, b, by rw [List.getElem?_append_left (List.getElem?_eq_some_iff.mp c).1]; exact c⟩
theorem Good.set {n0 : Nat} {L : List Obj} {x : XE} (h : Good n0 L x) {i0 : Nat} {xs : List XE} (h0 : L[i0]? = some (dictO prog w xs)) (o : Obj) : Good n0 (L.set i0 o) x := by
  obtain ⟨i, k, t, a, b, c⟩ := h
  refine ⟨i, k, t, a, b, ?_⟩
  have ne : i0 ≠ i := by
    rintro rfl
    rw [h0] at c
    exact tup_dict k t xs (Option.some.inj c).symm
  rw [List.getElem?_set_ne ne]
  exact c
theorem Inv.app {n0 i0 : Nat} {L : List Obj} {xs : List XE} (h : Inv prog w n0 L i0 xs) (R : List Obj) : Inv prog w n0 (L ++ R) i0 xs :=
  ⟨by rw [List.getElem?_append_left (List.getElem?_eq_some_iff.mp h.at0).1]; exact h.at0, fun x hx => (h.good x hx).app R, h.nod⟩
theorem Inv.put {n0 i0 : Nat} {L : List Obj} {xs : List XE} {x : XE} (h : Inv prog w n0 L i0 xs) (hx : Good n0 L x) (hn : x.1 ∉ xs.map (·.1)) :
    Inv prog w n0 (L.set i0 (dictO prog w (xs ++ [x]))) i0 (xs ++ [x]) := by
  have hi : i0 < L.length := (List.getElem?_eq_some_iff.mp h.at0).1
  refine ⟨by simp [hi], fun y hy => ?_, ?_⟩
  · rcases List.mem_append.mp hy with hy | hy
    · exact (h.good y hy).set h.at0 _
    · rw [List.mem_singleton.mp hy]
      exact hx.set h.at0 _
  · rw [List.map_append, List.nodup_append]
    refine ⟨h.nod, by simp, fun a ha b hb e => hn ?_⟩
    have : b = x.1 := by simpa using hb
    rw [← this, ← e]
    exact ha
/-- another dict stands as it stood -/
theorem Inv.other {n0 i0 i1 : Nat} {L : List Obj} {xs ys : List XE} (h : Inv prog w n0 L i0 xs) (h1 : L[i1]? = some (dictO prog w ys)) (ne : i1 ≠ i0) (o : Obj) : Inv prog w n0 (L.set i1 o) i0 xs :=
  ⟨by rw [List.getElem?_set_ne ne]; exact h.at0, fun x hx => (h.good x hx).set h1 o, h.nod⟩

theorem Good.is {b : Heap} {L : List Obj} {x : XE} (h : Good b.objs.size L x) : (kd prog w).is (G b L) x.1 x.2.1 := by
  obtain ⟨i, k, t, h1, h2, h3⟩ := h
  rw [h1, h2]
  refine ⟨tupO k t, #[.str k.1 t, .str k.2 (t + 1)], 0, G_get h3 (tupO_free k t), rfl, rfl, ?_⟩
  exact .cons (by simp [strKind, Value.isStrOf]) (.cons (by simp [strKind, Value.isStrOf]) .nil)
end
end HC

set_option Elab.async false
set_option maxRecDepth 100000
namespace HC
open PySem HA
section
variable {prog : Program} {w : World} {A : Around} {E : Value → Shared → Prop} {s : Shared} {b : Heap} {L : List Obj}

theorem wp_find {i0 : Nat} {xs : List XE} {x : XE} {Q : Option Nat → Shared → Prop} (hu : A.units < cLine) (hh : s.heap = G b L) (I : Inv prog w b.objs.size L i0 xs) (hx : Good b.objs.size L x) (hn : x.1 ∉ xs.map (·.1))
    (h : Q none s) : wpAny (model prog w) A (dictFind (b.objs.size + i0) (.ref x.2.1) ((kd prog w).hash x.1)) Q E s := by
  have hg : s.heap.get? (b.objs.size + i0) = some (dictO prog w xs) := by rw [hh]; exact G_get I.at0 (dictO_free xs)
  refine wpAny_dictFind_heap (knd := kd prog w) (xs := xs) hu (by rw [hh]; exact hx.is) hg rfl (by simp) (fun y hy => by rw [hh]; exact (I.good y hy).is) I.nod (fun _ => h) fun j p hj => ?_
  exact absurd (List.mem_map.mpr ⟨_, List.mem_of_getElem? hj, rfl⟩) hn

theorem wp_putKeys {i0 : Nat} {xs : List XE} {x : XE} {Q : Unit → Shared → Prop} {part : Option Value} (hh : s.heap = G b L) (I : Inv prog w b.objs.size L i0 xs) (hz : xs.length ≤ 1000)
    (h : Q () { s with heap := G b (L.set i0 (dictO prog w (xs ++ [x]))) }) :
    wpAny (model prog w) A (updateDictKeys (b.objs.size + i0) (·.push ⟨(kd prog w).hash x.1, .ref x.2.1, x.2.2⟩) part) Q E s := by
  have hg : s.heap.get? (b.objs.size + i0) = some (dictO prog w xs) := by rw [hh]; exact G_get I.at0 (dictO_free xs)
  refine wpAny_updateDictKeys hg rfl ?_ (by rw [sizeLine_eq]; simp; omega)
  rw [hh, G_upd _ I.at0]
  have e := dictO_put (prog := prog) (w := w) xs x
  unfold entryOfKey at e
  rw [e]
  exact h

theorem wp_setHashed {i0 : Nat} {xs : List XE} {x : XE} {Q : Unit → Shared → Prop} (hu : A.units < cLine) (hh : s.heap = G b L) (I : Inv prog w b.objs.size L i0 xs) (hx : Good b.objs.size L x) (hn : x.1 ∉ xs.map (·.1)) (hz : xs.length ≤ 1000)
    (h : Q () { s with heap := G b (L.set i0 (dictO prog w (xs ++ [x]))) }) :
    wpAny (model prog w) A (dictSetHashed (b.objs.size + i0) (.ref x.2.1) ((kd prog w).hash x.1) x.2.2) Q E s := by
  unfold dictSetHashed
  refine wpAny_holding (wpAny_bind (wp_find hu hh I hx hn (wpAny_bind (wpAny_rule (wp_putKeys hh I hz h)))))

theorem wp_dictPut {i0 : Nat} {xs : List XE} {x : XE} {Q : Unit → Shared → Prop} (hu : A.units < cLine) (hh : s.heap = G b L) (I : Inv prog w b.objs.size L i0 xs) (hx : Good b.objs.size L x) (hn : x.1 ∉ xs.map (·.1)) (hz : xs.length ≤ 1000)
    (h : Q () { s with heap := G b (L.set i0 (dictO prog w (xs ++ [x]))) }) :
    wpAny (model prog w) A (dictPut (b.objs.size + i0) ((kd prog w).hash x.1) (.ref x.2.1) x.2.2) Q E s := by
  unfold dictPut
  exact wpAny_bind (wp_find hu hh I hx hn (wp_putKeys hh I hz h))

theorem wp_set {i0 : Nat} {xs : List XE} {x : XE} {Q : Unit → Shared → Prop} (hu : A.units < cLine) (hh : s.heap = G b L) (I : Inv prog w b.objs.size L i0 xs) (hx : Good b.objs.size L x) (hn : x.1 ∉ xs.map (·.1)) (hz : xs.length ≤ 1000)
    (h : Q () { s with heap := G b (L.set i0 (dictO prog w (xs ++ [x]))), toks := s.toks + 3 }) :
    wpAny (model prog w) A (dictSet (b.objs.size + i0) (.ref x.2.1) x.2.2) Q E s := by
  unfold dictSet
  refine wpAny_holding (wpAny_bind ((kd prog w).pyHash (k := x.1) hu (by rw [hh]; exact hx.is) ?_))
  have e3 : (kd prog w).draws x.1 = 3 := by
    obtain ⟨i, k, t, e, _⟩ := hx
    rw [e]
    rfl
  rw [e3]
  exact wp_setHashed (s := { s with toks := s.toks + 3 }) hu hh I hx hn hz h

/-- what an expression does that makes a pair of texts -/
def Mk (prog : Program) (w : World) (A : Around) (p : Sem Value) (k : Pr) : Prop := ∀ (E : Value → Shared → Prop) (Q : Value → Shared → Prop) (s : Shared),
  Q (.ref s.heap.objs.size) { s with heap := s.heap.push (tupO k s.toks), toks := s.toks + 2 } → wpAny (model prog w) A p Q E s

abbrev Ent := Pr × Pr
abbrev SV := Sem Value × Sem Value
inductive Mks (prog : Program) (w : World) (A : Around) : List SV → List Ent → Prop
  | nil : Mks prog w A [] []
  | cons {p : SV} {e : Ent} {ps : List SV} {es : List Ent} : Mk prog w A p.1 e.1 → Mk prog w A p.2 e.2 → Mks prog w A ps es → Mks prog w A (p :: ps) (e :: es)
theorem Mks.app {ps qs : List SV} {es fs : List Ent} (h : Mks prog w A ps es) (k : Mks prog w A qs fs) : Mks prog w A (ps ++ qs) (es ++ fs) := by
  induction h with
  | nil => exact k
  | cons a b _ ih => exact .cons a b ih
theorem Mks.len {ps : List SV} {es : List Ent} (h : Mks prog w A ps es) : ps.length = es.length := by
  induction h with
  | nil => rfl
  | cons _ _ _ ih => simp [ih]

/-! what is made, as functions -/
structure St where
  L : List Obj
  t : Nat
  xs : List XE
def entry (n0 : Nat) (L : List Obj) (e : Ent) : XE := (key e.1, n0 + L.length, .ref (n0 + L.length + 1))
def pairO (e : Ent) (t : Nat) : List Obj := [tupO e.1 t, tupO e.2 (t + 2)]
def put (prog : Program) (w : World) (i0 : Nat) (st : St) (x : XE) (d : Nat) : St := ⟨st.L.set i0 (dictO prog w (st.xs ++ [x])), st.t + d, st.xs ++ [x]⟩
def stepLong (prog : Program) (w : World) (n0 i0 : Nat) (st : St) (e : Ent) : St := put prog w i0 ⟨st.L ++ pairO e st.t, st.t + 4, st.xs⟩ (entry n0 st.L e) 3
def evs (n0 : Nat) : List Obj → Nat → List Ent → List Obj × Nat × List XE
  | L, t, [] => (L, t, [])
  | L, t, e :: es => let r := evs n0 (L ++ pairO e t) (t + 4) es; (r.1, r.2.1, entry n0 L e :: r.2.2)
def sub (prog : Program) (w : World) (n0 : Nat) (L : List Obj) (t : Nat) (es : List Ent) : St :=
  let L0 := L ++ [dictO prog w []]
  if es.length ≤ 15 then let r := evs n0 L0 t es; r.2.2.foldl (fun st x => put prog w L.length st x 3) ⟨r.1, r.2.1, []⟩
  else es.foldl (stepLong prog w n0 L.length) ⟨L0, t, []⟩
def merge (prog : Program) (w : World) (st : St) (xs : List XE) : St := xs.foldl (fun st x => put prog w 0 st x 0) st
end
end HC

set_option Elab.async false
set_option maxRecDepth 100000
namespace HC
open PySem HA
section
variable {prog : Program} {w : World} {A : Around} {E : Value → Shared → Prop} {b : Heap}

/-- what stood among the new things stands -/
def Keep (prog : Program) (w : World) (n0 : Nat) (L0 L : List Obj) : Prop := ∀ i ys, i < L0.length → Inv prog w n0 L0 i ys → Inv prog w n0 L i ys
theorem Keep.none {n0 : Nat} {L : List Obj} : Keep prog w n0 L L := fun _ _ _ I => I
theorem Keep.app {n0 : Nat} {L0 L : List Obj} (h : Keep prog w n0 L0 L) (R : List Obj) : Keep prog w n0 L0 (L ++ R) := fun i ys hi I => (h i ys hi I).app R
theorem Keep.set {n0 i0 : Nat} {L0 L : List Obj} {xs : List XE} (h : Keep prog w n0 L0 L) (h0 : L[i0]? = some (dictO prog w xs)) (hl : L0.length ≤ i0) (o : Obj) : Keep prog w n0 L0 (L.set i0 o) :=
  fun i ys hi I => (h i ys hi I).other h0 (by omega) o

theorem entry_good {n0 : Nat} {L : List Obj} (e : Ent) (t : Nat) (R : List Obj) : Good n0 (L ++ pairO e t ++ R) (entry n0 L e) :=
  Good.app ⟨L.length, e.1, t, rfl, rfl, by simp [pairO]⟩ R

theorem push2 {L : List Obj} (e : Ent) (t : Nat) : ((G b L).push (tupO e.1 t)).push (tupO e.2 (t + 2)) = G b (L ++ pairO e t) := by
  rw [G_push, G_push]
  simp [pairO]
theorem size1 {L : List Obj} (o : Obj) : ((G b L).push o).objs.size = b.objs.size + L.length + 1 := by
  rw [G_push, G_size]
  simp [Nat.add_assoc]

theorem wp_evs {n0 : Nat} {gens : Array GenState} {drawn : Drawn} {os : OsState} (hn0 : n0 = b.objs.size) {ps : List SV} {es : List Ent} (M : Mks prog w A ps es) : ∀ {L : List Obj} {t : Nat} {Q : List (Value × Value) → Shared → Prop},
    Q ((evs n0 L t es).2.2.map fun x => (.ref x.2.1, x.2.2)) ⟨G b (evs n0 L t es).1, gens, drawn, (evs n0 L t es).2.1, os⟩ → wpAny (model prog w) A (evalPairs ps) Q E ⟨G b L, gens, drawn, t, os⟩ := by
  subst hn0
  induction M with
  | nil => exact fun h => evalPairs_nil h
  | @cons p e ps es m1 m2 _ ih =>
    intro L t Q h
    obtain ⟨p1, p2⟩ := p
    refine evalPairs_cons (m1 _ _ _ (m2 _ _ _ ?_))
    show wpAny _ _ _ _ _ (⟨((G b L).push (tupO e.1 t)).push (tupO e.2 (t + 2)), gens, drawn, t + 2 + 2, os⟩ : Shared)
    rw [push2]
    refine ih ?_
    show Q ((Value.ref (G b L).objs.size, Value.ref ((G b L).push (tupO e.1 t)).objs.size) :: _) _
    rw [size1, G_size]
    exact h

theorem evs_good {n0 : Nat} : ∀ {es : List Ent} {L : List Obj} {t : Nat}, (∃ R, (evs n0 L t es).1 = L ++ R) ∧ (∀ x ∈ (evs n0 L t es).2.2, Good n0 (evs n0 L t es).1 x) ∧ (evs n0 L t es).2.2.map (·.1) = es.map fun e => key e.1
  | [], L, t => ⟨⟨[], by simp [evs]⟩, by simp [evs], rfl⟩
  | e :: es, L, t => by
    obtain ⟨⟨R, h1⟩, h2, h3⟩ := evs_good (n0 := n0) (es := es) (L := L ++ pairO e t) (t := t + 4)
    refine ⟨⟨pairO e t ++ R, by simp only [evs, h1, List.append_assoc]⟩, fun x hx => ?_, by simp only [evs, List.map_cons, h3]; rfl⟩
    simp only [evs, List.mem_cons] at hx ⊢
    rcases hx with rfl | hx
    · rw [h1]
      exact entry_good e t R
    · exact h2 x hx

theorem wp_subDict {L : List Obj} {t : Nat} {gens : Array GenState} {drawn : Drawn} {os : OsState} {ps : List SV} {es : List Ent} {Q : Addr → Shared → Prop} (hu : A.units < cLine) (M : Mks prog w A ps es)
    (hnd : (es.map fun e => key e.1).Nodup) (hz : es.length ≤ 1000)
    (h : Inv prog w b.objs.size (sub prog w b.objs.size L t es).L L.length (sub prog w b.objs.size L t es).xs → (sub prog w b.objs.size L t es).xs.map (·.1) = (es.map fun e => key e.1) →
      Keep prog w b.objs.size L (sub prog w b.objs.size L t es).L → Q (b.objs.size + L.length) ⟨G b (sub prog w b.objs.size L t es).L, gens, drawn, (sub prog w b.objs.size L t es).t, os⟩) :
    wpAny (model prog w) A (subDict ps) Q E ⟨G b L, gens, drawn, t, os⟩ := by
  unfold subDict
  refine wpAny_bind (wpAny_alloc ?_)
  show wpAny _ _ _ _ _ (⟨(G b L).push (dictO prog w []), gens, drawn, t, os⟩ : Shared)
  rw [show (⟨G b L, gens, drawn, t, os⟩ : Shared).heap.objs.size = b.objs.size + L.length from G_size b L, G_push]
  have I0 : Inv prog w b.objs.size (L ++ [dictO prog w []]) L.length [] := ⟨by simp, fun _ hx => (nomatch hx), .nil⟩
  have K0 : Keep prog w b.objs.size L (L ++ [dictO prog w []]) := Keep.none.app _
  refine wpAny_bind (wpAny_holding ?_)
  unfold sub at h
  rw [M.len]
  by_cases hl : es.length ≤ 15
  · rw [if_pos hl]
    rw [if_pos hl] at h
    obtain ⟨⟨R, hR⟩, hgood, hkeys⟩ := evs_good (n0 := b.objs.size) (es := es) (L := L ++ [dictO prog w []]) (t := t)
    have I1 : Inv prog w b.objs.size (evs b.objs.size (L ++ [dictO prog w []]) t es).1 L.length [] := by
      rw [hR]
      exact I0.app R
    have K1 : Keep prog w b.objs.size L (evs b.objs.size (L ++ [dictO prog w []]) t es).1 := by
      rw [hR]
      exact K0.app R
    refine wpAny_bind (wp_evs rfl M (wpAny_holding (wpAny_bind ?_)))
    refine wpAny_forIn_list _ (fun rest _ s' => ∃ (xs : List XE) (st : St), rest = (xs.map fun x => (Value.ref x.2.1, x.2.2)) ∧ s' = ⟨G b st.L, gens, drawn, st.t, os⟩ ∧ Inv prog w b.objs.size st.L L.length st.xs ∧
      (∀ x ∈ xs, Good b.objs.size st.L x) ∧ ((st.xs ++ xs).map (·.1)) = (es.map fun e => key e.1) ∧ Keep prog w b.objs.size L st.L ∧
      xs.foldl (fun st x => put prog w L.length st x 3) st = (evs b.objs.size (L ++ [dictO prog w []]) t es).2.2.foldl (fun st x => put prog w L.length st x 3) ⟨(evs b.objs.size (L ++ [dictO prog w []]) t es).1, (evs b.objs.size (L ++ [dictO prog w []]) t es).2.1, []⟩) _ ?_ ?_ _ _
      ⟨_, ⟨_, _, []⟩, rfl, rfl, I1, hgood, hkeys, K1, rfl⟩
    · rintro ⟨kv, vv⟩ rest u s' ⟨xs, st, hr, rfl, I, hg, hk, K, hf⟩
      cases xs with
      | nil => simp at hr
      | cons x xs =>
        simp only [List.map_cons, List.cons.injEq, Prod.mk.injEq] at hr
        obtain ⟨⟨rfl, rfl⟩, rfl⟩ := hr
        have hnd' : ((st.xs ++ x :: xs).map (·.1)).Nodup := by rw [hk]; exact hnd
        have hlen : st.xs.length ≤ 1000 := by
          have e := congrArg List.length hk
          simp only [List.length_map, List.length_append, List.length_cons] at e
          omega
        have hn : x.1 ∉ st.xs.map (·.1) := by
          rw [List.map_append, List.map_cons, List.nodup_append] at hnd'
          exact fun hx => hnd'.2.2 _ hx _ List.mem_cons_self rfl
        have hx := hg x List.mem_cons_self
        refine wpAny_bind (wp_set (s := ⟨G b st.L, gens, drawn, st.t, os⟩) hu rfl I hx hn hlen ?_)
        exact wpAny_pure ⟨xs, put prog w L.length st x 3, rfl, rfl, I.put hx hn, fun y hy => (hg y (List.mem_cons_of_mem _ hy)).set I.at0 _, by simpa [put] using hk, K.set I.at0 (Nat.le_refl _) _, hf⟩
    · rintro u s' ⟨xs, st, hr, rfl, I, hg, hk, K, hf⟩
      cases xs with
      | cons x xs => simp at hr
      | nil =>
        simp only [List.foldl_nil] at hf
        rw [List.append_nil] at hk
        refine wpAny_pure (wpAny_pure ?_)
        dsimp only at h
        rw [← hf] at h
        exact h I hk K
  · rw [if_neg hl]
    rw [if_neg hl] at h
    refine wpAny_bind (wpAny_rule (wpAny_bind ?_))
    refine wpAny_forIn_list _ (fun rest _ s' => ∃ (es' : List Ent) (st : St), Mks prog w A rest es' ∧ s' = ⟨G b st.L, gens, drawn, st.t, os⟩ ∧ Inv prog w b.objs.size st.L L.length st.xs ∧
      (st.xs.map (·.1) ++ es'.map fun e => key e.1) = (es.map fun e => key e.1) ∧ Keep prog w b.objs.size L st.L ∧
      es'.foldl (stepLong prog w b.objs.size L.length) st = es.foldl (stepLong prog w b.objs.size L.length) ⟨L ++ [dictO prog w []], t, []⟩) _ ?_ ?_ _ _
      ⟨es, ⟨_, _, []⟩, M, rfl, I0, rfl, K0, rfl⟩
    · rintro ⟨p1, p2⟩ rest u s' ⟨es', st, M', rfl, I, hk, K, hf⟩
      cases M' with
      | @cons _ e _ es' m1 m2 M' =>
        have hnd' : (st.xs.map (·.1) ++ (e :: es').map fun e => key e.1).Nodup := by rw [hk]; exact hnd
        have hlen : st.xs.length ≤ 1000 := by
          have e := congrArg List.length hk
          simp only [List.length_map, List.length_append, List.length_cons] at e
          omega
        have hn : key e.1 ∉ st.xs.map (·.1) := by
          rw [List.map_cons, List.nodup_append] at hnd'
          exact fun hx => hnd'.2.2 _ hx _ List.mem_cons_self rfl
        refine wpAny_bind (m1 _ _ _ (wpAny_bind (wpAny_holding (m2 _ _ _ ?_))))
        show wpAny _ _ _ _ _ (⟨((G b st.L).push (tupO e.1 st.t)).push (tupO e.2 (st.t + 2)), gens, drawn, st.t + 2 + 2, os⟩ : Shared)
        rw [push2]
        show wpAny _ _ (holding [Value.ref (G b st.L).objs.size, Value.ref ((G b st.L).push (tupO e.1 st.t)).objs.size] (dictSet _ (Value.ref (G b st.L).objs.size) (Value.ref ((G b st.L).push (tupO e.1 st.t)).objs.size)) >>= _) _ _ _
        rw [size1, G_size]
        have hx : Good b.objs.size (st.L ++ pairO e st.t) (entry b.objs.size st.L e) := by
          have := entry_good (n0 := b.objs.size) (L := st.L) e st.t []
          rwa [List.append_nil] at this
        have I' := I.app (pairO e st.t)
        refine wpAny_bind (wpAny_holding (wp_set (x := entry b.objs.size st.L e) (s := ⟨G b (st.L ++ pairO e st.t), gens, drawn, st.t + 2 + 2, os⟩) hu rfl I' hx hn hlen ?_))
        exact wpAny_pure ⟨es', stepLong prog w b.objs.size L.length st e, M', rfl, I'.put hx hn, by simpa [stepLong, put, entry] using hk, (K.app _).set I'.at0 (Nat.le_refl _) _, hf⟩
    · rintro u s' ⟨es', st, M', rfl, I, hk, K, hf⟩
      cases M' with
      | nil =>
        simp only [List.foldl_nil] at hf
        rw [List.map_nil, List.append_nil] at hk
        refine wpAny_pure (wpAny_pure ?_)
        rw [← hf] at h
        exact h I hk K
end
end HC

set_option Elab.async false
set_option maxRecDepth 100000
namespace HC
open PySem HA
section
variable {prog : Program} {w : World} {A : Around} {E : Value → Shared → Prop} {b : Heap}

theorem dict_typeIs {s : Shared} {i0 : Nat} {L : List Obj} {xs : List XE} (hh : s.heap = G b L) (h : L[i0]? = some (dictO prog w xs)) : s.TypeIs (.ref (b.objs.size + i0)) "dict" :=
  ⟨_, by rw [hh]; exact G_get h (dictO_free xs), rfl⟩

theorem wp_merge {L : List Obj} {t i1 : Nat} {gens : Array GenState} {drawn : Drawn} {os : OsState} {XS xs : List XE} {Q : Unit → Shared → Prop} (hu : A.units < cLine) (hs : sysModules < b.objs.size)
    (I : Inv prog w b.objs.size L 0 XS) (I1 : Inv prog w b.objs.size L i1 xs) (hi : 0 < i1) (hne : XS ≠ []) (hnd : ((XS ++ xs).map (·.1)).Nodup) (hz : (XS ++ xs).length ≤ 1000)
    (h : Inv prog w b.objs.size (merge prog w ⟨L, t, XS⟩ xs).L 0 (XS ++ xs) → (merge prog w ⟨L, t, XS⟩ xs).xs = XS ++ xs →
      Q () ⟨G b (merge prog w ⟨L, t, XS⟩ xs).L, gens, drawn, t, os⟩) :
    wpAny (model prog w) A (mergeMapping b.objs.size (.ref (b.objs.size + i1)) false) Q E ⟨G b L, gens, drawn, t, os⟩ := by
  have hT := dict_typeIs (s := ⟨G b L, gens, drawn, t, os⟩) (prog := prog) (w := w) rfl I1.at0
  have g0 : (G b L).get? b.objs.size = some (dictO prog w XS) := G_get (i := 0) I.at0 (dictO_free XS)
  have g1 : (G b L).get? (b.objs.size + i1) = some (dictO prog w xs) := G_get I1.at0 (dictO_free xs)
  unfold mergeMapping
  refine wpAny_bind (wpAny_isInstance hT isSubtype_dict_dict ?_)
  rw [if_pos rfl]
  refine wpAny_bind (wpAny_specialOf hT F.slot_dict_iter.lookup ?_)
  simp only [beq_self_eq_true]
  refine wpAny_bind (wpAny_pure ?_)
  dsimp only
  rw [if_neg (show ¬ (b.objs.size + i1 == sysModules) = true from fun q => absurd (show (b.objs.size + i1 : Nat) = sysModules from eq_of_beq q) (Nat.ne_of_gt (Nat.lt_of_lt_of_le hs (Nat.le_add_right _ _))))]
  refine wpAny_bind (wpAny_dictEntries (s := ⟨G b L, gens, drawn, t, os⟩) g0 rfl ?_)
  rw [if_neg (show ¬ (XS.map (entryOfKey (kd prog w))).toArray.isEmpty = true by simp [hne])]
  refine wpAny_bind (wpAny_dictEntries (s := ⟨G b L, gens, drawn, t, os⟩) g1 rfl ?_)
  refine wpAny_bind (wpAny_dictEpoch (s := ⟨G b L, gens, drawn, t, os⟩) g1 rfl ?_)
  refine wpAny_bind ?_
  refine wpAny_forIn_list _ (fun rest _ s' => ∃ (j : Nat) (ds ys : List XE) (st : St), rest = List.range' j (xs.length - j) ∧ ds.length = j ∧ xs = ds ++ ys ∧ s' = ⟨G b st.L, gens, drawn, t, os⟩ ∧ st.t = t ∧ st.xs = XS ++ ds ∧
    Inv prog w b.objs.size st.L 0 st.xs ∧ Inv prog w b.objs.size st.L i1 xs ∧ ys.foldl (fun st x => put prog w 0 st x 0) st = merge prog w ⟨L, t, XS⟩ xs) _ ?_ ?_ _ _
    ⟨0, [], xs, ⟨L, t, XS⟩, by simp [List.range_eq_range'], rfl, rfl, rfl, rfl, by simp, I, I1, rfl⟩
  · rintro i rest u s' ⟨j, ds, ys, st, hr, hj, hxs, rfl, ht, hX, J0, J1, hf⟩
    cases ys with
    | nil =>
      rw [List.append_nil] at hxs
      subst hxs
      rw [hj, Nat.sub_self] at hr
      simp at hr
    | cons x ys =>
      have hlen : xs.length = j + ys.length + 1 := by rw [hxs, ← hj]; simp [Nat.add_assoc]
      rw [show xs.length - j = ys.length + 1 by omega, List.range'_succ] at hr
      injection hr with hr1 hr2
      subst hr1
      have hxi : xs[i]? = some x := by rw [hxs, ← hj]; simp
      have gg0 : (G b st.L).get? b.objs.size = some (dictO prog w st.xs) := G_get (i := 0) J0.at0 (dictO_free _)
      have gg1 : (G b st.L).get? (b.objs.size + i1) = some (dictO prog w xs) := G_get J1.at0 (dictO_free xs)
      have hnd' : ((st.xs ++ x :: ys).map (·.1)).Nodup := by rw [hX, List.append_assoc, ← hxs]; exact hnd
      have hn : x.1 ∉ st.xs.map (·.1) := by
        rw [List.map_append, List.map_cons, List.nodup_append] at hnd'
        exact fun hx => hnd'.2.2 _ hx _ List.mem_cons_self rfl
      have hz' : st.xs.length ≤ 1000 := by
        have e := hz
        rw [hX]
        rw [hxs] at e
        simp only [List.length_append] at e ⊢
        omega
      have hx := J1.good x (by rw [hxs]; simp)
      refine wpAny_bind (wpAny_dictEntries (s := ⟨G b st.L, gens, drawn, t, os⟩) gg1 rfl ?_)
      rw [show (List.map (entryOfKey (kd prog w)) xs).toArray[i]? = some (entryOfKey (kd prog w) x) by simp [hxi]]
      refine wpAny_bind (wpAny_holding ?_)
      simp only [Bool.false_eq_true, if_false]
      refine wp_dictPut (i0 := 0) (s := ⟨G b st.L, gens, drawn, t, os⟩) hu rfl J0 hx hn hz' ?_
      have J1' : Inv prog w b.objs.size (st.L.set 0 (dictO prog w (st.xs ++ [x]))) i1 xs := J1.other J0.at0 (by omega) _
      have gg2 : (G b (st.L.set 0 (dictO prog w (st.xs ++ [x])))).get? (b.objs.size + i1) = some (dictO prog w xs) := G_get J1'.at0 (dictO_free xs)
      refine wpAny_bind (wpAny_dictEpoch (s := ⟨G b (st.L.set 0 (dictO prog w (st.xs ++ [x]))), gens, drawn, t, os⟩) gg2 rfl ?_)
      rw [if_neg (by simp)]
      exact wpAny_pure ⟨i + 1, ds ++ [x], ys, put prog w 0 st x 0, by rw [hr2]; congr 1; omega, by simp [hj], by simp [hxs], rfl, ht, by simp [put, hX], J0.put hx hn, J1', hf⟩
  · rintro u s' ⟨j, ds, ys, st, hr, hj, hxs, rfl, ht, hX, J0, J1, hf⟩
    cases ys with
    | cons x ys =>
      have hlen : xs.length = j + ys.length + 1 := by rw [hxs, ← hj]; simp [Nat.add_assoc]
      rw [show xs.length - j = ys.length + 1 by omega, List.range'_succ] at hr
      cases hr
    | nil =>
      rw [List.append_nil] at hxs
      subst hxs
      simp only [List.foldl_nil] at hf
      rw [← hf] at h
      refine wpAny_pure (h ?_ hX)
      rw [← hX]
      exact J0
end
end HC

set_option Elab.async false
set_option maxRecDepth 100000
namespace HC
open PySem HA
section
variable {prog : Program} {w : World} {A : Around} {E : Value → Shared → Prop} {b : Heap}

structure Ds where
  main : Option (List XE)
  L : List Obj
  t : Nat
def flush (prog : Program) (w : World) (n0 : Nat) (es : List Ent) (d : Ds) : Ds := match es with
  | [] => d
  | _ :: _ => let st := sub prog w n0 d.L d.t es
    match d.main with
    | none => ⟨some st.xs, st.L, st.t⟩
    | some XS => ⟨some (XS ++ st.xs), (merge prog w ⟨st.L, st.t, XS⟩ st.xs).L, st.t⟩
def disp (prog : Program) (w : World) (n0 : Nat) : List Ent → List Ent → Ds → Ds
  | pend, [], d => flush prog w n0 pend d
  | pend, e :: es, d => if ((pend ++ [e]).length == 17) = true then disp prog w n0 [] es (flush prog w n0 (pend ++ [e]) d) else disp prog w n0 (pend ++ [e]) es d
def keysOf (d : Ds) : List (List Str) := match d.main with
  | none => []
  | some XS => XS.map (·.1)
def DI (prog : Program) (w : World) (n0 : Nat) (d : Ds) : Prop := match d.main with
  | none => d.L = []
  | some XS => Inv prog w n0 d.L 0 XS ∧ XS ≠ []
abbrev ks (es : List Ent) : List (List Str) := es.map fun e => key e.1

def flushT (run : List SV) (main : Option Addr) : Sem (Option Addr) :=
  if run.isEmpty = true then pure main else
    match main with
    | none => subDict run >>= fun d => pure (some d)
    | some d => holding [.ref d] (subDict run) >>= fun sub =>
        (holding [.ref d, .ref sub] (mergeMapping d (.ref sub) false)).onRaise (fun x => holding [.ref d, x] (runValue (.builtin "proto.let_go" {})) >>= fun _ => pure ()) >>= fun _ =>
          pure (some d)

theorem wp_flush {gens : Array GenState} {drawn : Drawn} {os : OsState} {ps : List SV} {es : List Ent} {d : Ds} (hu : A.units < cLine) (hs : sysModules < b.objs.size) (M : Mks prog w A ps es) (D : DI prog w b.objs.size d)
    (hnd : (keysOf d ++ ks es).Nodup) (hz : (keysOf d ++ ks es).length ≤ 1000) :
    wpAny (model prog w) A (flushT ps (d.main.map fun _ => b.objs.size)) (fun m s' => m = ((flush prog w b.objs.size es d).main.map fun _ => b.objs.size) ∧
      s' = ⟨G b (flush prog w b.objs.size es d).L, gens, drawn, (flush prog w b.objs.size es d).t, os⟩ ∧ DI prog w b.objs.size (flush prog w b.objs.size es d) ∧
      keysOf (flush prog w b.objs.size es d) = keysOf d ++ ks es) E ⟨G b d.L, gens, drawn, d.t, os⟩ := by
  unfold flushT
  cases M with
  | nil =>
    rw [if_pos (show ([] : List SV).isEmpty = true from rfl)]
    exact wpAny_pure ⟨rfl, rfl, D, by simp [flush]⟩
  | @cons p e ps es m1 m2 M =>
    rw [if_neg (by simp)]
    obtain ⟨main, L, t⟩ := d
    have M' : Mks prog w A (p :: ps) (e :: es) := .cons m1 m2 M
    have hl : (ks (e :: es)).length ≤ 1000 := by
      rw [List.length_append] at hz
      omega
    have hl' : (e :: es).length ≤ 1000 := by simpa using hl
    have hn : (ks (e :: es)).Nodup := (List.nodup_append.mp hnd).2.1
    cases main with
    | none =>
      obtain rfl : L = [] := D
      refine wpAny_bind (wp_subDict hu M' hn hl' fun I hk K => wpAny_pure ⟨rfl, rfl, ⟨I, ?_⟩, hk⟩)
      intro e0
      rw [e0] at hk
      cases hk
    | some XS =>
      obtain ⟨I0, hne⟩ : Inv prog w b.objs.size L 0 XS ∧ XS ≠ [] := D
      have hL : 0 < L.length := (List.getElem?_eq_some_iff.mp I0.at0).1
      refine wpAny_bind (wpAny_holding (wp_subDict hu M' hn hl' fun I hk K => ?_))
      have hk' : (XS ++ (sub prog w b.objs.size L t (e :: es)).xs).map (·.1) = keysOf ⟨some XS, L, t⟩ ++ ks (e :: es) := by
        rw [List.map_append, hk]
        rfl
      refine wpAny_bind (wpAny_onRaise (wpAny_holding (wp_merge hu hs (K 0 XS hL I0) I hL hne (by rw [hk']; exact hnd) (by
        have := congrArg List.length hk'
        rw [List.length_map] at this
        rw [this]
        exact hz) fun J _ => ?_)))
      exact wpAny_pure ⟨rfl, rfl, ⟨J, by simp [hne]⟩, hk'⟩

theorem wp_display {gens : Array GenState} {drawn : Drawn} {os : OsState} {t : Nat} {ps : List SV} {es : List Ent} {Q : Value → Shared → Prop} (hu : A.units < cLine) (hs : sysModules < b.objs.size) (M : Mks prog w A ps es)
    (hnd : (ks es).Nodup) (hz : es.length ≤ 1000) (hne : es ≠ [])
    (h : Q (.ref b.objs.size) ⟨G b (disp prog w b.objs.size [] es ⟨none, [], t⟩).L, gens, drawn, (disp prog w b.objs.size [] es ⟨none, [], t⟩).t, os⟩) :
    wpAny (model prog w) A (dictDisplay (ps.map fun p => (some p.1, p.2))) Q E ⟨b, gens, drawn, t, os⟩ := by
  unfold dictDisplay
  dsimp only
  refine wpAny_bind ?_
  refine wpAny_forIn_list _ (fun rest r s' => ∃ (pend es' : List Ent) (d : Ds) (qs : List SV), rest = (qs.map fun p => (some p.1, p.2)) ∧ Mks prog w A qs es' ∧ Mks prog w A r.2 pend ∧
    r.1 = (d.main.map fun _ => b.objs.size) ∧ s' = ⟨G b d.L, gens, drawn, d.t, os⟩ ∧ DI prog w b.objs.size d ∧ keysOf d ++ ks pend ++ ks es' = ks es ∧
    disp prog w b.objs.size pend es' d = disp prog w b.objs.size [] es ⟨none, [], t⟩) _ ?_ ?_ _ _ ⟨[], es, ⟨none, [], t⟩, ps, rfl, M, .nil, rfl, by rw [G_nil], rfl, rfl, rfl⟩
  · rintro ⟨k, v⟩ rest ⟨main, run⟩ s' ⟨pend, es', d, qs, hr, M1, M2, hm, rfl, D, hk, hf⟩
    cases M1 with
    | nil => cases hr
    | @cons p e qs es' m1 m2 M1 =>
      simp only [List.map_cons, List.cons.injEq, Prod.mk.injEq] at hr
      obtain ⟨⟨rfl, rfl⟩, rfl⟩ := hr
      dsimp only at hm M2 ⊢
      subst hm
      have M3 : Mks prog w A (run ++ [(p.1, p.2)]) (pend ++ [e]) := M2.app (.cons m1 m2 .nil)
      have hk3 : keysOf d ++ ks (pend ++ [e]) ++ ks es' = ks es := by
        rw [← hk]
        simp [ks]
      have hl := M3.len
      rw [disp] at hf
      rw [hl]
      by_cases h17 : ((pend ++ [e]).length == 17) = true
      · rw [if_pos h17]
        rw [if_pos h17] at hf
        have hnd' : (keysOf d ++ ks (pend ++ [e])).Nodup := by
          have := hnd
          rw [← hk3] at this
          exact (List.nodup_append.mp this).1
        have hz' : (keysOf d ++ ks (pend ++ [e])).length ≤ 1000 := by
          have := congrArg List.length hk3
          rw [List.length_append] at this
          have e2 : (ks es).length = es.length := List.length_map ..
          omega
        refine wpAny_bind (wpAny_mono (wp_flush (E := E) (gens := gens) (drawn := drawn) (os := os) hu hs M3 D hnd' hz') (fun m s' hq => ?_) fun _ _ q => q)
        obtain ⟨rfl, rfl, D', hk'⟩ := hq
        exact wpAny_pure ⟨[], es', flush prog w b.objs.size (pend ++ [e]) d, qs, rfl, M1, .nil, rfl, rfl, D', by rw [hk']; simpa [ks] using hk3, hf⟩
      · rw [if_neg h17]
        rw [if_neg h17] at hf
        exact wpAny_pure ⟨pend ++ [e], es', d, qs, rfl, M1, M3, rfl, rfl, D, hk3, hf⟩
  · rintro ⟨main, run⟩ s' ⟨pend, es', d, qs, hr, M1, M2, hm, rfl, D, hk, hf⟩
    cases M1 with
    | cons => cases hr
    | nil =>
      dsimp only at hm M2 ⊢
      subst hm
      rw [show ks [] = [] from rfl, List.append_nil] at hk
      have e2 : (ks es).length = es.length := List.length_map ..
      refine wpAny_bind (wpAny_mono (wp_flush (E := E) (gens := gens) (drawn := drawn) (os := os) hu hs M2 D (by rw [hk]; exact hnd) (by rw [hk, e2]; exact hz)) (fun m s' hq => ?_) fun _ _ q => q)
      obtain ⟨rfl, rfl, D', hk'⟩ := hq
      rw [disp] at hf
      rw [hf] at hk' D' ⊢
      rw [hk] at hk'
      cases hmain : (disp prog w b.objs.size [] es ⟨none, [], t⟩).main with
      | none =>
        exfalso
        unfold keysOf at hk'
        rw [hmain] at hk'
        cases es with
        | nil => exact hne rfl
        | cons => cases hk'
      | some XS => exact wpAny_pure h
end
end HC

set_option Elab.async false
set_option maxRecDepth 100000
namespace HC
open PySem HA
section
variable {prog : Program} {w : World} {A : Around} {E : Value → Shared → Prop} {b : Heap}


theorem mk_text {env : Env} {x : Str} {Q : Value → Shared → Prop} {s : Shared} (h : Q (.str x s.toks) { s with toks := s.toks + 1 }) : wpAny (model prog w) A (constValue env (.str x)) Q E s := wpAny_mkText h

theorem mk_pair (env : Env) (e1 e2 : Expr) (x y : Str) (k) (pos : Pos) (h1 : eval e1 env = constValue env (.str x)) (h2 : eval e2 env = constValue env (.str y)) (s1 : starEach [e1, e2] env = [(false, eval e1 env), (false, eval e2 env)]) :
    Mk prog w A (eval (.Tuple [e1, e2] k pos) env) (x, y) := by
  intro E Q s h
  rw [arm_eval_Tuple, s1, h1, h2]
  refine wpAny_bind (wpAny_standAt (wpAny_bind ?_))
  show wpAny _ _ (spliced [(false, constValue env (.str x)), (false, constValue env (.str y))]) _ _ _
  unfold spliced
  refine wpAny_bind (mk_text ?_)
  simp only [Bool.false_eq_true, if_false]
  refine wpAny_bind (wpAny_pure (wpAny_bind (wpAny_holding ?_)))
  unfold spliced
  refine wpAny_bind (mk_text ?_)
  simp only [Bool.false_eq_true, if_false]
  refine wpAny_bind (wpAny_pure (wpAny_bind (wpAny_holding ?_)))
  unfold spliced
  refine wpAny_pure (wpAny_pure (wpAny_pure ?_))
  exact wpAny_newTuple h (by rw [sizeLine_eq]; simp)

def ent? : Option Expr → Expr → Option Ent
  | some (.Tuple [.Constant (.str a) _ _, .Constant (.str b) _ _] _ _), .Tuple [.Constant (.str c) _ _, .Constant (.str d) _ _] _ _ => some ((a, b), (c, d))
  | _, _ => none
def ents? : List (Option Expr) → List Expr → Option (List Ent)
  | [], [] => some []
  | k :: ks, v :: vs => match ent? k v with
    | some e => match ents? ks vs with
      | some es => some (e :: es)
      | none => none
    | none => none
  | _, _ => none

theorem fits (env : Env) (pos : Pos) : ∀ {keys : List (Option Expr)} {values : List Expr} {es : List Ent}, ents? keys values = some es →
    ∃ ps : List SV, ((evalEachOpt keys env).zip ((evalEach values env).map fun v => v >>= fun x => standAt pos >>= fun _ => pure x)) = (ps.map fun p => (some p.1, p.2)) ∧ Mks prog w A ps es
  | [], [], es, h => by
    obtain rfl : [] = es := Option.some.inj h
    exact ⟨[], rfl, .nil⟩
  | [], _ :: _, _, h => by cases h
  | _ :: _, [], _, h => by cases h
  | k :: keys, v :: values, es, h => by
    unfold ents? at h
    cases he : ent? k v with
    | none =>
      rw [he] at h
      cases h
    | some e =>
      rw [he] at h
      cases hes : ents? keys values with
      | none =>
        rw [hes] at h
        cases h
      | some es' =>
        rw [hes] at h
        obtain rfl : e :: es' = es := Option.some.inj h
        obtain ⟨ps, h1, h2⟩ := fits env pos hes
        unfold ent? at he
        split at he
        · rename_i a u1 p1 b u2 p2 k1 q1 c u3 p3 d u4 p4 k2 q2
          obtain rfl := Option.some.inj he
          have m1 : Mk prog w A (eval (.Tuple [.Constant (.str a) u1 p1, .Constant (.str b) u2 p2] k1 q1) env) (a, b) := mk_pair env _ _ a b k1 q1 rfl rfl rfl
          have m2 : Mk prog w A (eval (.Tuple [.Constant (.str c) u3 p3, .Constant (.str d) u4 p4] k2 q2) env) (c, d) := mk_pair env _ _ c d k2 q2 rfl rfl rfl
          refine ⟨(eval (.Tuple [.Constant (.str a) u1 p1, .Constant (.str b) u2 p2] k1 q1) env, eval (.Tuple [.Constant (.str c) u3 p3, .Constant (.str d) u4 p4] k2 q2) env >>= fun x => standAt pos >>= fun _ => pure x) :: ps, ?_,
            .cons m1 (fun E Q s hq => ?_) h2⟩
          · rw [List.map_cons, ← h1]
            rfl
          · exact wpAny_bind (m2 _ _ _ (wpAny_bind (wpAny_standAt (wpAny_pure hq))))
        · cases he

theorem G_old {b : Heap} {L : List Obj} {a : Addr} (h : a < b.objs.size) : (G b L).get? a = b.get? a := by
  unfold Heap.get? G
  rw [show (b.objs ++ L.toArray)[a]? = b.objs[a]? from Array.getElem?_append_left h]

def storeO (w : World) (x : Str) (t : Nat) (v : Value) : Obj → Obj := Obj.putName x (hashStr w x) (.str x t) v
theorem wp_store {s : Shared} {a : Addr} {x : Str} {v : Value} {o : Obj} {des : Array DictEntry} {n : Nat} {Q : Unit → Shared → Prop} (ho : s.heap.get? a = some o) (hd : o.data = .dict des n) (hr : aRefKeyMayBeTheName x des = false)
    (h : Q () { s with heap := s.heap.update a (storeO w x s.toks v), toks := s.toks + 1 }) : wpAny (model prog w) A (nsSet a x v) Q E s := by
  unfold nsSet
  refine wpAny_bind ?_
  unfold strHash
  refine wpAny_bind (wpAny_askSetting (wpAny_pure (wpAny_bind (wpAny_mkText (wpAny_bind (wpAny_loadPart (s := { s with toks := s.toks + 1 }) ho ?_))))))
  rw [hd]
  dsimp only
  rw [if_neg (by rw [hr]; exact Bool.false_ne_true)]
  exact wpAny_updatePart (s := { s with toks := s.toks + 1 }) ho h

/-- the state behind the statement -/
def behind (prog : Program) (w : World) (x : Str) (a : Addr) (es : List Ent) (s : Shared) : Shared :=
  let d := disp prog w s.heap.objs.size [] es ⟨none, [], s.toks⟩
  ⟨(G s.heap d.L).update a (storeO w x d.t (.ref s.heap.objs.size)), s.gens, s.drawn, d.t + 1, s.os⟩
theorem stmt_wp {env : Env} {keys : List (Option Expr)} {values : List Expr} {x : Str} {pos pos' posd : Pos} {es : List Ent} {s : Shared} {o : Obj} {des : Array DictEntry} {n : Nat} (hu : A.units < cLine) (hs : sysModules < s.heap.objs.size)
    (he : ents? keys values = some es) (hnd : (ks es).Nodup) (hz : es.length ≤ 1000) (hne : es ≠ []) (hl : env.kindOf x = some .local)
    (hp : (env.scope.kind == .class || (env.scope.kind == .module && env.locals != env.globals)) = false) (ha : env.locals < s.heap.objs.size) (ho : s.heap.get? env.locals = some o) (hd : o.data = .dict des n) (hr : aRefKeyMayBeTheName x des = false) :
    wpAny (model prog w) A (exec (.Assign [.Name x pos'] (.Dict keys values posd) pos) env) (fun f s' => f = .next ∧ s' = behind prog w x env.locals es s) (fun _ _ => False) s := by
  obtain ⟨ps, h1, h2⟩ := fits (prog := prog) (w := w) (A := A) env posd he
  refine wpAny_Assign_Name (h := ?_) (hs := rfl)
  rw [arm_eval_Dict]
  refine wpAny_bind (wpAny_standAt ?_)
  show wpAny _ _ (dictDisplay ((evalEachOpt keys env).zip ((evalEach values env).map fun v => v >>= fun x => standAt posd >>= fun _ => pure x))) _ _ _
  rw [h1]
  refine wp_display (gens := s.gens) (drawn := s.drawn) (os := s.os) (t := s.toks) (b := s.heap) hu hs h2 hnd hz hne ?_
  rw [storeName_local hl hp]
  exact wp_store (by rw [G_old ha]; exact ho) hd hr ⟨rfl, rfl⟩
end
end HC

set_option Elab.async false
set_option maxRecDepth 100000
/-! the claim from a top that ran -/
namespace HA
open PySem PySem.W PySem.Calls PyProof.Rows

/-- .. with what it left alone -/
def Runs0 (p : Program) (w : World) (n0 : Nat) (ann : Option Value) (s : Shared) (t : Thread) (s' : Shared) (t' : Thread) : Prop :=
  Goes p w s t s' t' ∧ s'.os = s.os ∧ ∀ a o, a < n0 → a ≠ mainNs → a ≠ cStatics → ann ≠ some (.ref a) → s.heap.get? a = some o → s'.heap.get? a = some o
section
variable {p : Program} {w : World} {n0 : Nat} {ann : Option Value} {s s1 s2 : Shared} {t t1 t2 : Thread}
theorem Runs0.trans (x : Runs0 p w n0 ann s t s1 t1) (y : Runs0 p w n0 ann s1 t1 s2 t2) : Runs0 p w n0 ann s t s2 t2 :=
  ⟨x.1.trans y.1, y.2.1.trans x.2.1, fun a o h1 h2 h3 h4 h => y.2.2 a o h1 h2 h3 h4 (x.2.2 a o h1 h2 h3 h4 h)⟩
theorem Runs0.asleep (x : Runs0 p w n0 ann s t s1 t1) (hz : s.asleep) : s1.asleep := Shared.asleep_of_life x.1.2 hz

theorem seg_runs {n : Nat} {l : List Stmt} {env : Env} {c c' : Code} {q pos pos' : Pos} (hz : s.asleep)
    (h : segRun table p w n0 ann 1 n s (piecesOf l env c pos [topFrame q]) = some (.next, s1, c', pos')) (rest : List Stmt) :
    Runs0 p w n0 ann s (restOf (l ++ rest) env c pos [topFrame q]) s1 (restOf rest env c' pos' [topFrame q]) :=
  ⟨seg_goes hz h rest, (path_of_seg _ _ _ _ _ _ _ h).2⟩

theorem go_runs : ∀ {n : Nat} {s s1 : Shared} {t t1 : Thread}, s.asleep → topGo table p w n0 ann n s t = some (s1, t1) → Runs0 p w n0 ann s t s1 t1
  | 0, s, s1, t, t1, _, h => by
    obtain ⟨rfl, rfl⟩ : s = s1 ∧ t = t1 := by simpa [topGo] using h
    exact ⟨.none _ _, rfl, fun _ _ _ _ _ _ z => z⟩
  | n + 1, s, s1, t, t1, hz, h => by
    unfold topGo at h
    cases ht : through t with
    | true =>
      rw [ht] at h
      cases h
    | false =>
      rw [ht] at h
      cases hk : stepOk n0 ann t with
      | false =>
        rw [hk] at h
        cases h
      | true =>
        rw [hk] at h
        cases hs : step (denote table) p w s t with
        | halt o s2 =>
          rw [hs] at h
          cases h
        | go s2 t2 =>
          rw [hs] at h
          have hz2 : s2.asleep := Shared.asleep_of_life (step_life _ _ _ _ _ _ _ hs) hz
          obtain ⟨g, os, fr⟩ := go_runs (n := n) hz2 h
          obtain ⟨hc, hk'⟩ := Bool.and_eq_true_iff.mp hk
          refine ⟨.one hz hc hs g, os.trans (step_os_same hs (by revert hk'; cases t.cur <;> simp)), fun a o h1 h2 h3 h4 h5 => fr a o h1 h2 h3 h4 ?_⟩
          rw [step_heap (denote table) p w s s2 t t2 hs]
          revert hk'
          cases t.cur <;> intro hk' <;> try exact h5
          case update a' _ g _ =>
            have ne : a ≠ a' := by
              rintro rfl
              simp only [Bool.or_eq_true, Nat.ble_eq, beq_iff_eq] at hk'
              rcases hk' with ((z | z) | z) | z
              · exact absurd h1 (Nat.not_lt.mpr z)
              · exact h2 z
              · exact h3 z
              · exact h4 z
            rw [Heap.get?_update_ne _ _ _ _ ne]
            exact h5
          case alloc x _ => exact Heap.get?_push_of_some x h5

theorem block_runs {n : Nat} {b : List Stmt} {env : Env} {c' : Code} {q pos pos' : Pos} (hz : s.asleep)
    (h : segRun table p w n0 ann 1 n s (blockOf b env (.body b env) pos [topFrame q]) = some (.next, s1, c', pos')) :
    Runs0 p w n0 ann s ⟨denote table (.body b env), .body b env, pos, [topFrame q]⟩ s1 (restOf b env c' pos' [topFrame q]) := by
  obtain ⟨⟨t', x, rfl, rfl⟩, os, fr⟩ := path_of_seg n _ _ _ _ _ _ h
  refine ⟨?_, os, fr⟩
  obtain ⟨a, s3, c1, p1, x1, x2⟩ := Path.lift (K' := fun _ => (execs b env).wrap doneF (leaveH env) id id) (H' := .raise) (B := [topFrame q]) rfl x
    ⟨(blockStart b env).wrap (fun _ => (execs b env).wrap doneF (leaveH env) id id) .raise id id, .body b env, pos, [topFrame q]⟩ ⟨rfl, rfl, .inl ⟨rfl, rfl, _, rfl, rfl⟩⟩ hz
  rw [body_wrap]
  cases x1 with
  | go he _ _ _ => simp [endAt] at he
  | here he => exact x2
end

/-- a top that ran so leaves what the claims ask -/
theorem beh_of {p q : Program} {loose : List Str} {Xt : Shared → Bool} {XP : (Str → Option Value) → Heap → Prop} {YP : World → Heap → Prop} (e : opening p = plainProg p.main.scope.names) (f : ∀ s, fenceModules? p s = some s)
    (hch : chainsOk q = true) (hX : ∀ s, Xt s = true → XP (s.heap.nsMap mainGlobals) s.heap)
    (run : ∀ (w : World) (os : OsState), (⟨boot_heap w.params, #[], boot_drawn, boot_toks, os⟩ : Shared).asleep → ∃ (s1 : Shared) (t1 : Thread),
      Runs0 p w (boot_heap w.params).objs.size ((boot_heap w.params).nsMap mainGlobals "__annotations__") ⟨boot_heap w.params, #[], boot_drawn, boot_toks, os⟩ (topStub p) s1 t1 ∧ through t1 = true ∧
      HandSHeadRun.looksF p (boot_heap w.params) s1 = true ∧ openSeen q loose (importedModules p.main.body) Xt true s1 = openGood q loose ∧ YP w s1.heap) (w : World) :
    (∃ s, AfterRun (opening p) w s) ∧ ∀ s, AfterRun (opening p) w s → ∃ s0, fenceModules? p s = some s0 ∧ s0.gens = #[] ∧ ∃ s1, TopRan p w s0 s1 ∧ s1.asleep ∧ s1.gens = #[] ∧ s1.heap.isNs mainGlobals = true ∧
      Ground q loose [] XP w s1 (s1.heap.nsMap mainGlobals) (s1.heap.nsMap builtinsNs) s1.heap ∧ YP w s1.heap := by
  obtain ⟨⟨h, gs, d, k, os⟩, a, a'⟩ := Option.map_eq_some_iff.mp (boot_open (N := 600) e rfl f w)
  obtain ⟨rfl, rfl, rfl, rfl⟩ : h = boot_heap w.params ∧ gs = Array.mk [] ∧ d = boot_drawn ∧ k = boot_toks := by simpa using a'
  rw [← table_eq_tree] at a
  obtain ⟨s, h4, h5⟩ := Option.bind_eq_some_iff.mp a
  have A := AfterImport.of_importEnds h4
  refine ⟨⟨s, A⟩, fun s' hs' => ?_⟩
  obtain rfl : s' = s := AfterImport.unique hs' A
  have z : (⟨boot_heap w.params, #[], boot_drawn, boot_toks, os⟩ : Shared).asleep := Shared.asleep_of_life (fence_lifeW h5) A.life
  obtain ⟨s1, t1, ⟨⟨g, l⟩, o, fr⟩, th, lk, sn, y⟩ := run w os z
  have hb := HandSHeadRun.boot_ns w.params
  unfold HandSHeadRun.looksF at lk
  obtain ⟨lk, l1⟩ := Bool.and_eq_true_iff.mp lk
  obtain ⟨lk, l2⟩ := Bool.and_eq_true_iff.mp lk
  obtain ⟨l3, l4⟩ := Bool.and_eq_true_iff.mp lk
  obtain ⟨G, g0, g1, g2, g3, g4, g5⟩ := ground_of_open (w := w) hX hch sn
  refine ⟨_, h5, rfl, s1, ⟨?_, l, Shared.rest_eq o, ?_, g2, statics_of_ok l3, g3, g4, g5, gens_of_done l2, names_of_bound l4, laid_of_kept l1⟩, Shared.asleep_of_life l z, Array.eq_empty_of_size_eq_zero (beq_iff_eq.mp g0), g1, G, y⟩
  · obtain ⟨n, hn⟩ := g
    exact ⟨n, t1, hn, th⟩
  · intro b ob hb1 hb2
    refine fr b ob (Heap.lt_size hb1) (fun q => hb2 (.inl q)) (fun q => hb2 (.inr (.inl q))) (fun q => hb2 (.inr (.inr ?_))) hb1
    exact (Pin.globalOf_eq hb _).trans q

/-- a law whose top ran so -/
theorem holds_beh {r : OpenRow} {q : Program} {loose : List Str} {XP : (Str → Option Value) → Heap → Prop} {YP : World → Heap → Prop} {d : DefRec} {kwd : List (Str × Expr)}
    (beh : ∀ w, (∃ s, AfterRun (opening r.prog) w s) ∧ ∀ s, AfterRun (opening r.prog) w s → ∃ s0, fenceModules? r.prog s = some s0 ∧ s0.gens = #[] ∧ ∃ s1, TopRan r.prog w s0 s1 ∧ s1.asleep ∧ s1.gens = #[] ∧ s1.heap.isNs mainGlobals = true ∧
      Ground q loose [] (fun mg h => XP mg h ∧ RecFacts r.records h) w s1 (s1.heap.nsMap mainGlobals) (s1.heap.nsMap builtinsNs) s1.heap ∧ YP w s1.heap)
    (hYk : ∀ w h h', YP w h → (∀ b o, h.get? b = some o → h'.get? b = some o) → YP w h') (hXk : ∀ mg h h', XP mg h → (∀ b o, h.get? b = some o → h'.get? b = some o) → XP mg h')
    (hdef : defOf q r.name = some (d, kwd)) (hp : r.prog.theDef r.name = some (d.params, d.body, d.scope)) (hk : kwWritten? d.params.kwonlyargs d.params.kw_defaults = some kwd) (hwr : (!r.writes || r.records.isEmpty) = true)
    (k1 : r.wellSaid = true) (o1 : opensWell r.prog = true) (k5 : frees r.toRowW = true) (k6 : r.within.isEmpty = true) (hb : r.prog.bare) (hw : r.toRowW.promised)
    (call : WalkO q loose XP YP r.toRowW d kwd fun f vs => PySem.call f vs) : r.Holds := by
  obtain ⟨hsame, hu, ha, hap, hm⟩ := frees_parts k5
  refine ⟨k1, hw, ⟨hb, o1, by
    show r.toRowW.makers.map _ = []
    rw [hm]
    rfl⟩, hw.witness, fun w => ⟨(beh w).1, fun s' hs' => ?_⟩⟩
  obtain ⟨s0, hf, hg0, s, hT, hz, hgens, hg, G0, y⟩ := (beh w).2 s' hs'
  have G1 : Ground q loose [] XP w s (s.heap.nsMap mainGlobals) (s.heap.nsMap builtinsNs) s.heap :=
    ⟨G0.T, G0.B, G0.D, G0.TE, G0.TD, G0.W, G0.X.1, G0.cls, G0.has, G0.apart, G0.once, G0.K⟩
  have RF := G0.X.2
  refine ⟨s0, hf, hg0, s, hT, fun n hn => ?_, RF.1, RF.2.1, ?_⟩
  · have en : n = r.name := by
      split at hn
      · exact List.mem_singleton.mp hn
      · cases hn
    rw [en]
    exact pinned_of_view hg G1 hdef hp hk
  have G : Ground q loose r.records XP w s _ _ s.heap := RF.ground G1
  refine ClaimW.callFrom_of_specG (c := r.toRowW.claim) (tree := fun vs => do match ← nsGet mainNs r.name with
      | some f => do ret (← PySem.call f vs)
      | none => unsupported "claim.caller:no-such-global") hz hgens fun args hpre hlay ord hord => ?_
  obtain ⟨⟨vs, s2⟩, hlaid⟩ := Option.isSome_iff_exists.mp (layAllW_isSome (P := w.params) (ord := ord) G.has args r.toRowW.args s (pre_splitW hpre).1)
  have kp := layAllW_keeps _ _ _ hlaid
  have hal := layAllW_rest _ _ _ hlaid
  obtain ⟨as, hrd, hin, hold⟩ := reads_layAllW hord _ _ _ hlaid hlay s2.heap (fun _ _ z => z)
  have L : Laid r.toRowW.records w s s2 args vs as := ⟨⟨ord, hord, hlaid⟩, hrd, hin, hold, kp, hal.1.trans hgens, hal.2.2.1⟩
  have G2 := G.keeps hXk kp
  obtain ⟨a, o, pm, cd, doc, dV, kV, h1, h2, h3, h4, h5⟩ := G2.fn hdef
  have h := call w s s2 _ _ G2 (hYk _ _ _ y kp) a o pm cd doc dV kV h2 h3 h4 h5 (defOf_name hdef ▸ h1) L.gens args vs as hpre hlay L.reads L.well (L.low G.low)
  have hi := ident_freeW hu ha hap
  have hwi : r.toRowW.claim.within = [] := List.isEmpty_iff.mp k6
  refine ⟨vs, s2, hlaid, wpAny_bind (wpAny_nsGet G2.T.g ?_)⟩
  rw [h1]
  refine wpAny_bind (wpAny_mono h (fun v s3 g => wpAny_pure ⟨_, rfl, ?_⟩) fun e s3 g => ?_)
  · have u := g.laid (c := r.toRowW.claim) hsame hwi hi L
    exact ⟨u.1, u.2.1, u.2.2, fun q => ⟨namesKept_of hT hg _ kp g.2.1.old, noTable hwr q⟩⟩
  · have u := g.laid (c := r.toRowW.claim) hsame hwi hi L
    exact ⟨u.1, u.2.1, u.2.2, fun q => ⟨namesKept_of hT hg _ kp g.2.1.old, noTable hwr q⟩⟩
end HA

set_option Elab.async false
set_option maxRecDepth 100000
/-! the statement and what is behind it, over the heap as a tree -/
namespace HA
open PySem PySem.W PySem.Calls PyProof.Rows HC HandSHeadRun

theorem in_own (Γ : Ctx) : Γ.In ⟨Γ.handled, frameCount Γ.below + Γ.code.weight, none, none, Γ.units⟩ := by
  refine ⟨rfl, Nat.le_refl _, ?_, ?_, Nat.le_refl _⟩
  · intro l h
    cases h
  · intro l h
    cases h
theorem behind_tree {p : Program} {w : World} {x : Str} {es : List Ent} {S : SharedT} {T' : PySem.W.BT} {n' : Nat} {o : Obj}
    (h : putAll (disp p w S.n [] es ⟨none, [], S.toks⟩).L S.tree S.n = some (T', n')) (ho : T'.get mainNs = some o) :
    behind p w x mainNs es S.abs = (⟨T'.set mainNs (storeO w x (disp p w S.n [] es ⟨none, [], S.toks⟩).t (.ref S.n)), n', S.life, S.gens, S.drawn, (disp p w S.n [] es ⟨none, [], S.toks⟩).t + 1, S.os⟩ : SharedT).abs := by
  obtain ⟨T, n, life, gens, drawn, toks, os⟩ := S
  unfold behind
  have es1 : (SharedT.abs ⟨T, n, life, gens, drawn, toks, os⟩).heap.objs.size = n := absHeap_size T n life
  rw [es1]
  show (⟨(G (absHeap T n life) (disp p w n [] es ⟨none, [], toks⟩).L).update mainNs (storeO w x (disp p w n [] es ⟨none, [], toks⟩).t (.ref n)), gens, drawn, (disp p w n [] es ⟨none, [], toks⟩).t + 1, os⟩ : Shared) =
    ⟨absHeap (T'.set mainNs (storeO w x (disp p w n [] es ⟨none, [], toks⟩).t (.ref n))) n' life, gens, drawn, (disp p w n [] es ⟨none, [], toks⟩).t + 1, os⟩
  have e2 : G (absHeap T n life) (disp p w n [] es ⟨none, [], toks⟩).L = absHeap T' n' life := by
    have k := putAll_ok (life := life) h
    rw [k]
    exact (push_all life _ _).symm
  rw [e2, absHeap_set ho]

noncomputable def endC (p : Program) (w : World) (n0 : Nat) (ann : Option Value) (M : Nat) (x : Str) (es : List Ent) (rest : List Stmt) (env : Env) (cd : Code) (q : Pos) (S : SharedT) (pos' : Pos) : Option SharedT :=
  match putAll (disp p w S.n [] es ⟨none, [], S.toks⟩).L S.tree S.n with
  | some (T', n') => match (T'.get mainNs).isSome with
    | true => goF (stepQ (denQ tabQ) p w) n0 ann M ⟨T'.set mainNs (storeO w x (disp p w S.n [] es ⟨none, [], S.toks⟩).t (.ref S.n)), n', S.life, S.gens, S.drawn, (disp p w S.n [] es ⟨none, [], S.toks⟩).t + 1, S.os⟩ (restOf rest env cd pos' [topFrame q])
    | false => none
  | none => none

/-- what is asked of the state ahead of the statement -/
def asksC (x : Str) (S : SharedT) : Bool := match getT S mainNs with
  | some ⟨_, _, .dict des _, _⟩ => !(aRefKeyMayBeTheName x des)
  | _ => false

theorem end_runs {p : Program} {w : World} {n0 : Nat} {ann : Option Value} {M : Nat} {x : Str} {es : List Ent} {rest : List Stmt} {env : Env} {cd : Code} {q pos px pd pst : Pos} {keys : List (Option Expr)} {values : List Expr}
    {S : SharedT} {P : SharedT → Prop} (hz : S.abs.asleep) (hu : (Ctx.of cd [topFrame q]).units < cLine) (hs : sysModules < S.n) (hm : mainNs < S.n) (hn0 : n0 ≤ S.n) (hg : S.gens = #[]) (he : ents? keys values = some es) (hnd : (ks es).Nodup) (hlen : es.length ≤ 1000) (hne : es ≠ [])
    (hl : env.kindOf x = some .local) (hp : (env.scope.kind == .class || (env.scope.kind == .module && env.locals != env.globals)) = false) (hloc : env.locals = mainNs) (ha : asksC x S = true)
    (run : ∀ pos', ∃ s1, endC p w n0 ann M x es rest env cd q S pos' = some s1 ∧ P s1) :
    ∃ s1 t1, Runs0 p w n0 ann S.abs (restOf (.Assign [.Name x px] (.Dict keys values pd) pst :: rest) env cd pos [topFrame q]) s1.abs t1 ∧ through t1 = true ∧ P s1 := by
  have es1 : S.abs.heap.objs.size = S.n := absHeap_size S.tree S.n S.life
  obtain ⟨o, des, n, ho, hd, hr⟩ : ∃ o des n, S.abs.heap.get? env.locals = some o ∧ o.data = .dict des n ∧ aRefKeyMayBeTheName x des = false := by
    rw [hloc, ← getT_eq]
    unfold asksC at ha
    split at ha
    · rename_i c d des n sl e
      exact ⟨_, des, n, e, rfl, by simpa using ha⟩
    · cases ha
  have hw := stmt_wp (prog := p) (w := w) (A := ⟨(Ctx.of cd [topFrame q]).handled, frameCount (Ctx.of cd [topFrame q]).below + (Ctx.of cd [topFrame q]).code.weight, none, none, (Ctx.of cd [topFrame q]).units⟩) (env := env) (pos := pst) (pos' := px) (posd := pd) (s := S.abs) hu
    (by rw [es1]; exact hs) he hnd hlen hne hl hp (by rw [hloc, es1]; exact hm) ho hd hr
  rw [hloc] at hw ho
  obtain ⟨pos', g⟩ := stmt_goes (pos := pos) (cd := cd) (q := q) (in_own _) hz hg hw rest
  obtain ⟨s1, r, hP⟩ := run pos'
  unfold endC at r
  cases hput : putAll (disp p w S.n [] es ⟨none, [], S.toks⟩).L S.tree S.n with
  | none =>
    rw [hput] at r
    cases r
  | some v =>
    obtain ⟨T', n'⟩ := v
    rw [hput] at r
    dsimp only at r
    cases hT : T'.get mainNs with
    | none =>
      rw [hT] at r
      cases r
    | some o' =>
      rw [hT] at r
      have r2 : goF (stepQ (denQ tabQ) p w) n0 ann M ⟨T'.set mainNs (storeO w x (disp p w S.n [] es ⟨none, [], S.toks⟩).t (.ref S.n)), n', S.life, S.gens, S.drawn, (disp p w S.n [] es ⟨none, [], S.toks⟩).t + 1, S.os⟩ (restOf rest env cd pos' [topFrame q]) = some s1 := r
      rw [← stepQ_eq, ← denQ_eq, ← tabQ_eq] at r2
      have k := goF_ok r2
      rw [← behind_tree hput hT, ← table_eq_tree] at k
      have fr1 : ∀ a o, a < n0 → a ≠ mainNs → S.abs.heap.get? a = some o → (behind p w x mainNs es S.abs).heap.get? a = some o := fun a ob h1 h2 h3 => by
        show ((G S.abs.heap _).update mainNs _).get? a = some ob
        rw [Heap.get?_update_ne _ _ _ _ h2, G_old (by rw [es1]; exact Nat.lt_of_lt_of_le h1 hn0)]
        exact h3
      have hz2 : (behind p w x mainNs es S.abs).asleep := Shared.asleep_of_life g.2 hz
      obtain ⟨⟨m, t1, hm1, ht⟩, l, os, fr⟩ := topRun_spec _ _ _ _ hz2 k
      exact ⟨s1, t1, ⟨g.trans ⟨⟨m, hm1⟩, l⟩, os, fun a ob h1 h2 h3 h4 h5 => fr a ob h1 h2 h3 h4 (fr1 a ob h1 h2 h5)⟩, ht, hP⟩
end HA

set_option Elab.async false
set_option maxRecDepth 100000
/-! the whole top by one equation -/
noncomputable section
namespace HA
open PySem PySem.W PySem.Calls PyProof.Rows HC HandSHeadRun

section
variable (st : SharedT → Thread → Option (SharedT × Thread)) (n0 : Nat) (ann : Option Value)
/-- so many steps -/
def goK : Nat → SharedT → Thread → Option (SharedT × Thread)
  | 0, s, t => some (s, t)
  | m + 1, s, t => match through t with
    | true => none
    | false => match stepOk n0 ann t with
      | false => none
      | true => match st s t with
        | some (s', t') => frS s' fun s' => goK m s' t'
        | none => none
/-- a piece, to its end -/
def segF : Nat → SharedT → Thread → Option (SharedT × Code × Pos)
  | 0, _, _ => none
  | m + 1, s, t => match endAt 1 t with
    | some .next => some (s, t.code, t.pos)
    | some _ => none
    | none => match stepOk n0 ann t with
      | false => none
      | true => match st s t with
        | some (s', t') => frS s' fun s' => segF m s' t'
        | none => none
end
section
variable {tb : String → Option Builtin} {p : Program} {w : World} {n0 : Nat} {ann : Option Value}
theorem goK_ok : ∀ {m : Nat} {s s' : SharedT} {t t' : Thread}, goK (stepT (denote tb) p w) n0 ann m s t = some (s', t') → topGo tb p w n0 ann m s.abs t = some (s'.abs, t')
  | 0, s, s', t, t', h => by
    obtain ⟨rfl, rfl⟩ : s = s' ∧ t = t' := by simpa [goK] using h
    rfl
  | m + 1, s, s', t, t', h => by
    unfold goK at h
    unfold topGo
    cases ht : through t with
    | true =>
      rw [ht] at h
      cases h
    | false =>
      rw [ht] at h
      cases hk : stepOk n0 ann t with
      | false =>
        rw [hk] at h
        cases h
      | true =>
        rw [hk] at h
        cases hs : stepT (denote tb) p w s t with
        | none =>
          rw [hs] at h
          cases h
        | some r =>
          obtain ⟨s2, t2⟩ := r
          rw [hs] at h
          dsimp only at h ⊢
          rw [frS_eq] at h
          rw [stepT_spec hs]
          exact goK_ok h
theorem segF_ok : ∀ {m : Nat} {s s' : SharedT} {t : Thread} {c : Code} {q : Pos}, segF (stepT (denote tb) p w) n0 ann m s t = some (s', c, q) → segRun tb p w n0 ann 1 m s.abs t = some (.next, s'.abs, c, q)
  | 0, _, _, _, _, _, h => by cases h
  | m + 1, s, s', t, c, q, h => by
    unfold segF at h
    unfold segRun
    cases he : endAt 1 t with
    | some f =>
      rw [he] at h
      cases f with
      | next =>
        obtain ⟨rfl, rfl, rfl⟩ : s = s' ∧ t.code = c ∧ t.pos = q := by simpa using h
        rfl
      | _ => cases h
    | none =>
      rw [he] at h
      cases hk : stepOk n0 ann t with
      | false =>
        rw [hk] at h
        cases h
      | true =>
        rw [hk] at h
        cases hs : stepT (denote tb) p w s t with
        | none =>
          rw [hs] at h
          cases h
        | some r =>
          obtain ⟨s2, t2⟩ := r
          rw [hs] at h
          dsimp only at h ⊢
          rw [frS_eq] at h
          rw [stepT_spec hs]
          exact segF_ok h
end

/-- what the top is cut into -/
structure Cut where
  p : Program
  b : List Stmt
  A : List Stmt
  rest : List Stmt
  env : Env
  x : Str
  px : Pos
  keys : List (Option Expr)
  values : List Expr
  pd : Pos
  pst : Pos
  es : List Ent
  k0 : Nat
  pos0 : Pos
  q : Pos
  M1 : Nat
  M2 : Nat

/-- ahead of the statement -/
def Cut.ahead (C : Cut) (w : World) (os : OsState) (t : PySem.W.BT) (n0 : Nat) : Option (SharedT × Code × Pos) := match goK (stepQ (denQ tabQ) C.p w) n0 (bootAnn w) C.k0 (bootT w os (t, n0)) (topStub C.p) with
  | some (Sa, _) => match segF (stepQ (denQ tabQ) C.p w) n0 (bootAnn w) 100 Sa (blockOf C.b C.env (.body C.b C.env) C.pos0 [topFrame C.q]) with
    | some (Sb, c, pB) => segF (stepQ (denQ tabQ) C.p w) n0 (bootAnn w) C.M1 Sb (piecesOf C.A C.env c pB [topFrame C.q])
    | none => none
  | none => none
def Cut.asks (C : Cut) (n0 : Nat) (S : SharedT) (c : Code) : Bool := Nat.blt (Ctx.of c [topFrame C.q]).units cLine && (Nat.blt sysModules S.n && (Nat.blt mainNs S.n && (Nat.ble n0 S.n && (S.gens.size == 0 && asksC C.x S))))
def Cut.whole (C : Cut) (w : World) (os : OsState) (pos' : Pos) : Option SharedT := match putAll (boot_heap w.params).objs.toList .nil 0 with
  | some (t, n) => frNat n fun n0 => match C.ahead w os t n0 with
    | some (S, c, _) => match C.asks n0 S c with
      | true => endC C.p w n0 (bootAnn w) C.M2 C.x C.es C.rest C.env c C.q S pos'
      | false => none
    | none => none
  | none => none
end HA
end

set_option Elab.async false
set_option maxRecDepth 100000
/-! the top in pieces whose ends are told -/
noncomputable section
namespace HA
open PySem PySem.W PySem.Calls PyProof.Rows HC HandSHeadRun

section
variable {p : Program} {w : World} {os : OsState} {b A R : List Stmt} {env : Env} {cd c' : Code} {q pos pos' pos0 : Pos} {M k0 n0 : Nat} {ann : Option Value} {S S' : SharedT}

/-- the first steps: to the body -/
def stubF (p : Program) (k0 : Nat) (w : World) (os : OsState) : Option Thread := match putAll (boot_heap w.params).objs.toList .nil 0 with
  | some (t, n) => frNat n fun n0 => (goK (stepQ (denQ tabQ) p w) n0 (bootAnn w) k0 (bootT w os (t, n0)) (topStub p)).map fun r => r.2
  | none => none
/-- from nothing to the end of the first piece -/
def bootF (p : Program) (k0 : Nat) (b A : List Stmt) (env : Env) (pos0 q : Pos) (M : Nat) (w : World) (os : OsState) : Option (SharedT × Code × Pos) := match putAll (boot_heap w.params).objs.toList .nil 0 with
  | some (t, n) => frNat n fun n0 => match goK (stepQ (denQ tabQ) p w) n0 (bootAnn w) k0 (bootT w os (t, n0)) (topStub p) with
    | some (Sa, _) => match segF (stepQ (denQ tabQ) p w) n0 (bootAnn w) 100 Sa (blockOf b env (.body b env) pos0 [topFrame q]) with
      | some (Sb, c, pB) => segF (stepQ (denQ tabQ) p w) n0 (bootAnn w) M Sb (piecesOf A env c pB [topFrame q])
      | none => none
    | none => none
  | none => none

theorem piece_runs (hz : S.abs.asleep) (h : segF (stepQ (denQ tabQ) p w) n0 ann M S (piecesOf A env cd pos [topFrame q]) = some (S', c', pos')) (R : List Stmt) :
    Runs0 p w n0 ann S.abs (restOf (A ++ R) env cd pos [topFrame q]) S'.abs (restOf R env c' pos' [topFrame q]) := by
  rw [← stepQ_eq, ← denQ_eq, ← tabQ_eq] at h
  have G := segF_ok h
  rw [← table_eq_tree] at G
  exact seg_runs hz G R

theorem boot_runs (hb : b = A ++ R) (hstub : stubF p k0 w os = some ⟨denQ tabQ (.body b env), .body b env, pos0, [topFrame q]⟩) (h : bootF p k0 b A env pos0 q M w os = some (S', c', pos'))
    (hz : (⟨boot_heap w.params, #[], boot_drawn, boot_toks, os⟩ : Shared).asleep) :
    Runs0 p w (boot_heap w.params).objs.size (bootAnn w) ⟨boot_heap w.params, #[], boot_drawn, boot_toks, os⟩ (topStub p) S'.abs (restOf R env c' pos' [topFrame q]) := by
  unfold stubF at hstub
  unfold bootF at h
  cases e : putAll (boot_heap w.params).objs.toList .nil 0 with
  | none =>
    rw [e] at h
    cases h
  | some r =>
    obtain ⟨t, n⟩ := r
    rw [e] at hstub h
    dsimp only at hstub h
    rw [frNat_eq] at hstub h
    have eh := putAll_heap e
    have en : (boot_heap w.params).objs.size = n := by
      rw [← eh]
      exact absHeap_size t n _
    have eb : (bootT w os (t, n)).abs = ⟨boot_heap w.params, #[], boot_drawn, boot_toks, os⟩ := by
      show (⟨absHeap t n (boot_heap w.params).life, #[], boot_drawn, boot_toks, os⟩ : Shared) = _
      rw [eh]
    rw [en, ← eb]
    rw [← eb] at hz
    cases hg : goK (stepQ (denQ tabQ) p w) n (bootAnn w) k0 (bootT w os (t, n)) (topStub p) with
    | none =>
      rw [hg] at h
      cases h
    | some r =>
      obtain ⟨Sa, ta⟩ := r
      rw [hg] at hstub h
      obtain rfl : ta = ⟨denQ tabQ (.body b env), .body b env, pos0, [topFrame q]⟩ := Option.some.inj hstub
      rw [← stepQ_eq, ← denQ_eq, ← tabQ_eq] at hg
      have G1 := goK_ok hg
      rw [← table_eq_tree] at G1
      have R1 := go_runs hz G1
      have hz1 := R1.asleep hz
      dsimp only at h
      cases hs : segF (stepQ (denQ tabQ) p w) n (bootAnn w) 100 Sa (blockOf b env (.body b env) pos0 [topFrame q]) with
      | none =>
        rw [hs] at h
        cases h
      | some r =>
        obtain ⟨Sb, c, pB⟩ := r
        rw [hs] at h
        rw [← stepQ_eq, ← denQ_eq, ← tabQ_eq] at hs
        have G2 := segF_ok hs
        rw [← table_eq_tree] at G2
        have R2 := block_runs (b := b) (env := env) hz1 G2
        have R3 := piece_runs (R2.asleep hz1) h R
        rw [← hb] at R3
        exact (R1.trans R2).trans R3

/-- the state behind the statement, as a tree -/
def behT (p : Program) (w : World) (x : Str) (es : List Ent) (S : SharedT) : SharedT :=
  match putAll (disp p w S.n [] es ⟨none, [], S.toks⟩).L S.tree S.n with
  | some (T', n') => ⟨T'.set mainNs (storeO w x (disp p w S.n [] es ⟨none, [], S.toks⟩).t (.ref S.n)), n', S.life, S.gens, S.drawn, (disp p w S.n [] es ⟨none, [], S.toks⟩).t + 1, S.os⟩
  | none => S
def asksD (p : Program) (w : World) (n0 : Nat) (x : Str) (es : List Ent) (S : SharedT) : Bool := Nat.blt sysModules S.n && (Nat.blt mainNs S.n && (Nat.ble n0 S.n && (S.gens.size == 0 && (asksC x S && match putAll (disp p w S.n [] es ⟨none, [], S.toks⟩).L S.tree S.n with
  | some (T', _) => (T'.get mainNs).isSome
  | none => false))))

theorem stmt_runs {x : Str} {es : List Ent} {px pd pst : Pos} {keys : List (Option Expr)} {values : List Expr}
    (hz : S.abs.asleep) (hu : (Ctx.of cd [topFrame q]).units < cLine) (he : ents? keys values = some es) (hnd : (ks es).Nodup) (hlen : es.length ≤ 1000) (hne : es ≠ [])
    (hl : env.kindOf x = some .local) (hp : (env.scope.kind == .class || (env.scope.kind == .module && env.locals != env.globals)) = false) (hloc : env.locals = mainNs) (hk : asksD p w n0 x es S = true) (rest : List Stmt) :
    ∃ pos', Runs0 p w n0 ann S.abs (restOf (.Assign [.Name x px] (.Dict keys values pd) pst :: rest) env cd pos [topFrame q]) (behT p w x es S).abs (restOf rest env cd pos' [topFrame q]) := by
  unfold asksD at hk
  simp only [Bool.and_eq_true] at hk
  obtain ⟨k2, k3, k4, k5, k6, k7⟩ := hk
  have hs : sysModules < S.n := Nat.le_of_ble_eq_true k2
  have hm : mainNs < S.n := Nat.le_of_ble_eq_true k3
  have hn0 : n0 ≤ S.n := Nat.le_of_ble_eq_true k4
  have hg : S.gens = #[] := Array.eq_empty_of_size_eq_zero (beq_iff_eq.mp k5)
  have es1 : S.abs.heap.objs.size = S.n := absHeap_size S.tree S.n S.life
  obtain ⟨o, des, n, ho, hd, hr⟩ : ∃ o des n, S.abs.heap.get? env.locals = some o ∧ o.data = .dict des n ∧ aRefKeyMayBeTheName x des = false := by
    rw [hloc, ← getT_eq]
    unfold asksC at k6
    split at k6
    · rename_i c d des n sl e
      exact ⟨_, des, n, e, rfl, by simpa using k6⟩
    · cases k6
  have hw := stmt_wp (prog := p) (w := w) (A := ⟨(Ctx.of cd [topFrame q]).handled, frameCount (Ctx.of cd [topFrame q]).below + (Ctx.of cd [topFrame q]).code.weight, none, none, (Ctx.of cd [topFrame q]).units⟩) (env := env) (pos := pst) (pos' := px) (posd := pd) (s := S.abs) hu
    (by rw [es1]; exact hs) he hnd hlen hne hl hp (by rw [hloc, es1]; exact hm) ho hd hr
  rw [hloc] at hw ho
  obtain ⟨pos', g⟩ := stmt_goes (pos := pos) (cd := cd) (q := q) (in_own _) hz hg hw rest
  refine ⟨pos', ?_⟩
  unfold behT
  cases hput : putAll (disp p w S.n [] es ⟨none, [], S.toks⟩).L S.tree S.n with
  | none =>
    rw [hput] at k7
    cases k7
  | some v =>
    obtain ⟨T', n'⟩ := v
    rw [hput] at k7
    obtain ⟨o', hT⟩ := Option.isSome_iff_exists.mp k7
    dsimp only
    rw [← behind_tree hput hT]
    refine ⟨g, rfl, fun a ob h1 h2 h3 h4 h5 => ?_⟩
    show ((G S.abs.heap _).update mainNs _).get? a = some ob
    rw [Heap.get?_update_ne _ _ _ _ h2, G_old (by rw [es1]; exact Nat.lt_of_lt_of_le h1 hn0)]
    exact h5

theorem last_runs {t : Thread} {s1 : SharedT} (hz : S.abs.asleep) (h : goF (stepQ (denQ tabQ) p w) n0 ann M S t = some s1) : ∃ t1, Runs0 p w n0 ann S.abs t s1.abs t1 ∧ through t1 = true := by
  rw [← stepQ_eq, ← denQ_eq, ← tabQ_eq] at h
  have k := goF_ok h
  rw [← table_eq_tree] at k
  obtain ⟨⟨m, t1, hm1, ht⟩, l, os, fr⟩ := topRun_spec _ _ _ _ hz k
  exact ⟨t1, ⟨⟨⟨m, hm1⟩, l⟩, os, fr⟩, ht⟩
end

/-! ### states told -/
def setAll (l : List Obj) : List (Nat × Obj) → List Obj
  | [] => l
  | (i, o) :: r => setAll (l.set i o) r
mutual
def evensL : List Obj → List Obj
  | [] => []
  | x :: r => x :: oddsL r
def oddsL : List Obj → List Obj
  | [] => []
  | _ :: r => evensL r
end
/-- the heap's tree of a list, half by half -/
def bldT : Nat → List Obj → PySem.W.BT
  | 0, _ => .nil
  | _ + 1, [] => .nil
  | n + 1, x :: r => .node x (bldT n (evensL r)) (bldT n (oddsL r))
def treeOf (l : List Obj) : PySem.W.BT := bldT 16 l
def sta (l : List Obj) (n toks : Nat) (os : OsState) : SharedT := ⟨treeOf l, n, {}, #[], {}, toks, os⟩
def fd (st : Stmt) (name qual : Str) (g : Addr) (dfl pm code : Value) (b : Addr) : Data :=
  .func { name, qualname := qual, params := L2.defArgs st, body := .stmts (L2.defBody st), scope := L2.defScope st, globals := g, closure := [], defaults := dfl, kwdefaults := .none, pyModule := pm, code := code, builtins := b }
def en (w : World) (x : Str) (t : Nat) (v : Value) : DictEntry := ⟨hashStr w x, .str x t, v⟩
end HA
end

set_option Elab.async false
set_option maxRecDepth 100000
/-! facts of the objects behind the top, at addresses told -/
noncomputable section
namespace HA
open PySem PySem.W PySem.Calls PyProof.Rows HandSHeadRun
structure Tells (fa : List He.Fa) (fn : List He.DefD) (ex : PySem.W.Frag → Bool) (K : PySem.W.Frag) : Prop where
  d : He.SaysD fa fn K
  more : ex K = true
def lookK (as : List Addr) (fa : List He.Fa) (fn : List He.DefD) (ex : PySem.W.Frag → Bool) (g : Addr → Option Obj) : He.AlD × Bool := (He.obsD fa fn (He.frG g as), ex (He.frG g as))
def TellsAt (fa : List He.Fa) (fn : List He.DefD) (ex : PySem.W.Frag → Bool) (_ : World) (h : Heap) : Prop := ∃ K : PySem.W.Frag, K.In h ∧ Tells fa fn ex K
theorem tells_of {as : List Addr} {fa : List He.Fa} {fn : List He.DefD} {ex : PySem.W.Frag → Bool} {w : World} {s : SharedT} (e : lookK as fa fn ex (getT s) = (He.valD fn, true)) : TellsAt fa fn ex w s.abs.heap := by
  have eg : getT s = s.abs.heap.get? := funext (getT_eq s)
  rw [eg] at e
  exact ⟨_, He.frG_in, congrArg Prod.fst e, congrArg Prod.snd e⟩
theorem TellsAt.keeps {fa : List He.Fa} {fn : List He.DefD} {ex : PySem.W.Frag → Bool} (w : World) (h h' : Heap) (x : TellsAt fa fn ex w h) (k : ∀ b o, h.get? b = some o → h'.get? b = some o) : TellsAt fa fn ex w h' := by
  obtain ⟨K, hK, c⟩ := x
  exact ⟨K, PySem.W.Frag.In.keeps hK k, c⟩
theorem fun_of {K : PySem.W.Frag} {x qual : Str} {st : Stmt} {f : Addr} {fd : FuncData} (F : L2.FunD K x qual (L2.defArgs st) (L2.defBody st) (L2.defScope st) [] [] f fd) : L2.Fun K x qual st f fd := by
  obtain ⟨⟨oc, od, dV, kV, doc, pm, an, cdv, ct, osl, e, lk, hc, hd, _⟩, kp⟩ := F
  have hn : dV = .none := by
    rcases hd with ⟨h1, h2⟩ | ⟨h1, _⟩
    · first | exact h2 | exact h1
    · exact absurd rfl h1
  subst hn
  exact ⟨⟨oc, od, kV, doc, pm, an, cdv, ct, osl, e, lk, hc⟩, kp⟩
end HA
end

set_option Elab.async false
set_option linter.all false
set_option maxRecDepth 100000
set_option maxHeartbeats 0
/-! the objects behind the top -/
noncomputable section
namespace S8H
open PySem PySem.W PySem.Calls PyProof.Rows HA HC HandSHeadRun
def tp (i : Nat) : Stmt := PySem.Challenge.pw_slumberway_k80_rows_edited.main.body.getD i (.Pass ⟨0, 0, 0, 0⟩)
def mt (i j : Nat) : Stmt := L2.inClass (tp i) j
def fdk (st : Stmt) (name qual : Str) (g : Addr) (dfl kw pm code : Value) (b : Addr) : Data :=
  .func { name, qualname := qual, params := L2.defArgs st, body := .stmts (L2.defBody st), scope := L2.defScope st, globals := g, closure := [], defaults := dfl, kwdefaults := kw, pyModule := pm, code := code, builtins := b }
def ob_0 (w : World) : List Obj := [
  ⟨.type "dict", none, .dict #[en w "__name__" 1 (.str "builtins" 160), en w "__doc__" 2 (.builtin "builtins.__doc__:str#opaque"), en w "__package__" 3 (.builtin "builtins.__package__:str#opaque"), en w "__loader__" 4 (.builtin "builtins.__loader__:shared#opaque"), en w "__spec__" 5 (.builtin "builtins.__spec__#opaque"), en w "__build_class__" 6 (.builtin "__build_class__"), en w "__import__" 7 (.builtin "__import__"), en w "abs" 8 (.builtin "abs"), en w "all" 9 (.builtin "all"), en w "any" 10 (.builtin "any"), en w "ascii" 11 (.builtin "ascii"), en w "bin" 12 (.builtin "bin"), en w "breakpoint" 13 (.builtin "breakpoint"), en w "callable" 14 (.builtin "callable"), en w "chr" 15 (.builtin "chr"), en w "compile" 16 (.builtin "compile"), en w "delattr" 17 (.builtin "delattr"), en w "dir" 18 (.builtin "dir"), en w "divmod" 19 (.builtin "divmod"), en w "eval" 20 (.builtin "eval"), en w "exec" 21 (.builtin "exec"), en w "format" 22 (.builtin "format"), en w "getattr" 23 (.builtin "getattr"), en w "globals" 24 (.builtin "globals"), en w "hasattr" 25 (.builtin "hasattr"), en w "hash" 26 (.builtin "hash"), en w "hex" 27 (.builtin "hex"), en w "id" 28 (.builtin "id"), en w "input" 29 (.builtin "input"), en w "isinstance" 30 (.builtin "isinstance"), en w "issubclass" 31 (.builtin "issubclass"), en w "iter" 32 (.builtin "iter"), en w "aiter" 33 (.builtin "aiter"), en w "len" 34 (.builtin "len"), en w "locals" 35 (.builtin "locals"), en w "max" 36 (.builtin "max"), en w "min" 37 (.builtin "min"), en w "next" 38 (.builtin "next"), en w "anext" 39 (.builtin "anext"), en w "oct" 40 (.builtin "oct"), en w "ord" 41 (.builtin "ord"), en w "pow" 42 (.builtin "pow"), en w "print" 43 (.builtin "print"), en w "repr" 44 (.builtin "repr"), en w "round" 45 (.builtin "round"), en w "setattr" 46 (.builtin "setattr"), en w "sorted" 47 (.builtin "sorted"), en w "sum" 48 (.builtin "sum"), en w "vars" 49 (.builtin "vars"), en w "None" 50 .none, en w "Ellipsis" 51 .ellipsis, en w "NotImplemented" 52 .notImplemented, en w "False" 53 (.bool false), en w "True" 54 (.bool true), en w "bool" 55 (.type "bool"), en w "memoryview" 56 (.type "memoryview"), en w "bytearray" 57 (.type "bytearray"), en w "bytes" 58 (.type "bytes"), en w "classmethod" 59 (.type "classmethod"), en w "complex" 60 (.type "complex"), en w "dict" 61 (.type "dict"), en w "enumerate" 62 (.type "enumerate"), en w "filter" 63 (.type "filter"), en w "float" 64 (.type "float"), en w "frozenset" 65 (.type "frozenset"), en w "property" 66 (.type "property"), en w "int" 67 (.type "int"), en w "list" 68 (.type "list"), en w "map" 69 (.type "map"), en w "object" 70 (.type "object"), en w "range" 71 (.type "range"), en w "reversed" 72 (.type "reversed"), en w "set" 73 (.type "set"), en w "slice" 74 (.type "slice"), en w "staticmethod" 75 (.type "staticmethod"), en w "str" 76 (.type "str"), en w "super" 77 (.type "super"), en w "tuple" 78 (.type "tuple"), en w "type" 79 (.type "type"), en w "zip" 80 (.type "zip"), en w "__debug__" 81 (.bool true), en w "BaseException" 82 (.type "BaseException"), en w "BaseExceptionGroup" 83 (.type "BaseExceptionGroup"), en w "Exception" 84 (.type "Exception"), en w "GeneratorExit" 85 (.type "GeneratorExit"), en w "KeyboardInterrupt" 86 (.type "KeyboardInterrupt"), en w "SystemExit" 87 (.type "SystemExit"), en w "ArithmeticError" 88 (.type "ArithmeticError"), en w "AssertionError" 89 (.type "AssertionError"), en w "AttributeError" 90 (.type "AttributeError"), en w "BufferError" 91 (.type "BufferError"), en w "EOFError" 92 (.type "EOFError"), en w "ImportError" 93 (.type "ImportError"), en w "LookupError" 94 (.type "LookupError"), en w "MemoryError" 95 (.type "MemoryError"), en w "NameError" 96 (.type "NameError"), en w "OSError" 97 (.type "OSError"), en w "ReferenceError" 98 (.type "ReferenceError"), en w "RuntimeError" 99 (.type "RuntimeError"), en w "StopAsyncIteration" 100 (.type "StopAsyncIteration"), en w "StopIteration" 101 (.type "StopIteration"), en w "SyntaxError" 102 (.type "SyntaxError"), en w "SystemError" 103 (.type "SystemError"), en w "TypeError" 104 (.type "TypeError"), en w "ValueError" 105 (.type "ValueError"), en w "Warning" 106 (.type "Warning"), en w "FloatingPointError" 107 (.type "FloatingPointError"), en w "OverflowError" 108 (.type "OverflowError"), en w "ZeroDivisionError" 109 (.type "ZeroDivisionError"), en w "BytesWarning" 110 (.type "BytesWarning"), en w "DeprecationWarning" 111 (.type "DeprecationWarning"), en w "EncodingWarning" 112 (.type "EncodingWarning"), en w "FutureWarning" 113 (.type "FutureWarning"), en w "ImportWarning" 114 (.type "ImportWarning"), en w "PendingDeprecationWarning" 115 (.type "PendingDeprecationWarning"), en w "ResourceWarning" 116 (.type "ResourceWarning"), en w "RuntimeWarning" 117 (.type "RuntimeWarning"), en w "SyntaxWarning" 118 (.type "SyntaxWarning"), en w "UnicodeWarning" 119 (.type "UnicodeWarning"), en w "UserWarning" 120 (.type "UserWarning"), en w "BlockingIOError" 121 (.type "BlockingIOError"), en w "ChildProcessError" 122 (.type "ChildProcessError"), en w "ConnectionError" 123 (.type "ConnectionError"), en w "FileExistsError" 124 (.type "FileExistsError"), en w "FileNotFoundError" 125 (.type "FileNotFoundError"), en w "InterruptedError" 126 (.type "InterruptedError"), en w "IsADirectoryError" 127 (.type "IsADirectoryError"), en w "NotADirectoryError" 128 (.type "NotADirectoryError"), en w "PermissionError" 129 (.type "PermissionError"), en w "ProcessLookupError" 130 (.type "ProcessLookupError"), en w "TimeoutError" 131 (.type "TimeoutError"), en w "IndentationError" 132 (.type "IndentationError"), en w "_IncompleteInputError" 133 (.type "_IncompleteInputError"), en w "IndexError" 134 (.type "IndexError"), en w "KeyError" 135 (.type "KeyError"), en w "ModuleNotFoundError" 136 (.type "ModuleNotFoundError"), en w "NotImplementedError" 137 (.type "NotImplementedError"), en w "PythonFinalizationError" 138 (.type "PythonFinalizationError"), en w "RecursionError" 139 (.type "RecursionError"), en w "UnboundLocalError" 140 (.type "UnboundLocalError"), en w "UnicodeError" 141 (.type "UnicodeError"), en w "BrokenPipeError" 142 (.type "BrokenPipeError"), en w "ConnectionAbortedError" 143 (.type "ConnectionAbortedError"), en w "ConnectionRefusedError" 144 (.type "ConnectionRefusedError"), en w "ConnectionResetError" 145 (.type "ConnectionResetError"), en w "TabError" 146 (.type "TabError"), en w "UnicodeDecodeError" 147 (.type "UnicodeDecodeError"), en w "UnicodeEncodeError" 148 (.type "UnicodeEncodeError"), en w "UnicodeTranslateError" 149 (.type "UnicodeTranslateError"), en w "ExceptionGroup" 150 (.type "ExceptionGroup"), en w "EnvironmentError" 151 (.type "OSError"), en w "IOError" 152 (.type "OSError"), en w "open" 153 (.builtin "open"), en w "quit" 154 (.builtin "builtins.quit#opaque"), en w "exit" 155 (.builtin "builtins.exit#opaque"), en w "copyright" 156 (.builtin "builtins.copyright#opaque"), en w "credits" 157 (.builtin "builtins.credits#opaque"), en w "license" 158 (.builtin "builtins.license#opaque"), en w "help" 159 (.builtin "builtins.help#opaque")] 159, #[]⟩,
  ⟨.type "dict", none, .dict #[en w "builtins" 162 (.ref 4), en w "__main__" 163 (.ref 5)] 2, #[]⟩,
  ⟨.none, none, .dict #[en w "type.__subclasses__.Exception.0" 867 (.int 421 0), en w "type.__subclasses__.Exception.n" 868 (.int 2 0), en w "type.__subclasses__.Exception.1" 1697 (.int 944 0)] 3, #[]⟩,
  ⟨.type "dict", none, .dict #[en w "__name__" 165 (.str "slumberway.building" 2064), en w "__doc__" 166 .none, en w "__package__" 167 .none, en w "__loader__" 168 (.builtin "__main__.__loader__#opaque"), en w "__spec__" 169 .none, en w "__annotations__" 170 (.ref 6), en w "__builtins__" 171 (.ref 4), en w "__file__" 173 (.str "/claim/cut.py" 172), en w "__cached__" 174 .none, en w "_wall" 193 (.ref 21), en w "SlumberError" 213 (.ref 31), en w "NoPlace" 229 (.ref 44), en w "BadRow" 245 (.ref 56), en w "TooMany" 261 (.ref 68), en w "NoBack" 277 (.ref 80), en w "NoSign" 302 (.ref 99), en w "NoReading" 329 (.ref 118), en w "Twice" 356 (.ref 137), en w "Counts" 381 (.ref 156), en w "Parts" 406 (.ref 175), en w "Unknown" 433 (.ref 194), en w "Clash" 462 (.ref 213), en w "Endless" 491 (.ref 232), en w "Broken" 516 (.ref 251), en w "SMALL" 520 (.str "abcdefghijklmnopqrstuvwxyz" 519), en w "GREAT" 522 (.str "ABCDEFGHIJKLMNOPQRSTUVWXYZ" 521), en w "FIGURES" 524 (.str "0123456789" 523), en w "LONGEST" 526 (.int 8 525), en w "REMARK" 528 (.str "--" 527), en w "SORTS" 589 (.ref 254), en w "LONG_SIGNS" 592 (.ref 256), en w "BLOCK_WORDS" 595 (.ref 257), en w "NEVER_ITEMS" 602 (.ref 258), en w "LAYING" 613 (.ref 259), en w "lexemes" 626 (.ref 266), en w "add_lexemes" 639 (.ref 273), en w "mixed_lexemes" 652 (.ref 280), en w "sort_of" 659 (.ref 287), en w "lexeme_at" 672 (.ref 294), en w "run_end" 682 (.ref 301), en w "sign_end" 692 (.ref 308), en w "laid" 708 (.ref 315), en w "end_place" 719 (.ref 322), en w "Layout" 831 (.ref 400), en w "is_whole" 840 (.ref 411), en w "MOST" 842 (.int 20000 841), en w "ARROW" 846 (.str "->" 845), en w "NUM" 848 (.int 0 847), en w "TRUTH" 850 (.int 1 849), en w "Clashing" 870 (.ref 421), en w "Solver" 1077 (.ref 548), en w "pieces_text" 1095 (.ref 559), en w "letter_text" 1103 (.ref 566), en w "binds" 1111 (.ref 571), en w "all_patterns" 1121 (.ref 578), en w "all_kinds" 1131 (.ref 585), en w "steps" 1142 (.ref 592), en w "hidden" 1150 (.ref 599), en w "rule_steps" 1162 (.ref 606), en w "def_steps" 1173 (.ref 613), en w "call_steps" 1180 (.ref 620), en w "op_steps" 1187 (.ref 627), en w "fun_steps" 1194 (.ref 634), en w "let_steps" 1200 (.ref 639), en w "if_steps" 1207 (.ref 646), en w "case_steps" 1218 (.ref 653), en w "WITHIN" 1233 (.ref 654), en w "free_names" 1245 (.ref 661), en w "NUMBERS_demanding" 1251 (.ref 662), en w "LEAVES_demanding" 1255 (.ref 663), en w "maker_shapes" 1261 (.ref 668), en w "key_of" 1268 (.ref 675), en w "Demanding" 1412 (.ref 778), en w "equation_step" 1425 (.ref 789), en w "pattern_step" 1431 (.ref 794), en w "demand_step" 1443 (.ref 801), en w "same_step" 1454 (.ref 808), en w "unbind_step" 1462 (.ref 815), en w "num_step" 1470 (.ref 822), en w "name_step" 1478 (.ref 829), en w "maker_step" 1488 (.ref 836), en w "call_step" 1496 (.ref 843), en w "called_step" 1509 (.ref 850), en w "op_step" 1521 (.ref 857), en w "fun_step" 1527 (.ref 862), en w "fun_done_step" 1538 (.ref 869), en w "let_step" 1544 (.ref 874), en w "as_step" 1555 (.ref 881), en w "if_step" 1567 (.ref 888), en w "alike_step" 1578 (.ref 895), en w "case_step" 1586 (.ref 902), en w "choices_step" 1592 (.ref 907), en w "choice_step" 1605 (.ref 914), en w "STEPS_demanding" 1646 (.ref 915), en w "groups" 1654 (.ref 921), en w "grouped" 1660 (.ref 926), en w "in_order" 1672 (.ref 933), en w "DEEPEST_quick" 1676 (.int 60 1675), en w "NUMBERS_quick" 1680 (.ref 934), en w "Odd" 1700 (.ref 944), en w "quick_of" 1708 (.ref 954), en w "Makers" 1748 (.ref 979), en w "are_kinds" 1759 (.ref 990), en w "Quick" 1957 (.ref 1109), en w "maker_kind" 1968 (.ref 1120), en w "call_kind" 1974 (.ref 1125), en w "op_kind" 1989 (.ref 1132), en w "fun_kind" 2003 (.ref 1139), en w "let_kind" 2018 (.ref 1146), en w "if_kind" 2034 (.ref 1153), en w "case_kind" 2048 (.ref 1160), en w "KINDS" 2063 (.ref 1161), en w "TIGHTNESS" 2081 (.ref 1162), en w "nothing" 2089 (.ref 1169), en w "keep_word" 2097 (.ref 1176), en w "keep_placed_word" 2105 (.ref 1183), en w "begin_placed" 2113 (.ref 1190), en w "begin_placed_word" 2121 (.ref 1197), en w "begin_line" 2129 (.ref 1204), en w "begin_made" 2137 (.ref 1211), en w "end_letters" 2145 (.ref 1218), en w "keep_letter" 2153 (.ref 1225), en w "keep_bare_kind" 2161 (.ref 1232), en w "begin_kind" 2169 (.ref 1239), en w "begin_kind_parts" 2177 (.ref 1246), en w "keep_place" 2185 (.ref 1253), en w "begin_equation" 2193 (.ref 1260), en w "begin_choice" 2201 (.ref 1267), en w "keep_any" 2209 (.ref 1274), en w "keep_bind" 2217 (.ref 1281), en w "keep_number" 2225 (.ref 1288), en w "keep_bare_made" 2233 (.ref 1295), en w "begin_pattern" 2241 (.ref 1302), en w "begin_pattern_parts" 2249 (.ref 1309), en w "choose_any" 2257 (.ref 1316), en w "choose_bind" 2265 (.ref 1323), en w "choose_number" 2273 (.ref 1330), en w "choose_made" 2281 (.ref 1337), en w "choose_bracket" 2289 (.ref 1344), en w "begin_sides" 2297 (.ref 1351), en w "begin_expr" 2305 (.ref 1358), en w "begin_asking" 2313 (.ref 1365), en w "first_atom" 2324 (.ref 1372), en w "first_number" 2332 (.ref 1379), en w "first_bracket" 2340 (.ref 1386), en w "keep_atom" 2351 (.ref 1393), en w "operand_atom" 2362 (.ref 1400), en w "operand_number" 2370 (.ref 1407), en w "operand_bracket" 2378 (.ref 1414), en w "keep_sign" 2395 (.ref 1421), en w "call_of" 2402 (.ref 1428), en w "close_expr" 2413 (.ref 1435), en w "close_data" 2420 (.ref 1442), en w "close_made" 2427 (.ref 1449), en w "close_kind" 2436 (.ref 1456), en w "close_kind_parts" 2443 (.ref 1463), en w "close_pattern" 2450 (.ref 1470), en w "close_pattern_parts" 2457 (.ref 1477), en w "close_equation" 2464 (.ref 1484), en w "close_guarded_equation" 2471 (.ref 1491), en w "close_choice" 2478 (.ref 1498), en w "close_guarded_choice" 2485 (.ref 1505), en w "close_fun" 2492 (.ref 1512), en w "close_let" 2499 (.ref 1519), en w "close_if" 2506 (.ref 1526), en w "close_case" 2513 (.ref 1533), en w "joined" 2519 (.ref 1538), en w "ACTS" 2594 (.ref 1539), en w "CLOSERS" 2627 (.ref 1542)] 169, #[]⟩,
  ⟨.type "module", (some 0), .plain, #[]⟩,
  ⟨.type "module", (some 3), .plain, #[]⟩,
  ⟨.type "dict", none, .dict #[] 0, #[]⟩,
  ⟨.type "tuple", none, .seq #[] 0, #[]⟩,
  ⟨.none, none, .fields #[], #[]⟩,
  ⟨.type "code", none, .fields #[.str "<module>" 176, .str "<module>" 177, .str "/claim/cut.py" 178, .int 1 0, .int 0 0, .int 0 0, .int 0 0, .int 0 0, .ref 7, .bool false, .int 175 0, .ref 8, .none, .none, .none, .none, .int 179 0, .int 1 0, .str "/claim/cut.py" 180], #[]⟩,
  ⟨.type "frame", none, .plain, #[(some (.ref 9)), (some (.ref 3)), (some (.ref 3)), none, (some (.str "__main__" 164)), none, (some (.ref 0))]⟩,
  ⟨.type "tuple", none, .seq #[] 0, #[]⟩,
  ⟨.none, none, .fields #[.int 1 0, .int 0 0, .ref 20, .int 5 0, .int 0 0, .ref 27, .int 7 0, .int 0 0, .ref 40, .int 9 0, .int 0 0, .ref 52, .int 11 0, .int 0 0, .ref 64, .int 13 0, .int 0 0, .ref 76, .int 15 0, .int 0 0, .ref 88, .int 19 0, .int 0 0, .ref 107, .int 24 0, .int 0 0, .ref 126, .int 29 0, .int 0 0, .ref 145, .int 33 0, .int 0 0, .ref 164, .int 37 0, .int 0 0, .ref 183, .int 42 0, .int 0 0, .ref 202, .int 48 0, .int 0 0, .ref 221, .int 54 0, .int 0 0, .ref 240, .int 69 0, .int 0 0, .ref 265, .int 83 0, .int 0 0, .ref 272, .int 101 0, .int 0 0, .ref 279, .int 109 0, .int 0 0, .ref 286, .int 121 0, .int 0 0, .ref 293, .int 137 0, .int 0 0, .ref 300, .int 139 0, .int 0 0, .ref 307, .int 145 0, .int 0 0, .ref 314, .int 161 0, .int 0 0, .ref 321, .int 166 0, .int 0 0, .ref 328, .int 242 0, .int 0 0, .ref 410, .int 249 0, .int 0 0, .ref 417, .int 251 0, .int 0 0, .ref 430, .int 428 0, .int 0 0, .ref 558, .int 450 0, .int 0 0, .ref 565, .int 457 0, .int 0 0, .ref 570, .int 459 0, .int 0 0, .ref 577, .int 468 0, .int 0 0, .ref 584, .int 479 0, .int 0 0, .ref 591, .int 489 0, .int 0 0, .ref 598, .int 491 0, .int 0 0, .ref 605, .int 498 0, .int 0 0, .ref 612, .int 503 0, .int 0 0, .ref 619, .int 505 0, .int 0 0, .ref 626, .int 507 0, .int 0 0, .ref 633, .int 509 0, .int 0 0, .ref 638, .int 511 0, .int 0 0, .ref 645, .int 513 0, .int 0 0, .ref 652, .int 519 0, .int 0 0, .ref 660, .int 535 0, .int 0 0, .ref 667, .int 543 0, .int 0 0, .ref 674, .int 545 0, .int 0 0, .ref 681, .int 641 0, .int 0 0, .ref 788, .int 644 0, .int 0 0, .ref 793, .int 654 0, .int 0 0, .ref 800, .int 657 0, .int 0 0, .ref 807, .int 660 0, .int 0 0, .ref 814, .int 662 0, .int 0 0, .ref 821, .int 664 0, .int 0 0, .ref 828, .int 666 0, .int 0 0, .ref 835, .int 669 0, .int 0 0, .ref 842, .int 671 0, .int 0 0, .ref 849, .int 679 0, .int 0 0, .ref 856, .int 683 0, .int 0 0, .ref 861, .int 689 0, .int 0 0, .ref 868, .int 692 0, .int 0 0, .ref 873, .int 695 0, .int 0 0, .ref 880, .int 698 0, .int 0 0, .ref 887, .int 701 0, .int 0 0, .ref 894, .int 704 0, .int 0 0, .ref 901, .int 706 0, .int 0 0, .ref 906, .int 712 0, .int 0 0, .ref 913, .int 717 0, .int 0 0, .ref 920, .int 721 0, .int 0 0, .ref 925, .int 746 0, .int 0 0, .ref 932, .int 761 0, .int 0 0, .ref 940, .int 763 0, .int 0 0, .ref 953, .int 768 0, .int 0 0, .ref 960, .int 807 0, .int 0 0, .ref 989, .int 821 0, .int 0 0, .ref 996, .int 978 0, .int 0 0, .ref 1119, .int 983 0, .int 0 0, .ref 1124, .int 992 0, .int 0 0, .ref 1131, .int 998 0, .int 0 0, .ref 1138, .int 1007 0, .int 0 0, .ref 1145, .int 1019 0, .int 0 0, .ref 1152, .int 1026 0, .int 0 0, .ref 1159, .int 1035 0, .int 0 0, .ref 1168, .int 1037 0, .int 0 0, .ref 1175, .int 1039 0, .int 0 0, .ref 1182, .int 1041 0, .int 0 0, .ref 1189, .int 1043 0, .int 0 0, .ref 1196, .int 1045 0, .int 0 0, .ref 1203, .int 1047 0, .int 0 0, .ref 1210, .int 1049 0, .int 0 0, .ref 1217, .int 1052 0, .int 0 0, .ref 1224, .int 1054 0, .int 0 0, .ref 1231, .int 1056 0, .int 0 0, .ref 1238, .int 1058 0, .int 0 0, .ref 1245, .int 1060 0, .int 0 0, .ref 1252, .int 1062 0, .int 0 0, .ref 1259, .int 1064 0, .int 0 0, .ref 1266, .int 1066 0, .int 0 0, .ref 1273, .int 1068 0, .int 0 0, .ref 1280, .int 1070 0, .int 0 0, .ref 1287, .int 1072 0, .int 0 0, .ref 1294, .int 1074 0, .int 0 0, .ref 1301, .int 1076 0, .int 0 0, .ref 1308, .int 1078 0, .int 0 0, .ref 1315, .int 1080 0, .int 0 0, .ref 1322, .int 1082 0, .int 0 0, .ref 1329, .int 1084 0, .int 0 0, .ref 1336, .int 1087 0, .int 0 0, .ref 1343, .int 1090 0, .int 0 0, .ref 1350, .int 1093 0, .int 0 0, .ref 1357, .int 1095 0, .int 0 0, .ref 1364, .int 1098 0, .int 0 0, .ref 1371, .int 1101 0, .int 0 0, .ref 1378, .int 1103 0, .int 0 0, .ref 1385, .int 1106 0, .int 0 0, .ref 1392, .int 1109 0, .int 0 0, .ref 1399, .int 1112 0, .int 0 0, .ref 1406, .int 1114 0, .int 0 0, .ref 1413, .int 1117 0, .int 0 0, .ref 1420, .int 1127 0, .int 0 0, .ref 1427, .int 1131 0, .int 0 0, .ref 1434, .int 1136 0, .int 0 0, .ref 1441, .int 1138 0, .int 0 0, .ref 1448, .int 1140 0, .int 0 0, .ref 1455, .int 1145 0, .int 0 0, .ref 1462, .int 1147 0, .int 0 0, .ref 1469, .int 1149 0, .int 0 0, .ref 1476, .int 1151 0, .int 0 0, .ref 1483, .int 1153 0, .int 0 0, .ref 1490, .int 1155 0, .int 0 0, .ref 1497, .int 1157 0, .int 0 0, .ref 1504, .int 1159 0, .int 0 0, .ref 1511, .int 1161 0, .int 0 0, .ref 1518, .int 1163 0, .int 0 0, .ref 1525, .int 1165 0, .int 0 0, .ref 1532, .int 1167 0, .int 0 0, .ref 1537], #[]⟩,
  ⟨.type "code", none, .fields #[.str "<module>" 182, .str "<module>" 183, .str "/claim/cut.py" 184, .int 1 0, .int 0 0, .int 0 0, .int 0 0, .int 0 0, .ref 11, .bool false, .int 181 0, .ref 12, .none, .none, .none, .none, .int 185 0, .int 1 0, .str "/claim/cut.py" 186], #[]⟩,
  ⟨.type "frame", none, .plain, #[(some (.ref 13)), (some (.ref 3)), (some (.ref 3)), none, (some (.str "__main__" 164)), none, (some (.ref 0))]⟩,
  ⟨.type "tuple", none, .seq #[] 0, #[]⟩,
  ⟨.none, none, .fields #[], #[]⟩,
  ⟨.type "tuple", none, .seq #[.str "k" 190] 0, #[]⟩,
  ⟨.type "tuple", none, .seq #[] 0, #[]⟩,
  ⟨.none, none, fd (tp 0) "_wall" "_wall" 0 .none .none .none 0, #[]⟩,
  ⟨.type "code", none, .fields #[.str "_wall" 187, .str "_wall" 188, .str "/claim/cut.py" 189, .int 1 0, .int 1 0, .int 0 0, .int 0 0, .int 3 0, .ref 15, .bool true, .int 181 0, .ref 16, .none, .ref 17, .ref 18, .ref 19, .int 191 0, .int 1 0, .str "/claim/cut.py" 192], #[]⟩,
  ⟨.type "function", none, fd (tp 0) "_wall" "_wall" 3 .none (.str "__main__" 164) (.ref 20) 0, #[]⟩,
  ⟨.type "tuple", none, .seq #[.type "ValueError"] 0, #[]⟩,
  ⟨.type "builtin_function_or_method", none, .fields #[.builtin "type.__prepare__", .type "type"], #[]⟩,
  ⟨.type "dict", none, .dict #[en w "__module__" 203 (.str "slumberway.errors" 194), en w "__qualname__" 205 (.str "SlumberError" 204), en w "__firstlineno__" 207 (.int 5 206), en w "__static_attributes__" 208 (.ref 29)] 4, #[]⟩,
  ⟨.type "tuple", none, .seq #[] 0, #[]⟩,
  ⟨.none, none, .fields #[], #[]⟩,
  ⟨.type "code", none, .fields #[.str "SlumberError" 198, .str "SlumberError" 199, .str "/claim/cut.py" 200, .int 5 0, .int 0 0, .int 0 0, .int 0 0, .int 0 0, .ref 25, .bool false, .int 181 0, .ref 26, .none, .none, .none, .none, .int 201 0, .int 5 0, .str "/claim/cut.py" 202], #[]⟩,
  ⟨.type "frame", none, .plain, #[(some (.ref 27)), (some (.ref 3)), (some (.ref 24)), none, (some (.str "slumberway.errors" 194)), none, (some (.ref 0))]⟩,
  ⟨.type "tuple", none, .seq #[] 0, #[]⟩,
  ⟨.type "dict", none, .dict #[en w "__module__" 203 (.str "slumberway.errors" 194), en w "__firstlineno__" 207 (.int 5 206), en w "__static_attributes__" 208 (.ref 29), en w "__weakref__" 210 (.ref 32), en w "__doc__" 211 .none] 3, #[]⟩,
  ⟨.type "type", none, .cls ⟨"SlumberError", [.type "ValueError"], [.ref 31, .type "ValueError", .type "Exception", .type "BaseException", .type "object"], 30, "SlumberError", true, [], [.ref 44, .ref 56, .ref 68, .ref 80, .ref 99, .ref 118, .ref 137, .ref 156, .ref 175, .ref 194, .ref 213, .ref 232, .ref 251], false, none, false⟩, #[(some (.ref 22)), none, (some (.str "SlumberError" 196)), (some (.str "SlumberError" 204)), (some (.builtin "ValueError.__new__")), (some (.bool true))]⟩,
  ⟨.type "getset_descriptor", none, .fields #[.str "__weakref__" 209, .ref 31, .builtin "ExceptionGroup.__weakref__", .none], #[]⟩,
  ⟨.type "super", none, .fields #[.ref 31, .ref 31, .ref 31], #[]⟩,
  ⟨.type "builtin_function_or_method", none, .fields #[.builtin "object.__init_subclass__", .ref 31], #[]⟩,
  ⟨.type "tuple", none, .seq #[.ref 31] 0, #[]⟩,
  ⟨.type "builtin_function_or_method", none, .fields #[.builtin "type.__prepare__", .type "type"], #[]⟩,
  ⟨.type "dict", none, .dict #[en w "__module__" 221 (.str "slumberway.errors" 194), en w "__qualname__" 223 (.str "NoPlace" 222), en w "__firstlineno__" 225 (.int 7 224), en w "__static_attributes__" 226 (.ref 42)] 4, #[]⟩,
  ⟨.type "tuple", none, .seq #[] 0, #[]⟩,
  ⟨.none, none, .fields #[], #[]⟩,
  ⟨.type "code", none, .fields #[.str "NoPlace" 216, .str "NoPlace" 217, .str "/claim/cut.py" 218, .int 7 0, .int 0 0, .int 0 0, .int 0 0, .int 0 0, .ref 38, .bool false, .int 181 0, .ref 39, .none, .none, .none, .none, .int 219 0, .int 7 0, .str "/claim/cut.py" 220], #[]⟩,
  ⟨.type "frame", none, .plain, #[(some (.ref 40)), (some (.ref 3)), (some (.ref 37)), none, (some (.str "slumberway.errors" 194)), none, (some (.ref 0))]⟩,
  ⟨.type "tuple", none, .seq #[] 0, #[]⟩,
  ⟨.type "dict", none, .dict #[en w "__module__" 221 (.str "slumberway.errors" 194), en w "__firstlineno__" 225 (.int 7 224), en w "__static_attributes__" 226 (.ref 42), en w "__doc__" 227 .none] 2, #[]⟩,
  ⟨.type "type", none, .cls ⟨"NoPlace", [.ref 31], [.ref 44, .ref 31, .type "ValueError", .type "Exception", .type "BaseException", .type "object"], 43, "NoPlace", true, [], [], false, none, false⟩, #[(some (.ref 35)), none, (some (.str "NoPlace" 214)), (some (.str "NoPlace" 222)), (some (.builtin "ValueError.__new__")), (some (.bool true))]⟩,
  ⟨.type "super", none, .fields #[.ref 44, .ref 44, .ref 44], #[]⟩,
  ⟨.type "builtin_function_or_method", none, .fields #[.builtin "object.__init_subclass__", .ref 44], #[]⟩,
  ⟨.type "tuple", none, .seq #[.ref 31] 0, #[]⟩,
  ⟨.type "builtin_function_or_method", none, .fields #[.builtin "type.__prepare__", .type "type"], #[]⟩,
  ⟨.type "dict", none, .dict #[en w "__module__" 237 (.str "slumberway.errors" 194), en w "__qualname__" 239 (.str "BadRow" 238), en w "__firstlineno__" 241 (.int 9 240), en w "__static_attributes__" 242 (.ref 54)] 4, #[]⟩,
  ⟨.type "tuple", none, .seq #[] 0, #[]⟩,
  ⟨.none, none, .fields #[], #[]⟩,
  ⟨.type "code", none, .fields #[.str "BadRow" 232, .str "BadRow" 233, .str "/claim/cut.py" 234, .int 9 0, .int 0 0, .int 0 0, .int 0 0, .int 0 0, .ref 50, .bool false, .int 181 0, .ref 51, .none, .none, .none, .none, .int 235 0, .int 9 0, .str "/claim/cut.py" 236], #[]⟩,
  ⟨.type "frame", none, .plain, #[(some (.ref 52)), (some (.ref 3)), (some (.ref 49)), none, (some (.str "slumberway.errors" 194)), none, (some (.ref 0))]⟩,
  ⟨.type "tuple", none, .seq #[] 0, #[]⟩,
  ⟨.type "dict", none, .dict #[en w "__module__" 237 (.str "slumberway.errors" 194), en w "__firstlineno__" 241 (.int 9 240), en w "__static_attributes__" 242 (.ref 54), en w "__doc__" 243 .none] 2, #[]⟩,
  ⟨.type "type", none, .cls ⟨"BadRow", [.ref 31], [.ref 56, .ref 31, .type "ValueError", .type "Exception", .type "BaseException", .type "object"], 55, "BadRow", true, [], [], false, none, false⟩, #[(some (.ref 47)), none, (some (.str "BadRow" 230)), (some (.str "BadRow" 238)), (some (.builtin "ValueError.__new__")), (some (.bool true))]⟩,
  ⟨.type "super", none, .fields #[.ref 56, .ref 56, .ref 56], #[]⟩,
  ⟨.type "builtin_function_or_method", none, .fields #[.builtin "object.__init_subclass__", .ref 56], #[]⟩,
  ⟨.type "tuple", none, .seq #[.ref 31] 0, #[]⟩]
def ob_1 (w : World) : List Obj := [
  ⟨.type "builtin_function_or_method", none, .fields #[.builtin "type.__prepare__", .type "type"], #[]⟩,
  ⟨.type "dict", none, .dict #[en w "__module__" 253 (.str "slumberway.errors" 194), en w "__qualname__" 255 (.str "TooMany" 254), en w "__firstlineno__" 257 (.int 11 256), en w "__static_attributes__" 258 (.ref 66)] 4, #[]⟩,
  ⟨.type "tuple", none, .seq #[] 0, #[]⟩,
  ⟨.none, none, .fields #[], #[]⟩,
  ⟨.type "code", none, .fields #[.str "TooMany" 248, .str "TooMany" 249, .str "/claim/cut.py" 250, .int 11 0, .int 0 0, .int 0 0, .int 0 0, .int 0 0, .ref 62, .bool false, .int 181 0, .ref 63, .none, .none, .none, .none, .int 251 0, .int 11 0, .str "/claim/cut.py" 252], #[]⟩,
  ⟨.type "frame", none, .plain, #[(some (.ref 64)), (some (.ref 3)), (some (.ref 61)), none, (some (.str "slumberway.errors" 194)), none, (some (.ref 0))]⟩,
  ⟨.type "tuple", none, .seq #[] 0, #[]⟩,
  ⟨.type "dict", none, .dict #[en w "__module__" 253 (.str "slumberway.errors" 194), en w "__firstlineno__" 257 (.int 11 256), en w "__static_attributes__" 258 (.ref 66), en w "__doc__" 259 .none] 2, #[]⟩,
  ⟨.type "type", none, .cls ⟨"TooMany", [.ref 31], [.ref 68, .ref 31, .type "ValueError", .type "Exception", .type "BaseException", .type "object"], 67, "TooMany", true, [], [], false, none, false⟩, #[(some (.ref 59)), none, (some (.str "TooMany" 246)), (some (.str "TooMany" 254)), (some (.builtin "ValueError.__new__")), (some (.bool true))]⟩,
  ⟨.type "super", none, .fields #[.ref 68, .ref 68, .ref 68], #[]⟩,
  ⟨.type "builtin_function_or_method", none, .fields #[.builtin "object.__init_subclass__", .ref 68], #[]⟩,
  ⟨.type "tuple", none, .seq #[.ref 31] 0, #[]⟩,
  ⟨.type "builtin_function_or_method", none, .fields #[.builtin "type.__prepare__", .type "type"], #[]⟩,
  ⟨.type "dict", none, .dict #[en w "__module__" 269 (.str "slumberway.errors" 194), en w "__qualname__" 271 (.str "NoBack" 270), en w "__firstlineno__" 273 (.int 13 272), en w "__static_attributes__" 274 (.ref 78)] 4, #[]⟩,
  ⟨.type "tuple", none, .seq #[] 0, #[]⟩,
  ⟨.none, none, .fields #[], #[]⟩,
  ⟨.type "code", none, .fields #[.str "NoBack" 264, .str "NoBack" 265, .str "/claim/cut.py" 266, .int 13 0, .int 0 0, .int 0 0, .int 0 0, .int 0 0, .ref 74, .bool false, .int 181 0, .ref 75, .none, .none, .none, .none, .int 267 0, .int 13 0, .str "/claim/cut.py" 268], #[]⟩,
  ⟨.type "frame", none, .plain, #[(some (.ref 76)), (some (.ref 3)), (some (.ref 73)), none, (some (.str "slumberway.errors" 194)), none, (some (.ref 0))]⟩,
  ⟨.type "tuple", none, .seq #[] 0, #[]⟩,
  ⟨.type "dict", none, .dict #[en w "__module__" 269 (.str "slumberway.errors" 194), en w "__firstlineno__" 273 (.int 13 272), en w "__static_attributes__" 274 (.ref 78), en w "__doc__" 275 .none] 2, #[]⟩,
  ⟨.type "type", none, .cls ⟨"NoBack", [.ref 31], [.ref 80, .ref 31, .type "ValueError", .type "Exception", .type "BaseException", .type "object"], 79, "NoBack", true, [], [], false, none, false⟩, #[(some (.ref 71)), none, (some (.str "NoBack" 262)), (some (.str "NoBack" 270)), (some (.builtin "ValueError.__new__")), (some (.bool true))]⟩,
  ⟨.type "super", none, .fields #[.ref 80, .ref 80, .ref 80], #[]⟩,
  ⟨.type "builtin_function_or_method", none, .fields #[.builtin "object.__init_subclass__", .ref 80], #[]⟩,
  ⟨.type "tuple", none, .seq #[.ref 31] 0, #[]⟩,
  ⟨.type "builtin_function_or_method", none, .fields #[.builtin "type.__prepare__", .type "type"], #[]⟩,
  ⟨.type "dict", none, .dict #[en w "__module__" 285 (.str "slumberway.errors" 194), en w "__qualname__" 287 (.str "NoSign" 286), en w "__firstlineno__" 289 (.int 15 288), en w "__init__" 297 (.ref 96), en w "__static_attributes__" 299 (.ref 97)] 5, #[]⟩,
  ⟨.type "tuple", none, .seq #[] 0, #[]⟩,
  ⟨.none, none, .fields #[.int 17 0, .int 4 0, .ref 95], #[]⟩,
  ⟨.type "code", none, .fields #[.str "NoSign" 280, .str "NoSign" 281, .str "/claim/cut.py" 282, .int 15 0, .int 0 0, .int 0 0, .int 0 0, .int 0 0, .ref 86, .bool false, .int 181 0, .ref 87, .none, .none, .none, .none, .int 283 0, .int 15 0, .str "/claim/cut.py" 284], #[]⟩,
  ⟨.type "frame", none, .plain, #[(some (.ref 88)), (some (.ref 3)), (some (.ref 85)), none, (some (.str "slumberway.errors" 194)), none, (some (.ref 0))]⟩,
  ⟨.type "tuple", none, .seq #[] 0, #[]⟩,
  ⟨.none, none, .fields #[], #[]⟩,
  ⟨.type "tuple", none, .seq #[.str "self" 293, .str "place" 294] 0, #[]⟩,
  ⟨.type "tuple", none, .seq #[] 0, #[]⟩,
  ⟨.none, none, fd (mt 7 0) "__init__" "NoSign.__init__" 0 .none .none .none 0, #[]⟩,
  ⟨.type "code", none, .fields #[.str "__init__" 290, .str "NoSign.__init__" 291, .str "/claim/cut.py" 292, .int 17 0, .int 2 0, .int 0 0, .int 0 0, .int 3 0, .ref 90, .bool true, .int 181 0, .ref 91, .none, .ref 92, .ref 93, .ref 94, .int 295 0, .int 17 0, .str "/claim/cut.py" 296], #[]⟩,
  ⟨.type "function", none, fd (mt 7 0) "__init__" "NoSign.__init__" 3 .none (.str "slumberway.errors" 194) (.ref 95) 0, #[]⟩,
  ⟨.type "tuple", none, .seq #[.str "place" 298] 0, #[]⟩,
  ⟨.type "dict", none, .dict #[en w "__module__" 285 (.str "slumberway.errors" 194), en w "__firstlineno__" 289 (.int 15 288), en w "__init__" 297 (.ref 96), en w "__static_attributes__" 299 (.ref 97), en w "__doc__" 300 .none] 2, #[]⟩,
  ⟨.type "type", none, .cls ⟨"NoSign", [.ref 31], [.ref 99, .ref 31, .type "ValueError", .type "Exception", .type "BaseException", .type "object"], 98, "NoSign", true, [], [], false, none, false⟩, #[(some (.ref 83)), none, (some (.str "NoSign" 278)), (some (.str "NoSign" 286)), (some (.builtin "ValueError.__new__")), (some (.bool true))]⟩,
  ⟨.type "super", none, .fields #[.ref 99, .ref 99, .ref 99], #[]⟩,
  ⟨.type "builtin_function_or_method", none, .fields #[.builtin "object.__init_subclass__", .ref 99], #[]⟩,
  ⟨.type "tuple", none, .seq #[.ref 31] 0, #[]⟩,
  ⟨.type "builtin_function_or_method", none, .fields #[.builtin "type.__prepare__", .type "type"], #[]⟩,
  ⟨.type "dict", none, .dict #[en w "__module__" 310 (.str "slumberway.errors" 194), en w "__qualname__" 312 (.str "NoReading" 311), en w "__firstlineno__" 314 (.int 19 313), en w "__init__" 323 (.ref 115), en w "__static_attributes__" 326 (.ref 116)] 5, #[]⟩,
  ⟨.type "tuple", none, .seq #[] 0, #[]⟩,
  ⟨.none, none, .fields #[.int 21 0, .int 4 0, .ref 114], #[]⟩,
  ⟨.type "code", none, .fields #[.str "NoReading" 305, .str "NoReading" 306, .str "/claim/cut.py" 307, .int 19 0, .int 0 0, .int 0 0, .int 0 0, .int 0 0, .ref 105, .bool false, .int 181 0, .ref 106, .none, .none, .none, .none, .int 308 0, .int 19 0, .str "/claim/cut.py" 309], #[]⟩,
  ⟨.type "frame", none, .plain, #[(some (.ref 107)), (some (.ref 3)), (some (.ref 104)), none, (some (.str "slumberway.errors" 194)), none, (some (.ref 0))]⟩,
  ⟨.type "tuple", none, .seq #[] 0, #[]⟩,
  ⟨.none, none, .fields #[], #[]⟩,
  ⟨.type "tuple", none, .seq #[.str "self" 318, .str "place" 319, .str "wants" 320] 0, #[]⟩,
  ⟨.type "tuple", none, .seq #[] 0, #[]⟩,
  ⟨.none, none, fd (mt 8 0) "__init__" "NoReading.__init__" 0 .none .none .none 0, #[]⟩,
  ⟨.type "code", none, .fields #[.str "__init__" 315, .str "NoReading.__init__" 316, .str "/claim/cut.py" 317, .int 21 0, .int 3 0, .int 0 0, .int 0 0, .int 3 0, .ref 109, .bool true, .int 181 0, .ref 110, .none, .ref 111, .ref 112, .ref 113, .int 321 0, .int 21 0, .str "/claim/cut.py" 322], #[]⟩,
  ⟨.type "function", none, fd (mt 8 0) "__init__" "NoReading.__init__" 3 .none (.str "slumberway.errors" 194) (.ref 114) 0, #[]⟩,
  ⟨.type "tuple", none, .seq #[.str "place" 324, .str "wants" 325] 0, #[]⟩,
  ⟨.type "dict", none, .dict #[en w "__module__" 310 (.str "slumberway.errors" 194), en w "__firstlineno__" 314 (.int 19 313), en w "__init__" 323 (.ref 115), en w "__static_attributes__" 326 (.ref 116), en w "__doc__" 327 .none] 2, #[]⟩,
  ⟨.type "type", none, .cls ⟨"NoReading", [.ref 31], [.ref 118, .ref 31, .type "ValueError", .type "Exception", .type "BaseException", .type "object"], 117, "NoReading", true, [], [], false, none, false⟩, #[(some (.ref 102)), none, (some (.str "NoReading" 303)), (some (.str "NoReading" 311)), (some (.builtin "ValueError.__new__")), (some (.bool true))]⟩,
  ⟨.type "super", none, .fields #[.ref 118, .ref 118, .ref 118], #[]⟩]
def ob_2 (w : World) : List Obj := [
  ⟨.type "builtin_function_or_method", none, .fields #[.builtin "object.__init_subclass__", .ref 118], #[]⟩,
  ⟨.type "tuple", none, .seq #[.ref 31] 0, #[]⟩,
  ⟨.type "builtin_function_or_method", none, .fields #[.builtin "type.__prepare__", .type "type"], #[]⟩,
  ⟨.type "dict", none, .dict #[en w "__module__" 337 (.str "slumberway.errors" 194), en w "__qualname__" 339 (.str "Twice" 338), en w "__firstlineno__" 341 (.int 24 340), en w "__init__" 350 (.ref 134), en w "__static_attributes__" 353 (.ref 135)] 5, #[]⟩,
  ⟨.type "tuple", none, .seq #[] 0, #[]⟩,
  ⟨.none, none, .fields #[.int 26 0, .int 4 0, .ref 133], #[]⟩,
  ⟨.type "code", none, .fields #[.str "Twice" 332, .str "Twice" 333, .str "/claim/cut.py" 334, .int 24 0, .int 0 0, .int 0 0, .int 0 0, .int 0 0, .ref 124, .bool false, .int 181 0, .ref 125, .none, .none, .none, .none, .int 335 0, .int 24 0, .str "/claim/cut.py" 336], #[]⟩,
  ⟨.type "frame", none, .plain, #[(some (.ref 126)), (some (.ref 3)), (some (.ref 123)), none, (some (.str "slumberway.errors" 194)), none, (some (.ref 0))]⟩,
  ⟨.type "tuple", none, .seq #[] 0, #[]⟩,
  ⟨.none, none, .fields #[], #[]⟩,
  ⟨.type "tuple", none, .seq #[.str "self" 345, .str "later" 346, .str "earlier" 347] 0, #[]⟩,
  ⟨.type "tuple", none, .seq #[] 0, #[]⟩,
  ⟨.none, none, fd (mt 9 0) "__init__" "Twice.__init__" 0 .none .none .none 0, #[]⟩,
  ⟨.type "code", none, .fields #[.str "__init__" 342, .str "Twice.__init__" 343, .str "/claim/cut.py" 344, .int 26 0, .int 3 0, .int 0 0, .int 0 0, .int 3 0, .ref 128, .bool true, .int 181 0, .ref 129, .none, .ref 130, .ref 131, .ref 132, .int 348 0, .int 26 0, .str "/claim/cut.py" 349], #[]⟩,
  ⟨.type "function", none, fd (mt 9 0) "__init__" "Twice.__init__" 3 .none (.str "slumberway.errors" 194) (.ref 133) 0, #[]⟩,
  ⟨.type "tuple", none, .seq #[.str "earlier" 351, .str "later" 352] 0, #[]⟩,
  ⟨.type "dict", none, .dict #[en w "__module__" 337 (.str "slumberway.errors" 194), en w "__firstlineno__" 341 (.int 24 340), en w "__init__" 350 (.ref 134), en w "__static_attributes__" 353 (.ref 135), en w "__doc__" 354 .none] 2, #[]⟩,
  ⟨.type "type", none, .cls ⟨"Twice", [.ref 31], [.ref 137, .ref 31, .type "ValueError", .type "Exception", .type "BaseException", .type "object"], 136, "Twice", true, [], [], false, none, false⟩, #[(some (.ref 121)), none, (some (.str "Twice" 330)), (some (.str "Twice" 338)), (some (.builtin "ValueError.__new__")), (some (.bool true))]⟩,
  ⟨.type "super", none, .fields #[.ref 137, .ref 137, .ref 137], #[]⟩,
  ⟨.type "builtin_function_or_method", none, .fields #[.builtin "object.__init_subclass__", .ref 137], #[]⟩,
  ⟨.type "tuple", none, .seq #[.ref 31] 0, #[]⟩,
  ⟨.type "builtin_function_or_method", none, .fields #[.builtin "type.__prepare__", .type "type"], #[]⟩,
  ⟨.type "dict", none, .dict #[en w "__module__" 364 (.str "slumberway.errors" 194), en w "__qualname__" 366 (.str "Counts" 365), en w "__firstlineno__" 368 (.int 29 367), en w "__init__" 376 (.ref 153), en w "__static_attributes__" 378 (.ref 154)] 5, #[]⟩,
  ⟨.type "tuple", none, .seq #[] 0, #[]⟩,
  ⟨.none, none, .fields #[.int 31 0, .int 4 0, .ref 152], #[]⟩,
  ⟨.type "code", none, .fields #[.str "Counts" 359, .str "Counts" 360, .str "/claim/cut.py" 361, .int 29 0, .int 0 0, .int 0 0, .int 0 0, .int 0 0, .ref 143, .bool false, .int 181 0, .ref 144, .none, .none, .none, .none, .int 362 0, .int 29 0, .str "/claim/cut.py" 363], #[]⟩,
  ⟨.type "frame", none, .plain, #[(some (.ref 145)), (some (.ref 3)), (some (.ref 142)), none, (some (.str "slumberway.errors" 194)), none, (some (.ref 0))]⟩,
  ⟨.type "tuple", none, .seq #[] 0, #[]⟩,
  ⟨.none, none, .fields #[], #[]⟩,
  ⟨.type "tuple", none, .seq #[.str "self" 372, .str "place" 373] 0, #[]⟩,
  ⟨.type "tuple", none, .seq #[] 0, #[]⟩,
  ⟨.none, none, fd (mt 10 0) "__init__" "Counts.__init__" 0 .none .none .none 0, #[]⟩,
  ⟨.type "code", none, .fields #[.str "__init__" 369, .str "Counts.__init__" 370, .str "/claim/cut.py" 371, .int 31 0, .int 2 0, .int 0 0, .int 0 0, .int 3 0, .ref 147, .bool true, .int 181 0, .ref 148, .none, .ref 149, .ref 150, .ref 151, .int 374 0, .int 31 0, .str "/claim/cut.py" 375], #[]⟩,
  ⟨.type "function", none, fd (mt 10 0) "__init__" "Counts.__init__" 3 .none (.str "slumberway.errors" 194) (.ref 152) 0, #[]⟩,
  ⟨.type "tuple", none, .seq #[.str "place" 377] 0, #[]⟩,
  ⟨.type "dict", none, .dict #[en w "__module__" 364 (.str "slumberway.errors" 194), en w "__firstlineno__" 368 (.int 29 367), en w "__init__" 376 (.ref 153), en w "__static_attributes__" 378 (.ref 154), en w "__doc__" 379 .none] 2, #[]⟩,
  ⟨.type "type", none, .cls ⟨"Counts", [.ref 31], [.ref 156, .ref 31, .type "ValueError", .type "Exception", .type "BaseException", .type "object"], 155, "Counts", true, [], [], false, none, false⟩, #[(some (.ref 140)), none, (some (.str "Counts" 357)), (some (.str "Counts" 365)), (some (.builtin "ValueError.__new__")), (some (.bool true))]⟩,
  ⟨.type "super", none, .fields #[.ref 156, .ref 156, .ref 156], #[]⟩,
  ⟨.type "builtin_function_or_method", none, .fields #[.builtin "object.__init_subclass__", .ref 156], #[]⟩,
  ⟨.type "tuple", none, .seq #[.ref 31] 0, #[]⟩,
  ⟨.type "builtin_function_or_method", none, .fields #[.builtin "type.__prepare__", .type "type"], #[]⟩,
  ⟨.type "dict", none, .dict #[en w "__module__" 389 (.str "slumberway.errors" 194), en w "__qualname__" 391 (.str "Parts" 390), en w "__firstlineno__" 393 (.int 33 392), en w "__init__" 401 (.ref 172), en w "__static_attributes__" 403 (.ref 173)] 5, #[]⟩,
  ⟨.type "tuple", none, .seq #[] 0, #[]⟩,
  ⟨.none, none, .fields #[.int 35 0, .int 4 0, .ref 171], #[]⟩,
  ⟨.type "code", none, .fields #[.str "Parts" 384, .str "Parts" 385, .str "/claim/cut.py" 386, .int 33 0, .int 0 0, .int 0 0, .int 0 0, .int 0 0, .ref 162, .bool false, .int 181 0, .ref 163, .none, .none, .none, .none, .int 387 0, .int 33 0, .str "/claim/cut.py" 388], #[]⟩,
  ⟨.type "frame", none, .plain, #[(some (.ref 164)), (some (.ref 3)), (some (.ref 161)), none, (some (.str "slumberway.errors" 194)), none, (some (.ref 0))]⟩,
  ⟨.type "tuple", none, .seq #[] 0, #[]⟩,
  ⟨.none, none, .fields #[], #[]⟩,
  ⟨.type "tuple", none, .seq #[.str "self" 397, .str "place" 398] 0, #[]⟩,
  ⟨.type "tuple", none, .seq #[] 0, #[]⟩,
  ⟨.none, none, fd (mt 11 0) "__init__" "Parts.__init__" 0 .none .none .none 0, #[]⟩,
  ⟨.type "code", none, .fields #[.str "__init__" 394, .str "Parts.__init__" 395, .str "/claim/cut.py" 396, .int 35 0, .int 2 0, .int 0 0, .int 0 0, .int 3 0, .ref 166, .bool true, .int 181 0, .ref 167, .none, .ref 168, .ref 169, .ref 170, .int 399 0, .int 35 0, .str "/claim/cut.py" 400], #[]⟩,
  ⟨.type "function", none, fd (mt 11 0) "__init__" "Parts.__init__" 3 .none (.str "slumberway.errors" 194) (.ref 171) 0, #[]⟩,
  ⟨.type "tuple", none, .seq #[.str "place" 402] 0, #[]⟩,
  ⟨.type "dict", none, .dict #[en w "__module__" 389 (.str "slumberway.errors" 194), en w "__firstlineno__" 393 (.int 33 392), en w "__init__" 401 (.ref 172), en w "__static_attributes__" 403 (.ref 173), en w "__doc__" 404 .none] 2, #[]⟩,
  ⟨.type "type", none, .cls ⟨"Parts", [.ref 31], [.ref 175, .ref 31, .type "ValueError", .type "Exception", .type "BaseException", .type "object"], 174, "Parts", true, [], [], false, none, false⟩, #[(some (.ref 159)), none, (some (.str "Parts" 382)), (some (.str "Parts" 390)), (some (.builtin "ValueError.__new__")), (some (.bool true))]⟩,
  ⟨.type "super", none, .fields #[.ref 175, .ref 175, .ref 175], #[]⟩,
  ⟨.type "builtin_function_or_method", none, .fields #[.builtin "object.__init_subclass__", .ref 175], #[]⟩,
  ⟨.type "tuple", none, .seq #[.ref 31] 0, #[]⟩,
  ⟨.type "builtin_function_or_method", none, .fields #[.builtin "type.__prepare__", .type "type"], #[]⟩]
def ob_3 (w : World) : List Obj := [
  ⟨.type "dict", none, .dict #[en w "__module__" 414 (.str "slumberway.errors" 194), en w "__qualname__" 416 (.str "Unknown" 415), en w "__firstlineno__" 418 (.int 37 417), en w "__init__" 427 (.ref 191), en w "__static_attributes__" 430 (.ref 192)] 5, #[]⟩,
  ⟨.type "tuple", none, .seq #[] 0, #[]⟩,
  ⟨.none, none, .fields #[.int 39 0, .int 4 0, .ref 190], #[]⟩,
  ⟨.type "code", none, .fields #[.str "Unknown" 409, .str "Unknown" 410, .str "/claim/cut.py" 411, .int 37 0, .int 0 0, .int 0 0, .int 0 0, .int 0 0, .ref 181, .bool false, .int 181 0, .ref 182, .none, .none, .none, .none, .int 412 0, .int 37 0, .str "/claim/cut.py" 413], #[]⟩,
  ⟨.type "frame", none, .plain, #[(some (.ref 183)), (some (.ref 3)), (some (.ref 180)), none, (some (.str "slumberway.errors" 194)), none, (some (.ref 0))]⟩,
  ⟨.type "tuple", none, .seq #[] 0, #[]⟩,
  ⟨.none, none, .fields #[], #[]⟩,
  ⟨.type "tuple", none, .seq #[.str "self" 422, .str "place" 423, .str "word" 424] 0, #[]⟩,
  ⟨.type "tuple", none, .seq #[] 0, #[]⟩,
  ⟨.none, none, fd (mt 12 0) "__init__" "Unknown.__init__" 0 .none .none .none 0, #[]⟩,
  ⟨.type "code", none, .fields #[.str "__init__" 419, .str "Unknown.__init__" 420, .str "/claim/cut.py" 421, .int 39 0, .int 3 0, .int 0 0, .int 0 0, .int 3 0, .ref 185, .bool true, .int 181 0, .ref 186, .none, .ref 187, .ref 188, .ref 189, .int 425 0, .int 39 0, .str "/claim/cut.py" 426], #[]⟩,
  ⟨.type "function", none, fd (mt 12 0) "__init__" "Unknown.__init__" 3 .none (.str "slumberway.errors" 194) (.ref 190) 0, #[]⟩,
  ⟨.type "tuple", none, .seq #[.str "place" 428, .str "word" 429] 0, #[]⟩,
  ⟨.type "dict", none, .dict #[en w "__module__" 414 (.str "slumberway.errors" 194), en w "__firstlineno__" 418 (.int 37 417), en w "__init__" 427 (.ref 191), en w "__static_attributes__" 430 (.ref 192), en w "__doc__" 431 .none] 2, #[]⟩,
  ⟨.type "type", none, .cls ⟨"Unknown", [.ref 31], [.ref 194, .ref 31, .type "ValueError", .type "Exception", .type "BaseException", .type "object"], 193, "Unknown", true, [], [], false, none, false⟩, #[(some (.ref 178)), none, (some (.str "Unknown" 407)), (some (.str "Unknown" 415)), (some (.builtin "ValueError.__new__")), (some (.bool true))]⟩,
  ⟨.type "super", none, .fields #[.ref 194, .ref 194, .ref 194], #[]⟩,
  ⟨.type "builtin_function_or_method", none, .fields #[.builtin "object.__init_subclass__", .ref 194], #[]⟩,
  ⟨.type "tuple", none, .seq #[.ref 31] 0, #[]⟩,
  ⟨.type "builtin_function_or_method", none, .fields #[.builtin "type.__prepare__", .type "type"], #[]⟩,
  ⟨.type "dict", none, .dict #[en w "__module__" 441 (.str "slumberway.errors" 194), en w "__qualname__" 443 (.str "Clash" 442), en w "__firstlineno__" 445 (.int 42 444), en w "__init__" 455 (.ref 210), en w "__static_attributes__" 459 (.ref 211)] 5, #[]⟩,
  ⟨.type "tuple", none, .seq #[] 0, #[]⟩,
  ⟨.none, none, .fields #[.int 44 0, .int 4 0, .ref 209], #[]⟩,
  ⟨.type "code", none, .fields #[.str "Clash" 436, .str "Clash" 437, .str "/claim/cut.py" 438, .int 42 0, .int 0 0, .int 0 0, .int 0 0, .int 0 0, .ref 200, .bool false, .int 181 0, .ref 201, .none, .none, .none, .none, .int 439 0, .int 42 0, .str "/claim/cut.py" 440], #[]⟩,
  ⟨.type "frame", none, .plain, #[(some (.ref 202)), (some (.ref 3)), (some (.ref 199)), none, (some (.str "slumberway.errors" 194)), none, (some (.ref 0))]⟩,
  ⟨.type "tuple", none, .seq #[] 0, #[]⟩,
  ⟨.none, none, .fields #[], #[]⟩,
  ⟨.type "tuple", none, .seq #[.str "self" 449, .str "place" 450, .str "one" 451, .str "other" 452] 0, #[]⟩,
  ⟨.type "tuple", none, .seq #[] 0, #[]⟩,
  ⟨.none, none, fd (mt 13 0) "__init__" "Clash.__init__" 0 .none .none .none 0, #[]⟩,
  ⟨.type "code", none, .fields #[.str "__init__" 446, .str "Clash.__init__" 447, .str "/claim/cut.py" 448, .int 44 0, .int 4 0, .int 0 0, .int 0 0, .int 3 0, .ref 204, .bool true, .int 181 0, .ref 205, .none, .ref 206, .ref 207, .ref 208, .int 453 0, .int 44 0, .str "/claim/cut.py" 454], #[]⟩,
  ⟨.type "function", none, fd (mt 13 0) "__init__" "Clash.__init__" 3 .none (.str "slumberway.errors" 194) (.ref 209) 0, #[]⟩,
  ⟨.type "tuple", none, .seq #[.str "one" 456, .str "other" 457, .str "place" 458] 0, #[]⟩,
  ⟨.type "dict", none, .dict #[en w "__module__" 441 (.str "slumberway.errors" 194), en w "__firstlineno__" 445 (.int 42 444), en w "__init__" 455 (.ref 210), en w "__static_attributes__" 459 (.ref 211), en w "__doc__" 460 .none] 2, #[]⟩,
  ⟨.type "type", none, .cls ⟨"Clash", [.ref 31], [.ref 213, .ref 31, .type "ValueError", .type "Exception", .type "BaseException", .type "object"], 212, "Clash", true, [], [], false, none, false⟩, #[(some (.ref 197)), none, (some (.str "Clash" 434)), (some (.str "Clash" 442)), (some (.builtin "ValueError.__new__")), (some (.bool true))]⟩,
  ⟨.type "super", none, .fields #[.ref 213, .ref 213, .ref 213], #[]⟩,
  ⟨.type "builtin_function_or_method", none, .fields #[.builtin "object.__init_subclass__", .ref 213], #[]⟩,
  ⟨.type "tuple", none, .seq #[.ref 31] 0, #[]⟩,
  ⟨.type "builtin_function_or_method", none, .fields #[.builtin "type.__prepare__", .type "type"], #[]⟩,
  ⟨.type "dict", none, .dict #[en w "__module__" 470 (.str "slumberway.errors" 194), en w "__qualname__" 472 (.str "Endless" 471), en w "__firstlineno__" 474 (.int 48 473), en w "__init__" 484 (.ref 229), en w "__static_attributes__" 488 (.ref 230)] 5, #[]⟩,
  ⟨.type "tuple", none, .seq #[] 0, #[]⟩,
  ⟨.none, none, .fields #[.int 50 0, .int 4 0, .ref 228], #[]⟩,
  ⟨.type "code", none, .fields #[.str "Endless" 465, .str "Endless" 466, .str "/claim/cut.py" 467, .int 48 0, .int 0 0, .int 0 0, .int 0 0, .int 0 0, .ref 219, .bool false, .int 181 0, .ref 220, .none, .none, .none, .none, .int 468 0, .int 48 0, .str "/claim/cut.py" 469], #[]⟩,
  ⟨.type "frame", none, .plain, #[(some (.ref 221)), (some (.ref 3)), (some (.ref 218)), none, (some (.str "slumberway.errors" 194)), none, (some (.ref 0))]⟩,
  ⟨.type "tuple", none, .seq #[] 0, #[]⟩,
  ⟨.none, none, .fields #[], #[]⟩,
  ⟨.type "tuple", none, .seq #[.str "self" 478, .str "place" 479, .str "one" 480, .str "other" 481] 0, #[]⟩,
  ⟨.type "tuple", none, .seq #[] 0, #[]⟩,
  ⟨.none, none, fd (mt 14 0) "__init__" "Endless.__init__" 0 .none .none .none 0, #[]⟩,
  ⟨.type "code", none, .fields #[.str "__init__" 475, .str "Endless.__init__" 476, .str "/claim/cut.py" 477, .int 50 0, .int 4 0, .int 0 0, .int 0 0, .int 3 0, .ref 223, .bool true, .int 181 0, .ref 224, .none, .ref 225, .ref 226, .ref 227, .int 482 0, .int 50 0, .str "/claim/cut.py" 483], #[]⟩,
  ⟨.type "function", none, fd (mt 14 0) "__init__" "Endless.__init__" 3 .none (.str "slumberway.errors" 194) (.ref 228) 0, #[]⟩,
  ⟨.type "tuple", none, .seq #[.str "one" 485, .str "other" 486, .str "place" 487] 0, #[]⟩,
  ⟨.type "dict", none, .dict #[en w "__module__" 470 (.str "slumberway.errors" 194), en w "__firstlineno__" 474 (.int 48 473), en w "__init__" 484 (.ref 229), en w "__static_attributes__" 488 (.ref 230), en w "__doc__" 489 .none] 2, #[]⟩,
  ⟨.type "type", none, .cls ⟨"Endless", [.ref 31], [.ref 232, .ref 31, .type "ValueError", .type "Exception", .type "BaseException", .type "object"], 231, "Endless", true, [], [], false, none, false⟩, #[(some (.ref 216)), none, (some (.str "Endless" 463)), (some (.str "Endless" 471)), (some (.builtin "ValueError.__new__")), (some (.bool true))]⟩,
  ⟨.type "super", none, .fields #[.ref 232, .ref 232, .ref 232], #[]⟩,
  ⟨.type "builtin_function_or_method", none, .fields #[.builtin "object.__init_subclass__", .ref 232], #[]⟩,
  ⟨.type "tuple", none, .seq #[.ref 31] 0, #[]⟩,
  ⟨.type "builtin_function_or_method", none, .fields #[.builtin "type.__prepare__", .type "type"], #[]⟩,
  ⟨.type "dict", none, .dict #[en w "__module__" 499 (.str "slumberway.errors" 194), en w "__qualname__" 501 (.str "Broken" 500), en w "__firstlineno__" 503 (.int 54 502), en w "__init__" 511 (.ref 248), en w "__static_attributes__" 513 (.ref 249)] 5, #[]⟩,
  ⟨.type "tuple", none, .seq #[] 0, #[]⟩,
  ⟨.none, none, .fields #[.int 56 0, .int 4 0, .ref 247], #[]⟩]
def ob_4 (w : World) : List Obj := [
  ⟨.type "code", none, .fields #[.str "Broken" 494, .str "Broken" 495, .str "/claim/cut.py" 496, .int 54 0, .int 0 0, .int 0 0, .int 0 0, .int 0 0, .ref 238, .bool false, .int 181 0, .ref 239, .none, .none, .none, .none, .int 497 0, .int 54 0, .str "/claim/cut.py" 498], #[]⟩,
  ⟨.type "frame", none, .plain, #[(some (.ref 240)), (some (.ref 3)), (some (.ref 237)), none, (some (.str "slumberway.errors" 194)), none, (some (.ref 0))]⟩,
  ⟨.type "tuple", none, .seq #[] 0, #[]⟩,
  ⟨.none, none, .fields #[], #[]⟩,
  ⟨.type "tuple", none, .seq #[.str "self" 507, .str "wrong" 508] 0, #[]⟩,
  ⟨.type "tuple", none, .seq #[] 0, #[]⟩,
  ⟨.none, none, fd (mt 15 0) "__init__" "Broken.__init__" 0 .none .none .none 0, #[]⟩,
  ⟨.type "code", none, .fields #[.str "__init__" 504, .str "Broken.__init__" 505, .str "/claim/cut.py" 506, .int 56 0, .int 2 0, .int 0 0, .int 0 0, .int 3 0, .ref 242, .bool true, .int 181 0, .ref 243, .none, .ref 244, .ref 245, .ref 246, .int 509 0, .int 56 0, .str "/claim/cut.py" 510], #[]⟩,
  ⟨.type "function", none, fd (mt 15 0) "__init__" "Broken.__init__" 3 .none (.str "slumberway.errors" 194) (.ref 247) 0, #[]⟩,
  ⟨.type "tuple", none, .seq #[.str "wrong" 512] 0, #[]⟩,
  ⟨.type "dict", none, .dict #[en w "__module__" 499 (.str "slumberway.errors" 194), en w "__firstlineno__" 503 (.int 54 502), en w "__init__" 511 (.ref 248), en w "__static_attributes__" 513 (.ref 249), en w "__doc__" 514 .none] 2, #[]⟩,
  ⟨.type "type", none, .cls ⟨"Broken", [.ref 31], [.ref 251, .ref 31, .type "ValueError", .type "Exception", .type "BaseException", .type "object"], 250, "Broken", true, [], [], false, none, false⟩, #[(some (.ref 235)), none, (some (.str "Broken" 492)), (some (.str "Broken" 500)), (some (.builtin "ValueError.__new__")), (some (.bool true))]⟩,
  ⟨.type "super", none, .fields #[.ref 251, .ref 251, .ref 251], #[]⟩,
  ⟨.type "builtin_function_or_method", none, .fields #[.builtin "object.__init_subclass__", .ref 251], #[]⟩,
  ⟨.type "dict", none, .dict #[en w "data" 529 (.str "word" 530), en w "let" 532 (.str "word" 533), en w "in" 535 (.str "word" 536), en w "if" 538 (.str "word" 539), en w "then" 541 (.str "word" 542), en w "else" 544 (.str "word" 545), en w "case" 547 (.str "word" 548), en w "of" 550 (.str "word" 551), en w "fun" 553 (.str "word" 554), en w "==" 556 (.str "sign" 557), en w "->" 559 (.str "sign" 560), en w "=" 562 (.str "sign" 563), en w "|" 565 (.str "sign" 566), en w "(" 568 (.str "sign" 569), en w ")" 571 (.str "sign" 572), en w "+" 574 (.str "sign" 575), en w "-" 577 (.str "sign" 578), en w "*" 580 (.str "sign" 581), en w "<" 582 (.str "sign" 583), en w "_" 584 (.str "sign" 585)] 20, #[]⟩,
  ⟨.type "dict", none, .dict #[en w "*" 580 (.str "sign" 581), en w "<" 582 (.str "sign" 583), en w "_" 584 (.str "sign" 585)] 3, #[]⟩,
  ⟨.type "tuple", none, .seq #[.str "==" 590, .str "->" 591] 0, #[]⟩,
  ⟨.type "tuple", none, .seq #[.str "let" 593, .str "of" 594] 0, #[]⟩,
  ⟨.type "tuple", none, .seq #[.str "in" 596, .str "then" 597, .str "else" 598, .str "of" 599, .str ")" 600, .str "|" 601] 0, #[]⟩,
  ⟨.type "dict", none, .dict #[en w "let" 603 (.bool true), en w "of" 604 (.bool true), en w "in" 605 (.bool true), en w "(" 606 (.bool true), en w ")" 607 (.bool true)] 5, #[]⟩,
  ⟨.type "tuple", none, .seq #[] 0, #[]⟩,
  ⟨.none, none, .fields #[], #[]⟩,
  ⟨.type "tuple", none, .seq #[.str "text" 617, .str "told" 618, .str "sorts" 619, .str "number" 620, .str "row" 621, .str "column" 622, .str "piece" 623] 0, #[]⟩,
  ⟨.type "tuple", none, .seq #[] 0, #[]⟩,
  ⟨.none, none, fd (tp 27) "lexemes" "lexemes" 0 .none .none .none 0, #[]⟩,
  ⟨.type "code", none, .fields #[.str "lexemes" 614, .str "lexemes" 615, .str "/claim/cut.py" 616, .int 69 0, .int 1 0, .int 0 0, .int 0 0, .int 3 0, .ref 260, .bool true, .int 181 0, .ref 261, .none, .ref 262, .ref 263, .ref 264, .int 624 0, .int 69 0, .str "/claim/cut.py" 625], #[]⟩,
  ⟨.type "function", none, fd (tp 27) "lexemes" "lexemes" 3 .none (.str "slumberway.lexemes" 517) (.ref 265) 0, #[]⟩,
  ⟨.type "tuple", none, .seq #[] 0, #[]⟩,
  ⟨.none, none, .fields #[], #[]⟩,
  ⟨.type "tuple", none, .seq #[.str "told" 630, .str "number" 631, .str "column" 632, .str "piece" 633, .str "sorts" 634, .str "end" 635, .str "sort" 636] 0, #[]⟩,
  ⟨.type "tuple", none, .seq #[] 0, #[]⟩,
  ⟨.none, none, fd (tp 28) "add_lexemes" "add_lexemes" 0 .none .none .none 0, #[]⟩,
  ⟨.type "code", none, .fields #[.str "add_lexemes" 627, .str "add_lexemes" 628, .str "/claim/cut.py" 629, .int 83 0, .int 5 0, .int 0 0, .int 0 0, .int 3 0, .ref 267, .bool true, .int 181 0, .ref 268, .none, .ref 269, .ref 270, .ref 271, .int 637 0, .int 83 0, .str "/claim/cut.py" 638], #[]⟩,
  ⟨.type "function", none, fd (tp 28) "add_lexemes" "add_lexemes" 3 .none (.str "slumberway.lexemes" 517) (.ref 272) 0, #[]⟩,
  ⟨.type "tuple", none, .seq #[] 0, #[]⟩,
  ⟨.none, none, .fields #[], #[]⟩,
  ⟨.type "tuple", none, .seq #[.str "number" 643, .str "column" 644, .str "piece" 645, .str "told" 646, .str "at" 647, .str "sort" 648, .str "end" 649] 0, #[]⟩,
  ⟨.type "tuple", none, .seq #[] 0, #[]⟩,
  ⟨.none, none, fd (tp 29) "mixed_lexemes" "mixed_lexemes" 0 .none .none .none 0, #[]⟩,
  ⟨.type "code", none, .fields #[.str "mixed_lexemes" 640, .str "mixed_lexemes" 641, .str "/claim/cut.py" 642, .int 101 0, .int 3 0, .int 0 0, .int 0 0, .int 3 0, .ref 274, .bool true, .int 181 0, .ref 275, .none, .ref 276, .ref 277, .ref 278, .int 650 0, .int 101 0, .str "/claim/cut.py" 651], #[]⟩,
  ⟨.type "function", none, fd (tp 29) "mixed_lexemes" "mixed_lexemes" 3 .none (.str "slumberway.lexemes" 517) (.ref 279) 0, #[]⟩,
  ⟨.type "tuple", none, .seq #[] 0, #[]⟩,
  ⟨.none, none, .fields #[], #[]⟩,
  ⟨.type "tuple", none, .seq #[.str "piece" 656] 0, #[]⟩,
  ⟨.type "tuple", none, .seq #[] 0, #[]⟩,
  ⟨.none, none, fd (tp 30) "sort_of" "sort_of" 0 .none .none .none 0, #[]⟩,
  ⟨.type "code", none, .fields #[.str "sort_of" 653, .str "sort_of" 654, .str "/claim/cut.py" 655, .int 109 0, .int 1 0, .int 0 0, .int 0 0, .int 3 0, .ref 281, .bool true, .int 181 0, .ref 282, .none, .ref 283, .ref 284, .ref 285, .int 657 0, .int 109 0, .str "/claim/cut.py" 658], #[]⟩,
  ⟨.type "function", none, fd (tp 30) "sort_of" "sort_of" 3 .none (.str "slumberway.lexemes" 517) (.ref 286) 0, #[]⟩,
  ⟨.type "tuple", none, .seq #[] 0, #[]⟩,
  ⟨.none, none, .fields #[], #[]⟩,
  ⟨.type "tuple", none, .seq #[.str "number" 663, .str "column" 664, .str "piece" 665, .str "at" 666, .str "first" 667, .str "end" 668, .str "sort" 669] 0, #[]⟩,
  ⟨.type "tuple", none, .seq #[] 0, #[]⟩,
  ⟨.none, none, fd (tp 31) "lexeme_at" "lexeme_at" 0 .none .none .none 0, #[]⟩,
  ⟨.type "code", none, .fields #[.str "lexeme_at" 660, .str "lexeme_at" 661, .str "/claim/cut.py" 662, .int 121 0, .int 4 0, .int 0 0, .int 0 0, .int 3 0, .ref 288, .bool true, .int 181 0, .ref 289, .none, .ref 290, .ref 291, .ref 292, .int 670 0, .int 121 0, .str "/claim/cut.py" 671], #[]⟩,
  ⟨.type "function", none, fd (tp 31) "lexeme_at" "lexeme_at" 3 .none (.str "slumberway.lexemes" 517) (.ref 293) 0, #[]⟩,
  ⟨.type "tuple", none, .seq #[] 0, #[]⟩,
  ⟨.none, none, .fields #[], #[]⟩,
  ⟨.type "tuple", none, .seq #[.str "piece" 676, .str "at" 677, .str "signs" 678, .str "most" 679] 0, #[]⟩,
  ⟨.type "tuple", none, .seq #[] 0, #[]⟩,
  ⟨.none, none, fd (tp 32) "run_end" "run_end" 0 .none .none .none 0, #[]⟩]
def ob_5 (w : World) : List Obj := [
  ⟨.type "code", none, .fields #[.str "run_end" 673, .str "run_end" 674, .str "/claim/cut.py" 675, .int 137 0, .int 4 0, .int 0 0, .int 0 0, .int 3 0, .ref 295, .bool true, .int 181 0, .ref 296, .none, .ref 297, .ref 298, .ref 299, .int 680 0, .int 137 0, .str "/claim/cut.py" 681], #[]⟩,
  ⟨.type "function", none, fd (tp 32) "run_end" "run_end" 3 .none (.str "slumberway.lexemes" 517) (.ref 300) 0, #[]⟩,
  ⟨.type "tuple", none, .seq #[] 0, #[]⟩,
  ⟨.none, none, .fields #[], #[]⟩,
  ⟨.type "tuple", none, .seq #[.str "number" 686, .str "column" 687, .str "piece" 688, .str "at" 689] 0, #[]⟩,
  ⟨.type "tuple", none, .seq #[] 0, #[]⟩,
  ⟨.none, none, fd (tp 33) "sign_end" "sign_end" 0 .none .none .none 0, #[]⟩,
  ⟨.type "code", none, .fields #[.str "sign_end" 683, .str "sign_end" 684, .str "/claim/cut.py" 685, .int 139 0, .int 4 0, .int 0 0, .int 0 0, .int 3 0, .ref 302, .bool true, .int 181 0, .ref 303, .none, .ref 304, .ref 305, .ref 306, .int 690 0, .int 139 0, .str "/claim/cut.py" 691], #[]⟩,
  ⟨.type "function", none, fd (tp 33) "sign_end" "sign_end" 3 .none (.str "slumberway.lexemes" 517) (.ref 307) 0, #[]⟩,
  ⟨.type "tuple", none, .seq #[] 0, #[]⟩,
  ⟨.none, none, .fields #[], #[]⟩,
  ⟨.type "tuple", none, .seq #[.str "text" 696, .str "found" 697, .str "layout" 698, .str "told" 699, .str "row" 700, .str "quiet" 701, .str "lexeme" 702, .str "number" 703, .str "_" 704, .str "word" 705] 0, #[]⟩,
  ⟨.type "tuple", none, .seq #[] 0, #[]⟩,
  ⟨.none, none, fd (tp 34) "laid" "laid" 0 .none .none .none 0, #[]⟩,
  ⟨.type "code", none, .fields #[.str "laid" 693, .str "laid" 694, .str "/claim/cut.py" 695, .int 145 0, .int 1 0, .int 0 0, .int 0 0, .int 3 0, .ref 309, .bool true, .int 181 0, .ref 310, .none, .ref 311, .ref 312, .ref 313, .int 706 0, .int 145 0, .str "/claim/cut.py" 707], #[]⟩,
  ⟨.type "function", none, fd (tp 34) "laid" "laid" 3 .none (.str "slumberway.lexemes" 517) (.ref 314) 0, #[]⟩,
  ⟨.type "tuple", none, .seq #[] 0, #[]⟩,
  ⟨.none, none, .fields #[], #[]⟩,
  ⟨.type "tuple", none, .seq #[.str "told" 712, .str "row" 713, .str "column" 714, .str "_" 715, .str "word" 716] 0, #[]⟩,
  ⟨.type "tuple", none, .seq #[] 0, #[]⟩,
  ⟨.none, none, fd (tp 35) "end_place" "end_place" 0 .none .none .none 0, #[]⟩,
  ⟨.type "code", none, .fields #[.str "end_place" 709, .str "end_place" 710, .str "/claim/cut.py" 711, .int 161 0, .int 1 0, .int 0 0, .int 0 0, .int 3 0, .ref 316, .bool true, .int 181 0, .ref 317, .none, .ref 318, .ref 319, .ref 320, .int 717 0, .int 161 0, .str "/claim/cut.py" 718], #[]⟩,
  ⟨.type "function", none, fd (tp 35) "end_place" "end_place" 3 .none (.str "slumberway.lexemes" 517) (.ref 321) 0, #[]⟩,
  ⟨.type "tuple", none, .seq #[] 0, #[]⟩,
  ⟨.type "builtin_function_or_method", none, .fields #[.builtin "type.__prepare__", .type "type"], #[]⟩,
  ⟨.type "dict", none, .dict #[en w "__module__" 727 (.str "slumberway.lexemes" 517), en w "__qualname__" 729 (.str "Layout" 728), en w "__firstlineno__" 731 (.int 166 730), en w "__init__" 738 (.ref 336), en w "take" 751 (.ref 343), en w "finish" 759 (.ref 350), en w "mark" 768 (.ref 357), en w "begin" 778 (.ref 364), en w "shut" 786 (.ref 371), en w "in_reach" 793 (.ref 378), en w "line_up" 803 (.ref 385), en w "end_let" 809 (.ref 390), en w "close" 817 (.ref 397), en w "__static_attributes__" 824 (.ref 398)] 14, #[]⟩,
  ⟨.type "tuple", none, .seq #[] 0, #[]⟩,
  ⟨.none, none, .fields #[.int 168 0, .int 4 0, .ref 335, .int 176 0, .int 4 0, .ref 342, .int 193 0, .int 4 0, .ref 349, .int 199 0, .int 4 0, .ref 356, .int 202 0, .int 4 0, .ref 363, .int 212 0, .int 4 0, .ref 370, .int 216 0, .int 4 0, .ref 377, .int 219 0, .int 4 0, .ref 384, .int 226 0, .int 4 0, .ref 389, .int 235 0, .int 4 0, .ref 396], #[]⟩,
  ⟨.type "code", none, .fields #[.str "Layout" 722, .str "Layout" 723, .str "/claim/cut.py" 724, .int 166 0, .int 0 0, .int 0 0, .int 0 0, .int 0 0, .ref 326, .bool false, .int 181 0, .ref 327, .none, .none, .none, .none, .int 725 0, .int 166 0, .str "/claim/cut.py" 726], #[]⟩,
  ⟨.type "frame", none, .plain, #[(some (.ref 328)), (some (.ref 3)), (some (.ref 325)), none, (some (.str "slumberway.lexemes" 517)), none, (some (.ref 0))]⟩,
  ⟨.type "tuple", none, .seq #[] 0, #[]⟩,
  ⟨.none, none, .fields #[], #[]⟩,
  ⟨.type "tuple", none, .seq #[.str "self" 735] 0, #[]⟩,
  ⟨.type "tuple", none, .seq #[] 0, #[]⟩,
  ⟨.none, none, fd (mt 36 0) "__init__" "Layout.__init__" 0 .none .none .none 0, #[]⟩,
  ⟨.type "code", none, .fields #[.str "__init__" 732, .str "Layout.__init__" 733, .str "/claim/cut.py" 734, .int 168 0, .int 1 0, .int 0 0, .int 0 0, .int 3 0, .ref 330, .bool true, .int 181 0, .ref 331, .none, .ref 332, .ref 333, .ref 334, .int 736 0, .int 168 0, .str "/claim/cut.py" 737], #[]⟩,
  ⟨.type "function", none, fd (mt 36 0) "__init__" "Layout.__init__" 3 .none (.str "slumberway.lexemes" 517) (.ref 335) 0, #[]⟩,
  ⟨.type "tuple", none, .seq #[] 0, #[]⟩,
  ⟨.none, none, .fields #[], #[]⟩,
  ⟨.type "tuple", none, .seq #[.str "self" 742, .str "lexeme" 743, .str "first_of_row" 744, .str "place" 745, .str "_" 746, .str "word" 747, .str "begun" 748] 0, #[]⟩,
  ⟨.type "tuple", none, .seq #[] 0, #[]⟩,
  ⟨.none, none, fd (mt 36 1) "take" "Layout.take" 0 .none .none .none 0, #[]⟩,
  ⟨.type "code", none, .fields #[.str "take" 739, .str "Layout.take" 740, .str "/claim/cut.py" 741, .int 176 0, .int 3 0, .int 0 0, .int 0 0, .int 3 0, .ref 337, .bool true, .int 181 0, .ref 338, .none, .ref 339, .ref 340, .ref 341, .int 749 0, .int 176 0, .str "/claim/cut.py" 750], #[]⟩,
  ⟨.type "function", none, fd (mt 36 1) "take" "Layout.take" 3 .none (.str "slumberway.lexemes" 517) (.ref 342) 0, #[]⟩,
  ⟨.type "tuple", none, .seq #[] 0, #[]⟩,
  ⟨.none, none, .fields #[], #[]⟩,
  ⟨.type "tuple", none, .seq #[.str "self" 755, .str "place" 756] 0, #[]⟩,
  ⟨.type "tuple", none, .seq #[] 0, #[]⟩,
  ⟨.none, none, fd (mt 36 2) "finish" "Layout.finish" 0 .none .none .none 0, #[]⟩,
  ⟨.type "code", none, .fields #[.str "finish" 752, .str "Layout.finish" 753, .str "/claim/cut.py" 754, .int 193 0, .int 2 0, .int 0 0, .int 0 0, .int 3 0, .ref 344, .bool true, .int 181 0, .ref 345, .none, .ref 346, .ref 347, .ref 348, .int 757 0, .int 193 0, .str "/claim/cut.py" 758], #[]⟩,
  ⟨.type "function", none, fd (mt 36 2) "finish" "Layout.finish" 3 .none (.str "slumberway.lexemes" 517) (.ref 349) 0, #[]⟩,
  ⟨.type "tuple", none, .seq #[] 0, #[]⟩,
  ⟨.none, none, .fields #[], #[]⟩,
  ⟨.type "tuple", none, .seq #[.str "self" 763, .str "place" 764, .str "word" 765] 0, #[]⟩,
  ⟨.type "tuple", none, .seq #[] 0, #[]⟩,
  ⟨.none, none, fd (mt 36 3) "mark" "Layout.mark" 0 .none .none .none 0, #[]⟩,
  ⟨.type "code", none, .fields #[.str "mark" 760, .str "Layout.mark" 761, .str "/claim/cut.py" 762, .int 199 0, .int 3 0, .int 0 0, .int 0 0, .int 3 0, .ref 351, .bool true, .int 181 0, .ref 352, .none, .ref 353, .ref 354, .ref 355, .int 766 0, .int 199 0, .str "/claim/cut.py" 767], #[]⟩,
  ⟨.type "function", none, fd (mt 36 3) "mark" "Layout.mark" 3 .none (.str "slumberway.lexemes" 517) (.ref 356) 0, #[]⟩,
  ⟨.type "tuple", none, .seq #[] 0, #[]⟩,
  ⟨.none, none, .fields #[], #[]⟩]
def ob_6 (w : World) : List Obj := [
  ⟨.type "tuple", none, .seq #[.str "self" 772, .str "place" 773, .str "column" 774, .str "innermost" 775] 0, #[]⟩,
  ⟨.type "tuple", none, .seq #[] 0, #[]⟩,
  ⟨.none, none, fd (mt 36 4) "begin" "Layout.begin" 0 .none .none .none 0, #[]⟩,
  ⟨.type "code", none, .fields #[.str "begin" 769, .str "Layout.begin" 770, .str "/claim/cut.py" 771, .int 202 0, .int 2 0, .int 0 0, .int 0 0, .int 3 0, .ref 358, .bool true, .int 181 0, .ref 359, .none, .ref 360, .ref 361, .ref 362, .int 776 0, .int 202 0, .str "/claim/cut.py" 777], #[]⟩,
  ⟨.type "function", none, fd (mt 36 4) "begin" "Layout.begin" 3 .none (.str "slumberway.lexemes" 517) (.ref 363) 0, #[]⟩,
  ⟨.type "tuple", none, .seq #[] 0, #[]⟩,
  ⟨.none, none, .fields #[], #[]⟩,
  ⟨.type "tuple", none, .seq #[.str "self" 782, .str "place" 783] 0, #[]⟩,
  ⟨.type "tuple", none, .seq #[] 0, #[]⟩,
  ⟨.none, none, fd (mt 36 5) "shut" "Layout.shut" 0 .none .none .none 0, #[]⟩,
  ⟨.type "code", none, .fields #[.str "shut" 779, .str "Layout.shut" 780, .str "/claim/cut.py" 781, .int 212 0, .int 2 0, .int 0 0, .int 0 0, .int 3 0, .ref 365, .bool true, .int 181 0, .ref 366, .none, .ref 367, .ref 368, .ref 369, .int 784 0, .int 212 0, .str "/claim/cut.py" 785], #[]⟩,
  ⟨.type "function", none, fd (mt 36 5) "shut" "Layout.shut" 3 .none (.str "slumberway.lexemes" 517) (.ref 370) 0, #[]⟩,
  ⟨.type "tuple", none, .seq #[] 0, #[]⟩,
  ⟨.none, none, .fields #[], #[]⟩,
  ⟨.type "tuple", none, .seq #[.str "self" 790] 0, #[]⟩,
  ⟨.type "tuple", none, .seq #[] 0, #[]⟩,
  ⟨.none, none, fd (mt 36 6) "in_reach" "Layout.in_reach" 0 .none .none .none 0, #[]⟩,
  ⟨.type "code", none, .fields #[.str "in_reach" 787, .str "Layout.in_reach" 788, .str "/claim/cut.py" 789, .int 216 0, .int 1 0, .int 0 0, .int 0 0, .int 3 0, .ref 372, .bool true, .int 181 0, .ref 373, .none, .ref 374, .ref 375, .ref 376, .int 791 0, .int 216 0, .str "/claim/cut.py" 792], #[]⟩,
  ⟨.type "function", none, fd (mt 36 6) "in_reach" "Layout.in_reach" 3 .none (.str "slumberway.lexemes" 517) (.ref 377) 0, #[]⟩,
  ⟨.type "tuple", none, .seq #[] 0, #[]⟩,
  ⟨.none, none, .fields #[], #[]⟩,
  ⟨.type "tuple", none, .seq #[.str "self" 797, .str "place" 798, .str "word" 799, .str "column" 800] 0, #[]⟩,
  ⟨.type "tuple", none, .seq #[] 0, #[]⟩,
  ⟨.none, none, fd (mt 36 7) "line_up" "Layout.line_up" 0 .none .none .none 0, #[]⟩,
  ⟨.type "code", none, .fields #[.str "line_up" 794, .str "Layout.line_up" 795, .str "/claim/cut.py" 796, .int 219 0, .int 3 0, .int 0 0, .int 0 0, .int 3 0, .ref 379, .bool true, .int 181 0, .ref 380, .none, .ref 381, .ref 382, .ref 383, .int 801 0, .int 219 0, .str "/claim/cut.py" 802], #[]⟩,
  ⟨.type "function", none, fd (mt 36 7) "line_up" "Layout.line_up" 3 .none (.str "slumberway.lexemes" 517) (.ref 384) 0, #[]⟩,
  ⟨.type "tuple", none, .seq #[] 0, #[]⟩,
  ⟨.none, none, .fields #[], #[]⟩,
  ⟨.none, none, fd (mt 36 8) "end_let" "Layout.end_let" 0 .none .none .none 0, #[]⟩,
  ⟨.type "code", none, .fields #[.str "end_let" 804, .str "Layout.end_let" 805, .str "/claim/cut.py" 806, .int 226 0, .int 2 0, .int 0 0, .int 0 0, .int 3 0, .ref 386, .bool true, .int 181 0, .ref 387, .none, .none, .none, .ref 388, .int 807 0, .int 226 0, .str "/claim/cut.py" 808], #[]⟩,
  ⟨.type "function", none, fd (mt 36 8) "end_let" "Layout.end_let" 3 .none (.str "slumberway.lexemes" 517) (.ref 389) 0, #[]⟩,
  ⟨.type "tuple", none, .seq #[] 0, #[]⟩,
  ⟨.none, none, .fields #[], #[]⟩,
  ⟨.type "tuple", none, .seq #[.str "self" 813, .str "place" 814] 0, #[]⟩,
  ⟨.type "tuple", none, .seq #[] 0, #[]⟩,
  ⟨.none, none, fd (mt 36 9) "close" "Layout.close" 0 .none .none .none 0, #[]⟩,
  ⟨.type "code", none, .fields #[.str "close" 810, .str "Layout.close" 811, .str "/claim/cut.py" 812, .int 235 0, .int 2 0, .int 0 0, .int 0 0, .int 3 0, .ref 391, .bool true, .int 181 0, .ref 392, .none, .ref 393, .ref 394, .ref 395, .int 815 0, .int 235 0, .str "/claim/cut.py" 816], #[]⟩,
  ⟨.type "function", none, fd (mt 36 9) "close" "Layout.close" 3 .none (.str "slumberway.lexemes" 517) (.ref 396) 0, #[]⟩,
  ⟨.type "tuple", none, .seq #[.str "awaits_block" 818, .str "blocks" 819, .str "brackets" 820, .str "lets" 821, .str "owner" 822, .str "told" 823] 0, #[]⟩,
  ⟨.type "dict", none, .dict #[en w "__module__" 727 (.str "slumberway.lexemes" 517), en w "__firstlineno__" 731 (.int 166 730), en w "__init__" 738 (.ref 336), en w "take" 751 (.ref 343), en w "finish" 759 (.ref 350), en w "mark" 768 (.ref 357), en w "begin" 778 (.ref 364), en w "shut" 786 (.ref 371), en w "in_reach" 793 (.ref 378), en w "line_up" 803 (.ref 385), en w "end_let" 809 (.ref 390), en w "close" 817 (.ref 397), en w "__static_attributes__" 824 (.ref 398), en w "__dict__" 826 (.ref 401), en w "__weakref__" 828 (.ref 402), en w "__doc__" 829 .none] 4, #[]⟩,
  ⟨.type "type", none, .cls ⟨"Layout", [.type "object"], [.ref 400, .type "object"], 399, "Layout", true, [], [], false, none, false⟩, #[none, none, (some (.str "Layout" 720)), (some (.str "Layout" 728)), (some (.builtin "object.__new__")), (some (.bool true))]⟩,
  ⟨.type "getset_descriptor", none, .fields #[.str "__dict__" 825, .ref 400, .builtin "function.__dict__", .builtin "function.__dict__#set"], #[]⟩,
  ⟨.type "getset_descriptor", none, .fields #[.str "__weakref__" 827, .ref 400, .builtin "ExceptionGroup.__weakref__", .none], #[]⟩,
  ⟨.type "super", none, .fields #[.ref 400, .ref 400, .ref 400], #[]⟩,
  ⟨.type "builtin_function_or_method", none, .fields #[.builtin "object.__init_subclass__", .ref 400], #[]⟩,
  ⟨.type "tuple", none, .seq #[] 0, #[]⟩,
  ⟨.none, none, .fields #[], #[]⟩,
  ⟨.type "tuple", none, .seq #[.str "thing" 837] 0, #[]⟩,
  ⟨.type "tuple", none, .seq #[] 0, #[]⟩,
  ⟨.none, none, fd (tp 38) "is_whole" "is_whole" 0 .none .none .none 0, #[]⟩,
  ⟨.type "code", none, .fields #[.str "is_whole" 834, .str "is_whole" 835, .str "/claim/cut.py" 836, .int 242 0, .int 1 0, .int 0 0, .int 0 0, .int 3 0, .ref 405, .bool true, .int 181 0, .ref 406, .none, .ref 407, .ref 408, .ref 409, .int 838 0, .int 242 0, .str "/claim/cut.py" 839], #[]⟩,
  ⟨.type "function", none, fd (tp 38) "is_whole" "is_whole" 3 .none (.str "slumberway.coreforms" 832) (.ref 410) 0, #[]⟩,
  ⟨.type "tuple", none, .seq #[.type "Exception"] 0, #[]⟩,
  ⟨.type "builtin_function_or_method", none, .fields #[.builtin "type.__prepare__", .type "type"], #[]⟩,
  ⟨.type "dict", none, .dict #[en w "__module__" 858 (.str "slumberway.solving" 843), en w "__qualname__" 860 (.str "Clashing" 859), en w "__firstlineno__" 862 (.int 249 861), en w "__static_attributes__" 863 (.ref 419)] 4, #[]⟩,
  ⟨.type "tuple", none, .seq #[] 0, #[]⟩,
  ⟨.none, none, .fields #[], #[]⟩,
  ⟨.type "code", none, .fields #[.str "Clashing" 853, .str "Clashing" 854, .str "/claim/cut.py" 855, .int 249 0, .int 0 0, .int 0 0, .int 0 0, .int 0 0, .ref 415, .bool false, .int 181 0, .ref 416, .none, .none, .none, .none, .int 856 0, .int 249 0, .str "/claim/cut.py" 857], #[]⟩,
  ⟨.type "frame", none, .plain, #[(some (.ref 417)), (some (.ref 3)), (some (.ref 414)), none, (some (.str "slumberway.solving" 843)), none, (some (.ref 0))]⟩,
  ⟨.type "tuple", none, .seq #[] 0, #[]⟩]
def ob_7 (w : World) : List Obj := [
  ⟨.type "dict", none, .dict #[en w "__module__" 858 (.str "slumberway.solving" 843), en w "__firstlineno__" 862 (.int 249 861), en w "__static_attributes__" 863 (.ref 419), en w "__weakref__" 865 (.ref 422), en w "__doc__" 866 .none] 3, #[]⟩,
  ⟨.type "type", none, .cls ⟨"Clashing", [.type "Exception"], [.ref 421, .type "Exception", .type "BaseException", .type "object"], 420, "Clashing", true, [], [], false, none, false⟩, #[(some (.ref 412)), none, (some (.str "Clashing" 851)), (some (.str "Clashing" 859)), (some (.builtin "Exception.__new__")), (some (.bool true))]⟩,
  ⟨.type "getset_descriptor", none, .fields #[.str "__weakref__" 864, .ref 421, .builtin "ExceptionGroup.__weakref__", .none], #[]⟩,
  ⟨.type "super", none, .fields #[.ref 421, .ref 421, .ref 421], #[]⟩,
  ⟨.type "builtin_function_or_method", none, .fields #[.builtin "object.__init_subclass__", .ref 421], #[]⟩,
  ⟨.type "tuple", none, .seq #[] 0, #[]⟩,
  ⟨.type "builtin_function_or_method", none, .fields #[.builtin "type.__prepare__", .type "type"], #[]⟩,
  ⟨.type "dict", none, .dict #[en w "__module__" 878 (.str "slumberway.solving" 843), en w "__qualname__" 880 (.str "Solver" 879), en w "__firstlineno__" 882 (.int 251 881), en w "__slots__" 885 (.ref 432), en w "__init__" 892 (.ref 439), en w "twin" 900 (.ref 446), en w "blank" 908 (.ref 453), en w "letter" 916 (.ref 460), en w "made" 926 (.ref 467), en w "leading" 936 (.ref 474), en w "root" 947 (.ref 481), en w "meet" 962 (.ref 488), en w "meet_parts" 976 (.ref 495), en w "bind" 986 (.ref 502), en w "is_endless" 1000 (.ref 509), en w "could_be" 1014 (.ref 516), en w "text" 1028 (.ref 523), en w "short_text" 1039 (.ref 530), en w "pieces" 1053 (.ref 537), en w "anew" 1067 (.ref 544), en w "__static_attributes__" 1070 (.ref 545)] 21, #[]⟩,
  ⟨.type "tuple", none, .seq #[] 0, #[]⟩,
  ⟨.none, none, .fields #[.int 254 0, .int 4 0, .ref 438, .int 258 0, .int 4 0, .ref 445, .int 264 0, .int 4 0, .ref 452, .int 270 0, .int 4 0, .ref 459, .int 276 0, .int 4 0, .ref 466, .int 282 0, .int 4 0, .ref 473, .int 287 0, .int 4 0, .ref 480, .int 298 0, .int 4 0, .ref 487, .int 320 0, .int 4 0, .ref 494, .int 336 0, .int 4 0, .ref 501, .int 342 0, .int 4 0, .ref 508, .int 359 0, .int 4 0, .ref 515, .int 380 0, .int 4 0, .ref 522, .int 392 0, .int 4 0, .ref 529, .int 401 0, .int 4 0, .ref 536, .int 415 0, .int 4 0, .ref 543], #[]⟩,
  ⟨.type "code", none, .fields #[.str "Solver" 873, .str "Solver" 874, .str "/claim/cut.py" 875, .int 251 0, .int 0 0, .int 0 0, .int 0 0, .int 0 0, .ref 428, .bool false, .int 181 0, .ref 429, .none, .none, .none, .none, .int 876 0, .int 251 0, .str "/claim/cut.py" 877], #[]⟩,
  ⟨.type "frame", none, .plain, #[(some (.ref 430)), (some (.ref 3)), (some (.ref 427)), none, (some (.str "slumberway.solving" 843)), none, (some (.ref 0))]⟩,
  ⟨.type "tuple", none, .seq #[.str "stands" 883, .str "forms" 884] 0, #[]⟩,
  ⟨.type "tuple", none, .seq #[] 0, #[]⟩,
  ⟨.none, none, .fields #[], #[]⟩,
  ⟨.type "tuple", none, .seq #[.str "self" 889] 0, #[]⟩,
  ⟨.type "tuple", none, .seq #[] 0, #[]⟩,
  ⟨.none, none, fd (mt 45 1) "__init__" "Solver.__init__" 0 .none .none .none 0, #[]⟩,
  ⟨.type "code", none, .fields #[.str "__init__" 886, .str "Solver.__init__" 887, .str "/claim/cut.py" 888, .int 254 0, .int 1 0, .int 0 0, .int 0 0, .int 3 0, .ref 433, .bool true, .int 181 0, .ref 434, .none, .ref 435, .ref 436, .ref 437, .int 890 0, .int 254 0, .str "/claim/cut.py" 891], #[]⟩,
  ⟨.type "function", none, fd (mt 45 1) "__init__" "Solver.__init__" 3 .none (.str "slumberway.solving" 843) (.ref 438) 0, #[]⟩,
  ⟨.type "tuple", none, .seq #[] 0, #[]⟩,
  ⟨.none, none, .fields #[], #[]⟩,
  ⟨.type "tuple", none, .seq #[.str "self" 896, .str "told" 897] 0, #[]⟩,
  ⟨.type "tuple", none, .seq #[] 0, #[]⟩,
  ⟨.none, none, fd (mt 45 2) "twin" "Solver.twin" 0 .none .none .none 0, #[]⟩,
  ⟨.type "code", none, .fields #[.str "twin" 893, .str "Solver.twin" 894, .str "/claim/cut.py" 895, .int 258 0, .int 1 0, .int 0 0, .int 0 0, .int 3 0, .ref 440, .bool true, .int 181 0, .ref 441, .none, .ref 442, .ref 443, .ref 444, .int 898 0, .int 258 0, .str "/claim/cut.py" 899], #[]⟩,
  ⟨.type "function", none, fd (mt 45 2) "twin" "Solver.twin" 3 .none (.str "slumberway.solving" 843) (.ref 445) 0, #[]⟩,
  ⟨.type "tuple", none, .seq #[] 0, #[]⟩,
  ⟨.none, none, .fields #[], #[]⟩,
  ⟨.type "tuple", none, .seq #[.str "self" 904, .str "told" 905] 0, #[]⟩,
  ⟨.type "tuple", none, .seq #[] 0, #[]⟩,
  ⟨.none, none, fd (mt 45 3) "blank" "Solver.blank" 0 .none .none .none 0, #[]⟩,
  ⟨.type "code", none, .fields #[.str "blank" 901, .str "Solver.blank" 902, .str "/claim/cut.py" 903, .int 264 0, .int 1 0, .int 0 0, .int 0 0, .int 3 0, .ref 447, .bool true, .int 181 0, .ref 448, .none, .ref 449, .ref 450, .ref 451, .int 906 0, .int 264 0, .str "/claim/cut.py" 907], #[]⟩,
  ⟨.type "function", none, fd (mt 45 3) "blank" "Solver.blank" 3 .none (.str "slumberway.solving" 843) (.ref 452) 0, #[]⟩,
  ⟨.type "tuple", none, .seq #[] 0, #[]⟩,
  ⟨.none, none, .fields #[], #[]⟩,
  ⟨.type "tuple", none, .seq #[.str "self" 912, .str "node" 913] 0, #[]⟩,
  ⟨.type "tuple", none, .seq #[] 0, #[]⟩,
  ⟨.none, none, fd (mt 45 4) "letter" "Solver.letter" 0 .none .none .none 0, #[]⟩,
  ⟨.type "code", none, .fields #[.str "letter" 909, .str "Solver.letter" 910, .str "/claim/cut.py" 911, .int 270 0, .int 1 0, .int 0 0, .int 0 0, .int 3 0, .ref 454, .bool true, .int 181 0, .ref 455, .none, .ref 456, .ref 457, .ref 458, .int 914 0, .int 270 0, .str "/claim/cut.py" 915], #[]⟩,
  ⟨.type "function", none, fd (mt 45 4) "letter" "Solver.letter" 3 .none (.str "slumberway.solving" 843) (.ref 459) 0, #[]⟩,
  ⟨.type "tuple", none, .seq #[] 0, #[]⟩,
  ⟨.none, none, .fields #[], #[]⟩,
  ⟨.type "tuple", none, .seq #[.str "self" 920, .str "word" 921, .str "parts" 922, .str "node" 923] 0, #[]⟩,
  ⟨.type "tuple", none, .seq #[] 0, #[]⟩,
  ⟨.none, none, fd (mt 45 5) "made" "Solver.made" 0 .none .none .none 0, #[]⟩,
  ⟨.type "code", none, .fields #[.str "made" 917, .str "Solver.made" 918, .str "/claim/cut.py" 919, .int 276 0, .int 3 0, .int 0 0, .int 0 0, .int 3 0, .ref 461, .bool true, .int 181 0, .ref 462, .none, .ref 463, .ref 464, .ref 465, .int 924 0, .int 276 0, .str "/claim/cut.py" 925], #[]⟩,
  ⟨.type "function", none, fd (mt 45 5) "made" "Solver.made" 3 .none (.str "slumberway.solving" 843) (.ref 466) 0, #[]⟩,
  ⟨.type "tuple", none, .seq #[] 0, #[]⟩,
  ⟨.none, none, .fields #[], #[]⟩,
  ⟨.type "tuple", none, .seq #[.str "self" 930, .str "parts" 931, .str "last" 932, .str "part" 933] 0, #[]⟩,
  ⟨.type "tuple", none, .seq #[] 0, #[]⟩,
  ⟨.none, none, fd (mt 45 6) "leading" "Solver.leading" 0 .none .none .none 0, #[]⟩,
  ⟨.type "code", none, .fields #[.str "leading" 927, .str "Solver.leading" 928, .str "/claim/cut.py" 929, .int 282 0, .int 3 0, .int 0 0, .int 0 0, .int 3 0, .ref 468, .bool true, .int 181 0, .ref 469, .none, .ref 470, .ref 471, .ref 472, .int 934 0, .int 282 0, .str "/claim/cut.py" 935], #[]⟩,
  ⟨.type "function", none, fd (mt 45 6) "leading" "Solver.leading" 3 .none (.str "slumberway.solving" 843) (.ref 473) 0, #[]⟩,
  ⟨.type "tuple", none, .seq #[] 0, #[]⟩,
  ⟨.none, none, .fields #[], #[]⟩,
  ⟨.type "tuple", none, .seq #[.str "self" 940, .str "node" 941, .str "stands" 942, .str "root" 943, .str "ahead" 944] 0, #[]⟩,
  ⟨.type "tuple", none, .seq #[] 0, #[]⟩,
  ⟨.none, none, fd (mt 45 7) "root" "Solver.root" 0 .none .none .none 0, #[]⟩]
def ob_8 (w : World) : List Obj := [
  ⟨.type "code", none, .fields #[.str "root" 937, .str "Solver.root" 938, .str "/claim/cut.py" 939, .int 287 0, .int 2 0, .int 0 0, .int 0 0, .int 3 0, .ref 475, .bool true, .int 181 0, .ref 476, .none, .ref 477, .ref 478, .ref 479, .int 945 0, .int 287 0, .str "/claim/cut.py" 946], #[]⟩,
  ⟨.type "function", none, fd (mt 45 7) "root" "Solver.root" 3 .none (.str "slumberway.solving" 843) (.ref 480) 0, #[]⟩,
  ⟨.type "tuple", none, .seq #[] 0, #[]⟩,
  ⟨.none, none, .fields #[], #[]⟩,
  ⟨.type "tuple", none, .seq #[.str "self" 951, .str "one" 952, .str "other" 953, .str "stands" 954, .str "forms" 955, .str "word" 956, .str "parts" 957, .str "other_word" 958, .str "others" 959] 0, #[]⟩,
  ⟨.type "tuple", none, .seq #[] 0, #[]⟩,
  ⟨.none, none, fd (mt 45 8) "meet" "Solver.meet" 0 .none .none .none 0, #[]⟩,
  ⟨.type "code", none, .fields #[.str "meet" 948, .str "Solver.meet" 949, .str "/claim/cut.py" 950, .int 298 0, .int 3 0, .int 0 0, .int 0 0, .int 3 0, .ref 482, .bool true, .int 181 0, .ref 483, .none, .ref 484, .ref 485, .ref 486, .int 960 0, .int 298 0, .str "/claim/cut.py" 961], #[]⟩,
  ⟨.type "function", none, fd (mt 45 8) "meet" "Solver.meet" 3 .none (.str "slumberway.solving" 843) (.ref 487) 0, #[]⟩,
  ⟨.type "tuple", none, .seq #[] 0, #[]⟩,
  ⟨.none, none, .fields #[], #[]⟩,
  ⟨.type "tuple", none, .seq #[.str "self" 966, .str "parts" 967, .str "others" 968, .str "pile" 969, .str "one" 970, .str "other" 971, .str "word" 972, .str "other_word" 973] 0, #[]⟩,
  ⟨.type "tuple", none, .seq #[] 0, #[]⟩,
  ⟨.none, none, fd (mt 45 9) "meet_parts" "Solver.meet_parts" 0 .none .none .none 0, #[]⟩,
  ⟨.type "code", none, .fields #[.str "meet_parts" 963, .str "Solver.meet_parts" 964, .str "/claim/cut.py" 965, .int 320 0, .int 3 0, .int 0 0, .int 0 0, .int 3 0, .ref 489, .bool true, .int 181 0, .ref 490, .none, .ref 491, .ref 492, .ref 493, .int 974 0, .int 320 0, .str "/claim/cut.py" 975], #[]⟩,
  ⟨.type "function", none, fd (mt 45 9) "meet_parts" "Solver.meet_parts" 3 .none (.str "slumberway.solving" 843) (.ref 494) 0, #[]⟩,
  ⟨.type "tuple", none, .seq #[] 0, #[]⟩,
  ⟨.none, none, .fields #[], #[]⟩,
  ⟨.type "tuple", none, .seq #[.str "self" 980, .str "letter" 981, .str "node" 982, .str "form" 983] 0, #[]⟩,
  ⟨.type "tuple", none, .seq #[] 0, #[]⟩,
  ⟨.none, none, fd (mt 45 10) "bind" "Solver.bind" 0 .none .none .none 0, #[]⟩,
  ⟨.type "code", none, .fields #[.str "bind" 977, .str "Solver.bind" 978, .str "/claim/cut.py" 979, .int 336 0, .int 3 0, .int 0 0, .int 0 0, .int 3 0, .ref 496, .bool true, .int 181 0, .ref 497, .none, .ref 498, .ref 499, .ref 500, .int 984 0, .int 336 0, .str "/claim/cut.py" 985], #[]⟩,
  ⟨.type "function", none, fd (mt 45 10) "bind" "Solver.bind" 3 .none (.str "slumberway.solving" 843) (.ref 501) 0, #[]⟩,
  ⟨.type "tuple", none, .seq #[] 0, #[]⟩,
  ⟨.none, none, .fields #[], #[]⟩,
  ⟨.type "tuple", none, .seq #[.str "self" 990, .str "node" 991, .str "stands" 992, .str "forms" 993, .str "seen" 994, .str "pile" 995, .str "root" 996, .str "form" 997] 0, #[]⟩,
  ⟨.type "tuple", none, .seq #[] 0, #[]⟩,
  ⟨.none, none, fd (mt 45 11) "is_endless" "Solver.is_endless" 0 .none .none .none 0, #[]⟩,
  ⟨.type "code", none, .fields #[.str "is_endless" 987, .str "Solver.is_endless" 988, .str "/claim/cut.py" 989, .int 342 0, .int 2 0, .int 0 0, .int 0 0, .int 3 0, .ref 503, .bool true, .int 181 0, .ref 504, .none, .ref 505, .ref 506, .ref 507, .int 998 0, .int 342 0, .str "/claim/cut.py" 999], #[]⟩,
  ⟨.type "function", none, fd (mt 45 11) "is_endless" "Solver.is_endless" 3 .none (.str "slumberway.solving" 843) (.ref 508) 0, #[]⟩,
  ⟨.type "tuple", none, .seq #[] 0, #[]⟩,
  ⟨.none, none, .fields #[], #[]⟩,
  ⟨.type "tuple", none, .seq #[.str "self" 1004, .str "one" 1005, .str "other" 1006, .str "pile" 1007, .str "word" 1008, .str "parts" 1009, .str "other_word" 1010, .str "others" 1011] 0, #[]⟩,
  ⟨.type "tuple", none, .seq #[] 0, #[]⟩,
  ⟨.none, none, fd (mt 45 12) "could_be" "Solver.could_be" 0 .none .none .none 0, #[]⟩,
  ⟨.type "code", none, .fields #[.str "could_be" 1001, .str "Solver.could_be" 1002, .str "/claim/cut.py" 1003, .int 359 0, .int 3 0, .int 0 0, .int 0 0, .int 3 0, .ref 510, .bool true, .int 181 0, .ref 511, .none, .ref 512, .ref 513, .ref 514, .int 1012 0, .int 359 0, .str "/claim/cut.py" 1013], #[]⟩,
  ⟨.type "function", none, fd (mt 45 12) "could_be" "Solver.could_be" 3 .none (.str "slumberway.solving" 843) (.ref 515) 0, #[]⟩,
  ⟨.type "tuple", none, .seq #[] 0, #[]⟩,
  ⟨.none, none, .fields #[], #[]⟩,
  ⟨.type "tuple", none, .seq #[.str "self" 1018, .str "node" 1019, .str "names" 1020, .str "told" 1021, .str "word" 1022, .str "parts" 1023, .str "texts" 1024, .str "part" 1025] 0, #[]⟩,
  ⟨.type "tuple", none, .seq #[] 0, #[]⟩,
  ⟨.none, none, fd (mt 45 13) "text" "Solver.text" 0 .none .none .none 0, #[]⟩,
  ⟨.type "code", none, .fields #[.str "text" 1015, .str "Solver.text" 1016, .str "/claim/cut.py" 1017, .int 380 0, .int 3 0, .int 0 0, .int 0 0, .int 3 0, .ref 517, .bool true, .int 181 0, .ref 518, .none, .ref 519, .ref 520, .ref 521, .int 1026 0, .int 380 0, .str "/claim/cut.py" 1027], #[]⟩,
  ⟨.type "function", none, fd (mt 45 13) "text" "Solver.text" 3 .none (.str "slumberway.solving" 843) (.ref 522) 0, #[]⟩,
  ⟨.type "tuple", none, .seq #[] 0, #[]⟩,
  ⟨.none, none, .fields #[], #[]⟩,
  ⟨.type "tuple", none, .seq #[.str "self" 1032, .str "node" 1033, .str "names" 1034, .str "root" 1035, .str "form" 1036] 0, #[]⟩,
  ⟨.type "tuple", none, .seq #[] 0, #[]⟩,
  ⟨.none, none, fd (mt 45 14) "short_text" "Solver.short_text" 0 .none .none .none 0, #[]⟩,
  ⟨.type "code", none, .fields #[.str "short_text" 1029, .str "Solver.short_text" 1030, .str "/claim/cut.py" 1031, .int 392 0, .int 3 0, .int 0 0, .int 0 0, .int 3 0, .ref 524, .bool true, .int 181 0, .ref 525, .none, .ref 526, .ref 527, .ref 528, .int 1037 0, .int 392 0, .str "/claim/cut.py" 1038], #[]⟩,
  ⟨.type "function", none, fd (mt 45 14) "short_text" "Solver.short_text" 3 .none (.str "slumberway.solving" 843) (.ref 529) 0, #[]⟩,
  ⟨.type "tuple", none, .seq #[] 0, #[]⟩,
  ⟨.none, none, .fields #[], #[]⟩,
  ⟨.type "tuple", none, .seq #[.str "self" 1043, .str "first" 1044, .str "told" 1045, .str "pile" 1046, .str "root" 1047, .str "form" 1048, .str "word" 1049, .str "parts" 1050] 0, #[]⟩,
  ⟨.type "tuple", none, .seq #[] 0, #[]⟩,
  ⟨.none, none, fd (mt 45 15) "pieces" "Solver.pieces" 0 .none .none .none 0, #[]⟩,
  ⟨.type "code", none, .fields #[.str "pieces" 1040, .str "Solver.pieces" 1041, .str "/claim/cut.py" 1042, .int 401 0, .int 2 0, .int 0 0, .int 0 0, .int 3 0, .ref 531, .bool true, .int 181 0, .ref 532, .none, .ref 533, .ref 534, .ref 535, .int 1051 0, .int 401 0, .str "/claim/cut.py" 1052], #[]⟩,
  ⟨.type "function", none, fd (mt 45 15) "pieces" "Solver.pieces" 3 .none (.str "slumberway.solving" 843) (.ref 536) 0, #[]⟩,
  ⟨.type "tuple", none, .seq #[] 0, #[]⟩,
  ⟨.none, none, .fields #[], #[]⟩]
def ob_9 (w : World) : List Obj := [
  ⟨.type "tuple", none, .seq #[.str "self" 1057, .str "pieces" 1058, .str "letters" 1059, .str "done" 1060, .str "piece" 1061, .str "word" 1062, .str "many" 1063, .str "at" 1064] 0, #[]⟩,
  ⟨.type "tuple", none, .seq #[] 0, #[]⟩,
  ⟨.none, none, fd (mt 45 16) "anew" "Solver.anew" 0 .none .none .none 0, #[]⟩,
  ⟨.type "code", none, .fields #[.str "anew" 1054, .str "Solver.anew" 1055, .str "/claim/cut.py" 1056, .int 415 0, .int 2 0, .int 0 0, .int 0 0, .int 3 0, .ref 538, .bool true, .int 181 0, .ref 539, .none, .ref 540, .ref 541, .ref 542, .int 1065 0, .int 415 0, .str "/claim/cut.py" 1066], #[]⟩,
  ⟨.type "function", none, fd (mt 45 16) "anew" "Solver.anew" 3 .none (.str "slumberway.solving" 843) (.ref 543) 0, #[]⟩,
  ⟨.type "tuple", none, .seq #[.str "forms" 1068, .str "stands" 1069] 0, #[]⟩,
  ⟨.type "list", none, .seq #[.str "stands" 883, .str "forms" 884] 1, #[]⟩,
  ⟨.type "dict", none, .dict #[en w "__module__" 878 (.str "slumberway.solving" 843), en w "__firstlineno__" 882 (.int 251 881), en w "__slots__" 885 (.ref 432), en w "__init__" 892 (.ref 439), en w "twin" 900 (.ref 446), en w "blank" 908 (.ref 453), en w "letter" 916 (.ref 460), en w "made" 926 (.ref 467), en w "leading" 936 (.ref 474), en w "root" 947 (.ref 481), en w "meet" 962 (.ref 488), en w "meet_parts" 976 (.ref 495), en w "bind" 986 (.ref 502), en w "is_endless" 1000 (.ref 509), en w "could_be" 1014 (.ref 516), en w "text" 1028 (.ref 523), en w "short_text" 1039 (.ref 530), en w "pieces" 1053 (.ref 537), en w "anew" 1067 (.ref 544), en w "__static_attributes__" 1070 (.ref 545), en w "forms" 1072 (.ref 549), en w "stands" 1074 (.ref 550), en w "__doc__" 1075 .none] 4, #[]⟩,
  ⟨.type "type", none, .cls ⟨"Solver", [.type "object"], [.ref 548, .type "object"], 547, "Solver", false, ["forms", "stands"], [], false, none, false⟩, #[none, none, (some (.str "Solver" 871)), (some (.str "Solver" 879)), (some (.builtin "object.__new__")), (some (.bool false))]⟩,
  ⟨.type "member_descriptor", none, .fields #[.str "forms" 1071, .ref 548, .builtin "proto.slot", .builtin "proto.slot#set", .int 1 0], #[]⟩,
  ⟨.type "member_descriptor", none, .fields #[.str "stands" 1073, .ref 548, .builtin "proto.slot", .builtin "proto.slot#set", .int 0 0], #[]⟩,
  ⟨.type "super", none, .fields #[.ref 548, .ref 548, .ref 548], #[]⟩,
  ⟨.type "builtin_function_or_method", none, .fields #[.builtin "object.__init_subclass__", .ref 548], #[]⟩,
  ⟨.type "tuple", none, .seq #[] 0, #[]⟩,
  ⟨.none, none, .fields #[], #[]⟩,
  ⟨.type "tuple", none, .seq #[.str "pieces" 1081, .str "names" 1082, .str "piece" 1083, .str "done" 1084, .str "word" 1085, .str "many" 1086, .str "one" 1087, .str "shape" 1088, .str "other" 1089, .str "_" 1090, .str "parts" 1091, .str "text" 1092] 0, #[]⟩,
  ⟨.type "tuple", none, .seq #[] 0, #[]⟩,
  ⟨.none, none, fd (tp 46) "pieces_text" "pieces_text" 0 .none .none .none 0, #[]⟩,
  ⟨.type "code", none, .fields #[.str "pieces_text" 1078, .str "pieces_text" 1079, .str "/claim/cut.py" 1080, .int 428 0, .int 2 0, .int 0 0, .int 0 0, .int 3 0, .ref 553, .bool true, .int 181 0, .ref 554, .none, .ref 555, .ref 556, .ref 557, .int 1093 0, .int 428 0, .str "/claim/cut.py" 1094], #[]⟩,
  ⟨.type "function", none, fd (tp 46) "pieces_text" "pieces_text" 3 .none (.str "slumberway.solving" 843) (.ref 558) 0, #[]⟩,
  ⟨.type "tuple", none, .seq #[] 0, #[]⟩,
  ⟨.none, none, .fields #[], #[]⟩,
  ⟨.type "tuple", none, .seq #[.str "number" 1099, .str "told" 1100] 0, #[]⟩,
  ⟨.type "tuple", none, .seq #[] 0, #[]⟩,
  ⟨.none, none, fd (tp 47) "letter_text" "letter_text" 0 .none .none .none 0, #[]⟩,
  ⟨.type "code", none, .fields #[.str "letter_text" 1096, .str "letter_text" 1097, .str "/claim/cut.py" 1098, .int 450 0, .int 1 0, .int 0 0, .int 0 0, .int 3 0, .ref 560, .bool true, .int 181 0, .ref 561, .none, .ref 562, .ref 563, .ref 564, .int 1101 0, .int 450 0, .str "/claim/cut.py" 1102], #[]⟩,
  ⟨.type "function", none, fd (tp 47) "letter_text" "letter_text" 3 .none (.str "slumberway.solving" 843) (.ref 565) 0, #[]⟩,
  ⟨.type "tuple", none, .seq #[] 0, #[]⟩,
  ⟨.none, none, .fields #[], #[]⟩,
  ⟨.none, none, fd (tp 49) "binds" "binds" 0 .none .none .none 0, #[]⟩,
  ⟨.type "code", none, .fields #[.str "binds" 1106, .str "binds" 1107, .str "/claim/cut.py" 1108, .int 457 0, .int 1 0, .int 0 0, .int 0 0, .int 3 0, .ref 567, .bool true, .int 181 0, .ref 568, .none, .none, .none, .ref 569, .int 1109 0, .int 457 0, .str "/claim/cut.py" 1110], #[]⟩,
  ⟨.type "function", none, fd (tp 49) "binds" "binds" 3 .none (.str "slumberway.walks" 1104) (.ref 570) 0, #[]⟩,
  ⟨.type "tuple", none, .seq #[] 0, #[]⟩,
  ⟨.none, none, .fields #[], #[]⟩,
  ⟨.type "tuple", none, .seq #[.str "patterns" 1115, .str "told" 1116, .str "pile" 1117, .str "pattern" 1118] 0, #[]⟩,
  ⟨.type "tuple", none, .seq #[] 0, #[]⟩,
  ⟨.none, none, fd (tp 50) "all_patterns" "all_patterns" 0 .none .none .none 0, #[]⟩,
  ⟨.type "code", none, .fields #[.str "all_patterns" 1112, .str "all_patterns" 1113, .str "/claim/cut.py" 1114, .int 459 0, .int 1 0, .int 0 0, .int 0 0, .int 3 0, .ref 572, .bool true, .int 181 0, .ref 573, .none, .ref 574, .ref 575, .ref 576, .int 1119 0, .int 459 0, .str "/claim/cut.py" 1120], #[]⟩,
  ⟨.type "function", none, fd (tp 50) "all_patterns" "all_patterns" 3 .none (.str "slumberway.walks" 1104) (.ref 577) 0, #[]⟩,
  ⟨.type "tuple", none, .seq #[] 0, #[]⟩,
  ⟨.none, none, .fields #[], #[]⟩,
  ⟨.type "tuple", none, .seq #[.str "kinds" 1125, .str "told" 1126, .str "pile" 1127, .str "kind" 1128] 0, #[]⟩,
  ⟨.type "tuple", none, .seq #[] 0, #[]⟩,
  ⟨.none, none, fd (tp 51) "all_kinds" "all_kinds" 0 .none .none .none 0, #[]⟩,
  ⟨.type "code", none, .fields #[.str "all_kinds" 1122, .str "all_kinds" 1123, .str "/claim/cut.py" 1124, .int 468 0, .int 1 0, .int 0 0, .int 0 0, .int 3 0, .ref 579, .bool true, .int 181 0, .ref 580, .none, .ref 581, .ref 582, .ref 583, .int 1129 0, .int 468 0, .str "/claim/cut.py" 1130], #[]⟩,
  ⟨.type "function", none, fd (tp 51) "all_kinds" "all_kinds" 3 .none (.str "slumberway.walks" 1104) (.ref 584) 0, #[]⟩,
  ⟨.type "tuple", none, .seq #[] 0, #[]⟩,
  ⟨.none, none, .fields #[], #[]⟩,
  ⟨.type "tuple", none, .seq #[.str "defs" 1135, .str "told" 1136, .str "pile" 1137, .str "step" 1138, .str "steps_within" 1139] 0, #[]⟩,
  ⟨.type "tuple", none, .seq #[] 0, #[]⟩,
  ⟨.none, none, fd (tp 52) "steps" "steps" 0 .none .none .none 0, #[]⟩,
  ⟨.type "code", none, .fields #[.str "steps" 1132, .str "steps" 1133, .str "/claim/cut.py" 1134, .int 479 0, .int 1 0, .int 0 0, .int 0 0, .int 3 0, .ref 586, .bool true, .int 181 0, .ref 587, .none, .ref 588, .ref 589, .ref 590, .int 1140 0, .int 479 0, .str "/claim/cut.py" 1141], #[]⟩,
  ⟨.type "function", none, fd (tp 52) "steps" "steps" 3 .none (.str "slumberway.walks" 1104) (.ref 591) 0, #[]⟩,
  ⟨.type "tuple", none, .seq #[] 0, #[]⟩,
  ⟨.none, none, .fields #[], #[]⟩,
  ⟨.type "tuple", none, .seq #[.str "names" 1146, .str "told" 1147] 0, #[]⟩,
  ⟨.type "tuple", none, .seq #[] 0, #[]⟩,
  ⟨.none, none, fd (tp 53) "hidden" "hidden" 0 .none .none .none 0, #[]⟩,
  ⟨.type "code", none, .fields #[.str "hidden" 1143, .str "hidden" 1144, .str "/claim/cut.py" 1145, .int 489 0, .int 2 0, .int 0 0, .int 0 0, .int 3 0, .ref 593, .bool true, .int 181 0, .ref 594, .none, .ref 595, .ref 596, .ref 597, .int 1148 0, .int 489 0, .str "/claim/cut.py" 1149], #[]⟩,
  ⟨.type "function", none, fd (tp 53) "hidden" "hidden" 3 .none (.str "slumberway.walks" 1104) (.ref 598) 0, #[]⟩]
def ob_10 (w : World) : List Obj := [
  ⟨.type "tuple", none, .seq #[] 0, #[]⟩,
  ⟨.none, none, .fields #[], #[]⟩,
  ⟨.type "tuple", none, .seq #[.str "place" 1154, .str "patterns" 1155, .str "sides" 1156, .str "told" 1157, .str "guard" 1158, .str "side" 1159] 0, #[]⟩,
  ⟨.type "tuple", none, .seq #[] 0, #[]⟩,
  ⟨.none, none, fd (tp 54) "rule_steps" "rule_steps" 0 .none .none .none 0, #[]⟩,
  ⟨.type "code", none, .fields #[.str "rule_steps" 1151, .str "rule_steps" 1152, .str "/claim/cut.py" 1153, .int 491 0, .int 3 0, .int 0 0, .int 0 0, .int 3 0, .ref 600, .bool true, .int 181 0, .ref 601, .none, .ref 602, .ref 603, .ref 604, .int 1160 0, .int 491 0, .str "/claim/cut.py" 1161], #[]⟩,
  ⟨.type "function", none, fd (tp 54) "rule_steps" "rule_steps" 3 .none (.str "slumberway.walks" 1104) (.ref 605) 0, #[]⟩,
  ⟨.type "tuple", none, .seq #[] 0, #[]⟩,
  ⟨.none, none, .fields #[], #[]⟩,
  ⟨.type "tuple", none, .seq #[.str "step" 1166, .str "told" 1167, .str "place" 1168, .str "patterns" 1169, .str "sides" 1170] 0, #[]⟩,
  ⟨.type "tuple", none, .seq #[] 0, #[]⟩,
  ⟨.none, none, fd (tp 55) "def_steps" "def_steps" 0 .none .none .none 0, #[]⟩,
  ⟨.type "code", none, .fields #[.str "def_steps" 1163, .str "def_steps" 1164, .str "/claim/cut.py" 1165, .int 498 0, .int 1 0, .int 0 0, .int 0 0, .int 3 0, .ref 607, .bool true, .int 181 0, .ref 608, .none, .ref 609, .ref 610, .ref 611, .int 1171 0, .int 498 0, .str "/claim/cut.py" 1172], #[]⟩,
  ⟨.type "function", none, fd (tp 55) "def_steps" "def_steps" 3 .none (.str "slumberway.walks" 1104) (.ref 612) 0, #[]⟩,
  ⟨.type "tuple", none, .seq #[] 0, #[]⟩,
  ⟨.none, none, .fields #[], #[]⟩,
  ⟨.type "tuple", none, .seq #[.str "step" 1177] 0, #[]⟩,
  ⟨.type "tuple", none, .seq #[] 0, #[]⟩,
  ⟨.none, none, fd (tp 56) "call_steps" "call_steps" 0 .none .none .none 0, #[]⟩,
  ⟨.type "code", none, .fields #[.str "call_steps" 1174, .str "call_steps" 1175, .str "/claim/cut.py" 1176, .int 503 0, .int 1 0, .int 0 0, .int 0 0, .int 3 0, .ref 614, .bool true, .int 181 0, .ref 615, .none, .ref 616, .ref 617, .ref 618, .int 1178 0, .int 503 0, .str "/claim/cut.py" 1179], #[]⟩,
  ⟨.type "function", none, fd (tp 56) "call_steps" "call_steps" 3 .none (.str "slumberway.walks" 1104) (.ref 619) 0, #[]⟩,
  ⟨.type "tuple", none, .seq #[] 0, #[]⟩,
  ⟨.none, none, .fields #[], #[]⟩,
  ⟨.type "tuple", none, .seq #[.str "step" 1184] 0, #[]⟩,
  ⟨.type "tuple", none, .seq #[] 0, #[]⟩,
  ⟨.none, none, fd (tp 57) "op_steps" "op_steps" 0 .none .none .none 0, #[]⟩,
  ⟨.type "code", none, .fields #[.str "op_steps" 1181, .str "op_steps" 1182, .str "/claim/cut.py" 1183, .int 505 0, .int 1 0, .int 0 0, .int 0 0, .int 3 0, .ref 621, .bool true, .int 181 0, .ref 622, .none, .ref 623, .ref 624, .ref 625, .int 1185 0, .int 505 0, .str "/claim/cut.py" 1186], #[]⟩,
  ⟨.type "function", none, fd (tp 57) "op_steps" "op_steps" 3 .none (.str "slumberway.walks" 1104) (.ref 626) 0, #[]⟩,
  ⟨.type "tuple", none, .seq #[] 0, #[]⟩,
  ⟨.none, none, .fields #[], #[]⟩,
  ⟨.type "tuple", none, .seq #[.str "step" 1191] 0, #[]⟩,
  ⟨.type "tuple", none, .seq #[] 0, #[]⟩,
  ⟨.none, none, fd (tp 58) "fun_steps" "fun_steps" 0 .none .none .none 0, #[]⟩,
  ⟨.type "code", none, .fields #[.str "fun_steps" 1188, .str "fun_steps" 1189, .str "/claim/cut.py" 1190, .int 507 0, .int 1 0, .int 0 0, .int 0 0, .int 3 0, .ref 628, .bool true, .int 181 0, .ref 629, .none, .ref 630, .ref 631, .ref 632, .int 1192 0, .int 507 0, .str "/claim/cut.py" 1193], #[]⟩,
  ⟨.type "function", none, fd (tp 58) "fun_steps" "fun_steps" 3 .none (.str "slumberway.walks" 1104) (.ref 633) 0, #[]⟩,
  ⟨.type "tuple", none, .seq #[] 0, #[]⟩,
  ⟨.none, none, .fields #[], #[]⟩,
  ⟨.none, none, fd (tp 59) "let_steps" "let_steps" 0 .none .none .none 0, #[]⟩,
  ⟨.type "code", none, .fields #[.str "let_steps" 1195, .str "let_steps" 1196, .str "/claim/cut.py" 1197, .int 509 0, .int 1 0, .int 0 0, .int 0 0, .int 3 0, .ref 635, .bool true, .int 181 0, .ref 636, .none, .none, .none, .ref 637, .int 1198 0, .int 509 0, .str "/claim/cut.py" 1199], #[]⟩,
  ⟨.type "function", none, fd (tp 59) "let_steps" "let_steps" 3 .none (.str "slumberway.walks" 1104) (.ref 638) 0, #[]⟩,
  ⟨.type "tuple", none, .seq #[] 0, #[]⟩,
  ⟨.none, none, .fields #[], #[]⟩,
  ⟨.type "tuple", none, .seq #[.str "step" 1204] 0, #[]⟩,
  ⟨.type "tuple", none, .seq #[] 0, #[]⟩,
  ⟨.none, none, fd (tp 60) "if_steps" "if_steps" 0 .none .none .none 0, #[]⟩,
  ⟨.type "code", none, .fields #[.str "if_steps" 1201, .str "if_steps" 1202, .str "/claim/cut.py" 1203, .int 511 0, .int 1 0, .int 0 0, .int 0 0, .int 3 0, .ref 640, .bool true, .int 181 0, .ref 641, .none, .ref 642, .ref 643, .ref 644, .int 1205 0, .int 511 0, .str "/claim/cut.py" 1206], #[]⟩,
  ⟨.type "function", none, fd (tp 60) "if_steps" "if_steps" 3 .none (.str "slumberway.walks" 1104) (.ref 645) 0, #[]⟩,
  ⟨.type "tuple", none, .seq #[] 0, #[]⟩,
  ⟨.none, none, .fields #[], #[]⟩,
  ⟨.type "tuple", none, .seq #[.str "step" 1211, .str "told" 1212, .str "place" 1213, .str "pattern" 1214, .str "sides" 1215] 0, #[]⟩,
  ⟨.type "tuple", none, .seq #[] 0, #[]⟩,
  ⟨.none, none, fd (tp 61) "case_steps" "case_steps" 0 .none .none .none 0, #[]⟩,
  ⟨.type "code", none, .fields #[.str "case_steps" 1208, .str "case_steps" 1209, .str "/claim/cut.py" 1210, .int 513 0, .int 1 0, .int 0 0, .int 0 0, .int 3 0, .ref 647, .bool true, .int 181 0, .ref 648, .none, .ref 649, .ref 650, .ref 651, .int 1216 0, .int 513 0, .str "/claim/cut.py" 1217], #[]⟩,
  ⟨.type "function", none, fd (tp 61) "case_steps" "case_steps" 3 .none (.str "slumberway.walks" 1104) (.ref 652) 0, #[]⟩,
  ⟨.type "dict", none, .dict #[en w "def" 1219 (.ref 613), en w "call" 1220 (.ref 620), en w "op" 1221 (.ref 627), en w "fun" 1222 (.ref 634), en w "let" 1223 (.ref 639), en w "if" 1224 (.ref 646), en w "case" 1225 (.ref 653)] 7, #[]⟩,
  ⟨.type "tuple", none, .seq #[] 0, #[]⟩,
  ⟨.none, none, .fields #[], #[]⟩,
  ⟨.type "tuple", none, .seq #[.str "defs" 1237, .str "told" 1238, .str "bound" 1239, .str "step" 1240, .str "_" 1241, .str "name" 1242] 0, #[]⟩,
  ⟨.type "tuple", none, .seq #[] 0, #[]⟩,
  ⟨.none, none, fd (tp 63) "free_names" "free_names" 0 .none .none .none 0, #[]⟩]
def ob_11 (w : World) : List Obj := [
  ⟨.type "code", none, .fields #[.str "free_names" 1234, .str "free_names" 1235, .str "/claim/cut.py" 1236, .int 519 0, .int 1 0, .int 0 0, .int 0 0, .int 3 0, .ref 655, .bool true, .int 181 0, .ref 656, .none, .ref 657, .ref 658, .ref 659, .int 1243 0, .int 519 0, .str "/claim/cut.py" 1244], #[]⟩,
  ⟨.type "function", none, fd (tp 63) "free_names" "free_names" 3 .none (.str "slumberway.walks" 1104) (.ref 660) 0, #[]⟩,
  ⟨.type "tuple", none, .seq #[.str "+" 1248, .str "-" 1249, .str "*" 1250] 0, #[]⟩,
  ⟨.type "tuple", none, .seq #[.str "num" 1252, .str "name" 1253, .str "maker" 1254] 0, #[]⟩,
  ⟨.type "tuple", none, .seq #[] 0, #[]⟩,
  ⟨.none, none, .fields #[], #[]⟩,
  ⟨.none, none, fd (tp 67) "maker_shapes" "maker_shapes" 0 .none .none .none 0, #[]⟩,
  ⟨.type "code", none, .fields #[.str "maker_shapes" 1256, .str "maker_shapes" 1257, .str "/claim/cut.py" 1258, .int 535 0, .int 1 0, .int 0 0, .int 0 0, .int 3 0, .ref 664, .bool true, .int 181 0, .ref 665, .none, .none, .none, .ref 666, .int 1259 0, .int 535 0, .str "/claim/cut.py" 1260], #[]⟩,
  ⟨.type "function", none, fd (tp 67) "maker_shapes" "maker_shapes" 3 .none (.str "slumberway.demanding" 1246) (.ref 667) 0, #[]⟩,
  ⟨.type "tuple", none, .seq #[] 0, #[]⟩,
  ⟨.none, none, .fields #[], #[]⟩,
  ⟨.type "tuple", none, .seq #[.str "e" 1265] 0, #[]⟩,
  ⟨.type "tuple", none, .seq #[] 0, #[]⟩,
  ⟨.none, none, fd (tp 68) "key_of" "key_of" 0 .none .none .none 0, #[]⟩,
  ⟨.type "code", none, .fields #[.str "key_of" 1262, .str "key_of" 1263, .str "/claim/cut.py" 1264, .int 543 0, .int 1 0, .int 0 0, .int 0 0, .int 3 0, .ref 669, .bool true, .int 181 0, .ref 670, .none, .ref 671, .ref 672, .ref 673, .int 1266 0, .int 543 0, .str "/claim/cut.py" 1267], #[]⟩,
  ⟨.type "function", none, fd (tp 68) "key_of" "key_of" 3 .none (.str "slumberway.demanding" 1246) (.ref 674) 0, #[]⟩,
  ⟨.type "tuple", none, .seq #[] 0, #[]⟩,
  ⟨.type "builtin_function_or_method", none, .fields #[.builtin "type.__prepare__", .type "type"], #[]⟩,
  ⟨.type "dict", none, .dict #[en w "__module__" 1276 (.str "slumberway.demanding" 1246), en w "__qualname__" 1278 (.str "Demanding" 1277), en w "__firstlineno__" 1280 (.int 545 1279), en w "__init__" 1289 (.ref 689), en w "group_demands" 1295 (.ref 694), en w "to_do" 1303 (.ref 701), en w "begin_parts" 1314 (.ref 708), en w "kind" 1322 (.ref 715), en w "keep" 1331 (.ref 722), en w "demand" 1341 (.ref 729), en w "letters" 1347 (.ref 734), en w "bind" 1356 (.ref 741), en w "unbind" 1365 (.ref 748), en w "name_kind" 1373 (.ref 755), en w "maker_kinds" 1379 (.ref 760), en w "told_kind" 1385 (.ref 765), en w "begin_defs" 1391 (.ref 770), en w "begin_rule" 1397 (.ref 775), en w "__static_attributes__" 1405 (.ref 776)] 19, #[]⟩,
  ⟨.type "tuple", none, .seq #[] 0, #[]⟩,
  ⟨.none, none, .fields #[.int 547 0, .int 4 0, .ref 688, .int 556 0, .int 4 0, .ref 693, .int 567 0, .int 4 0, .ref 700, .int 570 0, .int 4 0, .ref 707, .int 579 0, .int 4 0, .ref 714, .int 582 0, .int 4 0, .ref 721, .int 585 0, .int 4 0, .ref 728, .int 588 0, .int 4 0, .ref 733, .int 591 0, .int 4 0, .ref 740, .int 594 0, .int 4 0, .ref 747, .int 598 0, .int 4 0, .ref 754, .int 603 0, .int 4 0, .ref 759, .int 608 0, .int 4 0, .ref 764, .int 625 0, .int 4 0, .ref 769, .int 634 0, .int 4 0, .ref 774], #[]⟩,
  ⟨.type "code", none, .fields #[.str "Demanding" 1271, .str "Demanding" 1272, .str "/claim/cut.py" 1273, .int 545 0, .int 0 0, .int 0 0, .int 0 0, .int 0 0, .ref 679, .bool false, .int 181 0, .ref 680, .none, .none, .none, .none, .int 1274 0, .int 545 0, .str "/claim/cut.py" 1275], #[]⟩,
  ⟨.type "frame", none, .plain, #[(some (.ref 681)), (some (.ref 3)), (some (.ref 678)), none, (some (.str "slumberway.demanding" 1246)), none, (some (.ref 0))]⟩,
  ⟨.type "tuple", none, .seq #[] 0, #[]⟩,
  ⟨.none, none, .fields #[], #[]⟩,
  ⟨.type "tuple", none, .seq #[.str "self" 1284, .str "solver" 1285, .str "makers" 1286] 0, #[]⟩,
  ⟨.type "tuple", none, .seq #[] 0, #[]⟩,
  ⟨.none, none, fd (mt 69 0) "__init__" "Demanding.__init__" 0 .none .none .none 0, #[]⟩,
  ⟨.type "code", none, .fields #[.str "__init__" 1281, .str "Demanding.__init__" 1282, .str "/claim/cut.py" 1283, .int 547 0, .int 3 0, .int 0 0, .int 0 0, .int 3 0, .ref 683, .bool true, .int 181 0, .ref 684, .none, .ref 685, .ref 686, .ref 687, .int 1287 0, .int 547 0, .str "/claim/cut.py" 1288], #[]⟩,
  ⟨.type "function", none, fd (mt 69 0) "__init__" "Demanding.__init__" 3 .none (.str "slumberway.demanding" 1246) (.ref 688) 0, #[]⟩,
  ⟨.type "tuple", none, .seq #[] 0, #[]⟩,
  ⟨.none, none, .fields #[], #[]⟩,
  ⟨.none, none, fd (mt 69 1) "group_demands" "Demanding.group_demands" 0 .none .none .none 0, #[]⟩,
  ⟨.type "code", none, .fields #[.str "group_demands" 1290, .str "Demanding.group_demands" 1291, .str "/claim/cut.py" 1292, .int 556 0, .int 2 0, .int 0 0, .int 0 0, .int 3 0, .ref 690, .bool true, .int 181 0, .ref 691, .none, .none, .none, .ref 692, .int 1293 0, .int 556 0, .str "/claim/cut.py" 1294], #[]⟩,
  ⟨.type "function", none, fd (mt 69 1) "group_demands" "Demanding.group_demands" 3 .none (.str "slumberway.demanding" 1246) (.ref 693) 0, #[]⟩,
  ⟨.type "tuple", none, .seq #[] 0, #[]⟩,
  ⟨.none, none, .fields #[], #[]⟩,
  ⟨.type "tuple", none, .seq #[.str "self" 1299, .str "tasks" 1300] 0, #[]⟩,
  ⟨.type "tuple", none, .seq #[] 0, #[]⟩,
  ⟨.none, none, fd (mt 69 2) "to_do" "Demanding.to_do" 0 .none .none .none 0, #[]⟩,
  ⟨.type "code", none, .fields #[.str "to_do" 1296, .str "Demanding.to_do" 1297, .str "/claim/cut.py" 1298, .int 567 0, .int 2 0, .int 0 0, .int 0 0, .int 3 0, .ref 695, .bool true, .int 181 0, .ref 696, .none, .ref 697, .ref 698, .ref 699, .int 1301 0, .int 567 0, .str "/claim/cut.py" 1302], #[]⟩,
  ⟨.type "function", none, fd (mt 69 2) "to_do" "Demanding.to_do" 3 .none (.str "slumberway.demanding" 1246) (.ref 700) 0, #[]⟩,
  ⟨.type "tuple", none, .seq #[] 0, #[]⟩,
  ⟨.none, none, .fields #[], #[]⟩,
  ⟨.type "tuple", none, .seq #[.str "self" 1307, .str "parts" 1308, .str "behind" 1309, .str "e" 1310, .str "step" 1311] 0, #[]⟩,
  ⟨.type "tuple", none, .seq #[] 0, #[]⟩,
  ⟨.none, none, fd (mt 69 3) "begin_parts" "Demanding.begin_parts" 0 .none .none .none 0, #[]⟩,
  ⟨.type "code", none, .fields #[.str "begin_parts" 1304, .str "Demanding.begin_parts" 1305, .str "/claim/cut.py" 1306, .int 570 0, .int 3 0, .int 0 0, .int 0 0, .int 3 0, .ref 702, .bool true, .int 181 0, .ref 703, .none, .ref 704, .ref 705, .ref 706, .int 1312 0, .int 570 0, .str "/claim/cut.py" 1313], #[]⟩,
  ⟨.type "function", none, fd (mt 69 3) "begin_parts" "Demanding.begin_parts" 3 .none (.str "slumberway.demanding" 1246) (.ref 707) 0, #[]⟩,
  ⟨.type "tuple", none, .seq #[] 0, #[]⟩,
  ⟨.none, none, .fields #[], #[]⟩,
  ⟨.type "tuple", none, .seq #[.str "self" 1318, .str "e" 1319] 0, #[]⟩,
  ⟨.type "tuple", none, .seq #[] 0, #[]⟩,
  ⟨.none, none, fd (mt 69 4) "kind" "Demanding.kind" 0 .none .none .none 0, #[]⟩,
  ⟨.type "code", none, .fields #[.str "kind" 1315, .str "Demanding.kind" 1316, .str "/claim/cut.py" 1317, .int 579 0, .int 2 0, .int 0 0, .int 0 0, .int 3 0, .ref 709, .bool true, .int 181 0, .ref 710, .none, .ref 711, .ref 712, .ref 713, .int 1320 0, .int 579 0, .str "/claim/cut.py" 1321], #[]⟩,
  ⟨.type "function", none, fd (mt 69 4) "kind" "Demanding.kind" 3 .none (.str "slumberway.demanding" 1246) (.ref 714) 0, #[]⟩,
  ⟨.type "tuple", none, .seq #[] 0, #[]⟩,
  ⟨.none, none, .fields #[], #[]⟩,
  ⟨.type "tuple", none, .seq #[.str "self" 1326, .str "e" 1327, .str "kind" 1328] 0, #[]⟩,
  ⟨.type "tuple", none, .seq #[] 0, #[]⟩]
def ob_12 (w : World) : List Obj := [
  ⟨.none, none, fd (mt 69 5) "keep" "Demanding.keep" 0 .none .none .none 0, #[]⟩,
  ⟨.type "code", none, .fields #[.str "keep" 1323, .str "Demanding.keep" 1324, .str "/claim/cut.py" 1325, .int 582 0, .int 3 0, .int 0 0, .int 0 0, .int 3 0, .ref 716, .bool true, .int 181 0, .ref 717, .none, .ref 718, .ref 719, .ref 720, .int 1329 0, .int 582 0, .str "/claim/cut.py" 1330], #[]⟩,
  ⟨.type "function", none, fd (mt 69 5) "keep" "Demanding.keep" 3 .none (.str "slumberway.demanding" 1246) (.ref 721) 0, #[]⟩,
  ⟨.type "tuple", none, .seq #[] 0, #[]⟩,
  ⟨.none, none, .fields #[], #[]⟩,
  ⟨.type "tuple", none, .seq #[.str "self" 1335, .str "place" 1336, .str "one" 1337, .str "other" 1338] 0, #[]⟩,
  ⟨.type "tuple", none, .seq #[] 0, #[]⟩,
  ⟨.none, none, fd (mt 69 6) "demand" "Demanding.demand" 0 .none .none .none 0, #[]⟩,
  ⟨.type "code", none, .fields #[.str "demand" 1332, .str "Demanding.demand" 1333, .str "/claim/cut.py" 1334, .int 585 0, .int 4 0, .int 0 0, .int 0 0, .int 3 0, .ref 723, .bool true, .int 181 0, .ref 724, .none, .ref 725, .ref 726, .ref 727, .int 1339 0, .int 585 0, .str "/claim/cut.py" 1340], #[]⟩,
  ⟨.type "function", none, fd (mt 69 6) "demand" "Demanding.demand" 3 .none (.str "slumberway.demanding" 1246) (.ref 728) 0, #[]⟩,
  ⟨.type "tuple", none, .seq #[] 0, #[]⟩,
  ⟨.none, none, .fields #[], #[]⟩,
  ⟨.none, none, fd (mt 69 7) "letters" "Demanding.letters" 0 .none .none .none 0, #[]⟩,
  ⟨.type "code", none, .fields #[.str "letters" 1342, .str "Demanding.letters" 1343, .str "/claim/cut.py" 1344, .int 588 0, .int 2 0, .int 0 0, .int 0 0, .int 3 0, .ref 730, .bool true, .int 181 0, .ref 731, .none, .none, .none, .ref 732, .int 1345 0, .int 588 0, .str "/claim/cut.py" 1346], #[]⟩,
  ⟨.type "function", none, fd (mt 69 7) "letters" "Demanding.letters" 3 .none (.str "slumberway.demanding" 1246) (.ref 733) 0, #[]⟩,
  ⟨.type "tuple", none, .seq #[] 0, #[]⟩,
  ⟨.none, none, .fields #[], #[]⟩,
  ⟨.type "tuple", none, .seq #[.str "self" 1351, .str "name" 1352, .str "kind" 1353] 0, #[]⟩,
  ⟨.type "tuple", none, .seq #[] 0, #[]⟩,
  ⟨.none, none, fd (mt 69 8) "bind" "Demanding.bind" 0 .none .none .none 0, #[]⟩,
  ⟨.type "code", none, .fields #[.str "bind" 1348, .str "Demanding.bind" 1349, .str "/claim/cut.py" 1350, .int 591 0, .int 3 0, .int 0 0, .int 0 0, .int 3 0, .ref 735, .bool true, .int 181 0, .ref 736, .none, .ref 737, .ref 738, .ref 739, .int 1354 0, .int 591 0, .str "/claim/cut.py" 1355], #[]⟩,
  ⟨.type "function", none, fd (mt 69 8) "bind" "Demanding.bind" 3 .none (.str "slumberway.demanding" 1246) (.ref 740) 0, #[]⟩,
  ⟨.type "tuple", none, .seq #[] 0, #[]⟩,
  ⟨.none, none, .fields #[], #[]⟩,
  ⟨.type "tuple", none, .seq #[.str "self" 1360, .str "names" 1361, .str "name" 1362] 0, #[]⟩,
  ⟨.type "tuple", none, .seq #[] 0, #[]⟩,
  ⟨.none, none, fd (mt 69 9) "unbind" "Demanding.unbind" 0 .none .none .none 0, #[]⟩,
  ⟨.type "code", none, .fields #[.str "unbind" 1357, .str "Demanding.unbind" 1358, .str "/claim/cut.py" 1359, .int 594 0, .int 2 0, .int 0 0, .int 0 0, .int 3 0, .ref 742, .bool true, .int 181 0, .ref 743, .none, .ref 744, .ref 745, .ref 746, .int 1363 0, .int 594 0, .str "/claim/cut.py" 1364], #[]⟩,
  ⟨.type "function", none, fd (mt 69 9) "unbind" "Demanding.unbind" 3 .none (.str "slumberway.demanding" 1246) (.ref 747) 0, #[]⟩,
  ⟨.type "tuple", none, .seq #[] 0, #[]⟩,
  ⟨.none, none, .fields #[], #[]⟩,
  ⟨.type "tuple", none, .seq #[.str "self" 1369, .str "name" 1370] 0, #[]⟩,
  ⟨.type "tuple", none, .seq #[] 0, #[]⟩,
  ⟨.none, none, fd (mt 69 10) "name_kind" "Demanding.name_kind" 0 .none .none .none 0, #[]⟩,
  ⟨.type "code", none, .fields #[.str "name_kind" 1366, .str "Demanding.name_kind" 1367, .str "/claim/cut.py" 1368, .int 598 0, .int 2 0, .int 0 0, .int 0 0, .int 3 0, .ref 749, .bool true, .int 181 0, .ref 750, .none, .ref 751, .ref 752, .ref 753, .int 1371 0, .int 598 0, .str "/claim/cut.py" 1372], #[]⟩,
  ⟨.type "function", none, fd (mt 69 10) "name_kind" "Demanding.name_kind" 3 .none (.str "slumberway.demanding" 1246) (.ref 754) 0, #[]⟩,
  ⟨.type "tuple", none, .seq #[] 0, #[]⟩,
  ⟨.none, none, .fields #[], #[]⟩,
  ⟨.none, none, fd (mt 69 11) "maker_kinds" "Demanding.maker_kinds" 0 .none .none .none 0, #[]⟩,
  ⟨.type "code", none, .fields #[.str "maker_kinds" 1374, .str "Demanding.maker_kinds" 1375, .str "/claim/cut.py" 1376, .int 603 0, .int 2 0, .int 0 0, .int 0 0, .int 3 0, .ref 756, .bool true, .int 181 0, .ref 757, .none, .none, .none, .ref 758, .int 1377 0, .int 603 0, .str "/claim/cut.py" 1378], #[]⟩,
  ⟨.type "function", none, fd (mt 69 11) "maker_kinds" "Demanding.maker_kinds" 3 .none (.str "slumberway.demanding" 1246) (.ref 759) 0, #[]⟩,
  ⟨.type "tuple", none, .seq #[] 0, #[]⟩,
  ⟨.none, none, .fields #[], #[]⟩,
  ⟨.none, none, fd (mt 69 12) "told_kind" "Demanding.told_kind" 0 .none .none .none 0, #[]⟩,
  ⟨.type "code", none, .fields #[.str "told_kind" 1380, .str "Demanding.told_kind" 1381, .str "/claim/cut.py" 1382, .int 608 0, .int 3 0, .int 0 0, .int 0 0, .int 3 0, .ref 761, .bool true, .int 181 0, .ref 762, .none, .none, .none, .ref 763, .int 1383 0, .int 608 0, .str "/claim/cut.py" 1384], #[]⟩,
  ⟨.type "function", none, fd (mt 69 12) "told_kind" "Demanding.told_kind" 3 .none (.str "slumberway.demanding" 1246) (.ref 764) 0, #[]⟩,
  ⟨.type "tuple", none, .seq #[] 0, #[]⟩,
  ⟨.none, none, .fields #[], #[]⟩,
  ⟨.none, none, fd (mt 69 13) "begin_defs" "Demanding.begin_defs" 0 .none .none .none 0, #[]⟩,
  ⟨.type "code", none, .fields #[.str "begin_defs" 1386, .str "Demanding.begin_defs" 1387, .str "/claim/cut.py" 1388, .int 625 0, .int 3 0, .int 0 0, .int 0 0, .int 3 0, .ref 766, .bool true, .int 181 0, .ref 767, .none, .none, .none, .ref 768, .int 1389 0, .int 625 0, .str "/claim/cut.py" 1390], #[]⟩,
  ⟨.type "function", none, fd (mt 69 13) "begin_defs" "Demanding.begin_defs" 3 .none (.str "slumberway.demanding" 1246) (.ref 769) 0, #[]⟩,
  ⟨.type "tuple", none, .seq #[] 0, #[]⟩,
  ⟨.none, none, .fields #[], #[]⟩,
  ⟨.none, none, fd (mt 69 14) "begin_rule" "Demanding.begin_rule" 0 .none .none .none 0, #[]⟩,
  ⟨.type "code", none, .fields #[.str "begin_rule" 1392, .str "Demanding.begin_rule" 1393, .str "/claim/cut.py" 1394, .int 634 0, .int 5 0, .int 0 0, .int 0 0, .int 3 0, .ref 771, .bool true, .int 181 0, .ref 772, .none, .none, .none, .ref 773, .int 1395 0, .int 634 0, .str "/claim/cut.py" 1396], #[]⟩,
  ⟨.type "function", none, fd (mt 69 14) "begin_rule" "Demanding.begin_rule" 3 .none (.str "slumberway.demanding" 1246) (.ref 774) 0, #[]⟩,
  ⟨.type "tuple", none, .seq #[.str "demands" 1398, .str "kinds" 1399, .str "makers" 1400, .str "names" 1401, .str "pile" 1402, .str "solver" 1403, .str "tops" 1404] 0, #[]⟩,
  ⟨.type "dict", none, .dict #[en w "__module__" 1276 (.str "slumberway.demanding" 1246), en w "__firstlineno__" 1280 (.int 545 1279), en w "__init__" 1289 (.ref 689), en w "group_demands" 1295 (.ref 694), en w "to_do" 1303 (.ref 701), en w "begin_parts" 1314 (.ref 708), en w "kind" 1322 (.ref 715), en w "keep" 1331 (.ref 722), en w "demand" 1341 (.ref 729), en w "letters" 1347 (.ref 734), en w "bind" 1356 (.ref 741), en w "unbind" 1365 (.ref 748), en w "name_kind" 1373 (.ref 755), en w "maker_kinds" 1379 (.ref 760), en w "told_kind" 1385 (.ref 765), en w "begin_defs" 1391 (.ref 770), en w "begin_rule" 1397 (.ref 775), en w "__static_attributes__" 1405 (.ref 776), en w "__dict__" 1407 (.ref 779), en w "__weakref__" 1409 (.ref 780), en w "__doc__" 1410 .none] 4, #[]⟩,
  ⟨.type "type", none, .cls ⟨"Demanding", [.type "object"], [.ref 778, .type "object"], 777, "Demanding", true, [], [], false, none, false⟩, #[none, none, (some (.str "Demanding" 1269)), (some (.str "Demanding" 1277)), (some (.builtin "object.__new__")), (some (.bool true))]⟩,
  ⟨.type "getset_descriptor", none, .fields #[.str "__dict__" 1406, .ref 778, .builtin "function.__dict__", .builtin "function.__dict__#set"], #[]⟩]
def ob_13 (w : World) : List Obj := [
  ⟨.type "getset_descriptor", none, .fields #[.str "__weakref__" 1408, .ref 778, .builtin "ExceptionGroup.__weakref__", .none], #[]⟩,
  ⟨.type "super", none, .fields #[.ref 778, .ref 778, .ref 778], #[]⟩,
  ⟨.type "builtin_function_or_method", none, .fields #[.builtin "object.__init_subclass__", .ref 778], #[]⟩,
  ⟨.type "tuple", none, .seq #[] 0, #[]⟩,
  ⟨.none, none, .fields #[], #[]⟩,
  ⟨.type "tuple", none, .seq #[.str "demanding" 1416, .str "task" 1417, .str "_" 1418, .str "patterns" 1419, .str "sides" 1420, .str "letters" 1421, .str "side" 1422] 0, #[]⟩,
  ⟨.type "tuple", none, .seq #[] 0, #[]⟩,
  ⟨.none, none, fd (tp 70) "equation_step" "equation_step" 0 .none .none .none 0, #[]⟩,
  ⟨.type "code", none, .fields #[.str "equation_step" 1413, .str "equation_step" 1414, .str "/claim/cut.py" 1415, .int 641 0, .int 2 0, .int 0 0, .int 0 0, .int 3 0, .ref 783, .bool true, .int 181 0, .ref 784, .none, .ref 785, .ref 786, .ref 787, .int 1423 0, .int 641 0, .str "/claim/cut.py" 1424], #[]⟩,
  ⟨.type "function", none, fd (tp 70) "equation_step" "equation_step" 3 .none (.str "slumberway.demanding" 1246) (.ref 788) 0, #[]⟩,
  ⟨.type "tuple", none, .seq #[] 0, #[]⟩,
  ⟨.none, none, .fields #[], #[]⟩,
  ⟨.none, none, fd (tp 71) "pattern_step" "pattern_step" 0 .none .none .none 0, #[]⟩,
  ⟨.type "code", none, .fields #[.str "pattern_step" 1426, .str "pattern_step" 1427, .str "/claim/cut.py" 1428, .int 644 0, .int 2 0, .int 0 0, .int 0 0, .int 3 0, .ref 790, .bool true, .int 181 0, .ref 791, .none, .none, .none, .ref 792, .int 1429 0, .int 644 0, .str "/claim/cut.py" 1430], #[]⟩,
  ⟨.type "function", none, fd (tp 71) "pattern_step" "pattern_step" 3 .none (.str "slumberway.demanding" 1246) (.ref 793) 0, #[]⟩,
  ⟨.type "tuple", none, .seq #[] 0, #[]⟩,
  ⟨.none, none, .fields #[], #[]⟩,
  ⟨.type "tuple", none, .seq #[.str "demanding" 1435, .str "task" 1436, .str "_" 1437, .str "place" 1438, .str "one" 1439, .str "other" 1440] 0, #[]⟩,
  ⟨.type "tuple", none, .seq #[] 0, #[]⟩,
  ⟨.none, none, fd (tp 72) "demand_step" "demand_step" 0 .none .none .none 0, #[]⟩,
  ⟨.type "code", none, .fields #[.str "demand_step" 1432, .str "demand_step" 1433, .str "/claim/cut.py" 1434, .int 654 0, .int 2 0, .int 0 0, .int 0 0, .int 3 0, .ref 795, .bool true, .int 181 0, .ref 796, .none, .ref 797, .ref 798, .ref 799, .int 1441 0, .int 654 0, .str "/claim/cut.py" 1442], #[]⟩,
  ⟨.type "function", none, fd (tp 72) "demand_step" "demand_step" 3 .none (.str "slumberway.demanding" 1246) (.ref 800) 0, #[]⟩,
  ⟨.type "tuple", none, .seq #[] 0, #[]⟩,
  ⟨.none, none, .fields #[], #[]⟩,
  ⟨.type "tuple", none, .seq #[.str "demanding" 1447, .str "task" 1448, .str "_" 1449, .str "e" 1450, .str "kind" 1451] 0, #[]⟩,
  ⟨.type "tuple", none, .seq #[] 0, #[]⟩,
  ⟨.none, none, fd (tp 73) "same_step" "same_step" 0 .none .none .none 0, #[]⟩,
  ⟨.type "code", none, .fields #[.str "same_step" 1444, .str "same_step" 1445, .str "/claim/cut.py" 1446, .int 657 0, .int 2 0, .int 0 0, .int 0 0, .int 3 0, .ref 802, .bool true, .int 181 0, .ref 803, .none, .ref 804, .ref 805, .ref 806, .int 1452 0, .int 657 0, .str "/claim/cut.py" 1453], #[]⟩,
  ⟨.type "function", none, fd (tp 73) "same_step" "same_step" 3 .none (.str "slumberway.demanding" 1246) (.ref 807) 0, #[]⟩,
  ⟨.type "tuple", none, .seq #[] 0, #[]⟩,
  ⟨.none, none, .fields #[], #[]⟩,
  ⟨.type "tuple", none, .seq #[.str "demanding" 1458, .str "task" 1459] 0, #[]⟩,
  ⟨.type "tuple", none, .seq #[] 0, #[]⟩,
  ⟨.none, none, fd (tp 74) "unbind_step" "unbind_step" 0 .none .none .none 0, #[]⟩,
  ⟨.type "code", none, .fields #[.str "unbind_step" 1455, .str "unbind_step" 1456, .str "/claim/cut.py" 1457, .int 660 0, .int 2 0, .int 0 0, .int 0 0, .int 3 0, .ref 809, .bool true, .int 181 0, .ref 810, .none, .ref 811, .ref 812, .ref 813, .int 1460 0, .int 660 0, .str "/claim/cut.py" 1461], #[]⟩,
  ⟨.type "function", none, fd (tp 74) "unbind_step" "unbind_step" 3 .none (.str "slumberway.demanding" 1246) (.ref 814) 0, #[]⟩,
  ⟨.type "tuple", none, .seq #[] 0, #[]⟩,
  ⟨.none, none, .fields #[], #[]⟩,
  ⟨.type "tuple", none, .seq #[.str "demanding" 1466, .str "e" 1467] 0, #[]⟩,
  ⟨.type "tuple", none, .seq #[] 0, #[]⟩,
  ⟨.none, none, fd (tp 75) "num_step" "num_step" 0 .none .none .none 0, #[]⟩,
  ⟨.type "code", none, .fields #[.str "num_step" 1463, .str "num_step" 1464, .str "/claim/cut.py" 1465, .int 662 0, .int 2 0, .int 0 0, .int 0 0, .int 3 0, .ref 816, .bool true, .int 181 0, .ref 817, .none, .ref 818, .ref 819, .ref 820, .int 1468 0, .int 662 0, .str "/claim/cut.py" 1469], #[]⟩,
  ⟨.type "function", none, fd (tp 75) "num_step" "num_step" 3 .none (.str "slumberway.demanding" 1246) (.ref 821) 0, #[]⟩,
  ⟨.type "tuple", none, .seq #[] 0, #[]⟩,
  ⟨.none, none, .fields #[], #[]⟩,
  ⟨.type "tuple", none, .seq #[.str "demanding" 1474, .str "e" 1475] 0, #[]⟩,
  ⟨.type "tuple", none, .seq #[] 0, #[]⟩,
  ⟨.none, none, fd (tp 76) "name_step" "name_step" 0 .none .none .none 0, #[]⟩,
  ⟨.type "code", none, .fields #[.str "name_step" 1471, .str "name_step" 1472, .str "/claim/cut.py" 1473, .int 664 0, .int 2 0, .int 0 0, .int 0 0, .int 3 0, .ref 823, .bool true, .int 181 0, .ref 824, .none, .ref 825, .ref 826, .ref 827, .int 1476 0, .int 664 0, .str "/claim/cut.py" 1477], #[]⟩,
  ⟨.type "function", none, fd (tp 76) "name_step" "name_step" 3 .none (.str "slumberway.demanding" 1246) (.ref 828) 0, #[]⟩,
  ⟨.type "tuple", none, .seq #[] 0, #[]⟩,
  ⟨.none, none, .fields #[], #[]⟩,
  ⟨.type "tuple", none, .seq #[.str "demanding" 1482, .str "e" 1483, .str "parts" 1484, .str "whole" 1485] 0, #[]⟩,
  ⟨.type "tuple", none, .seq #[] 0, #[]⟩,
  ⟨.none, none, fd (tp 77) "maker_step" "maker_step" 0 .none .none .none 0, #[]⟩,
  ⟨.type "code", none, .fields #[.str "maker_step" 1479, .str "maker_step" 1480, .str "/claim/cut.py" 1481, .int 666 0, .int 2 0, .int 0 0, .int 0 0, .int 3 0, .ref 830, .bool true, .int 181 0, .ref 831, .none, .ref 832, .ref 833, .ref 834, .int 1486 0, .int 666 0, .str "/claim/cut.py" 1487], #[]⟩,
  ⟨.type "function", none, fd (tp 77) "maker_step" "maker_step" 3 .none (.str "slumberway.demanding" 1246) (.ref 835) 0, #[]⟩,
  ⟨.type "tuple", none, .seq #[] 0, #[]⟩,
  ⟨.none, none, .fields #[], #[]⟩,
  ⟨.type "tuple", none, .seq #[.str "demanding" 1492, .str "e" 1493] 0, #[]⟩]
def ob_14 (w : World) : List Obj := [
  ⟨.type "tuple", none, .seq #[] 0, #[]⟩,
  ⟨.none, none, fd (tp 78) "call_step" "call_step" 0 .none .none .none 0, #[]⟩,
  ⟨.type "code", none, .fields #[.str "call_step" 1489, .str "call_step" 1490, .str "/claim/cut.py" 1491, .int 669 0, .int 2 0, .int 0 0, .int 0 0, .int 3 0, .ref 837, .bool true, .int 181 0, .ref 838, .none, .ref 839, .ref 840, .ref 841, .int 1494 0, .int 669 0, .str "/claim/cut.py" 1495], #[]⟩,
  ⟨.type "function", none, fd (tp 78) "call_step" "call_step" 3 .none (.str "slumberway.demanding" 1246) (.ref 842) 0, #[]⟩,
  ⟨.type "tuple", none, .seq #[] 0, #[]⟩,
  ⟨.none, none, .fields #[], #[]⟩,
  ⟨.type "tuple", none, .seq #[.str "demanding" 1500, .str "task" 1501, .str "_" 1502, .str "e" 1503, .str "kind" 1504, .str "part" 1505, .str "letter" 1506] 0, #[]⟩,
  ⟨.type "tuple", none, .seq #[] 0, #[]⟩,
  ⟨.none, none, fd (tp 79) "called_step" "called_step" 0 .none .none .none 0, #[]⟩,
  ⟨.type "code", none, .fields #[.str "called_step" 1497, .str "called_step" 1498, .str "/claim/cut.py" 1499, .int 671 0, .int 2 0, .int 0 0, .int 0 0, .int 3 0, .ref 844, .bool true, .int 181 0, .ref 845, .none, .ref 846, .ref 847, .ref 848, .int 1507 0, .int 671 0, .str "/claim/cut.py" 1508], #[]⟩,
  ⟨.type "function", none, fd (tp 79) "called_step" "called_step" 3 .none (.str "slumberway.demanding" 1246) (.ref 849) 0, #[]⟩,
  ⟨.type "tuple", none, .seq #[] 0, #[]⟩,
  ⟨.none, none, .fields #[], #[]⟩,
  ⟨.type "tuple", none, .seq #[.str "demanding" 1513, .str "e" 1514, .str "_" 1515, .str "sign" 1516, .str "left" 1517, .str "right" 1518] 0, #[]⟩,
  ⟨.type "tuple", none, .seq #[] 0, #[]⟩,
  ⟨.none, none, fd (tp 80) "op_step" "op_step" 0 .none .none .none 0, #[]⟩,
  ⟨.type "code", none, .fields #[.str "op_step" 1510, .str "op_step" 1511, .str "/claim/cut.py" 1512, .int 679 0, .int 2 0, .int 0 0, .int 0 0, .int 3 0, .ref 851, .bool true, .int 181 0, .ref 852, .none, .ref 853, .ref 854, .ref 855, .int 1519 0, .int 679 0, .str "/claim/cut.py" 1520], #[]⟩,
  ⟨.type "function", none, fd (tp 80) "op_step" "op_step" 3 .none (.str "slumberway.demanding" 1246) (.ref 856) 0, #[]⟩,
  ⟨.type "tuple", none, .seq #[] 0, #[]⟩,
  ⟨.none, none, .fields #[], #[]⟩,
  ⟨.none, none, fd (tp 81) "fun_step" "fun_step" 0 .none .none .none 0, #[]⟩,
  ⟨.type "code", none, .fields #[.str "fun_step" 1522, .str "fun_step" 1523, .str "/claim/cut.py" 1524, .int 683 0, .int 2 0, .int 0 0, .int 0 0, .int 3 0, .ref 858, .bool true, .int 181 0, .ref 859, .none, .none, .none, .ref 860, .int 1525 0, .int 683 0, .str "/claim/cut.py" 1526], #[]⟩,
  ⟨.type "function", none, fd (tp 81) "fun_step" "fun_step" 3 .none (.str "slumberway.demanding" 1246) (.ref 861) 0, #[]⟩,
  ⟨.type "tuple", none, .seq #[] 0, #[]⟩,
  ⟨.none, none, .fields #[], #[]⟩,
  ⟨.type "tuple", none, .seq #[.str "demanding" 1531, .str "task" 1532, .str "_" 1533, .str "e" 1534, .str "letters" 1535] 0, #[]⟩,
  ⟨.type "tuple", none, .seq #[] 0, #[]⟩,
  ⟨.none, none, fd (tp 82) "fun_done_step" "fun_done_step" 0 .none .none .none 0, #[]⟩,
  ⟨.type "code", none, .fields #[.str "fun_done_step" 1528, .str "fun_done_step" 1529, .str "/claim/cut.py" 1530, .int 689 0, .int 2 0, .int 0 0, .int 0 0, .int 3 0, .ref 863, .bool true, .int 181 0, .ref 864, .none, .ref 865, .ref 866, .ref 867, .int 1536 0, .int 689 0, .str "/claim/cut.py" 1537], #[]⟩,
  ⟨.type "function", none, fd (tp 82) "fun_done_step" "fun_done_step" 3 .none (.str "slumberway.demanding" 1246) (.ref 868) 0, #[]⟩,
  ⟨.type "tuple", none, .seq #[] 0, #[]⟩,
  ⟨.none, none, .fields #[], #[]⟩,
  ⟨.none, none, fd (tp 83) "let_step" "let_step" 0 .none .none .none 0, #[]⟩,
  ⟨.type "code", none, .fields #[.str "let_step" 1539, .str "let_step" 1540, .str "/claim/cut.py" 1541, .int 692 0, .int 2 0, .int 0 0, .int 0 0, .int 3 0, .ref 870, .bool true, .int 181 0, .ref 871, .none, .none, .none, .ref 872, .int 1542 0, .int 692 0, .str "/claim/cut.py" 1543], #[]⟩,
  ⟨.type "function", none, fd (tp 83) "let_step" "let_step" 3 .none (.str "slumberway.demanding" 1246) (.ref 873) 0, #[]⟩,
  ⟨.type "tuple", none, .seq #[] 0, #[]⟩,
  ⟨.none, none, .fields #[], #[]⟩,
  ⟨.type "tuple", none, .seq #[.str "demanding" 1548, .str "task" 1549, .str "_" 1550, .str "e" 1551, .str "part" 1552] 0, #[]⟩,
  ⟨.type "tuple", none, .seq #[] 0, #[]⟩,
  ⟨.none, none, fd (tp 84) "as_step" "as_step" 0 .none .none .none 0, #[]⟩,
  ⟨.type "code", none, .fields #[.str "as_step" 1545, .str "as_step" 1546, .str "/claim/cut.py" 1547, .int 695 0, .int 2 0, .int 0 0, .int 0 0, .int 3 0, .ref 875, .bool true, .int 181 0, .ref 876, .none, .ref 877, .ref 878, .ref 879, .int 1553 0, .int 695 0, .str "/claim/cut.py" 1554], #[]⟩,
  ⟨.type "function", none, fd (tp 84) "as_step" "as_step" 3 .none (.str "slumberway.demanding" 1246) (.ref 880) 0, #[]⟩,
  ⟨.type "tuple", none, .seq #[] 0, #[]⟩,
  ⟨.none, none, .fields #[], #[]⟩,
  ⟨.type "tuple", none, .seq #[.str "demanding" 1559, .str "e" 1560, .str "_" 1561, .str "asked" 1562, .str "one" 1563, .str "other" 1564] 0, #[]⟩,
  ⟨.type "tuple", none, .seq #[] 0, #[]⟩,
  ⟨.none, none, fd (tp 85) "if_step" "if_step" 0 .none .none .none 0, #[]⟩,
  ⟨.type "code", none, .fields #[.str "if_step" 1556, .str "if_step" 1557, .str "/claim/cut.py" 1558, .int 698 0, .int 2 0, .int 0 0, .int 0 0, .int 3 0, .ref 882, .bool true, .int 181 0, .ref 883, .none, .ref 884, .ref 885, .ref 886, .int 1565 0, .int 698 0, .str "/claim/cut.py" 1566], #[]⟩,
  ⟨.type "function", none, fd (tp 85) "if_step" "if_step" 3 .none (.str "slumberway.demanding" 1246) (.ref 887) 0, #[]⟩,
  ⟨.type "tuple", none, .seq #[] 0, #[]⟩,
  ⟨.none, none, .fields #[], #[]⟩,
  ⟨.type "tuple", none, .seq #[.str "demanding" 1571, .str "task" 1572, .str "_" 1573, .str "e" 1574, .str "other" 1575] 0, #[]⟩,
  ⟨.type "tuple", none, .seq #[] 0, #[]⟩,
  ⟨.none, none, fd (tp 86) "alike_step" "alike_step" 0 .none .none .none 0, #[]⟩,
  ⟨.type "code", none, .fields #[.str "alike_step" 1568, .str "alike_step" 1569, .str "/claim/cut.py" 1570, .int 701 0, .int 2 0, .int 0 0, .int 0 0, .int 3 0, .ref 889, .bool true, .int 181 0, .ref 890, .none, .ref 891, .ref 892, .ref 893, .int 1576 0, .int 701 0, .str "/claim/cut.py" 1577], #[]⟩,
  ⟨.type "function", none, fd (tp 86) "alike_step" "alike_step" 3 .none (.str "slumberway.demanding" 1246) (.ref 894) 0, #[]⟩,
  ⟨.type "tuple", none, .seq #[] 0, #[]⟩,
  ⟨.none, none, .fields #[], #[]⟩,
  ⟨.type "tuple", none, .seq #[.str "demanding" 1582, .str "e" 1583] 0, #[]⟩,
  ⟨.type "tuple", none, .seq #[] 0, #[]⟩]
def ob_15 (w : World) : List Obj := [
  ⟨.none, none, fd (tp 87) "case_step" "case_step" 0 .none .none .none 0, #[]⟩,
  ⟨.type "code", none, .fields #[.str "case_step" 1579, .str "case_step" 1580, .str "/claim/cut.py" 1581, .int 704 0, .int 2 0, .int 0 0, .int 0 0, .int 3 0, .ref 896, .bool true, .int 181 0, .ref 897, .none, .ref 898, .ref 899, .ref 900, .int 1584 0, .int 704 0, .str "/claim/cut.py" 1585], #[]⟩,
  ⟨.type "function", none, fd (tp 87) "case_step" "case_step" 3 .none (.str "slumberway.demanding" 1246) (.ref 901) 0, #[]⟩,
  ⟨.type "tuple", none, .seq #[] 0, #[]⟩,
  ⟨.none, none, .fields #[], #[]⟩,
  ⟨.none, none, fd (tp 88) "choices_step" "choices_step" 0 .none .none .none 0, #[]⟩,
  ⟨.type "code", none, .fields #[.str "choices_step" 1587, .str "choices_step" 1588, .str "/claim/cut.py" 1589, .int 706 0, .int 2 0, .int 0 0, .int 0 0, .int 3 0, .ref 903, .bool true, .int 181 0, .ref 904, .none, .none, .none, .ref 905, .int 1590 0, .int 706 0, .str "/claim/cut.py" 1591], #[]⟩,
  ⟨.type "function", none, fd (tp 88) "choices_step" "choices_step" 3 .none (.str "slumberway.demanding" 1246) (.ref 906) 0, #[]⟩,
  ⟨.type "tuple", none, .seq #[] 0, #[]⟩,
  ⟨.none, none, .fields #[], #[]⟩,
  ⟨.type "tuple", none, .seq #[.str "demanding" 1596, .str "task" 1597, .str "_" 1598, .str "pattern" 1599, .str "sides" 1600, .str "thing" 1601, .str "letter" 1602] 0, #[]⟩,
  ⟨.type "tuple", none, .seq #[] 0, #[]⟩,
  ⟨.none, none, fd (tp 89) "choice_step" "choice_step" 0 .none .none .none 0, #[]⟩,
  ⟨.type "code", none, .fields #[.str "choice_step" 1593, .str "choice_step" 1594, .str "/claim/cut.py" 1595, .int 712 0, .int 2 0, .int 0 0, .int 0 0, .int 3 0, .ref 908, .bool true, .int 181 0, .ref 909, .none, .ref 910, .ref 911, .ref 912, .int 1603 0, .int 712 0, .str "/claim/cut.py" 1604], #[]⟩,
  ⟨.type "function", none, fd (tp 89) "choice_step" "choice_step" 3 .none (.str "slumberway.demanding" 1246) (.ref 913) 0, #[]⟩,
  ⟨.type "dict", none, .dict #[en w "num" 1606 (.ref 822), en w "name" 1608 (.ref 829), en w "maker" 1610 (.ref 836), en w "call" 1612 (.ref 843), en w "op" 1614 (.ref 857), en w "fun" 1616 (.ref 862), en w "let" 1618 (.ref 874), en w "if" 1620 (.ref 888), en w "case" 1622 (.ref 902), en w "equation" 1624 (.ref 789), en w "pattern" 1626 (.ref 794), en w "demand" 1628 (.ref 801), en w "same" 1630 (.ref 808), en w "unbind" 1632 (.ref 815), en w "called" 1634 (.ref 850), en w "fun done" 1636 (.ref 869), en w "as" 1638 (.ref 881), en w "alike" 1640 (.ref 895), en w "choices" 1641 (.ref 907), en w "choice" 1642 (.ref 914)] 20, #[]⟩,
  ⟨.type "dict", none, .dict #[en w "alike" 1640 (.ref 895), en w "choices" 1641 (.ref 907), en w "choice" 1642 (.ref 914)] 3, #[]⟩,
  ⟨.type "tuple", none, .seq #[] 0, #[]⟩,
  ⟨.none, none, .fields #[], #[]⟩,
  ⟨.none, none, fd (tp 92) "groups" "groups" 0 .none .none .none 0, #[]⟩,
  ⟨.type "code", none, .fields #[.str "groups" 1649, .str "groups" 1650, .str "/claim/cut.py" 1651, .int 717 0, .int 1 0, .int 0 0, .int 0 0, .int 3 0, .ref 917, .bool true, .int 181 0, .ref 918, .none, .none, .none, .ref 919, .int 1652 0, .int 717 0, .str "/claim/cut.py" 1653], #[]⟩,
  ⟨.type "function", none, fd (tp 92) "groups" "groups" 3 .none (.str "slumberway.groups" 1647) (.ref 920) 0, #[]⟩,
  ⟨.type "tuple", none, .seq #[] 0, #[]⟩,
  ⟨.none, none, .fields #[], #[]⟩,
  ⟨.none, none, fd (tp 93) "grouped" "grouped" 0 .none .none .none 0, #[]⟩,
  ⟨.type "code", none, .fields #[.str "grouped" 1655, .str "grouped" 1656, .str "/claim/cut.py" 1657, .int 721 0, .int 1 0, .int 0 0, .int 0 0, .int 3 0, .ref 922, .bool true, .int 181 0, .ref 923, .none, .none, .none, .ref 924, .int 1658 0, .int 721 0, .str "/claim/cut.py" 1659], #[]⟩,
  ⟨.type "function", none, fd (tp 93) "grouped" "grouped" 3 .none (.str "slumberway.groups" 1647) (.ref 925) 0, #[]⟩,
  ⟨.type "tuple", none, .seq #[] 0, #[]⟩,
  ⟨.none, none, .fields #[], #[]⟩,
  ⟨.type "tuple", none, .seq #[.str "waiting" 1664, .str "told" 1665, .str "there" 1666, .str "at" 1667, .str "own" 1668, .str "_" 1669] 0, #[]⟩,
  ⟨.type "tuple", none, .seq #[] 0, #[]⟩,
  ⟨.none, none, fd (tp 94) "in_order" "in_order" 0 .none .none .none 0, #[]⟩,
  ⟨.type "code", none, .fields #[.str "in_order" 1661, .str "in_order" 1662, .str "/claim/cut.py" 1663, .int 746 0, .int 1 0, .int 0 0, .int 0 0, .int 3 0, .ref 927, .bool true, .int 181 0, .ref 928, .none, .ref 929, .ref 930, .ref 931, .int 1670 0, .int 746 0, .str "/claim/cut.py" 1671], #[]⟩,
  ⟨.type "function", none, fd (tp 94) "in_order" "in_order" 3 .none (.str "slumberway.groups" 1647) (.ref 932) 0, #[]⟩,
  ⟨.type "tuple", none, .seq #[.str "+" 1677, .str "-" 1678, .str "*" 1679] 0, #[]⟩,
  ⟨.type "tuple", none, .seq #[.type "Exception"] 0, #[]⟩,
  ⟨.type "builtin_function_or_method", none, .fields #[.builtin "type.__prepare__", .type "type"], #[]⟩,
  ⟨.type "dict", none, .dict #[en w "__module__" 1688 (.str "slumberway.quick" 1673), en w "__qualname__" 1690 (.str "Odd" 1689), en w "__firstlineno__" 1692 (.int 761 1691), en w "__static_attributes__" 1693 (.ref 942)] 4, #[]⟩,
  ⟨.type "tuple", none, .seq #[] 0, #[]⟩,
  ⟨.none, none, .fields #[], #[]⟩,
  ⟨.type "code", none, .fields #[.str "Odd" 1683, .str "Odd" 1684, .str "/claim/cut.py" 1685, .int 761 0, .int 0 0, .int 0 0, .int 0 0, .int 0 0, .ref 938, .bool false, .int 181 0, .ref 939, .none, .none, .none, .none, .int 1686 0, .int 761 0, .str "/claim/cut.py" 1687], #[]⟩,
  ⟨.type "frame", none, .plain, #[(some (.ref 940)), (some (.ref 3)), (some (.ref 937)), none, (some (.str "slumberway.quick" 1673)), none, (some (.ref 0))]⟩,
  ⟨.type "tuple", none, .seq #[] 0, #[]⟩,
  ⟨.type "dict", none, .dict #[en w "__module__" 1688 (.str "slumberway.quick" 1673), en w "__firstlineno__" 1692 (.int 761 1691), en w "__static_attributes__" 1693 (.ref 942), en w "__weakref__" 1695 (.ref 945), en w "__doc__" 1696 .none] 3, #[]⟩,
  ⟨.type "type", none, .cls ⟨"Odd", [.type "Exception"], [.ref 944, .type "Exception", .type "BaseException", .type "object"], 943, "Odd", true, [], [], false, none, false⟩, #[(some (.ref 935)), none, (some (.str "Odd" 1681)), (some (.str "Odd" 1689)), (some (.builtin "Exception.__new__")), (some (.bool true))]⟩,
  ⟨.type "getset_descriptor", none, .fields #[.str "__weakref__" 1694, .ref 944, .builtin "ExceptionGroup.__weakref__", .none], #[]⟩,
  ⟨.type "super", none, .fields #[.ref 944, .ref 944, .ref 944], #[]⟩,
  ⟨.type "builtin_function_or_method", none, .fields #[.builtin "object.__init_subclass__", .ref 944], #[]⟩,
  ⟨.type "tuple", none, .seq #[] 0, #[]⟩,
  ⟨.none, none, .fields #[], #[]⟩,
  ⟨.type "tuple", none, .seq #[.str "tree" 1704, .str "is_kept" 1705] 0, #[]⟩,
  ⟨.type "tuple", none, .seq #[] 0, #[]⟩,
  ⟨.none, none, fd (tp 99) "quick_of" "quick_of" 0 .none .none .none 0, #[]⟩,
  ⟨.type "code", none, .fields #[.str "quick_of" 1701, .str "quick_of" 1702, .str "/claim/cut.py" 1703, .int 763 0, .int 2 0, .int 0 0, .int 0 0, .int 3 0, .ref 948, .bool true, .int 181 0, .ref 949, .none, .ref 950, .ref 951, .ref 952, .int 1706 0, .int 763 0, .str "/claim/cut.py" 1707], #[]⟩,
  ⟨.type "function", none, fd (tp 99) "quick_of" "quick_of" 3 .none (.str "slumberway.quick" 1673) (.ref 953) 0, #[]⟩,
  ⟨.type "tuple", none, .seq #[] 0, #[]⟩,
  ⟨.type "builtin_function_or_method", none, .fields #[.builtin "type.__prepare__", .type "type"], #[]⟩,
  ⟨.type "dict", none, .dict #[en w "__module__" 1716 (.str "slumberway.quick" 1673), en w "__qualname__" 1718 (.str "Makers" 1717), en w "__firstlineno__" 1720 (.int 768 1719), en w "__init__" 1726 (.ref 966), en w "kinds" 1732 (.ref 971), en w "told" 1738 (.ref 976), en w "__static_attributes__" 1741 (.ref 977)] 7, #[]⟩,
  ⟨.type "tuple", none, .seq #[] 0, #[]⟩,
  ⟨.none, none, .fields #[.int 770 0, .int 4 0, .ref 965, .int 789 0, .int 4 0, .ref 970, .int 798 0, .int 4 0, .ref 975], #[]⟩]
def ob_16 (w : World) : List Obj := [
  ⟨.type "code", none, .fields #[.str "Makers" 1711, .str "Makers" 1712, .str "/claim/cut.py" 1713, .int 768 0, .int 0 0, .int 0 0, .int 0 0, .int 0 0, .ref 958, .bool false, .int 181 0, .ref 959, .none, .none, .none, .none, .int 1714 0, .int 768 0, .str "/claim/cut.py" 1715], #[]⟩,
  ⟨.type "frame", none, .plain, #[(some (.ref 960)), (some (.ref 3)), (some (.ref 957)), none, (some (.str "slumberway.quick" 1673)), none, (some (.ref 0))]⟩,
  ⟨.type "tuple", none, .seq #[] 0, #[]⟩,
  ⟨.none, none, .fields #[], #[]⟩,
  ⟨.none, none, fd (mt 100 0) "__init__" "Makers.__init__" 0 .none .none .none 0, #[]⟩,
  ⟨.type "code", none, .fields #[.str "__init__" 1721, .str "Makers.__init__" 1722, .str "/claim/cut.py" 1723, .int 770 0, .int 3 0, .int 0 0, .int 0 0, .int 3 0, .ref 962, .bool true, .int 181 0, .ref 963, .none, .none, .none, .ref 964, .int 1724 0, .int 770 0, .str "/claim/cut.py" 1725], #[]⟩,
  ⟨.type "function", none, fd (mt 100 0) "__init__" "Makers.__init__" 3 .none (.str "slumberway.quick" 1673) (.ref 965) 0, #[]⟩,
  ⟨.type "tuple", none, .seq #[] 0, #[]⟩,
  ⟨.none, none, .fields #[], #[]⟩,
  ⟨.none, none, fd (mt 100 1) "kinds" "Makers.kinds" 0 .none .none .none 0, #[]⟩,
  ⟨.type "code", none, .fields #[.str "kinds" 1727, .str "Makers.kinds" 1728, .str "/claim/cut.py" 1729, .int 789 0, .int 2 0, .int 0 0, .int 0 0, .int 3 0, .ref 967, .bool true, .int 181 0, .ref 968, .none, .none, .none, .ref 969, .int 1730 0, .int 789 0, .str "/claim/cut.py" 1731], #[]⟩,
  ⟨.type "function", none, fd (mt 100 1) "kinds" "Makers.kinds" 3 .none (.str "slumberway.quick" 1673) (.ref 970) 0, #[]⟩,
  ⟨.type "tuple", none, .seq #[] 0, #[]⟩,
  ⟨.none, none, .fields #[], #[]⟩,
  ⟨.none, none, fd (mt 100 2) "told" "Makers.told" 0 .none .none .none 0, #[]⟩,
  ⟨.type "code", none, .fields #[.str "told" 1733, .str "Makers.told" 1734, .str "/claim/cut.py" 1735, .int 798 0, .int 3 0, .int 0 0, .int 0 0, .int 3 0, .ref 972, .bool true, .int 181 0, .ref 973, .none, .none, .none, .ref 974, .int 1736 0, .int 798 0, .str "/claim/cut.py" 1737], #[]⟩,
  ⟨.type "function", none, fd (mt 100 2) "told" "Makers.told" 3 .none (.str "slumberway.quick" 1673) (.ref 975) 0, #[]⟩,
  ⟨.type "tuple", none, .seq #[.str "shapes" 1739, .str "solver" 1740] 0, #[]⟩,
  ⟨.type "dict", none, .dict #[en w "__module__" 1716 (.str "slumberway.quick" 1673), en w "__firstlineno__" 1720 (.int 768 1719), en w "__init__" 1726 (.ref 966), en w "kinds" 1732 (.ref 971), en w "told" 1738 (.ref 976), en w "__static_attributes__" 1741 (.ref 977), en w "__dict__" 1743 (.ref 980), en w "__weakref__" 1745 (.ref 981), en w "__doc__" 1746 .none] 4, #[]⟩,
  ⟨.type "type", none, .cls ⟨"Makers", [.type "object"], [.ref 979, .type "object"], 978, "Makers", true, [], [], false, none, false⟩, #[none, none, (some (.str "Makers" 1709)), (some (.str "Makers" 1717)), (some (.builtin "object.__new__")), (some (.bool true))]⟩,
  ⟨.type "getset_descriptor", none, .fields #[.str "__dict__" 1742, .ref 979, .builtin "function.__dict__", .builtin "function.__dict__#set"], #[]⟩,
  ⟨.type "getset_descriptor", none, .fields #[.str "__weakref__" 1744, .ref 979, .builtin "ExceptionGroup.__weakref__", .none], #[]⟩,
  ⟨.type "super", none, .fields #[.ref 979, .ref 979, .ref 979], #[]⟩,
  ⟨.type "builtin_function_or_method", none, .fields #[.builtin "object.__init_subclass__", .ref 979], #[]⟩,
  ⟨.type "tuple", none, .seq #[] 0, #[]⟩,
  ⟨.none, none, .fields #[], #[]⟩,
  ⟨.type "tuple", none, .seq #[.str "kinds" 1752, .str "letters" 1753, .str "counts" 1754, .str "pile" 1755, .str "kind" 1756] 0, #[]⟩,
  ⟨.type "tuple", none, .seq #[] 0, #[]⟩,
  ⟨.none, none, fd (tp 101) "are_kinds" "are_kinds" 0 .none .none .none 0, #[]⟩,
  ⟨.type "code", none, .fields #[.str "are_kinds" 1749, .str "are_kinds" 1750, .str "/claim/cut.py" 1751, .int 807 0, .int 3 0, .int 0 0, .int 0 0, .int 3 0, .ref 984, .bool true, .int 181 0, .ref 985, .none, .ref 986, .ref 987, .ref 988, .int 1757 0, .int 807 0, .str "/claim/cut.py" 1758], #[]⟩,
  ⟨.type "function", none, fd (tp 101) "are_kinds" "are_kinds" 3 .none (.str "slumberway.quick" 1673) (.ref 989) 0, #[]⟩,
  ⟨.type "tuple", none, .seq #[] 0, #[]⟩,
  ⟨.type "builtin_function_or_method", none, .fields #[.builtin "type.__prepare__", .type "type"], #[]⟩,
  ⟨.type "dict", none, .dict #[en w "__module__" 1767 (.str "slumberway.quick" 1673), en w "__qualname__" 1769 (.str "Quick" 1768), en w "__firstlineno__" 1771 (.int 821 1770), en w "__init__" 1777 (.ref 1002), en w "add_tops" 1788 (.ref 1009), en w "begin_def" 1794 (.ref 1014), en w "add_rules" 1808 (.ref 1021), en w "add_rule" 1825 (.ref 1028), en w "bind" 1835 (.ref 1035), en w "add_pattern" 1850 (.ref 1042), en w "kind" 1862 (.ref 1049), en w "solve" 1868 (.ref 1054), en w "begin_group" 1874 (.ref 1059), en w "meet_demands" 1886 (.ref 1066), en w "base" 1894 (.ref 1073), en w "top_anew" 1900 (.ref 1078), en w "scheme" 1908 (.ref 1085), en w "top_text" 1916 (.ref 1092), en w "text_at" 1925 (.ref 1099), en w "maker_text" 1935 (.ref 1106), en w "__static_attributes__" 1950 (.ref 1107)] 21, #[]⟩,
  ⟨.type "tuple", none, .seq #[] 0, #[]⟩,
  ⟨.none, none, .fields #[.int 823 0, .int 4 0, .ref 1001, .int 842 0, .int 4 0, .ref 1008, .int 856 0, .int 4 0, .ref 1013, .int 860 0, .int 4 0, .ref 1020, .int 866 0, .int 4 0, .ref 1027, .int 879 0, .int 4 0, .ref 1034, .int 885 0, .int 4 0, .ref 1041, .int 901 0, .int 4 0, .ref 1048, .int 921 0, .int 4 0, .ref 1053, .int 932 0, .int 4 0, .ref 1058, .int 943 0, .int 4 0, .ref 1065, .int 953 0, .int 4 0, .ref 1072, .int 958 0, .int 4 0, .ref 1077, .int 964 0, .int 4 0, .ref 1084, .int 969 0, .int 4 0, .ref 1091, .int 972 0, .int 4 0, .ref 1098, .int 975 0, .int 4 0, .ref 1105], #[]⟩,
  ⟨.type "code", none, .fields #[.str "Quick" 1762, .str "Quick" 1763, .str "/claim/cut.py" 1764, .int 821 0, .int 0 0, .int 0 0, .int 0 0, .int 0 0, .ref 994, .bool false, .int 181 0, .ref 995, .none, .none, .none, .none, .int 1765 0, .int 821 0, .str "/claim/cut.py" 1766], #[]⟩,
  ⟨.type "frame", none, .plain, #[(some (.ref 996)), (some (.ref 3)), (some (.ref 993)), none, (some (.str "slumberway.quick" 1673)), none, (some (.ref 0))]⟩,
  ⟨.type "tuple", none, .seq #[] 0, #[]⟩,
  ⟨.none, none, .fields #[], #[]⟩,
  ⟨.none, none, fd (mt 102 0) "__init__" "Quick.__init__" 0 .none .none .none 0, #[]⟩,
  ⟨.type "code", none, .fields #[.str "__init__" 1772, .str "Quick.__init__" 1773, .str "/claim/cut.py" 1774, .int 823 0, .int 3 0, .int 0 0, .int 0 0, .int 3 0, .ref 998, .bool true, .int 181 0, .ref 999, .none, .none, .none, .ref 1000, .int 1775 0, .int 823 0, .str "/claim/cut.py" 1776], #[]⟩,
  ⟨.type "function", none, fd (mt 102 0) "__init__" "Quick.__init__" 3 .none (.str "slumberway.quick" 1673) (.ref 1001) 0, #[]⟩,
  ⟨.type "tuple", none, .seq #[] 0, #[]⟩,
  ⟨.none, none, .fields #[], #[]⟩,
  ⟨.type "tuple", none, .seq #[.str "self" 1781, .str "lanes" 1782, .str "one" 1783, .str "letters" 1784, .str "side" 1785] 0, #[]⟩,
  ⟨.type "tuple", none, .seq #[] 0, #[]⟩,
  ⟨.none, none, fd (mt 102 1) "add_tops" "Quick.add_tops" 0 .none .none .none 0, #[]⟩,
  ⟨.type "code", none, .fields #[.str "add_tops" 1778, .str "Quick.add_tops" 1779, .str "/claim/cut.py" 1780, .int 842 0, .int 1 0, .int 0 0, .int 0 0, .int 3 0, .ref 1003, .bool true, .int 181 0, .ref 1004, .none, .ref 1005, .ref 1006, .ref 1007, .int 1786 0, .int 842 0, .str "/claim/cut.py" 1787], #[]⟩,
  ⟨.type "function", none, fd (mt 102 1) "add_tops" "Quick.add_tops" 3 .none (.str "slumberway.quick" 1673) (.ref 1008) 0, #[]⟩,
  ⟨.type "tuple", none, .seq #[] 0, #[]⟩,
  ⟨.none, none, .fields #[], #[]⟩,
  ⟨.none, none, fd (mt 102 2) "begin_def" "Quick.begin_def" 0 .none .none .none 0, #[]⟩,
  ⟨.type "code", none, .fields #[.str "begin_def" 1789, .str "Quick.begin_def" 1790, .str "/claim/cut.py" 1791, .int 856 0, .int 2 0, .int 0 0, .int 0 0, .int 3 0, .ref 1010, .bool true, .int 181 0, .ref 1011, .none, .none, .none, .ref 1012, .int 1792 0, .int 856 0, .str "/claim/cut.py" 1793], #[]⟩,
  ⟨.type "function", none, fd (mt 102 2) "begin_def" "Quick.begin_def" 3 .none (.str "slumberway.quick" 1673) (.ref 1013) 0, #[]⟩,
  ⟨.type "tuple", none, .seq #[] 0, #[]⟩,
  ⟨.none, none, .fields #[], #[]⟩,
  ⟨.type "tuple", none, .seq #[.str "self" 1798, .str "one" 1799, .str "letters" 1800, .str "side" 1801, .str "deep" 1802, .str "_" 1803, .str "patterns" 1804, .str "sides" 1805] 0, #[]⟩,
  ⟨.type "tuple", none, .seq #[] 0, #[]⟩,
  ⟨.none, none, fd (mt 102 3) "add_rules" "Quick.add_rules" 0 .none .none .none 0, #[]⟩]
def ob_17 (w : World) : List Obj := [
  ⟨.type "code", none, .fields #[.str "add_rules" 1795, .str "Quick.add_rules" 1796, .str "/claim/cut.py" 1797, .int 860 0, .int 5 0, .int 0 0, .int 0 0, .int 3 0, .ref 1015, .bool true, .int 181 0, .ref 1016, .none, .ref 1017, .ref 1018, .ref 1019, .int 1806 0, .int 860 0, .str "/claim/cut.py" 1807], #[]⟩,
  ⟨.type "function", none, fd (mt 102 3) "add_rules" "Quick.add_rules" 3 .none (.str "slumberway.quick" 1673) (.ref 1020) 0, #[]⟩,
  ⟨.type "tuple", none, .seq #[] 0, #[]⟩,
  ⟨.none, none, .fields #[], #[]⟩,
  ⟨.type "tuple", none, .seq #[.str "self" 1812, .str "patterns" 1813, .str "kinds" 1814, .str "sides" 1815, .str "side" 1816, .str "deep" 1817, .str "bound" 1818, .str "pattern" 1819, .str "kind" 1820, .str "guard" 1821, .str "e" 1822] 0, #[]⟩,
  ⟨.type "tuple", none, .seq #[] 0, #[]⟩,
  ⟨.none, none, fd (mt 102 4) "add_rule" "Quick.add_rule" 0 .none .none .none 0, #[]⟩,
  ⟨.type "code", none, .fields #[.str "add_rule" 1809, .str "Quick.add_rule" 1810, .str "/claim/cut.py" 1811, .int 866 0, .int 6 0, .int 0 0, .int 0 0, .int 3 0, .ref 1022, .bool true, .int 181 0, .ref 1023, .none, .ref 1024, .ref 1025, .ref 1026, .int 1823 0, .int 866 0, .str "/claim/cut.py" 1824], #[]⟩,
  ⟨.type "function", none, fd (mt 102 4) "add_rule" "Quick.add_rule" 3 .none (.str "slumberway.quick" 1673) (.ref 1027) 0, #[]⟩,
  ⟨.type "tuple", none, .seq #[] 0, #[]⟩,
  ⟨.none, none, .fields #[], #[]⟩,
  ⟨.type "tuple", none, .seq #[.str "self" 1829, .str "name" 1830, .str "kind" 1831, .str "bound" 1832] 0, #[]⟩,
  ⟨.type "tuple", none, .seq #[] 0, #[]⟩,
  ⟨.none, none, fd (mt 102 5) "bind" "Quick.bind" 0 .none .none .none 0, #[]⟩,
  ⟨.type "code", none, .fields #[.str "bind" 1826, .str "Quick.bind" 1827, .str "/claim/cut.py" 1828, .int 879 0, .int 4 0, .int 0 0, .int 0 0, .int 3 0, .ref 1029, .bool true, .int 181 0, .ref 1030, .none, .ref 1031, .ref 1032, .ref 1033, .int 1833 0, .int 879 0, .str "/claim/cut.py" 1834], #[]⟩,
  ⟨.type "function", none, fd (mt 102 5) "bind" "Quick.bind" 3 .none (.str "slumberway.quick" 1673) (.ref 1034) 0, #[]⟩,
  ⟨.type "tuple", none, .seq #[] 0, #[]⟩,
  ⟨.none, none, .fields #[], #[]⟩,
  ⟨.type "tuple", none, .seq #[.str "self" 1839, .str "pattern" 1840, .str "kind" 1841, .str "bound" 1842, .str "word" 1843, .str "parts" 1844, .str "whole" 1845, .str "part" 1846, .str "part_kind" 1847] 0, #[]⟩,
  ⟨.type "tuple", none, .seq #[] 0, #[]⟩,
  ⟨.none, none, fd (mt 102 6) "add_pattern" "Quick.add_pattern" 0 .none .none .none 0, #[]⟩,
  ⟨.type "code", none, .fields #[.str "add_pattern" 1836, .str "Quick.add_pattern" 1837, .str "/claim/cut.py" 1838, .int 885 0, .int 4 0, .int 0 0, .int 0 0, .int 3 0, .ref 1036, .bool true, .int 181 0, .ref 1037, .none, .ref 1038, .ref 1039, .ref 1040, .int 1848 0, .int 885 0, .str "/claim/cut.py" 1849], #[]⟩,
  ⟨.type "function", none, fd (mt 102 6) "add_pattern" "Quick.add_pattern" 3 .none (.str "slumberway.quick" 1673) (.ref 1041) 0, #[]⟩,
  ⟨.type "tuple", none, .seq #[] 0, #[]⟩,
  ⟨.none, none, .fields #[], #[]⟩,
  ⟨.type "tuple", none, .seq #[.str "self" 1854, .str "e" 1855, .str "deep" 1856, .str "word" 1857, .str "kind" 1858, .str "kind_of" 1859] 0, #[]⟩,
  ⟨.type "tuple", none, .seq #[] 0, #[]⟩,
  ⟨.none, none, fd (mt 102 7) "kind" "Quick.kind" 0 .none .none .none 0, #[]⟩,
  ⟨.type "code", none, .fields #[.str "kind" 1851, .str "Quick.kind" 1852, .str "/claim/cut.py" 1853, .int 901 0, .int 3 0, .int 0 0, .int 0 0, .int 3 0, .ref 1043, .bool true, .int 181 0, .ref 1044, .none, .ref 1045, .ref 1046, .ref 1047, .int 1860 0, .int 901 0, .str "/claim/cut.py" 1861], #[]⟩,
  ⟨.type "function", none, fd (mt 102 7) "kind" "Quick.kind" 3 .none (.str "slumberway.quick" 1673) (.ref 1048) 0, #[]⟩,
  ⟨.type "tuple", none, .seq #[] 0, #[]⟩,
  ⟨.none, none, .fields #[], #[]⟩,
  ⟨.none, none, fd (mt 102 8) "solve" "Quick.solve" 0 .none .none .none 0, #[]⟩,
  ⟨.type "code", none, .fields #[.str "solve" 1863, .str "Quick.solve" 1864, .str "/claim/cut.py" 1865, .int 921 0, .int 2 0, .int 0 0, .int 0 0, .int 3 0, .ref 1050, .bool true, .int 181 0, .ref 1051, .none, .none, .none, .ref 1052, .int 1866 0, .int 921 0, .str "/claim/cut.py" 1867], #[]⟩,
  ⟨.type "function", none, fd (mt 102 8) "solve" "Quick.solve" 3 .none (.str "slumberway.quick" 1673) (.ref 1053) 0, #[]⟩,
  ⟨.type "tuple", none, .seq #[] 0, #[]⟩,
  ⟨.none, none, .fields #[], #[]⟩,
  ⟨.none, none, fd (mt 102 9) "begin_group" "Quick.begin_group" 0 .none .none .none 0, #[]⟩,
  ⟨.type "code", none, .fields #[.str "begin_group" 1869, .str "Quick.begin_group" 1870, .str "/claim/cut.py" 1871, .int 932 0, .int 2 0, .int 0 0, .int 0 0, .int 3 0, .ref 1055, .bool true, .int 181 0, .ref 1056, .none, .none, .none, .ref 1057, .int 1872 0, .int 932 0, .str "/claim/cut.py" 1873], #[]⟩,
  ⟨.type "function", none, fd (mt 102 9) "begin_group" "Quick.begin_group" 3 .none (.str "slumberway.quick" 1673) (.ref 1058) 0, #[]⟩,
  ⟨.type "tuple", none, .seq #[] 0, #[]⟩,
  ⟨.none, none, .fields #[], #[]⟩,
  ⟨.type "tuple", none, .seq #[.str "self" 1878, .str "solver" 1879, .str "number" 1880, .str "_" 1881, .str "one" 1882, .str "other" 1883] 0, #[]⟩,
  ⟨.type "tuple", none, .seq #[] 0, #[]⟩,
  ⟨.none, none, fd (mt 102 10) "meet_demands" "Quick.meet_demands" 0 .none .none .none 0, #[]⟩,
  ⟨.type "code", none, .fields #[.str "meet_demands" 1875, .str "Quick.meet_demands" 1876, .str "/claim/cut.py" 1877, .int 943 0, .int 1 0, .int 0 0, .int 0 0, .int 3 0, .ref 1060, .bool true, .int 181 0, .ref 1061, .none, .ref 1062, .ref 1063, .ref 1064, .int 1884 0, .int 943 0, .str "/claim/cut.py" 1885], #[]⟩,
  ⟨.type "function", none, fd (mt 102 10) "meet_demands" "Quick.meet_demands" 3 .none (.str "slumberway.quick" 1673) (.ref 1065) 0, #[]⟩,
  ⟨.type "tuple", none, .seq #[] 0, #[]⟩,
  ⟨.none, none, .fields #[], #[]⟩,
  ⟨.type "tuple", none, .seq #[.str "self" 1890, .str "told" 1891] 0, #[]⟩,
  ⟨.type "tuple", none, .seq #[] 0, #[]⟩,
  ⟨.none, none, fd (mt 102 11) "base" "Quick.base" 0 .none .none .none 0, #[]⟩,
  ⟨.type "code", none, .fields #[.str "base" 1887, .str "Quick.base" 1888, .str "/claim/cut.py" 1889, .int 953 0, .int 1 0, .int 0 0, .int 0 0, .int 3 0, .ref 1067, .bool true, .int 181 0, .ref 1068, .none, .ref 1069, .ref 1070, .ref 1071, .int 1892 0, .int 953 0, .str "/claim/cut.py" 1893], #[]⟩,
  ⟨.type "function", none, fd (mt 102 11) "base" "Quick.base" 3 .none (.str "slumberway.quick" 1673) (.ref 1072) 0, #[]⟩,
  ⟨.type "tuple", none, .seq #[] 0, #[]⟩,
  ⟨.none, none, .fields #[], #[]⟩,
  ⟨.none, none, fd (mt 102 12) "top_anew" "Quick.top_anew" 0 .none .none .none 0, #[]⟩,
  ⟨.type "code", none, .fields #[.str "top_anew" 1895, .str "Quick.top_anew" 1896, .str "/claim/cut.py" 1897, .int 958 0, .int 2 0, .int 0 0, .int 0 0, .int 3 0, .ref 1074, .bool true, .int 181 0, .ref 1075, .none, .none, .none, .ref 1076, .int 1898 0, .int 958 0, .str "/claim/cut.py" 1899], #[]⟩,
  ⟨.type "function", none, fd (mt 102 12) "top_anew" "Quick.top_anew" 3 .none (.str "slumberway.quick" 1673) (.ref 1077) 0, #[]⟩,
  ⟨.type "tuple", none, .seq #[] 0, #[]⟩]
def ob_18 (w : World) : List Obj := [
  ⟨.none, none, .fields #[], #[]⟩,
  ⟨.type "tuple", none, .seq #[.str "self" 1904, .str "x" 1905] 0, #[]⟩,
  ⟨.type "tuple", none, .seq #[] 0, #[]⟩,
  ⟨.none, none, fd (mt 102 13) "scheme" "Quick.scheme" 0 .none .none .none 0, #[]⟩,
  ⟨.type "code", none, .fields #[.str "scheme" 1901, .str "Quick.scheme" 1902, .str "/claim/cut.py" 1903, .int 964 0, .int 2 0, .int 0 0, .int 0 0, .int 3 0, .ref 1079, .bool true, .int 181 0, .ref 1080, .none, .ref 1081, .ref 1082, .ref 1083, .int 1906 0, .int 964 0, .str "/claim/cut.py" 1907], #[]⟩,
  ⟨.type "function", none, fd (mt 102 13) "scheme" "Quick.scheme" 3 .none (.str "slumberway.quick" 1673) (.ref 1084) 0, #[]⟩,
  ⟨.type "tuple", none, .seq #[] 0, #[]⟩,
  ⟨.none, none, .fields #[], #[]⟩,
  ⟨.type "tuple", none, .seq #[.str "self" 1912, .str "x" 1913] 0, #[]⟩,
  ⟨.type "tuple", none, .seq #[] 0, #[]⟩,
  ⟨.none, none, fd (mt 102 14) "top_text" "Quick.top_text" 0 .none .none .none 0, #[]⟩,
  ⟨.type "code", none, .fields #[.str "top_text" 1909, .str "Quick.top_text" 1910, .str "/claim/cut.py" 1911, .int 969 0, .int 2 0, .int 0 0, .int 0 0, .int 3 0, .ref 1086, .bool true, .int 181 0, .ref 1087, .none, .ref 1088, .ref 1089, .ref 1090, .int 1914 0, .int 969 0, .str "/claim/cut.py" 1915], #[]⟩,
  ⟨.type "function", none, fd (mt 102 14) "top_text" "Quick.top_text" 3 .none (.str "slumberway.quick" 1673) (.ref 1091) 0, #[]⟩,
  ⟨.type "tuple", none, .seq #[] 0, #[]⟩,
  ⟨.none, none, .fields #[], #[]⟩,
  ⟨.type "tuple", none, .seq #[.str "self" 1920, .str "x" 1921, .str "e" 1922] 0, #[]⟩,
  ⟨.type "tuple", none, .seq #[] 0, #[]⟩,
  ⟨.none, none, fd (mt 102 15) "text_at" "Quick.text_at" 0 .none .none .none 0, #[]⟩,
  ⟨.type "code", none, .fields #[.str "text_at" 1917, .str "Quick.text_at" 1918, .str "/claim/cut.py" 1919, .int 972 0, .int 3 0, .int 0 0, .int 0 0, .int 3 0, .ref 1093, .bool true, .int 181 0, .ref 1094, .none, .ref 1095, .ref 1096, .ref 1097, .int 1923 0, .int 972 0, .str "/claim/cut.py" 1924], #[]⟩,
  ⟨.type "function", none, fd (mt 102 15) "text_at" "Quick.text_at" 3 .none (.str "slumberway.quick" 1673) (.ref 1098) 0, #[]⟩,
  ⟨.type "tuple", none, .seq #[] 0, #[]⟩,
  ⟨.none, none, .fields #[], #[]⟩,
  ⟨.type "tuple", none, .seq #[.str "self" 1929, .str "maker" 1930, .str "parts" 1931, .str "whole" 1932] 0, #[]⟩,
  ⟨.type "tuple", none, .seq #[] 0, #[]⟩,
  ⟨.none, none, fd (mt 102 16) "maker_text" "Quick.maker_text" 0 .none .none .none 0, #[]⟩,
  ⟨.type "code", none, .fields #[.str "maker_text" 1926, .str "Quick.maker_text" 1927, .str "/claim/cut.py" 1928, .int 975 0, .int 2 0, .int 0 0, .int 0 0, .int 3 0, .ref 1100, .bool true, .int 181 0, .ref 1101, .none, .ref 1102, .ref 1103, .ref 1104, .int 1933 0, .int 975 0, .str "/claim/cut.py" 1934], #[]⟩,
  ⟨.type "function", none, fd (mt 102 16) "maker_text" "Quick.maker_text" 3 .none (.str "slumberway.quick" 1673) (.ref 1105) 0, #[]⟩,
  ⟨.type "tuple", none, .seq #[.str "ahead" 1936, .str "at" 1937, .str "defs" 1938, .str "demands" 1939, .str "fault" 1940, .str "found" 1941, .str "groups" 1942, .str "kept" 1943, .str "makers" 1944, .str "names" 1945, .str "schemes" 1946, .str "solver" 1947, .str "tops" 1948, .str "uses" 1949] 0, #[]⟩,
  ⟨.type "dict", none, .dict #[en w "__module__" 1767 (.str "slumberway.quick" 1673), en w "__firstlineno__" 1771 (.int 821 1770), en w "__init__" 1777 (.ref 1002), en w "add_tops" 1788 (.ref 1009), en w "begin_def" 1794 (.ref 1014), en w "add_rules" 1808 (.ref 1021), en w "add_rule" 1825 (.ref 1028), en w "bind" 1835 (.ref 1035), en w "add_pattern" 1850 (.ref 1042), en w "kind" 1862 (.ref 1049), en w "solve" 1868 (.ref 1054), en w "begin_group" 1874 (.ref 1059), en w "meet_demands" 1886 (.ref 1066), en w "base" 1894 (.ref 1073), en w "top_anew" 1900 (.ref 1078), en w "scheme" 1908 (.ref 1085), en w "top_text" 1916 (.ref 1092), en w "text_at" 1925 (.ref 1099), en w "maker_text" 1935 (.ref 1106), en w "__static_attributes__" 1950 (.ref 1107), en w "__dict__" 1952 (.ref 1110), en w "__weakref__" 1954 (.ref 1111), en w "__doc__" 1955 .none] 4, #[]⟩,
  ⟨.type "type", none, .cls ⟨"Quick", [.type "object"], [.ref 1109, .type "object"], 1108, "Quick", true, [], [], false, none, false⟩, #[none, none, (some (.str "Quick" 1760)), (some (.str "Quick" 1768)), (some (.builtin "object.__new__")), (some (.bool true))]⟩,
  ⟨.type "getset_descriptor", none, .fields #[.str "__dict__" 1951, .ref 1109, .builtin "function.__dict__", .builtin "function.__dict__#set"], #[]⟩,
  ⟨.type "getset_descriptor", none, .fields #[.str "__weakref__" 1953, .ref 1109, .builtin "ExceptionGroup.__weakref__", .none], #[]⟩,
  ⟨.type "super", none, .fields #[.ref 1109, .ref 1109, .ref 1109], #[]⟩,
  ⟨.type "builtin_function_or_method", none, .fields #[.builtin "object.__init_subclass__", .ref 1109], #[]⟩,
  ⟨.type "tuple", none, .seq #[] 0, #[]⟩,
  ⟨.none, none, .fields #[], #[]⟩,
  ⟨.type "tuple", none, .seq #[.str "quick" 1961, .str "e" 1962, .str "deep" 1963, .str "parts" 1964, .str "whole" 1965] 0, #[]⟩,
  ⟨.type "tuple", none, .seq #[] 0, #[]⟩,
  ⟨.none, none, fd (tp 103) "maker_kind" "maker_kind" 0 .none .none .none 0, #[]⟩,
  ⟨.type "code", none, .fields #[.str "maker_kind" 1958, .str "maker_kind" 1959, .str "/claim/cut.py" 1960, .int 978 0, .int 3 0, .int 0 0, .int 0 0, .int 3 0, .ref 1114, .bool true, .int 181 0, .ref 1115, .none, .ref 1116, .ref 1117, .ref 1118, .int 1966 0, .int 978 0, .str "/claim/cut.py" 1967], #[]⟩,
  ⟨.type "function", none, fd (tp 103) "maker_kind" "maker_kind" 3 .none (.str "slumberway.quick" 1673) (.ref 1119) 0, #[]⟩,
  ⟨.type "tuple", none, .seq #[] 0, #[]⟩,
  ⟨.none, none, .fields #[], #[]⟩,
  ⟨.none, none, fd (tp 104) "call_kind" "call_kind" 0 .none .none .none 0, #[]⟩,
  ⟨.type "code", none, .fields #[.str "call_kind" 1969, .str "call_kind" 1970, .str "/claim/cut.py" 1971, .int 983 0, .int 3 0, .int 0 0, .int 0 0, .int 3 0, .ref 1121, .bool true, .int 181 0, .ref 1122, .none, .none, .none, .ref 1123, .int 1972 0, .int 983 0, .str "/claim/cut.py" 1973], #[]⟩,
  ⟨.type "function", none, fd (tp 104) "call_kind" "call_kind" 3 .none (.str "slumberway.quick" 1673) (.ref 1124) 0, #[]⟩,
  ⟨.type "tuple", none, .seq #[] 0, #[]⟩,
  ⟨.none, none, .fields #[], #[]⟩,
  ⟨.type "tuple", none, .seq #[.str "quick" 1978, .str "e" 1979, .str "deep" 1980, .str "_" 1981, .str "sign" 1982, .str "left" 1983, .str "right" 1984, .str "one" 1985, .str "other" 1986] 0, #[]⟩,
  ⟨.type "tuple", none, .seq #[] 0, #[]⟩,
  ⟨.none, none, fd (tp 105) "op_kind" "op_kind" 0 .none .none .none 0, #[]⟩,
  ⟨.type "code", none, .fields #[.str "op_kind" 1975, .str "op_kind" 1976, .str "/claim/cut.py" 1977, .int 992 0, .int 3 0, .int 0 0, .int 0 0, .int 3 0, .ref 1126, .bool true, .int 181 0, .ref 1127, .none, .ref 1128, .ref 1129, .ref 1130, .int 1987 0, .int 992 0, .str "/claim/cut.py" 1988], #[]⟩,
  ⟨.type "function", none, fd (tp 105) "op_kind" "op_kind" 3 .none (.str "slumberway.quick" 1673) (.ref 1131) 0, #[]⟩,
  ⟨.type "tuple", none, .seq #[] 0, #[]⟩,
  ⟨.none, none, .fields #[], #[]⟩,
  ⟨.type "tuple", none, .seq #[.str "quick" 1993, .str "e" 1994, .str "deep" 1995, .str "bound" 1996, .str "letters" 1997, .str "_" 1998, .str "name" 1999, .str "told" 2000] 0, #[]⟩,
  ⟨.type "tuple", none, .seq #[] 0, #[]⟩,
  ⟨.none, none, fd (tp 106) "fun_kind" "fun_kind" 0 .none .none .none 0, #[]⟩,
  ⟨.type "code", none, .fields #[.str "fun_kind" 1990, .str "fun_kind" 1991, .str "/claim/cut.py" 1992, .int 998 0, .int 3 0, .int 0 0, .int 0 0, .int 3 0, .ref 1133, .bool true, .int 181 0, .ref 1134, .none, .ref 1135, .ref 1136, .ref 1137, .int 2001 0, .int 998 0, .str "/claim/cut.py" 2002], #[]⟩,
  ⟨.type "function", none, fd (tp 106) "fun_kind" "fun_kind" 3 .none (.str "slumberway.quick" 1673) (.ref 1138) 0, #[]⟩]
def ob_19 (w : World) : List Obj := [
  ⟨.type "tuple", none, .seq #[] 0, #[]⟩,
  ⟨.none, none, .fields #[], #[]⟩,
  ⟨.type "tuple", none, .seq #[.str "quick" 2007, .str "e" 2008, .str "deep" 2009, .str "bound" 2010, .str "lanes" 2011, .str "one" 2012, .str "letters" 2013, .str "side" 2014, .str "told" 2015] 0, #[]⟩,
  ⟨.type "tuple", none, .seq #[] 0, #[]⟩,
  ⟨.none, none, fd (tp 107) "let_kind" "let_kind" 0 .none .none .none 0, #[]⟩,
  ⟨.type "code", none, .fields #[.str "let_kind" 2004, .str "let_kind" 2005, .str "/claim/cut.py" 2006, .int 1007 0, .int 3 0, .int 0 0, .int 0 0, .int 3 0, .ref 1140, .bool true, .int 181 0, .ref 1141, .none, .ref 1142, .ref 1143, .ref 1144, .int 2016 0, .int 1007 0, .str "/claim/cut.py" 2017], #[]⟩,
  ⟨.type "function", none, fd (tp 107) "let_kind" "let_kind" 3 .none (.str "slumberway.quick" 1673) (.ref 1145) 0, #[]⟩,
  ⟨.type "tuple", none, .seq #[] 0, #[]⟩,
  ⟨.none, none, .fields #[], #[]⟩,
  ⟨.type "tuple", none, .seq #[.str "quick" 2022, .str "e" 2023, .str "deep" 2024, .str "_" 2025, .str "asked" 2026, .str "one" 2027, .str "other" 2028, .str "truth" 2029, .str "told" 2030, .str "alike" 2031] 0, #[]⟩,
  ⟨.type "tuple", none, .seq #[] 0, #[]⟩,
  ⟨.none, none, fd (tp 108) "if_kind" "if_kind" 0 .none .none .none 0, #[]⟩,
  ⟨.type "code", none, .fields #[.str "if_kind" 2019, .str "if_kind" 2020, .str "/claim/cut.py" 2021, .int 1019 0, .int 3 0, .int 0 0, .int 0 0, .int 3 0, .ref 1147, .bool true, .int 181 0, .ref 1148, .none, .ref 1149, .ref 1150, .ref 1151, .int 2032 0, .int 1019 0, .str "/claim/cut.py" 2033], #[]⟩,
  ⟨.type "function", none, fd (tp 108) "if_kind" "if_kind" 3 .none (.str "slumberway.quick" 1673) (.ref 1152) 0, #[]⟩,
  ⟨.type "tuple", none, .seq #[] 0, #[]⟩,
  ⟨.none, none, .fields #[], #[]⟩,
  ⟨.type "tuple", none, .seq #[.str "quick" 2038, .str "e" 2039, .str "deep" 2040, .str "thing" 2041, .str "letter" 2042, .str "_" 2043, .str "pattern" 2044, .str "sides" 2045] 0, #[]⟩,
  ⟨.type "tuple", none, .seq #[] 0, #[]⟩,
  ⟨.none, none, fd (tp 109) "case_kind" "case_kind" 0 .none .none .none 0, #[]⟩,
  ⟨.type "code", none, .fields #[.str "case_kind" 2035, .str "case_kind" 2036, .str "/claim/cut.py" 2037, .int 1026 0, .int 3 0, .int 0 0, .int 0 0, .int 3 0, .ref 1154, .bool true, .int 181 0, .ref 1155, .none, .ref 1156, .ref 1157, .ref 1158, .int 2046 0, .int 1026 0, .str "/claim/cut.py" 2047], #[]⟩,
  ⟨.type "function", none, fd (tp 109) "case_kind" "case_kind" 3 .none (.str "slumberway.quick" 1673) (.ref 1159) 0, #[]⟩,
  ⟨.type "dict", none, .dict #[en w "maker" 2049 (.ref 1120), en w "call" 2050 (.ref 1125), en w "op" 2051 (.ref 1132), en w "fun" 2052 (.ref 1139), en w "let" 2053 (.ref 1146), en w "if" 2054 (.ref 1153), en w "case" 2055 (.ref 1160)] 7, #[]⟩,
  ⟨.type "dict", none, .dict #[en w "*" 2066 (.int 3 2067), en w "+" 2068 (.int 2 2069), en w "-" 2070 (.int 2 2071), en w "<" 2072 (.int 1 2073), en w "==" 2074 (.int 1 2075)] 5, #[]⟩,
  ⟨.type "tuple", none, .seq #[] 0, #[]⟩,
  ⟨.none, none, .fields #[], #[]⟩,
  ⟨.type "tuple", none, .seq #[.str "reading" 2085, .str "lexeme" 2086] 0, #[]⟩,
  ⟨.type "tuple", none, .seq #[] 0, #[]⟩,
  ⟨.none, none, fd (tp 113) "nothing" "nothing" 0 .none .none .none 0, #[]⟩,
  ⟨.type "code", none, .fields #[.str "nothing" 2082, .str "nothing" 2083, .str "/claim/cut.py" 2084, .int 1035 0, .int 2 0, .int 0 0, .int 0 0, .int 3 0, .ref 1163, .bool true, .int 181 0, .ref 1164, .none, .ref 1165, .ref 1166, .ref 1167, .int 2087 0, .int 1035 0, .str "/claim/cut.py" 2088], #[]⟩,
  ⟨.type "function", none, fd (tp 113) "nothing" "nothing" 3 .none (.str "slumberway.building" 2064) (.ref 1168) 0, #[]⟩,
  ⟨.type "tuple", none, .seq #[] 0, #[]⟩,
  ⟨.none, none, .fields #[], #[]⟩,
  ⟨.type "tuple", none, .seq #[.str "reading" 2093, .str "lexeme" 2094] 0, #[]⟩,
  ⟨.type "tuple", none, .seq #[] 0, #[]⟩,
  ⟨.none, none, fd (tp 114) "keep_word" "keep_word" 0 .none .none .none 0, #[]⟩,
  ⟨.type "code", none, .fields #[.str "keep_word" 2090, .str "keep_word" 2091, .str "/claim/cut.py" 2092, .int 1037 0, .int 2 0, .int 0 0, .int 0 0, .int 3 0, .ref 1170, .bool true, .int 181 0, .ref 1171, .none, .ref 1172, .ref 1173, .ref 1174, .int 2095 0, .int 1037 0, .str "/claim/cut.py" 2096], #[]⟩,
  ⟨.type "function", none, fd (tp 114) "keep_word" "keep_word" 3 .none (.str "slumberway.building" 2064) (.ref 1175) 0, #[]⟩,
  ⟨.type "tuple", none, .seq #[] 0, #[]⟩,
  ⟨.none, none, .fields #[], #[]⟩,
  ⟨.type "tuple", none, .seq #[.str "reading" 2101, .str "lexeme" 2102] 0, #[]⟩,
  ⟨.type "tuple", none, .seq #[] 0, #[]⟩,
  ⟨.none, none, fd (tp 115) "keep_placed_word" "keep_placed_word" 0 .none .none .none 0, #[]⟩,
  ⟨.type "code", none, .fields #[.str "keep_placed_word" 2098, .str "keep_placed_word" 2099, .str "/claim/cut.py" 2100, .int 1039 0, .int 2 0, .int 0 0, .int 0 0, .int 3 0, .ref 1177, .bool true, .int 181 0, .ref 1178, .none, .ref 1179, .ref 1180, .ref 1181, .int 2103 0, .int 1039 0, .str "/claim/cut.py" 2104], #[]⟩,
  ⟨.type "function", none, fd (tp 115) "keep_placed_word" "keep_placed_word" 3 .none (.str "slumberway.building" 2064) (.ref 1182) 0, #[]⟩,
  ⟨.type "tuple", none, .seq #[] 0, #[]⟩,
  ⟨.none, none, .fields #[], #[]⟩,
  ⟨.type "tuple", none, .seq #[.str "reading" 2109, .str "lexeme" 2110] 0, #[]⟩,
  ⟨.type "tuple", none, .seq #[] 0, #[]⟩,
  ⟨.none, none, fd (tp 116) "begin_placed" "begin_placed" 0 .none .none .none 0, #[]⟩,
  ⟨.type "code", none, .fields #[.str "begin_placed" 2106, .str "begin_placed" 2107, .str "/claim/cut.py" 2108, .int 1041 0, .int 2 0, .int 0 0, .int 0 0, .int 3 0, .ref 1184, .bool true, .int 181 0, .ref 1185, .none, .ref 1186, .ref 1187, .ref 1188, .int 2111 0, .int 1041 0, .str "/claim/cut.py" 2112], #[]⟩,
  ⟨.type "function", none, fd (tp 116) "begin_placed" "begin_placed" 3 .none (.str "slumberway.building" 2064) (.ref 1189) 0, #[]⟩,
  ⟨.type "tuple", none, .seq #[] 0, #[]⟩,
  ⟨.none, none, .fields #[], #[]⟩,
  ⟨.type "tuple", none, .seq #[.str "reading" 2117, .str "lexeme" 2118] 0, #[]⟩,
  ⟨.type "tuple", none, .seq #[] 0, #[]⟩,
  ⟨.none, none, fd (tp 117) "begin_placed_word" "begin_placed_word" 0 .none .none .none 0, #[]⟩,
  ⟨.type "code", none, .fields #[.str "begin_placed_word" 2114, .str "begin_placed_word" 2115, .str "/claim/cut.py" 2116, .int 1043 0, .int 2 0, .int 0 0, .int 0 0, .int 3 0, .ref 1191, .bool true, .int 181 0, .ref 1192, .none, .ref 1193, .ref 1194, .ref 1195, .int 2119 0, .int 1043 0, .str "/claim/cut.py" 2120], #[]⟩,
  ⟨.type "function", none, fd (tp 117) "begin_placed_word" "begin_placed_word" 3 .none (.str "slumberway.building" 2064) (.ref 1196) 0, #[]⟩,
  ⟨.type "tuple", none, .seq #[] 0, #[]⟩,
  ⟨.none, none, .fields #[], #[]⟩]
def ob_20 (w : World) : List Obj := [
  ⟨.type "tuple", none, .seq #[.str "reading" 2125, .str "lexeme" 2126] 0, #[]⟩,
  ⟨.type "tuple", none, .seq #[] 0, #[]⟩,
  ⟨.none, none, fd (tp 118) "begin_line" "begin_line" 0 .none .none .none 0, #[]⟩,
  ⟨.type "code", none, .fields #[.str "begin_line" 2122, .str "begin_line" 2123, .str "/claim/cut.py" 2124, .int 1045 0, .int 2 0, .int 0 0, .int 0 0, .int 3 0, .ref 1198, .bool true, .int 181 0, .ref 1199, .none, .ref 1200, .ref 1201, .ref 1202, .int 2127 0, .int 1045 0, .str "/claim/cut.py" 2128], #[]⟩,
  ⟨.type "function", none, fd (tp 118) "begin_line" "begin_line" 3 .none (.str "slumberway.building" 2064) (.ref 1203) 0, #[]⟩,
  ⟨.type "tuple", none, .seq #[] 0, #[]⟩,
  ⟨.none, none, .fields #[], #[]⟩,
  ⟨.type "tuple", none, .seq #[.str "reading" 2133, .str "lexeme" 2134] 0, #[]⟩,
  ⟨.type "tuple", none, .seq #[] 0, #[]⟩,
  ⟨.none, none, fd (tp 119) "begin_made" "begin_made" 0 .none .none .none 0, #[]⟩,
  ⟨.type "code", none, .fields #[.str "begin_made" 2130, .str "begin_made" 2131, .str "/claim/cut.py" 2132, .int 1047 0, .int 2 0, .int 0 0, .int 0 0, .int 3 0, .ref 1205, .bool true, .int 181 0, .ref 1206, .none, .ref 1207, .ref 1208, .ref 1209, .int 2135 0, .int 1047 0, .str "/claim/cut.py" 2136], #[]⟩,
  ⟨.type "function", none, fd (tp 119) "begin_made" "begin_made" 3 .none (.str "slumberway.building" 2064) (.ref 1210) 0, #[]⟩,
  ⟨.type "tuple", none, .seq #[] 0, #[]⟩,
  ⟨.none, none, .fields #[], #[]⟩,
  ⟨.type "tuple", none, .seq #[.str "reading" 2141, .str "lexeme" 2142] 0, #[]⟩,
  ⟨.type "tuple", none, .seq #[] 0, #[]⟩,
  ⟨.none, none, fd (tp 120) "end_letters" "end_letters" 0 .none .none .none 0, #[]⟩,
  ⟨.type "code", none, .fields #[.str "end_letters" 2138, .str "end_letters" 2139, .str "/claim/cut.py" 2140, .int 1049 0, .int 2 0, .int 0 0, .int 0 0, .int 3 0, .ref 1212, .bool true, .int 181 0, .ref 1213, .none, .ref 1214, .ref 1215, .ref 1216, .int 2143 0, .int 1049 0, .str "/claim/cut.py" 2144], #[]⟩,
  ⟨.type "function", none, fd (tp 120) "end_letters" "end_letters" 3 .none (.str "slumberway.building" 2064) (.ref 1217) 0, #[]⟩,
  ⟨.type "tuple", none, .seq #[] 0, #[]⟩,
  ⟨.none, none, .fields #[], #[]⟩,
  ⟨.type "tuple", none, .seq #[.str "reading" 2149, .str "lexeme" 2150] 0, #[]⟩,
  ⟨.type "tuple", none, .seq #[] 0, #[]⟩,
  ⟨.none, none, fd (tp 121) "keep_letter" "keep_letter" 0 .none .none .none 0, #[]⟩,
  ⟨.type "code", none, .fields #[.str "keep_letter" 2146, .str "keep_letter" 2147, .str "/claim/cut.py" 2148, .int 1052 0, .int 2 0, .int 0 0, .int 0 0, .int 3 0, .ref 1219, .bool true, .int 181 0, .ref 1220, .none, .ref 1221, .ref 1222, .ref 1223, .int 2151 0, .int 1052 0, .str "/claim/cut.py" 2152], #[]⟩,
  ⟨.type "function", none, fd (tp 121) "keep_letter" "keep_letter" 3 .none (.str "slumberway.building" 2064) (.ref 1224) 0, #[]⟩,
  ⟨.type "tuple", none, .seq #[] 0, #[]⟩,
  ⟨.none, none, .fields #[], #[]⟩,
  ⟨.type "tuple", none, .seq #[.str "reading" 2157, .str "lexeme" 2158] 0, #[]⟩,
  ⟨.type "tuple", none, .seq #[] 0, #[]⟩,
  ⟨.none, none, fd (tp 122) "keep_bare_kind" "keep_bare_kind" 0 .none .none .none 0, #[]⟩,
  ⟨.type "code", none, .fields #[.str "keep_bare_kind" 2154, .str "keep_bare_kind" 2155, .str "/claim/cut.py" 2156, .int 1054 0, .int 2 0, .int 0 0, .int 0 0, .int 3 0, .ref 1226, .bool true, .int 181 0, .ref 1227, .none, .ref 1228, .ref 1229, .ref 1230, .int 2159 0, .int 1054 0, .str "/claim/cut.py" 2160], #[]⟩,
  ⟨.type "function", none, fd (tp 122) "keep_bare_kind" "keep_bare_kind" 3 .none (.str "slumberway.building" 2064) (.ref 1231) 0, #[]⟩,
  ⟨.type "tuple", none, .seq #[] 0, #[]⟩,
  ⟨.none, none, .fields #[], #[]⟩,
  ⟨.type "tuple", none, .seq #[.str "reading" 2165, .str "lexeme" 2166] 0, #[]⟩,
  ⟨.type "tuple", none, .seq #[] 0, #[]⟩,
  ⟨.none, none, fd (tp 123) "begin_kind" "begin_kind" 0 .none .none .none 0, #[]⟩,
  ⟨.type "code", none, .fields #[.str "begin_kind" 2162, .str "begin_kind" 2163, .str "/claim/cut.py" 2164, .int 1056 0, .int 2 0, .int 0 0, .int 0 0, .int 3 0, .ref 1233, .bool true, .int 181 0, .ref 1234, .none, .ref 1235, .ref 1236, .ref 1237, .int 2167 0, .int 1056 0, .str "/claim/cut.py" 2168], #[]⟩,
  ⟨.type "function", none, fd (tp 123) "begin_kind" "begin_kind" 3 .none (.str "slumberway.building" 2064) (.ref 1238) 0, #[]⟩,
  ⟨.type "tuple", none, .seq #[] 0, #[]⟩,
  ⟨.none, none, .fields #[], #[]⟩,
  ⟨.type "tuple", none, .seq #[.str "reading" 2173, .str "lexeme" 2174] 0, #[]⟩,
  ⟨.type "tuple", none, .seq #[] 0, #[]⟩,
  ⟨.none, none, fd (tp 124) "begin_kind_parts" "begin_kind_parts" 0 .none .none .none 0, #[]⟩,
  ⟨.type "code", none, .fields #[.str "begin_kind_parts" 2170, .str "begin_kind_parts" 2171, .str "/claim/cut.py" 2172, .int 1058 0, .int 2 0, .int 0 0, .int 0 0, .int 3 0, .ref 1240, .bool true, .int 181 0, .ref 1241, .none, .ref 1242, .ref 1243, .ref 1244, .int 2175 0, .int 1058 0, .str "/claim/cut.py" 2176], #[]⟩,
  ⟨.type "function", none, fd (tp 124) "begin_kind_parts" "begin_kind_parts" 3 .none (.str "slumberway.building" 2064) (.ref 1245) 0, #[]⟩,
  ⟨.type "tuple", none, .seq #[] 0, #[]⟩,
  ⟨.none, none, .fields #[], #[]⟩,
  ⟨.type "tuple", none, .seq #[.str "reading" 2181, .str "lexeme" 2182] 0, #[]⟩,
  ⟨.type "tuple", none, .seq #[] 0, #[]⟩,
  ⟨.none, none, fd (tp 125) "keep_place" "keep_place" 0 .none .none .none 0, #[]⟩,
  ⟨.type "code", none, .fields #[.str "keep_place" 2178, .str "keep_place" 2179, .str "/claim/cut.py" 2180, .int 1060 0, .int 2 0, .int 0 0, .int 0 0, .int 3 0, .ref 1247, .bool true, .int 181 0, .ref 1248, .none, .ref 1249, .ref 1250, .ref 1251, .int 2183 0, .int 1060 0, .str "/claim/cut.py" 2184], #[]⟩,
  ⟨.type "function", none, fd (tp 125) "keep_place" "keep_place" 3 .none (.str "slumberway.building" 2064) (.ref 1252) 0, #[]⟩,
  ⟨.type "tuple", none, .seq #[] 0, #[]⟩,
  ⟨.none, none, .fields #[], #[]⟩,
  ⟨.type "tuple", none, .seq #[.str "reading" 2189, .str "lexeme" 2190] 0, #[]⟩,
  ⟨.type "tuple", none, .seq #[] 0, #[]⟩,
  ⟨.none, none, fd (tp 126) "begin_equation" "begin_equation" 0 .none .none .none 0, #[]⟩,
  ⟨.type "code", none, .fields #[.str "begin_equation" 2186, .str "begin_equation" 2187, .str "/claim/cut.py" 2188, .int 1062 0, .int 2 0, .int 0 0, .int 0 0, .int 3 0, .ref 1254, .bool true, .int 181 0, .ref 1255, .none, .ref 1256, .ref 1257, .ref 1258, .int 2191 0, .int 1062 0, .str "/claim/cut.py" 2192], #[]⟩]
def ob_21 (w : World) : List Obj := [
  ⟨.type "function", none, fd (tp 126) "begin_equation" "begin_equation" 3 .none (.str "slumberway.building" 2064) (.ref 1259) 0, #[]⟩,
  ⟨.type "tuple", none, .seq #[] 0, #[]⟩,
  ⟨.none, none, .fields #[], #[]⟩,
  ⟨.type "tuple", none, .seq #[.str "reading" 2197, .str "lexeme" 2198] 0, #[]⟩,
  ⟨.type "tuple", none, .seq #[] 0, #[]⟩,
  ⟨.none, none, fd (tp 127) "begin_choice" "begin_choice" 0 .none .none .none 0, #[]⟩,
  ⟨.type "code", none, .fields #[.str "begin_choice" 2194, .str "begin_choice" 2195, .str "/claim/cut.py" 2196, .int 1064 0, .int 2 0, .int 0 0, .int 0 0, .int 3 0, .ref 1261, .bool true, .int 181 0, .ref 1262, .none, .ref 1263, .ref 1264, .ref 1265, .int 2199 0, .int 1064 0, .str "/claim/cut.py" 2200], #[]⟩,
  ⟨.type "function", none, fd (tp 127) "begin_choice" "begin_choice" 3 .none (.str "slumberway.building" 2064) (.ref 1266) 0, #[]⟩,
  ⟨.type "tuple", none, .seq #[] 0, #[]⟩,
  ⟨.none, none, .fields #[], #[]⟩,
  ⟨.type "tuple", none, .seq #[.str "reading" 2205, .str "lexeme" 2206] 0, #[]⟩,
  ⟨.type "tuple", none, .seq #[] 0, #[]⟩,
  ⟨.none, none, fd (tp 128) "keep_any" "keep_any" 0 .none .none .none 0, #[]⟩,
  ⟨.type "code", none, .fields #[.str "keep_any" 2202, .str "keep_any" 2203, .str "/claim/cut.py" 2204, .int 1066 0, .int 2 0, .int 0 0, .int 0 0, .int 3 0, .ref 1268, .bool true, .int 181 0, .ref 1269, .none, .ref 1270, .ref 1271, .ref 1272, .int 2207 0, .int 1066 0, .str "/claim/cut.py" 2208], #[]⟩,
  ⟨.type "function", none, fd (tp 128) "keep_any" "keep_any" 3 .none (.str "slumberway.building" 2064) (.ref 1273) 0, #[]⟩,
  ⟨.type "tuple", none, .seq #[] 0, #[]⟩,
  ⟨.none, none, .fields #[], #[]⟩,
  ⟨.type "tuple", none, .seq #[.str "reading" 2213, .str "lexeme" 2214] 0, #[]⟩,
  ⟨.type "tuple", none, .seq #[] 0, #[]⟩,
  ⟨.none, none, fd (tp 129) "keep_bind" "keep_bind" 0 .none .none .none 0, #[]⟩,
  ⟨.type "code", none, .fields #[.str "keep_bind" 2210, .str "keep_bind" 2211, .str "/claim/cut.py" 2212, .int 1068 0, .int 2 0, .int 0 0, .int 0 0, .int 3 0, .ref 1275, .bool true, .int 181 0, .ref 1276, .none, .ref 1277, .ref 1278, .ref 1279, .int 2215 0, .int 1068 0, .str "/claim/cut.py" 2216], #[]⟩,
  ⟨.type "function", none, fd (tp 129) "keep_bind" "keep_bind" 3 .none (.str "slumberway.building" 2064) (.ref 1280) 0, #[]⟩,
  ⟨.type "tuple", none, .seq #[] 0, #[]⟩,
  ⟨.none, none, .fields #[], #[]⟩,
  ⟨.type "tuple", none, .seq #[.str "reading" 2221, .str "lexeme" 2222] 0, #[]⟩,
  ⟨.type "tuple", none, .seq #[] 0, #[]⟩,
  ⟨.none, none, fd (tp 130) "keep_number" "keep_number" 0 .none .none .none 0, #[]⟩,
  ⟨.type "code", none, .fields #[.str "keep_number" 2218, .str "keep_number" 2219, .str "/claim/cut.py" 2220, .int 1070 0, .int 2 0, .int 0 0, .int 0 0, .int 3 0, .ref 1282, .bool true, .int 181 0, .ref 1283, .none, .ref 1284, .ref 1285, .ref 1286, .int 2223 0, .int 1070 0, .str "/claim/cut.py" 2224], #[]⟩,
  ⟨.type "function", none, fd (tp 130) "keep_number" "keep_number" 3 .none (.str "slumberway.building" 2064) (.ref 1287) 0, #[]⟩,
  ⟨.type "tuple", none, .seq #[] 0, #[]⟩,
  ⟨.none, none, .fields #[], #[]⟩,
  ⟨.type "tuple", none, .seq #[.str "reading" 2229, .str "lexeme" 2230] 0, #[]⟩,
  ⟨.type "tuple", none, .seq #[] 0, #[]⟩,
  ⟨.none, none, fd (tp 131) "keep_bare_made" "keep_bare_made" 0 .none .none .none 0, #[]⟩,
  ⟨.type "code", none, .fields #[.str "keep_bare_made" 2226, .str "keep_bare_made" 2227, .str "/claim/cut.py" 2228, .int 1072 0, .int 2 0, .int 0 0, .int 0 0, .int 3 0, .ref 1289, .bool true, .int 181 0, .ref 1290, .none, .ref 1291, .ref 1292, .ref 1293, .int 2231 0, .int 1072 0, .str "/claim/cut.py" 2232], #[]⟩,
  ⟨.type "function", none, fd (tp 131) "keep_bare_made" "keep_bare_made" 3 .none (.str "slumberway.building" 2064) (.ref 1294) 0, #[]⟩,
  ⟨.type "tuple", none, .seq #[] 0, #[]⟩,
  ⟨.none, none, .fields #[], #[]⟩,
  ⟨.type "tuple", none, .seq #[.str "reading" 2237, .str "lexeme" 2238] 0, #[]⟩,
  ⟨.type "tuple", none, .seq #[] 0, #[]⟩,
  ⟨.none, none, fd (tp 132) "begin_pattern" "begin_pattern" 0 .none .none .none 0, #[]⟩,
  ⟨.type "code", none, .fields #[.str "begin_pattern" 2234, .str "begin_pattern" 2235, .str "/claim/cut.py" 2236, .int 1074 0, .int 2 0, .int 0 0, .int 0 0, .int 3 0, .ref 1296, .bool true, .int 181 0, .ref 1297, .none, .ref 1298, .ref 1299, .ref 1300, .int 2239 0, .int 1074 0, .str "/claim/cut.py" 2240], #[]⟩,
  ⟨.type "function", none, fd (tp 132) "begin_pattern" "begin_pattern" 3 .none (.str "slumberway.building" 2064) (.ref 1301) 0, #[]⟩,
  ⟨.type "tuple", none, .seq #[] 0, #[]⟩,
  ⟨.none, none, .fields #[], #[]⟩,
  ⟨.type "tuple", none, .seq #[.str "reading" 2245, .str "lexeme" 2246] 0, #[]⟩,
  ⟨.type "tuple", none, .seq #[] 0, #[]⟩,
  ⟨.none, none, fd (tp 133) "begin_pattern_parts" "begin_pattern_parts" 0 .none .none .none 0, #[]⟩,
  ⟨.type "code", none, .fields #[.str "begin_pattern_parts" 2242, .str "begin_pattern_parts" 2243, .str "/claim/cut.py" 2244, .int 1076 0, .int 2 0, .int 0 0, .int 0 0, .int 3 0, .ref 1303, .bool true, .int 181 0, .ref 1304, .none, .ref 1305, .ref 1306, .ref 1307, .int 2247 0, .int 1076 0, .str "/claim/cut.py" 2248], #[]⟩,
  ⟨.type "function", none, fd (tp 133) "begin_pattern_parts" "begin_pattern_parts" 3 .none (.str "slumberway.building" 2064) (.ref 1308) 0, #[]⟩,
  ⟨.type "tuple", none, .seq #[] 0, #[]⟩,
  ⟨.none, none, .fields #[], #[]⟩,
  ⟨.type "tuple", none, .seq #[.str "reading" 2253, .str "lexeme" 2254] 0, #[]⟩,
  ⟨.type "tuple", none, .seq #[] 0, #[]⟩,
  ⟨.none, none, fd (tp 134) "choose_any" "choose_any" 0 .none .none .none 0, #[]⟩,
  ⟨.type "code", none, .fields #[.str "choose_any" 2250, .str "choose_any" 2251, .str "/claim/cut.py" 2252, .int 1078 0, .int 2 0, .int 0 0, .int 0 0, .int 3 0, .ref 1310, .bool true, .int 181 0, .ref 1311, .none, .ref 1312, .ref 1313, .ref 1314, .int 2255 0, .int 1078 0, .str "/claim/cut.py" 2256], #[]⟩,
  ⟨.type "function", none, fd (tp 134) "choose_any" "choose_any" 3 .none (.str "slumberway.building" 2064) (.ref 1315) 0, #[]⟩,
  ⟨.type "tuple", none, .seq #[] 0, #[]⟩,
  ⟨.none, none, .fields #[], #[]⟩,
  ⟨.type "tuple", none, .seq #[.str "reading" 2261, .str "lexeme" 2262] 0, #[]⟩]
def ob_22 (w : World) : List Obj := [
  ⟨.type "tuple", none, .seq #[] 0, #[]⟩,
  ⟨.none, none, fd (tp 135) "choose_bind" "choose_bind" 0 .none .none .none 0, #[]⟩,
  ⟨.type "code", none, .fields #[.str "choose_bind" 2258, .str "choose_bind" 2259, .str "/claim/cut.py" 2260, .int 1080 0, .int 2 0, .int 0 0, .int 0 0, .int 3 0, .ref 1317, .bool true, .int 181 0, .ref 1318, .none, .ref 1319, .ref 1320, .ref 1321, .int 2263 0, .int 1080 0, .str "/claim/cut.py" 2264], #[]⟩,
  ⟨.type "function", none, fd (tp 135) "choose_bind" "choose_bind" 3 .none (.str "slumberway.building" 2064) (.ref 1322) 0, #[]⟩,
  ⟨.type "tuple", none, .seq #[] 0, #[]⟩,
  ⟨.none, none, .fields #[], #[]⟩,
  ⟨.type "tuple", none, .seq #[.str "reading" 2269, .str "lexeme" 2270] 0, #[]⟩,
  ⟨.type "tuple", none, .seq #[] 0, #[]⟩,
  ⟨.none, none, fd (tp 136) "choose_number" "choose_number" 0 .none .none .none 0, #[]⟩,
  ⟨.type "code", none, .fields #[.str "choose_number" 2266, .str "choose_number" 2267, .str "/claim/cut.py" 2268, .int 1082 0, .int 2 0, .int 0 0, .int 0 0, .int 3 0, .ref 1324, .bool true, .int 181 0, .ref 1325, .none, .ref 1326, .ref 1327, .ref 1328, .int 2271 0, .int 1082 0, .str "/claim/cut.py" 2272], #[]⟩,
  ⟨.type "function", none, fd (tp 136) "choose_number" "choose_number" 3 .none (.str "slumberway.building" 2064) (.ref 1329) 0, #[]⟩,
  ⟨.type "tuple", none, .seq #[] 0, #[]⟩,
  ⟨.none, none, .fields #[], #[]⟩,
  ⟨.type "tuple", none, .seq #[.str "reading" 2277, .str "lexeme" 2278] 0, #[]⟩,
  ⟨.type "tuple", none, .seq #[] 0, #[]⟩,
  ⟨.none, none, fd (tp 137) "choose_made" "choose_made" 0 .none .none .none 0, #[]⟩,
  ⟨.type "code", none, .fields #[.str "choose_made" 2274, .str "choose_made" 2275, .str "/claim/cut.py" 2276, .int 1084 0, .int 2 0, .int 0 0, .int 0 0, .int 3 0, .ref 1331, .bool true, .int 181 0, .ref 1332, .none, .ref 1333, .ref 1334, .ref 1335, .int 2279 0, .int 1084 0, .str "/claim/cut.py" 2280], #[]⟩,
  ⟨.type "function", none, fd (tp 137) "choose_made" "choose_made" 3 .none (.str "slumberway.building" 2064) (.ref 1336) 0, #[]⟩,
  ⟨.type "tuple", none, .seq #[] 0, #[]⟩,
  ⟨.none, none, .fields #[], #[]⟩,
  ⟨.type "tuple", none, .seq #[.str "reading" 2285, .str "lexeme" 2286] 0, #[]⟩,
  ⟨.type "tuple", none, .seq #[] 0, #[]⟩,
  ⟨.none, none, fd (tp 138) "choose_bracket" "choose_bracket" 0 .none .none .none 0, #[]⟩,
  ⟨.type "code", none, .fields #[.str "choose_bracket" 2282, .str "choose_bracket" 2283, .str "/claim/cut.py" 2284, .int 1087 0, .int 2 0, .int 0 0, .int 0 0, .int 3 0, .ref 1338, .bool true, .int 181 0, .ref 1339, .none, .ref 1340, .ref 1341, .ref 1342, .int 2287 0, .int 1087 0, .str "/claim/cut.py" 2288], #[]⟩,
  ⟨.type "function", none, fd (tp 138) "choose_bracket" "choose_bracket" 3 .none (.str "slumberway.building" 2064) (.ref 1343) 0, #[]⟩,
  ⟨.type "tuple", none, .seq #[] 0, #[]⟩,
  ⟨.none, none, .fields #[], #[]⟩,
  ⟨.type "tuple", none, .seq #[.str "reading" 2293, .str "lexeme" 2294] 0, #[]⟩,
  ⟨.type "tuple", none, .seq #[] 0, #[]⟩,
  ⟨.none, none, fd (tp 139) "begin_sides" "begin_sides" 0 .none .none .none 0, #[]⟩,
  ⟨.type "code", none, .fields #[.str "begin_sides" 2290, .str "begin_sides" 2291, .str "/claim/cut.py" 2292, .int 1090 0, .int 2 0, .int 0 0, .int 0 0, .int 3 0, .ref 1345, .bool true, .int 181 0, .ref 1346, .none, .ref 1347, .ref 1348, .ref 1349, .int 2295 0, .int 1090 0, .str "/claim/cut.py" 2296], #[]⟩,
  ⟨.type "function", none, fd (tp 139) "begin_sides" "begin_sides" 3 .none (.str "slumberway.building" 2064) (.ref 1350) 0, #[]⟩,
  ⟨.type "tuple", none, .seq #[] 0, #[]⟩,
  ⟨.none, none, .fields #[], #[]⟩,
  ⟨.type "tuple", none, .seq #[.str "reading" 2301, .str "lexeme" 2302] 0, #[]⟩,
  ⟨.type "tuple", none, .seq #[] 0, #[]⟩,
  ⟨.none, none, fd (tp 140) "begin_expr" "begin_expr" 0 .none .none .none 0, #[]⟩,
  ⟨.type "code", none, .fields #[.str "begin_expr" 2298, .str "begin_expr" 2299, .str "/claim/cut.py" 2300, .int 1093 0, .int 2 0, .int 0 0, .int 0 0, .int 3 0, .ref 1352, .bool true, .int 181 0, .ref 1353, .none, .ref 1354, .ref 1355, .ref 1356, .int 2303 0, .int 1093 0, .str "/claim/cut.py" 2304], #[]⟩,
  ⟨.type "function", none, fd (tp 140) "begin_expr" "begin_expr" 3 .none (.str "slumberway.building" 2064) (.ref 1357) 0, #[]⟩,
  ⟨.type "tuple", none, .seq #[] 0, #[]⟩,
  ⟨.none, none, .fields #[], #[]⟩,
  ⟨.type "tuple", none, .seq #[.str "reading" 2309, .str "lexeme" 2310] 0, #[]⟩,
  ⟨.type "tuple", none, .seq #[] 0, #[]⟩,
  ⟨.none, none, fd (tp 141) "begin_asking" "begin_asking" 0 .none .none .none 0, #[]⟩,
  ⟨.type "code", none, .fields #[.str "begin_asking" 2306, .str "begin_asking" 2307, .str "/claim/cut.py" 2308, .int 1095 0, .int 2 0, .int 0 0, .int 0 0, .int 3 0, .ref 1359, .bool true, .int 181 0, .ref 1360, .none, .ref 1361, .ref 1362, .ref 1363, .int 2311 0, .int 1095 0, .str "/claim/cut.py" 2312], #[]⟩,
  ⟨.type "function", none, fd (tp 141) "begin_asking" "begin_asking" 3 .none (.str "slumberway.building" 2064) (.ref 1364) 0, #[]⟩,
  ⟨.type "tuple", none, .seq #[] 0, #[]⟩,
  ⟨.none, none, .fields #[], #[]⟩,
  ⟨.type "tuple", none, .seq #[.str "reading" 2317, .str "lexeme" 2318, .str "place" 2319, .str "sort" 2320, .str "word" 2321] 0, #[]⟩,
  ⟨.type "tuple", none, .seq #[] 0, #[]⟩,
  ⟨.none, none, fd (tp 142) "first_atom" "first_atom" 0 .none .none .none 0, #[]⟩,
  ⟨.type "code", none, .fields #[.str "first_atom" 2314, .str "first_atom" 2315, .str "/claim/cut.py" 2316, .int 1098 0, .int 2 0, .int 0 0, .int 0 0, .int 3 0, .ref 1366, .bool true, .int 181 0, .ref 1367, .none, .ref 1368, .ref 1369, .ref 1370, .int 2322 0, .int 1098 0, .str "/claim/cut.py" 2323], #[]⟩,
  ⟨.type "function", none, fd (tp 142) "first_atom" "first_atom" 3 .none (.str "slumberway.building" 2064) (.ref 1371) 0, #[]⟩,
  ⟨.type "tuple", none, .seq #[] 0, #[]⟩,
  ⟨.none, none, .fields #[], #[]⟩,
  ⟨.type "tuple", none, .seq #[.str "reading" 2328, .str "lexeme" 2329] 0, #[]⟩,
  ⟨.type "tuple", none, .seq #[] 0, #[]⟩,
  ⟨.none, none, fd (tp 143) "first_number" "first_number" 0 .none .none .none 0, #[]⟩,
  ⟨.type "code", none, .fields #[.str "first_number" 2325, .str "first_number" 2326, .str "/claim/cut.py" 2327, .int 1101 0, .int 2 0, .int 0 0, .int 0 0, .int 3 0, .ref 1373, .bool true, .int 181 0, .ref 1374, .none, .ref 1375, .ref 1376, .ref 1377, .int 2330 0, .int 1101 0, .str "/claim/cut.py" 2331], #[]⟩,
  ⟨.type "function", none, fd (tp 143) "first_number" "first_number" 3 .none (.str "slumberway.building" 2064) (.ref 1378) 0, #[]⟩]
def ob_23 (w : World) : List Obj := [
  ⟨.type "tuple", none, .seq #[] 0, #[]⟩,
  ⟨.none, none, .fields #[], #[]⟩,
  ⟨.type "tuple", none, .seq #[.str "reading" 2336, .str "lexeme" 2337] 0, #[]⟩,
  ⟨.type "tuple", none, .seq #[] 0, #[]⟩,
  ⟨.none, none, fd (tp 144) "first_bracket" "first_bracket" 0 .none .none .none 0, #[]⟩,
  ⟨.type "code", none, .fields #[.str "first_bracket" 2333, .str "first_bracket" 2334, .str "/claim/cut.py" 2335, .int 1103 0, .int 2 0, .int 0 0, .int 0 0, .int 3 0, .ref 1380, .bool true, .int 181 0, .ref 1381, .none, .ref 1382, .ref 1383, .ref 1384, .int 2338 0, .int 1103 0, .str "/claim/cut.py" 2339], #[]⟩,
  ⟨.type "function", none, fd (tp 144) "first_bracket" "first_bracket" 3 .none (.str "slumberway.building" 2064) (.ref 1385) 0, #[]⟩,
  ⟨.type "tuple", none, .seq #[] 0, #[]⟩,
  ⟨.none, none, .fields #[], #[]⟩,
  ⟨.type "tuple", none, .seq #[.str "reading" 2344, .str "lexeme" 2345, .str "place" 2346, .str "sort" 2347, .str "word" 2348] 0, #[]⟩,
  ⟨.type "tuple", none, .seq #[] 0, #[]⟩,
  ⟨.none, none, fd (tp 145) "keep_atom" "keep_atom" 0 .none .none .none 0, #[]⟩,
  ⟨.type "code", none, .fields #[.str "keep_atom" 2341, .str "keep_atom" 2342, .str "/claim/cut.py" 2343, .int 1106 0, .int 2 0, .int 0 0, .int 0 0, .int 3 0, .ref 1387, .bool true, .int 181 0, .ref 1388, .none, .ref 1389, .ref 1390, .ref 1391, .int 2349 0, .int 1106 0, .str "/claim/cut.py" 2350], #[]⟩,
  ⟨.type "function", none, fd (tp 145) "keep_atom" "keep_atom" 3 .none (.str "slumberway.building" 2064) (.ref 1392) 0, #[]⟩,
  ⟨.type "tuple", none, .seq #[] 0, #[]⟩,
  ⟨.none, none, .fields #[], #[]⟩,
  ⟨.type "tuple", none, .seq #[.str "reading" 2355, .str "lexeme" 2356, .str "place" 2357, .str "sort" 2358, .str "word" 2359] 0, #[]⟩,
  ⟨.type "tuple", none, .seq #[] 0, #[]⟩,
  ⟨.none, none, fd (tp 146) "operand_atom" "operand_atom" 0 .none .none .none 0, #[]⟩,
  ⟨.type "code", none, .fields #[.str "operand_atom" 2352, .str "operand_atom" 2353, .str "/claim/cut.py" 2354, .int 1109 0, .int 2 0, .int 0 0, .int 0 0, .int 3 0, .ref 1394, .bool true, .int 181 0, .ref 1395, .none, .ref 1396, .ref 1397, .ref 1398, .int 2360 0, .int 1109 0, .str "/claim/cut.py" 2361], #[]⟩,
  ⟨.type "function", none, fd (tp 146) "operand_atom" "operand_atom" 3 .none (.str "slumberway.building" 2064) (.ref 1399) 0, #[]⟩,
  ⟨.type "tuple", none, .seq #[] 0, #[]⟩,
  ⟨.none, none, .fields #[], #[]⟩,
  ⟨.type "tuple", none, .seq #[.str "reading" 2366, .str "lexeme" 2367] 0, #[]⟩,
  ⟨.type "tuple", none, .seq #[] 0, #[]⟩,
  ⟨.none, none, fd (tp 147) "operand_number" "operand_number" 0 .none .none .none 0, #[]⟩,
  ⟨.type "code", none, .fields #[.str "operand_number" 2363, .str "operand_number" 2364, .str "/claim/cut.py" 2365, .int 1112 0, .int 2 0, .int 0 0, .int 0 0, .int 3 0, .ref 1401, .bool true, .int 181 0, .ref 1402, .none, .ref 1403, .ref 1404, .ref 1405, .int 2368 0, .int 1112 0, .str "/claim/cut.py" 2369], #[]⟩,
  ⟨.type "function", none, fd (tp 147) "operand_number" "operand_number" 3 .none (.str "slumberway.building" 2064) (.ref 1406) 0, #[]⟩,
  ⟨.type "tuple", none, .seq #[] 0, #[]⟩,
  ⟨.none, none, .fields #[], #[]⟩,
  ⟨.type "tuple", none, .seq #[.str "reading" 2374, .str "lexeme" 2375] 0, #[]⟩,
  ⟨.type "tuple", none, .seq #[] 0, #[]⟩,
  ⟨.none, none, fd (tp 148) "operand_bracket" "operand_bracket" 0 .none .none .none 0, #[]⟩,
  ⟨.type "code", none, .fields #[.str "operand_bracket" 2371, .str "operand_bracket" 2372, .str "/claim/cut.py" 2373, .int 1114 0, .int 2 0, .int 0 0, .int 0 0, .int 3 0, .ref 1408, .bool true, .int 181 0, .ref 1409, .none, .ref 1410, .ref 1411, .ref 1412, .int 2376 0, .int 1114 0, .str "/claim/cut.py" 2377], #[]⟩,
  ⟨.type "function", none, fd (tp 148) "operand_bracket" "operand_bracket" 3 .none (.str "slumberway.building" 2064) (.ref 1413) 0, #[]⟩,
  ⟨.type "tuple", none, .seq #[] 0, #[]⟩,
  ⟨.none, none, .fields #[], #[]⟩,
  ⟨.type "tuple", none, .seq #[.str "reading" 2382, .str "lexeme" 2383, .str "place" 2384, .str "_" 2385, .str "sign" 2386, .str "data" 2387, .str "ops" 2388, .str "told" 2389, .str "left" 2390, .str "at" 2391, .str "word" 2392] 0, #[]⟩,
  ⟨.type "tuple", none, .seq #[] 0, #[]⟩,
  ⟨.none, none, fd (tp 149) "keep_sign" "keep_sign" 0 .none .none .none 0, #[]⟩,
  ⟨.type "code", none, .fields #[.str "keep_sign" 2379, .str "keep_sign" 2380, .str "/claim/cut.py" 2381, .int 1117 0, .int 2 0, .int 0 0, .int 0 0, .int 3 0, .ref 1415, .bool true, .int 181 0, .ref 1416, .none, .ref 1417, .ref 1418, .ref 1419, .int 2393 0, .int 1117 0, .str "/claim/cut.py" 2394], #[]⟩,
  ⟨.type "function", none, fd (tp 149) "keep_sign" "keep_sign" 3 .none (.str "slumberway.building" 2064) (.ref 1420) 0, #[]⟩,
  ⟨.type "tuple", none, .seq #[] 0, #[]⟩,
  ⟨.none, none, .fields #[], #[]⟩,
  ⟨.type "tuple", none, .seq #[.str "data" 2399] 0, #[]⟩,
  ⟨.type "tuple", none, .seq #[] 0, #[]⟩,
  ⟨.none, none, fd (tp 150) "call_of" "call_of" 0 .none .none .none 0, #[]⟩,
  ⟨.type "code", none, .fields #[.str "call_of" 2396, .str "call_of" 2397, .str "/claim/cut.py" 2398, .int 1127 0, .int 1 0, .int 0 0, .int 0 0, .int 3 0, .ref 1422, .bool true, .int 181 0, .ref 1423, .none, .ref 1424, .ref 1425, .ref 1426, .int 2400 0, .int 1127 0, .str "/claim/cut.py" 2401], #[]⟩,
  ⟨.type "function", none, fd (tp 150) "call_of" "call_of" 3 .none (.str "slumberway.building" 2064) (.ref 1427) 0, #[]⟩,
  ⟨.type "tuple", none, .seq #[] 0, #[]⟩,
  ⟨.none, none, .fields #[], #[]⟩,
  ⟨.type "tuple", none, .seq #[.str "data" 2406, .str "told" 2407, .str "left" 2408, .str "at" 2409, .str "word" 2410] 0, #[]⟩,
  ⟨.type "tuple", none, .seq #[] 0, #[]⟩,
  ⟨.none, none, fd (tp 151) "close_expr" "close_expr" 0 .none .none .none 0, #[]⟩,
  ⟨.type "code", none, .fields #[.str "close_expr" 2403, .str "close_expr" 2404, .str "/claim/cut.py" 2405, .int 1131 0, .int 1 0, .int 0 0, .int 0 0, .int 3 0, .ref 1429, .bool true, .int 181 0, .ref 1430, .none, .ref 1431, .ref 1432, .ref 1433, .int 2411 0, .int 1131 0, .str "/claim/cut.py" 2412], #[]⟩,
  ⟨.type "function", none, fd (tp 151) "close_expr" "close_expr" 3 .none (.str "slumberway.building" 2064) (.ref 1434) 0, #[]⟩,
  ⟨.type "tuple", none, .seq #[] 0, #[]⟩,
  ⟨.none, none, .fields #[], #[]⟩,
  ⟨.type "tuple", none, .seq #[.str "data" 2417] 0, #[]⟩,
  ⟨.type "tuple", none, .seq #[] 0, #[]⟩]
def ob_24 (w : World) : List Obj := [
  ⟨.none, none, fd (tp 152) "close_data" "close_data" 0 .none .none .none 0, #[]⟩,
  ⟨.type "code", none, .fields #[.str "close_data" 2414, .str "close_data" 2415, .str "/claim/cut.py" 2416, .int 1136 0, .int 1 0, .int 0 0, .int 0 0, .int 3 0, .ref 1436, .bool true, .int 181 0, .ref 1437, .none, .ref 1438, .ref 1439, .ref 1440, .int 2418 0, .int 1136 0, .str "/claim/cut.py" 2419], #[]⟩,
  ⟨.type "function", none, fd (tp 152) "close_data" "close_data" 3 .none (.str "slumberway.building" 2064) (.ref 1441) 0, #[]⟩,
  ⟨.type "tuple", none, .seq #[] 0, #[]⟩,
  ⟨.none, none, .fields #[], #[]⟩,
  ⟨.type "tuple", none, .seq #[.str "data" 2424] 0, #[]⟩,
  ⟨.type "tuple", none, .seq #[] 0, #[]⟩,
  ⟨.none, none, fd (tp 153) "close_made" "close_made" 0 .none .none .none 0, #[]⟩,
  ⟨.type "code", none, .fields #[.str "close_made" 2421, .str "close_made" 2422, .str "/claim/cut.py" 2423, .int 1138 0, .int 1 0, .int 0 0, .int 0 0, .int 3 0, .ref 1443, .bool true, .int 181 0, .ref 1444, .none, .ref 1445, .ref 1446, .ref 1447, .int 2425 0, .int 1138 0, .str "/claim/cut.py" 2426], #[]⟩,
  ⟨.type "function", none, fd (tp 153) "close_made" "close_made" 3 .none (.str "slumberway.building" 2064) (.ref 1448) 0, #[]⟩,
  ⟨.type "tuple", none, .seq #[] 0, #[]⟩,
  ⟨.none, none, .fields #[], #[]⟩,
  ⟨.type "tuple", none, .seq #[.str "data" 2431, .str "told" 2432, .str "at" 2433] 0, #[]⟩,
  ⟨.type "tuple", none, .seq #[] 0, #[]⟩,
  ⟨.none, none, fd (tp 154) "close_kind" "close_kind" 0 .none .none .none 0, #[]⟩,
  ⟨.type "code", none, .fields #[.str "close_kind" 2428, .str "close_kind" 2429, .str "/claim/cut.py" 2430, .int 1140 0, .int 1 0, .int 0 0, .int 0 0, .int 3 0, .ref 1450, .bool true, .int 181 0, .ref 1451, .none, .ref 1452, .ref 1453, .ref 1454, .int 2434 0, .int 1140 0, .str "/claim/cut.py" 2435], #[]⟩,
  ⟨.type "function", none, fd (tp 154) "close_kind" "close_kind" 3 .none (.str "slumberway.building" 2064) (.ref 1455) 0, #[]⟩,
  ⟨.type "tuple", none, .seq #[] 0, #[]⟩,
  ⟨.none, none, .fields #[], #[]⟩,
  ⟨.type "tuple", none, .seq #[.str "data" 2440] 0, #[]⟩,
  ⟨.type "tuple", none, .seq #[] 0, #[]⟩,
  ⟨.none, none, fd (tp 155) "close_kind_parts" "close_kind_parts" 0 .none .none .none 0, #[]⟩,
  ⟨.type "code", none, .fields #[.str "close_kind_parts" 2437, .str "close_kind_parts" 2438, .str "/claim/cut.py" 2439, .int 1145 0, .int 1 0, .int 0 0, .int 0 0, .int 3 0, .ref 1457, .bool true, .int 181 0, .ref 1458, .none, .ref 1459, .ref 1460, .ref 1461, .int 2441 0, .int 1145 0, .str "/claim/cut.py" 2442], #[]⟩,
  ⟨.type "function", none, fd (tp 155) "close_kind_parts" "close_kind_parts" 3 .none (.str "slumberway.building" 2064) (.ref 1462) 0, #[]⟩,
  ⟨.type "tuple", none, .seq #[] 0, #[]⟩,
  ⟨.none, none, .fields #[], #[]⟩,
  ⟨.type "tuple", none, .seq #[.str "data" 2447] 0, #[]⟩,
  ⟨.type "tuple", none, .seq #[] 0, #[]⟩,
  ⟨.none, none, fd (tp 156) "close_pattern" "close_pattern" 0 .none .none .none 0, #[]⟩,
  ⟨.type "code", none, .fields #[.str "close_pattern" 2444, .str "close_pattern" 2445, .str "/claim/cut.py" 2446, .int 1147 0, .int 1 0, .int 0 0, .int 0 0, .int 3 0, .ref 1464, .bool true, .int 181 0, .ref 1465, .none, .ref 1466, .ref 1467, .ref 1468, .int 2448 0, .int 1147 0, .str "/claim/cut.py" 2449], #[]⟩,
  ⟨.type "function", none, fd (tp 156) "close_pattern" "close_pattern" 3 .none (.str "slumberway.building" 2064) (.ref 1469) 0, #[]⟩,
  ⟨.type "tuple", none, .seq #[] 0, #[]⟩,
  ⟨.none, none, .fields #[], #[]⟩,
  ⟨.type "tuple", none, .seq #[.str "data" 2454] 0, #[]⟩,
  ⟨.type "tuple", none, .seq #[] 0, #[]⟩,
  ⟨.none, none, fd (tp 157) "close_pattern_parts" "close_pattern_parts" 0 .none .none .none 0, #[]⟩,
  ⟨.type "code", none, .fields #[.str "close_pattern_parts" 2451, .str "close_pattern_parts" 2452, .str "/claim/cut.py" 2453, .int 1149 0, .int 1 0, .int 0 0, .int 0 0, .int 3 0, .ref 1471, .bool true, .int 181 0, .ref 1472, .none, .ref 1473, .ref 1474, .ref 1475, .int 2455 0, .int 1149 0, .str "/claim/cut.py" 2456], #[]⟩,
  ⟨.type "function", none, fd (tp 157) "close_pattern_parts" "close_pattern_parts" 3 .none (.str "slumberway.building" 2064) (.ref 1476) 0, #[]⟩,
  ⟨.type "tuple", none, .seq #[] 0, #[]⟩,
  ⟨.none, none, .fields #[], #[]⟩,
  ⟨.type "tuple", none, .seq #[.str "data" 2461] 0, #[]⟩,
  ⟨.type "tuple", none, .seq #[] 0, #[]⟩,
  ⟨.none, none, fd (tp 158) "close_equation" "close_equation" 0 .none .none .none 0, #[]⟩,
  ⟨.type "code", none, .fields #[.str "close_equation" 2458, .str "close_equation" 2459, .str "/claim/cut.py" 2460, .int 1151 0, .int 1 0, .int 0 0, .int 0 0, .int 3 0, .ref 1478, .bool true, .int 181 0, .ref 1479, .none, .ref 1480, .ref 1481, .ref 1482, .int 2462 0, .int 1151 0, .str "/claim/cut.py" 2463], #[]⟩,
  ⟨.type "function", none, fd (tp 158) "close_equation" "close_equation" 3 .none (.str "slumberway.building" 2064) (.ref 1483) 0, #[]⟩,
  ⟨.type "tuple", none, .seq #[] 0, #[]⟩,
  ⟨.none, none, .fields #[], #[]⟩,
  ⟨.type "tuple", none, .seq #[.str "data" 2468] 0, #[]⟩,
  ⟨.type "tuple", none, .seq #[] 0, #[]⟩,
  ⟨.none, none, fd (tp 159) "close_guarded_equation" "close_guarded_equation" 0 .none .none .none 0, #[]⟩,
  ⟨.type "code", none, .fields #[.str "close_guarded_equation" 2465, .str "close_guarded_equation" 2466, .str "/claim/cut.py" 2467, .int 1153 0, .int 1 0, .int 0 0, .int 0 0, .int 3 0, .ref 1485, .bool true, .int 181 0, .ref 1486, .none, .ref 1487, .ref 1488, .ref 1489, .int 2469 0, .int 1153 0, .str "/claim/cut.py" 2470], #[]⟩,
  ⟨.type "function", none, fd (tp 159) "close_guarded_equation" "close_guarded_equation" 3 .none (.str "slumberway.building" 2064) (.ref 1490) 0, #[]⟩,
  ⟨.type "tuple", none, .seq #[] 0, #[]⟩,
  ⟨.none, none, .fields #[], #[]⟩,
  ⟨.type "tuple", none, .seq #[.str "data" 2475] 0, #[]⟩,
  ⟨.type "tuple", none, .seq #[] 0, #[]⟩,
  ⟨.none, none, fd (tp 160) "close_choice" "close_choice" 0 .none .none .none 0, #[]⟩,
  ⟨.type "code", none, .fields #[.str "close_choice" 2472, .str "close_choice" 2473, .str "/claim/cut.py" 2474, .int 1155 0, .int 1 0, .int 0 0, .int 0 0, .int 3 0, .ref 1492, .bool true, .int 181 0, .ref 1493, .none, .ref 1494, .ref 1495, .ref 1496, .int 2476 0, .int 1155 0, .str "/claim/cut.py" 2477], #[]⟩,
  ⟨.type "function", none, fd (tp 160) "close_choice" "close_choice" 3 .none (.str "slumberway.building" 2064) (.ref 1497) 0, #[]⟩,
  ⟨.type "tuple", none, .seq #[] 0, #[]⟩]
def ob_25 (w : World) : List Obj := [
  ⟨.none, none, .fields #[], #[]⟩,
  ⟨.type "tuple", none, .seq #[.str "data" 2482] 0, #[]⟩,
  ⟨.type "tuple", none, .seq #[] 0, #[]⟩,
  ⟨.none, none, fd (tp 161) "close_guarded_choice" "close_guarded_choice" 0 .none .none .none 0, #[]⟩,
  ⟨.type "code", none, .fields #[.str "close_guarded_choice" 2479, .str "close_guarded_choice" 2480, .str "/claim/cut.py" 2481, .int 1157 0, .int 1 0, .int 0 0, .int 0 0, .int 3 0, .ref 1499, .bool true, .int 181 0, .ref 1500, .none, .ref 1501, .ref 1502, .ref 1503, .int 2483 0, .int 1157 0, .str "/claim/cut.py" 2484], #[]⟩,
  ⟨.type "function", none, fd (tp 161) "close_guarded_choice" "close_guarded_choice" 3 .none (.str "slumberway.building" 2064) (.ref 1504) 0, #[]⟩,
  ⟨.type "tuple", none, .seq #[] 0, #[]⟩,
  ⟨.none, none, .fields #[], #[]⟩,
  ⟨.type "tuple", none, .seq #[.str "data" 2489] 0, #[]⟩,
  ⟨.type "tuple", none, .seq #[] 0, #[]⟩,
  ⟨.none, none, fd (tp 162) "close_fun" "close_fun" 0 .none .none .none 0, #[]⟩,
  ⟨.type "code", none, .fields #[.str "close_fun" 2486, .str "close_fun" 2487, .str "/claim/cut.py" 2488, .int 1159 0, .int 1 0, .int 0 0, .int 0 0, .int 3 0, .ref 1506, .bool true, .int 181 0, .ref 1507, .none, .ref 1508, .ref 1509, .ref 1510, .int 2490 0, .int 1159 0, .str "/claim/cut.py" 2491], #[]⟩,
  ⟨.type "function", none, fd (tp 162) "close_fun" "close_fun" 3 .none (.str "slumberway.building" 2064) (.ref 1511) 0, #[]⟩,
  ⟨.type "tuple", none, .seq #[] 0, #[]⟩,
  ⟨.none, none, .fields #[], #[]⟩,
  ⟨.type "tuple", none, .seq #[.str "data" 2496] 0, #[]⟩,
  ⟨.type "tuple", none, .seq #[] 0, #[]⟩,
  ⟨.none, none, fd (tp 163) "close_let" "close_let" 0 .none .none .none 0, #[]⟩,
  ⟨.type "code", none, .fields #[.str "close_let" 2493, .str "close_let" 2494, .str "/claim/cut.py" 2495, .int 1161 0, .int 1 0, .int 0 0, .int 0 0, .int 3 0, .ref 1513, .bool true, .int 181 0, .ref 1514, .none, .ref 1515, .ref 1516, .ref 1517, .int 2497 0, .int 1161 0, .str "/claim/cut.py" 2498], #[]⟩,
  ⟨.type "function", none, fd (tp 163) "close_let" "close_let" 3 .none (.str "slumberway.building" 2064) (.ref 1518) 0, #[]⟩,
  ⟨.type "tuple", none, .seq #[] 0, #[]⟩,
  ⟨.none, none, .fields #[], #[]⟩,
  ⟨.type "tuple", none, .seq #[.str "data" 2503] 0, #[]⟩,
  ⟨.type "tuple", none, .seq #[] 0, #[]⟩,
  ⟨.none, none, fd (tp 164) "close_if" "close_if" 0 .none .none .none 0, #[]⟩,
  ⟨.type "code", none, .fields #[.str "close_if" 2500, .str "close_if" 2501, .str "/claim/cut.py" 2502, .int 1163 0, .int 1 0, .int 0 0, .int 0 0, .int 3 0, .ref 1520, .bool true, .int 181 0, .ref 1521, .none, .ref 1522, .ref 1523, .ref 1524, .int 2504 0, .int 1163 0, .str "/claim/cut.py" 2505], #[]⟩,
  ⟨.type "function", none, fd (tp 164) "close_if" "close_if" 3 .none (.str "slumberway.building" 2064) (.ref 1525) 0, #[]⟩,
  ⟨.type "tuple", none, .seq #[] 0, #[]⟩,
  ⟨.none, none, .fields #[], #[]⟩,
  ⟨.type "tuple", none, .seq #[.str "data" 2510] 0, #[]⟩,
  ⟨.type "tuple", none, .seq #[] 0, #[]⟩,
  ⟨.none, none, fd (tp 165) "close_case" "close_case" 0 .none .none .none 0, #[]⟩,
  ⟨.type "code", none, .fields #[.str "close_case" 2507, .str "close_case" 2508, .str "/claim/cut.py" 2509, .int 1165 0, .int 1 0, .int 0 0, .int 0 0, .int 3 0, .ref 1527, .bool true, .int 181 0, .ref 1528, .none, .ref 1529, .ref 1530, .ref 1531, .int 2511 0, .int 1165 0, .str "/claim/cut.py" 2512], #[]⟩,
  ⟨.type "function", none, fd (tp 165) "close_case" "close_case" 3 .none (.str "slumberway.building" 2064) (.ref 1532) 0, #[]⟩,
  ⟨.type "tuple", none, .seq #[] 0, #[]⟩,
  ⟨.none, none, .fields #[], #[]⟩,
  ⟨.none, none, fd (tp 166) "joined" "joined" 0 .none .none .none 0, #[]⟩,
  ⟨.type "code", none, .fields #[.str "joined" 2514, .str "joined" 2515, .str "/claim/cut.py" 2516, .int 1167 0, .int 1 0, .int 0 0, .int 0 0, .int 3 0, .ref 1534, .bool true, .int 181 0, .ref 1535, .none, .none, .none, .ref 1536, .int 2517 0, .int 1167 0, .str "/claim/cut.py" 2518], #[]⟩,
  ⟨.type "function", none, fd (tp 166) "joined" "joined" 3 .none (.str "slumberway.building" 2064) (.ref 1537) 0, #[]⟩,
  ⟨.type "dict", none, .dict #[en w "begin asking" 2520 (.ref 1365), en w "begin choice" 2522 (.ref 1267), en w "begin equation" 2524 (.ref 1260), en w "begin expr" 2526 (.ref 1358), en w "begin kind" 2528 (.ref 1239), en w "begin kind parts" 2530 (.ref 1246), en w "begin line" 2532 (.ref 1204), en w "begin made" 2534 (.ref 1211), en w "begin pattern" 2536 (.ref 1302), en w "begin pattern parts" 2538 (.ref 1309), en w "begin placed" 2540 (.ref 1190), en w "begin placed word" 2542 (.ref 1197), en w "begin sides" 2544 (.ref 1351), en w "choose any" 2546 (.ref 1316), en w "choose bind" 2548 (.ref 1323), en w "choose bracket" 2550 (.ref 1344), en w "choose made" 2552 (.ref 1337), en w "choose number" 2554 (.ref 1330), en w "end letters" 2556 (.ref 1218), en w "first atom" 2558 (.ref 1372), en w "first bracket" 2560 (.ref 1386), en w "first number" 2562 (.ref 1379), en w "keep any" 2564 (.ref 1274), en w "keep atom" 2566 (.ref 1393), en w "keep bare kind" 2568 (.ref 1232), en w "keep bare made" 2570 (.ref 1295), en w "keep bind" 2572 (.ref 1281), en w "keep letter" 2574 (.ref 1225), en w "keep number" 2576 (.ref 1288), en w "keep place" 2578 (.ref 1253), en w "keep placed word" 2580 (.ref 1183), en w "keep sign" 2582 (.ref 1421), en w "keep word" 2584 (.ref 1176), en w "nothing" 2586 (.ref 1169), en w "operand atom" 2588 (.ref 1400), en w "operand bracket" 2589 (.ref 1414), en w "operand number" 2590 (.ref 1407)] 37, #[]⟩,
  ⟨.type "dict", none, .dict #[en w "choose number" 2554 (.ref 1330), en w "end letters" 2556 (.ref 1218), en w "first atom" 2558 (.ref 1372), en w "first bracket" 2560 (.ref 1386), en w "first number" 2562 (.ref 1379), en w "keep any" 2564 (.ref 1274), en w "keep atom" 2566 (.ref 1393), en w "keep bare kind" 2568 (.ref 1232), en w "keep bare made" 2570 (.ref 1295), en w "keep bind" 2572 (.ref 1281), en w "keep letter" 2574 (.ref 1225), en w "keep number" 2576 (.ref 1288), en w "keep place" 2578 (.ref 1253), en w "keep placed word" 2580 (.ref 1183), en w "keep sign" 2582 (.ref 1421), en w "keep word" 2584 (.ref 1176), en w "nothing" 2586 (.ref 1169)] 17, #[]⟩,
  ⟨.type "dict", none, .dict #[en w "operand atom" 2588 (.ref 1400), en w "operand bracket" 2589 (.ref 1414), en w "operand number" 2590 (.ref 1407)] 3, #[]⟩,
  ⟨.type "dict", none, .dict #[en w "mades" 2595 (.ref 1442), en w "made kinds" 2597 (.ref 1449), en w "kind behind" 2599 (.ref 1456), en w "kind parts" 2601 (.ref 1463), en w "pattern)" 2603 (.ref 1470), en w "pattern parts" 2605 (.ref 1477), en w "side" 2607 (.ref 1484), en w "guards" 2609 (.ref 1491), en w "choice side" 2611 (.ref 1498), en w "choice guards" 2613 (.ref 1505), en w "fun body" 2615 (.ref 1512), en w "let body" 2617 (.ref 1519), en w "else" 2619 (.ref 1526), en w "case shut" 2621 (.ref 1533), en w "atoms" 2623 (.ref 1435), en w "last atoms" 2625 (.ref 1435)] 16, #[]⟩]
def ob (w : World) : List Obj := ob_0 w ++ (ob_1 w ++ (ob_2 w ++ (ob_3 w ++ (ob_4 w ++ (ob_5 w ++ (ob_6 w ++ (ob_7 w ++ (ob_8 w ++ (ob_9 w ++ (ob_10 w ++ (ob_11 w ++ (ob_12 w ++ (ob_13 w ++ (ob_14 w ++ (ob_15 w ++ (ob_16 w ++ (ob_17 w ++ (ob_18 w ++ (ob_19 w ++ (ob_20 w ++ (ob_21 w ++ (ob_22 w ++ (ob_23 w ++ (ob_24 w ++ (ob_25 w)))))))))))))))))))))))))
def ex_0 (w : World) : List Obj := [
  ⟨.type "dict", none, .dict #[en w "word" 3361 (.bool true), en w "sign" 3362 (.bool true), en w "mark" 3363 (.bool true)] 3, #[]⟩,
  ⟨.type "tuple", none, .seq #[.str "+" 3368, .str "-" 3369] 0, #[]⟩,
  ⟨.type "tuple", none, .seq #[.str "<" 3371, .str "==" 3372] 0, #[]⟩,
  ⟨.type "tuple", none, .seq #[.type "Exception"] 0, #[]⟩,
  ⟨.type "builtin_function_or_method", none, .fields #[.builtin "type.__prepare__", .type "type"], #[]⟩,
  ⟨.type "dict", none, .dict #[en w "__module__" 3381 (.str "slumberway.quickreader" 3357), en w "__qualname__" 3383 (.str "OddText" 3382), en w "__firstlineno__" 3385 (.int 1190 3384), en w "__static_attributes__" 3386 (.ref 1768)] 4, #[]⟩,
  ⟨.type "tuple", none, .seq #[] 0, #[]⟩,
  ⟨.none, none, .fields #[], #[]⟩,
  ⟨.type "code", none, .fields #[.str "OddText" 3376, .str "OddText" 3377, .str "/claim/cut.py" 3378, .int 1190 0, .int 0 0, .int 0 0, .int 0 0, .int 0 0, .ref 1764, .bool false, .int 181 0, .ref 1765, .none, .none, .none, .none, .int 3379 0, .int 1190 0, .str "/claim/cut.py" 3380], #[]⟩,
  ⟨.type "frame", none, .plain, #[(some (.ref 1766)), (some (.ref 3)), (some (.ref 1763)), none, (some (.str "slumberway.quickreader" 3357)), none, (some (.ref 0))]⟩,
  ⟨.type "tuple", none, .seq #[] 0, #[]⟩,
  ⟨.type "dict", none, .dict #[en w "__module__" 3381 (.str "slumberway.quickreader" 3357), en w "__firstlineno__" 3385 (.int 1190 3384), en w "__static_attributes__" 3386 (.ref 1768), en w "__weakref__" 3388 (.ref 1771), en w "__doc__" 3389 .none] 3, #[]⟩,
  ⟨.type "type", none, .cls ⟨"OddText", [.type "Exception"], [.ref 1770, .type "Exception", .type "BaseException", .type "object"], 1769, "OddText", true, [], [], false, none, false⟩, #[(some (.ref 1761)), none, (some (.str "OddText" 3374)), (some (.str "OddText" 3382)), (some (.builtin "Exception.__new__")), (some (.bool true))]⟩,
  ⟨.type "getset_descriptor", none, .fields #[.str "__weakref__" 3387, .ref 1770, .builtin "ExceptionGroup.__weakref__", .none], #[]⟩,
  ⟨.type "super", none, .fields #[.ref 1770, .ref 1770, .ref 1770], #[]⟩,
  ⟨.type "builtin_function_or_method", none, .fields #[.builtin "object.__init_subclass__", .ref 1770], #[]⟩,
  ⟨.type "tuple", none, .seq #[] 0, #[]⟩,
  ⟨.type "builtin_function_or_method", none, .fields #[.builtin "type.__prepare__", .type "type"], #[]⟩,
  ⟨.type "dict", none, .dict #[en w "__module__" 3401 (.str "slumberway.quickreader" 3357), en w "__qualname__" 3403 (.str "QuickReader" 3402), en w "__firstlineno__" 3405 (.int 1192 3404), en w "__slots__" 3410 (.ref 1781), en w "__init__" 3416 (.ref 1786), en w "pass_by" 3424 (.ref 1793), en w "taken" 3435 (.ref 1800), en w "tree" 3443 (.ref 1807), en w "line" 3450 (.ref 1814), en w "data_line" 3462 (.ref 1821), en w "made" 3471 (.ref 1828), en w "leaf_kinds" 3480 (.ref 1835), en w "bracketed_kind" 3488 (.ref 1842), en w "kind" 3499 (.ref 1849), en w "go_deeper" 3506 (.ref 1856), en w "equation" 3516 (.ref 1863), en w "leaves" 3524 (.ref 1870), en w "leaf" 3535 (.ref 1877), en w "pattern" 3545 (.ref 1884), en w "sides" 3555 (.ref 1891), en w "expr" 3568 (.ref 1898), en w "added" 3579 (.ref 1905), en w "multiplied" 3590 (.ref 1912), en w "call" 3603 (.ref 1919), en w "__static_attributes__" 3608 (.ref 1920)] 25, #[]⟩,
  ⟨.type "tuple", none, .seq #[] 0, #[]⟩,
  ⟨.none, none, .fields #[.int 1195 0, .int 4 0, .ref 1785, .int 1202 0, .int 4 0, .ref 1792, .int 1207 0, .int 4 0, .ref 1799, .int 1214 0, .int 4 0, .ref 1806, .int 1224 0, .int 4 0, .ref 1813, .int 1227 0, .int 4 0, .ref 1820, .int 1240 0, .int 4 0, .ref 1827, .int 1244 0, .int 4 0, .ref 1834, .int 1257 0, .int 4 0, .ref 1841, .int 1263 0, .int 4 0, .ref 1848, .int 1278 0, .int 4 0, .ref 1855, .int 1283 0, .int 4 0, .ref 1862, .int 1288 0, .int 4 0, .ref 1869, .int 1294 0, .int 4 0, .ref 1876, .int 1311 0, .int 4 0, .ref 1883, .int 1325 0, .int 4 0, .ref 1890, .int 1337 0, .int 4 0, .ref 1897, .int 1352 0, .int 4 0, .ref 1904, .int 1360 0, .int 4 0, .ref 1911, .int 1368 0, .int 4 0, .ref 1918], #[]⟩,
  ⟨.type "code", none, .fields #[.str "QuickReader" 3396, .str "QuickReader" 3397, .str "/claim/cut.py" 3398, .int 1192 0, .int 0 0, .int 0 0, .int 0 0, .int 0 0, .ref 1777, .bool false, .int 181 0, .ref 1778, .none, .none, .none, .none, .int 3399 0, .int 1192 0, .str "/claim/cut.py" 3400], #[]⟩,
  ⟨.type "frame", none, .plain, #[(some (.ref 1779)), (some (.ref 3)), (some (.ref 1776)), none, (some (.str "slumberway.quickreader" 3357)), none, (some (.ref 0))]⟩,
  ⟨.type "tuple", none, .seq #[.str "told" 3406, .str "words" 3407, .str "at" 3408, .str "deep" 3409] 0, #[]⟩,
  ⟨.type "tuple", none, .seq #[] 0, #[]⟩,
  ⟨.none, none, .fields #[], #[]⟩,
  ⟨.none, none, fd (mt 176 1) "__init__" "QuickReader.__init__" 0 .none .none .none 0, #[]⟩,
  ⟨.type "code", none, .fields #[.str "__init__" 3411, .str "QuickReader.__init__" 3412, .str "/claim/cut.py" 3413, .int 1195 0, .int 2 0, .int 0 0, .int 0 0, .int 3 0, .ref 1782, .bool true, .int 181 0, .ref 1783, .none, .none, .none, .ref 1784, .int 3414 0, .int 1195 0, .str "/claim/cut.py" 3415], #[]⟩,
  ⟨.type "function", none, fd (mt 176 1) "__init__" "QuickReader.__init__" 3 .none (.str "slumberway.quickreader" 3357) (.ref 1785) 0, #[]⟩,
  ⟨.type "tuple", none, .seq #[] 0, #[]⟩,
  ⟨.none, none, .fields #[], #[]⟩,
  ⟨.type "tuple", none, .seq #[.str "self" 3420, .str "key" 3421] 0, #[]⟩,
  ⟨.type "tuple", none, .seq #[] 0, #[]⟩,
  ⟨.none, none, fd (mt 176 2) "pass_by" "QuickReader.pass_by" 0 .none .none .none 0, #[]⟩,
  ⟨.type "code", none, .fields #[.str "pass_by" 3417, .str "QuickReader.pass_by" 3418, .str "/claim/cut.py" 3419, .int 1202 0, .int 2 0, .int 0 0, .int 0 0, .int 3 0, .ref 1787, .bool true, .int 181 0, .ref 1788, .none, .ref 1789, .ref 1790, .ref 1791, .int 3422 0, .int 1202 0, .str "/claim/cut.py" 3423], #[]⟩,
  ⟨.type "function", none, fd (mt 176 2) "pass_by" "QuickReader.pass_by" 3 .none (.str "slumberway.quickreader" 3357) (.ref 1792) 0, #[]⟩,
  ⟨.type "tuple", none, .seq #[] 0, #[]⟩,
  ⟨.none, none, .fields #[], #[]⟩,
  ⟨.type "tuple", none, .seq #[.str "self" 3428, .str "key" 3429, .str "place" 3430, .str "_" 3431, .str "word" 3432] 0, #[]⟩,
  ⟨.type "tuple", none, .seq #[] 0, #[]⟩,
  ⟨.none, none, fd (mt 176 3) "taken" "QuickReader.taken" 0 .none .none .none 0, #[]⟩,
  ⟨.type "code", none, .fields #[.str "taken" 3425, .str "QuickReader.taken" 3426, .str "/claim/cut.py" 3427, .int 1207 0, .int 2 0, .int 0 0, .int 0 0, .int 3 0, .ref 1794, .bool true, .int 181 0, .ref 1795, .none, .ref 1796, .ref 1797, .ref 1798, .int 3433 0, .int 1207 0, .str "/claim/cut.py" 3434], #[]⟩,
  ⟨.type "function", none, fd (mt 176 3) "taken" "QuickReader.taken" 3 .none (.str "slumberway.quickreader" 3357) (.ref 1799) 0, #[]⟩,
  ⟨.type "tuple", none, .seq #[] 0, #[]⟩,
  ⟨.none, none, .fields #[], #[]⟩,
  ⟨.type "tuple", none, .seq #[.str "self" 3439, .str "lines" 3440] 0, #[]⟩,
  ⟨.type "tuple", none, .seq #[] 0, #[]⟩,
  ⟨.none, none, fd (mt 176 4) "tree" "QuickReader.tree" 0 .none .none .none 0, #[]⟩,
  ⟨.type "code", none, .fields #[.str "tree" 3436, .str "QuickReader.tree" 3437, .str "/claim/cut.py" 3438, .int 1214 0, .int 1 0, .int 0 0, .int 0 0, .int 3 0, .ref 1801, .bool true, .int 181 0, .ref 1802, .none, .ref 1803, .ref 1804, .ref 1805, .int 3441 0, .int 1214 0, .str "/claim/cut.py" 3442], #[]⟩,
  ⟨.type "function", none, fd (mt 176 4) "tree" "QuickReader.tree" 3 .none (.str "slumberway.quickreader" 3357) (.ref 1806) 0, #[]⟩,
  ⟨.type "tuple", none, .seq #[] 0, #[]⟩,
  ⟨.none, none, .fields #[], #[]⟩,
  ⟨.type "tuple", none, .seq #[.str "self" 3447] 0, #[]⟩,
  ⟨.type "tuple", none, .seq #[] 0, #[]⟩,
  ⟨.none, none, fd (mt 176 5) "line" "QuickReader.line" 0 .none .none .none 0, #[]⟩,
  ⟨.type "code", none, .fields #[.str "line" 3444, .str "QuickReader.line" 3445, .str "/claim/cut.py" 3446, .int 1224 0, .int 1 0, .int 0 0, .int 0 0, .int 3 0, .ref 1808, .bool true, .int 181 0, .ref 1809, .none, .ref 1810, .ref 1811, .ref 1812, .int 3448 0, .int 1224 0, .str "/claim/cut.py" 3449], #[]⟩,
  ⟨.type "function", none, fd (mt 176 5) "line" "QuickReader.line" 3 .none (.str "slumberway.quickreader" 3357) (.ref 1813) 0, #[]⟩,
  ⟨.type "tuple", none, .seq #[] 0, #[]⟩,
  ⟨.none, none, .fields #[], #[]⟩,
  ⟨.type "tuple", none, .seq #[.str "self" 3454, .str "place" 3455, .str "_" 3456, .str "maker" 3457, .str "letters" 3458, .str "mades" 3459] 0, #[]⟩]
def ex_1 (w : World) : List Obj := [
  ⟨.type "tuple", none, .seq #[] 0, #[]⟩,
  ⟨.none, none, fd (mt 176 6) "data_line" "QuickReader.data_line" 0 .none .none .none 0, #[]⟩,
  ⟨.type "code", none, .fields #[.str "data_line" 3451, .str "QuickReader.data_line" 3452, .str "/claim/cut.py" 3453, .int 1227 0, .int 1 0, .int 0 0, .int 0 0, .int 3 0, .ref 1815, .bool true, .int 181 0, .ref 1816, .none, .ref 1817, .ref 1818, .ref 1819, .int 3460 0, .int 1227 0, .str "/claim/cut.py" 3461], #[]⟩,
  ⟨.type "function", none, fd (mt 176 6) "data_line" "QuickReader.data_line" 3 .none (.str "slumberway.quickreader" 3357) (.ref 1820) 0, #[]⟩,
  ⟨.type "tuple", none, .seq #[] 0, #[]⟩,
  ⟨.none, none, .fields #[], #[]⟩,
  ⟨.type "tuple", none, .seq #[.str "self" 3466, .str "place" 3467, .str "maker" 3468] 0, #[]⟩,
  ⟨.type "tuple", none, .seq #[] 0, #[]⟩,
  ⟨.none, none, fd (mt 176 7) "made" "QuickReader.made" 0 .none .none .none 0, #[]⟩,
  ⟨.type "code", none, .fields #[.str "made" 3463, .str "QuickReader.made" 3464, .str "/claim/cut.py" 3465, .int 1240 0, .int 1 0, .int 0 0, .int 0 0, .int 3 0, .ref 1822, .bool true, .int 181 0, .ref 1823, .none, .ref 1824, .ref 1825, .ref 1826, .int 3469 0, .int 1240 0, .str "/claim/cut.py" 3470], #[]⟩,
  ⟨.type "function", none, fd (mt 176 7) "made" "QuickReader.made" 3 .none (.str "slumberway.quickreader" 3357) (.ref 1827) 0, #[]⟩,
  ⟨.type "tuple", none, .seq #[] 0, #[]⟩,
  ⟨.none, none, .fields #[], #[]⟩,
  ⟨.type "tuple", none, .seq #[.str "self" 3475, .str "told" 3476, .str "key" 3477] 0, #[]⟩,
  ⟨.type "tuple", none, .seq #[] 0, #[]⟩,
  ⟨.none, none, fd (mt 176 8) "leaf_kinds" "QuickReader.leaf_kinds" 0 .none .none .none 0, #[]⟩,
  ⟨.type "code", none, .fields #[.str "leaf_kinds" 3472, .str "QuickReader.leaf_kinds" 3473, .str "/claim/cut.py" 3474, .int 1244 0, .int 1 0, .int 0 0, .int 0 0, .int 3 0, .ref 1829, .bool true, .int 181 0, .ref 1830, .none, .ref 1831, .ref 1832, .ref 1833, .int 3478 0, .int 1244 0, .str "/claim/cut.py" 3479], #[]⟩,
  ⟨.type "function", none, fd (mt 176 8) "leaf_kinds" "QuickReader.leaf_kinds" 3 .none (.str "slumberway.quickreader" 3357) (.ref 1834) 0, #[]⟩,
  ⟨.type "tuple", none, .seq #[] 0, #[]⟩,
  ⟨.none, none, .fields #[], #[]⟩,
  ⟨.type "tuple", none, .seq #[.str "self" 3484, .str "told" 3485] 0, #[]⟩,
  ⟨.type "tuple", none, .seq #[] 0, #[]⟩,
  ⟨.none, none, fd (mt 176 9) "bracketed_kind" "QuickReader.bracketed_kind" 0 .none .none .none 0, #[]⟩,
  ⟨.type "code", none, .fields #[.str "bracketed_kind" 3481, .str "QuickReader.bracketed_kind" 3482, .str "/claim/cut.py" 3483, .int 1257 0, .int 1 0, .int 0 0, .int 0 0, .int 3 0, .ref 1836, .bool true, .int 181 0, .ref 1837, .none, .ref 1838, .ref 1839, .ref 1840, .int 3486 0, .int 1257 0, .str "/claim/cut.py" 3487], #[]⟩,
  ⟨.type "function", none, fd (mt 176 9) "bracketed_kind" "QuickReader.bracketed_kind" 3 .none (.str "slumberway.quickreader" 3357) (.ref 1841) 0, #[]⟩,
  ⟨.type "tuple", none, .seq #[] 0, #[]⟩,
  ⟨.none, none, .fields #[], #[]⟩,
  ⟨.type "tuple", none, .seq #[.str "self" 3492, .str "key" 3493, .str "told" 3494, .str "place" 3495, .str "_" 3496] 0, #[]⟩,
  ⟨.type "tuple", none, .seq #[] 0, #[]⟩,
  ⟨.none, none, fd (mt 176 10) "kind" "QuickReader.kind" 0 .none .none .none 0, #[]⟩,
  ⟨.type "code", none, .fields #[.str "kind" 3489, .str "QuickReader.kind" 3490, .str "/claim/cut.py" 3491, .int 1263 0, .int 1 0, .int 0 0, .int 0 0, .int 3 0, .ref 1843, .bool true, .int 181 0, .ref 1844, .none, .ref 1845, .ref 1846, .ref 1847, .int 3497 0, .int 1263 0, .str "/claim/cut.py" 3498], #[]⟩,
  ⟨.type "function", none, fd (mt 176 10) "kind" "QuickReader.kind" 3 .none (.str "slumberway.quickreader" 3357) (.ref 1848) 0, #[]⟩,
  ⟨.type "tuple", none, .seq #[] 0, #[]⟩,
  ⟨.none, none, .fields #[], #[]⟩,
  ⟨.type "tuple", none, .seq #[.str "self" 3503] 0, #[]⟩,
  ⟨.type "tuple", none, .seq #[] 0, #[]⟩,
  ⟨.none, none, fd (mt 176 11) "go_deeper" "QuickReader.go_deeper" 0 .none .none .none 0, #[]⟩,
  ⟨.type "code", none, .fields #[.str "go_deeper" 3500, .str "QuickReader.go_deeper" 3501, .str "/claim/cut.py" 3502, .int 1278 0, .int 1 0, .int 0 0, .int 0 0, .int 3 0, .ref 1850, .bool true, .int 181 0, .ref 1851, .none, .ref 1852, .ref 1853, .ref 1854, .int 3504 0, .int 1278 0, .str "/claim/cut.py" 3505], #[]⟩,
  ⟨.type "function", none, fd (mt 176 11) "go_deeper" "QuickReader.go_deeper" 3 .none (.str "slumberway.quickreader" 3357) (.ref 1855) 0, #[]⟩,
  ⟨.type "tuple", none, .seq #[] 0, #[]⟩,
  ⟨.none, none, .fields #[], #[]⟩,
  ⟨.type "tuple", none, .seq #[.str "self" 3510, .str "place" 3511, .str "name" 3512, .str "patterns" 3513] 0, #[]⟩,
  ⟨.type "tuple", none, .seq #[] 0, #[]⟩,
  ⟨.none, none, fd (mt 176 12) "equation" "QuickReader.equation" 0 .none .none .none 0, #[]⟩,
  ⟨.type "code", none, .fields #[.str "equation" 3507, .str "QuickReader.equation" 3508, .str "/claim/cut.py" 3509, .int 1283 0, .int 1 0, .int 0 0, .int 0 0, .int 3 0, .ref 1857, .bool true, .int 181 0, .ref 1858, .none, .ref 1859, .ref 1860, .ref 1861, .int 3514 0, .int 1283 0, .str "/claim/cut.py" 3515], #[]⟩,
  ⟨.type "function", none, fd (mt 176 12) "equation" "QuickReader.equation" 3 .none (.str "slumberway.quickreader" 3357) (.ref 1862) 0, #[]⟩,
  ⟨.type "tuple", none, .seq #[] 0, #[]⟩,
  ⟨.none, none, .fields #[], #[]⟩,
  ⟨.type "tuple", none, .seq #[.str "self" 3520, .str "told" 3521] 0, #[]⟩,
  ⟨.type "tuple", none, .seq #[] 0, #[]⟩,
  ⟨.none, none, fd (mt 176 13) "leaves" "QuickReader.leaves" 0 .none .none .none 0, #[]⟩,
  ⟨.type "code", none, .fields #[.str "leaves" 3517, .str "QuickReader.leaves" 3518, .str "/claim/cut.py" 3519, .int 1288 0, .int 1 0, .int 0 0, .int 0 0, .int 3 0, .ref 1864, .bool true, .int 181 0, .ref 1865, .none, .ref 1866, .ref 1867, .ref 1868, .int 3522 0, .int 1288 0, .str "/claim/cut.py" 3523], #[]⟩,
  ⟨.type "function", none, fd (mt 176 13) "leaves" "QuickReader.leaves" 3 .none (.str "slumberway.quickreader" 3357) (.ref 1869) 0, #[]⟩,
  ⟨.type "tuple", none, .seq #[] 0, #[]⟩,
  ⟨.none, none, .fields #[], #[]⟩,
  ⟨.type "tuple", none, .seq #[.str "self" 3528, .str "place" 3529, .str "sort" 3530, .str "word" 3531, .str "told" 3532] 0, #[]⟩,
  ⟨.type "tuple", none, .seq #[] 0, #[]⟩,
  ⟨.none, none, fd (mt 176 14) "leaf" "QuickReader.leaf" 0 .none .none .none 0, #[]⟩,
  ⟨.type "code", none, .fields #[.str "leaf" 3525, .str "QuickReader.leaf" 3526, .str "/claim/cut.py" 3527, .int 1294 0, .int 1 0, .int 0 0, .int 0 0, .int 3 0, .ref 1871, .bool true, .int 181 0, .ref 1872, .none, .ref 1873, .ref 1874, .ref 1875, .int 3533 0, .int 1294 0, .str "/claim/cut.py" 3534], #[]⟩,
  ⟨.type "function", none, fd (mt 176 14) "leaf" "QuickReader.leaf" 3 .none (.str "slumberway.quickreader" 3357) (.ref 1876) 0, #[]⟩]
def ex_2 (w : World) : List Obj := [
  ⟨.type "tuple", none, .seq #[] 0, #[]⟩,
  ⟨.none, none, .fields #[], #[]⟩,
  ⟨.type "tuple", none, .seq #[.str "self" 3539, .str "told" 3540, .str "place" 3541, .str "maker" 3542] 0, #[]⟩,
  ⟨.type "tuple", none, .seq #[] 0, #[]⟩,
  ⟨.none, none, fd (mt 176 15) "pattern" "QuickReader.pattern" 0 .none .none .none 0, #[]⟩,
  ⟨.type "code", none, .fields #[.str "pattern" 3536, .str "QuickReader.pattern" 3537, .str "/claim/cut.py" 3538, .int 1311 0, .int 1 0, .int 0 0, .int 0 0, .int 3 0, .ref 1878, .bool true, .int 181 0, .ref 1879, .none, .ref 1880, .ref 1881, .ref 1882, .int 3543 0, .int 1311 0, .str "/claim/cut.py" 3544], #[]⟩,
  ⟨.type "function", none, fd (mt 176 15) "pattern" "QuickReader.pattern" 3 .none (.str "slumberway.quickreader" 3357) (.ref 1883) 0, #[]⟩,
  ⟨.type "tuple", none, .seq #[] 0, #[]⟩,
  ⟨.none, none, .fields #[], #[]⟩,
  ⟨.type "tuple", none, .seq #[.str "self" 3549, .str "sign" 3550, .str "told" 3551, .str "guard" 3552] 0, #[]⟩,
  ⟨.type "tuple", none, .seq #[] 0, #[]⟩,
  ⟨.none, none, fd (mt 176 16) "sides" "QuickReader.sides" 0 .none .none .none 0, #[]⟩,
  ⟨.type "code", none, .fields #[.str "sides" 3546, .str "QuickReader.sides" 3547, .str "/claim/cut.py" 3548, .int 1325 0, .int 2 0, .int 0 0, .int 0 0, .int 3 0, .ref 1885, .bool true, .int 181 0, .ref 1886, .none, .ref 1887, .ref 1888, .ref 1889, .int 3553 0, .int 1325 0, .str "/claim/cut.py" 3554], #[]⟩,
  ⟨.type "function", none, fd (mt 176 16) "sides" "QuickReader.sides" 3 .none (.str "slumberway.quickreader" 3357) (.ref 1890) 0, #[]⟩,
  ⟨.type "tuple", none, .seq #[] 0, #[]⟩,
  ⟨.none, none, .fields #[], #[]⟩,
  ⟨.type "tuple", none, .seq #[.str "self" 3559, .str "key" 3560, .str "expr_of" 3561, .str "told" 3562, .str "place" 3563, .str "_" 3564, .str "sign" 3565] 0, #[]⟩,
  ⟨.type "tuple", none, .seq #[] 0, #[]⟩,
  ⟨.none, none, fd (mt 176 17) "expr" "QuickReader.expr" 0 .none .none .none 0, #[]⟩,
  ⟨.type "code", none, .fields #[.str "expr" 3556, .str "QuickReader.expr" 3557, .str "/claim/cut.py" 3558, .int 1337 0, .int 1 0, .int 0 0, .int 0 0, .int 3 0, .ref 1892, .bool true, .int 181 0, .ref 1893, .none, .ref 1894, .ref 1895, .ref 1896, .int 3566 0, .int 1337 0, .str "/claim/cut.py" 3567], #[]⟩,
  ⟨.type "function", none, fd (mt 176 17) "expr" "QuickReader.expr" 3 .none (.str "slumberway.quickreader" 3357) (.ref 1897) 0, #[]⟩,
  ⟨.type "tuple", none, .seq #[] 0, #[]⟩,
  ⟨.none, none, .fields #[], #[]⟩,
  ⟨.type "tuple", none, .seq #[.str "self" 3572, .str "told" 3573, .str "place" 3574, .str "_" 3575, .str "sign" 3576] 0, #[]⟩,
  ⟨.type "tuple", none, .seq #[] 0, #[]⟩,
  ⟨.none, none, fd (mt 176 18) "added" "QuickReader.added" 0 .none .none .none 0, #[]⟩,
  ⟨.type "code", none, .fields #[.str "added" 3569, .str "QuickReader.added" 3570, .str "/claim/cut.py" 3571, .int 1352 0, .int 1 0, .int 0 0, .int 0 0, .int 3 0, .ref 1899, .bool true, .int 181 0, .ref 1900, .none, .ref 1901, .ref 1902, .ref 1903, .int 3577 0, .int 1352 0, .str "/claim/cut.py" 3578], #[]⟩,
  ⟨.type "function", none, fd (mt 176 18) "added" "QuickReader.added" 3 .none (.str "slumberway.quickreader" 3357) (.ref 1904) 0, #[]⟩,
  ⟨.type "tuple", none, .seq #[] 0, #[]⟩,
  ⟨.none, none, .fields #[], #[]⟩,
  ⟨.type "tuple", none, .seq #[.str "self" 3583, .str "told" 3584, .str "place" 3585, .str "_" 3586, .str "sign" 3587] 0, #[]⟩,
  ⟨.type "tuple", none, .seq #[] 0, #[]⟩,
  ⟨.none, none, fd (mt 176 19) "multiplied" "QuickReader.multiplied" 0 .none .none .none 0, #[]⟩,
  ⟨.type "code", none, .fields #[.str "multiplied" 3580, .str "QuickReader.multiplied" 3581, .str "/claim/cut.py" 3582, .int 1360 0, .int 1 0, .int 0 0, .int 0 0, .int 3 0, .ref 1906, .bool true, .int 181 0, .ref 1907, .none, .ref 1908, .ref 1909, .ref 1910, .int 3588 0, .int 1360 0, .str "/claim/cut.py" 3589], #[]⟩,
  ⟨.type "function", none, fd (mt 176 19) "multiplied" "QuickReader.multiplied" 3 .none (.str "slumberway.quickreader" 3357) (.ref 1911) 0, #[]⟩,
  ⟨.type "tuple", none, .seq #[] 0, #[]⟩,
  ⟨.none, none, .fields #[], #[]⟩,
  ⟨.type "tuple", none, .seq #[.str "self" 3594, .str "place" 3595, .str "atoms" 3596, .str "key" 3597, .str "at" 3598, .str "sort" 3599, .str "word" 3600] 0, #[]⟩,
  ⟨.type "tuple", none, .seq #[] 0, #[]⟩,
  ⟨.none, none, fd (mt 176 20) "call" "QuickReader.call" 0 .none .none .none 0, #[]⟩,
  ⟨.type "code", none, .fields #[.str "call" 3591, .str "QuickReader.call" 3592, .str "/claim/cut.py" 3593, .int 1368 0, .int 1 0, .int 0 0, .int 0 0, .int 3 0, .ref 1913, .bool true, .int 181 0, .ref 1914, .none, .ref 1915, .ref 1916, .ref 1917, .int 3601 0, .int 1368 0, .str "/claim/cut.py" 3602], #[]⟩,
  ⟨.type "function", none, fd (mt 176 20) "call" "QuickReader.call" 3 .none (.str "slumberway.quickreader" 3357) (.ref 1918) 0, #[]⟩,
  ⟨.type "tuple", none, .seq #[.str "at" 3604, .str "deep" 3605, .str "told" 3606, .str "words" 3607] 0, #[]⟩,
  ⟨.type "list", none, .seq #[.str "told" 3406, .str "words" 3407, .str "at" 3408, .str "deep" 3409] 1, #[]⟩,
  ⟨.type "dict", none, .dict #[en w "__module__" 3401 (.str "slumberway.quickreader" 3357), en w "__firstlineno__" 3405 (.int 1192 3404), en w "__slots__" 3410 (.ref 1781), en w "__init__" 3416 (.ref 1786), en w "pass_by" 3424 (.ref 1793), en w "taken" 3435 (.ref 1800), en w "tree" 3443 (.ref 1807), en w "line" 3450 (.ref 1814), en w "data_line" 3462 (.ref 1821), en w "made" 3471 (.ref 1828), en w "leaf_kinds" 3480 (.ref 1835), en w "bracketed_kind" 3488 (.ref 1842), en w "kind" 3499 (.ref 1849), en w "go_deeper" 3506 (.ref 1856), en w "equation" 3516 (.ref 1863), en w "leaves" 3524 (.ref 1870), en w "leaf" 3535 (.ref 1877), en w "pattern" 3545 (.ref 1884), en w "sides" 3555 (.ref 1891), en w "expr" 3568 (.ref 1898), en w "added" 3579 (.ref 1905), en w "multiplied" 3590 (.ref 1912), en w "call" 3603 (.ref 1919), en w "__static_attributes__" 3608 (.ref 1920), en w "at" 3610 (.ref 1924), en w "deep" 3612 (.ref 1925), en w "told" 3614 (.ref 1926), en w "words" 3616 (.ref 1927), en w "__doc__" 3617 .none] 6, #[]⟩,
  ⟨.type "type", none, .cls ⟨"QuickReader", [.type "object"], [.ref 1923, .type "object"], 1922, "QuickReader", false, ["at", "deep", "told", "words"], [], false, none, false⟩, #[none, none, (some (.str "QuickReader" 3394)), (some (.str "QuickReader" 3402)), (some (.builtin "object.__new__")), (some (.bool false))]⟩,
  ⟨.type "member_descriptor", none, .fields #[.str "at" 3609, .ref 1923, .builtin "proto.slot", .builtin "proto.slot#set", .int 3 0], #[]⟩,
  ⟨.type "member_descriptor", none, .fields #[.str "deep" 3611, .ref 1923, .builtin "proto.slot", .builtin "proto.slot#set", .int 2 0], #[]⟩,
  ⟨.type "member_descriptor", none, .fields #[.str "told" 3613, .ref 1923, .builtin "proto.slot", .builtin "proto.slot#set", .int 1 0], #[]⟩,
  ⟨.type "member_descriptor", none, .fields #[.str "words" 3615, .ref 1923, .builtin "proto.slot", .builtin "proto.slot#set", .int 0 0], #[]⟩,
  ⟨.type "super", none, .fields #[.ref 1923, .ref 1923, .ref 1923], #[]⟩,
  ⟨.type "builtin_function_or_method", none, .fields #[.builtin "object.__init_subclass__", .ref 1923], #[]⟩,
  ⟨.type "tuple", none, .seq #[] 0, #[]⟩,
  ⟨.none, none, .fields #[], #[]⟩,
  ⟨.type "tuple", none, .seq #[.str "reader" 3623, .str "place" 3624, .str "_" 3625, .str "names" 3626] 0, #[]⟩,
  ⟨.type "tuple", none, .seq #[] 0, #[]⟩,
  ⟨.none, none, fd (tp 177) "fun_expr" "fun_expr" 0 .none .none .none 0, #[]⟩,
  ⟨.type "code", none, .fields #[.str "fun_expr" 3620, .str "fun_expr" 3621, .str "/claim/cut.py" 3622, .int 1385 0, .int 1 0, .int 0 0, .int 0 0, .int 3 0, .ref 1930, .bool true, .int 181 0, .ref 1931, .none, .ref 1932, .ref 1933, .ref 1934, .int 3627 0, .int 1385 0, .str "/claim/cut.py" 3628], #[]⟩,
  ⟨.type "function", none, fd (tp 177) "fun_expr" "fun_expr" 3 .none (.str "slumberway.quickreader" 3357) (.ref 1935) 0, #[]⟩,
  ⟨.type "tuple", none, .seq #[] 0, #[]⟩]
def ex_3 (w : World) : List Obj := [
  ⟨.none, none, .fields #[], #[]⟩,
  ⟨.type "tuple", none, .seq #[.str "reader" 3633, .str "place" 3634, .str "_" 3635, .str "lines" 3636] 0, #[]⟩,
  ⟨.type "tuple", none, .seq #[] 0, #[]⟩,
  ⟨.none, none, fd (tp 178) "let_expr" "let_expr" 0 .none .none .none 0, #[]⟩,
  ⟨.type "code", none, .fields #[.str "let_expr" 3630, .str "let_expr" 3631, .str "/claim/cut.py" 3632, .int 1392 0, .int 1 0, .int 0 0, .int 0 0, .int 3 0, .ref 1937, .bool true, .int 181 0, .ref 1938, .none, .ref 1939, .ref 1940, .ref 1941, .int 3637 0, .int 1392 0, .str "/claim/cut.py" 3638], #[]⟩,
  ⟨.type "function", none, fd (tp 178) "let_expr" "let_expr" 3 .none (.str "slumberway.quickreader" 3357) (.ref 1942) 0, #[]⟩,
  ⟨.type "tuple", none, .seq #[] 0, #[]⟩,
  ⟨.none, none, .fields #[], #[]⟩,
  ⟨.type "tuple", none, .seq #[.str "reader" 3643, .str "place" 3644, .str "_" 3645, .str "asked" 3646, .str "one" 3647] 0, #[]⟩,
  ⟨.type "tuple", none, .seq #[] 0, #[]⟩,
  ⟨.none, none, fd (tp 179) "if_expr" "if_expr" 0 .none .none .none 0, #[]⟩,
  ⟨.type "code", none, .fields #[.str "if_expr" 3640, .str "if_expr" 3641, .str "/claim/cut.py" 3642, .int 1402 0, .int 1 0, .int 0 0, .int 0 0, .int 3 0, .ref 1944, .bool true, .int 181 0, .ref 1945, .none, .ref 1946, .ref 1947, .ref 1948, .int 3648 0, .int 1402 0, .str "/claim/cut.py" 3649], #[]⟩,
  ⟨.type "function", none, fd (tp 179) "if_expr" "if_expr" 3 .none (.str "slumberway.quickreader" 3357) (.ref 1949) 0, #[]⟩,
  ⟨.type "tuple", none, .seq #[] 0, #[]⟩,
  ⟨.none, none, .fields #[], #[]⟩,
  ⟨.type "tuple", none, .seq #[.str "reader" 3654, .str "place" 3655, .str "_" 3656, .str "asked" 3657, .str "choices" 3658] 0, #[]⟩,
  ⟨.type "tuple", none, .seq #[] 0, #[]⟩,
  ⟨.none, none, fd (tp 180) "case_expr" "case_expr" 0 .none .none .none 0, #[]⟩,
  ⟨.type "code", none, .fields #[.str "case_expr" 3651, .str "case_expr" 3652, .str "/claim/cut.py" 3653, .int 1409 0, .int 1 0, .int 0 0, .int 0 0, .int 3 0, .ref 1951, .bool true, .int 181 0, .ref 1952, .none, .ref 1953, .ref 1954, .ref 1955, .int 3659 0, .int 1409 0, .str "/claim/cut.py" 3660], #[]⟩,
  ⟨.type "function", none, fd (tp 180) "case_expr" "case_expr" 3 .none (.str "slumberway.quickreader" 3357) (.ref 1956) 0, #[]⟩,
  ⟨.type "tuple", none, .seq #[] 0, #[]⟩,
  ⟨.none, none, .fields #[], #[]⟩,
  ⟨.type "tuple", none, .seq #[.str "reader" 3665, .str "place" 3666, .str "pattern" 3667] 0, #[]⟩,
  ⟨.type "tuple", none, .seq #[] 0, #[]⟩,
  ⟨.none, none, fd (tp 181) "choice" "choice" 0 .none .none .none 0, #[]⟩,
  ⟨.type "code", none, .fields #[.str "choice" 3662, .str "choice" 3663, .str "/claim/cut.py" 3664, .int 1420 0, .int 1 0, .int 0 0, .int 0 0, .int 3 0, .ref 1958, .bool true, .int 181 0, .ref 1959, .none, .ref 1960, .ref 1961, .ref 1962, .int 3668 0, .int 1420 0, .str "/claim/cut.py" 3669], #[]⟩,
  ⟨.type "function", none, fd (tp 181) "choice" "choice" 3 .none (.str "slumberway.quickreader" 3357) (.ref 1963) 0, #[]⟩,
  ⟨.type "dict", none, .dict #[en w "name" 3671 (.bool true), en w "maker" 3672 (.bool true), en w "number" 3673 (.bool true), en w "(" 3674 (.bool true)] 4, #[]⟩,
  ⟨.type "dict", none, .dict #[en w "name" 3680 (.bool true), en w "maker" 3681 (.bool true), en w "number" 3682 (.bool true), en w "(" 3683 (.bool true), en w "_" 3684 (.bool true)] 5, #[]⟩,
  ⟨.type "dict", none, .dict #[en w "fun" 3691 (.ref 1936), en w "let" 3692 (.ref 1943), en w "if" 3693 (.ref 1950), en w "case" 3694 (.ref 1957)] 4, #[]⟩,
  ⟨.type "tuple", none, .seq #[] 0, #[]⟩,
  ⟨.none, none, .fields #[], #[]⟩,
  ⟨.type "tuple", none, .seq #[.str "told" 3705] 0, #[]⟩,
  ⟨.type "tuple", none, .seq #[] 0, #[]⟩,
  ⟨.none, none, fd (tp 186) "tree_of_laid" "tree_of_laid" 0 .none .none .none 0, #[]⟩,
  ⟨.type "code", none, .fields #[.str "tree_of_laid" 3702, .str "tree_of_laid" 3703, .str "/claim/cut.py" 3704, .int 1428 0, .int 1 0, .int 0 0, .int 0 0, .int 3 0, .ref 1968, .bool true, .int 181 0, .ref 1969, .none, .ref 1970, .ref 1971, .ref 1972, .int 3706 0, .int 1428 0, .str "/claim/cut.py" 3707], #[]⟩,
  ⟨.type "function", none, fd (tp 186) "tree_of_laid" "tree_of_laid" 3 .none (.str "slumberway.reader" 3700) (.ref 1973) 0, #[]⟩,
  ⟨.type "tuple", none, .seq #[] 0, #[]⟩,
  ⟨.none, none, .fields #[], #[]⟩,
  ⟨.none, none, fd (tp 187) "tree_by_table" "tree_by_table" 0 .none .none .none 0, #[]⟩,
  ⟨.type "code", none, .fields #[.str "tree_by_table" 3709, .str "tree_by_table" 3710, .str "/claim/cut.py" 3711, .int 1433 0, .int 1 0, .int 0 0, .int 0 0, .int 3 0, .ref 1975, .bool true, .int 181 0, .ref 1976, .none, .none, .none, .ref 1977, .int 3712 0, .int 1433 0, .str "/claim/cut.py" 3713], #[]⟩,
  ⟨.type "function", none, fd (tp 187) "tree_by_table" "tree_by_table" 3 .none (.str "slumberway.reader" 3700) (.ref 1978) 0, #[]⟩,
  ⟨.type "tuple", none, .seq #[] 0, #[]⟩,
  ⟨.none, none, .fields #[], #[]⟩,
  ⟨.none, none, fd (tp 188) "wanted" "wanted" 0 .none .none .none 0, #[]⟩,
  ⟨.type "code", none, .fields #[.str "wanted" 3715, .str "wanted" 3716, .str "/claim/cut.py" 3717, .int 1449 0, .int 1 0, .int 0 0, .int 0 0, .int 3 0, .ref 1980, .bool true, .int 181 0, .ref 1981, .none, .none, .none, .ref 1982, .int 3718 0, .int 1449 0, .str "/claim/cut.py" 3719], #[]⟩,
  ⟨.type "function", none, fd (tp 188) "wanted" "wanted" 3 .none (.str "slumberway.reader" 3700) (.ref 1983) 0, #[]⟩,
  ⟨.type "tuple", none, .seq #[] 0, #[]⟩,
  ⟨.type "builtin_function_or_method", none, .fields #[.builtin "type.__prepare__", .type "type"], #[]⟩,
  ⟨.type "dict", none, .dict #[en w "__module__" 3728 (.str "slumberway.reader" 3700), en w "__qualname__" 3730 (.str "Reading" 3729), en w "__firstlineno__" 3732 (.int 1451 3731), en w "__init__" 3739 (.ref 1998), en w "begin" 3748 (.ref 2005), en w "step_around" 3761 (.ref 2012), en w "__static_attributes__" 3765 (.ref 2013)] 7, #[]⟩,
  ⟨.type "tuple", none, .seq #[] 0, #[]⟩,
  ⟨.none, none, .fields #[.int 1453 0, .int 4 0, .ref 1997, .int 1458 0, .int 4 0, .ref 2004, .int 1463 0, .int 4 0, .ref 2011], #[]⟩,
  ⟨.type "code", none, .fields #[.str "Reading" 3723, .str "Reading" 3724, .str "/claim/cut.py" 3725, .int 1451 0, .int 0 0, .int 0 0, .int 0 0, .int 0 0, .ref 1988, .bool false, .int 181 0, .ref 1989, .none, .none, .none, .none, .int 3726 0, .int 1451 0, .str "/claim/cut.py" 3727], #[]⟩,
  ⟨.type "frame", none, .plain, #[(some (.ref 1990)), (some (.ref 3)), (some (.ref 1987)), none, (some (.str "slumberway.reader" 3700)), none, (some (.ref 0))]⟩,
  ⟨.type "tuple", none, .seq #[] 0, #[]⟩,
  ⟨.none, none, .fields #[], #[]⟩,
  ⟨.type "tuple", none, .seq #[.str "self" 3736] 0, #[]⟩,
  ⟨.type "tuple", none, .seq #[] 0, #[]⟩,
  ⟨.none, none, fd (mt 189 0) "__init__" "Reading.__init__" 0 .none .none .none 0, #[]⟩,
  ⟨.type "code", none, .fields #[.str "__init__" 3733, .str "Reading.__init__" 3734, .str "/claim/cut.py" 3735, .int 1453 0, .int 1 0, .int 0 0, .int 0 0, .int 3 0, .ref 1992, .bool true, .int 181 0, .ref 1993, .none, .ref 1994, .ref 1995, .ref 1996, .int 3737 0, .int 1453 0, .str "/claim/cut.py" 3738], #[]⟩]
def ex_4 (w : World) : List Obj := [
  ⟨.type "function", none, fd (mt 189 0) "__init__" "Reading.__init__" 3 .none (.str "slumberway.reader" 3700) (.ref 1997) 0, #[]⟩,
  ⟨.type "tuple", none, .seq #[] 0, #[]⟩,
  ⟨.none, none, .fields #[], #[]⟩,
  ⟨.type "tuple", none, .seq #[.str "self" 3743, .str "state" 3744, .str "data" 3745] 0, #[]⟩,
  ⟨.type "tuple", none, .seq #[] 0, #[]⟩,
  ⟨.none, none, fd (mt 189 1) "begin" "Reading.begin" 0 .none .none .none 0, #[]⟩,
  ⟨.type "code", none, .fields #[.str "begin" 3740, .str "Reading.begin" 3741, .str "/claim/cut.py" 3742, .int 1458 0, .int 3 0, .int 0 0, .int 0 0, .int 3 0, .ref 1999, .bool true, .int 181 0, .ref 2000, .none, .ref 2001, .ref 2002, .ref 2003, .int 3746 0, .int 1458 0, .str "/claim/cut.py" 3747], #[]⟩,
  ⟨.type "function", none, fd (mt 189 1) "begin" "Reading.begin" 3 .none (.str "slumberway.reader" 3700) (.ref 2004) 0, #[]⟩,
  ⟨.type "tuple", none, .seq #[] 0, #[]⟩,
  ⟨.none, none, .fields #[], #[]⟩,
  ⟨.type "tuple", none, .seq #[.str "self" 3752, .str "word" 3753, .str "place" 3754, .str "states" 3755, .str "step" 3756, .str "close" 3757, .str "told" 3758] 0, #[]⟩,
  ⟨.type "tuple", none, .seq #[] 0, #[]⟩,
  ⟨.none, none, fd (mt 189 2) "step_around" "Reading.step_around" 0 .none .none .none 0, #[]⟩,
  ⟨.type "code", none, .fields #[.str "step_around" 3749, .str "Reading.step_around" 3750, .str "/claim/cut.py" 3751, .int 1463 0, .int 3 0, .int 0 0, .int 0 0, .int 3 0, .ref 2006, .bool true, .int 181 0, .ref 2007, .none, .ref 2008, .ref 2009, .ref 2010, .int 3759 0, .int 1463 0, .str "/claim/cut.py" 3760], #[]⟩,
  ⟨.type "function", none, fd (mt 189 2) "step_around" "Reading.step_around" 3 .none (.str "slumberway.reader" 3700) (.ref 2011) 0, #[]⟩,
  ⟨.type "tuple", none, .seq #[.str "data" 3762, .str "pile" 3763, .str "state" 3764] 0, #[]⟩,
  ⟨.type "dict", none, .dict #[en w "__module__" 3728 (.str "slumberway.reader" 3700), en w "__firstlineno__" 3732 (.int 1451 3731), en w "__init__" 3739 (.ref 1998), en w "begin" 3748 (.ref 2005), en w "step_around" 3761 (.ref 2012), en w "__static_attributes__" 3765 (.ref 2013), en w "__dict__" 3767 (.ref 2016), en w "__weakref__" 3769 (.ref 2017), en w "__doc__" 3770 .none] 4, #[]⟩,
  ⟨.type "type", none, .cls ⟨"Reading", [.type "object"], [.ref 2015, .type "object"], 2014, "Reading", true, [], [], false, none, false⟩, #[none, none, (some (.str "Reading" 3721)), (some (.str "Reading" 3729)), (some (.builtin "object.__new__")), (some (.bool true))]⟩,
  ⟨.type "getset_descriptor", none, .fields #[.str "__dict__" 3766, .ref 2015, .builtin "function.__dict__", .builtin "function.__dict__#set"], #[]⟩,
  ⟨.type "getset_descriptor", none, .fields #[.str "__weakref__" 3768, .ref 2015, .builtin "ExceptionGroup.__weakref__", .none], #[]⟩,
  ⟨.type "super", none, .fields #[.ref 2015, .ref 2015, .ref 2015], #[]⟩,
  ⟨.type "builtin_function_or_method", none, .fields #[.builtin "object.__init_subclass__", .ref 2015], #[]⟩,
  ⟨.type "tuple", none, .seq #[.str "Num" 3775, .str "Truth" 3776] 0, #[]⟩,
  ⟨.type "tuple", none, .seq #[.str "True" 3778, .str "False" 3779] 0, #[]⟩,
  ⟨.type "tuple", none, .seq #[] 0, #[]⟩,
  ⟨.none, none, .fields #[], #[]⟩,
  ⟨.none, none, fd (tp 193) "look" "look" 0 .none .none .none 0, #[]⟩,
  ⟨.type "code", none, .fields #[.str "look" 3781, .str "look" 3782, .str "/claim/cut.py" 3783, .int 1479 0, .int 1 0, .int 0 0, .int 0 0, .int 3 0, .ref 2022, .bool true, .int 181 0, .ref 2023, .none, .none, .none, .ref 2024, .int 3784 0, .int 1479 0, .str "/claim/cut.py" 3785], #[]⟩,
  ⟨.type "function", none, fd (tp 193) "look" "look" 3 .none (.str "slumberway.looked" 3773) (.ref 2025) 0, #[]⟩,
  ⟨.type "tuple", none, .seq #[] 0, #[]⟩,
  ⟨.none, none, .fields #[], #[]⟩,
  ⟨.type "tuple", none, .seq #[.str "faults" 3790] 0, #[]⟩,
  ⟨.type "tuple", none, .seq #[] 0, #[]⟩,
  ⟨.none, none, fd (tp 194) "first_of" "first_of" 0 .none .none .none 0, #[]⟩,
  ⟨.type "code", none, .fields #[.str "first_of" 3787, .str "first_of" 3788, .str "/claim/cut.py" 3789, .int 1497 0, .int 1 0, .int 0 0, .int 0 0, .int 3 0, .ref 2027, .bool true, .int 181 0, .ref 2028, .none, .ref 2029, .ref 2030, .ref 2031, .int 3791 0, .int 1497 0, .str "/claim/cut.py" 3792], #[]⟩,
  ⟨.type "function", none, fd (tp 194) "first_of" "first_of" 3 .none (.str "slumberway.looked" 3773) (.ref 2032) 0, #[]⟩,
  ⟨.type "tuple", none, .seq #[] 0, #[]⟩,
  ⟨.none, none, .fields #[], #[]⟩,
  ⟨.none, none, fd (tp 195) "repeated" "repeated" 0 .none .none .none 0, #[]⟩,
  ⟨.type "code", none, .fields #[.str "repeated" 3794, .str "repeated" 3795, .str "/claim/cut.py" 3796, .int 1499 0, .int 2 0, .int 0 0, .int 0 0, .int 3 0, .ref 2034, .bool true, .int 181 0, .ref 2035, .none, .none, .none, .ref 2036, .int 3797 0, .int 1499 0, .str "/claim/cut.py" 3798], #[]⟩,
  ⟨.type "function", none, fd (tp 195) "repeated" "repeated" 3 .none (.str "slumberway.looked" 3773) (.ref 2037) 0, #[]⟩,
  ⟨.type "tuple", none, .seq #[] 0, #[]⟩,
  ⟨.none, none, .fields #[], #[]⟩,
  ⟨.none, none, fd (tp 196) "twice_faults" "twice_faults" 0 .none .none .none 0, #[]⟩,
  ⟨.type "code", none, .fields #[.str "twice_faults" 3800, .str "twice_faults" 3801, .str "/claim/cut.py" 3802, .int 1508 0, .int 3 0, .int 0 0, .int 0 0, .int 3 0, .ref 2039, .bool true, .int 181 0, .ref 2040, .none, .none, .none, .ref 2041, .int 3803 0, .int 1508 0, .str "/claim/cut.py" 3804], #[]⟩,
  ⟨.type "function", none, fd (tp 196) "twice_faults" "twice_faults" 3 .none (.str "slumberway.looked" 3773) (.ref 2042) 0, #[]⟩,
  ⟨.type "tuple", none, .seq #[] 0, #[]⟩,
  ⟨.none, none, .fields #[], #[]⟩,
  ⟨.none, none, fd (tp 197) "count_faults" "count_faults" 0 .none .none .none 0, #[]⟩,
  ⟨.type "code", none, .fields #[.str "count_faults" 3806, .str "count_faults" 3807, .str "/claim/cut.py" 3808, .int 1519 0, .int 1 0, .int 0 0, .int 0 0, .int 3 0, .ref 2044, .bool true, .int 181 0, .ref 2045, .none, .none, .none, .ref 2046, .int 3809 0, .int 1519 0, .str "/claim/cut.py" 3810], #[]⟩,
  ⟨.type "function", none, fd (tp 197) "count_faults" "count_faults" 3 .none (.str "slumberway.looked" 3773) (.ref 2047) 0, #[]⟩,
  ⟨.type "tuple", none, .seq #[] 0, #[]⟩,
  ⟨.none, none, .fields #[], #[]⟩,
  ⟨.none, none, fd (tp 198) "kind_counts" "kind_counts" 0 .none .none .none 0, #[]⟩,
  ⟨.type "code", none, .fields #[.str "kind_counts" 3812, .str "kind_counts" 3813, .str "/claim/cut.py" 3814, .int 1526 0, .int 1 0, .int 0 0, .int 0 0, .int 3 0, .ref 2049, .bool true, .int 181 0, .ref 2050, .none, .none, .none, .ref 2051, .int 3815 0, .int 1526 0, .str "/claim/cut.py" 3816], #[]⟩,
  ⟨.type "function", none, fd (tp 198) "kind_counts" "kind_counts" 3 .none (.str "slumberway.looked" 3773) (.ref 2052) 0, #[]⟩,
  ⟨.type "tuple", none, .seq #[] 0, #[]⟩,
  ⟨.none, none, .fields #[], #[]⟩,
  ⟨.none, none, fd (tp 199) "maker_counts" "maker_counts" 0 .none .none .none 0, #[]⟩,
  ⟨.type "code", none, .fields #[.str "maker_counts" 3818, .str "maker_counts" 3819, .str "/claim/cut.py" 3820, .int 1531 0, .int 1 0, .int 0 0, .int 0 0, .int 3 0, .ref 2054, .bool true, .int 181 0, .ref 2055, .none, .none, .none, .ref 2056, .int 3821 0, .int 1531 0, .str "/claim/cut.py" 3822], #[]⟩]
def ex_5 (w : World) : List Obj := [
  ⟨.type "function", none, fd (tp 199) "maker_counts" "maker_counts" 3 .none (.str "slumberway.looked" 3773) (.ref 2057) 0, #[]⟩,
  ⟨.type "tuple", none, .seq #[] 0, #[]⟩,
  ⟨.none, none, .fields #[], #[]⟩,
  ⟨.none, none, fd (tp 200) "told_kinds" "told_kinds" 0 .none .none .none 0, #[]⟩,
  ⟨.type "code", none, .fields #[.str "told_kinds" 3824, .str "told_kinds" 3825, .str "/claim/cut.py" 3826, .int 1537 0, .int 1 0, .int 0 0, .int 0 0, .int 3 0, .ref 2059, .bool true, .int 181 0, .ref 2060, .none, .none, .none, .ref 2061, .int 3827 0, .int 1537 0, .str "/claim/cut.py" 3828], #[]⟩,
  ⟨.type "function", none, fd (tp 200) "told_kinds" "told_kinds" 3 .none (.str "slumberway.looked" 3773) (.ref 2062) 0, #[]⟩,
  ⟨.type "tuple", none, .seq #[] 0, #[]⟩,
  ⟨.none, none, .fields #[], #[]⟩,
  ⟨.none, none, fd (tp 201) "made_patterns" "made_patterns" 0 .none .none .none 0, #[]⟩,
  ⟨.type "code", none, .fields #[.str "made_patterns" 3830, .str "made_patterns" 3831, .str "/claim/cut.py" 3832, .int 1539 0, .int 1 0, .int 0 0, .int 0 0, .int 3 0, .ref 2064, .bool true, .int 181 0, .ref 2065, .none, .none, .none, .ref 2066, .int 3833 0, .int 1539 0, .str "/claim/cut.py" 3834], #[]⟩,
  ⟨.type "function", none, fd (tp 201) "made_patterns" "made_patterns" 3 .none (.str "slumberway.looked" 3773) (.ref 2067) 0, #[]⟩,
  ⟨.type "tuple", none, .seq #[] 0, #[]⟩,
  ⟨.none, none, .fields #[], #[]⟩,
  ⟨.none, none, fd (tp 202) "unknown_faults" "unknown_faults" 0 .none .none .none 0, #[]⟩,
  ⟨.type "code", none, .fields #[.str "unknown_faults" 3836, .str "unknown_faults" 3837, .str "/claim/cut.py" 3838, .int 1545 0, .int 3 0, .int 0 0, .int 0 0, .int 3 0, .ref 2069, .bool true, .int 181 0, .ref 2070, .none, .none, .none, .ref 2071, .int 3839 0, .int 1545 0, .str "/claim/cut.py" 3840], #[]⟩,
  ⟨.type "function", none, fd (tp 202) "unknown_faults" "unknown_faults" 3 .none (.str "slumberway.looked" 3773) (.ref 2072) 0, #[]⟩,
  ⟨.type "tuple", none, .seq #[] 0, #[]⟩,
  ⟨.none, none, .fields #[], #[]⟩,
  ⟨.none, none, fd (tp 203) "parts_faults" "parts_faults" 0 .none .none .none 0, #[]⟩,
  ⟨.type "code", none, .fields #[.str "parts_faults" 3842, .str "parts_faults" 3843, .str "/claim/cut.py" 3844, .int 1562 0, .int 2 0, .int 0 0, .int 0 0, .int 3 0, .ref 2074, .bool true, .int 181 0, .ref 2075, .none, .none, .none, .ref 2076, .int 3845 0, .int 1562 0, .str "/claim/cut.py" 3846], #[]⟩,
  ⟨.type "function", none, fd (tp 203) "parts_faults" "parts_faults" 3 .none (.str "slumberway.looked" 3773) (.ref 2077) 0, #[]⟩,
  ⟨.type "tuple", none, .seq #[] 0, #[]⟩,
  ⟨.none, none, .fields #[], #[]⟩,
  ⟨.type "tuple", none, .seq #[.str "tree" 3853, .str "is_kept" 3854, .str "judging" 3855] 0, #[]⟩,
  ⟨.type "tuple", none, .seq #[] 0, #[]⟩,
  ⟨.none, none, fd (tp 205) "judged" "judged" 0 .none .none .none 0, #[]⟩,
  ⟨.type "code", none, .fields #[.str "judged" 3850, .str "judged" 3851, .str "/claim/cut.py" 3852, .int 1573 0, .int 2 0, .int 0 0, .int 0 0, .int 3 0, .ref 2079, .bool true, .int 181 0, .ref 2080, .none, .ref 2081, .ref 2082, .ref 2083, .int 3856 0, .int 1573 0, .str "/claim/cut.py" 3857], #[]⟩,
  ⟨.type "function", none, fd (tp 205) "judged" "judged" 3 .none (.str "slumberway.judging" 3848) (.ref 2084) 0, #[]⟩,
  ⟨.type "tuple", none, .seq #[] 0, #[]⟩,
  ⟨.none, none, .fields #[], #[]⟩,
  ⟨.type "tuple", none, .seq #[.str "tree" 3862, .str "is_kept" 3863, .str "quick" 3864] 0, #[]⟩,
  ⟨.type "tuple", none, .seq #[] 0, #[]⟩,
  ⟨.none, none, fd (tp 206) "gone_through" "gone_through" 0 .none .none .none 0, #[]⟩,
  ⟨.type "code", none, .fields #[.str "gone_through" 3859, .str "gone_through" 3860, .str "/claim/cut.py" 3861, .int 1577 0, .int 2 0, .int 0 0, .int 0 0, .int 3 0, .ref 2086, .bool true, .int 181 0, .ref 2087, .none, .ref 2088, .ref 2089, .ref 2090, .int 3865 0, .int 1577 0, .str "/claim/cut.py" 3866], #[]⟩,
  ⟨.type "function", none, fd (tp 206) "gone_through" "gone_through" 3 .none (.str "slumberway.judging" 3848) (.ref 2091) 0, #[]⟩,
  ⟨.type "tuple", none, .seq #[] 0, #[]⟩,
  ⟨.none, none, .fields #[], #[]⟩,
  ⟨.type "tuple", none, .seq #[.str "judging" 3871, .str "ahead" 3872, .str "place" 3873, .str "one" 3874, .str "other" 3875, .str "names" 3876, .str "one_text" 3877, .str "other_text" 3878] 0, #[]⟩,
  ⟨.type "tuple", none, .seq #[] 0, #[]⟩,
  ⟨.none, none, fd (tp 207) "refuse_fault" "refuse_fault" 0 .none .none .none 0, #[]⟩,
  ⟨.type "code", none, .fields #[.str "refuse_fault" 3868, .str "refuse_fault" 3869, .str "/claim/cut.py" 3870, .int 1584 0, .int 1 0, .int 0 0, .int 0 0, .int 3 0, .ref 2093, .bool true, .int 181 0, .ref 2094, .none, .ref 2095, .ref 2096, .ref 2097, .int 3879 0, .int 1584 0, .str "/claim/cut.py" 3880], #[]⟩,
  ⟨.type "function", none, fd (tp 207) "refuse_fault" "refuse_fault" 3 .none (.str "slumberway.judging" 3848) (.ref 2098) 0, #[]⟩,
  ⟨.type "tuple", none, .seq #[] 0, #[]⟩,
  ⟨.none, none, .fields #[], #[]⟩,
  ⟨.type "tuple", none, .seq #[.str "solver" 3885, .str "found" 3886, .str "numbers" 3887, .str "told" 3888, .str "number" 3889, .str "_" 3890, .str "one" 3891, .str "other" 3892] 0, #[]⟩,
  ⟨.type "tuple", none, .seq #[] 0, #[]⟩,
  ⟨.none, none, fd (tp 208) "with_demands" "with_demands" 0 .none .none .none 0, #[]⟩,
  ⟨.type "code", none, .fields #[.str "with_demands" 3882, .str "with_demands" 3883, .str "/claim/cut.py" 3884, .int 1595 0, .int 3 0, .int 0 0, .int 0 0, .int 3 0, .ref 2100, .bool true, .int 181 0, .ref 2101, .none, .ref 2102, .ref 2103, .ref 2104, .int 3893 0, .int 1595 0, .str "/claim/cut.py" 3894], #[]⟩,
  ⟨.type "function", none, fd (tp 208) "with_demands" "with_demands" 3 .none (.str "slumberway.judging" 3848) (.ref 2105) 0, #[]⟩,
  ⟨.type "tuple", none, .seq #[] 0, #[]⟩,
  ⟨.type "builtin_function_or_method", none, .fields #[.builtin "type.__prepare__", .type "type"], #[]⟩,
  ⟨.type "dict", none, .dict #[en w "__module__" 3903 (.str "slumberway.judging" 3848), en w "__qualname__" 3905 (.str "Judging" 3904), en w "__firstlineno__" 3907 (.int 1606 3906), en w "__init__" 3913 (.ref 2118), en w "solve" 3919 (.ref 2123), en w "meet_demands" 3930 (.ref 2130), en w "base" 3937 (.ref 2137), en w "scheme" 3945 (.ref 2144), en w "top_text" 3953 (.ref 2151), en w "text_at" 3962 (.ref 2158), en w "maker_text" 3972 (.ref 2165), en w "__static_attributes__" 3980 (.ref 2166)] 12, #[]⟩,
  ⟨.type "tuple", none, .seq #[] 0, #[]⟩,
  ⟨.none, none, .fields #[.int 1608 0, .int 4 0, .ref 2117, .int 1617 0, .int 4 0, .ref 2122, .int 1629 0, .int 4 0, .ref 2129, .int 1638 0, .int 4 0, .ref 2136, .int 1641 0, .int 4 0, .ref 2143, .int 1644 0, .int 4 0, .ref 2150, .int 1647 0, .int 4 0, .ref 2157, .int 1650 0, .int 4 0, .ref 2164], #[]⟩,
  ⟨.type "code", none, .fields #[.str "Judging" 3898, .str "Judging" 3899, .str "/claim/cut.py" 3900, .int 1606 0, .int 0 0, .int 0 0, .int 0 0, .int 0 0, .ref 2110, .bool false, .int 181 0, .ref 2111, .none, .none, .none, .none, .int 3901 0, .int 1606 0, .str "/claim/cut.py" 3902], #[]⟩,
  ⟨.type "frame", none, .plain, #[(some (.ref 2112)), (some (.ref 3)), (some (.ref 2109)), none, (some (.str "slumberway.judging" 3848)), none, (some (.ref 0))]⟩,
  ⟨.type "tuple", none, .seq #[] 0, #[]⟩,
  ⟨.none, none, .fields #[], #[]⟩,
  ⟨.none, none, fd (mt 209 0) "__init__" "Judging.__init__" 0 .none .none .none 0, #[]⟩,
  ⟨.type "code", none, .fields #[.str "__init__" 3908, .str "Judging.__init__" 3909, .str "/claim/cut.py" 3910, .int 1608 0, .int 2 0, .int 0 0, .int 0 0, .int 3 0, .ref 2114, .bool true, .int 181 0, .ref 2115, .none, .none, .none, .ref 2116, .int 3911 0, .int 1608 0, .str "/claim/cut.py" 3912], #[]⟩]
def ex_6 (w : World) : List Obj := [
  ⟨.type "function", none, fd (mt 209 0) "__init__" "Judging.__init__" 3 .none (.str "slumberway.judging" 3848) (.ref 2117) 0, #[]⟩,
  ⟨.type "tuple", none, .seq #[] 0, #[]⟩,
  ⟨.none, none, .fields #[], #[]⟩,
  ⟨.none, none, fd (mt 209 1) "solve" "Judging.solve" 0 .none .none .none 0, #[]⟩,
  ⟨.type "code", none, .fields #[.str "solve" 3914, .str "Judging.solve" 3915, .str "/claim/cut.py" 3916, .int 1617 0, .int 2 0, .int 0 0, .int 0 0, .int 3 0, .ref 2119, .bool true, .int 181 0, .ref 2120, .none, .none, .none, .ref 2121, .int 3917 0, .int 1617 0, .str "/claim/cut.py" 3918], #[]⟩,
  ⟨.type "function", none, fd (mt 209 1) "solve" "Judging.solve" 3 .none (.str "slumberway.judging" 3848) (.ref 2122) 0, #[]⟩,
  ⟨.type "tuple", none, .seq #[] 0, #[]⟩,
  ⟨.none, none, .fields #[], #[]⟩,
  ⟨.type "tuple", none, .seq #[.str "self" 3923, .str "number" 3924, .str "_" 3925, .str "one" 3926, .str "other" 3927] 0, #[]⟩,
  ⟨.type "tuple", none, .seq #[] 0, #[]⟩,
  ⟨.none, none, fd (mt 209 2) "meet_demands" "Judging.meet_demands" 0 .none .none .none 0, #[]⟩,
  ⟨.type "code", none, .fields #[.str "meet_demands" 3920, .str "Judging.meet_demands" 3921, .str "/claim/cut.py" 3922, .int 1629 0, .int 1 0, .int 0 0, .int 0 0, .int 3 0, .ref 2124, .bool true, .int 181 0, .ref 2125, .none, .ref 2126, .ref 2127, .ref 2128, .int 3928 0, .int 1629 0, .str "/claim/cut.py" 3929], #[]⟩,
  ⟨.type "function", none, fd (mt 209 2) "meet_demands" "Judging.meet_demands" 3 .none (.str "slumberway.judging" 3848) (.ref 2129) 0, #[]⟩,
  ⟨.type "tuple", none, .seq #[] 0, #[]⟩,
  ⟨.none, none, .fields #[], #[]⟩,
  ⟨.type "tuple", none, .seq #[.str "self" 3934] 0, #[]⟩,
  ⟨.type "tuple", none, .seq #[] 0, #[]⟩,
  ⟨.none, none, fd (mt 209 3) "base" "Judging.base" 0 .none .none .none 0, #[]⟩,
  ⟨.type "code", none, .fields #[.str "base" 3931, .str "Judging.base" 3932, .str "/claim/cut.py" 3933, .int 1638 0, .int 1 0, .int 0 0, .int 0 0, .int 3 0, .ref 2131, .bool true, .int 181 0, .ref 2132, .none, .ref 2133, .ref 2134, .ref 2135, .int 3935 0, .int 1638 0, .str "/claim/cut.py" 3936], #[]⟩,
  ⟨.type "function", none, fd (mt 209 3) "base" "Judging.base" 3 .none (.str "slumberway.judging" 3848) (.ref 2136) 0, #[]⟩,
  ⟨.type "tuple", none, .seq #[] 0, #[]⟩,
  ⟨.none, none, .fields #[], #[]⟩,
  ⟨.type "tuple", none, .seq #[.str "self" 3941, .str "x" 3942] 0, #[]⟩,
  ⟨.type "tuple", none, .seq #[] 0, #[]⟩,
  ⟨.none, none, fd (mt 209 4) "scheme" "Judging.scheme" 0 .none .none .none 0, #[]⟩,
  ⟨.type "code", none, .fields #[.str "scheme" 3938, .str "Judging.scheme" 3939, .str "/claim/cut.py" 3940, .int 1641 0, .int 2 0, .int 0 0, .int 0 0, .int 3 0, .ref 2138, .bool true, .int 181 0, .ref 2139, .none, .ref 2140, .ref 2141, .ref 2142, .int 3943 0, .int 1641 0, .str "/claim/cut.py" 3944], #[]⟩,
  ⟨.type "function", none, fd (mt 209 4) "scheme" "Judging.scheme" 3 .none (.str "slumberway.judging" 3848) (.ref 2143) 0, #[]⟩,
  ⟨.type "tuple", none, .seq #[] 0, #[]⟩,
  ⟨.none, none, .fields #[], #[]⟩,
  ⟨.type "tuple", none, .seq #[.str "self" 3949, .str "x" 3950] 0, #[]⟩,
  ⟨.type "tuple", none, .seq #[] 0, #[]⟩,
  ⟨.none, none, fd (mt 209 5) "top_text" "Judging.top_text" 0 .none .none .none 0, #[]⟩,
  ⟨.type "code", none, .fields #[.str "top_text" 3946, .str "Judging.top_text" 3947, .str "/claim/cut.py" 3948, .int 1644 0, .int 2 0, .int 0 0, .int 0 0, .int 3 0, .ref 2145, .bool true, .int 181 0, .ref 2146, .none, .ref 2147, .ref 2148, .ref 2149, .int 3951 0, .int 1644 0, .str "/claim/cut.py" 3952], #[]⟩,
  ⟨.type "function", none, fd (mt 209 5) "top_text" "Judging.top_text" 3 .none (.str "slumberway.judging" 3848) (.ref 2150) 0, #[]⟩,
  ⟨.type "tuple", none, .seq #[] 0, #[]⟩,
  ⟨.none, none, .fields #[], #[]⟩,
  ⟨.type "tuple", none, .seq #[.str "self" 3957, .str "x" 3958, .str "e" 3959] 0, #[]⟩,
  ⟨.type "tuple", none, .seq #[] 0, #[]⟩,
  ⟨.none, none, fd (mt 209 6) "text_at" "Judging.text_at" 0 .none .none .none 0, #[]⟩,
  ⟨.type "code", none, .fields #[.str "text_at" 3954, .str "Judging.text_at" 3955, .str "/claim/cut.py" 3956, .int 1647 0, .int 3 0, .int 0 0, .int 0 0, .int 3 0, .ref 2152, .bool true, .int 181 0, .ref 2153, .none, .ref 2154, .ref 2155, .ref 2156, .int 3960 0, .int 1647 0, .str "/claim/cut.py" 3961], #[]⟩,
  ⟨.type "function", none, fd (mt 209 6) "text_at" "Judging.text_at" 3 .none (.str "slumberway.judging" 3848) (.ref 2157) 0, #[]⟩,
  ⟨.type "tuple", none, .seq #[] 0, #[]⟩,
  ⟨.none, none, .fields #[], #[]⟩,
  ⟨.type "tuple", none, .seq #[.str "self" 3966, .str "maker" 3967, .str "parts" 3968, .str "whole" 3969] 0, #[]⟩,
  ⟨.type "tuple", none, .seq #[] 0, #[]⟩,
  ⟨.none, none, fd (mt 209 7) "maker_text" "Judging.maker_text" 0 .none .none .none 0, #[]⟩,
  ⟨.type "code", none, .fields #[.str "maker_text" 3963, .str "Judging.maker_text" 3964, .str "/claim/cut.py" 3965, .int 1650 0, .int 2 0, .int 0 0, .int 0 0, .int 3 0, .ref 2159, .bool true, .int 181 0, .ref 2160, .none, .ref 2161, .ref 2162, .ref 2163, .int 3970 0, .int 1650 0, .str "/claim/cut.py" 3971], #[]⟩,
  ⟨.type "function", none, fd (mt 209 7) "maker_text" "Judging.maker_text" 3 .none (.str "slumberway.judging" 3848) (.ref 2164) 0, #[]⟩,
  ⟨.type "tuple", none, .seq #[.str "at" 3973, .str "demanding" 3974, .str "demands" 3975, .str "fault" 3976, .str "groups" 3977, .str "solver" 3978, .str "tops" 3979] 0, #[]⟩,
  ⟨.type "dict", none, .dict #[en w "__module__" 3903 (.str "slumberway.judging" 3848), en w "__firstlineno__" 3907 (.int 1606 3906), en w "__init__" 3913 (.ref 2118), en w "solve" 3919 (.ref 2123), en w "meet_demands" 3930 (.ref 2130), en w "base" 3937 (.ref 2137), en w "scheme" 3945 (.ref 2144), en w "top_text" 3953 (.ref 2151), en w "text_at" 3962 (.ref 2158), en w "maker_text" 3972 (.ref 2165), en w "__static_attributes__" 3980 (.ref 2166), en w "__dict__" 3982 (.ref 2169), en w "__weakref__" 3984 (.ref 2170), en w "__doc__" 3985 .none] 4, #[]⟩,
  ⟨.type "type", none, .cls ⟨"Judging", [.type "object"], [.ref 2168, .type "object"], 2167, "Judging", true, [], [], false, none, false⟩, #[none, none, (some (.str "Judging" 3896)), (some (.str "Judging" 3904)), (some (.builtin "object.__new__")), (some (.bool true))]⟩,
  ⟨.type "getset_descriptor", none, .fields #[.str "__dict__" 3981, .ref 2168, .builtin "function.__dict__", .builtin "function.__dict__#set"], #[]⟩,
  ⟨.type "getset_descriptor", none, .fields #[.str "__weakref__" 3983, .ref 2168, .builtin "ExceptionGroup.__weakref__", .none], #[]⟩,
  ⟨.type "super", none, .fields #[.ref 2168, .ref 2168, .ref 2168], #[]⟩,
  ⟨.type "builtin_function_or_method", none, .fields #[.builtin "object.__init_subclass__", .ref 2168], #[]⟩,
  ⟨.type "tuple", none, .seq #[] 0, #[]⟩,
  ⟨.none, none, .fields #[], #[]⟩,
  ⟨.none, none, fd (tp 211) "kind_texts" "kind_texts" 0 .none .none .none 0, #[]⟩,
  ⟨.type "code", none, .fields #[.str "kind_texts" 3990, .str "kind_texts" 3991, .str "/claim/cut.py" 3992, .int 1654 0, .int 1 0, .int 0 0, .int 0 0, .int 3 0, .ref 2173, .bool true, .int 181 0, .ref 2174, .none, .none, .none, .ref 2175, .int 3993 0, .int 1654 0, .str "/claim/cut.py" 3994], #[]⟩,
  ⟨.type "function", none, fd (tp 211) "kind_texts" "kind_texts" 3 .none (.str "slumberway.kinds" 3988) (.ref 2176) 0, #[]⟩]
def ex_7 (w : World) : List Obj := [
  ⟨.type "tuple", none, .seq #[] 0, #[]⟩,
  ⟨.type "builtin_function_or_method", none, .fields #[.builtin "type.__prepare__", .type "type"], #[]⟩,
  ⟨.type "dict", none, .dict #[en w "__module__" 4005 (.str "slumberway.texts" 3996), en w "__qualname__" 4007 (.str "Text" 4006), en w "__firstlineno__" 4009 (.int 1657 4008), en w "__init__" 4017 (.ref 2191), en w "look" 4032 (.ref 2198), en w "fault" 4039 (.ref 2205), en w "kinds" 4046 (.ref 2212), en w "kind_at" 4054 (.ref 2219), en w "program" 4062 (.ref 2226), en w "right_program" 4070 (.ref 2233), en w "row_list" 4078 (.ref 2240), en w "groups" 4084 (.ref 2245), en w "__static_attributes__" 4095 (.ref 2246)] 13, #[]⟩,
  ⟨.type "tuple", none, .seq #[] 0, #[]⟩,
  ⟨.none, none, .fields #[.int 1659 0, .int 4 0, .ref 2190, .int 1671 0, .int 4 0, .ref 2197, .int 1694 0, .int 4 0, .ref 2204, .int 1699 0, .int 4 0, .ref 2211, .int 1702 0, .int 4 0, .ref 2218, .int 1705 0, .int 4 0, .ref 2225, .int 1708 0, .int 4 0, .ref 2232, .int 1711 0, .int 4 0, .ref 2239, .int 1714 0, .int 4 0, .ref 2244], #[]⟩,
  ⟨.type "code", none, .fields #[.str "Text" 4000, .str "Text" 4001, .str "/claim/cut.py" 4002, .int 1657 0, .int 0 0, .int 0 0, .int 0 0, .int 0 0, .ref 2181, .bool false, .int 181 0, .ref 2182, .none, .none, .none, .none, .int 4003 0, .int 1657 0, .str "/claim/cut.py" 4004], #[]⟩,
  ⟨.type "frame", none, .plain, #[(some (.ref 2183)), (some (.ref 3)), (some (.ref 2180)), none, (some (.str "slumberway.texts" 3996)), none, (some (.ref 0))]⟩,
  ⟨.type "tuple", none, .seq #[] 0, #[]⟩,
  ⟨.none, none, .fields #[], #[]⟩,
  ⟨.type "tuple", none, .seq #[.str "self" 4013, .str "rows" 4014] 0, #[]⟩,
  ⟨.type "tuple", none, .seq #[] 0, #[]⟩,
  ⟨.none, none, fd (mt 213 0) "__init__" "Text.__init__" 0 .none .none .none 0, #[]⟩,
  ⟨.type "code", none, .fields #[.str "__init__" 4010, .str "Text.__init__" 4011, .str "/claim/cut.py" 4012, .int 1659 0, .int 2 0, .int 0 0, .int 0 0, .int 3 0, .ref 2185, .bool true, .int 181 0, .ref 2186, .none, .ref 2187, .ref 2188, .ref 2189, .int 4015 0, .int 1659 0, .str "/claim/cut.py" 4016], #[]⟩,
  ⟨.type "function", none, fd (mt 213 0) "__init__" "Text.__init__" 3 .none (.str "slumberway.texts" 3996) (.ref 2190) 0, #[]⟩,
  ⟨.type "tuple", none, .seq #[] 0, #[]⟩,
  ⟨.none, none, .fields #[], #[]⟩,
  ⟨.type "tuple", none, .seq #[.str "self" 4021, .str "no_sign" 4022, .str "no_reading" 4023, .str "twice" 4024, .str "counts" 4025, .str "parts" 4026, .str "unknown" 4027, .str "clash" 4028, .str "endless" 4029] 0, #[]⟩,
  ⟨.type "tuple", none, .seq #[] 0, #[]⟩,
  ⟨.none, none, fd (mt 213 1) "look" "Text.look" 0 .none .none .none 0, #[]⟩,
  ⟨.type "code", none, .fields #[.str "look" 4018, .str "Text.look" 4019, .str "/claim/cut.py" 4020, .int 1671 0, .int 1 0, .int 0 0, .int 0 0, .int 3 0, .ref 2192, .bool true, .int 181 0, .ref 2193, .none, .ref 2194, .ref 2195, .ref 2196, .int 4030 0, .int 1671 0, .str "/claim/cut.py" 4031], #[]⟩,
  ⟨.type "function", none, fd (mt 213 1) "look" "Text.look" 3 .none (.str "slumberway.texts" 3996) (.ref 2197) 0, #[]⟩,
  ⟨.type "tuple", none, .seq #[] 0, #[]⟩,
  ⟨.none, none, .fields #[], #[]⟩,
  ⟨.type "tuple", none, .seq #[.str "self" 4036] 0, #[]⟩,
  ⟨.type "tuple", none, .seq #[] 0, #[]⟩,
  ⟨.none, none, fd (mt 213 2) "fault" "Text.fault" 0 .none .none .none 0, #[]⟩,
  ⟨.type "code", none, .fields #[.str "fault" 4033, .str "Text.fault" 4034, .str "/claim/cut.py" 4035, .int 1694 0, .int 1 0, .int 0 0, .int 0 0, .int 3 0, .ref 2199, .bool true, .int 181 0, .ref 2200, .none, .ref 2201, .ref 2202, .ref 2203, .int 4037 0, .int 1694 0, .str "/claim/cut.py" 4038], #[]⟩,
  ⟨.type "function", none, fd (mt 213 2) "fault" "Text.fault" 3 .none (.str "slumberway.texts" 3996) (.ref 2204) 0, #[]⟩,
  ⟨.type "tuple", none, .seq #[] 0, #[]⟩,
  ⟨.none, none, .fields #[], #[]⟩,
  ⟨.type "tuple", none, .seq #[.str "self" 4043] 0, #[]⟩,
  ⟨.type "tuple", none, .seq #[] 0, #[]⟩,
  ⟨.none, none, fd (mt 213 3) "kinds" "Text.kinds" 0 .none .none .none 0, #[]⟩,
  ⟨.type "code", none, .fields #[.str "kinds" 4040, .str "Text.kinds" 4041, .str "/claim/cut.py" 4042, .int 1699 0, .int 1 0, .int 0 0, .int 0 0, .int 3 0, .ref 2206, .bool true, .int 181 0, .ref 2207, .none, .ref 2208, .ref 2209, .ref 2210, .int 4044 0, .int 1699 0, .str "/claim/cut.py" 4045], #[]⟩,
  ⟨.type "function", none, fd (mt 213 3) "kinds" "Text.kinds" 3 .none (.str "slumberway.texts" 3996) (.ref 2211) 0, #[]⟩,
  ⟨.type "tuple", none, .seq #[] 0, #[]⟩,
  ⟨.none, none, .fields #[], #[]⟩,
  ⟨.type "tuple", none, .seq #[.str "self" 4050, .str "address" 4051] 0, #[]⟩,
  ⟨.type "tuple", none, .seq #[] 0, #[]⟩,
  ⟨.none, none, fd (mt 213 4) "kind_at" "Text.kind_at" 0 .none .none .none 0, #[]⟩,
  ⟨.type "code", none, .fields #[.str "kind_at" 4047, .str "Text.kind_at" 4048, .str "/claim/cut.py" 4049, .int 1702 0, .int 2 0, .int 0 0, .int 0 0, .int 3 0, .ref 2213, .bool true, .int 181 0, .ref 2214, .none, .ref 2215, .ref 2216, .ref 2217, .int 4052 0, .int 1702 0, .str "/claim/cut.py" 4053], #[]⟩,
  ⟨.type "function", none, fd (mt 213 4) "kind_at" "Text.kind_at" 3 .none (.str "slumberway.texts" 3996) (.ref 2218) 0, #[]⟩,
  ⟨.type "tuple", none, .seq #[] 0, #[]⟩,
  ⟨.none, none, .fields #[], #[]⟩,
  ⟨.type "tuple", none, .seq #[.str "self" 4058, .str "is_turned" 4059] 0, #[]⟩,
  ⟨.type "tuple", none, .seq #[] 0, #[]⟩,
  ⟨.none, none, fd (mt 213 5) "program" "Text.program" 0 .none .none .none 0, #[]⟩,
  ⟨.type "code", none, .fields #[.str "program" 4055, .str "Text.program" 4056, .str "/claim/cut.py" 4057, .int 1705 0, .int 2 0, .int 0 0, .int 0 0, .int 3 0, .ref 2220, .bool true, .int 181 0, .ref 2221, .none, .ref 2222, .ref 2223, .ref 2224, .int 4060 0, .int 1705 0, .str "/claim/cut.py" 4061], #[]⟩,
  ⟨.type "function", none, fd (mt 213 5) "program" "Text.program" 3 .none (.str "slumberway.texts" 3996) (.ref 2225) 0, #[]⟩,
  ⟨.type "tuple", none, .seq #[] 0, #[]⟩,
  ⟨.none, none, .fields #[], #[]⟩,
  ⟨.type "tuple", none, .seq #[.str "self" 4066, .str "is_turned" 4067] 0, #[]⟩,
  ⟨.type "tuple", none, .seq #[] 0, #[]⟩,
  ⟨.none, none, fd (mt 213 6) "right_program" "Text.right_program" 0 .none .none .none 0, #[]⟩,
  ⟨.type "code", none, .fields #[.str "right_program" 4063, .str "Text.right_program" 4064, .str "/claim/cut.py" 4065, .int 1708 0, .int 2 0, .int 0 0, .int 0 0, .int 3 0, .ref 2227, .bool true, .int 181 0, .ref 2228, .none, .ref 2229, .ref 2230, .ref 2231, .int 4068 0, .int 1708 0, .str "/claim/cut.py" 4069], #[]⟩,
  ⟨.type "function", none, fd (mt 213 6) "right_program" "Text.right_program" 3 .none (.str "slumberway.texts" 3996) (.ref 2232) 0, #[]⟩,
  ⟨.type "tuple", none, .seq #[] 0, #[]⟩,
  ⟨.none, none, .fields #[], #[]⟩,
  ⟨.type "tuple", none, .seq #[.str "self" 4074, .str "is_turned" 4075] 0, #[]⟩,
  ⟨.type "tuple", none, .seq #[] 0, #[]⟩]
def ex_8 (w : World) : List Obj := [
  ⟨.none, none, fd (mt 213 7) "row_list" "Text.row_list" 0 .none .none .none 0, #[]⟩,
  ⟨.type "code", none, .fields #[.str "row_list" 4071, .str "Text.row_list" 4072, .str "/claim/cut.py" 4073, .int 1711 0, .int 2 0, .int 0 0, .int 0 0, .int 3 0, .ref 2234, .bool true, .int 181 0, .ref 2235, .none, .ref 2236, .ref 2237, .ref 2238, .int 4076 0, .int 1711 0, .str "/claim/cut.py" 4077], #[]⟩,
  ⟨.type "function", none, fd (mt 213 7) "row_list" "Text.row_list" 3 .none (.str "slumberway.texts" 3996) (.ref 2239) 0, #[]⟩,
  ⟨.type "tuple", none, .seq #[] 0, #[]⟩,
  ⟨.none, none, .fields #[], #[]⟩,
  ⟨.none, none, fd (mt 213 8) "groups" "Text.groups" 0 .none .none .none 0, #[]⟩,
  ⟨.type "code", none, .fields #[.str "groups" 4079, .str "Text.groups" 4080, .str "/claim/cut.py" 4081, .int 1714 0, .int 1 0, .int 0 0, .int 0 0, .int 3 0, .ref 2241, .bool true, .int 181 0, .ref 2242, .none, .none, .none, .ref 2243, .int 4082 0, .int 1714 0, .str "/claim/cut.py" 4083], #[]⟩,
  ⟨.type "function", none, fd (mt 213 8) "groups" "Text.groups" 3 .none (.str "slumberway.texts" 3996) (.ref 2244) 0, #[]⟩,
  ⟨.type "tuple", none, .seq #[.str "group_list" 4085, .str "is_right" 4086, .str "judging" 4087, .str "kept" 4088, .str "laid" 4089, .str "programs" 4090, .str "refused" 4091, .str "row_lists" 4092, .str "text" 4093, .str "tree" 4094] 0, #[]⟩,
  ⟨.type "dict", none, .dict #[en w "__module__" 4005 (.str "slumberway.texts" 3996), en w "__firstlineno__" 4009 (.int 1657 4008), en w "__init__" 4017 (.ref 2191), en w "look" 4032 (.ref 2198), en w "fault" 4039 (.ref 2205), en w "kinds" 4046 (.ref 2212), en w "kind_at" 4054 (.ref 2219), en w "program" 4062 (.ref 2226), en w "right_program" 4070 (.ref 2233), en w "row_list" 4078 (.ref 2240), en w "groups" 4084 (.ref 2245), en w "__static_attributes__" 4095 (.ref 2246), en w "__dict__" 4097 (.ref 2249), en w "__weakref__" 4099 (.ref 2250), en w "__doc__" 4100 .none] 4, #[]⟩,
  ⟨.type "type", none, .cls ⟨"Text", [.type "object"], [.ref 2248, .type "object"], 2247, "Text", true, [], [], false, none, false⟩, #[none, none, (some (.str "Text" 3998)), (some (.str "Text" 4006)), (some (.builtin "object.__new__")), (some (.bool true))]⟩,
  ⟨.type "getset_descriptor", none, .fields #[.str "__dict__" 4096, .ref 2248, .builtin "function.__dict__", .builtin "function.__dict__#set"], #[]⟩,
  ⟨.type "getset_descriptor", none, .fields #[.str "__weakref__" 4098, .ref 2248, .builtin "ExceptionGroup.__weakref__", .none], #[]⟩,
  ⟨.type "super", none, .fields #[.ref 2248, .ref 2248, .ref 2248], #[]⟩,
  ⟨.type "builtin_function_or_method", none, .fields #[.builtin "object.__init_subclass__", .ref 2248], #[]⟩,
  ⟨.type "tuple", none, .seq #[] 0, #[]⟩,
  ⟨.none, none, .fields #[], #[]⟩,
  ⟨.none, none, fd (tp 214) "def_pieces" "def_pieces" 0 .none .none .none 0, #[]⟩,
  ⟨.type "code", none, .fields #[.str "def_pieces" 4103, .str "def_pieces" 4104, .str "/claim/cut.py" 4105, .int 1720 0, .int 2 0, .int 0 0, .int 0 0, .int 3 0, .ref 2253, .bool true, .int 181 0, .ref 2254, .none, .none, .none, .ref 2255, .int 4106 0, .int 1720 0, .str "/claim/cut.py" 4107], #[]⟩,
  ⟨.type "function", none, fd (tp 214) "def_pieces" "def_pieces" 3 .none (.str "slumberway.texts" 3996) (.ref 2256) 0, #[]⟩,
  ⟨.type "tuple", none, .seq #[] 0, #[]⟩,
  ⟨.type "builtin_function_or_method", none, .fields #[.builtin "type.__prepare__", .type "type"], #[]⟩,
  ⟨.type "dict", none, .dict #[en w "__module__" 4116 (.str "slumberway.texts" 3996), en w "__qualname__" 4118 (.str "Group" 4117), en w "__firstlineno__" 4120 (.int 1733 4119), en w "__init__" 4126 (.ref 2269), en w "is_same" 4134 (.ref 2276), en w "__static_attributes__" 4138 (.ref 2277)] 6, #[]⟩,
  ⟨.type "tuple", none, .seq #[] 0, #[]⟩,
  ⟨.none, none, .fields #[.int 1735 0, .int 4 0, .ref 2268, .int 1744 0, .int 4 0, .ref 2275], #[]⟩,
  ⟨.type "code", none, .fields #[.str "Group" 4111, .str "Group" 4112, .str "/claim/cut.py" 4113, .int 1733 0, .int 0 0, .int 0 0, .int 0 0, .int 0 0, .ref 2261, .bool false, .int 181 0, .ref 2262, .none, .none, .none, .none, .int 4114 0, .int 1733 0, .str "/claim/cut.py" 4115], #[]⟩,
  ⟨.type "frame", none, .plain, #[(some (.ref 2263)), (some (.ref 3)), (some (.ref 2260)), none, (some (.str "slumberway.texts" 3996)), none, (some (.ref 0))]⟩,
  ⟨.type "tuple", none, .seq #[] 0, #[]⟩,
  ⟨.none, none, .fields #[], #[]⟩,
  ⟨.none, none, fd (mt 215 0) "__init__" "Group.__init__" 0 .none .none .none 0, #[]⟩,
  ⟨.type "code", none, .fields #[.str "__init__" 4121, .str "Group.__init__" 4122, .str "/claim/cut.py" 4123, .int 1735 0, .int 5 0, .int 0 0, .int 0 0, .int 3 0, .ref 2265, .bool true, .int 181 0, .ref 2266, .none, .none, .none, .ref 2267, .int 4124 0, .int 1735 0, .str "/claim/cut.py" 4125], #[]⟩,
  ⟨.type "function", none, fd (mt 215 0) "__init__" "Group.__init__" 3 .none (.str "slumberway.texts" 3996) (.ref 2268) 0, #[]⟩,
  ⟨.type "tuple", none, .seq #[] 0, #[]⟩,
  ⟨.none, none, .fields #[], #[]⟩,
  ⟨.type "tuple", none, .seq #[.str "self" 4130, .str "other" 4131] 0, #[]⟩,
  ⟨.type "tuple", none, .seq #[] 0, #[]⟩,
  ⟨.none, none, fd (mt 215 1) "is_same" "Group.is_same" 0 .none .none .none 0, #[]⟩,
  ⟨.type "code", none, .fields #[.str "is_same" 4127, .str "Group.is_same" 4128, .str "/claim/cut.py" 4129, .int 1744 0, .int 2 0, .int 0 0, .int 0 0, .int 3 0, .ref 2270, .bool true, .int 181 0, .ref 2271, .none, .ref 2272, .ref 2273, .ref 2274, .int 4132 0, .int 1744 0, .str "/claim/cut.py" 4133], #[]⟩,
  ⟨.type "function", none, fd (mt 215 1) "is_same" "Group.is_same" 3 .none (.str "slumberway.texts" 3996) (.ref 2275) 0, #[]⟩,
  ⟨.type "tuple", none, .seq #[.str "defs" 4135, .str "names" 4136, .str "used" 4137] 0, #[]⟩,
  ⟨.type "dict", none, .dict #[en w "__module__" 4116 (.str "slumberway.texts" 3996), en w "__firstlineno__" 4120 (.int 1733 4119), en w "__init__" 4126 (.ref 2269), en w "is_same" 4134 (.ref 2276), en w "__static_attributes__" 4138 (.ref 2277), en w "__dict__" 4140 (.ref 2280), en w "__weakref__" 4142 (.ref 2281), en w "__doc__" 4143 .none] 4, #[]⟩,
  ⟨.type "type", none, .cls ⟨"Group", [.type "object"], [.ref 2279, .type "object"], 2278, "Group", true, [], [], false, none, false⟩, #[none, none, (some (.str "Group" 4109)), (some (.str "Group" 4117)), (some (.builtin "object.__new__")), (some (.bool true))]⟩,
  ⟨.type "getset_descriptor", none, .fields #[.str "__dict__" 4139, .ref 2279, .builtin "function.__dict__", .builtin "function.__dict__#set"], #[]⟩,
  ⟨.type "getset_descriptor", none, .fields #[.str "__weakref__" 4141, .ref 2279, .builtin "ExceptionGroup.__weakref__", .none], #[]⟩,
  ⟨.type "super", none, .fields #[.ref 2279, .ref 2279, .ref 2279], #[]⟩,
  ⟨.type "builtin_function_or_method", none, .fields #[.builtin "object.__init_subclass__", .ref 2279], #[]⟩,
  ⟨.type "tuple", none, .seq #[] 0, #[]⟩,
  ⟨.none, none, .fields #[], #[]⟩,
  ⟨.none, none, fd (tp 216) "used_makers" "used_makers" 0 .none .none .none 0, #[]⟩,
  ⟨.type "code", none, .fields #[.str "used_makers" 4146, .str "used_makers" 4147, .str "/claim/cut.py" 4148, .int 1746 0, .int 1 0, .int 0 0, .int 0 0, .int 3 0, .ref 2284, .bool true, .int 181 0, .ref 2285, .none, .none, .none, .ref 2286, .int 4149 0, .int 1746 0, .str "/claim/cut.py" 4150], #[]⟩,
  ⟨.type "function", none, fd (tp 216) "used_makers" "used_makers" 3 .none (.str "slumberway.texts" 3996) (.ref 2287) 0, #[]⟩,
  ⟨.type "tuple", none, .seq #[.int 0 4158, .int 0 4159, .int 0 4160] 0, #[]⟩,
  ⟨.type "tuple", none, .seq #[] 0, #[]⟩,
  ⟨.type "builtin_function_or_method", none, .fields #[.builtin "type.__prepare__", .type "type"], #[]⟩,
  ⟨.type "dict", none, .dict #[en w "__module__" 4171 (.str "slumberway.workshop" 4152), en w "__qualname__" 4173 (.str "State" 4172), en w "__firstlineno__" 4175 (.int 1759 4174), en w "__init__" 4185 (.ref 2303), en w "text" 4192 (.ref 2310), en w "is_whole" 4199 (.ref 2317), en w "fade" 4206 (.ref 2324), en w "last_whole" 4213 (.ref 2331), en w "__static_attributes__" 4221 (.ref 2332)] 9, #[]⟩,
  ⟨.type "tuple", none, .seq #[] 0, #[]⟩,
  ⟨.none, none, .fields #[.int 1761 0, .int 4 0, .ref 2302, .int 1770 0, .int 4 0, .ref 2309, .int 1775 0, .int 4 0, .ref 2316, .int 1778 0, .int 4 0, .ref 2323, .int 1783 0, .int 4 0, .ref 2330], #[]⟩,
  ⟨.type "code", none, .fields #[.str "State" 4166, .str "State" 4167, .str "/claim/cut.py" 4168, .int 1759 0, .int 0 0, .int 0 0, .int 0 0, .int 0 0, .ref 2293, .bool false, .int 181 0, .ref 2294, .none, .none, .none, .none, .int 4169 0, .int 1759 0, .str "/claim/cut.py" 4170], #[]⟩,
  ⟨.type "frame", none, .plain, #[(some (.ref 2295)), (some (.ref 3)), (some (.ref 2292)), none, (some (.str "slumberway.workshop" 4152)), none, (some (.ref 0))]⟩,
  ⟨.type "tuple", none, .seq #[] 0, #[]⟩]
def ex_9 (w : World) : List Obj := [
  ⟨.none, none, .fields #[], #[]⟩,
  ⟨.type "tuple", none, .seq #[.str "self" 4179, .str "lines" 4180, .str "sums" 4181, .str "ahead" 4182] 0, #[]⟩,
  ⟨.type "tuple", none, .seq #[] 0, #[]⟩,
  ⟨.none, none, fd (mt 222 0) "__init__" "State.__init__" 0 .none .none .none 0, #[]⟩,
  ⟨.type "code", none, .fields #[.str "__init__" 4176, .str "State.__init__" 4177, .str "/claim/cut.py" 4178, .int 1761 0, .int 4 0, .int 0 0, .int 0 0, .int 3 0, .ref 2297, .bool true, .int 181 0, .ref 2298, .none, .ref 2299, .ref 2300, .ref 2301, .int 4183 0, .int 1761 0, .str "/claim/cut.py" 4184], #[]⟩,
  ⟨.type "function", none, fd (mt 222 0) "__init__" "State.__init__" 3 .none (.str "slumberway.workshop" 4152) (.ref 2302) 0, #[]⟩,
  ⟨.type "tuple", none, .seq #[] 0, #[]⟩,
  ⟨.none, none, .fields #[], #[]⟩,
  ⟨.type "tuple", none, .seq #[.str "self" 4189] 0, #[]⟩,
  ⟨.type "tuple", none, .seq #[] 0, #[]⟩,
  ⟨.none, none, fd (mt 222 1) "text" "State.text" 0 .none .none .none 0, #[]⟩,
  ⟨.type "code", none, .fields #[.str "text" 4186, .str "State.text" 4187, .str "/claim/cut.py" 4188, .int 1770 0, .int 1 0, .int 0 0, .int 0 0, .int 3 0, .ref 2304, .bool true, .int 181 0, .ref 2305, .none, .ref 2306, .ref 2307, .ref 2308, .int 4190 0, .int 1770 0, .str "/claim/cut.py" 4191], #[]⟩,
  ⟨.type "function", none, fd (mt 222 1) "text" "State.text" 3 .none (.str "slumberway.workshop" 4152) (.ref 2309) 0, #[]⟩,
  ⟨.type "tuple", none, .seq #[] 0, #[]⟩,
  ⟨.none, none, .fields #[], #[]⟩,
  ⟨.type "tuple", none, .seq #[.str "self" 4196] 0, #[]⟩,
  ⟨.type "tuple", none, .seq #[] 0, #[]⟩,
  ⟨.none, none, fd (mt 222 2) "is_whole" "State.is_whole" 0 .none .none .none 0, #[]⟩,
  ⟨.type "code", none, .fields #[.str "is_whole" 4193, .str "State.is_whole" 4194, .str "/claim/cut.py" 4195, .int 1775 0, .int 1 0, .int 0 0, .int 0 0, .int 3 0, .ref 2311, .bool true, .int 181 0, .ref 2312, .none, .ref 2313, .ref 2314, .ref 2315, .int 4197 0, .int 1775 0, .str "/claim/cut.py" 4198], #[]⟩,
  ⟨.type "function", none, fd (mt 222 2) "is_whole" "State.is_whole" 3 .none (.str "slumberway.workshop" 4152) (.ref 2316) 0, #[]⟩,
  ⟨.type "tuple", none, .seq #[] 0, #[]⟩,
  ⟨.none, none, .fields #[], #[]⟩,
  ⟨.type "tuple", none, .seq #[.str "self" 4203] 0, #[]⟩,
  ⟨.type "tuple", none, .seq #[] 0, #[]⟩,
  ⟨.none, none, fd (mt 222 3) "fade" "State.fade" 0 .none .none .none 0, #[]⟩,
  ⟨.type "code", none, .fields #[.str "fade" 4200, .str "State.fade" 4201, .str "/claim/cut.py" 4202, .int 1778 0, .int 1 0, .int 0 0, .int 0 0, .int 3 0, .ref 2318, .bool true, .int 181 0, .ref 2319, .none, .ref 2320, .ref 2321, .ref 2322, .int 4204 0, .int 1778 0, .str "/claim/cut.py" 4205], #[]⟩,
  ⟨.type "function", none, fd (mt 222 3) "fade" "State.fade" 3 .none (.str "slumberway.workshop" 4152) (.ref 2323) 0, #[]⟩,
  ⟨.type "tuple", none, .seq #[] 0, #[]⟩,
  ⟨.none, none, .fields #[], #[]⟩,
  ⟨.type "tuple", none, .seq #[.str "self" 4210] 0, #[]⟩,
  ⟨.type "tuple", none, .seq #[] 0, #[]⟩,
  ⟨.none, none, fd (mt 222 4) "last_whole" "State.last_whole" 0 .none .none .none 0, #[]⟩,
  ⟨.type "code", none, .fields #[.str "last_whole" 4207, .str "State.last_whole" 4208, .str "/claim/cut.py" 4209, .int 1783 0, .int 1 0, .int 0 0, .int 0 0, .int 3 0, .ref 2325, .bool true, .int 181 0, .ref 2326, .none, .ref 2327, .ref 2328, .ref 2329, .int 4211 0, .int 1783 0, .str "/claim/cut.py" 4212], #[]⟩,
  ⟨.type "function", none, fd (mt 222 4) "last_whole" "State.last_whole" 3 .none (.str "slumberway.workshop" 4152) (.ref 2330) 0, #[]⟩,
  ⟨.type "tuple", none, .seq #[.str "ahead" 4214, .str "is_led" 4215, .str "last" 4216, .str "lines" 4217, .str "looked" 4218, .str "sums" 4219, .str "wholeness" 4220] 0, #[]⟩,
  ⟨.type "dict", none, .dict #[en w "__module__" 4171 (.str "slumberway.workshop" 4152), en w "__firstlineno__" 4175 (.int 1759 4174), en w "__init__" 4185 (.ref 2303), en w "text" 4192 (.ref 2310), en w "is_whole" 4199 (.ref 2317), en w "fade" 4206 (.ref 2324), en w "last_whole" 4213 (.ref 2331), en w "__static_attributes__" 4221 (.ref 2332), en w "__dict__" 4223 (.ref 2335), en w "__weakref__" 4225 (.ref 2336), en w "__doc__" 4226 .none] 4, #[]⟩,
  ⟨.type "type", none, .cls ⟨"State", [.type "object"], [.ref 2334, .type "object"], 2333, "State", true, [], [], false, none, false⟩, #[none, none, (some (.str "State" 4164)), (some (.str "State" 4172)), (some (.builtin "object.__new__")), (some (.bool true))]⟩,
  ⟨.type "getset_descriptor", none, .fields #[.str "__dict__" 4222, .ref 2334, .builtin "function.__dict__", .builtin "function.__dict__#set"], #[]⟩,
  ⟨.type "getset_descriptor", none, .fields #[.str "__weakref__" 4224, .ref 2334, .builtin "ExceptionGroup.__weakref__", .none], #[]⟩,
  ⟨.type "super", none, .fields #[.ref 2334, .ref 2334, .ref 2334], #[]⟩,
  ⟨.type "builtin_function_or_method", none, .fields #[.builtin "object.__init_subclass__", .ref 2334], #[]⟩,
  ⟨.type "tuple", none, .seq #[] 0, #[]⟩,
  ⟨.type "builtin_function_or_method", none, .fields #[.builtin "type.__prepare__", .type "type"], #[]⟩,
  ⟨.type "dict", none, .dict #[en w "__module__" 4236 (.str "slumberway.workshop" 4152), en w "__qualname__" 4238 (.str "Workshop" 4237), en w "__firstlineno__" 4240 (.int 1785 4239), en w "__init__" 4247 (.ref 2352), en w "begin" 4258 (.ref 2359), en w "put" 4269 (.ref 2366), en w "cut" 4279 (.ref 2373), en w "change" 4290 (.ref 2380), en w "back" 4297 (.ref 2387), en w "rows" 4304 (.ref 2394), en w "fault" 4311 (.ref 2401), en w "whole_text" 4319 (.ref 2408), en w "kinds" 4326 (.ref 2415), en w "kind_at" 4334 (.ref 2422), en w "core" 4341 (.ref 2429), en w "ask" 4359 (.ref 2437), en w "settled" 4366 (.ref 2444), en w "costs" 4373 (.ref 2451), en w "__static_attributes__" 4375 (.ref 2452)] 19, #[]⟩,
  ⟨.type "tuple", none, .seq #[] 0, #[]⟩,
  ⟨.none, none, .fields #[.int 1787 0, .int 4 0, .ref 2351, .int 1790 0, .int 4 0, .ref 2358, .int 1799 0, .int 4 0, .ref 2365, .int 1810 0, .int 4 0, .ref 2372, .int 1818 0, .int 4 0, .ref 2379, .int 1827 0, .int 4 0, .ref 2386, .int 1832 0, .int 4 0, .ref 2393, .int 1835 0, .int 4 0, .ref 2400, .int 1838 0, .int 4 0, .ref 2407, .int 1844 0, .int 4 0, .ref 2414, .int 1847 0, .int 4 0, .ref 2421, .int 1850 0, .int 4 0, .ref 2428, .int 1853 0, .int 4 0, .ref 2436, .int 1856 0, .int 4 0, .ref 2443, .int 1859 0, .int 4 0, .ref 2450], #[]⟩,
  ⟨.type "code", none, .fields #[.str "Workshop" 4231, .str "Workshop" 4232, .str "/claim/cut.py" 4233, .int 1785 0, .int 0 0, .int 0 0, .int 0 0, .int 0 0, .ref 2342, .bool false, .int 181 0, .ref 2343, .none, .none, .none, .none, .int 4234 0, .int 1785 0, .str "/claim/cut.py" 4235], #[]⟩,
  ⟨.type "frame", none, .plain, #[(some (.ref 2344)), (some (.ref 3)), (some (.ref 2341)), none, (some (.str "slumberway.workshop" 4152)), none, (some (.ref 0))]⟩,
  ⟨.type "tuple", none, .seq #[] 0, #[]⟩,
  ⟨.none, none, .fields #[], #[]⟩,
  ⟨.type "tuple", none, .seq #[.str "self" 4244] 0, #[]⟩,
  ⟨.type "tuple", none, .seq #[] 0, #[]⟩,
  ⟨.none, none, fd (mt 223 0) "__init__" "Workshop.__init__" 0 .none .none .none 0, #[]⟩,
  ⟨.type "code", none, .fields #[.str "__init__" 4241, .str "Workshop.__init__" 4242, .str "/claim/cut.py" 4243, .int 1787 0, .int 1 0, .int 0 0, .int 0 0, .int 3 0, .ref 2346, .bool true, .int 181 0, .ref 2347, .none, .ref 2348, .ref 2349, .ref 2350, .int 4245 0, .int 1787 0, .str "/claim/cut.py" 4246], #[]⟩,
  ⟨.type "function", none, fd (mt 223 0) "__init__" "Workshop.__init__" 3 .none (.str "slumberway.workshop" 4152) (.ref 2351) 0, #[]⟩,
  ⟨.type "tuple", none, .seq #[] 0, #[]⟩,
  ⟨.none, none, .fields #[], #[]⟩,
  ⟨.type "tuple", none, .seq #[.str "self" 4251, .str "lines" 4252, .str "sums" 4253, .str "state" 4254, .str "_" 4255] 0, #[]⟩,
  ⟨.type "tuple", none, .seq #[] 0, #[]⟩,
  ⟨.none, none, fd (mt 223 1) "begin" "Workshop.begin" 0 .none .none .none 0, #[]⟩]
def ex_10 (w : World) : List Obj := [
  ⟨.type "code", none, .fields #[.str "begin" 4248, .str "Workshop.begin" 4249, .str "/claim/cut.py" 4250, .int 1790 0, .int 3 0, .int 0 0, .int 0 0, .int 3 0, .ref 2353, .bool true, .int 181 0, .ref 2354, .none, .ref 2355, .ref 2356, .ref 2357, .int 4256 0, .int 1790 0, .str "/claim/cut.py" 4257], #[]⟩,
  ⟨.type "function", none, fd (mt 223 1) "begin" "Workshop.begin" 3 .none (.str "slumberway.workshop" 4152) (.ref 2358) 0, #[]⟩,
  ⟨.type "tuple", none, .seq #[] 0, #[]⟩,
  ⟨.none, none, .fields #[], #[]⟩,
  ⟨.type "tuple", none, .seq #[.str "self" 4262, .str "at" 4263, .str "row" 4264, .str "lines" 4265, .str "sums" 4266] 0, #[]⟩,
  ⟨.type "tuple", none, .seq #[] 0, #[]⟩,
  ⟨.none, none, fd (mt 223 2) "put" "Workshop.put" 0 .none .none .none 0, #[]⟩,
  ⟨.type "code", none, .fields #[.str "put" 4259, .str "Workshop.put" 4260, .str "/claim/cut.py" 4261, .int 1799 0, .int 3 0, .int 0 0, .int 0 0, .int 3 0, .ref 2360, .bool true, .int 181 0, .ref 2361, .none, .ref 2362, .ref 2363, .ref 2364, .int 4267 0, .int 1799 0, .str "/claim/cut.py" 4268], #[]⟩,
  ⟨.type "function", none, fd (mt 223 2) "put" "Workshop.put" 3 .none (.str "slumberway.workshop" 4152) (.ref 2365) 0, #[]⟩,
  ⟨.type "tuple", none, .seq #[] 0, #[]⟩,
  ⟨.none, none, .fields #[], #[]⟩,
  ⟨.type "tuple", none, .seq #[.str "self" 4273, .str "at" 4274, .str "lines" 4275, .str "sums" 4276] 0, #[]⟩,
  ⟨.type "tuple", none, .seq #[] 0, #[]⟩,
  ⟨.none, none, fd (mt 223 3) "cut" "Workshop.cut" 0 .none .none .none 0, #[]⟩,
  ⟨.type "code", none, .fields #[.str "cut" 4270, .str "Workshop.cut" 4271, .str "/claim/cut.py" 4272, .int 1810 0, .int 2 0, .int 0 0, .int 0 0, .int 3 0, .ref 2367, .bool true, .int 181 0, .ref 2368, .none, .ref 2369, .ref 2370, .ref 2371, .int 4277 0, .int 1810 0, .str "/claim/cut.py" 4278], #[]⟩,
  ⟨.type "function", none, fd (mt 223 3) "cut" "Workshop.cut" 3 .none (.str "slumberway.workshop" 4152) (.ref 2372) 0, #[]⟩,
  ⟨.type "tuple", none, .seq #[] 0, #[]⟩,
  ⟨.none, none, .fields #[], #[]⟩,
  ⟨.type "tuple", none, .seq #[.str "self" 4283, .str "at" 4284, .str "row" 4285, .str "lines" 4286, .str "sums" 4287] 0, #[]⟩,
  ⟨.type "tuple", none, .seq #[] 0, #[]⟩,
  ⟨.none, none, fd (mt 223 4) "change" "Workshop.change" 0 .none .none .none 0, #[]⟩,
  ⟨.type "code", none, .fields #[.str "change" 4280, .str "Workshop.change" 4281, .str "/claim/cut.py" 4282, .int 1818 0, .int 3 0, .int 0 0, .int 0 0, .int 3 0, .ref 2374, .bool true, .int 181 0, .ref 2375, .none, .ref 2376, .ref 2377, .ref 2378, .int 4288 0, .int 1818 0, .str "/claim/cut.py" 4289], #[]⟩,
  ⟨.type "function", none, fd (mt 223 4) "change" "Workshop.change" 3 .none (.str "slumberway.workshop" 4152) (.ref 2379) 0, #[]⟩,
  ⟨.type "tuple", none, .seq #[] 0, #[]⟩,
  ⟨.none, none, .fields #[], #[]⟩,
  ⟨.type "tuple", none, .seq #[.str "self" 4294] 0, #[]⟩,
  ⟨.type "tuple", none, .seq #[] 0, #[]⟩,
  ⟨.none, none, fd (mt 223 5) "back" "Workshop.back" 0 .none .none .none 0, #[]⟩,
  ⟨.type "code", none, .fields #[.str "back" 4291, .str "Workshop.back" 4292, .str "/claim/cut.py" 4293, .int 1827 0, .int 1 0, .int 0 0, .int 0 0, .int 3 0, .ref 2381, .bool true, .int 181 0, .ref 2382, .none, .ref 2383, .ref 2384, .ref 2385, .int 4295 0, .int 1827 0, .str "/claim/cut.py" 4296], #[]⟩,
  ⟨.type "function", none, fd (mt 223 5) "back" "Workshop.back" 3 .none (.str "slumberway.workshop" 4152) (.ref 2386) 0, #[]⟩,
  ⟨.type "tuple", none, .seq #[] 0, #[]⟩,
  ⟨.none, none, .fields #[], #[]⟩,
  ⟨.type "tuple", none, .seq #[.str "self" 4301] 0, #[]⟩,
  ⟨.type "tuple", none, .seq #[] 0, #[]⟩,
  ⟨.none, none, fd (mt 223 6) "rows" "Workshop.rows" 0 .none .none .none 0, #[]⟩,
  ⟨.type "code", none, .fields #[.str "rows" 4298, .str "Workshop.rows" 4299, .str "/claim/cut.py" 4300, .int 1832 0, .int 1 0, .int 0 0, .int 0 0, .int 3 0, .ref 2388, .bool true, .int 181 0, .ref 2389, .none, .ref 2390, .ref 2391, .ref 2392, .int 4302 0, .int 1832 0, .str "/claim/cut.py" 4303], #[]⟩,
  ⟨.type "function", none, fd (mt 223 6) "rows" "Workshop.rows" 3 .none (.str "slumberway.workshop" 4152) (.ref 2393) 0, #[]⟩,
  ⟨.type "tuple", none, .seq #[] 0, #[]⟩,
  ⟨.none, none, .fields #[], #[]⟩,
  ⟨.type "tuple", none, .seq #[.str "self" 4308] 0, #[]⟩,
  ⟨.type "tuple", none, .seq #[] 0, #[]⟩,
  ⟨.none, none, fd (mt 223 7) "fault" "Workshop.fault" 0 .none .none .none 0, #[]⟩,
  ⟨.type "code", none, .fields #[.str "fault" 4305, .str "Workshop.fault" 4306, .str "/claim/cut.py" 4307, .int 1835 0, .int 1 0, .int 0 0, .int 0 0, .int 3 0, .ref 2395, .bool true, .int 181 0, .ref 2396, .none, .ref 2397, .ref 2398, .ref 2399, .int 4309 0, .int 1835 0, .str "/claim/cut.py" 4310], #[]⟩,
  ⟨.type "function", none, fd (mt 223 7) "fault" "Workshop.fault" 3 .none (.str "slumberway.workshop" 4152) (.ref 2400) 0, #[]⟩,
  ⟨.type "tuple", none, .seq #[] 0, #[]⟩,
  ⟨.none, none, .fields #[], #[]⟩,
  ⟨.type "tuple", none, .seq #[.str "self" 4315, .str "text" 4316] 0, #[]⟩,
  ⟨.type "tuple", none, .seq #[] 0, #[]⟩,
  ⟨.none, none, fd (mt 223 8) "whole_text" "Workshop.whole_text" 0 .none .none .none 0, #[]⟩,
  ⟨.type "code", none, .fields #[.str "whole_text" 4312, .str "Workshop.whole_text" 4313, .str "/claim/cut.py" 4314, .int 1838 0, .int 1 0, .int 0 0, .int 0 0, .int 3 0, .ref 2402, .bool true, .int 181 0, .ref 2403, .none, .ref 2404, .ref 2405, .ref 2406, .int 4317 0, .int 1838 0, .str "/claim/cut.py" 4318], #[]⟩,
  ⟨.type "function", none, fd (mt 223 8) "whole_text" "Workshop.whole_text" 3 .none (.str "slumberway.workshop" 4152) (.ref 2407) 0, #[]⟩,
  ⟨.type "tuple", none, .seq #[] 0, #[]⟩,
  ⟨.none, none, .fields #[], #[]⟩,
  ⟨.type "tuple", none, .seq #[.str "self" 4323] 0, #[]⟩,
  ⟨.type "tuple", none, .seq #[] 0, #[]⟩,
  ⟨.none, none, fd (mt 223 9) "kinds" "Workshop.kinds" 0 .none .none .none 0, #[]⟩,
  ⟨.type "code", none, .fields #[.str "kinds" 4320, .str "Workshop.kinds" 4321, .str "/claim/cut.py" 4322, .int 1844 0, .int 1 0, .int 0 0, .int 0 0, .int 3 0, .ref 2409, .bool true, .int 181 0, .ref 2410, .none, .ref 2411, .ref 2412, .ref 2413, .int 4324 0, .int 1844 0, .str "/claim/cut.py" 4325], #[]⟩,
  ⟨.type "function", none, fd (mt 223 9) "kinds" "Workshop.kinds" 3 .none (.str "slumberway.workshop" 4152) (.ref 2414) 0, #[]⟩,
  ⟨.type "tuple", none, .seq #[] 0, #[]⟩,
  ⟨.none, none, .fields #[], #[]⟩]
def ex_11 (w : World) : List Obj := [
  ⟨.type "tuple", none, .seq #[.str "self" 4330, .str "address" 4331] 0, #[]⟩,
  ⟨.type "tuple", none, .seq #[] 0, #[]⟩,
  ⟨.none, none, fd (mt 223 10) "kind_at" "Workshop.kind_at" 0 .none .none .none 0, #[]⟩,
  ⟨.type "code", none, .fields #[.str "kind_at" 4327, .str "Workshop.kind_at" 4328, .str "/claim/cut.py" 4329, .int 1847 0, .int 2 0, .int 0 0, .int 0 0, .int 3 0, .ref 2416, .bool true, .int 181 0, .ref 2417, .none, .ref 2418, .ref 2419, .ref 2420, .int 4332 0, .int 1847 0, .str "/claim/cut.py" 4333], #[]⟩,
  ⟨.type "function", none, fd (mt 223 10) "kind_at" "Workshop.kind_at" 3 .none (.str "slumberway.workshop" 4152) (.ref 2421) 0, #[]⟩,
  ⟨.type "tuple", none, .seq #[] 0, #[]⟩,
  ⟨.none, none, .fields #[], #[]⟩,
  ⟨.type "tuple", none, .seq #[.str "self" 4338] 0, #[]⟩,
  ⟨.type "tuple", none, .seq #[] 0, #[]⟩,
  ⟨.none, none, fd (mt 223 11) "core" "Workshop.core" 0 .none .none .none 0, #[]⟩,
  ⟨.type "code", none, .fields #[.str "core" 4335, .str "Workshop.core" 4336, .str "/claim/cut.py" 4337, .int 1850 0, .int 1 0, .int 0 0, .int 0 0, .int 3 0, .ref 2423, .bool true, .int 181 0, .ref 2424, .none, .ref 2425, .ref 2426, .ref 2427, .int 4339 0, .int 1850 0, .str "/claim/cut.py" 4340], #[]⟩,
  ⟨.type "function", none, fd (mt 223 11) "core" "Workshop.core" 3 .none (.str "slumberway.workshop" 4152) (.ref 2428) 0, #[]⟩,
  ⟨.type "dict", none, .dict #[en w "depth" 4344 (.int 20 4342), en w "most" 4345 (.int 20000 841), en w "way" 4346 (.str "shared" 4343), en w "turned" 4347 (.bool false)] 4, #[]⟩,
  ⟨.type "tuple", none, .seq #[] 0, #[]⟩,
  ⟨.none, none, .fields #[], #[]⟩,
  ⟨.type "tuple", none, .seq #[.str "self" 4351, .str "name" 4352, .str "depth" 4353, .str "most" 4354, .str "way" 4355, .str "turned" 4356] 0, #[]⟩,
  ⟨.type "tuple", none, .seq #[] 0, #[]⟩,
  ⟨.none, none, fd (mt 223 12) "ask" "Workshop.ask" 0 .none .none .none 0, #[]⟩,
  ⟨.type "code", none, .fields #[.str "ask" 4348, .str "Workshop.ask" 4349, .str "/claim/cut.py" 4350, .int 1853 0, .int 2 0, .int 0 0, .int 4 0, .int 3 0, .ref 2431, .bool true, .int 181 0, .ref 2432, .none, .ref 2433, .ref 2434, .ref 2435, .int 4357 0, .int 1853 0, .str "/claim/cut.py" 4358], #[]⟩,
  ⟨.type "function", none, fdk (mt 223 12) "ask" "Workshop.ask" 3 .none (.ref 2430) (.str "slumberway.workshop" 4152) (.ref 2436) 0, #[]⟩,
  ⟨.type "tuple", none, .seq #[] 0, #[]⟩,
  ⟨.none, none, .fields #[], #[]⟩,
  ⟨.type "tuple", none, .seq #[.str "self" 4363] 0, #[]⟩,
  ⟨.type "tuple", none, .seq #[] 0, #[]⟩,
  ⟨.none, none, fd (mt 223 13) "settled" "Workshop.settled" 0 .none .none .none 0, #[]⟩,
  ⟨.type "code", none, .fields #[.str "settled" 4360, .str "Workshop.settled" 4361, .str "/claim/cut.py" 4362, .int 1856 0, .int 1 0, .int 0 0, .int 0 0, .int 3 0, .ref 2438, .bool true, .int 181 0, .ref 2439, .none, .ref 2440, .ref 2441, .ref 2442, .int 4364 0, .int 1856 0, .str "/claim/cut.py" 4365], #[]⟩,
  ⟨.type "function", none, fd (mt 223 13) "settled" "Workshop.settled" 3 .none (.str "slumberway.workshop" 4152) (.ref 2443) 0, #[]⟩,
  ⟨.type "tuple", none, .seq #[] 0, #[]⟩,
  ⟨.none, none, .fields #[], #[]⟩,
  ⟨.type "tuple", none, .seq #[.str "self" 4370] 0, #[]⟩,
  ⟨.type "tuple", none, .seq #[] 0, #[]⟩,
  ⟨.none, none, fd (mt 223 14) "costs" "Workshop.costs" 0 .none .none .none 0, #[]⟩,
  ⟨.type "code", none, .fields #[.str "costs" 4367, .str "Workshop.costs" 4368, .str "/claim/cut.py" 4369, .int 1859 0, .int 1 0, .int 0 0, .int 0 0, .int 3 0, .ref 2445, .bool true, .int 181 0, .ref 2446, .none, .ref 2447, .ref 2448, .ref 2449, .int 4371 0, .int 1859 0, .str "/claim/cut.py" 4372], #[]⟩,
  ⟨.type "function", none, fd (mt 223 14) "costs" "Workshop.costs" 3 .none (.str "slumberway.workshop" 4152) (.ref 2450) 0, #[]⟩,
  ⟨.type "tuple", none, .seq #[.str "state" 4374] 0, #[]⟩,
  ⟨.type "dict", none, .dict #[en w "__module__" 4236 (.str "slumberway.workshop" 4152), en w "__firstlineno__" 4240 (.int 1785 4239), en w "__init__" 4247 (.ref 2352), en w "begin" 4258 (.ref 2359), en w "put" 4269 (.ref 2366), en w "cut" 4279 (.ref 2373), en w "change" 4290 (.ref 2380), en w "back" 4297 (.ref 2387), en w "rows" 4304 (.ref 2394), en w "fault" 4311 (.ref 2401), en w "whole_text" 4319 (.ref 2408), en w "kinds" 4326 (.ref 2415), en w "kind_at" 4334 (.ref 2422), en w "core" 4341 (.ref 2429), en w "ask" 4359 (.ref 2437), en w "settled" 4366 (.ref 2444), en w "costs" 4373 (.ref 2451), en w "__static_attributes__" 4375 (.ref 2452), en w "__dict__" 4377 (.ref 2455), en w "__weakref__" 4379 (.ref 2456), en w "__doc__" 4380 .none] 4, #[]⟩,
  ⟨.type "type", none, .cls ⟨"Workshop", [.type "object"], [.ref 2454, .type "object"], 2453, "Workshop", true, [], [], false, none, false⟩, #[none, none, (some (.str "Workshop" 4229)), (some (.str "Workshop" 4237)), (some (.builtin "object.__new__")), (some (.bool true))]⟩,
  ⟨.type "getset_descriptor", none, .fields #[.str "__dict__" 4376, .ref 2454, .builtin "function.__dict__", .builtin "function.__dict__#set"], #[]⟩,
  ⟨.type "getset_descriptor", none, .fields #[.str "__weakref__" 4378, .ref 2454, .builtin "ExceptionGroup.__weakref__", .none], #[]⟩,
  ⟨.type "super", none, .fields #[.ref 2454, .ref 2454, .ref 2454], #[]⟩,
  ⟨.type "builtin_function_or_method", none, .fields #[.builtin "object.__init_subclass__", .ref 2454], #[]⟩,
  ⟨.type "tuple", none, .seq #[] 0, #[]⟩,
  ⟨.none, none, .fields #[], #[]⟩,
  ⟨.type "tuple", none, .seq #[.str "at" 4386, .str "most" 4387] 0, #[]⟩,
  ⟨.type "tuple", none, .seq #[] 0, #[]⟩,
  ⟨.none, none, fd (tp 224) "refuse_place" "refuse_place" 0 .none .none .none 0, #[]⟩,
  ⟨.type "code", none, .fields #[.str "refuse_place" 4383, .str "refuse_place" 4384, .str "/claim/cut.py" 4385, .int 1861 0, .int 2 0, .int 0 0, .int 0 0, .int 3 0, .ref 2459, .bool true, .int 181 0, .ref 2460, .none, .ref 2461, .ref 2462, .ref 2463, .int 4388 0, .int 1861 0, .str "/claim/cut.py" 4389], #[]⟩,
  ⟨.type "function", none, fd (tp 224) "refuse_place" "refuse_place" 3 .none (.str "slumberway.workshop" 4152) (.ref 2464) 0, #[]⟩,
  ⟨.type "tuple", none, .seq #[] 0, #[]⟩,
  ⟨.none, none, .fields #[], #[]⟩,
  ⟨.type "tuple", none, .seq #[.str "row" 4394] 0, #[]⟩,
  ⟨.type "tuple", none, .seq #[] 0, #[]⟩,
  ⟨.none, none, fd (tp 225) "refuse_row" "refuse_row" 0 .none .none .none 0, #[]⟩,
  ⟨.type "code", none, .fields #[.str "refuse_row" 4391, .str "refuse_row" 4392, .str "/claim/cut.py" 4393, .int 1864 0, .int 1 0, .int 0 0, .int 0 0, .int 3 0, .ref 2466, .bool true, .int 181 0, .ref 2467, .none, .ref 2468, .ref 2469, .ref 2470, .int 4395 0, .int 1864 0, .str "/claim/cut.py" 4396], #[]⟩,
  ⟨.type "function", none, fd (tp 225) "refuse_row" "refuse_row" 3 .none (.str "slumberway.workshop" 4152) (.ref 2471) 0, #[]⟩,
  ⟨.type "tuple", none, .seq #[] 0, #[]⟩,
  ⟨.none, none, .fields #[], #[]⟩,
  ⟨.type "tuple", none, .seq #[.str "_law_cell" 4403, .str "_law_k" 4404, .str "_law_number" 4405] 0, #[]⟩,
  ⟨.type "tuple", none, .seq #[] 0, #[]⟩,
  ⟨.none, none, fd (tp 227) "_law_mixed" "_law_mixed" 0 .none .none .none 0, #[]⟩]
def ex_12 (w : World) : List Obj := [
  ⟨.type "code", none, .fields #[.str "_law_mixed" 4400, .str "_law_mixed" 4401, .str "/claim/cut.py" 4402, .int 1868 0, .int 2 0, .int 0 0, .int 0 0, .int 3 0, .ref 2473, .bool true, .int 181 0, .ref 2474, .none, .ref 2475, .ref 2476, .ref 2477, .int 4406 0, .int 1868 0, .str "/claim/cut.py" 4407], #[]⟩,
  ⟨.type "function", none, fd (tp 227) "_law_mixed" "_law_mixed" 3 .none (.str "law_slumberway_k80_rows_edited" 4398) (.ref 2478) 0, #[]⟩,
  ⟨.type "tuple", none, .seq #[] 0, #[]⟩,
  ⟨.none, none, .fields #[], #[]⟩,
  ⟨.type "tuple", none, .seq #[.str "_law_cell" 4412, .str "_law_k" 4413] 0, #[]⟩,
  ⟨.type "tuple", none, .seq #[] 0, #[]⟩,
  ⟨.none, none, fd (tp 228) "_law_purse" "_law_purse" 0 .none .none .none 0, #[]⟩,
  ⟨.type "code", none, .fields #[.str "_law_purse" 4409, .str "_law_purse" 4410, .str "/claim/cut.py" 4411, .int 1872 0, .int 2 0, .int 0 0, .int 0 0, .int 3 0, .ref 2480, .bool true, .int 181 0, .ref 2481, .none, .ref 2482, .ref 2483, .ref 2484, .int 4414 0, .int 1872 0, .str "/claim/cut.py" 4415], #[]⟩,
  ⟨.type "function", none, fd (tp 228) "_law_purse" "_law_purse" 3 .none (.str "law_slumberway_k80_rows_edited" 4398) (.ref 2485) 0, #[]⟩,
  ⟨.type "tuple", none, .seq #[] 0, #[]⟩,
  ⟨.none, none, .fields #[], #[]⟩,
  ⟨.type "tuple", none, .seq #[.str "_law_purse_here" 4420, .str "_law_many" 4421, .str "_law_got" 4422] 0, #[]⟩,
  ⟨.type "tuple", none, .seq #[] 0, #[]⟩,
  ⟨.none, none, fd (tp 229) "_law_take" "_law_take" 0 .none .none .none 0, #[]⟩,
  ⟨.type "code", none, .fields #[.str "_law_take" 4417, .str "_law_take" 4418, .str "/claim/cut.py" 4419, .int 1876 0, .int 2 0, .int 0 0, .int 0 0, .int 3 0, .ref 2487, .bool true, .int 181 0, .ref 2488, .none, .ref 2489, .ref 2490, .ref 2491, .int 4423 0, .int 1876 0, .str "/claim/cut.py" 4424], #[]⟩,
  ⟨.type "function", none, fd (tp 229) "_law_take" "_law_take" 3 .none (.str "law_slumberway_k80_rows_edited" 4398) (.ref 2492) 0, #[]⟩,
  ⟨.type "tuple", none, .seq #[] 0, #[]⟩,
  ⟨.none, none, .fields #[], #[]⟩,
  ⟨.type "tuple", none, .seq #[.str "_law_script" 4429, .str "_law_k" 4430] 0, #[]⟩,
  ⟨.type "tuple", none, .seq #[] 0, #[]⟩,
  ⟨.none, none, fd (tp 230) "_law_at" "_law_at" 0 .none .none .none 0, #[]⟩,
  ⟨.type "code", none, .fields #[.str "_law_at" 4426, .str "_law_at" 4427, .str "/claim/cut.py" 4428, .int 1883 0, .int 2 0, .int 0 0, .int 0 0, .int 3 0, .ref 2494, .bool true, .int 181 0, .ref 2495, .none, .ref 2496, .ref 2497, .ref 2498, .int 4431 0, .int 1883 0, .str "/claim/cut.py" 4432], #[]⟩,
  ⟨.type "function", none, fd (tp 230) "_law_at" "_law_at" 3 .none (.str "law_slumberway_k80_rows_edited" 4398) (.ref 2499) 0, #[]⟩,
  ⟨.type "tuple", none, .seq #[] 0, #[]⟩,
  ⟨.none, none, .fields #[], #[]⟩,
  ⟨.type "tuple", none, .seq #[.str "_law_purse_here" 4437, .str "_law_some" 4438] 0, #[]⟩,
  ⟨.type "tuple", none, .seq #[] 0, #[]⟩,
  ⟨.none, none, fd (tp 231) "_law_row" "_law_row" 0 .none .none .none 0, #[]⟩,
  ⟨.type "code", none, .fields #[.str "_law_row" 4434, .str "_law_row" 4435, .str "/claim/cut.py" 4436, .int 1887 0, .int 1 0, .int 0 0, .int 0 0, .int 3 0, .ref 2501, .bool true, .int 181 0, .ref 2502, .none, .ref 2503, .ref 2504, .ref 2505, .int 4439 0, .int 1887 0, .str "/claim/cut.py" 4440], #[]⟩,
  ⟨.type "function", none, fd (tp 231) "_law_row" "_law_row" 3 .none (.str "law_slumberway_k80_rows_edited" 4398) (.ref 2506) 0, #[]⟩,
  ⟨.type "tuple", none, .seq #[] 0, #[]⟩,
  ⟨.none, none, .fields #[], #[]⟩,
  ⟨.type "tuple", none, .seq #[.str "_law_purse_here" 4445] 0, #[]⟩,
  ⟨.type "tuple", none, .seq #[] 0, #[]⟩,
  ⟨.none, none, fd (tp 232) "_law_bad_row" "_law_bad_row" 0 .none .none .none 0, #[]⟩,
  ⟨.type "code", none, .fields #[.str "_law_bad_row" 4442, .str "_law_bad_row" 4443, .str "/claim/cut.py" 4444, .int 1890 0, .int 1 0, .int 0 0, .int 0 0, .int 3 0, .ref 2508, .bool true, .int 181 0, .ref 2509, .none, .ref 2510, .ref 2511, .ref 2512, .int 4446 0, .int 1890 0, .str "/claim/cut.py" 4447], #[]⟩,
  ⟨.type "function", none, fd (tp 232) "_law_bad_row" "_law_bad_row" 3 .none (.str "law_slumberway_k80_rows_edited" 4398) (.ref 2513) 0, #[]⟩,
  ⟨.type "tuple", none, .seq #[] 0, #[]⟩,
  ⟨.none, none, .fields #[], #[]⟩,
  ⟨.type "tuple", none, .seq #[.str "_law_shop" 4452, .str "_law_deed_here" 4453, .str "_law_spot" 4454, .str "_law_said" 4455, .str "_law_error" 4456, .str "caught" 4457, .str "_law_got" 4458] 0, #[]⟩,
  ⟨.type "tuple", none, .seq #[] 0, #[]⟩,
  ⟨.none, none, fd (tp 233) "_law_done" "_law_done" 0 .none .none .none 0, #[]⟩,
  ⟨.type "code", none, .fields #[.str "_law_done" 4449, .str "_law_done" 4450, .str "/claim/cut.py" 4451, .int 1892 0, .int 4 0, .int 0 0, .int 0 0, .int 3 0, .ref 2515, .bool true, .int 181 0, .ref 2516, .none, .ref 2517, .ref 2518, .ref 2519, .int 4459 0, .int 1892 0, .str "/claim/cut.py" 4460], #[]⟩,
  ⟨.type "function", none, fd (tp 233) "_law_done" "_law_done" 3 .none (.str "law_slumberway_k80_rows_edited" 4398) (.ref 2520) 0, #[]⟩,
  ⟨.type "tuple", none, .seq #[] 0, #[]⟩,
  ⟨.none, none, .fields #[], #[]⟩,
  ⟨.type "tuple", none, .seq #[.str "_law_spot" 4465, .str "_law_most" 4466] 0, #[]⟩,
  ⟨.type "tuple", none, .seq #[] 0, #[]⟩,
  ⟨.none, none, fd (tp 234) "_law_is_place" "_law_is_place" 0 .none .none .none 0, #[]⟩,
  ⟨.type "code", none, .fields #[.str "_law_is_place" 4462, .str "_law_is_place" 4463, .str "/claim/cut.py" 4464, .int 1911 0, .int 2 0, .int 0 0, .int 0 0, .int 3 0, .ref 2522, .bool true, .int 181 0, .ref 2523, .none, .ref 2524, .ref 2525, .ref 2526, .int 4467 0, .int 1911 0, .str "/claim/cut.py" 4468], #[]⟩,
  ⟨.type "function", none, fd (tp 234) "_law_is_place" "_law_is_place" 3 .none (.str "law_slumberway_k80_rows_edited" 4398) (.ref 2527) 0, #[]⟩,
  ⟨.type "tuple", none, .seq #[] 0, #[]⟩,
  ⟨.none, none, .fields #[], #[]⟩,
  ⟨.type "tuple", none, .seq #[.str "_law_purse_here" 4473, .str "_law_shop" 4474, .str "_law_past" 4475, .str "_law_rows" 4476, .str "_law_deed_here" 4477, .str "_law_most" 4478, .str "_law_spot" 4479, .str "_law_said" 4480, .str "_law_bad" 4481, .str "_law_told" 4482] 0, #[]⟩,
  ⟨.type "tuple", none, .seq #[] 0, #[]⟩,
  ⟨.none, none, fd (tp 235) "_law_deed" "_law_deed" 0 .none .none .none 0, #[]⟩,
  ⟨.type "code", none, .fields #[.str "_law_deed" 4470, .str "_law_deed" 4471, .str "/claim/cut.py" 4472, .int 1913 0, .int 3 0, .int 0 0, .int 0 0, .int 3 0, .ref 2529, .bool true, .int 181 0, .ref 2530, .none, .ref 2531, .ref 2532, .ref 2533, .int 4483 0, .int 1913 0, .str "/claim/cut.py" 4484], #[]⟩,
  ⟨.type "function", none, fd (tp 235) "_law_deed" "_law_deed" 3 .none (.str "law_slumberway_k80_rows_edited" 4398) (.ref 2534) 0, #[]⟩,
  ⟨.type "tuple", none, .seq #[] 0, #[]⟩,
  ⟨.none, none, .fields #[], #[]⟩]
def ex_13 (w : World) : List Obj := [
  ⟨.none, none, fd (tp 236) "_law_full_right" "_law_full_right" 0 .none .none .none 0, #[]⟩,
  ⟨.type "code", none, .fields #[.str "_law_full_right" 4486, .str "_law_full_right" 4487, .str "/claim/cut.py" 4488, .int 1941 0, .int 1 0, .int 0 0, .int 0 0, .int 3 0, .ref 2536, .bool true, .int 181 0, .ref 2537, .none, .none, .none, .ref 2538, .int 4489 0, .int 1941 0, .str "/claim/cut.py" 4490], #[]⟩,
  ⟨.type "function", none, fd (tp 236) "_law_full_right" "_law_full_right" 3 .none (.str "law_slumberway_k80_rows_edited" 4398) (.ref 2539) 0, #[]⟩,
  ⟨.type "tuple", none, .seq #[] 0, #[]⟩,
  ⟨.none, none, .fields #[], #[]⟩,
  ⟨.type "tuple", none, .seq #[.str "_law_script" 4495, .str "_law_k" 4496, .str "_law_purse_here" 4497, .str "_law_shop" 4498, .str "_law_past" 4499, .str "_law_turn" 4500, .str "_law_told" 4501] 0, #[]⟩,
  ⟨.type "tuple", none, .seq #[] 0, #[]⟩,
  ⟨.none, none, fd (tp 237) "law" "law" 0 .none .none .none 0, #[]⟩,
  ⟨.type "code", none, .fields #[.str "law" 4492, .str "law" 4493, .str "/claim/cut.py" 4494, .int 1952 0, .int 1 0, .int 0 0, .int 0 0, .int 3 0, .ref 2541, .bool true, .int 181 0, .ref 2542, .none, .ref 2543, .ref 2544, .ref 2545, .int 4502 0, .int 1952 0, .str "/claim/cut.py" 4503], #[]⟩,
  ⟨.type "function", none, fd (tp 237) "law" "law" 3 .none (.str "law_slumberway_k80_rows_edited" 4398) (.ref 2546) 0, #[]⟩]
def ex (w : World) : List Obj := ex_0 w ++ (ex_1 w ++ (ex_2 w ++ (ex_3 w ++ (ex_4 w ++ (ex_5 w ++ (ex_6 w ++ (ex_7 w ++ (ex_8 w ++ (ex_9 w ++ (ex_10 w ++ (ex_11 w ++ (ex_12 w ++ (ex_13 w)))))))))))))
def ov22 (w : World) : List (Nat × Obj) := [
  (2, ⟨.none, none, .dict #[] 0, #[]⟩),
  (3, ⟨.type "dict", none, .dict #[en w "__name__" 165 (.str "slumberway.lexemes" 517), en w "__doc__" 166 .none, en w "__package__" 167 .none, en w "__loader__" 168 (.builtin "__main__.__loader__#opaque"), en w "__spec__" 169 .none, en w "__annotations__" 170 (.ref 6), en w "__builtins__" 171 (.ref 4), en w "__file__" 173 (.str "/claim/cut.py" 172), en w "__cached__" 174 .none, en w "_wall" 193 (.ref 21), en w "SlumberError" 213 (.ref 31), en w "NoPlace" 229 (.ref 44), en w "BadRow" 245 (.ref 56), en w "TooMany" 261 (.ref 68), en w "NoBack" 277 (.ref 80), en w "NoSign" 302 (.ref 99), en w "NoReading" 329 (.ref 118), en w "Twice" 356 (.ref 137), en w "Counts" 381 (.ref 156), en w "Parts" 406 (.ref 175), en w "Unknown" 433 (.ref 194), en w "Clash" 462 (.ref 213), en w "Endless" 491 (.ref 232), en w "Broken" 516 (.ref 251), en w "SMALL" 520 (.str "abcdefghijklmnopqrstuvwxyz" 519), en w "GREAT" 522 (.str "ABCDEFGHIJKLMNOPQRSTUVWXYZ" 521), en w "FIGURES" 524 (.str "0123456789" 523), en w "LONGEST" 526 (.int 8 525), en w "REMARK" 528 (.str "--" 527)] 29, #[]⟩),
  (12, ⟨.none, none, .fields #[.int 1 0, .int 0 0, .ref 20, .int 5 0, .int 0 0, .ref 27, .int 7 0, .int 0 0, .ref 40, .int 9 0, .int 0 0, .ref 52, .int 11 0, .int 0 0, .ref 64, .int 13 0, .int 0 0, .ref 76, .int 15 0, .int 0 0, .ref 88, .int 19 0, .int 0 0, .ref 107, .int 24 0, .int 0 0, .ref 126, .int 29 0, .int 0 0, .ref 145, .int 33 0, .int 0 0, .ref 164, .int 37 0, .int 0 0, .ref 183, .int 42 0, .int 0 0, .ref 202, .int 48 0, .int 0 0, .ref 221, .int 54 0, .int 0 0, .ref 240], #[]⟩)]
def ov27 (w : World) : List (Nat × Obj) := [
  (2, ⟨.none, none, .dict #[] 0, #[]⟩),
  (3, ⟨.type "dict", none, .dict #[en w "__name__" 165 (.str "slumberway.lexemes" 517), en w "__doc__" 166 .none, en w "__package__" 167 .none, en w "__loader__" 168 (.builtin "__main__.__loader__#opaque"), en w "__spec__" 169 .none, en w "__annotations__" 170 (.ref 6), en w "__builtins__" 171 (.ref 4), en w "__file__" 173 (.str "/claim/cut.py" 172), en w "__cached__" 174 .none, en w "_wall" 193 (.ref 21), en w "SlumberError" 213 (.ref 31), en w "NoPlace" 229 (.ref 44), en w "BadRow" 245 (.ref 56), en w "TooMany" 261 (.ref 68), en w "NoBack" 277 (.ref 80), en w "NoSign" 302 (.ref 99), en w "NoReading" 329 (.ref 118), en w "Twice" 356 (.ref 137), en w "Counts" 381 (.ref 156), en w "Parts" 406 (.ref 175), en w "Unknown" 433 (.ref 194), en w "Clash" 462 (.ref 213), en w "Endless" 491 (.ref 232), en w "Broken" 516 (.ref 251), en w "SMALL" 520 (.str "abcdefghijklmnopqrstuvwxyz" 519), en w "GREAT" 522 (.str "ABCDEFGHIJKLMNOPQRSTUVWXYZ" 521), en w "FIGURES" 524 (.str "0123456789" 523), en w "LONGEST" 526 (.int 8 525), en w "REMARK" 528 (.str "--" 527), en w "SORTS" 589 (.ref 254), en w "LONG_SIGNS" 592 (.ref 256), en w "BLOCK_WORDS" 595 (.ref 257), en w "NEVER_ITEMS" 602 (.ref 258), en w "LAYING" 613 (.ref 259)] 34, #[]⟩),
  (12, ⟨.none, none, .fields #[.int 1 0, .int 0 0, .ref 20, .int 5 0, .int 0 0, .ref 27, .int 7 0, .int 0 0, .ref 40, .int 9 0, .int 0 0, .ref 52, .int 11 0, .int 0 0, .ref 64, .int 13 0, .int 0 0, .ref 76, .int 15 0, .int 0 0, .ref 88, .int 19 0, .int 0 0, .ref 107, .int 24 0, .int 0 0, .ref 126, .int 29 0, .int 0 0, .ref 145, .int 33 0, .int 0 0, .ref 164, .int 37 0, .int 0 0, .ref 183, .int 42 0, .int 0 0, .ref 202, .int 48 0, .int 0 0, .ref 221, .int 54 0, .int 0 0, .ref 240], #[]⟩)]
def ov62 (w : World) : List (Nat × Obj) := [
  (2, ⟨.none, none, .dict #[en w "type.__subclasses__.Exception.0" 867 (.int 421 0), en w "type.__subclasses__.Exception.n" 868 (.int 1 0)] 2, #[]⟩),
  (3, ⟨.type "dict", none, .dict #[en w "__name__" 165 (.str "slumberway.walks" 1104), en w "__doc__" 166 .none, en w "__package__" 167 .none, en w "__loader__" 168 (.builtin "__main__.__loader__#opaque"), en w "__spec__" 169 .none, en w "__annotations__" 170 (.ref 6), en w "__builtins__" 171 (.ref 4), en w "__file__" 173 (.str "/claim/cut.py" 172), en w "__cached__" 174 .none, en w "_wall" 193 (.ref 21), en w "SlumberError" 213 (.ref 31), en w "NoPlace" 229 (.ref 44), en w "BadRow" 245 (.ref 56), en w "TooMany" 261 (.ref 68), en w "NoBack" 277 (.ref 80), en w "NoSign" 302 (.ref 99), en w "NoReading" 329 (.ref 118), en w "Twice" 356 (.ref 137), en w "Counts" 381 (.ref 156), en w "Parts" 406 (.ref 175), en w "Unknown" 433 (.ref 194), en w "Clash" 462 (.ref 213), en w "Endless" 491 (.ref 232), en w "Broken" 516 (.ref 251), en w "SMALL" 520 (.str "abcdefghijklmnopqrstuvwxyz" 519), en w "GREAT" 522 (.str "ABCDEFGHIJKLMNOPQRSTUVWXYZ" 521), en w "FIGURES" 524 (.str "0123456789" 523), en w "LONGEST" 526 (.int 8 525), en w "REMARK" 528 (.str "--" 527), en w "SORTS" 589 (.ref 254), en w "LONG_SIGNS" 592 (.ref 256), en w "BLOCK_WORDS" 595 (.ref 257), en w "NEVER_ITEMS" 602 (.ref 258), en w "LAYING" 613 (.ref 259), en w "lexemes" 626 (.ref 266), en w "add_lexemes" 639 (.ref 273), en w "mixed_lexemes" 652 (.ref 280), en w "sort_of" 659 (.ref 287), en w "lexeme_at" 672 (.ref 294), en w "run_end" 682 (.ref 301), en w "sign_end" 692 (.ref 308), en w "laid" 708 (.ref 315), en w "end_place" 719 (.ref 322), en w "Layout" 831 (.ref 400), en w "is_whole" 840 (.ref 411), en w "MOST" 842 (.int 20000 841), en w "ARROW" 846 (.str "->" 845), en w "NUM" 848 (.int 0 847), en w "TRUTH" 850 (.int 1 849), en w "Clashing" 870 (.ref 421), en w "Solver" 1077 (.ref 548), en w "pieces_text" 1095 (.ref 559), en w "letter_text" 1103 (.ref 566), en w "binds" 1111 (.ref 571), en w "all_patterns" 1121 (.ref 578), en w "all_kinds" 1131 (.ref 585), en w "steps" 1142 (.ref 592), en w "hidden" 1150 (.ref 599), en w "rule_steps" 1162 (.ref 606), en w "def_steps" 1173 (.ref 613), en w "call_steps" 1180 (.ref 620), en w "op_steps" 1187 (.ref 627), en w "fun_steps" 1194 (.ref 634), en w "let_steps" 1200 (.ref 639), en w "if_steps" 1207 (.ref 646), en w "case_steps" 1218 (.ref 653)] 66, #[]⟩),
  (12, ⟨.none, none, .fields #[.int 1 0, .int 0 0, .ref 20, .int 5 0, .int 0 0, .ref 27, .int 7 0, .int 0 0, .ref 40, .int 9 0, .int 0 0, .ref 52, .int 11 0, .int 0 0, .ref 64, .int 13 0, .int 0 0, .ref 76, .int 15 0, .int 0 0, .ref 88, .int 19 0, .int 0 0, .ref 107, .int 24 0, .int 0 0, .ref 126, .int 29 0, .int 0 0, .ref 145, .int 33 0, .int 0 0, .ref 164, .int 37 0, .int 0 0, .ref 183, .int 42 0, .int 0 0, .ref 202, .int 48 0, .int 0 0, .ref 221, .int 54 0, .int 0 0, .ref 240, .int 69 0, .int 0 0, .ref 265, .int 83 0, .int 0 0, .ref 272, .int 101 0, .int 0 0, .ref 279, .int 109 0, .int 0 0, .ref 286, .int 121 0, .int 0 0, .ref 293, .int 137 0, .int 0 0, .ref 300, .int 139 0, .int 0 0, .ref 307, .int 145 0, .int 0 0, .ref 314, .int 161 0, .int 0 0, .ref 321, .int 166 0, .int 0 0, .ref 328, .int 242 0, .int 0 0, .ref 410, .int 249 0, .int 0 0, .ref 417, .int 251 0, .int 0 0, .ref 430, .int 428 0, .int 0 0, .ref 558, .int 450 0, .int 0 0, .ref 565, .int 457 0, .int 0 0, .ref 570, .int 459 0, .int 0 0, .ref 577, .int 468 0, .int 0 0, .ref 584, .int 479 0, .int 0 0, .ref 591, .int 489 0, .int 0 0, .ref 598, .int 491 0, .int 0 0, .ref 605, .int 498 0, .int 0 0, .ref 612, .int 503 0, .int 0 0, .ref 619, .int 505 0, .int 0 0, .ref 626, .int 507 0, .int 0 0, .ref 633, .int 509 0, .int 0 0, .ref 638, .int 511 0, .int 0 0, .ref 645, .int 513 0, .int 0 0, .ref 652], #[]⟩)]
def ov63 (w : World) : List (Nat × Obj) := [
  (2, ⟨.none, none, .dict #[en w "type.__subclasses__.Exception.0" 867 (.int 421 0), en w "type.__subclasses__.Exception.n" 868 (.int 1 0)] 2, #[]⟩),
  (3, ⟨.type "dict", none, .dict #[en w "__name__" 165 (.str "slumberway.walks" 1104), en w "__doc__" 166 .none, en w "__package__" 167 .none, en w "__loader__" 168 (.builtin "__main__.__loader__#opaque"), en w "__spec__" 169 .none, en w "__annotations__" 170 (.ref 6), en w "__builtins__" 171 (.ref 4), en w "__file__" 173 (.str "/claim/cut.py" 172), en w "__cached__" 174 .none, en w "_wall" 193 (.ref 21), en w "SlumberError" 213 (.ref 31), en w "NoPlace" 229 (.ref 44), en w "BadRow" 245 (.ref 56), en w "TooMany" 261 (.ref 68), en w "NoBack" 277 (.ref 80), en w "NoSign" 302 (.ref 99), en w "NoReading" 329 (.ref 118), en w "Twice" 356 (.ref 137), en w "Counts" 381 (.ref 156), en w "Parts" 406 (.ref 175), en w "Unknown" 433 (.ref 194), en w "Clash" 462 (.ref 213), en w "Endless" 491 (.ref 232), en w "Broken" 516 (.ref 251), en w "SMALL" 520 (.str "abcdefghijklmnopqrstuvwxyz" 519), en w "GREAT" 522 (.str "ABCDEFGHIJKLMNOPQRSTUVWXYZ" 521), en w "FIGURES" 524 (.str "0123456789" 523), en w "LONGEST" 526 (.int 8 525), en w "REMARK" 528 (.str "--" 527), en w "SORTS" 589 (.ref 254), en w "LONG_SIGNS" 592 (.ref 256), en w "BLOCK_WORDS" 595 (.ref 257), en w "NEVER_ITEMS" 602 (.ref 258), en w "LAYING" 613 (.ref 259), en w "lexemes" 626 (.ref 266), en w "add_lexemes" 639 (.ref 273), en w "mixed_lexemes" 652 (.ref 280), en w "sort_of" 659 (.ref 287), en w "lexeme_at" 672 (.ref 294), en w "run_end" 682 (.ref 301), en w "sign_end" 692 (.ref 308), en w "laid" 708 (.ref 315), en w "end_place" 719 (.ref 322), en w "Layout" 831 (.ref 400), en w "is_whole" 840 (.ref 411), en w "MOST" 842 (.int 20000 841), en w "ARROW" 846 (.str "->" 845), en w "NUM" 848 (.int 0 847), en w "TRUTH" 850 (.int 1 849), en w "Clashing" 870 (.ref 421), en w "Solver" 1077 (.ref 548), en w "pieces_text" 1095 (.ref 559), en w "letter_text" 1103 (.ref 566), en w "binds" 1111 (.ref 571), en w "all_patterns" 1121 (.ref 578), en w "all_kinds" 1131 (.ref 585), en w "steps" 1142 (.ref 592), en w "hidden" 1150 (.ref 599), en w "rule_steps" 1162 (.ref 606), en w "def_steps" 1173 (.ref 613), en w "call_steps" 1180 (.ref 620), en w "op_steps" 1187 (.ref 627), en w "fun_steps" 1194 (.ref 634), en w "let_steps" 1200 (.ref 639), en w "if_steps" 1207 (.ref 646), en w "case_steps" 1218 (.ref 653), en w "WITHIN" 1233 (.ref 654)] 67, #[]⟩),
  (12, ⟨.none, none, .fields #[.int 1 0, .int 0 0, .ref 20, .int 5 0, .int 0 0, .ref 27, .int 7 0, .int 0 0, .ref 40, .int 9 0, .int 0 0, .ref 52, .int 11 0, .int 0 0, .ref 64, .int 13 0, .int 0 0, .ref 76, .int 15 0, .int 0 0, .ref 88, .int 19 0, .int 0 0, .ref 107, .int 24 0, .int 0 0, .ref 126, .int 29 0, .int 0 0, .ref 145, .int 33 0, .int 0 0, .ref 164, .int 37 0, .int 0 0, .ref 183, .int 42 0, .int 0 0, .ref 202, .int 48 0, .int 0 0, .ref 221, .int 54 0, .int 0 0, .ref 240, .int 69 0, .int 0 0, .ref 265, .int 83 0, .int 0 0, .ref 272, .int 101 0, .int 0 0, .ref 279, .int 109 0, .int 0 0, .ref 286, .int 121 0, .int 0 0, .ref 293, .int 137 0, .int 0 0, .ref 300, .int 139 0, .int 0 0, .ref 307, .int 145 0, .int 0 0, .ref 314, .int 161 0, .int 0 0, .ref 321, .int 166 0, .int 0 0, .ref 328, .int 242 0, .int 0 0, .ref 410, .int 249 0, .int 0 0, .ref 417, .int 251 0, .int 0 0, .ref 430, .int 428 0, .int 0 0, .ref 558, .int 450 0, .int 0 0, .ref 565, .int 457 0, .int 0 0, .ref 570, .int 459 0, .int 0 0, .ref 577, .int 468 0, .int 0 0, .ref 584, .int 479 0, .int 0 0, .ref 591, .int 489 0, .int 0 0, .ref 598, .int 491 0, .int 0 0, .ref 605, .int 498 0, .int 0 0, .ref 612, .int 503 0, .int 0 0, .ref 619, .int 505 0, .int 0 0, .ref 626, .int 507 0, .int 0 0, .ref 633, .int 509 0, .int 0 0, .ref 638, .int 511 0, .int 0 0, .ref 645, .int 513 0, .int 0 0, .ref 652], #[]⟩)]
def ov90 (w : World) : List (Nat × Obj) := [
  (2, ⟨.none, none, .dict #[en w "type.__subclasses__.Exception.0" 867 (.int 421 0), en w "type.__subclasses__.Exception.n" 868 (.int 1 0)] 2, #[]⟩),
  (3, ⟨.type "dict", none, .dict #[en w "__name__" 165 (.str "slumberway.demanding" 1246), en w "__doc__" 166 .none, en w "__package__" 167 .none, en w "__loader__" 168 (.builtin "__main__.__loader__#opaque"), en w "__spec__" 169 .none, en w "__annotations__" 170 (.ref 6), en w "__builtins__" 171 (.ref 4), en w "__file__" 173 (.str "/claim/cut.py" 172), en w "__cached__" 174 .none, en w "_wall" 193 (.ref 21), en w "SlumberError" 213 (.ref 31), en w "NoPlace" 229 (.ref 44), en w "BadRow" 245 (.ref 56), en w "TooMany" 261 (.ref 68), en w "NoBack" 277 (.ref 80), en w "NoSign" 302 (.ref 99), en w "NoReading" 329 (.ref 118), en w "Twice" 356 (.ref 137), en w "Counts" 381 (.ref 156), en w "Parts" 406 (.ref 175), en w "Unknown" 433 (.ref 194), en w "Clash" 462 (.ref 213), en w "Endless" 491 (.ref 232), en w "Broken" 516 (.ref 251), en w "SMALL" 520 (.str "abcdefghijklmnopqrstuvwxyz" 519), en w "GREAT" 522 (.str "ABCDEFGHIJKLMNOPQRSTUVWXYZ" 521), en w "FIGURES" 524 (.str "0123456789" 523), en w "LONGEST" 526 (.int 8 525), en w "REMARK" 528 (.str "--" 527), en w "SORTS" 589 (.ref 254), en w "LONG_SIGNS" 592 (.ref 256), en w "BLOCK_WORDS" 595 (.ref 257), en w "NEVER_ITEMS" 602 (.ref 258), en w "LAYING" 613 (.ref 259), en w "lexemes" 626 (.ref 266), en w "add_lexemes" 639 (.ref 273), en w "mixed_lexemes" 652 (.ref 280), en w "sort_of" 659 (.ref 287), en w "lexeme_at" 672 (.ref 294), en w "run_end" 682 (.ref 301), en w "sign_end" 692 (.ref 308), en w "laid" 708 (.ref 315), en w "end_place" 719 (.ref 322), en w "Layout" 831 (.ref 400), en w "is_whole" 840 (.ref 411), en w "MOST" 842 (.int 20000 841), en w "ARROW" 846 (.str "->" 845), en w "NUM" 848 (.int 0 847), en w "TRUTH" 850 (.int 1 849), en w "Clashing" 870 (.ref 421), en w "Solver" 1077 (.ref 548), en w "pieces_text" 1095 (.ref 559), en w "letter_text" 1103 (.ref 566), en w "binds" 1111 (.ref 571), en w "all_patterns" 1121 (.ref 578), en w "all_kinds" 1131 (.ref 585), en w "steps" 1142 (.ref 592), en w "hidden" 1150 (.ref 599), en w "rule_steps" 1162 (.ref 606), en w "def_steps" 1173 (.ref 613), en w "call_steps" 1180 (.ref 620), en w "op_steps" 1187 (.ref 627), en w "fun_steps" 1194 (.ref 634), en w "let_steps" 1200 (.ref 639), en w "if_steps" 1207 (.ref 646), en w "case_steps" 1218 (.ref 653), en w "WITHIN" 1233 (.ref 654), en w "free_names" 1245 (.ref 661), en w "NUMBERS_demanding" 1251 (.ref 662), en w "LEAVES_demanding" 1255 (.ref 663), en w "maker_shapes" 1261 (.ref 668), en w "key_of" 1268 (.ref 675), en w "Demanding" 1412 (.ref 778), en w "equation_step" 1425 (.ref 789), en w "pattern_step" 1431 (.ref 794), en w "demand_step" 1443 (.ref 801), en w "same_step" 1454 (.ref 808), en w "unbind_step" 1462 (.ref 815), en w "num_step" 1470 (.ref 822), en w "name_step" 1478 (.ref 829), en w "maker_step" 1488 (.ref 836), en w "call_step" 1496 (.ref 843), en w "called_step" 1509 (.ref 850), en w "op_step" 1521 (.ref 857), en w "fun_step" 1527 (.ref 862), en w "fun_done_step" 1538 (.ref 869), en w "let_step" 1544 (.ref 874), en w "as_step" 1555 (.ref 881), en w "if_step" 1567 (.ref 888), en w "alike_step" 1578 (.ref 895), en w "case_step" 1586 (.ref 902), en w "choices_step" 1592 (.ref 907), en w "choice_step" 1605 (.ref 914)] 93, #[]⟩),
  (12, ⟨.none, none, .fields #[.int 1 0, .int 0 0, .ref 20, .int 5 0, .int 0 0, .ref 27, .int 7 0, .int 0 0, .ref 40, .int 9 0, .int 0 0, .ref 52, .int 11 0, .int 0 0, .ref 64, .int 13 0, .int 0 0, .ref 76, .int 15 0, .int 0 0, .ref 88, .int 19 0, .int 0 0, .ref 107, .int 24 0, .int 0 0, .ref 126, .int 29 0, .int 0 0, .ref 145, .int 33 0, .int 0 0, .ref 164, .int 37 0, .int 0 0, .ref 183, .int 42 0, .int 0 0, .ref 202, .int 48 0, .int 0 0, .ref 221, .int 54 0, .int 0 0, .ref 240, .int 69 0, .int 0 0, .ref 265, .int 83 0, .int 0 0, .ref 272, .int 101 0, .int 0 0, .ref 279, .int 109 0, .int 0 0, .ref 286, .int 121 0, .int 0 0, .ref 293, .int 137 0, .int 0 0, .ref 300, .int 139 0, .int 0 0, .ref 307, .int 145 0, .int 0 0, .ref 314, .int 161 0, .int 0 0, .ref 321, .int 166 0, .int 0 0, .ref 328, .int 242 0, .int 0 0, .ref 410, .int 249 0, .int 0 0, .ref 417, .int 251 0, .int 0 0, .ref 430, .int 428 0, .int 0 0, .ref 558, .int 450 0, .int 0 0, .ref 565, .int 457 0, .int 0 0, .ref 570, .int 459 0, .int 0 0, .ref 577, .int 468 0, .int 0 0, .ref 584, .int 479 0, .int 0 0, .ref 591, .int 489 0, .int 0 0, .ref 598, .int 491 0, .int 0 0, .ref 605, .int 498 0, .int 0 0, .ref 612, .int 503 0, .int 0 0, .ref 619, .int 505 0, .int 0 0, .ref 626, .int 507 0, .int 0 0, .ref 633, .int 509 0, .int 0 0, .ref 638, .int 511 0, .int 0 0, .ref 645, .int 513 0, .int 0 0, .ref 652, .int 519 0, .int 0 0, .ref 660, .int 535 0, .int 0 0, .ref 667, .int 543 0, .int 0 0, .ref 674, .int 545 0, .int 0 0, .ref 681, .int 641 0, .int 0 0, .ref 788, .int 644 0, .int 0 0, .ref 793, .int 654 0, .int 0 0, .ref 800, .int 657 0, .int 0 0, .ref 807, .int 660 0, .int 0 0, .ref 814, .int 662 0, .int 0 0, .ref 821, .int 664 0, .int 0 0, .ref 828, .int 666 0, .int 0 0, .ref 835, .int 669 0, .int 0 0, .ref 842, .int 671 0, .int 0 0, .ref 849, .int 679 0, .int 0 0, .ref 856, .int 683 0, .int 0 0, .ref 861, .int 689 0, .int 0 0, .ref 868, .int 692 0, .int 0 0, .ref 873, .int 695 0, .int 0 0, .ref 880, .int 698 0, .int 0 0, .ref 887, .int 701 0, .int 0 0, .ref 894, .int 704 0, .int 0 0, .ref 901, .int 706 0, .int 0 0, .ref 906, .int 712 0, .int 0 0, .ref 913], #[]⟩)]
def ov91 (w : World) : List (Nat × Obj) := [
  (2, ⟨.none, none, .dict #[en w "type.__subclasses__.Exception.0" 867 (.int 421 0), en w "type.__subclasses__.Exception.n" 868 (.int 1 0)] 2, #[]⟩),
  (3, ⟨.type "dict", none, .dict #[en w "__name__" 165 (.str "slumberway.demanding" 1246), en w "__doc__" 166 .none, en w "__package__" 167 .none, en w "__loader__" 168 (.builtin "__main__.__loader__#opaque"), en w "__spec__" 169 .none, en w "__annotations__" 170 (.ref 6), en w "__builtins__" 171 (.ref 4), en w "__file__" 173 (.str "/claim/cut.py" 172), en w "__cached__" 174 .none, en w "_wall" 193 (.ref 21), en w "SlumberError" 213 (.ref 31), en w "NoPlace" 229 (.ref 44), en w "BadRow" 245 (.ref 56), en w "TooMany" 261 (.ref 68), en w "NoBack" 277 (.ref 80), en w "NoSign" 302 (.ref 99), en w "NoReading" 329 (.ref 118), en w "Twice" 356 (.ref 137), en w "Counts" 381 (.ref 156), en w "Parts" 406 (.ref 175), en w "Unknown" 433 (.ref 194), en w "Clash" 462 (.ref 213), en w "Endless" 491 (.ref 232), en w "Broken" 516 (.ref 251), en w "SMALL" 520 (.str "abcdefghijklmnopqrstuvwxyz" 519), en w "GREAT" 522 (.str "ABCDEFGHIJKLMNOPQRSTUVWXYZ" 521), en w "FIGURES" 524 (.str "0123456789" 523), en w "LONGEST" 526 (.int 8 525), en w "REMARK" 528 (.str "--" 527), en w "SORTS" 589 (.ref 254), en w "LONG_SIGNS" 592 (.ref 256), en w "BLOCK_WORDS" 595 (.ref 257), en w "NEVER_ITEMS" 602 (.ref 258), en w "LAYING" 613 (.ref 259), en w "lexemes" 626 (.ref 266), en w "add_lexemes" 639 (.ref 273), en w "mixed_lexemes" 652 (.ref 280), en w "sort_of" 659 (.ref 287), en w "lexeme_at" 672 (.ref 294), en w "run_end" 682 (.ref 301), en w "sign_end" 692 (.ref 308), en w "laid" 708 (.ref 315), en w "end_place" 719 (.ref 322), en w "Layout" 831 (.ref 400), en w "is_whole" 840 (.ref 411), en w "MOST" 842 (.int 20000 841), en w "ARROW" 846 (.str "->" 845), en w "NUM" 848 (.int 0 847), en w "TRUTH" 850 (.int 1 849), en w "Clashing" 870 (.ref 421), en w "Solver" 1077 (.ref 548), en w "pieces_text" 1095 (.ref 559), en w "letter_text" 1103 (.ref 566), en w "binds" 1111 (.ref 571), en w "all_patterns" 1121 (.ref 578), en w "all_kinds" 1131 (.ref 585), en w "steps" 1142 (.ref 592), en w "hidden" 1150 (.ref 599), en w "rule_steps" 1162 (.ref 606), en w "def_steps" 1173 (.ref 613), en w "call_steps" 1180 (.ref 620), en w "op_steps" 1187 (.ref 627), en w "fun_steps" 1194 (.ref 634), en w "let_steps" 1200 (.ref 639), en w "if_steps" 1207 (.ref 646), en w "case_steps" 1218 (.ref 653), en w "WITHIN" 1233 (.ref 654), en w "free_names" 1245 (.ref 661), en w "NUMBERS_demanding" 1251 (.ref 662), en w "LEAVES_demanding" 1255 (.ref 663), en w "maker_shapes" 1261 (.ref 668), en w "key_of" 1268 (.ref 675), en w "Demanding" 1412 (.ref 778), en w "equation_step" 1425 (.ref 789), en w "pattern_step" 1431 (.ref 794), en w "demand_step" 1443 (.ref 801), en w "same_step" 1454 (.ref 808), en w "unbind_step" 1462 (.ref 815), en w "num_step" 1470 (.ref 822), en w "name_step" 1478 (.ref 829), en w "maker_step" 1488 (.ref 836), en w "call_step" 1496 (.ref 843), en w "called_step" 1509 (.ref 850), en w "op_step" 1521 (.ref 857), en w "fun_step" 1527 (.ref 862), en w "fun_done_step" 1538 (.ref 869), en w "let_step" 1544 (.ref 874), en w "as_step" 1555 (.ref 881), en w "if_step" 1567 (.ref 888), en w "alike_step" 1578 (.ref 895), en w "case_step" 1586 (.ref 902), en w "choices_step" 1592 (.ref 907), en w "choice_step" 1605 (.ref 914), en w "STEPS_demanding" 1646 (.ref 915)] 94, #[]⟩),
  (12, ⟨.none, none, .fields #[.int 1 0, .int 0 0, .ref 20, .int 5 0, .int 0 0, .ref 27, .int 7 0, .int 0 0, .ref 40, .int 9 0, .int 0 0, .ref 52, .int 11 0, .int 0 0, .ref 64, .int 13 0, .int 0 0, .ref 76, .int 15 0, .int 0 0, .ref 88, .int 19 0, .int 0 0, .ref 107, .int 24 0, .int 0 0, .ref 126, .int 29 0, .int 0 0, .ref 145, .int 33 0, .int 0 0, .ref 164, .int 37 0, .int 0 0, .ref 183, .int 42 0, .int 0 0, .ref 202, .int 48 0, .int 0 0, .ref 221, .int 54 0, .int 0 0, .ref 240, .int 69 0, .int 0 0, .ref 265, .int 83 0, .int 0 0, .ref 272, .int 101 0, .int 0 0, .ref 279, .int 109 0, .int 0 0, .ref 286, .int 121 0, .int 0 0, .ref 293, .int 137 0, .int 0 0, .ref 300, .int 139 0, .int 0 0, .ref 307, .int 145 0, .int 0 0, .ref 314, .int 161 0, .int 0 0, .ref 321, .int 166 0, .int 0 0, .ref 328, .int 242 0, .int 0 0, .ref 410, .int 249 0, .int 0 0, .ref 417, .int 251 0, .int 0 0, .ref 430, .int 428 0, .int 0 0, .ref 558, .int 450 0, .int 0 0, .ref 565, .int 457 0, .int 0 0, .ref 570, .int 459 0, .int 0 0, .ref 577, .int 468 0, .int 0 0, .ref 584, .int 479 0, .int 0 0, .ref 591, .int 489 0, .int 0 0, .ref 598, .int 491 0, .int 0 0, .ref 605, .int 498 0, .int 0 0, .ref 612, .int 503 0, .int 0 0, .ref 619, .int 505 0, .int 0 0, .ref 626, .int 507 0, .int 0 0, .ref 633, .int 509 0, .int 0 0, .ref 638, .int 511 0, .int 0 0, .ref 645, .int 513 0, .int 0 0, .ref 652, .int 519 0, .int 0 0, .ref 660, .int 535 0, .int 0 0, .ref 667, .int 543 0, .int 0 0, .ref 674, .int 545 0, .int 0 0, .ref 681, .int 641 0, .int 0 0, .ref 788, .int 644 0, .int 0 0, .ref 793, .int 654 0, .int 0 0, .ref 800, .int 657 0, .int 0 0, .ref 807, .int 660 0, .int 0 0, .ref 814, .int 662 0, .int 0 0, .ref 821, .int 664 0, .int 0 0, .ref 828, .int 666 0, .int 0 0, .ref 835, .int 669 0, .int 0 0, .ref 842, .int 671 0, .int 0 0, .ref 849, .int 679 0, .int 0 0, .ref 856, .int 683 0, .int 0 0, .ref 861, .int 689 0, .int 0 0, .ref 868, .int 692 0, .int 0 0, .ref 873, .int 695 0, .int 0 0, .ref 880, .int 698 0, .int 0 0, .ref 887, .int 701 0, .int 0 0, .ref 894, .int 704 0, .int 0 0, .ref 901, .int 706 0, .int 0 0, .ref 906, .int 712 0, .int 0 0, .ref 913], #[]⟩)]
def ov110 (w : World) : List (Nat × Obj) := [
  (3, ⟨.type "dict", none, .dict #[en w "__name__" 165 (.str "slumberway.quick" 1673), en w "__doc__" 166 .none, en w "__package__" 167 .none, en w "__loader__" 168 (.builtin "__main__.__loader__#opaque"), en w "__spec__" 169 .none, en w "__annotations__" 170 (.ref 6), en w "__builtins__" 171 (.ref 4), en w "__file__" 173 (.str "/claim/cut.py" 172), en w "__cached__" 174 .none, en w "_wall" 193 (.ref 21), en w "SlumberError" 213 (.ref 31), en w "NoPlace" 229 (.ref 44), en w "BadRow" 245 (.ref 56), en w "TooMany" 261 (.ref 68), en w "NoBack" 277 (.ref 80), en w "NoSign" 302 (.ref 99), en w "NoReading" 329 (.ref 118), en w "Twice" 356 (.ref 137), en w "Counts" 381 (.ref 156), en w "Parts" 406 (.ref 175), en w "Unknown" 433 (.ref 194), en w "Clash" 462 (.ref 213), en w "Endless" 491 (.ref 232), en w "Broken" 516 (.ref 251), en w "SMALL" 520 (.str "abcdefghijklmnopqrstuvwxyz" 519), en w "GREAT" 522 (.str "ABCDEFGHIJKLMNOPQRSTUVWXYZ" 521), en w "FIGURES" 524 (.str "0123456789" 523), en w "LONGEST" 526 (.int 8 525), en w "REMARK" 528 (.str "--" 527), en w "SORTS" 589 (.ref 254), en w "LONG_SIGNS" 592 (.ref 256), en w "BLOCK_WORDS" 595 (.ref 257), en w "NEVER_ITEMS" 602 (.ref 258), en w "LAYING" 613 (.ref 259), en w "lexemes" 626 (.ref 266), en w "add_lexemes" 639 (.ref 273), en w "mixed_lexemes" 652 (.ref 280), en w "sort_of" 659 (.ref 287), en w "lexeme_at" 672 (.ref 294), en w "run_end" 682 (.ref 301), en w "sign_end" 692 (.ref 308), en w "laid" 708 (.ref 315), en w "end_place" 719 (.ref 322), en w "Layout" 831 (.ref 400), en w "is_whole" 840 (.ref 411), en w "MOST" 842 (.int 20000 841), en w "ARROW" 846 (.str "->" 845), en w "NUM" 848 (.int 0 847), en w "TRUTH" 850 (.int 1 849), en w "Clashing" 870 (.ref 421), en w "Solver" 1077 (.ref 548), en w "pieces_text" 1095 (.ref 559), en w "letter_text" 1103 (.ref 566), en w "binds" 1111 (.ref 571), en w "all_patterns" 1121 (.ref 578), en w "all_kinds" 1131 (.ref 585), en w "steps" 1142 (.ref 592), en w "hidden" 1150 (.ref 599), en w "rule_steps" 1162 (.ref 606), en w "def_steps" 1173 (.ref 613), en w "call_steps" 1180 (.ref 620), en w "op_steps" 1187 (.ref 627), en w "fun_steps" 1194 (.ref 634), en w "let_steps" 1200 (.ref 639), en w "if_steps" 1207 (.ref 646), en w "case_steps" 1218 (.ref 653), en w "WITHIN" 1233 (.ref 654), en w "free_names" 1245 (.ref 661), en w "NUMBERS_demanding" 1251 (.ref 662), en w "LEAVES_demanding" 1255 (.ref 663), en w "maker_shapes" 1261 (.ref 668), en w "key_of" 1268 (.ref 675), en w "Demanding" 1412 (.ref 778), en w "equation_step" 1425 (.ref 789), en w "pattern_step" 1431 (.ref 794), en w "demand_step" 1443 (.ref 801), en w "same_step" 1454 (.ref 808), en w "unbind_step" 1462 (.ref 815), en w "num_step" 1470 (.ref 822), en w "name_step" 1478 (.ref 829), en w "maker_step" 1488 (.ref 836), en w "call_step" 1496 (.ref 843), en w "called_step" 1509 (.ref 850), en w "op_step" 1521 (.ref 857), en w "fun_step" 1527 (.ref 862), en w "fun_done_step" 1538 (.ref 869), en w "let_step" 1544 (.ref 874), en w "as_step" 1555 (.ref 881), en w "if_step" 1567 (.ref 888), en w "alike_step" 1578 (.ref 895), en w "case_step" 1586 (.ref 902), en w "choices_step" 1592 (.ref 907), en w "choice_step" 1605 (.ref 914), en w "STEPS_demanding" 1646 (.ref 915), en w "groups" 1654 (.ref 921), en w "grouped" 1660 (.ref 926), en w "in_order" 1672 (.ref 933), en w "DEEPEST_quick" 1676 (.int 60 1675), en w "NUMBERS_quick" 1680 (.ref 934), en w "Odd" 1700 (.ref 944), en w "quick_of" 1708 (.ref 954), en w "Makers" 1748 (.ref 979), en w "are_kinds" 1759 (.ref 990), en w "Quick" 1957 (.ref 1109), en w "maker_kind" 1968 (.ref 1120), en w "call_kind" 1974 (.ref 1125), en w "op_kind" 1989 (.ref 1132), en w "fun_kind" 2003 (.ref 1139), en w "let_kind" 2018 (.ref 1146), en w "if_kind" 2034 (.ref 1153), en w "case_kind" 2048 (.ref 1160)] 111, #[]⟩),
  (12, ⟨.none, none, .fields #[.int 1 0, .int 0 0, .ref 20, .int 5 0, .int 0 0, .ref 27, .int 7 0, .int 0 0, .ref 40, .int 9 0, .int 0 0, .ref 52, .int 11 0, .int 0 0, .ref 64, .int 13 0, .int 0 0, .ref 76, .int 15 0, .int 0 0, .ref 88, .int 19 0, .int 0 0, .ref 107, .int 24 0, .int 0 0, .ref 126, .int 29 0, .int 0 0, .ref 145, .int 33 0, .int 0 0, .ref 164, .int 37 0, .int 0 0, .ref 183, .int 42 0, .int 0 0, .ref 202, .int 48 0, .int 0 0, .ref 221, .int 54 0, .int 0 0, .ref 240, .int 69 0, .int 0 0, .ref 265, .int 83 0, .int 0 0, .ref 272, .int 101 0, .int 0 0, .ref 279, .int 109 0, .int 0 0, .ref 286, .int 121 0, .int 0 0, .ref 293, .int 137 0, .int 0 0, .ref 300, .int 139 0, .int 0 0, .ref 307, .int 145 0, .int 0 0, .ref 314, .int 161 0, .int 0 0, .ref 321, .int 166 0, .int 0 0, .ref 328, .int 242 0, .int 0 0, .ref 410, .int 249 0, .int 0 0, .ref 417, .int 251 0, .int 0 0, .ref 430, .int 428 0, .int 0 0, .ref 558, .int 450 0, .int 0 0, .ref 565, .int 457 0, .int 0 0, .ref 570, .int 459 0, .int 0 0, .ref 577, .int 468 0, .int 0 0, .ref 584, .int 479 0, .int 0 0, .ref 591, .int 489 0, .int 0 0, .ref 598, .int 491 0, .int 0 0, .ref 605, .int 498 0, .int 0 0, .ref 612, .int 503 0, .int 0 0, .ref 619, .int 505 0, .int 0 0, .ref 626, .int 507 0, .int 0 0, .ref 633, .int 509 0, .int 0 0, .ref 638, .int 511 0, .int 0 0, .ref 645, .int 513 0, .int 0 0, .ref 652, .int 519 0, .int 0 0, .ref 660, .int 535 0, .int 0 0, .ref 667, .int 543 0, .int 0 0, .ref 674, .int 545 0, .int 0 0, .ref 681, .int 641 0, .int 0 0, .ref 788, .int 644 0, .int 0 0, .ref 793, .int 654 0, .int 0 0, .ref 800, .int 657 0, .int 0 0, .ref 807, .int 660 0, .int 0 0, .ref 814, .int 662 0, .int 0 0, .ref 821, .int 664 0, .int 0 0, .ref 828, .int 666 0, .int 0 0, .ref 835, .int 669 0, .int 0 0, .ref 842, .int 671 0, .int 0 0, .ref 849, .int 679 0, .int 0 0, .ref 856, .int 683 0, .int 0 0, .ref 861, .int 689 0, .int 0 0, .ref 868, .int 692 0, .int 0 0, .ref 873, .int 695 0, .int 0 0, .ref 880, .int 698 0, .int 0 0, .ref 887, .int 701 0, .int 0 0, .ref 894, .int 704 0, .int 0 0, .ref 901, .int 706 0, .int 0 0, .ref 906, .int 712 0, .int 0 0, .ref 913, .int 717 0, .int 0 0, .ref 920, .int 721 0, .int 0 0, .ref 925, .int 746 0, .int 0 0, .ref 932, .int 761 0, .int 0 0, .ref 940, .int 763 0, .int 0 0, .ref 953, .int 768 0, .int 0 0, .ref 960, .int 807 0, .int 0 0, .ref 989, .int 821 0, .int 0 0, .ref 996, .int 978 0, .int 0 0, .ref 1119, .int 983 0, .int 0 0, .ref 1124, .int 992 0, .int 0 0, .ref 1131, .int 998 0, .int 0 0, .ref 1138, .int 1007 0, .int 0 0, .ref 1145, .int 1019 0, .int 0 0, .ref 1152, .int 1026 0, .int 0 0, .ref 1159], #[]⟩)]
def ov113 (w : World) : List (Nat × Obj) := [
  (3, ⟨.type "dict", none, .dict #[en w "__name__" 165 (.str "slumberway.building" 2064), en w "__doc__" 166 .none, en w "__package__" 167 .none, en w "__loader__" 168 (.builtin "__main__.__loader__#opaque"), en w "__spec__" 169 .none, en w "__annotations__" 170 (.ref 6), en w "__builtins__" 171 (.ref 4), en w "__file__" 173 (.str "/claim/cut.py" 172), en w "__cached__" 174 .none, en w "_wall" 193 (.ref 21), en w "SlumberError" 213 (.ref 31), en w "NoPlace" 229 (.ref 44), en w "BadRow" 245 (.ref 56), en w "TooMany" 261 (.ref 68), en w "NoBack" 277 (.ref 80), en w "NoSign" 302 (.ref 99), en w "NoReading" 329 (.ref 118), en w "Twice" 356 (.ref 137), en w "Counts" 381 (.ref 156), en w "Parts" 406 (.ref 175), en w "Unknown" 433 (.ref 194), en w "Clash" 462 (.ref 213), en w "Endless" 491 (.ref 232), en w "Broken" 516 (.ref 251), en w "SMALL" 520 (.str "abcdefghijklmnopqrstuvwxyz" 519), en w "GREAT" 522 (.str "ABCDEFGHIJKLMNOPQRSTUVWXYZ" 521), en w "FIGURES" 524 (.str "0123456789" 523), en w "LONGEST" 526 (.int 8 525), en w "REMARK" 528 (.str "--" 527), en w "SORTS" 589 (.ref 254), en w "LONG_SIGNS" 592 (.ref 256), en w "BLOCK_WORDS" 595 (.ref 257), en w "NEVER_ITEMS" 602 (.ref 258), en w "LAYING" 613 (.ref 259), en w "lexemes" 626 (.ref 266), en w "add_lexemes" 639 (.ref 273), en w "mixed_lexemes" 652 (.ref 280), en w "sort_of" 659 (.ref 287), en w "lexeme_at" 672 (.ref 294), en w "run_end" 682 (.ref 301), en w "sign_end" 692 (.ref 308), en w "laid" 708 (.ref 315), en w "end_place" 719 (.ref 322), en w "Layout" 831 (.ref 400), en w "is_whole" 840 (.ref 411), en w "MOST" 842 (.int 20000 841), en w "ARROW" 846 (.str "->" 845), en w "NUM" 848 (.int 0 847), en w "TRUTH" 850 (.int 1 849), en w "Clashing" 870 (.ref 421), en w "Solver" 1077 (.ref 548), en w "pieces_text" 1095 (.ref 559), en w "letter_text" 1103 (.ref 566), en w "binds" 1111 (.ref 571), en w "all_patterns" 1121 (.ref 578), en w "all_kinds" 1131 (.ref 585), en w "steps" 1142 (.ref 592), en w "hidden" 1150 (.ref 599), en w "rule_steps" 1162 (.ref 606), en w "def_steps" 1173 (.ref 613), en w "call_steps" 1180 (.ref 620), en w "op_steps" 1187 (.ref 627), en w "fun_steps" 1194 (.ref 634), en w "let_steps" 1200 (.ref 639), en w "if_steps" 1207 (.ref 646), en w "case_steps" 1218 (.ref 653), en w "WITHIN" 1233 (.ref 654), en w "free_names" 1245 (.ref 661), en w "NUMBERS_demanding" 1251 (.ref 662), en w "LEAVES_demanding" 1255 (.ref 663), en w "maker_shapes" 1261 (.ref 668), en w "key_of" 1268 (.ref 675), en w "Demanding" 1412 (.ref 778), en w "equation_step" 1425 (.ref 789), en w "pattern_step" 1431 (.ref 794), en w "demand_step" 1443 (.ref 801), en w "same_step" 1454 (.ref 808), en w "unbind_step" 1462 (.ref 815), en w "num_step" 1470 (.ref 822), en w "name_step" 1478 (.ref 829), en w "maker_step" 1488 (.ref 836), en w "call_step" 1496 (.ref 843), en w "called_step" 1509 (.ref 850), en w "op_step" 1521 (.ref 857), en w "fun_step" 1527 (.ref 862), en w "fun_done_step" 1538 (.ref 869), en w "let_step" 1544 (.ref 874), en w "as_step" 1555 (.ref 881), en w "if_step" 1567 (.ref 888), en w "alike_step" 1578 (.ref 895), en w "case_step" 1586 (.ref 902), en w "choices_step" 1592 (.ref 907), en w "choice_step" 1605 (.ref 914), en w "STEPS_demanding" 1646 (.ref 915), en w "groups" 1654 (.ref 921), en w "grouped" 1660 (.ref 926), en w "in_order" 1672 (.ref 933), en w "DEEPEST_quick" 1676 (.int 60 1675), en w "NUMBERS_quick" 1680 (.ref 934), en w "Odd" 1700 (.ref 944), en w "quick_of" 1708 (.ref 954), en w "Makers" 1748 (.ref 979), en w "are_kinds" 1759 (.ref 990), en w "Quick" 1957 (.ref 1109), en w "maker_kind" 1968 (.ref 1120), en w "call_kind" 1974 (.ref 1125), en w "op_kind" 1989 (.ref 1132), en w "fun_kind" 2003 (.ref 1139), en w "let_kind" 2018 (.ref 1146), en w "if_kind" 2034 (.ref 1153), en w "case_kind" 2048 (.ref 1160), en w "KINDS" 2063 (.ref 1161), en w "TIGHTNESS" 2081 (.ref 1162)] 113, #[]⟩),
  (12, ⟨.none, none, .fields #[.int 1 0, .int 0 0, .ref 20, .int 5 0, .int 0 0, .ref 27, .int 7 0, .int 0 0, .ref 40, .int 9 0, .int 0 0, .ref 52, .int 11 0, .int 0 0, .ref 64, .int 13 0, .int 0 0, .ref 76, .int 15 0, .int 0 0, .ref 88, .int 19 0, .int 0 0, .ref 107, .int 24 0, .int 0 0, .ref 126, .int 29 0, .int 0 0, .ref 145, .int 33 0, .int 0 0, .ref 164, .int 37 0, .int 0 0, .ref 183, .int 42 0, .int 0 0, .ref 202, .int 48 0, .int 0 0, .ref 221, .int 54 0, .int 0 0, .ref 240, .int 69 0, .int 0 0, .ref 265, .int 83 0, .int 0 0, .ref 272, .int 101 0, .int 0 0, .ref 279, .int 109 0, .int 0 0, .ref 286, .int 121 0, .int 0 0, .ref 293, .int 137 0, .int 0 0, .ref 300, .int 139 0, .int 0 0, .ref 307, .int 145 0, .int 0 0, .ref 314, .int 161 0, .int 0 0, .ref 321, .int 166 0, .int 0 0, .ref 328, .int 242 0, .int 0 0, .ref 410, .int 249 0, .int 0 0, .ref 417, .int 251 0, .int 0 0, .ref 430, .int 428 0, .int 0 0, .ref 558, .int 450 0, .int 0 0, .ref 565, .int 457 0, .int 0 0, .ref 570, .int 459 0, .int 0 0, .ref 577, .int 468 0, .int 0 0, .ref 584, .int 479 0, .int 0 0, .ref 591, .int 489 0, .int 0 0, .ref 598, .int 491 0, .int 0 0, .ref 605, .int 498 0, .int 0 0, .ref 612, .int 503 0, .int 0 0, .ref 619, .int 505 0, .int 0 0, .ref 626, .int 507 0, .int 0 0, .ref 633, .int 509 0, .int 0 0, .ref 638, .int 511 0, .int 0 0, .ref 645, .int 513 0, .int 0 0, .ref 652, .int 519 0, .int 0 0, .ref 660, .int 535 0, .int 0 0, .ref 667, .int 543 0, .int 0 0, .ref 674, .int 545 0, .int 0 0, .ref 681, .int 641 0, .int 0 0, .ref 788, .int 644 0, .int 0 0, .ref 793, .int 654 0, .int 0 0, .ref 800, .int 657 0, .int 0 0, .ref 807, .int 660 0, .int 0 0, .ref 814, .int 662 0, .int 0 0, .ref 821, .int 664 0, .int 0 0, .ref 828, .int 666 0, .int 0 0, .ref 835, .int 669 0, .int 0 0, .ref 842, .int 671 0, .int 0 0, .ref 849, .int 679 0, .int 0 0, .ref 856, .int 683 0, .int 0 0, .ref 861, .int 689 0, .int 0 0, .ref 868, .int 692 0, .int 0 0, .ref 873, .int 695 0, .int 0 0, .ref 880, .int 698 0, .int 0 0, .ref 887, .int 701 0, .int 0 0, .ref 894, .int 704 0, .int 0 0, .ref 901, .int 706 0, .int 0 0, .ref 906, .int 712 0, .int 0 0, .ref 913, .int 717 0, .int 0 0, .ref 920, .int 721 0, .int 0 0, .ref 925, .int 746 0, .int 0 0, .ref 932, .int 761 0, .int 0 0, .ref 940, .int 763 0, .int 0 0, .ref 953, .int 768 0, .int 0 0, .ref 960, .int 807 0, .int 0 0, .ref 989, .int 821 0, .int 0 0, .ref 996, .int 978 0, .int 0 0, .ref 1119, .int 983 0, .int 0 0, .ref 1124, .int 992 0, .int 0 0, .ref 1131, .int 998 0, .int 0 0, .ref 1138, .int 1007 0, .int 0 0, .ref 1145, .int 1019 0, .int 0 0, .ref 1152, .int 1026 0, .int 0 0, .ref 1159], #[]⟩)]
def ov140 (w : World) : List (Nat × Obj) := [
  (3, ⟨.type "dict", none, .dict #[en w "__name__" 165 (.str "slumberway.building" 2064), en w "__doc__" 166 .none, en w "__package__" 167 .none, en w "__loader__" 168 (.builtin "__main__.__loader__#opaque"), en w "__spec__" 169 .none, en w "__annotations__" 170 (.ref 6), en w "__builtins__" 171 (.ref 4), en w "__file__" 173 (.str "/claim/cut.py" 172), en w "__cached__" 174 .none, en w "_wall" 193 (.ref 21), en w "SlumberError" 213 (.ref 31), en w "NoPlace" 229 (.ref 44), en w "BadRow" 245 (.ref 56), en w "TooMany" 261 (.ref 68), en w "NoBack" 277 (.ref 80), en w "NoSign" 302 (.ref 99), en w "NoReading" 329 (.ref 118), en w "Twice" 356 (.ref 137), en w "Counts" 381 (.ref 156), en w "Parts" 406 (.ref 175), en w "Unknown" 433 (.ref 194), en w "Clash" 462 (.ref 213), en w "Endless" 491 (.ref 232), en w "Broken" 516 (.ref 251), en w "SMALL" 520 (.str "abcdefghijklmnopqrstuvwxyz" 519), en w "GREAT" 522 (.str "ABCDEFGHIJKLMNOPQRSTUVWXYZ" 521), en w "FIGURES" 524 (.str "0123456789" 523), en w "LONGEST" 526 (.int 8 525), en w "REMARK" 528 (.str "--" 527), en w "SORTS" 589 (.ref 254), en w "LONG_SIGNS" 592 (.ref 256), en w "BLOCK_WORDS" 595 (.ref 257), en w "NEVER_ITEMS" 602 (.ref 258), en w "LAYING" 613 (.ref 259), en w "lexemes" 626 (.ref 266), en w "add_lexemes" 639 (.ref 273), en w "mixed_lexemes" 652 (.ref 280), en w "sort_of" 659 (.ref 287), en w "lexeme_at" 672 (.ref 294), en w "run_end" 682 (.ref 301), en w "sign_end" 692 (.ref 308), en w "laid" 708 (.ref 315), en w "end_place" 719 (.ref 322), en w "Layout" 831 (.ref 400), en w "is_whole" 840 (.ref 411), en w "MOST" 842 (.int 20000 841), en w "ARROW" 846 (.str "->" 845), en w "NUM" 848 (.int 0 847), en w "TRUTH" 850 (.int 1 849), en w "Clashing" 870 (.ref 421), en w "Solver" 1077 (.ref 548), en w "pieces_text" 1095 (.ref 559), en w "letter_text" 1103 (.ref 566), en w "binds" 1111 (.ref 571), en w "all_patterns" 1121 (.ref 578), en w "all_kinds" 1131 (.ref 585), en w "steps" 1142 (.ref 592), en w "hidden" 1150 (.ref 599), en w "rule_steps" 1162 (.ref 606), en w "def_steps" 1173 (.ref 613), en w "call_steps" 1180 (.ref 620), en w "op_steps" 1187 (.ref 627), en w "fun_steps" 1194 (.ref 634), en w "let_steps" 1200 (.ref 639), en w "if_steps" 1207 (.ref 646), en w "case_steps" 1218 (.ref 653), en w "WITHIN" 1233 (.ref 654), en w "free_names" 1245 (.ref 661), en w "NUMBERS_demanding" 1251 (.ref 662), en w "LEAVES_demanding" 1255 (.ref 663), en w "maker_shapes" 1261 (.ref 668), en w "key_of" 1268 (.ref 675), en w "Demanding" 1412 (.ref 778), en w "equation_step" 1425 (.ref 789), en w "pattern_step" 1431 (.ref 794), en w "demand_step" 1443 (.ref 801), en w "same_step" 1454 (.ref 808), en w "unbind_step" 1462 (.ref 815), en w "num_step" 1470 (.ref 822), en w "name_step" 1478 (.ref 829), en w "maker_step" 1488 (.ref 836), en w "call_step" 1496 (.ref 843), en w "called_step" 1509 (.ref 850), en w "op_step" 1521 (.ref 857), en w "fun_step" 1527 (.ref 862), en w "fun_done_step" 1538 (.ref 869), en w "let_step" 1544 (.ref 874), en w "as_step" 1555 (.ref 881), en w "if_step" 1567 (.ref 888), en w "alike_step" 1578 (.ref 895), en w "case_step" 1586 (.ref 902), en w "choices_step" 1592 (.ref 907), en w "choice_step" 1605 (.ref 914), en w "STEPS_demanding" 1646 (.ref 915), en w "groups" 1654 (.ref 921), en w "grouped" 1660 (.ref 926), en w "in_order" 1672 (.ref 933), en w "DEEPEST_quick" 1676 (.int 60 1675), en w "NUMBERS_quick" 1680 (.ref 934), en w "Odd" 1700 (.ref 944), en w "quick_of" 1708 (.ref 954), en w "Makers" 1748 (.ref 979), en w "are_kinds" 1759 (.ref 990), en w "Quick" 1957 (.ref 1109), en w "maker_kind" 1968 (.ref 1120), en w "call_kind" 1974 (.ref 1125), en w "op_kind" 1989 (.ref 1132), en w "fun_kind" 2003 (.ref 1139), en w "let_kind" 2018 (.ref 1146), en w "if_kind" 2034 (.ref 1153), en w "case_kind" 2048 (.ref 1160), en w "KINDS" 2063 (.ref 1161), en w "TIGHTNESS" 2081 (.ref 1162), en w "nothing" 2089 (.ref 1169), en w "keep_word" 2097 (.ref 1176), en w "keep_placed_word" 2105 (.ref 1183), en w "begin_placed" 2113 (.ref 1190), en w "begin_placed_word" 2121 (.ref 1197), en w "begin_line" 2129 (.ref 1204), en w "begin_made" 2137 (.ref 1211), en w "end_letters" 2145 (.ref 1218), en w "keep_letter" 2153 (.ref 1225), en w "keep_bare_kind" 2161 (.ref 1232), en w "begin_kind" 2169 (.ref 1239), en w "begin_kind_parts" 2177 (.ref 1246), en w "keep_place" 2185 (.ref 1253), en w "begin_equation" 2193 (.ref 1260), en w "begin_choice" 2201 (.ref 1267), en w "keep_any" 2209 (.ref 1274), en w "keep_bind" 2217 (.ref 1281), en w "keep_number" 2225 (.ref 1288), en w "keep_bare_made" 2233 (.ref 1295), en w "begin_pattern" 2241 (.ref 1302), en w "begin_pattern_parts" 2249 (.ref 1309), en w "choose_any" 2257 (.ref 1316), en w "choose_bind" 2265 (.ref 1323), en w "choose_number" 2273 (.ref 1330), en w "choose_made" 2281 (.ref 1337), en w "choose_bracket" 2289 (.ref 1344), en w "begin_sides" 2297 (.ref 1351)] 140, #[]⟩),
  (12, ⟨.none, none, .fields #[.int 1 0, .int 0 0, .ref 20, .int 5 0, .int 0 0, .ref 27, .int 7 0, .int 0 0, .ref 40, .int 9 0, .int 0 0, .ref 52, .int 11 0, .int 0 0, .ref 64, .int 13 0, .int 0 0, .ref 76, .int 15 0, .int 0 0, .ref 88, .int 19 0, .int 0 0, .ref 107, .int 24 0, .int 0 0, .ref 126, .int 29 0, .int 0 0, .ref 145, .int 33 0, .int 0 0, .ref 164, .int 37 0, .int 0 0, .ref 183, .int 42 0, .int 0 0, .ref 202, .int 48 0, .int 0 0, .ref 221, .int 54 0, .int 0 0, .ref 240, .int 69 0, .int 0 0, .ref 265, .int 83 0, .int 0 0, .ref 272, .int 101 0, .int 0 0, .ref 279, .int 109 0, .int 0 0, .ref 286, .int 121 0, .int 0 0, .ref 293, .int 137 0, .int 0 0, .ref 300, .int 139 0, .int 0 0, .ref 307, .int 145 0, .int 0 0, .ref 314, .int 161 0, .int 0 0, .ref 321, .int 166 0, .int 0 0, .ref 328, .int 242 0, .int 0 0, .ref 410, .int 249 0, .int 0 0, .ref 417, .int 251 0, .int 0 0, .ref 430, .int 428 0, .int 0 0, .ref 558, .int 450 0, .int 0 0, .ref 565, .int 457 0, .int 0 0, .ref 570, .int 459 0, .int 0 0, .ref 577, .int 468 0, .int 0 0, .ref 584, .int 479 0, .int 0 0, .ref 591, .int 489 0, .int 0 0, .ref 598, .int 491 0, .int 0 0, .ref 605, .int 498 0, .int 0 0, .ref 612, .int 503 0, .int 0 0, .ref 619, .int 505 0, .int 0 0, .ref 626, .int 507 0, .int 0 0, .ref 633, .int 509 0, .int 0 0, .ref 638, .int 511 0, .int 0 0, .ref 645, .int 513 0, .int 0 0, .ref 652, .int 519 0, .int 0 0, .ref 660, .int 535 0, .int 0 0, .ref 667, .int 543 0, .int 0 0, .ref 674, .int 545 0, .int 0 0, .ref 681, .int 641 0, .int 0 0, .ref 788, .int 644 0, .int 0 0, .ref 793, .int 654 0, .int 0 0, .ref 800, .int 657 0, .int 0 0, .ref 807, .int 660 0, .int 0 0, .ref 814, .int 662 0, .int 0 0, .ref 821, .int 664 0, .int 0 0, .ref 828, .int 666 0, .int 0 0, .ref 835, .int 669 0, .int 0 0, .ref 842, .int 671 0, .int 0 0, .ref 849, .int 679 0, .int 0 0, .ref 856, .int 683 0, .int 0 0, .ref 861, .int 689 0, .int 0 0, .ref 868, .int 692 0, .int 0 0, .ref 873, .int 695 0, .int 0 0, .ref 880, .int 698 0, .int 0 0, .ref 887, .int 701 0, .int 0 0, .ref 894, .int 704 0, .int 0 0, .ref 901, .int 706 0, .int 0 0, .ref 906, .int 712 0, .int 0 0, .ref 913, .int 717 0, .int 0 0, .ref 920, .int 721 0, .int 0 0, .ref 925, .int 746 0, .int 0 0, .ref 932, .int 761 0, .int 0 0, .ref 940, .int 763 0, .int 0 0, .ref 953, .int 768 0, .int 0 0, .ref 960, .int 807 0, .int 0 0, .ref 989, .int 821 0, .int 0 0, .ref 996, .int 978 0, .int 0 0, .ref 1119, .int 983 0, .int 0 0, .ref 1124, .int 992 0, .int 0 0, .ref 1131, .int 998 0, .int 0 0, .ref 1138, .int 1007 0, .int 0 0, .ref 1145, .int 1019 0, .int 0 0, .ref 1152, .int 1026 0, .int 0 0, .ref 1159, .int 1035 0, .int 0 0, .ref 1168, .int 1037 0, .int 0 0, .ref 1175, .int 1039 0, .int 0 0, .ref 1182, .int 1041 0, .int 0 0, .ref 1189, .int 1043 0, .int 0 0, .ref 1196, .int 1045 0, .int 0 0, .ref 1203, .int 1047 0, .int 0 0, .ref 1210, .int 1049 0, .int 0 0, .ref 1217, .int 1052 0, .int 0 0, .ref 1224, .int 1054 0, .int 0 0, .ref 1231, .int 1056 0, .int 0 0, .ref 1238, .int 1058 0, .int 0 0, .ref 1245, .int 1060 0, .int 0 0, .ref 1252, .int 1062 0, .int 0 0, .ref 1259, .int 1064 0, .int 0 0, .ref 1266, .int 1066 0, .int 0 0, .ref 1273, .int 1068 0, .int 0 0, .ref 1280, .int 1070 0, .int 0 0, .ref 1287, .int 1072 0, .int 0 0, .ref 1294, .int 1074 0, .int 0 0, .ref 1301, .int 1076 0, .int 0 0, .ref 1308, .int 1078 0, .int 0 0, .ref 1315, .int 1080 0, .int 0 0, .ref 1322, .int 1082 0, .int 0 0, .ref 1329, .int 1084 0, .int 0 0, .ref 1336, .int 1087 0, .int 0 0, .ref 1343, .int 1090 0, .int 0 0, .ref 1350], #[]⟩)]
def ov167 (w : World) : List (Nat × Obj) := [
  (3, ⟨.type "dict", none, .dict #[en w "__name__" 165 (.str "slumberway.building" 2064), en w "__doc__" 166 .none, en w "__package__" 167 .none, en w "__loader__" 168 (.builtin "__main__.__loader__#opaque"), en w "__spec__" 169 .none, en w "__annotations__" 170 (.ref 6), en w "__builtins__" 171 (.ref 4), en w "__file__" 173 (.str "/claim/cut.py" 172), en w "__cached__" 174 .none, en w "_wall" 193 (.ref 21), en w "SlumberError" 213 (.ref 31), en w "NoPlace" 229 (.ref 44), en w "BadRow" 245 (.ref 56), en w "TooMany" 261 (.ref 68), en w "NoBack" 277 (.ref 80), en w "NoSign" 302 (.ref 99), en w "NoReading" 329 (.ref 118), en w "Twice" 356 (.ref 137), en w "Counts" 381 (.ref 156), en w "Parts" 406 (.ref 175), en w "Unknown" 433 (.ref 194), en w "Clash" 462 (.ref 213), en w "Endless" 491 (.ref 232), en w "Broken" 516 (.ref 251), en w "SMALL" 520 (.str "abcdefghijklmnopqrstuvwxyz" 519), en w "GREAT" 522 (.str "ABCDEFGHIJKLMNOPQRSTUVWXYZ" 521), en w "FIGURES" 524 (.str "0123456789" 523), en w "LONGEST" 526 (.int 8 525), en w "REMARK" 528 (.str "--" 527), en w "SORTS" 589 (.ref 254), en w "LONG_SIGNS" 592 (.ref 256), en w "BLOCK_WORDS" 595 (.ref 257), en w "NEVER_ITEMS" 602 (.ref 258), en w "LAYING" 613 (.ref 259), en w "lexemes" 626 (.ref 266), en w "add_lexemes" 639 (.ref 273), en w "mixed_lexemes" 652 (.ref 280), en w "sort_of" 659 (.ref 287), en w "lexeme_at" 672 (.ref 294), en w "run_end" 682 (.ref 301), en w "sign_end" 692 (.ref 308), en w "laid" 708 (.ref 315), en w "end_place" 719 (.ref 322), en w "Layout" 831 (.ref 400), en w "is_whole" 840 (.ref 411), en w "MOST" 842 (.int 20000 841), en w "ARROW" 846 (.str "->" 845), en w "NUM" 848 (.int 0 847), en w "TRUTH" 850 (.int 1 849), en w "Clashing" 870 (.ref 421), en w "Solver" 1077 (.ref 548), en w "pieces_text" 1095 (.ref 559), en w "letter_text" 1103 (.ref 566), en w "binds" 1111 (.ref 571), en w "all_patterns" 1121 (.ref 578), en w "all_kinds" 1131 (.ref 585), en w "steps" 1142 (.ref 592), en w "hidden" 1150 (.ref 599), en w "rule_steps" 1162 (.ref 606), en w "def_steps" 1173 (.ref 613), en w "call_steps" 1180 (.ref 620), en w "op_steps" 1187 (.ref 627), en w "fun_steps" 1194 (.ref 634), en w "let_steps" 1200 (.ref 639), en w "if_steps" 1207 (.ref 646), en w "case_steps" 1218 (.ref 653), en w "WITHIN" 1233 (.ref 654), en w "free_names" 1245 (.ref 661), en w "NUMBERS_demanding" 1251 (.ref 662), en w "LEAVES_demanding" 1255 (.ref 663), en w "maker_shapes" 1261 (.ref 668), en w "key_of" 1268 (.ref 675), en w "Demanding" 1412 (.ref 778), en w "equation_step" 1425 (.ref 789), en w "pattern_step" 1431 (.ref 794), en w "demand_step" 1443 (.ref 801), en w "same_step" 1454 (.ref 808), en w "unbind_step" 1462 (.ref 815), en w "num_step" 1470 (.ref 822), en w "name_step" 1478 (.ref 829), en w "maker_step" 1488 (.ref 836), en w "call_step" 1496 (.ref 843), en w "called_step" 1509 (.ref 850), en w "op_step" 1521 (.ref 857), en w "fun_step" 1527 (.ref 862), en w "fun_done_step" 1538 (.ref 869), en w "let_step" 1544 (.ref 874), en w "as_step" 1555 (.ref 881), en w "if_step" 1567 (.ref 888), en w "alike_step" 1578 (.ref 895), en w "case_step" 1586 (.ref 902), en w "choices_step" 1592 (.ref 907), en w "choice_step" 1605 (.ref 914), en w "STEPS_demanding" 1646 (.ref 915), en w "groups" 1654 (.ref 921), en w "grouped" 1660 (.ref 926), en w "in_order" 1672 (.ref 933), en w "DEEPEST_quick" 1676 (.int 60 1675), en w "NUMBERS_quick" 1680 (.ref 934), en w "Odd" 1700 (.ref 944), en w "quick_of" 1708 (.ref 954), en w "Makers" 1748 (.ref 979), en w "are_kinds" 1759 (.ref 990), en w "Quick" 1957 (.ref 1109), en w "maker_kind" 1968 (.ref 1120), en w "call_kind" 1974 (.ref 1125), en w "op_kind" 1989 (.ref 1132), en w "fun_kind" 2003 (.ref 1139), en w "let_kind" 2018 (.ref 1146), en w "if_kind" 2034 (.ref 1153), en w "case_kind" 2048 (.ref 1160), en w "KINDS" 2063 (.ref 1161), en w "TIGHTNESS" 2081 (.ref 1162), en w "nothing" 2089 (.ref 1169), en w "keep_word" 2097 (.ref 1176), en w "keep_placed_word" 2105 (.ref 1183), en w "begin_placed" 2113 (.ref 1190), en w "begin_placed_word" 2121 (.ref 1197), en w "begin_line" 2129 (.ref 1204), en w "begin_made" 2137 (.ref 1211), en w "end_letters" 2145 (.ref 1218), en w "keep_letter" 2153 (.ref 1225), en w "keep_bare_kind" 2161 (.ref 1232), en w "begin_kind" 2169 (.ref 1239), en w "begin_kind_parts" 2177 (.ref 1246), en w "keep_place" 2185 (.ref 1253), en w "begin_equation" 2193 (.ref 1260), en w "begin_choice" 2201 (.ref 1267), en w "keep_any" 2209 (.ref 1274), en w "keep_bind" 2217 (.ref 1281), en w "keep_number" 2225 (.ref 1288), en w "keep_bare_made" 2233 (.ref 1295), en w "begin_pattern" 2241 (.ref 1302), en w "begin_pattern_parts" 2249 (.ref 1309), en w "choose_any" 2257 (.ref 1316), en w "choose_bind" 2265 (.ref 1323), en w "choose_number" 2273 (.ref 1330), en w "choose_made" 2281 (.ref 1337), en w "choose_bracket" 2289 (.ref 1344), en w "begin_sides" 2297 (.ref 1351), en w "begin_expr" 2305 (.ref 1358), en w "begin_asking" 2313 (.ref 1365), en w "first_atom" 2324 (.ref 1372), en w "first_number" 2332 (.ref 1379), en w "first_bracket" 2340 (.ref 1386), en w "keep_atom" 2351 (.ref 1393), en w "operand_atom" 2362 (.ref 1400), en w "operand_number" 2370 (.ref 1407), en w "operand_bracket" 2378 (.ref 1414), en w "keep_sign" 2395 (.ref 1421), en w "call_of" 2402 (.ref 1428), en w "close_expr" 2413 (.ref 1435), en w "close_data" 2420 (.ref 1442), en w "close_made" 2427 (.ref 1449), en w "close_kind" 2436 (.ref 1456), en w "close_kind_parts" 2443 (.ref 1463), en w "close_pattern" 2450 (.ref 1470), en w "close_pattern_parts" 2457 (.ref 1477), en w "close_equation" 2464 (.ref 1484), en w "close_guarded_equation" 2471 (.ref 1491), en w "close_choice" 2478 (.ref 1498), en w "close_guarded_choice" 2485 (.ref 1505), en w "close_fun" 2492 (.ref 1512), en w "close_let" 2499 (.ref 1519), en w "close_if" 2506 (.ref 1526), en w "close_case" 2513 (.ref 1533), en w "joined" 2519 (.ref 1538)] 167, #[]⟩)]
def ov173 (w : World) : List (Nat × Obj) := [
  (3, ⟨.type "dict", none, .dict #[en w "__name__" 165 (.str "slumberway.quickreader" 3357), en w "__doc__" 166 .none, en w "__package__" 167 .none, en w "__loader__" 168 (.builtin "__main__.__loader__#opaque"), en w "__spec__" 169 .none, en w "__annotations__" 170 (.ref 6), en w "__builtins__" 171 (.ref 4), en w "__file__" 173 (.str "/claim/cut.py" 172), en w "__cached__" 174 .none, en w "_wall" 193 (.ref 21), en w "SlumberError" 213 (.ref 31), en w "NoPlace" 229 (.ref 44), en w "BadRow" 245 (.ref 56), en w "TooMany" 261 (.ref 68), en w "NoBack" 277 (.ref 80), en w "NoSign" 302 (.ref 99), en w "NoReading" 329 (.ref 118), en w "Twice" 356 (.ref 137), en w "Counts" 381 (.ref 156), en w "Parts" 406 (.ref 175), en w "Unknown" 433 (.ref 194), en w "Clash" 462 (.ref 213), en w "Endless" 491 (.ref 232), en w "Broken" 516 (.ref 251), en w "SMALL" 520 (.str "abcdefghijklmnopqrstuvwxyz" 519), en w "GREAT" 522 (.str "ABCDEFGHIJKLMNOPQRSTUVWXYZ" 521), en w "FIGURES" 524 (.str "0123456789" 523), en w "LONGEST" 526 (.int 8 525), en w "REMARK" 528 (.str "--" 527), en w "SORTS" 589 (.ref 254), en w "LONG_SIGNS" 592 (.ref 256), en w "BLOCK_WORDS" 595 (.ref 257), en w "NEVER_ITEMS" 602 (.ref 258), en w "LAYING" 613 (.ref 259), en w "lexemes" 626 (.ref 266), en w "add_lexemes" 639 (.ref 273), en w "mixed_lexemes" 652 (.ref 280), en w "sort_of" 659 (.ref 287), en w "lexeme_at" 672 (.ref 294), en w "run_end" 682 (.ref 301), en w "sign_end" 692 (.ref 308), en w "laid" 708 (.ref 315), en w "end_place" 719 (.ref 322), en w "Layout" 831 (.ref 400), en w "is_whole" 840 (.ref 411), en w "MOST" 842 (.int 20000 841), en w "ARROW" 846 (.str "->" 845), en w "NUM" 848 (.int 0 847), en w "TRUTH" 850 (.int 1 849), en w "Clashing" 870 (.ref 421), en w "Solver" 1077 (.ref 548), en w "pieces_text" 1095 (.ref 559), en w "letter_text" 1103 (.ref 566), en w "binds" 1111 (.ref 571), en w "all_patterns" 1121 (.ref 578), en w "all_kinds" 1131 (.ref 585), en w "steps" 1142 (.ref 592), en w "hidden" 1150 (.ref 599), en w "rule_steps" 1162 (.ref 606), en w "def_steps" 1173 (.ref 613), en w "call_steps" 1180 (.ref 620), en w "op_steps" 1187 (.ref 627), en w "fun_steps" 1194 (.ref 634), en w "let_steps" 1200 (.ref 639), en w "if_steps" 1207 (.ref 646), en w "case_steps" 1218 (.ref 653), en w "WITHIN" 1233 (.ref 654), en w "free_names" 1245 (.ref 661), en w "NUMBERS_demanding" 1251 (.ref 662), en w "LEAVES_demanding" 1255 (.ref 663), en w "maker_shapes" 1261 (.ref 668), en w "key_of" 1268 (.ref 675), en w "Demanding" 1412 (.ref 778), en w "equation_step" 1425 (.ref 789), en w "pattern_step" 1431 (.ref 794), en w "demand_step" 1443 (.ref 801), en w "same_step" 1454 (.ref 808), en w "unbind_step" 1462 (.ref 815), en w "num_step" 1470 (.ref 822), en w "name_step" 1478 (.ref 829), en w "maker_step" 1488 (.ref 836), en w "call_step" 1496 (.ref 843), en w "called_step" 1509 (.ref 850), en w "op_step" 1521 (.ref 857), en w "fun_step" 1527 (.ref 862), en w "fun_done_step" 1538 (.ref 869), en w "let_step" 1544 (.ref 874), en w "as_step" 1555 (.ref 881), en w "if_step" 1567 (.ref 888), en w "alike_step" 1578 (.ref 895), en w "case_step" 1586 (.ref 902), en w "choices_step" 1592 (.ref 907), en w "choice_step" 1605 (.ref 914), en w "STEPS_demanding" 1646 (.ref 915), en w "groups" 1654 (.ref 921), en w "grouped" 1660 (.ref 926), en w "in_order" 1672 (.ref 933), en w "DEEPEST_quick" 1676 (.int 60 1675), en w "NUMBERS_quick" 1680 (.ref 934), en w "Odd" 1700 (.ref 944), en w "quick_of" 1708 (.ref 954), en w "Makers" 1748 (.ref 979), en w "are_kinds" 1759 (.ref 990), en w "Quick" 1957 (.ref 1109), en w "maker_kind" 1968 (.ref 1120), en w "call_kind" 1974 (.ref 1125), en w "op_kind" 1989 (.ref 1132), en w "fun_kind" 2003 (.ref 1139), en w "let_kind" 2018 (.ref 1146), en w "if_kind" 2034 (.ref 1153), en w "case_kind" 2048 (.ref 1160), en w "KINDS" 2063 (.ref 1161), en w "TIGHTNESS" 2081 (.ref 1162), en w "nothing" 2089 (.ref 1169), en w "keep_word" 2097 (.ref 1176), en w "keep_placed_word" 2105 (.ref 1183), en w "begin_placed" 2113 (.ref 1190), en w "begin_placed_word" 2121 (.ref 1197), en w "begin_line" 2129 (.ref 1204), en w "begin_made" 2137 (.ref 1211), en w "end_letters" 2145 (.ref 1218), en w "keep_letter" 2153 (.ref 1225), en w "keep_bare_kind" 2161 (.ref 1232), en w "begin_kind" 2169 (.ref 1239), en w "begin_kind_parts" 2177 (.ref 1246), en w "keep_place" 2185 (.ref 1253), en w "begin_equation" 2193 (.ref 1260), en w "begin_choice" 2201 (.ref 1267), en w "keep_any" 2209 (.ref 1274), en w "keep_bind" 2217 (.ref 1281), en w "keep_number" 2225 (.ref 1288), en w "keep_bare_made" 2233 (.ref 1295), en w "begin_pattern" 2241 (.ref 1302), en w "begin_pattern_parts" 2249 (.ref 1309), en w "choose_any" 2257 (.ref 1316), en w "choose_bind" 2265 (.ref 1323), en w "choose_number" 2273 (.ref 1330), en w "choose_made" 2281 (.ref 1337), en w "choose_bracket" 2289 (.ref 1344), en w "begin_sides" 2297 (.ref 1351), en w "begin_expr" 2305 (.ref 1358), en w "begin_asking" 2313 (.ref 1365), en w "first_atom" 2324 (.ref 1372), en w "first_number" 2332 (.ref 1379), en w "first_bracket" 2340 (.ref 1386), en w "keep_atom" 2351 (.ref 1393), en w "operand_atom" 2362 (.ref 1400), en w "operand_number" 2370 (.ref 1407), en w "operand_bracket" 2378 (.ref 1414), en w "keep_sign" 2395 (.ref 1421), en w "call_of" 2402 (.ref 1428), en w "close_expr" 2413 (.ref 1435), en w "close_data" 2420 (.ref 1442), en w "close_made" 2427 (.ref 1449), en w "close_kind" 2436 (.ref 1456), en w "close_kind_parts" 2443 (.ref 1463), en w "close_pattern" 2450 (.ref 1470), en w "close_pattern_parts" 2457 (.ref 1477), en w "close_equation" 2464 (.ref 1484), en w "close_guarded_equation" 2471 (.ref 1491), en w "close_choice" 2478 (.ref 1498), en w "close_guarded_choice" 2485 (.ref 1505), en w "close_fun" 2492 (.ref 1512), en w "close_let" 2499 (.ref 1519), en w "close_if" 2506 (.ref 1526), en w "close_case" 2513 (.ref 1533), en w "joined" 2519 (.ref 1538), en w "ACTS" 2594 (.ref 1539), en w "CLOSERS" 2627 (.ref 1542), en w "STEPS_grammar" 3356 (.ref 1543), en w "DEEPEST_quickreader" 3360 (.int 60 3359), en w "PLAIN_SORTS" 3367 (.ref 1758)] 172, #[]⟩)]
def ov182 (w : World) : List (Nat × Obj) := [
  (2, ⟨.none, none, .dict #[en w "type.__subclasses__.Exception.0" 867 (.int 421 0), en w "type.__subclasses__.Exception.n" 868 (.int 3 0), en w "type.__subclasses__.Exception.1" 1697 (.int 944 0), en w "type.__subclasses__.Exception.2" 3390 (.int 1770 0)] 4, #[]⟩),
  (3, ⟨.type "dict", none, .dict #[en w "__name__" 165 (.str "slumberway.quickreader" 3357), en w "__doc__" 166 .none, en w "__package__" 167 .none, en w "__loader__" 168 (.builtin "__main__.__loader__#opaque"), en w "__spec__" 169 .none, en w "__annotations__" 170 (.ref 6), en w "__builtins__" 171 (.ref 4), en w "__file__" 173 (.str "/claim/cut.py" 172), en w "__cached__" 174 .none, en w "_wall" 193 (.ref 21), en w "SlumberError" 213 (.ref 31), en w "NoPlace" 229 (.ref 44), en w "BadRow" 245 (.ref 56), en w "TooMany" 261 (.ref 68), en w "NoBack" 277 (.ref 80), en w "NoSign" 302 (.ref 99), en w "NoReading" 329 (.ref 118), en w "Twice" 356 (.ref 137), en w "Counts" 381 (.ref 156), en w "Parts" 406 (.ref 175), en w "Unknown" 433 (.ref 194), en w "Clash" 462 (.ref 213), en w "Endless" 491 (.ref 232), en w "Broken" 516 (.ref 251), en w "SMALL" 520 (.str "abcdefghijklmnopqrstuvwxyz" 519), en w "GREAT" 522 (.str "ABCDEFGHIJKLMNOPQRSTUVWXYZ" 521), en w "FIGURES" 524 (.str "0123456789" 523), en w "LONGEST" 526 (.int 8 525), en w "REMARK" 528 (.str "--" 527), en w "SORTS" 589 (.ref 254), en w "LONG_SIGNS" 592 (.ref 256), en w "BLOCK_WORDS" 595 (.ref 257), en w "NEVER_ITEMS" 602 (.ref 258), en w "LAYING" 613 (.ref 259), en w "lexemes" 626 (.ref 266), en w "add_lexemes" 639 (.ref 273), en w "mixed_lexemes" 652 (.ref 280), en w "sort_of" 659 (.ref 287), en w "lexeme_at" 672 (.ref 294), en w "run_end" 682 (.ref 301), en w "sign_end" 692 (.ref 308), en w "laid" 708 (.ref 315), en w "end_place" 719 (.ref 322), en w "Layout" 831 (.ref 400), en w "is_whole" 840 (.ref 411), en w "MOST" 842 (.int 20000 841), en w "ARROW" 846 (.str "->" 845), en w "NUM" 848 (.int 0 847), en w "TRUTH" 850 (.int 1 849), en w "Clashing" 870 (.ref 421), en w "Solver" 1077 (.ref 548), en w "pieces_text" 1095 (.ref 559), en w "letter_text" 1103 (.ref 566), en w "binds" 1111 (.ref 571), en w "all_patterns" 1121 (.ref 578), en w "all_kinds" 1131 (.ref 585), en w "steps" 1142 (.ref 592), en w "hidden" 1150 (.ref 599), en w "rule_steps" 1162 (.ref 606), en w "def_steps" 1173 (.ref 613), en w "call_steps" 1180 (.ref 620), en w "op_steps" 1187 (.ref 627), en w "fun_steps" 1194 (.ref 634), en w "let_steps" 1200 (.ref 639), en w "if_steps" 1207 (.ref 646), en w "case_steps" 1218 (.ref 653), en w "WITHIN" 1233 (.ref 654), en w "free_names" 1245 (.ref 661), en w "NUMBERS_demanding" 1251 (.ref 662), en w "LEAVES_demanding" 1255 (.ref 663), en w "maker_shapes" 1261 (.ref 668), en w "key_of" 1268 (.ref 675), en w "Demanding" 1412 (.ref 778), en w "equation_step" 1425 (.ref 789), en w "pattern_step" 1431 (.ref 794), en w "demand_step" 1443 (.ref 801), en w "same_step" 1454 (.ref 808), en w "unbind_step" 1462 (.ref 815), en w "num_step" 1470 (.ref 822), en w "name_step" 1478 (.ref 829), en w "maker_step" 1488 (.ref 836), en w "call_step" 1496 (.ref 843), en w "called_step" 1509 (.ref 850), en w "op_step" 1521 (.ref 857), en w "fun_step" 1527 (.ref 862), en w "fun_done_step" 1538 (.ref 869), en w "let_step" 1544 (.ref 874), en w "as_step" 1555 (.ref 881), en w "if_step" 1567 (.ref 888), en w "alike_step" 1578 (.ref 895), en w "case_step" 1586 (.ref 902), en w "choices_step" 1592 (.ref 907), en w "choice_step" 1605 (.ref 914), en w "STEPS_demanding" 1646 (.ref 915), en w "groups" 1654 (.ref 921), en w "grouped" 1660 (.ref 926), en w "in_order" 1672 (.ref 933), en w "DEEPEST_quick" 1676 (.int 60 1675), en w "NUMBERS_quick" 1680 (.ref 934), en w "Odd" 1700 (.ref 944), en w "quick_of" 1708 (.ref 954), en w "Makers" 1748 (.ref 979), en w "are_kinds" 1759 (.ref 990), en w "Quick" 1957 (.ref 1109), en w "maker_kind" 1968 (.ref 1120), en w "call_kind" 1974 (.ref 1125), en w "op_kind" 1989 (.ref 1132), en w "fun_kind" 2003 (.ref 1139), en w "let_kind" 2018 (.ref 1146), en w "if_kind" 2034 (.ref 1153), en w "case_kind" 2048 (.ref 1160), en w "KINDS" 2063 (.ref 1161), en w "TIGHTNESS" 2081 (.ref 1162), en w "nothing" 2089 (.ref 1169), en w "keep_word" 2097 (.ref 1176), en w "keep_placed_word" 2105 (.ref 1183), en w "begin_placed" 2113 (.ref 1190), en w "begin_placed_word" 2121 (.ref 1197), en w "begin_line" 2129 (.ref 1204), en w "begin_made" 2137 (.ref 1211), en w "end_letters" 2145 (.ref 1218), en w "keep_letter" 2153 (.ref 1225), en w "keep_bare_kind" 2161 (.ref 1232), en w "begin_kind" 2169 (.ref 1239), en w "begin_kind_parts" 2177 (.ref 1246), en w "keep_place" 2185 (.ref 1253), en w "begin_equation" 2193 (.ref 1260), en w "begin_choice" 2201 (.ref 1267), en w "keep_any" 2209 (.ref 1274), en w "keep_bind" 2217 (.ref 1281), en w "keep_number" 2225 (.ref 1288), en w "keep_bare_made" 2233 (.ref 1295), en w "begin_pattern" 2241 (.ref 1302), en w "begin_pattern_parts" 2249 (.ref 1309), en w "choose_any" 2257 (.ref 1316), en w "choose_bind" 2265 (.ref 1323), en w "choose_number" 2273 (.ref 1330), en w "choose_made" 2281 (.ref 1337), en w "choose_bracket" 2289 (.ref 1344), en w "begin_sides" 2297 (.ref 1351), en w "begin_expr" 2305 (.ref 1358), en w "begin_asking" 2313 (.ref 1365), en w "first_atom" 2324 (.ref 1372), en w "first_number" 2332 (.ref 1379), en w "first_bracket" 2340 (.ref 1386), en w "keep_atom" 2351 (.ref 1393), en w "operand_atom" 2362 (.ref 1400), en w "operand_number" 2370 (.ref 1407), en w "operand_bracket" 2378 (.ref 1414), en w "keep_sign" 2395 (.ref 1421), en w "call_of" 2402 (.ref 1428), en w "close_expr" 2413 (.ref 1435), en w "close_data" 2420 (.ref 1442), en w "close_made" 2427 (.ref 1449), en w "close_kind" 2436 (.ref 1456), en w "close_kind_parts" 2443 (.ref 1463), en w "close_pattern" 2450 (.ref 1470), en w "close_pattern_parts" 2457 (.ref 1477), en w "close_equation" 2464 (.ref 1484), en w "close_guarded_equation" 2471 (.ref 1491), en w "close_choice" 2478 (.ref 1498), en w "close_guarded_choice" 2485 (.ref 1505), en w "close_fun" 2492 (.ref 1512), en w "close_let" 2499 (.ref 1519), en w "close_if" 2506 (.ref 1526), en w "close_case" 2513 (.ref 1533), en w "joined" 2519 (.ref 1538), en w "ACTS" 2594 (.ref 1539), en w "CLOSERS" 2627 (.ref 1542), en w "STEPS_grammar" 3356 (.ref 1543), en w "DEEPEST_quickreader" 3360 (.int 60 3359), en w "PLAIN_SORTS" 3367 (.ref 1758), en w "ADDING" 3370 (.ref 1759), en w "COMPARING" 3373 (.ref 1760), en w "OddText" 3393 (.ref 1770), en w "QuickReader" 3619 (.ref 1923), en w "fun_expr" 3629 (.ref 1936), en w "let_expr" 3639 (.ref 1943), en w "if_expr" 3650 (.ref 1950), en w "case_expr" 3661 (.ref 1957), en w "choice" 3670 (.ref 1964)] 181, #[]⟩),
  (12, ⟨.none, none, .fields #[.int 1 0, .int 0 0, .ref 20, .int 5 0, .int 0 0, .ref 27, .int 7 0, .int 0 0, .ref 40, .int 9 0, .int 0 0, .ref 52, .int 11 0, .int 0 0, .ref 64, .int 13 0, .int 0 0, .ref 76, .int 15 0, .int 0 0, .ref 88, .int 19 0, .int 0 0, .ref 107, .int 24 0, .int 0 0, .ref 126, .int 29 0, .int 0 0, .ref 145, .int 33 0, .int 0 0, .ref 164, .int 37 0, .int 0 0, .ref 183, .int 42 0, .int 0 0, .ref 202, .int 48 0, .int 0 0, .ref 221, .int 54 0, .int 0 0, .ref 240, .int 69 0, .int 0 0, .ref 265, .int 83 0, .int 0 0, .ref 272, .int 101 0, .int 0 0, .ref 279, .int 109 0, .int 0 0, .ref 286, .int 121 0, .int 0 0, .ref 293, .int 137 0, .int 0 0, .ref 300, .int 139 0, .int 0 0, .ref 307, .int 145 0, .int 0 0, .ref 314, .int 161 0, .int 0 0, .ref 321, .int 166 0, .int 0 0, .ref 328, .int 242 0, .int 0 0, .ref 410, .int 249 0, .int 0 0, .ref 417, .int 251 0, .int 0 0, .ref 430, .int 428 0, .int 0 0, .ref 558, .int 450 0, .int 0 0, .ref 565, .int 457 0, .int 0 0, .ref 570, .int 459 0, .int 0 0, .ref 577, .int 468 0, .int 0 0, .ref 584, .int 479 0, .int 0 0, .ref 591, .int 489 0, .int 0 0, .ref 598, .int 491 0, .int 0 0, .ref 605, .int 498 0, .int 0 0, .ref 612, .int 503 0, .int 0 0, .ref 619, .int 505 0, .int 0 0, .ref 626, .int 507 0, .int 0 0, .ref 633, .int 509 0, .int 0 0, .ref 638, .int 511 0, .int 0 0, .ref 645, .int 513 0, .int 0 0, .ref 652, .int 519 0, .int 0 0, .ref 660, .int 535 0, .int 0 0, .ref 667, .int 543 0, .int 0 0, .ref 674, .int 545 0, .int 0 0, .ref 681, .int 641 0, .int 0 0, .ref 788, .int 644 0, .int 0 0, .ref 793, .int 654 0, .int 0 0, .ref 800, .int 657 0, .int 0 0, .ref 807, .int 660 0, .int 0 0, .ref 814, .int 662 0, .int 0 0, .ref 821, .int 664 0, .int 0 0, .ref 828, .int 666 0, .int 0 0, .ref 835, .int 669 0, .int 0 0, .ref 842, .int 671 0, .int 0 0, .ref 849, .int 679 0, .int 0 0, .ref 856, .int 683 0, .int 0 0, .ref 861, .int 689 0, .int 0 0, .ref 868, .int 692 0, .int 0 0, .ref 873, .int 695 0, .int 0 0, .ref 880, .int 698 0, .int 0 0, .ref 887, .int 701 0, .int 0 0, .ref 894, .int 704 0, .int 0 0, .ref 901, .int 706 0, .int 0 0, .ref 906, .int 712 0, .int 0 0, .ref 913, .int 717 0, .int 0 0, .ref 920, .int 721 0, .int 0 0, .ref 925, .int 746 0, .int 0 0, .ref 932, .int 761 0, .int 0 0, .ref 940, .int 763 0, .int 0 0, .ref 953, .int 768 0, .int 0 0, .ref 960, .int 807 0, .int 0 0, .ref 989, .int 821 0, .int 0 0, .ref 996, .int 978 0, .int 0 0, .ref 1119, .int 983 0, .int 0 0, .ref 1124, .int 992 0, .int 0 0, .ref 1131, .int 998 0, .int 0 0, .ref 1138, .int 1007 0, .int 0 0, .ref 1145, .int 1019 0, .int 0 0, .ref 1152, .int 1026 0, .int 0 0, .ref 1159, .int 1035 0, .int 0 0, .ref 1168, .int 1037 0, .int 0 0, .ref 1175, .int 1039 0, .int 0 0, .ref 1182, .int 1041 0, .int 0 0, .ref 1189, .int 1043 0, .int 0 0, .ref 1196, .int 1045 0, .int 0 0, .ref 1203, .int 1047 0, .int 0 0, .ref 1210, .int 1049 0, .int 0 0, .ref 1217, .int 1052 0, .int 0 0, .ref 1224, .int 1054 0, .int 0 0, .ref 1231, .int 1056 0, .int 0 0, .ref 1238, .int 1058 0, .int 0 0, .ref 1245, .int 1060 0, .int 0 0, .ref 1252, .int 1062 0, .int 0 0, .ref 1259, .int 1064 0, .int 0 0, .ref 1266, .int 1066 0, .int 0 0, .ref 1273, .int 1068 0, .int 0 0, .ref 1280, .int 1070 0, .int 0 0, .ref 1287, .int 1072 0, .int 0 0, .ref 1294, .int 1074 0, .int 0 0, .ref 1301, .int 1076 0, .int 0 0, .ref 1308, .int 1078 0, .int 0 0, .ref 1315, .int 1080 0, .int 0 0, .ref 1322, .int 1082 0, .int 0 0, .ref 1329, .int 1084 0, .int 0 0, .ref 1336, .int 1087 0, .int 0 0, .ref 1343, .int 1090 0, .int 0 0, .ref 1350, .int 1093 0, .int 0 0, .ref 1357, .int 1095 0, .int 0 0, .ref 1364, .int 1098 0, .int 0 0, .ref 1371, .int 1101 0, .int 0 0, .ref 1378, .int 1103 0, .int 0 0, .ref 1385, .int 1106 0, .int 0 0, .ref 1392, .int 1109 0, .int 0 0, .ref 1399, .int 1112 0, .int 0 0, .ref 1406, .int 1114 0, .int 0 0, .ref 1413, .int 1117 0, .int 0 0, .ref 1420, .int 1127 0, .int 0 0, .ref 1427, .int 1131 0, .int 0 0, .ref 1434, .int 1136 0, .int 0 0, .ref 1441, .int 1138 0, .int 0 0, .ref 1448, .int 1140 0, .int 0 0, .ref 1455, .int 1145 0, .int 0 0, .ref 1462, .int 1147 0, .int 0 0, .ref 1469, .int 1149 0, .int 0 0, .ref 1476, .int 1151 0, .int 0 0, .ref 1483, .int 1153 0, .int 0 0, .ref 1490, .int 1155 0, .int 0 0, .ref 1497, .int 1157 0, .int 0 0, .ref 1504, .int 1159 0, .int 0 0, .ref 1511, .int 1161 0, .int 0 0, .ref 1518, .int 1163 0, .int 0 0, .ref 1525, .int 1165 0, .int 0 0, .ref 1532, .int 1167 0, .int 0 0, .ref 1537, .int 1190 0, .int 0 0, .ref 1766, .int 1192 0, .int 0 0, .ref 1779, .int 1385 0, .int 0 0, .ref 1935, .int 1392 0, .int 0 0, .ref 1942, .int 1402 0, .int 0 0, .ref 1949, .int 1409 0, .int 0 0, .ref 1956, .int 1420 0, .int 0 0, .ref 1963], #[]⟩)]
def ov185 (w : World) : List (Nat × Obj) := [
  (2, ⟨.none, none, .dict #[en w "type.__subclasses__.Exception.0" 867 (.int 421 0), en w "type.__subclasses__.Exception.n" 868 (.int 3 0), en w "type.__subclasses__.Exception.1" 1697 (.int 944 0), en w "type.__subclasses__.Exception.2" 3390 (.int 1770 0)] 4, #[]⟩),
  (3, ⟨.type "dict", none, .dict #[en w "__name__" 165 (.str "slumberway.quickreader" 3357), en w "__doc__" 166 .none, en w "__package__" 167 .none, en w "__loader__" 168 (.builtin "__main__.__loader__#opaque"), en w "__spec__" 169 .none, en w "__annotations__" 170 (.ref 6), en w "__builtins__" 171 (.ref 4), en w "__file__" 173 (.str "/claim/cut.py" 172), en w "__cached__" 174 .none, en w "_wall" 193 (.ref 21), en w "SlumberError" 213 (.ref 31), en w "NoPlace" 229 (.ref 44), en w "BadRow" 245 (.ref 56), en w "TooMany" 261 (.ref 68), en w "NoBack" 277 (.ref 80), en w "NoSign" 302 (.ref 99), en w "NoReading" 329 (.ref 118), en w "Twice" 356 (.ref 137), en w "Counts" 381 (.ref 156), en w "Parts" 406 (.ref 175), en w "Unknown" 433 (.ref 194), en w "Clash" 462 (.ref 213), en w "Endless" 491 (.ref 232), en w "Broken" 516 (.ref 251), en w "SMALL" 520 (.str "abcdefghijklmnopqrstuvwxyz" 519), en w "GREAT" 522 (.str "ABCDEFGHIJKLMNOPQRSTUVWXYZ" 521), en w "FIGURES" 524 (.str "0123456789" 523), en w "LONGEST" 526 (.int 8 525), en w "REMARK" 528 (.str "--" 527), en w "SORTS" 589 (.ref 254), en w "LONG_SIGNS" 592 (.ref 256), en w "BLOCK_WORDS" 595 (.ref 257), en w "NEVER_ITEMS" 602 (.ref 258), en w "LAYING" 613 (.ref 259), en w "lexemes" 626 (.ref 266), en w "add_lexemes" 639 (.ref 273), en w "mixed_lexemes" 652 (.ref 280), en w "sort_of" 659 (.ref 287), en w "lexeme_at" 672 (.ref 294), en w "run_end" 682 (.ref 301), en w "sign_end" 692 (.ref 308), en w "laid" 708 (.ref 315), en w "end_place" 719 (.ref 322), en w "Layout" 831 (.ref 400), en w "is_whole" 840 (.ref 411), en w "MOST" 842 (.int 20000 841), en w "ARROW" 846 (.str "->" 845), en w "NUM" 848 (.int 0 847), en w "TRUTH" 850 (.int 1 849), en w "Clashing" 870 (.ref 421), en w "Solver" 1077 (.ref 548), en w "pieces_text" 1095 (.ref 559), en w "letter_text" 1103 (.ref 566), en w "binds" 1111 (.ref 571), en w "all_patterns" 1121 (.ref 578), en w "all_kinds" 1131 (.ref 585), en w "steps" 1142 (.ref 592), en w "hidden" 1150 (.ref 599), en w "rule_steps" 1162 (.ref 606), en w "def_steps" 1173 (.ref 613), en w "call_steps" 1180 (.ref 620), en w "op_steps" 1187 (.ref 627), en w "fun_steps" 1194 (.ref 634), en w "let_steps" 1200 (.ref 639), en w "if_steps" 1207 (.ref 646), en w "case_steps" 1218 (.ref 653), en w "WITHIN" 1233 (.ref 654), en w "free_names" 1245 (.ref 661), en w "NUMBERS_demanding" 1251 (.ref 662), en w "LEAVES_demanding" 1255 (.ref 663), en w "maker_shapes" 1261 (.ref 668), en w "key_of" 1268 (.ref 675), en w "Demanding" 1412 (.ref 778), en w "equation_step" 1425 (.ref 789), en w "pattern_step" 1431 (.ref 794), en w "demand_step" 1443 (.ref 801), en w "same_step" 1454 (.ref 808), en w "unbind_step" 1462 (.ref 815), en w "num_step" 1470 (.ref 822), en w "name_step" 1478 (.ref 829), en w "maker_step" 1488 (.ref 836), en w "call_step" 1496 (.ref 843), en w "called_step" 1509 (.ref 850), en w "op_step" 1521 (.ref 857), en w "fun_step" 1527 (.ref 862), en w "fun_done_step" 1538 (.ref 869), en w "let_step" 1544 (.ref 874), en w "as_step" 1555 (.ref 881), en w "if_step" 1567 (.ref 888), en w "alike_step" 1578 (.ref 895), en w "case_step" 1586 (.ref 902), en w "choices_step" 1592 (.ref 907), en w "choice_step" 1605 (.ref 914), en w "STEPS_demanding" 1646 (.ref 915), en w "groups" 1654 (.ref 921), en w "grouped" 1660 (.ref 926), en w "in_order" 1672 (.ref 933), en w "DEEPEST_quick" 1676 (.int 60 1675), en w "NUMBERS_quick" 1680 (.ref 934), en w "Odd" 1700 (.ref 944), en w "quick_of" 1708 (.ref 954), en w "Makers" 1748 (.ref 979), en w "are_kinds" 1759 (.ref 990), en w "Quick" 1957 (.ref 1109), en w "maker_kind" 1968 (.ref 1120), en w "call_kind" 1974 (.ref 1125), en w "op_kind" 1989 (.ref 1132), en w "fun_kind" 2003 (.ref 1139), en w "let_kind" 2018 (.ref 1146), en w "if_kind" 2034 (.ref 1153), en w "case_kind" 2048 (.ref 1160), en w "KINDS" 2063 (.ref 1161), en w "TIGHTNESS" 2081 (.ref 1162), en w "nothing" 2089 (.ref 1169), en w "keep_word" 2097 (.ref 1176), en w "keep_placed_word" 2105 (.ref 1183), en w "begin_placed" 2113 (.ref 1190), en w "begin_placed_word" 2121 (.ref 1197), en w "begin_line" 2129 (.ref 1204), en w "begin_made" 2137 (.ref 1211), en w "end_letters" 2145 (.ref 1218), en w "keep_letter" 2153 (.ref 1225), en w "keep_bare_kind" 2161 (.ref 1232), en w "begin_kind" 2169 (.ref 1239), en w "begin_kind_parts" 2177 (.ref 1246), en w "keep_place" 2185 (.ref 1253), en w "begin_equation" 2193 (.ref 1260), en w "begin_choice" 2201 (.ref 1267), en w "keep_any" 2209 (.ref 1274), en w "keep_bind" 2217 (.ref 1281), en w "keep_number" 2225 (.ref 1288), en w "keep_bare_made" 2233 (.ref 1295), en w "begin_pattern" 2241 (.ref 1302), en w "begin_pattern_parts" 2249 (.ref 1309), en w "choose_any" 2257 (.ref 1316), en w "choose_bind" 2265 (.ref 1323), en w "choose_number" 2273 (.ref 1330), en w "choose_made" 2281 (.ref 1337), en w "choose_bracket" 2289 (.ref 1344), en w "begin_sides" 2297 (.ref 1351), en w "begin_expr" 2305 (.ref 1358), en w "begin_asking" 2313 (.ref 1365), en w "first_atom" 2324 (.ref 1372), en w "first_number" 2332 (.ref 1379), en w "first_bracket" 2340 (.ref 1386), en w "keep_atom" 2351 (.ref 1393), en w "operand_atom" 2362 (.ref 1400), en w "operand_number" 2370 (.ref 1407), en w "operand_bracket" 2378 (.ref 1414), en w "keep_sign" 2395 (.ref 1421), en w "call_of" 2402 (.ref 1428), en w "close_expr" 2413 (.ref 1435), en w "close_data" 2420 (.ref 1442), en w "close_made" 2427 (.ref 1449), en w "close_kind" 2436 (.ref 1456), en w "close_kind_parts" 2443 (.ref 1463), en w "close_pattern" 2450 (.ref 1470), en w "close_pattern_parts" 2457 (.ref 1477), en w "close_equation" 2464 (.ref 1484), en w "close_guarded_equation" 2471 (.ref 1491), en w "close_choice" 2478 (.ref 1498), en w "close_guarded_choice" 2485 (.ref 1505), en w "close_fun" 2492 (.ref 1512), en w "close_let" 2499 (.ref 1519), en w "close_if" 2506 (.ref 1526), en w "close_case" 2513 (.ref 1533), en w "joined" 2519 (.ref 1538), en w "ACTS" 2594 (.ref 1539), en w "CLOSERS" 2627 (.ref 1542), en w "STEPS_grammar" 3356 (.ref 1543), en w "DEEPEST_quickreader" 3360 (.int 60 3359), en w "PLAIN_SORTS" 3367 (.ref 1758), en w "ADDING" 3370 (.ref 1759), en w "COMPARING" 3373 (.ref 1760), en w "OddText" 3393 (.ref 1770), en w "QuickReader" 3619 (.ref 1923), en w "fun_expr" 3629 (.ref 1936), en w "let_expr" 3639 (.ref 1943), en w "if_expr" 3650 (.ref 1950), en w "case_expr" 3661 (.ref 1957), en w "choice" 3670 (.ref 1964), en w "ATOMS" 3679 (.ref 1965), en w "LEAVES_quickreader" 3690 (.ref 1966), en w "EXPRS" 3699 (.ref 1967)] 184, #[]⟩),
  (12, ⟨.none, none, .fields #[.int 1 0, .int 0 0, .ref 20, .int 5 0, .int 0 0, .ref 27, .int 7 0, .int 0 0, .ref 40, .int 9 0, .int 0 0, .ref 52, .int 11 0, .int 0 0, .ref 64, .int 13 0, .int 0 0, .ref 76, .int 15 0, .int 0 0, .ref 88, .int 19 0, .int 0 0, .ref 107, .int 24 0, .int 0 0, .ref 126, .int 29 0, .int 0 0, .ref 145, .int 33 0, .int 0 0, .ref 164, .int 37 0, .int 0 0, .ref 183, .int 42 0, .int 0 0, .ref 202, .int 48 0, .int 0 0, .ref 221, .int 54 0, .int 0 0, .ref 240, .int 69 0, .int 0 0, .ref 265, .int 83 0, .int 0 0, .ref 272, .int 101 0, .int 0 0, .ref 279, .int 109 0, .int 0 0, .ref 286, .int 121 0, .int 0 0, .ref 293, .int 137 0, .int 0 0, .ref 300, .int 139 0, .int 0 0, .ref 307, .int 145 0, .int 0 0, .ref 314, .int 161 0, .int 0 0, .ref 321, .int 166 0, .int 0 0, .ref 328, .int 242 0, .int 0 0, .ref 410, .int 249 0, .int 0 0, .ref 417, .int 251 0, .int 0 0, .ref 430, .int 428 0, .int 0 0, .ref 558, .int 450 0, .int 0 0, .ref 565, .int 457 0, .int 0 0, .ref 570, .int 459 0, .int 0 0, .ref 577, .int 468 0, .int 0 0, .ref 584, .int 479 0, .int 0 0, .ref 591, .int 489 0, .int 0 0, .ref 598, .int 491 0, .int 0 0, .ref 605, .int 498 0, .int 0 0, .ref 612, .int 503 0, .int 0 0, .ref 619, .int 505 0, .int 0 0, .ref 626, .int 507 0, .int 0 0, .ref 633, .int 509 0, .int 0 0, .ref 638, .int 511 0, .int 0 0, .ref 645, .int 513 0, .int 0 0, .ref 652, .int 519 0, .int 0 0, .ref 660, .int 535 0, .int 0 0, .ref 667, .int 543 0, .int 0 0, .ref 674, .int 545 0, .int 0 0, .ref 681, .int 641 0, .int 0 0, .ref 788, .int 644 0, .int 0 0, .ref 793, .int 654 0, .int 0 0, .ref 800, .int 657 0, .int 0 0, .ref 807, .int 660 0, .int 0 0, .ref 814, .int 662 0, .int 0 0, .ref 821, .int 664 0, .int 0 0, .ref 828, .int 666 0, .int 0 0, .ref 835, .int 669 0, .int 0 0, .ref 842, .int 671 0, .int 0 0, .ref 849, .int 679 0, .int 0 0, .ref 856, .int 683 0, .int 0 0, .ref 861, .int 689 0, .int 0 0, .ref 868, .int 692 0, .int 0 0, .ref 873, .int 695 0, .int 0 0, .ref 880, .int 698 0, .int 0 0, .ref 887, .int 701 0, .int 0 0, .ref 894, .int 704 0, .int 0 0, .ref 901, .int 706 0, .int 0 0, .ref 906, .int 712 0, .int 0 0, .ref 913, .int 717 0, .int 0 0, .ref 920, .int 721 0, .int 0 0, .ref 925, .int 746 0, .int 0 0, .ref 932, .int 761 0, .int 0 0, .ref 940, .int 763 0, .int 0 0, .ref 953, .int 768 0, .int 0 0, .ref 960, .int 807 0, .int 0 0, .ref 989, .int 821 0, .int 0 0, .ref 996, .int 978 0, .int 0 0, .ref 1119, .int 983 0, .int 0 0, .ref 1124, .int 992 0, .int 0 0, .ref 1131, .int 998 0, .int 0 0, .ref 1138, .int 1007 0, .int 0 0, .ref 1145, .int 1019 0, .int 0 0, .ref 1152, .int 1026 0, .int 0 0, .ref 1159, .int 1035 0, .int 0 0, .ref 1168, .int 1037 0, .int 0 0, .ref 1175, .int 1039 0, .int 0 0, .ref 1182, .int 1041 0, .int 0 0, .ref 1189, .int 1043 0, .int 0 0, .ref 1196, .int 1045 0, .int 0 0, .ref 1203, .int 1047 0, .int 0 0, .ref 1210, .int 1049 0, .int 0 0, .ref 1217, .int 1052 0, .int 0 0, .ref 1224, .int 1054 0, .int 0 0, .ref 1231, .int 1056 0, .int 0 0, .ref 1238, .int 1058 0, .int 0 0, .ref 1245, .int 1060 0, .int 0 0, .ref 1252, .int 1062 0, .int 0 0, .ref 1259, .int 1064 0, .int 0 0, .ref 1266, .int 1066 0, .int 0 0, .ref 1273, .int 1068 0, .int 0 0, .ref 1280, .int 1070 0, .int 0 0, .ref 1287, .int 1072 0, .int 0 0, .ref 1294, .int 1074 0, .int 0 0, .ref 1301, .int 1076 0, .int 0 0, .ref 1308, .int 1078 0, .int 0 0, .ref 1315, .int 1080 0, .int 0 0, .ref 1322, .int 1082 0, .int 0 0, .ref 1329, .int 1084 0, .int 0 0, .ref 1336, .int 1087 0, .int 0 0, .ref 1343, .int 1090 0, .int 0 0, .ref 1350, .int 1093 0, .int 0 0, .ref 1357, .int 1095 0, .int 0 0, .ref 1364, .int 1098 0, .int 0 0, .ref 1371, .int 1101 0, .int 0 0, .ref 1378, .int 1103 0, .int 0 0, .ref 1385, .int 1106 0, .int 0 0, .ref 1392, .int 1109 0, .int 0 0, .ref 1399, .int 1112 0, .int 0 0, .ref 1406, .int 1114 0, .int 0 0, .ref 1413, .int 1117 0, .int 0 0, .ref 1420, .int 1127 0, .int 0 0, .ref 1427, .int 1131 0, .int 0 0, .ref 1434, .int 1136 0, .int 0 0, .ref 1441, .int 1138 0, .int 0 0, .ref 1448, .int 1140 0, .int 0 0, .ref 1455, .int 1145 0, .int 0 0, .ref 1462, .int 1147 0, .int 0 0, .ref 1469, .int 1149 0, .int 0 0, .ref 1476, .int 1151 0, .int 0 0, .ref 1483, .int 1153 0, .int 0 0, .ref 1490, .int 1155 0, .int 0 0, .ref 1497, .int 1157 0, .int 0 0, .ref 1504, .int 1159 0, .int 0 0, .ref 1511, .int 1161 0, .int 0 0, .ref 1518, .int 1163 0, .int 0 0, .ref 1525, .int 1165 0, .int 0 0, .ref 1532, .int 1167 0, .int 0 0, .ref 1537, .int 1190 0, .int 0 0, .ref 1766, .int 1192 0, .int 0 0, .ref 1779, .int 1385 0, .int 0 0, .ref 1935, .int 1392 0, .int 0 0, .ref 1942, .int 1402 0, .int 0 0, .ref 1949, .int 1409 0, .int 0 0, .ref 1956, .int 1420 0, .int 0 0, .ref 1963], #[]⟩)]
def ov210 (w : World) : List (Nat × Obj) := [
  (2, ⟨.none, none, .dict #[en w "type.__subclasses__.Exception.0" 867 (.int 421 0), en w "type.__subclasses__.Exception.n" 868 (.int 3 0), en w "type.__subclasses__.Exception.1" 1697 (.int 944 0), en w "type.__subclasses__.Exception.2" 3390 (.int 1770 0)] 4, #[]⟩),
  (3, ⟨.type "dict", none, .dict #[en w "__name__" 165 (.str "slumberway.judging" 3848), en w "__doc__" 166 .none, en w "__package__" 167 .none, en w "__loader__" 168 (.builtin "__main__.__loader__#opaque"), en w "__spec__" 169 .none, en w "__annotations__" 170 (.ref 6), en w "__builtins__" 171 (.ref 4), en w "__file__" 173 (.str "/claim/cut.py" 172), en w "__cached__" 174 .none, en w "_wall" 193 (.ref 21), en w "SlumberError" 213 (.ref 31), en w "NoPlace" 229 (.ref 44), en w "BadRow" 245 (.ref 56), en w "TooMany" 261 (.ref 68), en w "NoBack" 277 (.ref 80), en w "NoSign" 302 (.ref 99), en w "NoReading" 329 (.ref 118), en w "Twice" 356 (.ref 137), en w "Counts" 381 (.ref 156), en w "Parts" 406 (.ref 175), en w "Unknown" 433 (.ref 194), en w "Clash" 462 (.ref 213), en w "Endless" 491 (.ref 232), en w "Broken" 516 (.ref 251), en w "SMALL" 520 (.str "abcdefghijklmnopqrstuvwxyz" 519), en w "GREAT" 522 (.str "ABCDEFGHIJKLMNOPQRSTUVWXYZ" 521), en w "FIGURES" 524 (.str "0123456789" 523), en w "LONGEST" 526 (.int 8 525), en w "REMARK" 528 (.str "--" 527), en w "SORTS" 589 (.ref 254), en w "LONG_SIGNS" 592 (.ref 256), en w "BLOCK_WORDS" 595 (.ref 257), en w "NEVER_ITEMS" 602 (.ref 258), en w "LAYING" 613 (.ref 259), en w "lexemes" 626 (.ref 266), en w "add_lexemes" 639 (.ref 273), en w "mixed_lexemes" 652 (.ref 280), en w "sort_of" 659 (.ref 287), en w "lexeme_at" 672 (.ref 294), en w "run_end" 682 (.ref 301), en w "sign_end" 692 (.ref 308), en w "laid" 708 (.ref 315), en w "end_place" 719 (.ref 322), en w "Layout" 831 (.ref 400), en w "is_whole" 840 (.ref 411), en w "MOST" 842 (.int 20000 841), en w "ARROW" 846 (.str "->" 845), en w "NUM" 848 (.int 0 847), en w "TRUTH" 850 (.int 1 849), en w "Clashing" 870 (.ref 421), en w "Solver" 1077 (.ref 548), en w "pieces_text" 1095 (.ref 559), en w "letter_text" 1103 (.ref 566), en w "binds" 1111 (.ref 571), en w "all_patterns" 1121 (.ref 578), en w "all_kinds" 1131 (.ref 585), en w "steps" 1142 (.ref 592), en w "hidden" 1150 (.ref 599), en w "rule_steps" 1162 (.ref 606), en w "def_steps" 1173 (.ref 613), en w "call_steps" 1180 (.ref 620), en w "op_steps" 1187 (.ref 627), en w "fun_steps" 1194 (.ref 634), en w "let_steps" 1200 (.ref 639), en w "if_steps" 1207 (.ref 646), en w "case_steps" 1218 (.ref 653), en w "WITHIN" 1233 (.ref 654), en w "free_names" 1245 (.ref 661), en w "NUMBERS_demanding" 1251 (.ref 662), en w "LEAVES_demanding" 1255 (.ref 663), en w "maker_shapes" 1261 (.ref 668), en w "key_of" 1268 (.ref 675), en w "Demanding" 1412 (.ref 778), en w "equation_step" 1425 (.ref 789), en w "pattern_step" 1431 (.ref 794), en w "demand_step" 1443 (.ref 801), en w "same_step" 1454 (.ref 808), en w "unbind_step" 1462 (.ref 815), en w "num_step" 1470 (.ref 822), en w "name_step" 1478 (.ref 829), en w "maker_step" 1488 (.ref 836), en w "call_step" 1496 (.ref 843), en w "called_step" 1509 (.ref 850), en w "op_step" 1521 (.ref 857), en w "fun_step" 1527 (.ref 862), en w "fun_done_step" 1538 (.ref 869), en w "let_step" 1544 (.ref 874), en w "as_step" 1555 (.ref 881), en w "if_step" 1567 (.ref 888), en w "alike_step" 1578 (.ref 895), en w "case_step" 1586 (.ref 902), en w "choices_step" 1592 (.ref 907), en w "choice_step" 1605 (.ref 914), en w "STEPS_demanding" 1646 (.ref 915), en w "groups" 1654 (.ref 921), en w "grouped" 1660 (.ref 926), en w "in_order" 1672 (.ref 933), en w "DEEPEST_quick" 1676 (.int 60 1675), en w "NUMBERS_quick" 1680 (.ref 934), en w "Odd" 1700 (.ref 944), en w "quick_of" 1708 (.ref 954), en w "Makers" 1748 (.ref 979), en w "are_kinds" 1759 (.ref 990), en w "Quick" 1957 (.ref 1109), en w "maker_kind" 1968 (.ref 1120), en w "call_kind" 1974 (.ref 1125), en w "op_kind" 1989 (.ref 1132), en w "fun_kind" 2003 (.ref 1139), en w "let_kind" 2018 (.ref 1146), en w "if_kind" 2034 (.ref 1153), en w "case_kind" 2048 (.ref 1160), en w "KINDS" 2063 (.ref 1161), en w "TIGHTNESS" 2081 (.ref 1162), en w "nothing" 2089 (.ref 1169), en w "keep_word" 2097 (.ref 1176), en w "keep_placed_word" 2105 (.ref 1183), en w "begin_placed" 2113 (.ref 1190), en w "begin_placed_word" 2121 (.ref 1197), en w "begin_line" 2129 (.ref 1204), en w "begin_made" 2137 (.ref 1211), en w "end_letters" 2145 (.ref 1218), en w "keep_letter" 2153 (.ref 1225), en w "keep_bare_kind" 2161 (.ref 1232), en w "begin_kind" 2169 (.ref 1239), en w "begin_kind_parts" 2177 (.ref 1246), en w "keep_place" 2185 (.ref 1253), en w "begin_equation" 2193 (.ref 1260), en w "begin_choice" 2201 (.ref 1267), en w "keep_any" 2209 (.ref 1274), en w "keep_bind" 2217 (.ref 1281), en w "keep_number" 2225 (.ref 1288), en w "keep_bare_made" 2233 (.ref 1295), en w "begin_pattern" 2241 (.ref 1302), en w "begin_pattern_parts" 2249 (.ref 1309), en w "choose_any" 2257 (.ref 1316), en w "choose_bind" 2265 (.ref 1323), en w "choose_number" 2273 (.ref 1330), en w "choose_made" 2281 (.ref 1337), en w "choose_bracket" 2289 (.ref 1344), en w "begin_sides" 2297 (.ref 1351), en w "begin_expr" 2305 (.ref 1358), en w "begin_asking" 2313 (.ref 1365), en w "first_atom" 2324 (.ref 1372), en w "first_number" 2332 (.ref 1379), en w "first_bracket" 2340 (.ref 1386), en w "keep_atom" 2351 (.ref 1393), en w "operand_atom" 2362 (.ref 1400), en w "operand_number" 2370 (.ref 1407), en w "operand_bracket" 2378 (.ref 1414), en w "keep_sign" 2395 (.ref 1421), en w "call_of" 2402 (.ref 1428), en w "close_expr" 2413 (.ref 1435), en w "close_data" 2420 (.ref 1442), en w "close_made" 2427 (.ref 1449), en w "close_kind" 2436 (.ref 1456), en w "close_kind_parts" 2443 (.ref 1463), en w "close_pattern" 2450 (.ref 1470), en w "close_pattern_parts" 2457 (.ref 1477), en w "close_equation" 2464 (.ref 1484), en w "close_guarded_equation" 2471 (.ref 1491), en w "close_choice" 2478 (.ref 1498), en w "close_guarded_choice" 2485 (.ref 1505), en w "close_fun" 2492 (.ref 1512), en w "close_let" 2499 (.ref 1519), en w "close_if" 2506 (.ref 1526), en w "close_case" 2513 (.ref 1533), en w "joined" 2519 (.ref 1538), en w "ACTS" 2594 (.ref 1539), en w "CLOSERS" 2627 (.ref 1542), en w "STEPS_grammar" 3356 (.ref 1543), en w "DEEPEST_quickreader" 3360 (.int 60 3359), en w "PLAIN_SORTS" 3367 (.ref 1758), en w "ADDING" 3370 (.ref 1759), en w "COMPARING" 3373 (.ref 1760), en w "OddText" 3393 (.ref 1770), en w "QuickReader" 3619 (.ref 1923), en w "fun_expr" 3629 (.ref 1936), en w "let_expr" 3639 (.ref 1943), en w "if_expr" 3650 (.ref 1950), en w "case_expr" 3661 (.ref 1957), en w "choice" 3670 (.ref 1964), en w "ATOMS" 3679 (.ref 1965), en w "LEAVES_quickreader" 3690 (.ref 1966), en w "EXPRS" 3699 (.ref 1967), en w "tree_of_laid" 3708 (.ref 1974), en w "tree_by_table" 3714 (.ref 1979), en w "wanted" 3720 (.ref 1984), en w "Reading" 3772 (.ref 2015), en w "KINDS_AHEAD" 3777 (.ref 2020), en w "MAKERS_AHEAD" 3780 (.ref 2021), en w "look" 3786 (.ref 2026), en w "first_of" 3793 (.ref 2033), en w "repeated" 3799 (.ref 2038), en w "twice_faults" 3805 (.ref 2043), en w "count_faults" 3811 (.ref 2048), en w "kind_counts" 3817 (.ref 2053), en w "maker_counts" 3823 (.ref 2058), en w "told_kinds" 3829 (.ref 2063), en w "made_patterns" 3835 (.ref 2068), en w "unknown_faults" 3841 (.ref 2073), en w "parts_faults" 3847 (.ref 2078), en w "judged" 3858 (.ref 2085), en w "gone_through" 3867 (.ref 2092), en w "refuse_fault" 3881 (.ref 2099), en w "with_demands" 3895 (.ref 2106), en w "Judging" 3987 (.ref 2168)] 206, #[]⟩),
  (12, ⟨.none, none, .fields #[.int 1 0, .int 0 0, .ref 20, .int 5 0, .int 0 0, .ref 27, .int 7 0, .int 0 0, .ref 40, .int 9 0, .int 0 0, .ref 52, .int 11 0, .int 0 0, .ref 64, .int 13 0, .int 0 0, .ref 76, .int 15 0, .int 0 0, .ref 88, .int 19 0, .int 0 0, .ref 107, .int 24 0, .int 0 0, .ref 126, .int 29 0, .int 0 0, .ref 145, .int 33 0, .int 0 0, .ref 164, .int 37 0, .int 0 0, .ref 183, .int 42 0, .int 0 0, .ref 202, .int 48 0, .int 0 0, .ref 221, .int 54 0, .int 0 0, .ref 240, .int 69 0, .int 0 0, .ref 265, .int 83 0, .int 0 0, .ref 272, .int 101 0, .int 0 0, .ref 279, .int 109 0, .int 0 0, .ref 286, .int 121 0, .int 0 0, .ref 293, .int 137 0, .int 0 0, .ref 300, .int 139 0, .int 0 0, .ref 307, .int 145 0, .int 0 0, .ref 314, .int 161 0, .int 0 0, .ref 321, .int 166 0, .int 0 0, .ref 328, .int 242 0, .int 0 0, .ref 410, .int 249 0, .int 0 0, .ref 417, .int 251 0, .int 0 0, .ref 430, .int 428 0, .int 0 0, .ref 558, .int 450 0, .int 0 0, .ref 565, .int 457 0, .int 0 0, .ref 570, .int 459 0, .int 0 0, .ref 577, .int 468 0, .int 0 0, .ref 584, .int 479 0, .int 0 0, .ref 591, .int 489 0, .int 0 0, .ref 598, .int 491 0, .int 0 0, .ref 605, .int 498 0, .int 0 0, .ref 612, .int 503 0, .int 0 0, .ref 619, .int 505 0, .int 0 0, .ref 626, .int 507 0, .int 0 0, .ref 633, .int 509 0, .int 0 0, .ref 638, .int 511 0, .int 0 0, .ref 645, .int 513 0, .int 0 0, .ref 652, .int 519 0, .int 0 0, .ref 660, .int 535 0, .int 0 0, .ref 667, .int 543 0, .int 0 0, .ref 674, .int 545 0, .int 0 0, .ref 681, .int 641 0, .int 0 0, .ref 788, .int 644 0, .int 0 0, .ref 793, .int 654 0, .int 0 0, .ref 800, .int 657 0, .int 0 0, .ref 807, .int 660 0, .int 0 0, .ref 814, .int 662 0, .int 0 0, .ref 821, .int 664 0, .int 0 0, .ref 828, .int 666 0, .int 0 0, .ref 835, .int 669 0, .int 0 0, .ref 842, .int 671 0, .int 0 0, .ref 849, .int 679 0, .int 0 0, .ref 856, .int 683 0, .int 0 0, .ref 861, .int 689 0, .int 0 0, .ref 868, .int 692 0, .int 0 0, .ref 873, .int 695 0, .int 0 0, .ref 880, .int 698 0, .int 0 0, .ref 887, .int 701 0, .int 0 0, .ref 894, .int 704 0, .int 0 0, .ref 901, .int 706 0, .int 0 0, .ref 906, .int 712 0, .int 0 0, .ref 913, .int 717 0, .int 0 0, .ref 920, .int 721 0, .int 0 0, .ref 925, .int 746 0, .int 0 0, .ref 932, .int 761 0, .int 0 0, .ref 940, .int 763 0, .int 0 0, .ref 953, .int 768 0, .int 0 0, .ref 960, .int 807 0, .int 0 0, .ref 989, .int 821 0, .int 0 0, .ref 996, .int 978 0, .int 0 0, .ref 1119, .int 983 0, .int 0 0, .ref 1124, .int 992 0, .int 0 0, .ref 1131, .int 998 0, .int 0 0, .ref 1138, .int 1007 0, .int 0 0, .ref 1145, .int 1019 0, .int 0 0, .ref 1152, .int 1026 0, .int 0 0, .ref 1159, .int 1035 0, .int 0 0, .ref 1168, .int 1037 0, .int 0 0, .ref 1175, .int 1039 0, .int 0 0, .ref 1182, .int 1041 0, .int 0 0, .ref 1189, .int 1043 0, .int 0 0, .ref 1196, .int 1045 0, .int 0 0, .ref 1203, .int 1047 0, .int 0 0, .ref 1210, .int 1049 0, .int 0 0, .ref 1217, .int 1052 0, .int 0 0, .ref 1224, .int 1054 0, .int 0 0, .ref 1231, .int 1056 0, .int 0 0, .ref 1238, .int 1058 0, .int 0 0, .ref 1245, .int 1060 0, .int 0 0, .ref 1252, .int 1062 0, .int 0 0, .ref 1259, .int 1064 0, .int 0 0, .ref 1266, .int 1066 0, .int 0 0, .ref 1273, .int 1068 0, .int 0 0, .ref 1280, .int 1070 0, .int 0 0, .ref 1287, .int 1072 0, .int 0 0, .ref 1294, .int 1074 0, .int 0 0, .ref 1301, .int 1076 0, .int 0 0, .ref 1308, .int 1078 0, .int 0 0, .ref 1315, .int 1080 0, .int 0 0, .ref 1322, .int 1082 0, .int 0 0, .ref 1329, .int 1084 0, .int 0 0, .ref 1336, .int 1087 0, .int 0 0, .ref 1343, .int 1090 0, .int 0 0, .ref 1350, .int 1093 0, .int 0 0, .ref 1357, .int 1095 0, .int 0 0, .ref 1364, .int 1098 0, .int 0 0, .ref 1371, .int 1101 0, .int 0 0, .ref 1378, .int 1103 0, .int 0 0, .ref 1385, .int 1106 0, .int 0 0, .ref 1392, .int 1109 0, .int 0 0, .ref 1399, .int 1112 0, .int 0 0, .ref 1406, .int 1114 0, .int 0 0, .ref 1413, .int 1117 0, .int 0 0, .ref 1420, .int 1127 0, .int 0 0, .ref 1427, .int 1131 0, .int 0 0, .ref 1434, .int 1136 0, .int 0 0, .ref 1441, .int 1138 0, .int 0 0, .ref 1448, .int 1140 0, .int 0 0, .ref 1455, .int 1145 0, .int 0 0, .ref 1462, .int 1147 0, .int 0 0, .ref 1469, .int 1149 0, .int 0 0, .ref 1476, .int 1151 0, .int 0 0, .ref 1483, .int 1153 0, .int 0 0, .ref 1490, .int 1155 0, .int 0 0, .ref 1497, .int 1157 0, .int 0 0, .ref 1504, .int 1159 0, .int 0 0, .ref 1511, .int 1161 0, .int 0 0, .ref 1518, .int 1163 0, .int 0 0, .ref 1525, .int 1165 0, .int 0 0, .ref 1532, .int 1167 0, .int 0 0, .ref 1537, .int 1190 0, .int 0 0, .ref 1766, .int 1192 0, .int 0 0, .ref 1779, .int 1385 0, .int 0 0, .ref 1935, .int 1392 0, .int 0 0, .ref 1942, .int 1402 0, .int 0 0, .ref 1949, .int 1409 0, .int 0 0, .ref 1956, .int 1420 0, .int 0 0, .ref 1963, .int 1428 0, .int 0 0, .ref 1973, .int 1433 0, .int 0 0, .ref 1978, .int 1449 0, .int 0 0, .ref 1983, .int 1451 0, .int 0 0, .ref 1990, .int 1479 0, .int 0 0, .ref 2025, .int 1497 0, .int 0 0, .ref 2032, .int 1499 0, .int 0 0, .ref 2037, .int 1508 0, .int 0 0, .ref 2042, .int 1519 0, .int 0 0, .ref 2047, .int 1526 0, .int 0 0, .ref 2052, .int 1531 0, .int 0 0, .ref 2057, .int 1537 0, .int 0 0, .ref 2062, .int 1539 0, .int 0 0, .ref 2067, .int 1545 0, .int 0 0, .ref 2072, .int 1562 0, .int 0 0, .ref 2077, .int 1573 0, .int 0 0, .ref 2084, .int 1577 0, .int 0 0, .ref 2091, .int 1584 0, .int 0 0, .ref 2098, .int 1595 0, .int 0 0, .ref 2105, .int 1606 0, .int 0 0, .ref 2112], #[]⟩)]
def ov238 (w : World) : List (Nat × Obj) := [
  (2, ⟨.none, none, .dict #[en w "type.__subclasses__.Exception.0" 867 (.int 421 0), en w "type.__subclasses__.Exception.n" 868 (.int 3 0), en w "type.__subclasses__.Exception.1" 1697 (.int 944 0), en w "type.__subclasses__.Exception.2" 3390 (.int 1770 0)] 4, #[]⟩),
  (3, ⟨.type "dict", none, .dict #[en w "__name__" 165 (.str "law_slumberway_k80_rows_edited" 4398), en w "__doc__" 166 .none, en w "__package__" 167 .none, en w "__loader__" 168 (.builtin "__main__.__loader__#opaque"), en w "__spec__" 169 .none, en w "__annotations__" 170 (.ref 6), en w "__builtins__" 171 (.ref 4), en w "__file__" 173 (.str "/claim/cut.py" 172), en w "__cached__" 174 .none, en w "_wall" 193 (.ref 21), en w "SlumberError" 213 (.ref 31), en w "NoPlace" 229 (.ref 44), en w "BadRow" 245 (.ref 56), en w "TooMany" 261 (.ref 68), en w "NoBack" 277 (.ref 80), en w "NoSign" 302 (.ref 99), en w "NoReading" 329 (.ref 118), en w "Twice" 356 (.ref 137), en w "Counts" 381 (.ref 156), en w "Parts" 406 (.ref 175), en w "Unknown" 433 (.ref 194), en w "Clash" 462 (.ref 213), en w "Endless" 491 (.ref 232), en w "Broken" 516 (.ref 251), en w "SMALL" 520 (.str "abcdefghijklmnopqrstuvwxyz" 519), en w "GREAT" 522 (.str "ABCDEFGHIJKLMNOPQRSTUVWXYZ" 521), en w "FIGURES" 524 (.str "0123456789" 523), en w "LONGEST" 526 (.int 8 525), en w "REMARK" 528 (.str "--" 527), en w "SORTS" 589 (.ref 254), en w "LONG_SIGNS" 592 (.ref 256), en w "BLOCK_WORDS" 595 (.ref 257), en w "NEVER_ITEMS" 602 (.ref 258), en w "LAYING" 613 (.ref 259), en w "lexemes" 626 (.ref 266), en w "add_lexemes" 639 (.ref 273), en w "mixed_lexemes" 652 (.ref 280), en w "sort_of" 659 (.ref 287), en w "lexeme_at" 672 (.ref 294), en w "run_end" 682 (.ref 301), en w "sign_end" 692 (.ref 308), en w "laid" 708 (.ref 315), en w "end_place" 719 (.ref 322), en w "Layout" 831 (.ref 400), en w "is_whole" 840 (.ref 411), en w "MOST" 842 (.int 20000 841), en w "ARROW" 846 (.str "->" 845), en w "NUM" 848 (.int 0 847), en w "TRUTH" 850 (.int 1 849), en w "Clashing" 870 (.ref 421), en w "Solver" 1077 (.ref 548), en w "pieces_text" 1095 (.ref 559), en w "letter_text" 1103 (.ref 566), en w "binds" 1111 (.ref 571), en w "all_patterns" 1121 (.ref 578), en w "all_kinds" 1131 (.ref 585), en w "steps" 1142 (.ref 592), en w "hidden" 1150 (.ref 599), en w "rule_steps" 1162 (.ref 606), en w "def_steps" 1173 (.ref 613), en w "call_steps" 1180 (.ref 620), en w "op_steps" 1187 (.ref 627), en w "fun_steps" 1194 (.ref 634), en w "let_steps" 1200 (.ref 639), en w "if_steps" 1207 (.ref 646), en w "case_steps" 1218 (.ref 653), en w "WITHIN" 1233 (.ref 654), en w "free_names" 1245 (.ref 661), en w "NUMBERS_demanding" 1251 (.ref 662), en w "LEAVES_demanding" 1255 (.ref 663), en w "maker_shapes" 1261 (.ref 668), en w "key_of" 1268 (.ref 675), en w "Demanding" 1412 (.ref 778), en w "equation_step" 1425 (.ref 789), en w "pattern_step" 1431 (.ref 794), en w "demand_step" 1443 (.ref 801), en w "same_step" 1454 (.ref 808), en w "unbind_step" 1462 (.ref 815), en w "num_step" 1470 (.ref 822), en w "name_step" 1478 (.ref 829), en w "maker_step" 1488 (.ref 836), en w "call_step" 1496 (.ref 843), en w "called_step" 1509 (.ref 850), en w "op_step" 1521 (.ref 857), en w "fun_step" 1527 (.ref 862), en w "fun_done_step" 1538 (.ref 869), en w "let_step" 1544 (.ref 874), en w "as_step" 1555 (.ref 881), en w "if_step" 1567 (.ref 888), en w "alike_step" 1578 (.ref 895), en w "case_step" 1586 (.ref 902), en w "choices_step" 1592 (.ref 907), en w "choice_step" 1605 (.ref 914), en w "STEPS_demanding" 1646 (.ref 915), en w "groups" 1654 (.ref 921), en w "grouped" 1660 (.ref 926), en w "in_order" 1672 (.ref 933), en w "DEEPEST_quick" 1676 (.int 60 1675), en w "NUMBERS_quick" 1680 (.ref 934), en w "Odd" 1700 (.ref 944), en w "quick_of" 1708 (.ref 954), en w "Makers" 1748 (.ref 979), en w "are_kinds" 1759 (.ref 990), en w "Quick" 1957 (.ref 1109), en w "maker_kind" 1968 (.ref 1120), en w "call_kind" 1974 (.ref 1125), en w "op_kind" 1989 (.ref 1132), en w "fun_kind" 2003 (.ref 1139), en w "let_kind" 2018 (.ref 1146), en w "if_kind" 2034 (.ref 1153), en w "case_kind" 2048 (.ref 1160), en w "KINDS" 2063 (.ref 1161), en w "TIGHTNESS" 2081 (.ref 1162), en w "nothing" 2089 (.ref 1169), en w "keep_word" 2097 (.ref 1176), en w "keep_placed_word" 2105 (.ref 1183), en w "begin_placed" 2113 (.ref 1190), en w "begin_placed_word" 2121 (.ref 1197), en w "begin_line" 2129 (.ref 1204), en w "begin_made" 2137 (.ref 1211), en w "end_letters" 2145 (.ref 1218), en w "keep_letter" 2153 (.ref 1225), en w "keep_bare_kind" 2161 (.ref 1232), en w "begin_kind" 2169 (.ref 1239), en w "begin_kind_parts" 2177 (.ref 1246), en w "keep_place" 2185 (.ref 1253), en w "begin_equation" 2193 (.ref 1260), en w "begin_choice" 2201 (.ref 1267), en w "keep_any" 2209 (.ref 1274), en w "keep_bind" 2217 (.ref 1281), en w "keep_number" 2225 (.ref 1288), en w "keep_bare_made" 2233 (.ref 1295), en w "begin_pattern" 2241 (.ref 1302), en w "begin_pattern_parts" 2249 (.ref 1309), en w "choose_any" 2257 (.ref 1316), en w "choose_bind" 2265 (.ref 1323), en w "choose_number" 2273 (.ref 1330), en w "choose_made" 2281 (.ref 1337), en w "choose_bracket" 2289 (.ref 1344), en w "begin_sides" 2297 (.ref 1351), en w "begin_expr" 2305 (.ref 1358), en w "begin_asking" 2313 (.ref 1365), en w "first_atom" 2324 (.ref 1372), en w "first_number" 2332 (.ref 1379), en w "first_bracket" 2340 (.ref 1386), en w "keep_atom" 2351 (.ref 1393), en w "operand_atom" 2362 (.ref 1400), en w "operand_number" 2370 (.ref 1407), en w "operand_bracket" 2378 (.ref 1414), en w "keep_sign" 2395 (.ref 1421), en w "call_of" 2402 (.ref 1428), en w "close_expr" 2413 (.ref 1435), en w "close_data" 2420 (.ref 1442), en w "close_made" 2427 (.ref 1449), en w "close_kind" 2436 (.ref 1456), en w "close_kind_parts" 2443 (.ref 1463), en w "close_pattern" 2450 (.ref 1470), en w "close_pattern_parts" 2457 (.ref 1477), en w "close_equation" 2464 (.ref 1484), en w "close_guarded_equation" 2471 (.ref 1491), en w "close_choice" 2478 (.ref 1498), en w "close_guarded_choice" 2485 (.ref 1505), en w "close_fun" 2492 (.ref 1512), en w "close_let" 2499 (.ref 1519), en w "close_if" 2506 (.ref 1526), en w "close_case" 2513 (.ref 1533), en w "joined" 2519 (.ref 1538), en w "ACTS" 2594 (.ref 1539), en w "CLOSERS" 2627 (.ref 1542), en w "STEPS_grammar" 3356 (.ref 1543), en w "DEEPEST_quickreader" 3360 (.int 60 3359), en w "PLAIN_SORTS" 3367 (.ref 1758), en w "ADDING" 3370 (.ref 1759), en w "COMPARING" 3373 (.ref 1760), en w "OddText" 3393 (.ref 1770), en w "QuickReader" 3619 (.ref 1923), en w "fun_expr" 3629 (.ref 1936), en w "let_expr" 3639 (.ref 1943), en w "if_expr" 3650 (.ref 1950), en w "case_expr" 3661 (.ref 1957), en w "choice" 3670 (.ref 1964), en w "ATOMS" 3679 (.ref 1965), en w "LEAVES_quickreader" 3690 (.ref 1966), en w "EXPRS" 3699 (.ref 1967), en w "tree_of_laid" 3708 (.ref 1974), en w "tree_by_table" 3714 (.ref 1979), en w "wanted" 3720 (.ref 1984), en w "Reading" 3772 (.ref 2015), en w "KINDS_AHEAD" 3777 (.ref 2020), en w "MAKERS_AHEAD" 3780 (.ref 2021), en w "look" 3786 (.ref 2026), en w "first_of" 3793 (.ref 2033), en w "repeated" 3799 (.ref 2038), en w "twice_faults" 3805 (.ref 2043), en w "count_faults" 3811 (.ref 2048), en w "kind_counts" 3817 (.ref 2053), en w "maker_counts" 3823 (.ref 2058), en w "told_kinds" 3829 (.ref 2063), en w "made_patterns" 3835 (.ref 2068), en w "unknown_faults" 3841 (.ref 2073), en w "parts_faults" 3847 (.ref 2078), en w "judged" 3858 (.ref 2085), en w "gone_through" 3867 (.ref 2092), en w "refuse_fault" 3881 (.ref 2099), en w "with_demands" 3895 (.ref 2106), en w "Judging" 3987 (.ref 2168), en w "kind_texts" 3995 (.ref 2177), en w "Text" 4102 (.ref 2248), en w "def_pieces" 4108 (.ref 2257), en w "Group" 4145 (.ref 2279), en w "used_makers" 4151 (.ref 2288), en w "MOST_ROWS" 4155 (.int 120 4154), en w "LONGEST_ROW" 4157 (.int 100 4156), en w "NOTHING" 4161 (.ref 2289), en w "KEPT" 4163 (.int 8 4162), en w "State" 4228 (.ref 2334), en w "Workshop" 4382 (.ref 2454), en w "refuse_place" 4390 (.ref 2465), en w "refuse_row" 4397 (.ref 2472), en w "_law_mixed" 4408 (.ref 2479), en w "_law_purse" 4416 (.ref 2486), en w "_law_take" 4425 (.ref 2493), en w "_law_at" 4433 (.ref 2500), en w "_law_row" 4441 (.ref 2507), en w "_law_bad_row" 4448 (.ref 2514), en w "_law_done" 4461 (.ref 2521), en w "_law_is_place" 4469 (.ref 2528), en w "_law_deed" 4485 (.ref 2535), en w "_law_full_right" 4491 (.ref 2540), en w "law" 4504 (.ref 2547)] 230, #[]⟩),
  (12, ⟨.none, none, .fields #[.int 1 0, .int 0 0, .ref 20, .int 5 0, .int 0 0, .ref 27, .int 7 0, .int 0 0, .ref 40, .int 9 0, .int 0 0, .ref 52, .int 11 0, .int 0 0, .ref 64, .int 13 0, .int 0 0, .ref 76, .int 15 0, .int 0 0, .ref 88, .int 19 0, .int 0 0, .ref 107, .int 24 0, .int 0 0, .ref 126, .int 29 0, .int 0 0, .ref 145, .int 33 0, .int 0 0, .ref 164, .int 37 0, .int 0 0, .ref 183, .int 42 0, .int 0 0, .ref 202, .int 48 0, .int 0 0, .ref 221, .int 54 0, .int 0 0, .ref 240, .int 69 0, .int 0 0, .ref 265, .int 83 0, .int 0 0, .ref 272, .int 101 0, .int 0 0, .ref 279, .int 109 0, .int 0 0, .ref 286, .int 121 0, .int 0 0, .ref 293, .int 137 0, .int 0 0, .ref 300, .int 139 0, .int 0 0, .ref 307, .int 145 0, .int 0 0, .ref 314, .int 161 0, .int 0 0, .ref 321, .int 166 0, .int 0 0, .ref 328, .int 242 0, .int 0 0, .ref 410, .int 249 0, .int 0 0, .ref 417, .int 251 0, .int 0 0, .ref 430, .int 428 0, .int 0 0, .ref 558, .int 450 0, .int 0 0, .ref 565, .int 457 0, .int 0 0, .ref 570, .int 459 0, .int 0 0, .ref 577, .int 468 0, .int 0 0, .ref 584, .int 479 0, .int 0 0, .ref 591, .int 489 0, .int 0 0, .ref 598, .int 491 0, .int 0 0, .ref 605, .int 498 0, .int 0 0, .ref 612, .int 503 0, .int 0 0, .ref 619, .int 505 0, .int 0 0, .ref 626, .int 507 0, .int 0 0, .ref 633, .int 509 0, .int 0 0, .ref 638, .int 511 0, .int 0 0, .ref 645, .int 513 0, .int 0 0, .ref 652, .int 519 0, .int 0 0, .ref 660, .int 535 0, .int 0 0, .ref 667, .int 543 0, .int 0 0, .ref 674, .int 545 0, .int 0 0, .ref 681, .int 641 0, .int 0 0, .ref 788, .int 644 0, .int 0 0, .ref 793, .int 654 0, .int 0 0, .ref 800, .int 657 0, .int 0 0, .ref 807, .int 660 0, .int 0 0, .ref 814, .int 662 0, .int 0 0, .ref 821, .int 664 0, .int 0 0, .ref 828, .int 666 0, .int 0 0, .ref 835, .int 669 0, .int 0 0, .ref 842, .int 671 0, .int 0 0, .ref 849, .int 679 0, .int 0 0, .ref 856, .int 683 0, .int 0 0, .ref 861, .int 689 0, .int 0 0, .ref 868, .int 692 0, .int 0 0, .ref 873, .int 695 0, .int 0 0, .ref 880, .int 698 0, .int 0 0, .ref 887, .int 701 0, .int 0 0, .ref 894, .int 704 0, .int 0 0, .ref 901, .int 706 0, .int 0 0, .ref 906, .int 712 0, .int 0 0, .ref 913, .int 717 0, .int 0 0, .ref 920, .int 721 0, .int 0 0, .ref 925, .int 746 0, .int 0 0, .ref 932, .int 761 0, .int 0 0, .ref 940, .int 763 0, .int 0 0, .ref 953, .int 768 0, .int 0 0, .ref 960, .int 807 0, .int 0 0, .ref 989, .int 821 0, .int 0 0, .ref 996, .int 978 0, .int 0 0, .ref 1119, .int 983 0, .int 0 0, .ref 1124, .int 992 0, .int 0 0, .ref 1131, .int 998 0, .int 0 0, .ref 1138, .int 1007 0, .int 0 0, .ref 1145, .int 1019 0, .int 0 0, .ref 1152, .int 1026 0, .int 0 0, .ref 1159, .int 1035 0, .int 0 0, .ref 1168, .int 1037 0, .int 0 0, .ref 1175, .int 1039 0, .int 0 0, .ref 1182, .int 1041 0, .int 0 0, .ref 1189, .int 1043 0, .int 0 0, .ref 1196, .int 1045 0, .int 0 0, .ref 1203, .int 1047 0, .int 0 0, .ref 1210, .int 1049 0, .int 0 0, .ref 1217, .int 1052 0, .int 0 0, .ref 1224, .int 1054 0, .int 0 0, .ref 1231, .int 1056 0, .int 0 0, .ref 1238, .int 1058 0, .int 0 0, .ref 1245, .int 1060 0, .int 0 0, .ref 1252, .int 1062 0, .int 0 0, .ref 1259, .int 1064 0, .int 0 0, .ref 1266, .int 1066 0, .int 0 0, .ref 1273, .int 1068 0, .int 0 0, .ref 1280, .int 1070 0, .int 0 0, .ref 1287, .int 1072 0, .int 0 0, .ref 1294, .int 1074 0, .int 0 0, .ref 1301, .int 1076 0, .int 0 0, .ref 1308, .int 1078 0, .int 0 0, .ref 1315, .int 1080 0, .int 0 0, .ref 1322, .int 1082 0, .int 0 0, .ref 1329, .int 1084 0, .int 0 0, .ref 1336, .int 1087 0, .int 0 0, .ref 1343, .int 1090 0, .int 0 0, .ref 1350, .int 1093 0, .int 0 0, .ref 1357, .int 1095 0, .int 0 0, .ref 1364, .int 1098 0, .int 0 0, .ref 1371, .int 1101 0, .int 0 0, .ref 1378, .int 1103 0, .int 0 0, .ref 1385, .int 1106 0, .int 0 0, .ref 1392, .int 1109 0, .int 0 0, .ref 1399, .int 1112 0, .int 0 0, .ref 1406, .int 1114 0, .int 0 0, .ref 1413, .int 1117 0, .int 0 0, .ref 1420, .int 1127 0, .int 0 0, .ref 1427, .int 1131 0, .int 0 0, .ref 1434, .int 1136 0, .int 0 0, .ref 1441, .int 1138 0, .int 0 0, .ref 1448, .int 1140 0, .int 0 0, .ref 1455, .int 1145 0, .int 0 0, .ref 1462, .int 1147 0, .int 0 0, .ref 1469, .int 1149 0, .int 0 0, .ref 1476, .int 1151 0, .int 0 0, .ref 1483, .int 1153 0, .int 0 0, .ref 1490, .int 1155 0, .int 0 0, .ref 1497, .int 1157 0, .int 0 0, .ref 1504, .int 1159 0, .int 0 0, .ref 1511, .int 1161 0, .int 0 0, .ref 1518, .int 1163 0, .int 0 0, .ref 1525, .int 1165 0, .int 0 0, .ref 1532, .int 1167 0, .int 0 0, .ref 1537, .int 1190 0, .int 0 0, .ref 1766, .int 1192 0, .int 0 0, .ref 1779, .int 1385 0, .int 0 0, .ref 1935, .int 1392 0, .int 0 0, .ref 1942, .int 1402 0, .int 0 0, .ref 1949, .int 1409 0, .int 0 0, .ref 1956, .int 1420 0, .int 0 0, .ref 1963, .int 1428 0, .int 0 0, .ref 1973, .int 1433 0, .int 0 0, .ref 1978, .int 1449 0, .int 0 0, .ref 1983, .int 1451 0, .int 0 0, .ref 1990, .int 1479 0, .int 0 0, .ref 2025, .int 1497 0, .int 0 0, .ref 2032, .int 1499 0, .int 0 0, .ref 2037, .int 1508 0, .int 0 0, .ref 2042, .int 1519 0, .int 0 0, .ref 2047, .int 1526 0, .int 0 0, .ref 2052, .int 1531 0, .int 0 0, .ref 2057, .int 1537 0, .int 0 0, .ref 2062, .int 1539 0, .int 0 0, .ref 2067, .int 1545 0, .int 0 0, .ref 2072, .int 1562 0, .int 0 0, .ref 2077, .int 1573 0, .int 0 0, .ref 2084, .int 1577 0, .int 0 0, .ref 2091, .int 1584 0, .int 0 0, .ref 2098, .int 1595 0, .int 0 0, .ref 2105, .int 1606 0, .int 0 0, .ref 2112, .int 1654 0, .int 0 0, .ref 2176, .int 1657 0, .int 0 0, .ref 2183, .int 1720 0, .int 0 0, .ref 2256, .int 1733 0, .int 0 0, .ref 2263, .int 1746 0, .int 0 0, .ref 2287, .int 1759 0, .int 0 0, .ref 2295, .int 1785 0, .int 0 0, .ref 2344, .int 1861 0, .int 0 0, .ref 2464, .int 1864 0, .int 0 0, .ref 2471, .int 1868 0, .int 0 0, .ref 2478, .int 1872 0, .int 0 0, .ref 2485, .int 1876 0, .int 0 0, .ref 2492, .int 1883 0, .int 0 0, .ref 2499, .int 1887 0, .int 0 0, .ref 2506, .int 1890 0, .int 0 0, .ref 2513, .int 1892 0, .int 0 0, .ref 2520, .int 1911 0, .int 0 0, .ref 2527, .int 1913 0, .int 0 0, .ref 2534, .int 1941 0, .int 0 0, .ref 2539, .int 1952 0, .int 0 0, .ref 2546], #[]⟩)]
end S8H
end

set_option Elab.async false
set_option linter.all false
set_option maxRecDepth 100000
set_option maxHeartbeats 0
noncomputable section
namespace S8H
open PySem PySem.W PySem.Calls PyProof.Rows HA HC HandSHeadRun
abbrev R : OpenRow := OpenLaw.row PySem.Challenge.rw_slumberway_k80_rows_edited
def body0 : List Stmt := PySem.Challenge.pw_slumberway_k80_rows_edited.main.body
def env0 : Env := { scope := PySem.Challenge.pw_slumberway_k80_rows_edited.main.scope, locals := mainNs, globals := mainNs, cells := [], code := .ref 13, frame := some 14 }
def cd0 : Code := .body body0 env0
def q0 : Pos := ⟨0, 0, 0, 0⟩
def keysS : Stmt → List (Option Expr)
  | .Assign _ (.Dict k _ _) _ => k
  | _ => []
def valsS : Stmt → List Expr
  | .Assign _ (.Dict _ v _) _ => v
  | _ => []
def es0 : List Ent := (ents? (keysS (tp 169)) (valsS (tp 169))).getD []
def row0 : String := "special-get-raises"
def L3 (w : World) : List Obj := (disp R.prog w 1543 [] es0 ⟨none, [], 2628⟩).L
def A22 : List Stmt := (body0.drop 0).take 22
def p22 : Pos := ⟨63, 0, 63, 6⟩
def S22 (w : World) (os : OsState) : SharedT := sta (setAll ((ob w).take 254) (ov22 w)) 254 529 os
def A27 : List Stmt := (body0.drop 22).take 5
def p27 : Pos := ⟨68, 0, 68, 6⟩
def S27 (w : World) (os : OsState) : SharedT := sta (setAll ((ob w).take 260) (ov27 w)) 260 614 os
def A62 : List Stmt := (body0.drop 27).take 35
def p62 : Pos := ⟨513, 0, 517, 15⟩
def S62 (w : World) (os : OsState) : SharedT := sta (setAll ((ob w).take 654) (ov62 w)) 654 1219 os
def A63 : List Stmt := (body0.drop 62).take 1
def p63 : Pos := ⟨518, 0, 518, 6⟩
def S63 (w : World) (os : OsState) : SharedT := sta (setAll ((ob w).take 655) (ov63 w)) 655 1234 os
def A90 : List Stmt := (body0.drop 63).take 27
def p90 : Pos := ⟨712, 0, 714, 61⟩
def S90 (w : World) (os : OsState) : SharedT := sta (setAll ((ob w).take 915) (ov90 w)) 915 1606 os
def A91 : List Stmt := (body0.drop 90).take 1
def p91 : Pos := ⟨715, 0, 715, 15⟩
def S91 (w : World) (os : OsState) : SharedT := sta (setAll ((ob w).take 917) (ov91 w)) 917 1647 os
def A110 : List Stmt := (body0.drop 91).take 19
def p110 : Pos := ⟨1026, 0, 1031, 17⟩
def S110 (w : World) (os : OsState) : SharedT := sta (setAll ((ob w).take 1161) (ov110 w)) 1161 2049 os
def A113 : List Stmt := (body0.drop 110).take 3
def p113 : Pos := ⟨1034, 0, 1034, 9⟩
def S113 (w : World) (os : OsState) : SharedT := sta (setAll ((ob w).take 1163) (ov113 w)) 1163 2082 os
def A140 : List Stmt := (body0.drop 113).take 27
def p140 : Pos := ⟨1090, 0, 1092, 29⟩
def S140 (w : World) (os : OsState) : SharedT := sta (setAll ((ob w).take 1352) (ov140 w)) 1352 2298 os
def A167 : List Stmt := (body0.drop 140).take 27
def p167 : Pos := ⟨1167, 0, 1181, 124⟩
def S167 (w : World) (os : OsState) : SharedT := sta (setAll ((ob w).take 1539) (ov167 w)) 1539 2520 os
def A169 : List Stmt := (body0.drop 167).take 2
def p169 : Pos := ⟨1183, 0, 1183, 7⟩
def S169 (w : World) (os : OsState) : SharedT := sta (ob w) 1543 2628 os
def A173 : List Stmt := (body0.drop 170).take 3
def p173 : Pos := ⟨1187, 0, 1187, 11⟩
def S173 (w : World) (os : OsState) : SharedT := sta (setAll (ob w) (ov173 w) ++ L3 w ++ (ex w).take 1) 1759 3368 os
def A182 : List Stmt := (body0.drop 173).take 9
def p182 : Pos := ⟨1420, 0, 1423, 47⟩
def S182 (w : World) (os : OsState) : SharedT := sta (setAll (ob w) (ov182 w) ++ L3 w ++ (ex w).take 207) 1965 3671 os
def A185 : List Stmt := (body0.drop 182).take 3
def p185 : Pos := ⟨1426, 0, 1426, 5⟩
def S185 (w : World) (os : OsState) : SharedT := sta (setAll (ob w) (ov185 w) ++ L3 w ++ (ex w).take 210) 1968 3700 os
def A210 : List Stmt := (body0.drop 185).take 25
def p210 : Pos := ⟨1606, 0, 1652, 70⟩
def S210 (w : World) (os : OsState) : SharedT := sta (setAll (ob w) (ov210 w) ++ L3 w ++ (ex w).take 415) 2173 3988 os
def A238 : List Stmt := (body0.drop 210).take 28
def p238 : Pos := ⟨1952, 0, 1968, 15⟩
def S238 (w : World) (os : OsState) : SharedT := sta (setAll (ob w) (ov238 w) ++ L3 w ++ ex w) 2548 4505 os
abbrev qv : Program := view R.prog [237]
def nm0 : List PySem.Str := [("_wall" : PySem.Str), ("SlumberError" : PySem.Str), ("NoPlace" : PySem.Str), ("BadRow" : PySem.Str), ("TooMany" : PySem.Str), ("NoBack" : PySem.Str), ("NoSign" : PySem.Str), ("NoReading" : PySem.Str), ("Twice" : PySem.Str), ("Counts" : PySem.Str), ("Parts" : PySem.Str), ("Unknown" : PySem.Str), ("Clash" : PySem.Str), ("Endless" : PySem.Str), ("Broken" : PySem.Str), ("SMALL" : PySem.Str), ("GREAT" : PySem.Str), ("FIGURES" : PySem.Str), ("LONGEST" : PySem.Str), ("REMARK" : PySem.Str)]
def nm1 : List PySem.Str := [("SORTS" : PySem.Str), ("LONG_SIGNS" : PySem.Str), ("BLOCK_WORDS" : PySem.Str), ("NEVER_ITEMS" : PySem.Str), ("LAYING" : PySem.Str), ("lexemes" : PySem.Str), ("add_lexemes" : PySem.Str), ("mixed_lexemes" : PySem.Str), ("sort_of" : PySem.Str), ("lexeme_at" : PySem.Str), ("run_end" : PySem.Str), ("sign_end" : PySem.Str), ("laid" : PySem.Str), ("end_place" : PySem.Str), ("Layout" : PySem.Str), ("is_whole" : PySem.Str), ("MOST" : PySem.Str), ("ARROW" : PySem.Str), ("NUM" : PySem.Str), ("TRUTH" : PySem.Str)]
def nm2 : List PySem.Str := [("Clashing" : PySem.Str), ("Solver" : PySem.Str), ("pieces_text" : PySem.Str), ("letter_text" : PySem.Str), ("binds" : PySem.Str), ("all_patterns" : PySem.Str), ("all_kinds" : PySem.Str), ("steps" : PySem.Str), ("hidden" : PySem.Str), ("rule_steps" : PySem.Str), ("def_steps" : PySem.Str), ("call_steps" : PySem.Str), ("op_steps" : PySem.Str), ("fun_steps" : PySem.Str), ("let_steps" : PySem.Str), ("if_steps" : PySem.Str), ("case_steps" : PySem.Str), ("WITHIN" : PySem.Str), ("free_names" : PySem.Str), ("NUMBERS_demanding" : PySem.Str)]
def nm3 : List PySem.Str := [("LEAVES_demanding" : PySem.Str), ("maker_shapes" : PySem.Str), ("key_of" : PySem.Str), ("Demanding" : PySem.Str), ("equation_step" : PySem.Str), ("pattern_step" : PySem.Str), ("demand_step" : PySem.Str), ("same_step" : PySem.Str), ("unbind_step" : PySem.Str), ("num_step" : PySem.Str), ("name_step" : PySem.Str), ("maker_step" : PySem.Str), ("call_step" : PySem.Str), ("called_step" : PySem.Str), ("op_step" : PySem.Str), ("fun_step" : PySem.Str), ("fun_done_step" : PySem.Str), ("let_step" : PySem.Str), ("as_step" : PySem.Str), ("if_step" : PySem.Str)]
def nm4 : List PySem.Str := [("alike_step" : PySem.Str), ("case_step" : PySem.Str), ("choices_step" : PySem.Str), ("choice_step" : PySem.Str), ("STEPS_demanding" : PySem.Str), ("groups" : PySem.Str), ("grouped" : PySem.Str), ("in_order" : PySem.Str), ("DEEPEST_quick" : PySem.Str), ("NUMBERS_quick" : PySem.Str), ("Odd" : PySem.Str), ("quick_of" : PySem.Str), ("Makers" : PySem.Str), ("are_kinds" : PySem.Str), ("Quick" : PySem.Str), ("maker_kind" : PySem.Str), ("call_kind" : PySem.Str), ("op_kind" : PySem.Str), ("fun_kind" : PySem.Str), ("let_kind" : PySem.Str)]
def nm5 : List PySem.Str := [("if_kind" : PySem.Str), ("case_kind" : PySem.Str), ("KINDS" : PySem.Str), ("TIGHTNESS" : PySem.Str), ("nothing" : PySem.Str), ("keep_word" : PySem.Str), ("keep_placed_word" : PySem.Str), ("begin_placed" : PySem.Str), ("begin_placed_word" : PySem.Str), ("begin_line" : PySem.Str), ("begin_made" : PySem.Str), ("end_letters" : PySem.Str), ("keep_letter" : PySem.Str), ("keep_bare_kind" : PySem.Str), ("begin_kind" : PySem.Str), ("begin_kind_parts" : PySem.Str), ("keep_place" : PySem.Str), ("begin_equation" : PySem.Str), ("begin_choice" : PySem.Str), ("keep_any" : PySem.Str)]
def nm6 : List PySem.Str := [("keep_bind" : PySem.Str), ("keep_number" : PySem.Str), ("keep_bare_made" : PySem.Str), ("begin_pattern" : PySem.Str), ("begin_pattern_parts" : PySem.Str), ("choose_any" : PySem.Str), ("choose_bind" : PySem.Str), ("choose_number" : PySem.Str), ("choose_made" : PySem.Str), ("choose_bracket" : PySem.Str), ("begin_sides" : PySem.Str), ("begin_expr" : PySem.Str), ("begin_asking" : PySem.Str), ("first_atom" : PySem.Str), ("first_number" : PySem.Str), ("first_bracket" : PySem.Str), ("keep_atom" : PySem.Str), ("operand_atom" : PySem.Str), ("operand_number" : PySem.Str), ("operand_bracket" : PySem.Str)]
def nm7 : List PySem.Str := [("keep_sign" : PySem.Str), ("call_of" : PySem.Str), ("close_expr" : PySem.Str), ("close_data" : PySem.Str), ("close_made" : PySem.Str), ("close_kind" : PySem.Str), ("close_kind_parts" : PySem.Str), ("close_pattern" : PySem.Str), ("close_pattern_parts" : PySem.Str), ("close_equation" : PySem.Str), ("close_guarded_equation" : PySem.Str), ("close_choice" : PySem.Str), ("close_guarded_choice" : PySem.Str), ("close_fun" : PySem.Str), ("close_let" : PySem.Str), ("close_if" : PySem.Str), ("close_case" : PySem.Str), ("joined" : PySem.Str), ("ACTS" : PySem.Str), ("CLOSERS" : PySem.Str)]
def nm8 : List PySem.Str := [("STEPS_grammar" : PySem.Str), ("DEEPEST_quickreader" : PySem.Str), ("PLAIN_SORTS" : PySem.Str), ("ADDING" : PySem.Str), ("COMPARING" : PySem.Str), ("OddText" : PySem.Str), ("QuickReader" : PySem.Str), ("fun_expr" : PySem.Str), ("let_expr" : PySem.Str), ("if_expr" : PySem.Str), ("case_expr" : PySem.Str), ("choice" : PySem.Str), ("ATOMS" : PySem.Str), ("LEAVES_quickreader" : PySem.Str), ("EXPRS" : PySem.Str), ("tree_of_laid" : PySem.Str), ("tree_by_table" : PySem.Str), ("wanted" : PySem.Str), ("Reading" : PySem.Str), ("KINDS_AHEAD" : PySem.Str)]
def nm9 : List PySem.Str := [("MAKERS_AHEAD" : PySem.Str), ("look" : PySem.Str), ("first_of" : PySem.Str), ("repeated" : PySem.Str), ("twice_faults" : PySem.Str), ("count_faults" : PySem.Str), ("kind_counts" : PySem.Str), ("maker_counts" : PySem.Str), ("told_kinds" : PySem.Str), ("made_patterns" : PySem.Str), ("unknown_faults" : PySem.Str), ("parts_faults" : PySem.Str), ("judged" : PySem.Str), ("gone_through" : PySem.Str), ("refuse_fault" : PySem.Str), ("with_demands" : PySem.Str), ("Judging" : PySem.Str), ("kind_texts" : PySem.Str), ("Text" : PySem.Str), ("def_pieces" : PySem.Str)]
def nm10 : List PySem.Str := [("Group" : PySem.Str), ("used_makers" : PySem.Str), ("MOST_ROWS" : PySem.Str), ("LONGEST_ROW" : PySem.Str), ("NOTHING" : PySem.Str), ("KEPT" : PySem.Str), ("State" : PySem.Str), ("Workshop" : PySem.Str), ("refuse_place" : PySem.Str), ("refuse_row" : PySem.Str), ("_law_mixed" : PySem.Str), ("_law_purse" : PySem.Str), ("_law_take" : PySem.Str), ("_law_at" : PySem.Str), ("_law_row" : PySem.Str), ("_law_bad_row" : PySem.Str), ("_law_done" : PySem.Str), ("_law_is_place" : PySem.Str), ("_law_deed" : PySem.Str), ("_law_full_right" : PySem.Str)]
def names : List PySem.Str := nm0 ++ nm1 ++ nm2 ++ nm3 ++ nm4 ++ nm5 ++ nm6 ++ nm7 ++ nm8 ++ nm9 ++ nm10
end S8H
end

set_option Elab.async false
set_option linter.all false
set_option maxRecDepth 100000
set_option maxHeartbeats 0
noncomputable section
namespace S8H
open PySem PySem.W PySem.Calls PyProof.Rows HA HC HandSHeadRun
theorem c22 (w : World) : (fun os => bootF R.prog 12 body0 A22 env0 q0 q0 6000 w os) = fun os => some (S22 w os, cd0, p22) := by
  kernel_rfl
end S8H
end

set_option Elab.async false
set_option linter.all false
set_option maxRecDepth 100000
set_option maxHeartbeats 0
noncomputable section
namespace S8H
open PySem PySem.W PySem.Calls PyProof.Rows HA HC HandSHeadRun
theorem c27_false (w : World) : (fun os => segF (stepQ (denQ tabQ) R.prog (w.withFollow row0 false)) 11 (bootAnn (w.withFollow row0 false)) 6000 (S22 (w.withFollow row0 false) os) (piecesOf A27 env0 cd0 p22 [topFrame q0])) = fun os => some (S27 (w.withFollow row0 false) os, cd0, p27) := by
  kernel_rfl
theorem c27_true (w : World) : (fun os => segF (stepQ (denQ tabQ) R.prog (w.withFollow row0 true)) 11 (bootAnn (w.withFollow row0 true)) 6000 (S22 (w.withFollow row0 true) os) (piecesOf A27 env0 cd0 p22 [topFrame q0])) = fun os => some (S27 (w.withFollow row0 true) os, cd0, p27) := by
  kernel_rfl
theorem c27 : ∀ w : World, (fun os => segF (stepQ (denQ tabQ) R.prog w) 11 (bootAnn w) 6000 (S22 w os) (piecesOf A27 env0 cd0 p22 [topFrame q0])) = fun os => some (S27 w os, cd0, p27) :=
  byRow2 row0 (P := fun w => (fun os => segF (stepQ (denQ tabQ) R.prog w) 11 (bootAnn w) 6000 (S22 w os) (piecesOf A27 env0 cd0 p22 [topFrame q0])) = fun os => some (S27 w os, cd0, p27)) c27_false c27_true
end S8H
end

set_option Elab.async false
set_option linter.all false
set_option maxRecDepth 100000
set_option maxHeartbeats 0
noncomputable section
namespace S8H
open PySem PySem.W PySem.Calls PyProof.Rows HA HC HandSHeadRun
theorem c62 (w : World) : (fun os => segF (stepQ (denQ tabQ) R.prog w) 11 (bootAnn w) 6000 (S27 w os) (piecesOf A62 env0 cd0 p27 [topFrame q0])) = fun os => some (S62 w os, cd0, p62) := by
  kernel_rfl
end S8H
end

set_option Elab.async false
set_option linter.all false
set_option maxRecDepth 100000
set_option maxHeartbeats 0
noncomputable section
namespace S8H
open PySem PySem.W PySem.Calls PyProof.Rows HA HC HandSHeadRun
theorem c63_false (w : World) : (fun os => segF (stepQ (denQ tabQ) R.prog (w.withFollow row0 false)) 11 (bootAnn (w.withFollow row0 false)) 6000 (S62 (w.withFollow row0 false) os) (piecesOf A63 env0 cd0 p62 [topFrame q0])) = fun os => some (S63 (w.withFollow row0 false) os, cd0, p63) := by
  kernel_rfl
theorem c63_true (w : World) : (fun os => segF (stepQ (denQ tabQ) R.prog (w.withFollow row0 true)) 11 (bootAnn (w.withFollow row0 true)) 6000 (S62 (w.withFollow row0 true) os) (piecesOf A63 env0 cd0 p62 [topFrame q0])) = fun os => some (S63 (w.withFollow row0 true) os, cd0, p63) := by
  kernel_rfl
theorem c63 : ∀ w : World, (fun os => segF (stepQ (denQ tabQ) R.prog w) 11 (bootAnn w) 6000 (S62 w os) (piecesOf A63 env0 cd0 p62 [topFrame q0])) = fun os => some (S63 w os, cd0, p63) :=
  byRow2 row0 (P := fun w => (fun os => segF (stepQ (denQ tabQ) R.prog w) 11 (bootAnn w) 6000 (S62 w os) (piecesOf A63 env0 cd0 p62 [topFrame q0])) = fun os => some (S63 w os, cd0, p63)) c63_false c63_true
end S8H
end

set_option Elab.async false
set_option linter.all false
set_option maxRecDepth 100000
set_option maxHeartbeats 0
noncomputable section
namespace S8H
open PySem PySem.W PySem.Calls PyProof.Rows HA HC HandSHeadRun
theorem c90 (w : World) : (fun os => segF (stepQ (denQ tabQ) R.prog w) 11 (bootAnn w) 6000 (S63 w os) (piecesOf A90 env0 cd0 p63 [topFrame q0])) = fun os => some (S90 w os, cd0, p90) := by
  kernel_rfl
end S8H
end

set_option Elab.async false
set_option linter.all false
set_option maxRecDepth 100000
set_option maxHeartbeats 0
noncomputable section
namespace S8H
open PySem PySem.W PySem.Calls PyProof.Rows HA HC HandSHeadRun
theorem c91_false (w : World) : (fun os => segF (stepQ (denQ tabQ) R.prog (w.withFollow row0 false)) 11 (bootAnn (w.withFollow row0 false)) 6000 (S90 (w.withFollow row0 false) os) (piecesOf A91 env0 cd0 p90 [topFrame q0])) = fun os => some (S91 (w.withFollow row0 false) os, cd0, p91) := by
  kernel_rfl
theorem c91_true (w : World) : (fun os => segF (stepQ (denQ tabQ) R.prog (w.withFollow row0 true)) 11 (bootAnn (w.withFollow row0 true)) 6000 (S90 (w.withFollow row0 true) os) (piecesOf A91 env0 cd0 p90 [topFrame q0])) = fun os => some (S91 (w.withFollow row0 true) os, cd0, p91) := by
  kernel_rfl
theorem c91 : ∀ w : World, (fun os => segF (stepQ (denQ tabQ) R.prog w) 11 (bootAnn w) 6000 (S90 w os) (piecesOf A91 env0 cd0 p90 [topFrame q0])) = fun os => some (S91 w os, cd0, p91) :=
  byRow2 row0 (P := fun w => (fun os => segF (stepQ (denQ tabQ) R.prog w) 11 (bootAnn w) 6000 (S90 w os) (piecesOf A91 env0 cd0 p90 [topFrame q0])) = fun os => some (S91 w os, cd0, p91)) c91_false c91_true
end S8H
end

set_option Elab.async false
set_option linter.all false
set_option maxRecDepth 100000
set_option maxHeartbeats 0
noncomputable section
namespace S8H
open PySem PySem.W PySem.Calls PyProof.Rows HA HC HandSHeadRun
theorem c110 (w : World) : (fun os => segF (stepQ (denQ tabQ) R.prog w) 11 (bootAnn w) 6000 (S91 w os) (piecesOf A110 env0 cd0 p91 [topFrame q0])) = fun os => some (S110 w os, cd0, p110) := by
  kernel_rfl
end S8H
end

set_option Elab.async false
set_option linter.all false
set_option maxRecDepth 100000
set_option maxHeartbeats 0
noncomputable section
namespace S8H
open PySem PySem.W PySem.Calls PyProof.Rows HA HC HandSHeadRun
theorem c113_false (w : World) : (fun os => segF (stepQ (denQ tabQ) R.prog (w.withFollow row0 false)) 11 (bootAnn (w.withFollow row0 false)) 6000 (S110 (w.withFollow row0 false) os) (piecesOf A113 env0 cd0 p110 [topFrame q0])) = fun os => some (S113 (w.withFollow row0 false) os, cd0, p113) := by
  kernel_rfl
theorem c113_true (w : World) : (fun os => segF (stepQ (denQ tabQ) R.prog (w.withFollow row0 true)) 11 (bootAnn (w.withFollow row0 true)) 6000 (S110 (w.withFollow row0 true) os) (piecesOf A113 env0 cd0 p110 [topFrame q0])) = fun os => some (S113 (w.withFollow row0 true) os, cd0, p113) := by
  kernel_rfl
theorem c113 : ∀ w : World, (fun os => segF (stepQ (denQ tabQ) R.prog w) 11 (bootAnn w) 6000 (S110 w os) (piecesOf A113 env0 cd0 p110 [topFrame q0])) = fun os => some (S113 w os, cd0, p113) :=
  byRow2 row0 (P := fun w => (fun os => segF (stepQ (denQ tabQ) R.prog w) 11 (bootAnn w) 6000 (S110 w os) (piecesOf A113 env0 cd0 p110 [topFrame q0])) = fun os => some (S113 w os, cd0, p113)) c113_false c113_true
end S8H
end

set_option Elab.async false
set_option linter.all false
set_option maxRecDepth 100000
set_option maxHeartbeats 0
noncomputable section
namespace S8H
open PySem PySem.W PySem.Calls PyProof.Rows HA HC HandSHeadRun
theorem c140 (w : World) : (fun os => segF (stepQ (denQ tabQ) R.prog w) 11 (bootAnn w) 6000 (S113 w os) (piecesOf A140 env0 cd0 p113 [topFrame q0])) = fun os => some (S140 w os, cd0, p140) := by
  kernel_rfl
end S8H
end

set_option Elab.async false
set_option linter.all false
set_option maxRecDepth 100000
set_option maxHeartbeats 0
noncomputable section
namespace S8H
open PySem PySem.W PySem.Calls PyProof.Rows HA HC HandSHeadRun
theorem c167 (w : World) : (fun os => segF (stepQ (denQ tabQ) R.prog w) 11 (bootAnn w) 6000 (S140 w os) (piecesOf A167 env0 cd0 p140 [topFrame q0])) = fun os => some (S167 w os, cd0, p167) := by
  kernel_rfl
end S8H
end

set_option Elab.async false
set_option linter.all false
set_option maxRecDepth 100000
set_option maxHeartbeats 0
noncomputable section
namespace S8H
open PySem PySem.W PySem.Calls PyProof.Rows HA HC HandSHeadRun
theorem c169_false (w : World) : (fun os => segF (stepQ (denQ tabQ) R.prog (w.withFollow row0 false)) 11 (bootAnn (w.withFollow row0 false)) 6000 (S167 (w.withFollow row0 false) os) (piecesOf A169 env0 cd0 p167 [topFrame q0])) = fun os => some (S169 (w.withFollow row0 false) os, cd0, p169) := by
  kernel_rfl
theorem c169_true (w : World) : (fun os => segF (stepQ (denQ tabQ) R.prog (w.withFollow row0 true)) 11 (bootAnn (w.withFollow row0 true)) 6000 (S167 (w.withFollow row0 true) os) (piecesOf A169 env0 cd0 p167 [topFrame q0])) = fun os => some (S169 (w.withFollow row0 true) os, cd0, p169) := by
  kernel_rfl
theorem c169 : ∀ w : World, (fun os => segF (stepQ (denQ tabQ) R.prog w) 11 (bootAnn w) 6000 (S167 w os) (piecesOf A169 env0 cd0 p167 [topFrame q0])) = fun os => some (S169 w os, cd0, p169) :=
  byRow2 row0 (P := fun w => (fun os => segF (stepQ (denQ tabQ) R.prog w) 11 (bootAnn w) 6000 (S167 w os) (piecesOf A169 env0 cd0 p167 [topFrame q0])) = fun os => some (S169 w os, cd0, p169)) c169_false c169_true
end S8H
end

set_option Elab.async false
set_option linter.all false
set_option maxRecDepth 100000
set_option maxHeartbeats 0
noncomputable section
namespace S8H
open PySem PySem.W PySem.Calls PyProof.Rows HA HC HandSHeadRun
theorem c173_false (w : World) : (fun os pos => segF (stepQ (denQ tabQ) R.prog (w.withFollow row0 false)) 11 (bootAnn (w.withFollow row0 false)) 6000 (behT R.prog (w.withFollow row0 false) "STEPS_grammar" es0 (S169 (w.withFollow row0 false) os)) (piecesOf A173 env0 cd0 pos [topFrame q0])) = fun os _ => some (S173 (w.withFollow row0 false) os, cd0, p173) := by
  kernel_rfl
theorem c173_true (w : World) : (fun os pos => segF (stepQ (denQ tabQ) R.prog (w.withFollow row0 true)) 11 (bootAnn (w.withFollow row0 true)) 6000 (behT R.prog (w.withFollow row0 true) "STEPS_grammar" es0 (S169 (w.withFollow row0 true) os)) (piecesOf A173 env0 cd0 pos [topFrame q0])) = fun os _ => some (S173 (w.withFollow row0 true) os, cd0, p173) := by
  kernel_rfl
theorem c173 : ∀ w : World, (fun os pos => segF (stepQ (denQ tabQ) R.prog w) 11 (bootAnn w) 6000 (behT R.prog w "STEPS_grammar" es0 (S169 w os)) (piecesOf A173 env0 cd0 pos [topFrame q0])) = fun os _ => some (S173 w os, cd0, p173) :=
  byRow2 row0 (P := fun w => (fun os pos => segF (stepQ (denQ tabQ) R.prog w) 11 (bootAnn w) 6000 (behT R.prog w "STEPS_grammar" es0 (S169 w os)) (piecesOf A173 env0 cd0 pos [topFrame q0])) = fun os _ => some (S173 w os, cd0, p173)) c173_false c173_true
end S8H
end

set_option Elab.async false
set_option linter.all false
set_option maxRecDepth 100000
set_option maxHeartbeats 0
noncomputable section
namespace S8H
open PySem PySem.W PySem.Calls PyProof.Rows HA HC HandSHeadRun
theorem c182 (w : World) : (fun os => segF (stepQ (denQ tabQ) R.prog w) 11 (bootAnn w) 6000 (S173 w os) (piecesOf A182 env0 cd0 p173 [topFrame q0])) = fun os => some (S182 w os, cd0, p182) := by
  kernel_rfl
end S8H
end

set_option Elab.async false
set_option linter.all false
set_option maxRecDepth 100000
set_option maxHeartbeats 0
noncomputable section
namespace S8H
open PySem PySem.W PySem.Calls PyProof.Rows HA HC HandSHeadRun
theorem c185_false (w : World) : (fun os => segF (stepQ (denQ tabQ) R.prog (w.withFollow row0 false)) 11 (bootAnn (w.withFollow row0 false)) 6000 (S182 (w.withFollow row0 false) os) (piecesOf A185 env0 cd0 p182 [topFrame q0])) = fun os => some (S185 (w.withFollow row0 false) os, cd0, p185) := by
  kernel_rfl
theorem c185_true (w : World) : (fun os => segF (stepQ (denQ tabQ) R.prog (w.withFollow row0 true)) 11 (bootAnn (w.withFollow row0 true)) 6000 (S182 (w.withFollow row0 true) os) (piecesOf A185 env0 cd0 p182 [topFrame q0])) = fun os => some (S185 (w.withFollow row0 true) os, cd0, p185) := by
  kernel_rfl
theorem c185 : ∀ w : World, (fun os => segF (stepQ (denQ tabQ) R.prog w) 11 (bootAnn w) 6000 (S182 w os) (piecesOf A185 env0 cd0 p182 [topFrame q0])) = fun os => some (S185 w os, cd0, p185) :=
  byRow2 row0 (P := fun w => (fun os => segF (stepQ (denQ tabQ) R.prog w) 11 (bootAnn w) 6000 (S182 w os) (piecesOf A185 env0 cd0 p182 [topFrame q0])) = fun os => some (S185 w os, cd0, p185)) c185_false c185_true
end S8H
end

set_option Elab.async false
set_option linter.all false
set_option maxRecDepth 100000
set_option maxHeartbeats 0
noncomputable section
namespace S8H
open PySem PySem.W PySem.Calls PyProof.Rows HA HC HandSHeadRun
theorem c210 (w : World) : (fun os => segF (stepQ (denQ tabQ) R.prog w) 11 (bootAnn w) 6000 (S185 w os) (piecesOf A210 env0 cd0 p185 [topFrame q0])) = fun os => some (S210 w os, cd0, p210) := by
  kernel_rfl
end S8H
end

set_option Elab.async false
set_option linter.all false
set_option maxRecDepth 100000
set_option maxHeartbeats 0
noncomputable section
namespace S8H
open PySem PySem.W PySem.Calls PyProof.Rows HA HC HandSHeadRun
theorem c238 (w : World) : (fun os => goF (stepQ (denQ tabQ) R.prog w) 11 (bootAnn w) 6000 (S210 w os) (restOf A238 env0 cd0 p210 [topFrame q0])) = fun os => some (S238 w os) := by
  kernel_rfl
end S8H
end

set_option Elab.async false
set_option linter.all false
set_option maxRecDepth 100000
set_option maxHeartbeats 0
noncomputable section
namespace S8H
open PySem PySem.W PySem.Calls PyProof.Rows HA HC HandSHeadRun
theorem look1 (w : World) : (fun os => looksF R.prog (boot_heap w.params) (S238 w os).abs) = fun _ => true := by
  kernel_rfl
theorem look2 (w : World) : (fun os => seenQ qv names (importedModules R.prog.main.body) (fun s => xlAt qv [] s && recOk R.toRowW.records s) (S238 w os).abs) = fun _ => openGood qv names := by
  kernel_rfl
end S8H
end

set_option Elab.async false
set_option linter.all false
set_option maxRecDepth 100000
set_option maxHeartbeats 0
noncomputable section
namespace S8H
open PySem PySem.W PySem.Calls PyProof.Rows HA HC HandSHeadRun
theorem stub0 : ∀ w os, stubF R.prog 12 w os = some ⟨denQ tabQ (.body body0 env0), .body body0 env0, q0, [topFrame q0]⟩ := fun w os => by kernel_rfl
theorem asks0 (w : World) : (fun os => asksD R.prog w 11 "STEPS_grammar" es0 (S169 w os)) = fun _ => true := by
  kernel_rfl
theorem ents0 : ents? (keysS (tp 169)) (valsS (tp 169)) = some es0 := by kernel_rfl
theorem nod0 : (ks es0).Nodup := by decide +kernel
theorem len0 : es0.length ≤ 1000 := by decide +kernel
theorem ne0 : es0 ≠ [] := fun h => absurd (congrArg List.length h) (by decide +kernel)
theorem kind0 : env0.kindOf "STEPS_grammar" = some .local := by kernel_rfl
theorem plain0 : (env0.scope.kind == .class || (env0.scope.kind == .module && env0.locals != env0.globals)) = false := by kernel_rfl
theorem units0 : Nat.blt (Ctx.of cd0 [topFrame q0]).units cLine = true := by kernel_rfl
theorem size0 (w : World) : (boot_heap w.params).objs.size = 11 := by kernel_rfl
theorem stmt0 : tp 169 = .Assign [.Name "STEPS_grammar" ⟨1184, 0, 1184, 13⟩] (.Dict (keysS (tp 169)) (valsS (tp 169)) ⟨1184, 16, 1184, 5161⟩) ⟨1184, 0, 1184, 5161⟩ := by kernel_rfl
theorem open0 : opening R.prog = plainProg R.prog.main.scope.names := by kernel_rfl
theorem fence0 : ∀ s, fenceModules? R.prog s = some s := fun s => by kernel_rfl
theorem chains0 : chainsOk qv = true := by decide +kernel
theorem opens0 : opensWell R.prog = true := by decide +kernel
theorem frees0 : frees R.toRowW = true := by decide +kernel
theorem within0 : R.within.isEmpty = true := by decide +kernel
theorem writes0 : (!R.writes || R.records.isEmpty) = true := by rfl
theorem def0 : defOf qv R.name = some (HandSHeadRun.topDef R.prog 237, []) := by kernel_rfl
theorem def1 : R.prog.theDef R.name = some ((HandSHeadRun.topDef R.prog 237).params, (HandSHeadRun.topDef R.prog 237).body, (HandSHeadRun.topDef R.prog 237).scope) := by kernel_rfl
theorem def2 : kwWritten? (HandSHeadRun.topDef R.prog 237).params.kwonlyargs (HandSHeadRun.topDef R.prog 237).params.kw_defaults = some [] := by kernel_rfl
theorem cut1 : body0 = A22 ++ (A27 ++ (A62 ++ (A63 ++ (A90 ++ (A91 ++ (A110 ++ (A113 ++ (A140 ++ (A167 ++ (A169 ++ (tp 169 :: (A173 ++ (A182 ++ (A185 ++ (A210 ++ (A238)))))))))))))))) := by kernel_rfl
end S8H
end

set_option Elab.async false
set_option linter.all false
set_option maxRecDepth 100000
set_option maxHeartbeats 0
noncomputable section
namespace S8H
open PySem PySem.W PySem.Calls PyProof.Rows HA HC HandSHeadRun P01 G01 S8
def fa0 : List He.Fa := [.glo "is_whole",
  .glo "refuse_place",
  .glo "refuse_row",
  .glo "_law_mixed",
  .glo "_law_purse",
  .glo "_law_take",
  .glo "_law_at",
  .glo "_law_row",
  .glo "_law_bad_row",
  .glo "_law_done",
  .glo "_law_is_place",
  .glo "_law_deed",
  .glo "_law_full_right",
  .glo "law",
  .glo "State",
  .cls "State",
  .mkr "State",
  .noat "State" "lines",
  .noat "State" "sums",
  .noat "State" "ahead",
  .noat "State" "looked",
  .noat "State" "wholeness",
  .noat "State" "is_led",
  .noat "State" "last",
  .glo "Workshop",
  .cls "Workshop",
  .mkr "Workshop",
  .noat "Workshop" "state",
  .meth "State" "__init__",
  .meth "State" "fade",
  .meth "Workshop" "__init__",
  .meth "Workshop" "begin",
  .meth "Workshop" "put",
  .meth "Workshop" "cut",
  .meth "Workshop" "change",
  .meth "Workshop" "back",
  .meth "Workshop" "rows",
  .int "KEPT" 8,
  .int "MOST_ROWS" 120,
  .int "LONGEST_ROW" 100,
  .glo "NOTHING",
  .free "isinstance",
  .free "int",
  .free "str",
  .free "len",
  .free "list",
  .free "range",
  .free "bool",
  .free "max",
  .free "min",
  .glo "SlumberError",
  .glo "NoPlace",
  .exc "NoPlace",
  .exm "NoPlace" "SlumberError" true,
  .noat "NoPlace" "__getattr__",
  .glo "BadRow",
  .exc "BadRow",
  .exm "BadRow" "SlumberError" true,
  .noat "BadRow" "__getattr__",
  .glo "TooMany",
  .exc "TooMany",
  .exm "TooMany" "SlumberError" true,
  .noat "TooMany" "__getattr__",
  .glo "NoBack",
  .exc "NoBack",
  .exm "NoBack" "SlumberError" true,
  .noat "NoBack" "__getattr__"]
def fn0 : List He.DefD := [⟨("is_whole", none), "is_whole", "is_whole", L2.defArgs sWhole, L2.defBody sWhole, L2.defScope sWhole, [], []⟩,
  ⟨("refuse_place", none), "refuse_place", "refuse_place", L2.defArgs sPlace, L2.defBody sPlace, L2.defScope sPlace, [], []⟩,
  ⟨("refuse_row", none), "refuse_row", "refuse_row", L2.defArgs sRefRow, L2.defBody sRefRow, L2.defScope sRefRow, [], []⟩,
  ⟨("_law_mixed", none), "_law_mixed", "_law_mixed", L2.defArgs sMixed, L2.defBody sMixed, L2.defScope sMixed, [], []⟩,
  ⟨("_law_purse", none), "_law_purse", "_law_purse", L2.defArgs sPurse, L2.defBody sPurse, L2.defScope sPurse, [], []⟩,
  ⟨("_law_take", none), "_law_take", "_law_take", L2.defArgs sTake, L2.defBody sTake, L2.defScope sTake, [], []⟩,
  ⟨("_law_at", none), "_law_at", "_law_at", L2.defArgs sAt, L2.defBody sAt, L2.defScope sAt, [], []⟩,
  ⟨("_law_row", none), "_law_row", "_law_row", L2.defArgs sLrow, L2.defBody sLrow, L2.defScope sLrow, [], []⟩,
  ⟨("_law_bad_row", none), "_law_bad_row", "_law_bad_row", L2.defArgs sLbad, L2.defBody sLbad, L2.defScope sLbad, [], []⟩,
  ⟨("_law_done", none), "_law_done", "_law_done", L2.defArgs sDone, L2.defBody sDone, L2.defScope sDone, [], []⟩,
  ⟨("_law_is_place", none), "_law_is_place", "_law_is_place", L2.defArgs sIsp, L2.defBody sIsp, L2.defScope sIsp, [], []⟩,
  ⟨("_law_deed", none), "_law_deed", "_law_deed", L2.defArgs sDeed, L2.defBody sDeed, L2.defScope sDeed, [], []⟩,
  ⟨("_law_full_right", none), "_law_full_right", "_law_full_right", L2.defArgs sFull, L2.defBody sFull, L2.defScope sFull, [], []⟩,
  ⟨("law", none), "law", "law", L2.defArgs sLaw, L2.defBody sLaw, L2.defScope sLaw, [], []⟩,
  ⟨("State", some "__init__"), "__init__", "State.__init__", L2.defArgs mSInit, L2.defBody mSInit, L2.defScope mSInit, [], []⟩,
  ⟨("State", some "fade"), "fade", "State.fade", L2.defArgs mFade, L2.defBody mFade, L2.defScope mFade, [], []⟩,
  ⟨("Workshop", some "__init__"), "__init__", "Workshop.__init__", L2.defArgs mWInit, L2.defBody mWInit, L2.defScope mWInit, [], []⟩,
  ⟨("Workshop", some "begin"), "begin", "Workshop.begin", L2.defArgs mBegin, L2.defBody mBegin, L2.defScope mBegin, [], []⟩,
  ⟨("Workshop", some "put"), "put", "Workshop.put", L2.defArgs mPut, L2.defBody mPut, L2.defScope mPut, [], []⟩,
  ⟨("Workshop", some "cut"), "cut", "Workshop.cut", L2.defArgs mCut, L2.defBody mCut, L2.defScope mCut, [], []⟩,
  ⟨("Workshop", some "change"), "change", "Workshop.change", L2.defArgs mChange, L2.defBody mChange, L2.defScope mChange, [], []⟩,
  ⟨("Workshop", some "back"), "back", "Workshop.back", L2.defArgs mBack, L2.defBody mBack, L2.defScope mBack, [], []⟩,
  ⟨("Workshop", some "rows"), "rows", "Workshop.rows", L2.defArgs mRows, L2.defBody mRows, L2.defScope mRows, [], []⟩]
def exs : List (PySem.W.Frag → Bool) := [fun K => He.eqO (PySem.W.findIn K (.ref (He.ga K "NoPlace")) "__getattribute__") (some (some (.builtin "BaseException.__getattribute__"))),
  fun K => PySem.W.hasDictIn K (He.ga K "NoPlace"),
  fun K => He.eqO (PySem.W.findIn K (.ref (He.ga K "NoPlace")) "__class__") (some (some (.builtin "object.__class__"))),
  fun K => decide (PySem.W.mroIn K (He.ga K "NoPlace") (.type "object") = some true),
  fun K => He.eqO (PySem.W.findIn K (.ref (He.ga K "BadRow")) "__getattribute__") (some (some (.builtin "BaseException.__getattribute__"))),
  fun K => PySem.W.hasDictIn K (He.ga K "BadRow"),
  fun K => He.eqO (PySem.W.findIn K (.ref (He.ga K "BadRow")) "__class__") (some (some (.builtin "object.__class__"))),
  fun K => decide (PySem.W.mroIn K (He.ga K "BadRow") (.type "object") = some true),
  fun K => He.eqO (PySem.W.findIn K (.ref (He.ga K "TooMany")) "__getattribute__") (some (some (.builtin "BaseException.__getattribute__"))),
  fun K => PySem.W.hasDictIn K (He.ga K "TooMany"),
  fun K => He.eqO (PySem.W.findIn K (.ref (He.ga K "TooMany")) "__class__") (some (some (.builtin "object.__class__"))),
  fun K => decide (PySem.W.mroIn K (He.ga K "TooMany") (.type "object") = some true),
  fun K => He.eqO (PySem.W.findIn K (.ref (He.ga K "NoBack")) "__getattribute__") (some (some (.builtin "BaseException.__getattribute__"))),
  fun K => PySem.W.hasDictIn K (He.ga K "NoBack"),
  fun K => He.eqO (PySem.W.findIn K (.ref (He.ga K "NoBack")) "__class__") (some (some (.builtin "object.__class__"))),
  fun K => decide (PySem.W.mroIn K (He.ga K "NoBack") (.type "object") = some true),
  fun K => decide (PySem.W.kitOne K (.ref (He.ga K "NoPlace")) (.ref (He.ga K "NoPlace")) = some true),
  fun K => decide (PySem.W.kitOne K (.ref (He.ga K "NoPlace")) (.ref (He.ga K "BadRow")) = some false),
  fun K => decide (PySem.W.kitOne K (.ref (He.ga K "NoPlace")) (.ref (He.ga K "NoBack")) = some false),
  fun K => decide (PySem.W.kitOne K (.ref (He.ga K "NoPlace")) (.ref (He.ga K "TooMany")) = some false),
  fun K => decide (PySem.W.kitOne K (.ref (He.ga K "BadRow")) (.ref (He.ga K "NoPlace")) = some false),
  fun K => decide (PySem.W.kitOne K (.ref (He.ga K "BadRow")) (.ref (He.ga K "BadRow")) = some true),
  fun K => decide (PySem.W.kitOne K (.ref (He.ga K "BadRow")) (.ref (He.ga K "NoBack")) = some false),
  fun K => decide (PySem.W.kitOne K (.ref (He.ga K "BadRow")) (.ref (He.ga K "TooMany")) = some false),
  fun K => decide (PySem.W.kitOne K (.ref (He.ga K "NoBack")) (.ref (He.ga K "NoPlace")) = some false),
  fun K => decide (PySem.W.kitOne K (.ref (He.ga K "NoBack")) (.ref (He.ga K "BadRow")) = some false),
  fun K => decide (PySem.W.kitOne K (.ref (He.ga K "NoBack")) (.ref (He.ga K "NoBack")) = some true),
  fun K => decide (PySem.W.kitOne K (.ref (He.ga K "NoBack")) (.ref (He.ga K "TooMany")) = some false),
  fun K => decide (PySem.W.kitOne K (.ref (He.ga K "TooMany")) (.ref (He.ga K "NoPlace")) = some false),
  fun K => decide (PySem.W.kitOne K (.ref (He.ga K "TooMany")) (.ref (He.ga K "BadRow")) = some false),
  fun K => decide (PySem.W.kitOne K (.ref (He.ga K "TooMany")) (.ref (He.ga K "NoBack")) = some false),
  fun K => decide (PySem.W.kitOne K (.ref (He.ga K "TooMany")) (.ref (He.ga K "TooMany")) = some true),
  fun K => He.eqO (PySem.W.specialIn K (.builtin "object.__class__") "__get__") (some (some (.builtin "getset_descriptor.__get__"))),
  fun K => decide (PySem.W.takesIn K (.builtin "object.__class__") = some true)]
def ex0 (K : PySem.W.Frag) : Bool := exs.all fun f => f K
def as0 : List Addr := [3, 31, 44, 56, 68, 80, 411, 2289, 2334, 2454, 2465, 2472, 2479, 2486, 2493, 2500, 2507, 2514, 2521, 2528, 2535, 2540, 2547, 30, 43, 55, 67, 79, 410, 2333, 2453, 2464, 2471, 2478, 2485, 2492, 2499, 2506, 2513, 2520, 2527, 2534, 2539, 2546, 29, 32, 42, 54, 66, 78, 405, 406, 407, 408, 409, 2303, 2310, 2317, 2324, 2331, 2332, 2335, 2336, 2352, 2359, 2366, 2373, 2380, 2387, 2394, 2401, 2408, 2415, 2422, 2429, 2437, 2444, 2451, 2452, 2455, 2456, 2459, 2460, 2461, 2462, 2463, 2466, 2467, 2468, 2469, 2470, 2473, 2474, 2475, 2476, 2477, 2480, 2481, 2482, 2483, 2484, 2487, 2488, 2489, 2490, 2491, 2494, 2495, 2496, 2497, 2498, 2501, 2502, 2503, 2504, 2505, 2508, 2509, 2510, 2511, 2512, 2515, 2516, 2517, 2518, 2519, 2522, 2523, 2524, 2525, 2526, 2529, 2530, 2531, 2532, 2533, 2536, 2537, 2538, 2541, 2542, 2543, 2544, 2545, 2302, 2309, 2316, 2323, 2330, 2351, 2358, 2365, 2372, 2379, 2386, 2393, 2400, 2407, 2414, 2421, 2428, 2436, 2430, 2443, 2450, 2297, 2298, 2299, 2300, 2301, 2304, 2305, 2306, 2307, 2308, 2311, 2312, 2313, 2314, 2315, 2318, 2319, 2320, 2321, 2322, 2325, 2326, 2327, 2328, 2329, 2346, 2347, 2348, 2349, 2350, 2353, 2354, 2355, 2356, 2357, 2360, 2361, 2362, 2363, 2364, 2367, 2368, 2369, 2370, 2371, 2374, 2375, 2376, 2377, 2378, 2381, 2382, 2383, 2384, 2385, 2388, 2389, 2390, 2391, 2392, 2395, 2396, 2397, 2398, 2399, 2402, 2403, 2404, 2405, 2406, 2409, 2410, 2411, 2412, 2413, 2416, 2417, 2418, 2419, 2420, 2423, 2424, 2425, 2426, 2427, 2431, 2432, 2433, 2434, 2435, 2438, 2439, 2440, 2441, 2442, 2445, 2446, 2447, 2448, 2449]
theorem look3 (w : World) : (fun os => lookK as0 fa0 fn0 ex0 (getT (S238 w os))) = fun _ => (He.valD fn0, true) := by
  kernel_rfl
end S8H
end

set_option Elab.async false
set_option linter.all false
set_option maxRecDepth 100000
/-! the end -/
namespace S8H
open PySem PySem.Spec PyProof.Rows L2 Hx Xr P01 G01 W8 Ex S8
theorem ex_at {K : PySem.W.Frag} (h : ex0 K = true) (i : Nat) {f : PySem.W.Frag → Bool} (e : exs[i]? = some f) : f K = true := List.all_eq_true.mp h f (List.mem_of_getElem? e)
set_option maxHeartbeats 4000000 in
theorem facts {l : PySem.W.OpenLaw} {w : World} {K : PySem.W.Frag} {h : Heap} {mg : Str → Option Value} {fa : Addr} (X : K.In h) (G : h.Ns mainGlobals mg) (hfa : mg "law" = some (.ref fa)) (c : HA.Tells fa0 fn0 ex0 K)
    : ∃ fd : FuncData, (∀ (s : Shared) (v : Value), BindsTo s fd ⟨[v], []⟩ [("_law_script", v)]) ∧ ∀ base : Heap, K.In base → base.Ns mainGlobals mg → FnOk l.prog w K mg base CX0 7 fa fd ["_law_script"] (spLaw K) := by
  have e := hfa.symm.trans (He.glo_ok X G (c.d.fact 13 rfl))
  cases e
  obtain ⟨fd1, D1⟩ := c.d.def_ 0 (d := ⟨("is_whole", none), "is_whole", "is_whole", defArgs sWhole, defBody sWhole, defScope sWhole, [], []⟩) rfl
  have F1 : Fun K "is_whole" "is_whole" sWhole (He.ga K "is_whole") fd1 := HA.fun_of D1
  have k1 := F1.kp
  have b1 := F1.binds (ps := ["thing"]) fun _ _ _ _ _ _ us hl => match us, hl with | [_], _ => rfl
  have g1 := He.glo_ok X G (c.d.fact 0 rfl)
  obtain ⟨fd2, D2⟩ := c.d.def_ 1 (d := ⟨("refuse_place", none), "refuse_place", "refuse_place", defArgs sPlace, defBody sPlace, defScope sPlace, [], []⟩) rfl
  have F2 : Fun K "refuse_place" "refuse_place" sPlace (He.ga K "refuse_place") fd2 := HA.fun_of D2
  have k2 := F2.kp
  have b2 := F2.binds (ps := ["at", "most"]) fun _ _ _ _ _ _ us hl => match us, hl with | [_, _], _ => rfl
  have g2 := He.glo_ok X G (c.d.fact 1 rfl)
  obtain ⟨fd3, D3⟩ := c.d.def_ 2 (d := ⟨("refuse_row", none), "refuse_row", "refuse_row", defArgs sRefRow, defBody sRefRow, defScope sRefRow, [], []⟩) rfl
  have F3 : Fun K "refuse_row" "refuse_row" sRefRow (He.ga K "refuse_row") fd3 := HA.fun_of D3
  have k3 := F3.kp
  have b3 := F3.binds (ps := ["row"]) fun _ _ _ _ _ _ us hl => match us, hl with | [_], _ => rfl
  have g3 := He.glo_ok X G (c.d.fact 2 rfl)
  obtain ⟨fd4, D4⟩ := c.d.def_ 3 (d := ⟨("_law_mixed", none), "_law_mixed", "_law_mixed", defArgs sMixed, defBody sMixed, defScope sMixed, [], []⟩) rfl
  have F4 : Fun K "_law_mixed" "_law_mixed" sMixed (He.ga K "_law_mixed") fd4 := HA.fun_of D4
  have k4 := F4.kp
  have b4 := F4.binds (ps := ["_law_cell", "_law_k"]) fun _ _ _ _ _ _ us hl => match us, hl with | [_, _], _ => rfl
  have g4 := He.glo_ok X G (c.d.fact 3 rfl)
  obtain ⟨fd5, D5⟩ := c.d.def_ 4 (d := ⟨("_law_purse", none), "_law_purse", "_law_purse", defArgs sPurse, defBody sPurse, defScope sPurse, [], []⟩) rfl
  have F5 : Fun K "_law_purse" "_law_purse" sPurse (He.ga K "_law_purse") fd5 := HA.fun_of D5
  have k5 := F5.kp
  have b5 := F5.binds (ps := ["_law_cell", "_law_k"]) fun _ _ _ _ _ _ us hl => match us, hl with | [_, _], _ => rfl
  have g5 := He.glo_ok X G (c.d.fact 4 rfl)
  obtain ⟨fd6, D6⟩ := c.d.def_ 5 (d := ⟨("_law_take", none), "_law_take", "_law_take", defArgs sTake, defBody sTake, defScope sTake, [], []⟩) rfl
  have F6 : Fun K "_law_take" "_law_take" sTake (He.ga K "_law_take") fd6 := HA.fun_of D6
  have k6 := F6.kp
  have b6 := F6.binds (ps := ["_law_purse_here", "_law_many"]) fun _ _ _ _ _ _ us hl => match us, hl with | [_, _], _ => rfl
  have g6 := He.glo_ok X G (c.d.fact 5 rfl)
  obtain ⟨fd7, D7⟩ := c.d.def_ 6 (d := ⟨("_law_at", none), "_law_at", "_law_at", defArgs sAt, defBody sAt, defScope sAt, [], []⟩) rfl
  have F7 : Fun K "_law_at" "_law_at" sAt (He.ga K "_law_at") fd7 := HA.fun_of D7
  have k7 := F7.kp
  have b7 := F7.binds (ps := ["_law_script", "_law_k"]) fun _ _ _ _ _ _ us hl => match us, hl with | [_, _], _ => rfl
  have g7 := He.glo_ok X G (c.d.fact 6 rfl)
  obtain ⟨fd8, D8⟩ := c.d.def_ 7 (d := ⟨("_law_row", none), "_law_row", "_law_row", defArgs sLrow, defBody sLrow, defScope sLrow, [], []⟩) rfl
  have F8 : Fun K "_law_row" "_law_row" sLrow (He.ga K "_law_row") fd8 := HA.fun_of D8
  have k8 := F8.kp
  have b8 := F8.binds (ps := ["_law_purse_here"]) fun _ _ _ _ _ _ us hl => match us, hl with | [_], _ => rfl
  have g8 := He.glo_ok X G (c.d.fact 7 rfl)
  obtain ⟨fd9, D9⟩ := c.d.def_ 8 (d := ⟨("_law_bad_row", none), "_law_bad_row", "_law_bad_row", defArgs sLbad, defBody sLbad, defScope sLbad, [], []⟩) rfl
  have F9 : Fun K "_law_bad_row" "_law_bad_row" sLbad (He.ga K "_law_bad_row") fd9 := HA.fun_of D9
  have k9 := F9.kp
  have b9 := F9.binds (ps := ["_law_purse_here"]) fun _ _ _ _ _ _ us hl => match us, hl with | [_], _ => rfl
  have g9 := He.glo_ok X G (c.d.fact 8 rfl)
  obtain ⟨fd10, D10⟩ := c.d.def_ 9 (d := ⟨("_law_done", none), "_law_done", "_law_done", defArgs sDone, defBody sDone, defScope sDone, [], []⟩) rfl
  have F10 : Fun K "_law_done" "_law_done" sDone (He.ga K "_law_done") fd10 := HA.fun_of D10
  have k10 := F10.kp
  have b10 := F10.binds (ps := ["_law_shop", "_law_deed_here", "_law_spot", "_law_said"]) fun _ _ _ _ _ _ us hl => match us, hl with | [_, _, _, _], _ => rfl
  have g10 := He.glo_ok X G (c.d.fact 9 rfl)
  obtain ⟨fd11, D11⟩ := c.d.def_ 10 (d := ⟨("_law_is_place", none), "_law_is_place", "_law_is_place", defArgs sIsp, defBody sIsp, defScope sIsp, [], []⟩) rfl
  have F11 : Fun K "_law_is_place" "_law_is_place" sIsp (He.ga K "_law_is_place") fd11 := HA.fun_of D11
  have k11 := F11.kp
  have b11 := F11.binds (ps := ["_law_spot", "_law_most"]) fun _ _ _ _ _ _ us hl => match us, hl with | [_, _], _ => rfl
  have g11 := He.glo_ok X G (c.d.fact 10 rfl)
  obtain ⟨fd12, D12⟩ := c.d.def_ 11 (d := ⟨("_law_deed", none), "_law_deed", "_law_deed", defArgs sDeed, defBody sDeed, defScope sDeed, [], []⟩) rfl
  have F12 : Fun K "_law_deed" "_law_deed" sDeed (He.ga K "_law_deed") fd12 := HA.fun_of D12
  have k12 := F12.kp
  have b12 := F12.binds (ps := ["_law_purse_here", "_law_shop", "_law_past"]) fun _ _ _ _ _ _ us hl => match us, hl with | [_, _, _], _ => rfl
  have g12 := He.glo_ok X G (c.d.fact 11 rfl)
  obtain ⟨fd13, D13⟩ := c.d.def_ 12 (d := ⟨("_law_full_right", none), "_law_full_right", "_law_full_right", defArgs sFull, defBody sFull, defScope sFull, [], []⟩) rfl
  have F13 : Fun K "_law_full_right" "_law_full_right" sFull (He.ga K "_law_full_right") fd13 := HA.fun_of D13
  have k13 := F13.kp
  have b13 := F13.binds (ps := ["_law_purse_here"]) fun _ _ _ _ _ _ us hl => match us, hl with | [_], _ => rfl
  have g13 := He.glo_ok X G (c.d.fact 12 rfl)
  obtain ⟨fd14, D14⟩ := c.d.def_ 13 (d := ⟨("law", none), "law", "law", defArgs sLaw, defBody sLaw, defScope sLaw, [], []⟩) rfl
  have F14 : Fun K "law" "law" sLaw (He.ga K "law") fd14 := HA.fun_of D14
  have k14 := F14.kp
  obtain ⟨fdy1, Dy1⟩ := c.d.def_ 14 (d := ⟨("State", some "__init__"), "__init__", "State.__init__", defArgs mSInit, defBody mSInit, defScope mSInit, [], []⟩) rfl
  have Fy1 : Fun K "__init__" "State.__init__" mSInit (He.ma K (He.ga K "State") "__init__") fdy1 := HA.fun_of Dy1
  have by1 := Fy1.binds (ps := ["self", "lines", "sums", "ahead"]) fun _ _ _ _ _ _ us hl => match us, hl with | [_, _, _, _], _ => rfl
  have my1 := He.meth_ok (c.d.fact 28 rfl)
  obtain ⟨fdy2, Dy2⟩ := c.d.def_ 15 (d := ⟨("State", some "fade"), "fade", "State.fade", defArgs mFade, defBody mFade, defScope mFade, [], []⟩) rfl
  have Fy2 : Fun K "fade" "State.fade" mFade (He.ma K (He.ga K "State") "fade") fdy2 := HA.fun_of Dy2
  have by2 := Fy2.binds (ps := ["self"]) fun _ _ _ _ _ _ us hl => match us, hl with | [_], _ => rfl
  have my2 := He.meth_ok (c.d.fact 29 rfl)
  obtain ⟨fdy3, Dy3⟩ := c.d.def_ 16 (d := ⟨("Workshop", some "__init__"), "__init__", "Workshop.__init__", defArgs mWInit, defBody mWInit, defScope mWInit, [], []⟩) rfl
  have Fy3 : Fun K "__init__" "Workshop.__init__" mWInit (He.ma K (He.ga K "Workshop") "__init__") fdy3 := HA.fun_of Dy3
  have by3 := Fy3.binds (ps := ["self"]) fun _ _ _ _ _ _ us hl => match us, hl with | [_], _ => rfl
  have my3 := He.meth_ok (c.d.fact 30 rfl)
  obtain ⟨fdy4, Dy4⟩ := c.d.def_ 17 (d := ⟨("Workshop", some "begin"), "begin", "Workshop.begin", defArgs mBegin, defBody mBegin, defScope mBegin, [], []⟩) rfl
  have Fy4 : Fun K "begin" "Workshop.begin" mBegin (He.ma K (He.ga K "Workshop") "begin") fdy4 := HA.fun_of Dy4
  have by4 := Fy4.binds (ps := ["self", "lines", "sums"]) fun _ _ _ _ _ _ us hl => match us, hl with | [_, _, _], _ => rfl
  have my4 := He.meth_ok (c.d.fact 31 rfl)
  obtain ⟨fdy5, Dy5⟩ := c.d.def_ 18 (d := ⟨("Workshop", some "put"), "put", "Workshop.put", defArgs mPut, defBody mPut, defScope mPut, [], []⟩) rfl
  have Fy5 : Fun K "put" "Workshop.put" mPut (He.ma K (He.ga K "Workshop") "put") fdy5 := HA.fun_of Dy5
  have by5 := Fy5.binds (ps := ["self", "at", "row"]) fun _ _ _ _ _ _ us hl => match us, hl with | [_, _, _], _ => rfl
  have my5 := He.meth_ok (c.d.fact 32 rfl)
  obtain ⟨fdy6, Dy6⟩ := c.d.def_ 19 (d := ⟨("Workshop", some "cut"), "cut", "Workshop.cut", defArgs mCut, defBody mCut, defScope mCut, [], []⟩) rfl
  have Fy6 : Fun K "cut" "Workshop.cut" mCut (He.ma K (He.ga K "Workshop") "cut") fdy6 := HA.fun_of Dy6
  have by6 := Fy6.binds (ps := ["self", "at"]) fun _ _ _ _ _ _ us hl => match us, hl with | [_, _], _ => rfl
  have my6 := He.meth_ok (c.d.fact 33 rfl)
  obtain ⟨fdy7, Dy7⟩ := c.d.def_ 20 (d := ⟨("Workshop", some "change"), "change", "Workshop.change", defArgs mChange, defBody mChange, defScope mChange, [], []⟩) rfl
  have Fy7 : Fun K "change" "Workshop.change" mChange (He.ma K (He.ga K "Workshop") "change") fdy7 := HA.fun_of Dy7
  have by7 := Fy7.binds (ps := ["self", "at", "row"]) fun _ _ _ _ _ _ us hl => match us, hl with | [_, _, _], _ => rfl
  have my7 := He.meth_ok (c.d.fact 34 rfl)
  obtain ⟨fdy8, Dy8⟩ := c.d.def_ 21 (d := ⟨("Workshop", some "back"), "back", "Workshop.back", defArgs mBack, defBody mBack, defScope mBack, [], []⟩) rfl
  have Fy8 : Fun K "back" "Workshop.back" mBack (He.ma K (He.ga K "Workshop") "back") fdy8 := HA.fun_of Dy8
  have by8 := Fy8.binds (ps := ["self"]) fun _ _ _ _ _ _ us hl => match us, hl with | [_], _ => rfl
  have my8 := He.meth_ok (c.d.fact 35 rfl)
  obtain ⟨fdy9, Dy9⟩ := c.d.def_ 22 (d := ⟨("Workshop", some "rows"), "rows", "Workshop.rows", defArgs mRows, defBody mRows, defScope mRows, [], []⟩) rfl
  have Fy9 : Fun K "rows" "Workshop.rows" mRows (He.ma K (He.ga K "Workshop") "rows") fdy9 := HA.fun_of Dy9
  have by9 := Fy9.binds (ps := ["self"]) fun _ _ _ _ _ _ us hl => match us, hl with | [_], _ => rfl
  have my9 := He.meth_ok (c.d.fact 36 rfl)
  have m_isinstance := He.free_ok X G (c.d.fact 41 rfl)
  have m_int := He.free_ok X G (c.d.fact 42 rfl)
  have m_str := He.free_ok X G (c.d.fact 43 rfl)
  have m_len := He.free_ok X G (c.d.fact 44 rfl)
  have m_list := He.free_ok X G (c.d.fact 45 rfl)
  have m_range := He.free_ok X G (c.d.fact 46 rfl)
  have m_bool := He.free_ok X G (c.d.fact 47 rfl)
  have m_max := He.free_ok X G (c.d.fact 48 rfl)
  have m_min := He.free_ok X G (c.d.fact 49 rfl)
  obtain ⟨tK, gK⟩ := He.int_ok X G (c.d.fact 37 rfl)
  obtain ⟨tM, gM⟩ := He.int_ok X G (c.d.fact 38 rfl)
  obtain ⟨tL, gL⟩ := He.int_ok X G (c.d.fact 39 rfl)
  have gN := He.glo_ok X G (c.d.fact 40 rfl)
  have gCS := He.glo_ok X G (c.d.fact 14 rfl)
  have gW := He.glo_ok X G (c.d.fact 24 rfl)
  have TS : TxtS mg := ⟨m_isinstance, m_int, m_str, m_len, m_list, m_range⟩
  have TW : TxtW K mg (He.ga K "Workshop") (He.ga K "State") := ⟨He.cls_ok (c.d.fact 15 rfl), He.noat_ok (c.d.fact 17 rfl), He.noat_ok (c.d.fact 18 rfl), He.noat_ok (c.d.fact 19 rfl), He.noat_ok (c.d.fact 20 rfl), He.noat_ok (c.d.fact 21 rfl), He.noat_ok (c.d.fact 22 rfl), He.noat_ok (c.d.fact 23 rfl), He.cls_ok (c.d.fact 25 rfl), He.noat_ok (c.d.fact 27 rfl), gCS⟩
  obtain ⟨xCP, kkCP, bbCP, ttCP⟩ := He.exc_ok (c.d.fact 52 rfl)
  have ECP : ErX K mg "NoPlace" (He.ga K "NoPlace") := ⟨He.glo_ok X G (c.d.fact 51 rfl), xCP, kkCP, bbCP, ttCP⟩
  have XCP : ExcC K (He.ga K "NoPlace") := ⟨He.eqO_ok (ex_at c.more 0 rfl), He.noat_ok (c.d.fact 54 rfl), bbCP, (ex_at c.more 1 rfl), He.eqO_ok (ex_at c.more 2 rfl), He.eqO_ok (ex_at c.more 32 rfl), of_decide_eq_true (ex_at c.more 33 rfl), of_decide_eq_true (ex_at c.more 3 rfl)⟩
  obtain ⟨xCB, kkCB, bbCB, ttCB⟩ := He.exc_ok (c.d.fact 56 rfl)
  have ECB : ErX K mg "BadRow" (He.ga K "BadRow") := ⟨He.glo_ok X G (c.d.fact 55 rfl), xCB, kkCB, bbCB, ttCB⟩
  have XCB : ExcC K (He.ga K "BadRow") := ⟨He.eqO_ok (ex_at c.more 4 rfl), He.noat_ok (c.d.fact 58 rfl), bbCB, (ex_at c.more 5 rfl), He.eqO_ok (ex_at c.more 6 rfl), He.eqO_ok (ex_at c.more 32 rfl), of_decide_eq_true (ex_at c.more 33 rfl), of_decide_eq_true (ex_at c.more 7 rfl)⟩
  obtain ⟨xCM, kkCM, bbCM, ttCM⟩ := He.exc_ok (c.d.fact 60 rfl)
  have ECM : ErX K mg "TooMany" (He.ga K "TooMany") := ⟨He.glo_ok X G (c.d.fact 59 rfl), xCM, kkCM, bbCM, ttCM⟩
  have XCM : ExcC K (He.ga K "TooMany") := ⟨He.eqO_ok (ex_at c.more 8 rfl), He.noat_ok (c.d.fact 62 rfl), bbCM, (ex_at c.more 9 rfl), He.eqO_ok (ex_at c.more 10 rfl), He.eqO_ok (ex_at c.more 32 rfl), of_decide_eq_true (ex_at c.more 33 rfl), of_decide_eq_true (ex_at c.more 11 rfl)⟩
  obtain ⟨xCN, kkCN, bbCN, ttCN⟩ := He.exc_ok (c.d.fact 64 rfl)
  have ECN : ErX K mg "NoBack" (He.ga K "NoBack") := ⟨He.glo_ok X G (c.d.fact 63 rfl), xCN, kkCN, bbCN, ttCN⟩
  have XCN : ExcC K (He.ga K "NoBack") := ⟨He.eqO_ok (ex_at c.more 12 rfl), He.noat_ok (c.d.fact 66 rfl), bbCN, (ex_at c.more 13 rfl), He.eqO_ok (ex_at c.more 14 rfl), He.eqO_ok (ex_at c.more 32 rfl), of_decide_eq_true (ex_at c.more 33 rfl), of_decide_eq_true (ex_at c.more 15 rfl)⟩
  have TD : TxtD K mg (He.ga K "SlumberError") (He.ga K "NoPlace") (He.ga K "BadRow") (He.ga K "TooMany") (He.ga K "NoBack") := ⟨He.glo_ok X G (c.d.fact 50 rfl), He.exm_ok (c.d.fact 53 rfl), He.exm_ok (c.d.fact 57 rfl), He.exm_ok (c.d.fact 61 rfl), He.exm_ok (c.d.fact 65 rfl), XCP, XCB, XCM, XCN, of_decide_eq_true (ex_at c.more 16 rfl), of_decide_eq_true (ex_at c.more 17 rfl), of_decide_eq_true (ex_at c.more 18 rfl), of_decide_eq_true (ex_at c.more 19 rfl), of_decide_eq_true (ex_at c.more 20 rfl), of_decide_eq_true (ex_at c.more 21 rfl), of_decide_eq_true (ex_at c.more 22 rfl), of_decide_eq_true (ex_at c.more 23 rfl), of_decide_eq_true (ex_at c.more 24 rfl), of_decide_eq_true (ex_at c.more 25 rfl), of_decide_eq_true (ex_at c.more 26 rfl), of_decide_eq_true (ex_at c.more 27 rfl), of_decide_eq_true (ex_at c.more 28 rfl), of_decide_eq_true (ex_at c.more 29 rfl), of_decide_eq_true (ex_at c.more 30 rfl), of_decide_eq_true (ex_at c.more 31 rfl)⟩
  have MS := He.mkr_ok (c.d.fact 16 rfl)
  have MW := He.mkr_ok (c.d.fact 26 rfl)
  have bl := FunD.bindsA (ps := ["_law_script"]) D14 fun _ _ _ _ _ _ us hl => match us, hl with | [_], _ => rfl
  refine ⟨fd14, (fun s v => bl s [v] rfl), fun base _ _ => ?_⟩
  have GSI : FnOk l.prog w K mg base CX0 1 (He.ma K (He.ga K "State") "__init__") _ ["self", "lines", "sums", "ahead"] (spSInit (He.ga K "State")) := ok_sinit Fy1 TW
  have GFa : FnOk l.prog w K mg base CX0 1 (He.ma K (He.ga K "State") "fade") _ ["self"] (spFade (He.ga K "State")) := ok_fade Fy2 TW
  have GWI : FnOk l.prog w K mg base CX0 3 (He.ma K (He.ga K "Workshop") "__init__") _ ["self"] (spWInit K (He.ga K "Workshop") (He.ga K "State")) := ok_winit Fy3 TW MS GSI by1
  have GBe : FnOk l.prog w K mg base CX0 3 (He.ma K (He.ga K "Workshop") "begin") _ ["self", "lines", "sums"] (spBegin K (He.ga K "Workshop") (He.ga K "State")) := ok_begin Fy4 TW TS MS gK GSI by1 GFa by2 my2
  have GRo : FnOk l.prog w K mg base CX0 1 (He.ma K (He.ga K "Workshop") "rows") _ ["self"] (spRows K (He.ga K "Workshop") (He.ga K "State")) := ok_rows8 Fy9 TW TS
  have GBa : FnOk l.prog w K mg base (L2.CX l.prog w) 1 (He.ma K (He.ga K "Workshop") "back") _ ["self"] (spBack K (He.ga K "Workshop") (He.ga K "State") (He.ga K "NoBack")) := ok_back Fy8 TW ECN
  have GWh : FnOk l.prog w K mg base CX0 1 (He.ga K "is_whole") _ ["thing"] spWhole := ok_whole F1 TS
  have GPl : FnOk l.prog w K mg base (L2.CX l.prog w) 2 (He.ga K "refuse_place") _ ["at", "most"] (spPlace (He.ga K "NoPlace")) := ok_place F2 ECP GWh k1 b1 g1
  have GRr : FnOk l.prog w K mg base (L2.CX l.prog w) 1 (He.ga K "refuse_row") _ ["row"] (spRow (He.ga K "BadRow")) := ok_refrow F3 TS ECB gL
  have GPu : FnOk l.prog w K mg base (L2.CX l.prog w) 4 (He.ma K (He.ga K "Workshop") "put") _ ["self", "at", "row"] (spPut K (He.ga K "Workshop") (He.ga K "State") (He.ga K "NoPlace") (He.ga K "BadRow") (He.ga K "TooMany")) := ok_put Fy5 TW TS ECM gM gN GPl k2 b2 g2 GRr k3 b3 g3 GBe by4 my4
  have GCu : FnOk l.prog w K mg base (L2.CX l.prog w) 4 (He.ma K (He.ga K "Workshop") "cut") _ ["self", "at"] (spCut K (He.ga K "Workshop") (He.ga K "State") (He.ga K "NoPlace")) := ok_cut Fy6 TW TS GPl k2 b2 g2 GBe by4 my4
  have GCh : FnOk l.prog w K mg base (L2.CX l.prog w) 4 (He.ma K (He.ga K "Workshop") "change") _ ["self", "at", "row"] (spChange K (He.ga K "Workshop") (He.ga K "State") (He.ga K "NoPlace") (He.ga K "BadRow")) := ok_change Fy7 TW TS gN GPl k2 b2 g2 GRr k3 b3 g3 GBe by4 my4
  have GDo : FnOk l.prog w K mg base CX0 5 (He.ga K "_law_done") _ ["_law_shop", "_law_deed_here", "_law_spot", "_law_said"] (spDone K (He.ga K "Workshop") (He.ga K "State")) := ok_done F10 TW TS TD ECP ECB ECN ECM GPu (kb_put Fy5) my5 GCu (kb_cut Fy6) my6 GCh (kb_change Fy7) my7 GBa by8 my8
  have GLr : FnOk l.prog w K mg base CX0 3 (He.ga K "_law_row") _ ["_law_purse_here"] spLrow := ok_lrow F8 F6 b6 g6 F4 b4 g4
  have GLb : FnOk l.prog w K mg base CX0 3 (He.ga K "_law_bad_row") _ ["_law_purse_here"] spLbad := ok_lbad F9 F6 b6 g6 F4 b4 g4
  have GIs : FnOk l.prog w K mg base CX0 1 (He.ga K "_law_is_place") _ ["_law_spot", "_law_most"] spIsp := ok_isp F11 TS m_bool
  have GDd : FnOk l.prog w K mg base CX0 6 (He.ga K "_law_deed") _ ["_law_purse_here", "_law_shop", "_law_past"] (spDeed K (He.ga K "Workshop") (He.ga K "State")) := ok_deed F12 TS m_max F6 b6 g6 F4 b4 g4 GLr k8 b8 g8 GLb k9 b9 g9 GDo k10 b10 g10 GIs k11 b11 g11
  have GFu : FnOk l.prog w K mg base CX0 6 (He.ga K "_law_full_right") _ ["_law_purse_here"] spFull := ok_full F13 TS TW MW gW F6 b6 g6 F4 b4 g4 GWI by3 (calm_put GPu) by5 my5 (calm_change GCh) by7 my7 (calm_cut GCu) by6 my6 GRo by9 my9 GDo k10 b10 g10
  exact ok_law F14 TS m_min TW MW gW F6 b6 g6 F4 b4 g4 (ok_at F7 m_len) k7 b7 g7 (ok_purse F5 F4 b4 g4) k5 b5 g5 GFu k13 b13 g13 GDd k12 b12 g12 GWI by3 GRo by9 my9
end S8H

set_option Elab.async false
set_option linter.all false
set_option maxRecDepth 100000
/-! looks at the text, cut -/
namespace S8
open PySem PySem.W PyProof.Rows
abbrev pP : Program := PySem.Challenge.pw_slumberway_k80_rows_edited
abbrev rL : OpenLaw := PySem.Challenge.rw_slumberway_k80_rows_edited
set_option maxHeartbeats 0
theorem wSs_app {A : TablesWhole.Alg Bool} (hb : A.both = fun a b => a && b) (hu : A.unit = true) (top : Scope) (cx : TablesWhole.Ctx) (sc : Scope) : ∀ xs ys : List Stmt, TablesWhole.wSs A top cx sc (xs ++ ys) = (TablesWhole.wSs A top cx sc xs && TablesWhole.wSs A top cx sc ys)
  | [], ys => by
    rw [List.nil_append, TablesWhole.wSs.eq_1, hu, Bool.true_and]
  | x :: xs, ys => by
    rw [List.cons_append, TablesWhole.wSs.eq_2, TablesWhole.wSs.eq_2, wSs_app hb hu top cx sc xs ys, hb]
    simp only [Bool.and_assoc]
theorem cut20 {f : List Stmt → Bool} (hf : ∀ xs ys, f (xs ++ ys) = (f xs && f ys)) {b : List Stmt} (h1 : f (b.take 20) = true) (h2 : f (b.drop 20) = true) : f b = true := by
  rw [← List.take_append_drop 20 b, hf, h1, h2]
  rfl
theorem gat_app (top : Scope) (cx : TablesWhole.Ctx) (sc : Scope) : ∀ xs ys : List Stmt, TablesWhole.wSs TablesWhole.gather top cx sc (xs ++ ys) = TablesWhole.wSs TablesWhole.gather top cx sc xs ++ TablesWhole.wSs TablesWhole.gather top cx sc ys
  | [], ys => by
    rw [List.nil_append, TablesWhole.wSs.eq_1]
    rfl
  | x :: xs, ys => by
    rw [List.cons_append, TablesWhole.wSs.eq_2, TablesWhole.wSs.eq_2, gat_app top cx sc xs ys]
    exact (List.append_assoc _ _ _).symm
theorem gcut {top : Scope} {cx : TablesWhole.Ctx} {sc : Scope} {b : List Stmt} (h1 : TablesWhole.wSs TablesWhole.gather top cx sc (b.take 20) = []) (h2 : TablesWhole.wSs TablesWhole.gather top cx sc (b.drop 20) = []) : TablesWhole.wSs TablesWhole.gather top cx sc b = [] := by
  rw [← List.take_append_drop 20 b, gat_app, h1, h2]
  rfl
theorem road_app (lk : Look) : ∀ xs ys : List Stmt, noRoadLSs lk (xs ++ ys) = (noRoadLSs lk xs && noRoadLSs lk ys)
  | [], ys => by
    rw [List.nil_append, noRoadLSs.eq_1, Bool.true_and]
  | x :: xs, ys => by
    rw [List.cons_append, noRoadLSs.eq_2, noRoadLSs.eq_2, road_app lk xs ys, Bool.and_assoc]
abbrev cx0 : TablesWhole.Ctx := ⟨pP.main.scope, [], [], [], none⟩
theorem mod_gen {A : TablesWhole.Alg Bool} {M : Module} (hg : TablesWhole.wSs TablesWhole.gather M.scope ⟨M.scope, [], [], [], none⟩ M.scope M.body = []) (he : A.enter M.scope = true)
    (hc : ∀ x y, A.check x M.scope y (TablesWhole.noTwice M.scope) = true) (hb : A.both = fun a b => a && b) (hu : A.unit = true) (h : TablesWhole.wSs A M.scope ⟨M.scope, [], [], [], none⟩ M.scope M.body = true) :
    TablesWhole.wModule A M = true := by
  unfold TablesWhole.wModule
  simp only [hg]
  unfold TablesWhole.Alg.all
  simp only [List.foldr_cons, List.foldr_nil, hb, hu, he, h, hc, Bool.and_true]
end S8

set_option Elab.async false
set_option linter.all false
set_option maxRecDepth 100000
namespace S8
open PySem PySem.W PyProof.Rows
set_option maxHeartbeats 0
theorem ga_0 : TablesWhole.wSs TablesWhole.gather pP.main.scope cx0 pP.main.scope (pP.main.body.take 20) = [] := by decide +kernel
theorem ga_1 : TablesWhole.wSs TablesWhole.gather pP.main.scope cx0 pP.main.scope ((pP.main.body.drop 20).take 20) = [] := by decide +kernel
theorem ga_2 : TablesWhole.wSs TablesWhole.gather pP.main.scope cx0 pP.main.scope (((pP.main.body.drop 20).drop 20).take 20) = [] := by decide +kernel
theorem ga_3 : TablesWhole.wSs TablesWhole.gather pP.main.scope cx0 pP.main.scope ((((pP.main.body.drop 20).drop 20).drop 20).take 20) = [] := by decide +kernel
theorem ga_4 : TablesWhole.wSs TablesWhole.gather pP.main.scope cx0 pP.main.scope (((((pP.main.body.drop 20).drop 20).drop 20).drop 20).take 20) = [] := by decide +kernel
theorem ga_5 : TablesWhole.wSs TablesWhole.gather pP.main.scope cx0 pP.main.scope ((((((pP.main.body.drop 20).drop 20).drop 20).drop 20).drop 20).take 20) = [] := by decide +kernel
theorem ga_6 : TablesWhole.wSs TablesWhole.gather pP.main.scope cx0 pP.main.scope (((((((pP.main.body.drop 20).drop 20).drop 20).drop 20).drop 20).drop 20).take 20) = [] := by decide +kernel
theorem ga_7 : TablesWhole.wSs TablesWhole.gather pP.main.scope cx0 pP.main.scope ((((((((pP.main.body.drop 20).drop 20).drop 20).drop 20).drop 20).drop 20).drop 20).take 20) = [] := by decide +kernel
theorem ga_8 : TablesWhole.wSs TablesWhole.gather pP.main.scope cx0 pP.main.scope (((((((((pP.main.body.drop 20).drop 20).drop 20).drop 20).drop 20).drop 20).drop 20).drop 20).take 20) = [] := by decide +kernel
theorem ga_9 : TablesWhole.wSs TablesWhole.gather pP.main.scope cx0 pP.main.scope ((((((((((pP.main.body.drop 20).drop 20).drop 20).drop 20).drop 20).drop 20).drop 20).drop 20).drop 20).take 20) = [] := by decide +kernel
theorem ga_10 : TablesWhole.wSs TablesWhole.gather pP.main.scope cx0 pP.main.scope (((((((((((pP.main.body.drop 20).drop 20).drop 20).drop 20).drop 20).drop 20).drop 20).drop 20).drop 20).drop 20).take 20) = [] := by decide +kernel
theorem ga_11 : TablesWhole.wSs TablesWhole.gather pP.main.scope cx0 pP.main.scope (((((((((((pP.main.body.drop 20).drop 20).drop 20).drop 20).drop 20).drop 20).drop 20).drop 20).drop 20).drop 20).drop 20) = [] := by decide +kernel
theorem ga : TablesWhole.wSs TablesWhole.gather pP.main.scope cx0 pP.main.scope pP.main.body = [] := (gcut ga_0 (gcut ga_1 (gcut ga_2 (gcut ga_3 (gcut ga_4 (gcut ga_5 (gcut ga_6 (gcut ga_7 (gcut ga_8 (gcut ga_9 (gcut ga_10 ga_11)))))))))))
end S8

set_option Elab.async false
set_option linter.all false
set_option maxRecDepth 100000
namespace S8
open PySem PySem.W PyProof.Rows
set_option maxHeartbeats 0
abbrev A_res : TablesWhole.Alg Bool := ⟨fun sc n _ => match sc.names.lookup n with
    | some .globalImplicit | some .globalExplicit => pP.boundNames.contains n || n == ("__name__" : Str) || n == ("__debug__" : Str) || (builtinNamed n && !worldNames.contains n && !n.opensWith "__")
    | _ => true, fun _ _ _ _ => true, fun _ => true, true, false, fun a b => a && b⟩
theorem al_res_0 : TablesWhole.wSs A_res pP.main.scope cx0 pP.main.scope (pP.main.body.take 20) = true := by decide +kernel
theorem al_res_1 : TablesWhole.wSs A_res pP.main.scope cx0 pP.main.scope ((pP.main.body.drop 20).take 20) = true := by decide +kernel
theorem al_res_2 : TablesWhole.wSs A_res pP.main.scope cx0 pP.main.scope (((pP.main.body.drop 20).drop 20).take 20) = true := by decide +kernel
theorem al_res_3 : TablesWhole.wSs A_res pP.main.scope cx0 pP.main.scope ((((pP.main.body.drop 20).drop 20).drop 20).take 20) = true := by decide +kernel
theorem al_res_4 : TablesWhole.wSs A_res pP.main.scope cx0 pP.main.scope (((((pP.main.body.drop 20).drop 20).drop 20).drop 20).take 20) = true := by decide +kernel
theorem al_res_5 : TablesWhole.wSs A_res pP.main.scope cx0 pP.main.scope ((((((pP.main.body.drop 20).drop 20).drop 20).drop 20).drop 20).take 20) = true := by decide +kernel
theorem al_res_6 : TablesWhole.wSs A_res pP.main.scope cx0 pP.main.scope (((((((pP.main.body.drop 20).drop 20).drop 20).drop 20).drop 20).drop 20).take 20) = true := by decide +kernel
theorem al_res_7 : TablesWhole.wSs A_res pP.main.scope cx0 pP.main.scope ((((((((pP.main.body.drop 20).drop 20).drop 20).drop 20).drop 20).drop 20).drop 20).take 20) = true := by decide +kernel
theorem al_res_8 : TablesWhole.wSs A_res pP.main.scope cx0 pP.main.scope (((((((((pP.main.body.drop 20).drop 20).drop 20).drop 20).drop 20).drop 20).drop 20).drop 20).take 20) = true := by decide +kernel
theorem al_res_9 : TablesWhole.wSs A_res pP.main.scope cx0 pP.main.scope ((((((((((pP.main.body.drop 20).drop 20).drop 20).drop 20).drop 20).drop 20).drop 20).drop 20).drop 20).take 20) = true := by decide +kernel
theorem al_res_10 : TablesWhole.wSs A_res pP.main.scope cx0 pP.main.scope (((((((((((pP.main.body.drop 20).drop 20).drop 20).drop 20).drop 20).drop 20).drop 20).drop 20).drop 20).drop 20).take 20) = true := by decide +kernel
theorem al_res_11 : TablesWhole.wSs A_res pP.main.scope cx0 pP.main.scope (((((((((((pP.main.body.drop 20).drop 20).drop 20).drop 20).drop 20).drop 20).drop 20).drop 20).drop 20).drop 20).drop 20) = true := by decide +kernel
theorem al_res : TablesWhole.wSs A_res pP.main.scope cx0 pP.main.scope pP.main.body = true := (cut20 (wSs_app rfl rfl _ _ _) al_res_0 (cut20 (wSs_app rfl rfl _ _ _) al_res_1 (cut20 (wSs_app rfl rfl _ _ _) al_res_2 (cut20 (wSs_app rfl rfl _ _ _) al_res_3 (cut20 (wSs_app rfl rfl _ _ _) al_res_4 (cut20 (wSs_app rfl rfl _ _ _) al_res_5 (cut20 (wSs_app rfl rfl _ _ _) al_res_6 (cut20 (wSs_app rfl rfl _ _ _) al_res_7 (cut20 (wSs_app rfl rfl _ _ _) al_res_8 (cut20 (wSs_app rfl rfl _ _ _) al_res_9 (cut20 (wSs_app rfl rfl _ _ _) al_res_10 al_res_11)))))))))))
end S8

set_option Elab.async false
set_option linter.all false
set_option maxRecDepth 100000
namespace S8
open PySem PySem.W PyProof.Rows
set_option maxHeartbeats 0
abbrev A_att : TablesWhole.Alg Bool := ⟨fun _ n _ => attrL n, fun _ _ _ _ => true, fun _ => true, true, false, fun a b => a && b⟩
theorem al_att_0 : TablesWhole.wSs A_att pP.main.scope cx0 pP.main.scope (pP.main.body.take 20) = true := by decide +kernel
theorem al_att_1 : TablesWhole.wSs A_att pP.main.scope cx0 pP.main.scope ((pP.main.body.drop 20).take 20) = true := by decide +kernel
theorem al_att_2 : TablesWhole.wSs A_att pP.main.scope cx0 pP.main.scope (((pP.main.body.drop 20).drop 20).take 20) = true := by decide +kernel
theorem al_att_3 : TablesWhole.wSs A_att pP.main.scope cx0 pP.main.scope ((((pP.main.body.drop 20).drop 20).drop 20).take 20) = true := by decide +kernel
theorem al_att_4 : TablesWhole.wSs A_att pP.main.scope cx0 pP.main.scope (((((pP.main.body.drop 20).drop 20).drop 20).drop 20).take 20) = true := by decide +kernel
theorem al_att_5 : TablesWhole.wSs A_att pP.main.scope cx0 pP.main.scope ((((((pP.main.body.drop 20).drop 20).drop 20).drop 20).drop 20).take 20) = true := by decide +kernel
theorem al_att_6 : TablesWhole.wSs A_att pP.main.scope cx0 pP.main.scope (((((((pP.main.body.drop 20).drop 20).drop 20).drop 20).drop 20).drop 20).take 20) = true := by decide +kernel
theorem al_att_7 : TablesWhole.wSs A_att pP.main.scope cx0 pP.main.scope ((((((((pP.main.body.drop 20).drop 20).drop 20).drop 20).drop 20).drop 20).drop 20).take 20) = true := by decide +kernel
theorem al_att_8 : TablesWhole.wSs A_att pP.main.scope cx0 pP.main.scope (((((((((pP.main.body.drop 20).drop 20).drop 20).drop 20).drop 20).drop 20).drop 20).drop 20).take 20) = true := by decide +kernel
theorem al_att_9 : TablesWhole.wSs A_att pP.main.scope cx0 pP.main.scope ((((((((((pP.main.body.drop 20).drop 20).drop 20).drop 20).drop 20).drop 20).drop 20).drop 20).drop 20).take 20) = true := by decide +kernel
theorem al_att_10 : TablesWhole.wSs A_att pP.main.scope cx0 pP.main.scope (((((((((((pP.main.body.drop 20).drop 20).drop 20).drop 20).drop 20).drop 20).drop 20).drop 20).drop 20).drop 20).take 20) = true := by decide +kernel
theorem al_att_11 : TablesWhole.wSs A_att pP.main.scope cx0 pP.main.scope (((((((((((pP.main.body.drop 20).drop 20).drop 20).drop 20).drop 20).drop 20).drop 20).drop 20).drop 20).drop 20).drop 20) = true := by decide +kernel
theorem al_att : TablesWhole.wSs A_att pP.main.scope cx0 pP.main.scope pP.main.body = true := (cut20 (wSs_app rfl rfl _ _ _) al_att_0 (cut20 (wSs_app rfl rfl _ _ _) al_att_1 (cut20 (wSs_app rfl rfl _ _ _) al_att_2 (cut20 (wSs_app rfl rfl _ _ _) al_att_3 (cut20 (wSs_app rfl rfl _ _ _) al_att_4 (cut20 (wSs_app rfl rfl _ _ _) al_att_5 (cut20 (wSs_app rfl rfl _ _ _) al_att_6 (cut20 (wSs_app rfl rfl _ _ _) al_att_7 (cut20 (wSs_app rfl rfl _ _ _) al_att_8 (cut20 (wSs_app rfl rfl _ _ _) al_att_9 (cut20 (wSs_app rfl rfl _ _ _) al_att_10 al_att_11)))))))))))
end S8

set_option Elab.async false
set_option linter.all false
set_option maxRecDepth 100000
namespace S8
open PySem PySem.W PyProof.Rows
set_option maxHeartbeats 0
abbrev A_rd_vars : TablesWhole.Alg Bool := ⟨fun sc y _ => y != ("vars" : Str) || !(sc.names.lookup y == some .globalImplicit || sc.names.lookup y == some .globalExplicit), fun _ _ _ _ => true, fun _ => true, true, false, fun a b => a && b⟩
theorem al_rd_vars_0 : TablesWhole.wSs A_rd_vars pP.main.scope cx0 pP.main.scope (pP.main.body.take 20) = true := by decide +kernel
theorem al_rd_vars_1 : TablesWhole.wSs A_rd_vars pP.main.scope cx0 pP.main.scope ((pP.main.body.drop 20).take 20) = true := by decide +kernel
theorem al_rd_vars_2 : TablesWhole.wSs A_rd_vars pP.main.scope cx0 pP.main.scope (((pP.main.body.drop 20).drop 20).take 20) = true := by decide +kernel
theorem al_rd_vars_3 : TablesWhole.wSs A_rd_vars pP.main.scope cx0 pP.main.scope ((((pP.main.body.drop 20).drop 20).drop 20).take 20) = true := by decide +kernel
theorem al_rd_vars_4 : TablesWhole.wSs A_rd_vars pP.main.scope cx0 pP.main.scope (((((pP.main.body.drop 20).drop 20).drop 20).drop 20).take 20) = true := by decide +kernel
theorem al_rd_vars_5 : TablesWhole.wSs A_rd_vars pP.main.scope cx0 pP.main.scope ((((((pP.main.body.drop 20).drop 20).drop 20).drop 20).drop 20).take 20) = true := by decide +kernel
theorem al_rd_vars_6 : TablesWhole.wSs A_rd_vars pP.main.scope cx0 pP.main.scope (((((((pP.main.body.drop 20).drop 20).drop 20).drop 20).drop 20).drop 20).take 20) = true := by decide +kernel
theorem al_rd_vars_7 : TablesWhole.wSs A_rd_vars pP.main.scope cx0 pP.main.scope ((((((((pP.main.body.drop 20).drop 20).drop 20).drop 20).drop 20).drop 20).drop 20).take 20) = true := by decide +kernel
theorem al_rd_vars_8 : TablesWhole.wSs A_rd_vars pP.main.scope cx0 pP.main.scope (((((((((pP.main.body.drop 20).drop 20).drop 20).drop 20).drop 20).drop 20).drop 20).drop 20).take 20) = true := by decide +kernel
theorem al_rd_vars_9 : TablesWhole.wSs A_rd_vars pP.main.scope cx0 pP.main.scope ((((((((((pP.main.body.drop 20).drop 20).drop 20).drop 20).drop 20).drop 20).drop 20).drop 20).drop 20).take 20) = true := by decide +kernel
theorem al_rd_vars_10 : TablesWhole.wSs A_rd_vars pP.main.scope cx0 pP.main.scope (((((((((((pP.main.body.drop 20).drop 20).drop 20).drop 20).drop 20).drop 20).drop 20).drop 20).drop 20).drop 20).take 20) = true := by decide +kernel
theorem al_rd_vars_11 : TablesWhole.wSs A_rd_vars pP.main.scope cx0 pP.main.scope (((((((((((pP.main.body.drop 20).drop 20).drop 20).drop 20).drop 20).drop 20).drop 20).drop 20).drop 20).drop 20).drop 20) = true := by decide +kernel
theorem al_rd_vars : TablesWhole.wSs A_rd_vars pP.main.scope cx0 pP.main.scope pP.main.body = true := (cut20 (wSs_app rfl rfl _ _ _) al_rd_vars_0 (cut20 (wSs_app rfl rfl _ _ _) al_rd_vars_1 (cut20 (wSs_app rfl rfl _ _ _) al_rd_vars_2 (cut20 (wSs_app rfl rfl _ _ _) al_rd_vars_3 (cut20 (wSs_app rfl rfl _ _ _) al_rd_vars_4 (cut20 (wSs_app rfl rfl _ _ _) al_rd_vars_5 (cut20 (wSs_app rfl rfl _ _ _) al_rd_vars_6 (cut20 (wSs_app rfl rfl _ _ _) al_rd_vars_7 (cut20 (wSs_app rfl rfl _ _ _) al_rd_vars_8 (cut20 (wSs_app rfl rfl _ _ _) al_rd_vars_9 (cut20 (wSs_app rfl rfl _ _ _) al_rd_vars_10 al_rd_vars_11)))))))))))
abbrev A_rd_dir : TablesWhole.Alg Bool := ⟨fun sc y _ => y != ("dir" : Str) || !(sc.names.lookup y == some .globalImplicit || sc.names.lookup y == some .globalExplicit), fun _ _ _ _ => true, fun _ => true, true, false, fun a b => a && b⟩
theorem al_rd_dir_0 : TablesWhole.wSs A_rd_dir pP.main.scope cx0 pP.main.scope (pP.main.body.take 20) = true := by decide +kernel
theorem al_rd_dir_1 : TablesWhole.wSs A_rd_dir pP.main.scope cx0 pP.main.scope ((pP.main.body.drop 20).take 20) = true := by decide +kernel
theorem al_rd_dir_2 : TablesWhole.wSs A_rd_dir pP.main.scope cx0 pP.main.scope (((pP.main.body.drop 20).drop 20).take 20) = true := by decide +kernel
theorem al_rd_dir_3 : TablesWhole.wSs A_rd_dir pP.main.scope cx0 pP.main.scope ((((pP.main.body.drop 20).drop 20).drop 20).take 20) = true := by decide +kernel
theorem al_rd_dir_4 : TablesWhole.wSs A_rd_dir pP.main.scope cx0 pP.main.scope (((((pP.main.body.drop 20).drop 20).drop 20).drop 20).take 20) = true := by decide +kernel
theorem al_rd_dir_5 : TablesWhole.wSs A_rd_dir pP.main.scope cx0 pP.main.scope ((((((pP.main.body.drop 20).drop 20).drop 20).drop 20).drop 20).take 20) = true := by decide +kernel
theorem al_rd_dir_6 : TablesWhole.wSs A_rd_dir pP.main.scope cx0 pP.main.scope (((((((pP.main.body.drop 20).drop 20).drop 20).drop 20).drop 20).drop 20).take 20) = true := by decide +kernel
theorem al_rd_dir_7 : TablesWhole.wSs A_rd_dir pP.main.scope cx0 pP.main.scope ((((((((pP.main.body.drop 20).drop 20).drop 20).drop 20).drop 20).drop 20).drop 20).take 20) = true := by decide +kernel
theorem al_rd_dir_8 : TablesWhole.wSs A_rd_dir pP.main.scope cx0 pP.main.scope (((((((((pP.main.body.drop 20).drop 20).drop 20).drop 20).drop 20).drop 20).drop 20).drop 20).take 20) = true := by decide +kernel
theorem al_rd_dir_9 : TablesWhole.wSs A_rd_dir pP.main.scope cx0 pP.main.scope ((((((((((pP.main.body.drop 20).drop 20).drop 20).drop 20).drop 20).drop 20).drop 20).drop 20).drop 20).take 20) = true := by decide +kernel
theorem al_rd_dir_10 : TablesWhole.wSs A_rd_dir pP.main.scope cx0 pP.main.scope (((((((((((pP.main.body.drop 20).drop 20).drop 20).drop 20).drop 20).drop 20).drop 20).drop 20).drop 20).drop 20).take 20) = true := by decide +kernel
theorem al_rd_dir_11 : TablesWhole.wSs A_rd_dir pP.main.scope cx0 pP.main.scope (((((((((((pP.main.body.drop 20).drop 20).drop 20).drop 20).drop 20).drop 20).drop 20).drop 20).drop 20).drop 20).drop 20) = true := by decide +kernel
theorem al_rd_dir : TablesWhole.wSs A_rd_dir pP.main.scope cx0 pP.main.scope pP.main.body = true := (cut20 (wSs_app rfl rfl _ _ _) al_rd_dir_0 (cut20 (wSs_app rfl rfl _ _ _) al_rd_dir_1 (cut20 (wSs_app rfl rfl _ _ _) al_rd_dir_2 (cut20 (wSs_app rfl rfl _ _ _) al_rd_dir_3 (cut20 (wSs_app rfl rfl _ _ _) al_rd_dir_4 (cut20 (wSs_app rfl rfl _ _ _) al_rd_dir_5 (cut20 (wSs_app rfl rfl _ _ _) al_rd_dir_6 (cut20 (wSs_app rfl rfl _ _ _) al_rd_dir_7 (cut20 (wSs_app rfl rfl _ _ _) al_rd_dir_8 (cut20 (wSs_app rfl rfl _ _ _) al_rd_dir_9 (cut20 (wSs_app rfl rfl _ _ _) al_rd_dir_10 al_rd_dir_11)))))))))))
abbrev A_rd_locals : TablesWhole.Alg Bool := ⟨fun sc y _ => y != ("locals" : Str) || !(sc.names.lookup y == some .globalImplicit || sc.names.lookup y == some .globalExplicit), fun _ _ _ _ => true, fun _ => true, true, false, fun a b => a && b⟩
theorem al_rd_locals_0 : TablesWhole.wSs A_rd_locals pP.main.scope cx0 pP.main.scope (pP.main.body.take 20) = true := by decide +kernel
theorem al_rd_locals_1 : TablesWhole.wSs A_rd_locals pP.main.scope cx0 pP.main.scope ((pP.main.body.drop 20).take 20) = true := by decide +kernel
theorem al_rd_locals_2 : TablesWhole.wSs A_rd_locals pP.main.scope cx0 pP.main.scope (((pP.main.body.drop 20).drop 20).take 20) = true := by decide +kernel
theorem al_rd_locals_3 : TablesWhole.wSs A_rd_locals pP.main.scope cx0 pP.main.scope ((((pP.main.body.drop 20).drop 20).drop 20).take 20) = true := by decide +kernel
theorem al_rd_locals_4 : TablesWhole.wSs A_rd_locals pP.main.scope cx0 pP.main.scope (((((pP.main.body.drop 20).drop 20).drop 20).drop 20).take 20) = true := by decide +kernel
theorem al_rd_locals_5 : TablesWhole.wSs A_rd_locals pP.main.scope cx0 pP.main.scope ((((((pP.main.body.drop 20).drop 20).drop 20).drop 20).drop 20).take 20) = true := by decide +kernel
theorem al_rd_locals_6 : TablesWhole.wSs A_rd_locals pP.main.scope cx0 pP.main.scope (((((((pP.main.body.drop 20).drop 20).drop 20).drop 20).drop 20).drop 20).take 20) = true := by decide +kernel
theorem al_rd_locals_7 : TablesWhole.wSs A_rd_locals pP.main.scope cx0 pP.main.scope ((((((((pP.main.body.drop 20).drop 20).drop 20).drop 20).drop 20).drop 20).drop 20).take 20) = true := by decide +kernel
theorem al_rd_locals_8 : TablesWhole.wSs A_rd_locals pP.main.scope cx0 pP.main.scope (((((((((pP.main.body.drop 20).drop 20).drop 20).drop 20).drop 20).drop 20).drop 20).drop 20).take 20) = true := by decide +kernel
theorem al_rd_locals_9 : TablesWhole.wSs A_rd_locals pP.main.scope cx0 pP.main.scope ((((((((((pP.main.body.drop 20).drop 20).drop 20).drop 20).drop 20).drop 20).drop 20).drop 20).drop 20).take 20) = true := by decide +kernel
theorem al_rd_locals_10 : TablesWhole.wSs A_rd_locals pP.main.scope cx0 pP.main.scope (((((((((((pP.main.body.drop 20).drop 20).drop 20).drop 20).drop 20).drop 20).drop 20).drop 20).drop 20).drop 20).take 20) = true := by decide +kernel
theorem al_rd_locals_11 : TablesWhole.wSs A_rd_locals pP.main.scope cx0 pP.main.scope (((((((((((pP.main.body.drop 20).drop 20).drop 20).drop 20).drop 20).drop 20).drop 20).drop 20).drop 20).drop 20).drop 20) = true := by decide +kernel
theorem al_rd_locals : TablesWhole.wSs A_rd_locals pP.main.scope cx0 pP.main.scope pP.main.body = true := (cut20 (wSs_app rfl rfl _ _ _) al_rd_locals_0 (cut20 (wSs_app rfl rfl _ _ _) al_rd_locals_1 (cut20 (wSs_app rfl rfl _ _ _) al_rd_locals_2 (cut20 (wSs_app rfl rfl _ _ _) al_rd_locals_3 (cut20 (wSs_app rfl rfl _ _ _) al_rd_locals_4 (cut20 (wSs_app rfl rfl _ _ _) al_rd_locals_5 (cut20 (wSs_app rfl rfl _ _ _) al_rd_locals_6 (cut20 (wSs_app rfl rfl _ _ _) al_rd_locals_7 (cut20 (wSs_app rfl rfl _ _ _) al_rd_locals_8 (cut20 (wSs_app rfl rfl _ _ _) al_rd_locals_9 (cut20 (wSs_app rfl rfl _ _ _) al_rd_locals_10 al_rd_locals_11)))))))))))
end S8

set_option Elab.async false
set_option linter.all false
set_option maxRecDepth 100000
namespace S8
open PySem PySem.W PyProof.Rows
set_option maxHeartbeats 0
abbrev A_tab : TablesWhole.Alg Bool := ⟨fun sc n _ => sc.bears n, fun _ _ _ ok => ok, fun _ => true, true, false, fun a b => a && b⟩
theorem al_tab_0 : TablesWhole.wSs A_tab pP.main.scope cx0 pP.main.scope (pP.main.body.take 20) = true := by decide +kernel
theorem al_tab_1 : TablesWhole.wSs A_tab pP.main.scope cx0 pP.main.scope ((pP.main.body.drop 20).take 20) = true := by decide +kernel
theorem al_tab_2 : TablesWhole.wSs A_tab pP.main.scope cx0 pP.main.scope (((pP.main.body.drop 20).drop 20).take 20) = true := by decide +kernel
theorem al_tab_3 : TablesWhole.wSs A_tab pP.main.scope cx0 pP.main.scope ((((pP.main.body.drop 20).drop 20).drop 20).take 20) = true := by decide +kernel
theorem al_tab_4 : TablesWhole.wSs A_tab pP.main.scope cx0 pP.main.scope (((((pP.main.body.drop 20).drop 20).drop 20).drop 20).take 20) = true := by decide +kernel
theorem al_tab_5 : TablesWhole.wSs A_tab pP.main.scope cx0 pP.main.scope ((((((pP.main.body.drop 20).drop 20).drop 20).drop 20).drop 20).take 20) = true := by decide +kernel
theorem al_tab_6 : TablesWhole.wSs A_tab pP.main.scope cx0 pP.main.scope (((((((pP.main.body.drop 20).drop 20).drop 20).drop 20).drop 20).drop 20).take 20) = true := by decide +kernel
theorem al_tab_7 : TablesWhole.wSs A_tab pP.main.scope cx0 pP.main.scope ((((((((pP.main.body.drop 20).drop 20).drop 20).drop 20).drop 20).drop 20).drop 20).take 20) = true := by decide +kernel
theorem al_tab_8 : TablesWhole.wSs A_tab pP.main.scope cx0 pP.main.scope (((((((((pP.main.body.drop 20).drop 20).drop 20).drop 20).drop 20).drop 20).drop 20).drop 20).take 20) = true := by decide +kernel
theorem al_tab_9 : TablesWhole.wSs A_tab pP.main.scope cx0 pP.main.scope ((((((((((pP.main.body.drop 20).drop 20).drop 20).drop 20).drop 20).drop 20).drop 20).drop 20).drop 20).take 20) = true := by decide +kernel
theorem al_tab_10 : TablesWhole.wSs A_tab pP.main.scope cx0 pP.main.scope (((((((((((pP.main.body.drop 20).drop 20).drop 20).drop 20).drop 20).drop 20).drop 20).drop 20).drop 20).drop 20).take 20) = true := by decide +kernel
theorem al_tab_11 : TablesWhole.wSs A_tab pP.main.scope cx0 pP.main.scope (((((((((((pP.main.body.drop 20).drop 20).drop 20).drop 20).drop 20).drop 20).drop 20).drop 20).drop 20).drop 20).drop 20) = true := by decide +kernel
theorem al_tab : TablesWhole.wSs A_tab pP.main.scope cx0 pP.main.scope pP.main.body = true := (cut20 (wSs_app rfl rfl _ _ _) al_tab_0 (cut20 (wSs_app rfl rfl _ _ _) al_tab_1 (cut20 (wSs_app rfl rfl _ _ _) al_tab_2 (cut20 (wSs_app rfl rfl _ _ _) al_tab_3 (cut20 (wSs_app rfl rfl _ _ _) al_tab_4 (cut20 (wSs_app rfl rfl _ _ _) al_tab_5 (cut20 (wSs_app rfl rfl _ _ _) al_tab_6 (cut20 (wSs_app rfl rfl _ _ _) al_tab_7 (cut20 (wSs_app rfl rfl _ _ _) al_tab_8 (cut20 (wSs_app rfl rfl _ _ _) al_tab_9 (cut20 (wSs_app rfl rfl _ _ _) al_tab_10 al_tab_11)))))))))))
end S8

set_option Elab.async false
set_option linter.all false
set_option maxRecDepth 100000
namespace S8
open PySem PySem.W PyProof.Rows
set_option maxHeartbeats 0
abbrev lkA : Look := { strict := false, foot := none, bare := [] }
theorem rd3_0 : noRoadLSs lkA (pP.main.body.take 20) = true := by decide +kernel
theorem rd3_1 : noRoadLSs lkA ((pP.main.body.drop 20).take 20) = true := by decide +kernel
theorem rd3_2 : noRoadLSs lkA (((pP.main.body.drop 20).drop 20).take 20) = true := by decide +kernel
theorem rd3_3 : noRoadLSs lkA ((((pP.main.body.drop 20).drop 20).drop 20).take 20) = true := by decide +kernel
theorem rd3_4 : noRoadLSs lkA (((((pP.main.body.drop 20).drop 20).drop 20).drop 20).take 20) = true := by decide +kernel
theorem rd3_5 : noRoadLSs lkA ((((((pP.main.body.drop 20).drop 20).drop 20).drop 20).drop 20).take 20) = true := by decide +kernel
theorem rd3_6 : noRoadLSs lkA (((((((pP.main.body.drop 20).drop 20).drop 20).drop 20).drop 20).drop 20).take 20) = true := by decide +kernel
theorem rd3_7 : noRoadLSs lkA ((((((((pP.main.body.drop 20).drop 20).drop 20).drop 20).drop 20).drop 20).drop 20).take 20) = true := by decide +kernel
theorem rd3_8 : noRoadLSs lkA (((((((((pP.main.body.drop 20).drop 20).drop 20).drop 20).drop 20).drop 20).drop 20).drop 20).take 20) = true := by decide +kernel
theorem rd3_9 : noRoadLSs lkA ((((((((((pP.main.body.drop 20).drop 20).drop 20).drop 20).drop 20).drop 20).drop 20).drop 20).drop 20).take 20) = true := by decide +kernel
theorem rd3_10 : noRoadLSs lkA (((((((((((pP.main.body.drop 20).drop 20).drop 20).drop 20).drop 20).drop 20).drop 20).drop 20).drop 20).drop 20).take 20) = true := by decide +kernel
theorem rd3_11 : noRoadLSs lkA (((((((((((pP.main.body.drop 20).drop 20).drop 20).drop 20).drop 20).drop 20).drop 20).drop 20).drop 20).drop 20).drop 20) = true := by decide +kernel
theorem lk_r3 : noRoadLSs lkA pP.main.body = true := (cut20 (road_app _) rd3_0 (cut20 (road_app _) rd3_1 (cut20 (road_app _) rd3_2 (cut20 (road_app _) rd3_3 (cut20 (road_app _) rd3_4 (cut20 (road_app _) rd3_5 (cut20 (road_app _) rd3_6 (cut20 (road_app _) rd3_7 (cut20 (road_app _) rd3_8 (cut20 (road_app _) rd3_9 (cut20 (road_app _) rd3_10 rd3_11)))))))))))
end S8

set_option Elab.async false
set_option linter.all false
set_option maxRecDepth 100000
namespace S8
open PySem PySem.W PyProof.Rows
set_option maxHeartbeats 0
theorem tw3 : TablesWhole.noTwice pP.main.scope = true := by decide +kernel
theorem lk_b : namesResolve pP = true := mod_gen (A := A_res) (M := pP.main) ga rfl (fun _ _ => rfl) rfl rfl al_res
theorem lk_e : (namesMeet pP pP.main.body fun _ n => attrL n) = true := mod_gen (A := A_att) (M := pP.main) ga rfl (fun _ _ => rfl) rfl rfl al_att

theorem rd_vars : readsOut pP pP.main.body "vars" = false := by
  unfold readsOut
  rw [show (namesMeet pP pP.main.body fun sc y => y != ("vars" : Str) || !(sc.names.lookup y == some .globalImplicit || sc.names.lookup y == some .globalExplicit)) = true from mod_gen (A := A_rd_vars) (M := pP.main) ga rfl (fun _ _ => rfl) rfl rfl al_rd_vars]
  rfl
theorem rd_dir : readsOut pP pP.main.body "dir" = false := by
  unfold readsOut
  rw [show (namesMeet pP pP.main.body fun sc y => y != ("dir" : Str) || !(sc.names.lookup y == some .globalImplicit || sc.names.lookup y == some .globalExplicit)) = true from mod_gen (A := A_rd_dir) (M := pP.main) ga rfl (fun _ _ => rfl) rfl rfl al_rd_dir]
  rfl
theorem rd_locals : readsOut pP pP.main.body "locals" = false := by
  unfold readsOut
  rw [show (namesMeet pP pP.main.body fun sc y => y != ("locals" : Str) || !(sc.names.lookup y == some .globalImplicit || sc.names.lookup y == some .globalExplicit)) = true from mod_gen (A := A_rd_locals) (M := pP.main) ga rfl (fun _ _ => rfl) rfl rfl al_rd_locals]
  rfl
theorem lk_r1 : (["vars", "dir", "locals"] : List Str).filter (readsOut pP pP.main.body) = [] := by
  simp only [List.filter_cons, List.filter_nil, rd_vars, rd_dir, rd_locals, Bool.false_eq_true, if_false]
theorem lk_r2 : (!(importedModules pP.main.body).all cThrough.contains) = false := by decide +kernel
theorem lk_d : noRoadLSs { strict := !(importedModules pP.main.body).all cThrough.contains, foot := none, bare := (["vars", "dir", "locals"] : List Str).filter (readsOut pP pP.main.body) } pP.main.body = true := by
  rw [lk_r1, lk_r2]
  exact lk_r3
theorem lk_looks : looksOpen pP = true := by
  unfold looksOpen
  refine look_both (look_both (look_both (look_both (look_both ?_ ?_) lk_b) ?_) lk_d) lk_e
  · decide +kernel
  · decide +kernel
  · decide +kernel
theorem lk_k : (rL.bound'.all (fun n => !builtinNamed n || rL.about == [n] || !rL.reads n)) = true := by decide +kernel
theorem tab_gen {p : Program} (h : TablesWhole.wModule TablesWhole.holds p.main = true) (h1 : p.modules = []) (h2 : p.parses = []) (h3 : p.harvested = []) : p.tablesWhole = true := by
  unfold Program.tablesWhole TablesWhole.wProgram
  rw [h, h1, h2, h3]
  rfl
theorem tw3c (x : String) (y : Str) : A_tab.check x pP.main.scope y (TablesWhole.noTwice pP.main.scope) = true := tw3
theorem tw4 : TablesWhole.wModule A_tab pP.main = true := mod_gen (A := A_tab) (M := pP.main) ga rfl tw3c rfl rfl al_tab
theorem tw5 : TablesWhole.wModule TablesWhole.holds pP.main = true := tw4
theorem tw : pP.tablesWhole = true := tab_gen tw5 rfl rfl rfl
theorem lk_part : rL.row.partSaid = true := by
  unfold OpenRow.partSaid
  refine look_both (look_both (look_both (look_both (look_both (look_both (look_both (look_both (look_both (look_both (look_both (look_both (look_both lk_looks ?_) ?_) ?_) ?_) ?_) ?_) ?_) ?_) ?_) ?_) ?_) ?_) ?_
  all_goals decide +kernel
theorem lk_row : rL.row.wellSaid = true := by
  unfold OpenRow.wellSaid
  refine look_both (look_both lk_part ?_) ?_
  all_goals decide +kernel
theorem said : rL.wellSaid = true := by
  unfold OpenLaw.wellSaid
  refine look_both (look_both (look_both (look_both (look_both (look_both (look_both (look_both (look_both (look_both (look_both (look_both (look_both (look_both (look_both (look_both (look_both (look_both lk_row ?_) ?_) ?_) ?_) ?_) ?_) ?_) ?_) ?_) lk_k) ?_) ?_) ?_) ?_) ?_) ?_) ?_) ?_
  all_goals decide +kernel
end S8

set_option Elab.async false
set_option linter.all false
set_option maxRecDepth 100000
noncomputable section
namespace S8H
open PySem PySem.W PySem.Calls PyProof.Rows HA HC HandSHeadRun
def X210 : List Stmt := A238
def X185 : List Stmt := A210 ++ X210
def X182 : List Stmt := A185 ++ X185
def X173 : List Stmt := A182 ++ X182
def Y169 : List Stmt := A173 ++ X173
def X169 : List Stmt := tp 169 :: Y169
def X167 : List Stmt := A169 ++ X169
def X140 : List Stmt := A167 ++ X167
def X113 : List Stmt := A140 ++ X140
def X110 : List Stmt := A113 ++ X113
def X91 : List Stmt := A110 ++ X110
def X90 : List Stmt := A91 ++ X91
def X63 : List Stmt := A90 ++ X90
def X62 : List Stmt := A63 ++ X63
def X27 : List Stmt := A62 ++ X62
def X22 : List Stmt := A27 ++ X27
theorem cutX : body0 = A22 ++ X22 := cut1
theorem top_runs (w : World) (os : OsState) (hz : (⟨boot_heap w.params, #[], boot_drawn, boot_toks, os⟩ : Shared).asleep) :
    ∃ t1, Runs0 R.prog w (boot_heap w.params).objs.size (bootAnn w) ⟨boot_heap w.params, #[], boot_drawn, boot_toks, os⟩ (topStub R.prog) (S238 w os).abs t1 ∧ through t1 = true := by
  have r22 := boot_runs (R := X22) cutX (stub0 w os) (congrFun (c22 w) os) hz
  rw [size0] at r22 ⊢
  have z22 := r22.asleep hz
  have r27 := piece_runs z22 (congrFun (c27 w) os) X27
  have z27 := r27.asleep z22
  have r62 := piece_runs z27 (congrFun (c62 w) os) X62
  have z62 := r62.asleep z27
  have r63 := piece_runs z62 (congrFun (c63 w) os) X63
  have z63 := r63.asleep z62
  have r90 := piece_runs z63 (congrFun (c90 w) os) X90
  have z90 := r90.asleep z63
  have r91 := piece_runs z90 (congrFun (c91 w) os) X91
  have z91 := r91.asleep z90
  have r110 := piece_runs z91 (congrFun (c110 w) os) X110
  have z110 := r110.asleep z91
  have r113 := piece_runs z110 (congrFun (c113 w) os) X113
  have z113 := r113.asleep z110
  have r140 := piece_runs z113 (congrFun (c140 w) os) X140
  have z140 := r140.asleep z113
  have r167 := piece_runs z140 (congrFun (c167 w) os) X167
  have z167 := r167.asleep z140
  have r169 := piece_runs z167 (congrFun (c169 w) os) X169
  have z169 := r169.asleep z167
  obtain ⟨pos, rs⟩ := stmt_runs (p := R.prog) (w := w) (env := env0) (cd := cd0) (q := q0) (pos := p169) (n0 := 11) (ann := bootAnn w) (S := S169 w os) (px := ⟨1184, 0, 1184, 13⟩) (pd := ⟨1184, 16, 1184, 5161⟩) (pst := ⟨1184, 0, 1184, 5161⟩) z169 (Nat.le_of_ble_eq_true units0) ents0 nod0 len0 ne0 kind0 plain0 rfl (congrFun (asks0 w) os) Y169
  rw [← stmt0] at rs
  have zs := rs.asleep z169
  have r173 := piece_runs zs (congrFun (congrFun (c173 w) os) pos) X173
  have z173 := r173.asleep zs
  have r182 := piece_runs z173 (congrFun (c182 w) os) X182
  have z182 := r182.asleep z173
  have r185 := piece_runs z182 (congrFun (c185 w) os) X185
  have z185 := r185.asleep z182
  have r210 := piece_runs z185 (congrFun (c210 w) os) X210
  have z210 := r210.asleep z185
  obtain ⟨t1, r238, th⟩ := last_runs z210 (congrFun (c238 w) os)
  exact ⟨t1, r22.trans (r27.trans (r62.trans (r63.trans (r90.trans (r91.trans (r110.trans (r113.trans (r140.trans (r167.trans (r169.trans (rs.trans (r173.trans (r182.trans (r185.trans (r210.trans (r238)))))))))))))))), th⟩
end S8H
end
open PySem PySem.W PySem.Calls PyProof.Rows HA HC HandSHeadRun in
set_option maxRecDepth 100000 in
set_option maxHeartbeats 0 in
theorem PySem.Challenge.cw_slumberway_k80_rows_edited_holds : PySem.Challenge.rw_slumberway_k80_rows_edited.Holds := by
  refine holds_law S8.said fun said => ?_
  have hw : S8H.R.toRowW.promised := by w_witness2
  have call : WalkO S8H.qv S8H.names (XL S8H.qv []) (TellsAt S8H.fa0 S8H.fn0 S8H.ex0) S8H.R.toRowW (topDef S8H.R.prog 237) [] (fun f vs => PySem.call f vs) := by
    refine L2.walk_ofE (l := PySem.Challenge.rw_slumberway_k80_rows_edited) (n := 63) (k := 7) (x := "_law_script") (CX := L2.CX0) rfl (by decide) (by kernel_rfl) ⟨rfl, by decide, by decide⟩ ?F (fun _ _ _ _ z => z)
    intro w mg fa h Y G hmg0
    obtain ⟨K, KX, c⟩ := Y
    have hmg : mg ("law" : PySem.Str) = some (.ref fa) := by
      have e : (topDef S8H.R.prog 237).name = ("law" : PySem.Str) := by kernel_rfl
      rw [← e]
      exact hmg0
    obtain ⟨fd, hb, hF⟩ := S8H.facts (l := PySem.Challenge.rw_slumberway_k80_rows_edited) (w := w) KX G hmg c
    exact ⟨K, fd, S8.spLaw K, KX, hb, fun _ a ns hl _ hS => ⟨a, ns, rfl, hS, hl, fun _ => rfl⟩, hF⟩
  refine holds_beh (r := S8H.R) (q := S8H.qv) (loose := S8H.names) (XP := XL S8H.qv []) (YP := TellsAt S8H.fa0 S8H.fn0 S8H.ex0) (fun w => ?_) (fun w h h' => TellsAt.keeps w h h') (fun mg h h' => XL.keeps mg h h') S8H.def0 S8H.def1 S8H.def2 S8H.writes0 said S8H.opens0 S8H.frees0 S8H.within0 ⟨rfl, rfl, rfl, rfl, rfl, S8.tw⟩ hw call
  refine beh_of (Xt := fun s => xlAt S8H.qv [] s && recOk S8H.R.toRowW.records s) S8H.open0 S8H.fence0 S8H.chains0 (fun s z => ⟨xl_of s (Bool.and_eq_true_iff.mp z).1, recFacts_of (Bool.and_eq_true_iff.mp z).2⟩) (fun w os hz => ?_) w
  obtain ⟨t1, hr, th⟩ := S8H.top_runs w os hz
  exact ⟨_, t1, hr, th, congrFun (S8H.look1 w) os, (seenQ_eq _ _ _ _ _).trans (congrFun (S8H.look2 w) os), tells_of (congrFun (S8H.look3 w) os)⟩

