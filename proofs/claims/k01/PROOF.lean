import PyProof.Rows.All
import Wide.All
import OpenK.AllK
import Wide.FinOn
import HandS.ForMost
import HandS.Wide
import HandS.Deep
import HandS.NoneIn
import HandS.IsInst
import HandS.StrMore
import HandS.Codes
import KE.GoesEnumKw
import PySem.Challenge.RW_slumberway_k01_lexemes
/-! The lexer on lists of codes: what a row's lexemes are, and that lexemes written one behind the other are read again. -/
set_option Elab.async false
namespace Lx
inductive Srt where
  | name | word | maker | number | sign
  deriving DecidableEq, Repr
abbrev Tok := Nat × Srt × List Nat
def small (c : Nat) : Bool := decide (97 ≤ c) && decide (c ≤ 122)
def great (c : Nat) : Bool := decide (65 ≤ c) && decide (c ≤ 90)
def figure (c : Nat) : Bool := decide (48 ≤ c) && decide (c ≤ 57)
def alnum (c : Nat) : Bool := small c || great c || figure c
def words : List (List Nat) := [[100, 97, 116, 97], [108, 101, 116], [105, 110], [105, 102], [116, 104, 101, 110], [101, 108, 115, 101], [99, 97, 115, 101], [111, 102], [102, 117, 110]]
def signs : List (List Nat) := [[61, 61], [45, 62], [61], [124], [40], [41], [43], [45], [42], [60], [95]]
def runLen (p : Nat → Bool) (s : List Nat) : Nat := (s.takeWhile p).length
def behind (s : List Nat) (n : Nat) : Bool := match s.drop n with
  | [] => false
  | c :: _ => alnum c
def tokLen : List Nat → Option (Srt × Nat)
  | [] => none
  | c :: r =>
    if small c = true then some (if words.contains ((c :: r).take (1 + runLen small (r.take 7))) = true then .word else .name, 1 + runLen small (r.take 7))
    else if great c = true then some (.maker, 1 + runLen small (r.take 7))
    else if figure c = true then some (.number, if c = 48 then 1 else 1 + runLen figure r)
    else match signs.find? (fun g => g.isPrefixOf (c :: r)) with
      | some g => some (.sign, g.length)
      | none => none
def tokAt (s : List Nat) : Except Nat (Srt × Nat) := match tokLen s with
  | none => .error 0
  | some (t, n) => if t = .sign then .ok (t, n) else if behind s n = true then .error n else .ok (t, n)
def pre (found : List Tok) : Except Nat (List Tok) → Except Nat (List Tok)
  | .ok l => .ok (found ++ l)
  | .error e => .error e
def lex (col : Nat) : List Nat → Except Nat (List Tok)
  | [] => .ok []
  | c :: r =>
    if c = 45 ∧ r.head? = some 45 then .ok []
    else if c = 32 then lex (col + 1) r
    else match tokAt (c :: r) with
      | .error k => .error (col + k)
      | .ok (t, n) => pre [(col, t, (c :: r).take n)] (lex (col + n) (r.drop (n - 1)))
  termination_by s => s.length
  decreasing_by
    all_goals simp only [List.length_cons, List.length_drop]
    all_goals omega
theorem pre_pre (a b : List Tok) (x : Except Nat (List Tok)) : pre a (pre b x) = pre (a ++ b) x := by
  cases x with
  | ok l => simp [pre]
  | error e => rfl
theorem pre_nil (x : Except Nat (List Tok)) : pre [] x = x := by cases x <;> rfl
theorem lex_nil (col : Nat) : lex col [] = .ok [] := by rw [lex.eq_def]
theorem lex_blank (col : Nat) (r : List Nat) : lex col (32 :: r) = lex (col + 1) r := by
  rw [lex.eq_def]
  simp
theorem lex_blanks (g : Nat) : ∀ (col : Nat) (r : List Nat), lex col (List.replicate g 32 ++ r) = lex (col + g) r := by
  induction g with
  | zero => intro col r; simp
  | succ g ih =>
    intro col r
    rw [List.replicate_succ, List.cons_append, lex_blank, ih]
    congr 1
    omega
theorem lex_remark (col : Nat) (r : List Nat) : lex col (45 :: 45 :: r) = .ok [] := by
  rw [lex.eq_def]
  simp
theorem lex_tok {col : Nat} {c : Nat} {r : List Nat} {t : Srt} {n : Nat} (h1 : ¬ (c = 45 ∧ r.head? = some 45)) (h2 : c ≠ 32) (h3 : tokAt (c :: r) = .ok (t, n)) :
    lex col (c :: r) = pre [(col, t, (c :: r).take n)] (lex (col + n) (r.drop (n - 1))) := by
  rw [lex.eq_def]
  simp only [h1, if_false, h2, h3]
/-! ### lexemes that are right, and what may stand behind one -/
def Valid : Srt → List Nat → Prop
  | .name, w => w ≠ [] ∧ w.length ≤ 8 ∧ (∀ c ∈ w, small c = true) ∧ words.contains w = false
  | .word, w => w ∈ words
  | .maker, w => ∃ c r, w = c :: r ∧ great c = true ∧ r.length ≤ 7 ∧ ∀ c ∈ r, small c = true
  | .number, w => w = [48] ∨ ∃ c r, w = c :: r ∧ figure c = true ∧ c ≠ 48 ∧ ∀ c ∈ r, figure c = true
  | .sign, w => w ∈ signs
def compat : Option (Srt × List Nat) → List Nat → Prop
  | none, _ => True
  | some _, [] => True
  | some (t, w), x :: _ => if t = .sign then ¬ (w = [45] ∧ (x = 62 ∨ x = 45)) ∧ ¬ (w = [61] ∧ x = 61) else alnum x = false
theorem takeWhile_app {p : Nat → Bool} : ∀ {w c : List Nat}, (∀ x ∈ w, p x = true) → (∀ x r, c = x :: r → p x = false) → (w ++ c).takeWhile p = w
  | [], [], _, _ => rfl
  | [], x :: r, _, h => by
    have e := h x r rfl
    simp [List.takeWhile, e]
  | a :: w, c, h, h2 => by
    have e := h a (by simp)
    have ih := takeWhile_app (w := w) (c := c) (fun x hx => h x (by simp [hx])) h2
    simp [List.takeWhile, e, ih]
theorem alnum_parts {x : Nat} (h : alnum x = false) : small x = false ∧ great x = false ∧ figure x = false := by
  unfold alnum at h
  simp only [Bool.or_eq_false_iff] at h
  exact ⟨h.1.1, h.1.2, h.2⟩
theorem small_not {c : Nat} (h : small c = true) : great c = false ∧ figure c = false ∧ c ≠ 45 ∧ c ≠ 32 := by
  unfold small at h
  unfold great figure
  simp only [Bool.and_eq_true, decide_eq_true_eq] at h
  simp only [Bool.and_eq_false_iff, decide_eq_false_iff_not]
  omega
theorem great_not {c : Nat} (h : great c = true) : small c = false ∧ figure c = false ∧ c ≠ 45 ∧ c ≠ 32 := by
  unfold great at h
  unfold small figure
  simp only [Bool.and_eq_true, decide_eq_true_eq] at h
  simp only [Bool.and_eq_false_iff, decide_eq_false_iff_not]
  omega
theorem figure_not {c : Nat} (h : figure c = true) : small c = false ∧ great c = false ∧ c ≠ 45 ∧ c ≠ 32 := by
  unfold figure at h
  unfold small great
  simp only [Bool.and_eq_true, decide_eq_true_eq] at h
  simp only [Bool.and_eq_false_iff, decide_eq_false_iff_not]
  omega
theorem run7 {r c : List Nat} (h : ∀ x ∈ r, small x = true) (hl : r.length ≤ 7) (hc : ∀ x q, c = x :: q → small x = false) : runLen small ((r ++ c).take 7) = r.length := by
  unfold runLen
  rw [List.take_append]
  rw [List.take_of_length_le hl, takeWhile_app h]
  intro x q e
  cases c with
  | nil => simp at e
  | cons y s =>
    cases hk : 7 - r.length with
    | zero => rw [hk] at e; simp at e
    | succ k =>
      rw [hk, List.take_succ_cons] at e
      cases e
      exact hc _ _ rfl
theorem behind_app {w c : List Nat} (hc : ∀ x q, c = x :: q → alnum x = false) : behind (w ++ c) w.length = false := by
  unfold behind
  rw [List.drop_left]
  cases c with
  | nil => rfl
  | cons x q => exact hc x q rfl
theorem words_small : ∀ w ∈ words, w ≠ [] ∧ w.length ≤ 8 ∧ ∀ c ∈ w, small c = true := by decide
theorem signs_find : ∀ w ∈ signs, ∀ v ∈ signs, v.isPrefixOf w = true → v = w ∨ (v = [61] ∧ w = [61, 61]) ∨ (v = [45] ∧ w = [45, 62]) := by decide
theorem signs_not : ∀ w ∈ signs, ∃ c r, w = c :: r ∧ small c = false ∧ great c = false ∧ figure c = false ∧ c ≠ 32 ∧ (c = 45 → w = [45] ∨ w = [45, 62]) := by
  intro w h
  simp only [signs, List.mem_cons, List.not_mem_nil, or_false] at h
  rcases h with h | h | h | h | h | h | h | h | h | h | h <;> subst h <;> exact ⟨_, _, rfl, by decide⟩
theorem find_sign {w c : List Nat} (h : w ∈ signs) (hc : compat (some (.sign, w)) c) : signs.find? (fun g => g.isPrefixOf (w ++ c)) = some w := by
  have key : ∀ x q, c = x :: q → ¬ (w = [45] ∧ (x = 62 ∨ x = 45)) ∧ ¬ (w = [61] ∧ x = 61) := by
    intro x q e
    subst e
    simpa [compat] using hc
  simp only [signs, List.mem_cons, List.not_mem_nil, or_false] at h
  cases c with
  | nil => rcases h with h | h | h | h | h | h | h | h | h | h | h <;> subst h <;> decide
  | cons x q =>
    have k := key x q rfl
    rcases h with h | h | h | h | h | h | h | h | h | h | h <;> subst h <;> simp [signs, List.find?, List.isPrefixOf] at k ⊢
    · rw [show (61 == x) = false by simpa using fun e => k e.symm]
    · rw [show (62 == x) = false by simpa using fun e => k.1 e.symm]
theorem tokLen_great {c : Nat} {r : List Nat} (h1 : small c = false) (h2 : great c = true) : tokLen (c :: r) = some (.maker, 1 + runLen small (r.take 7)) := by
  simp only [tokLen, h1, h2, if_true, Bool.false_eq_true, if_false]
theorem tokLen_figure {c : Nat} {r : List Nat} (h1 : small c = false) (h2 : great c = false) (h3 : figure c = true) : tokLen (c :: r) = some (.number, if c = 48 then 1 else 1 + runLen figure r) := by
  simp only [tokLen, h1, h2, h3, if_true, Bool.false_eq_true, if_false]
theorem tokAt_of {s : List Nat} {t : Srt} {n : Nat} (h : tokLen s = some (t, n)) (ht : t ≠ .sign) (hb : behind s n = false) : tokAt s = .ok (t, n) := by
  unfold tokAt
  rw [h]
  simp only [ht, hb, if_false, Bool.false_eq_true]
theorem tok_valid {t : Srt} {w c : List Nat} (hv : Valid t w) (hc : compat (some (t, w)) c) : tokAt (w ++ c) = .ok (t, w.length) := by
  have key : t ≠ .sign → ∀ x q, c = x :: q → alnum x = false := by
    intro ht x q e
    subst e
    simpa [compat, ht] using hc
  have smallCase : ∀ (w : List Nat), w ≠ [] → w.length ≤ 8 → (∀ c ∈ w, small c = true) → (∀ x q, c = x :: q → alnum x = false) → tokAt (w ++ c) = .ok (if words.contains w = true then .word else .name, w.length) := by
    intro w h1 h2 h3 h4
    cases w with
    | nil => exact absurd rfl h1
    | cons a r =>
      have ha := h3 a (by simp)
      have hr : runLen small ((r ++ c).take 7) = r.length := run7 (fun x hx => h3 x (by simp [hx])) (by simpa using h2) fun x q e => (alnum_parts (h4 x q e)).1
      have hl : (a :: r ++ c).take (1 + r.length) = a :: r := by
        rw [show 1 + r.length = (a :: r).length by simp; omega]
        exact List.take_left
      have hb : behind (a :: r ++ c) (1 + r.length) = false := by
        rw [show 1 + r.length = (a :: r).length by simp; omega]
        exact behind_app h4
      have ht : ∀ b : Bool, (if b = true then Srt.word else Srt.name) ≠ .sign := by intro b; cases b <;> decide
      rw [List.cons_append] at hl hb ⊢
      unfold tokAt tokLen
      simp only [ha, if_true, hr, hl, hb]
      rw [if_neg (ht _)]
      simp
      omega
  cases t with
  | name =>
    obtain ⟨h1, h2, h3, h4⟩ := hv
    rw [smallCase w h1 h2 h3 (key (by decide)), h4]
    rfl
  | word =>
    obtain ⟨h1, h2, h3⟩ := words_small w hv
    rw [smallCase w h1 h2 h3 (key (by decide)), if_pos (by simpa using (show w ∈ words from hv))]
  | maker =>
    obtain ⟨a, r, rfl, ha, hl7, h3⟩ := hv
    have h4 := key (by decide)
    have hs := (great_not ha).1
    have hr : runLen small ((r ++ c).take 7) = r.length := run7 h3 hl7 fun x q e => (alnum_parts (h4 x q e)).1
    have hb : behind (a :: r ++ c) (1 + r.length) = false := by
      rw [show 1 + r.length = (a :: r).length by simp; omega]
      exact behind_app h4
    rw [List.cons_append] at hb ⊢
    rw [tokAt_of (by rw [tokLen_great hs ha, hr]) (by decide) hb]
    simp
    omega
  | number =>
    have h4 := key (by decide)
    have fin : ∀ (a : Nat) (r : List Nat), figure a = true → (if a = 48 then 1 else 1 + runLen figure (r ++ c)) = 1 + r.length → tokAt (a :: r ++ c) = .ok (.number, (a :: r).length) := by
      intro a r ha hn
      have hs := (figure_not ha).1
      have hg := (figure_not ha).2.1
      have hb : behind (a :: r ++ c) (1 + r.length) = false := by
        rw [show 1 + r.length = (a :: r).length by simp; omega]
        exact behind_app h4
      rw [List.cons_append] at hb ⊢
      rw [tokAt_of (by rw [tokLen_figure hs hg ha, hn]) (by decide) hb]
      simp
      omega
    rcases hv with rfl | ⟨a, r, rfl, ha, h0, h3⟩
    · exact fin 48 [] (by decide) (by simp)
    · refine fin a r ha ?_
      rw [if_neg h0]
      unfold runLen
      rw [takeWhile_app h3 fun x q e => (alnum_parts (h4 x q e)).2.2]
  | sign =>
    have hf := find_sign hv hc
    obtain ⟨a, r, rfl, h1, h2, h3, _, _⟩ := signs_not w hv
    rw [List.cons_append] at hf ⊢
    unfold tokAt tokLen
    simp [h1, h2, h3, hf]
theorem valid_cons {t : Srt} {w : List Nat} (hv : Valid t w) : ∃ a r, w = a :: r ∧ a ≠ 32 ∧ (a = 45 → t = .sign ∧ (w = [45] ∨ w = [45, 62])) := by
  have sm : ∀ (w : List Nat), w ≠ [] → (∀ c ∈ w, small c = true) → ∃ a r, w = a :: r ∧ a ≠ 32 ∧ a ≠ 45 := by
    intro w h1 h3
    cases w with
    | nil => exact absurd rfl h1
    | cons a r => exact ⟨a, r, rfl, (small_not (h3 a (by simp))).2.2.2, (small_not (h3 a (by simp))).2.2.1⟩
  cases t with
  | name =>
    obtain ⟨a, r, e, h1, h2⟩ := sm w hv.1 hv.2.2.1
    exact ⟨a, r, e, h1, fun q => absurd q h2⟩
  | word =>
    obtain ⟨k1, k2, k3⟩ := words_small w hv
    obtain ⟨a, r, e, h1, h2⟩ := sm w k1 k3
    exact ⟨a, r, e, h1, fun q => absurd q h2⟩
  | maker =>
    obtain ⟨a, r, rfl, ha, _, _⟩ := hv
    exact ⟨a, r, rfl, (great_not ha).2.2.2, fun q => absurd q (great_not ha).2.2.1⟩
  | number =>
    rcases hv with rfl | ⟨a, r, rfl, ha, _, _⟩
    · exact ⟨48, [], rfl, by decide, fun q => absurd q (by decide)⟩
    · exact ⟨a, r, rfl, (figure_not ha).2.2.2, fun q => absurd q (figure_not ha).2.2.1⟩
  | sign =>
    obtain ⟨a, r, rfl, _, _, _, h1, h2⟩ := signs_not w hv
    exact ⟨a, r, rfl, h1, fun q => ⟨rfl, h2 q⟩⟩
theorem lex_word {t : Srt} {w c : List Nat} (col : Nat) (hv : Valid t w) (hc : compat (some (t, w)) c) : lex col (w ++ c) = pre [(col, t, w)] (lex (col + w.length) c) := by
  have ht := tok_valid hv hc
  obtain ⟨a, r, rfl, h32, h45⟩ := valid_cons hv
  have hrem : ¬ (a = 45 ∧ (r ++ c).head? = some 45) := by
    rintro ⟨e, h⟩
    obtain ⟨rfl, q⟩ := h45 e
    rcases q with q | q
    · injection q with q1 q2
      subst q1 q2
      cases c with
      | nil => simp at h
      | cons x s =>
        simp at h
        subst h
        simp [compat] at hc
    · injection q with q1 q2
      subst q1 q2
      simp at h
  rw [List.cons_append] at ht ⊢
  rw [lex_tok hrem h32 ht]
  have e1 : (a :: (r ++ c)).take (a :: r).length = a :: r := by
    rw [← List.cons_append]
    exact List.take_left
  have e2 : (r ++ c).drop ((a :: r).length - 1) = c := by simp
  rw [e1, e2]
/-! ### a row that is written lexeme behind lexeme -/
def Pre (line : List Nat) (found : List Tok) (last : Option (Srt × List Nat)) : Prop := ∀ c, compat last c → lex 0 (line ++ c) = pre found (lex line.length c)
theorem Pre.nil : Pre [] [] none := fun c _ => (pre_nil _).symm
theorem Pre.blanks {line : List Nat} {found : List Tok} {last : Option (Srt × List Nat)} (h : Pre line found last) {g : Nat} (hg : last = none ∨ 0 < g) : Pre (line ++ List.replicate g 32) found none := fun c _ => by
  rw [List.append_assoc, h]
  · rw [lex_blanks]
    simp
  · rcases hg with rfl | hg
    · trivial
    · cases g with
      | zero => omega
      | succ g =>
        rw [List.replicate_succ, List.cons_append]
        cases last with
        | none => trivial
        | some p =>
          obtain ⟨t, w⟩ := p
          cases t <;> simp [compat, alnum, small, great, figure]
theorem Pre.weak {line : List Nat} {found : List Tok} {last : Option (Srt × List Nat)} (h : Pre line found none) : Pre line found last := fun c _ => h c trivial
theorem Pre.word {line : List Nat} {found : List Tok} {last : Option (Srt × List Nat)} {t : Srt} {w : List Nat} (h : Pre line found last) (hv : Valid t w) (hl : compat last w) : Pre (line ++ w) (found ++ [(line.length, t, w)]) (some (t, w)) := fun c hc => by
  have hl' : compat last (w ++ c) := by
    obtain ⟨a, r, rfl, _⟩ := valid_cons hv
    cases last with
    | none => trivial
    | some p => exact hl
  rw [List.append_assoc, h _ hl', lex_word _ hv hc, pre_pre]
  simp
theorem Pre.done {line : List Nat} {found : List Tok} {last : Option (Srt × List Nat)} (h : Pre line found last) : lex 0 line = .ok found := by
  have := h [] (by cases last <;> trivial)
  simpa [lex_nil, pre] using this
theorem Pre.remark {line : List Nat} {found : List Tok} {last : Option (Srt × List Nat)} (h : Pre line found last) (r : List Nat) : lex 0 (line ++ 32 :: 45 :: 45 :: r) = .ok found := by
  have := (h.blanks (g := 1) (.inr (by decide))) (45 :: 45 :: r) trivial
  rw [lex_remark] at this
  simpa [pre] using this
end Lx

set_option Elab.async false
set_option maxRecDepth 100000
/-! Rules that were lacking: a call by keywords alone, enumerate with a start, a power of a great number, a text times a number. -/
namespace Xr
open PySem PySem.Spec PyProof.Rows L2
/-! ### f(k = v), no other argument -/
section
variable {X : Cx} {CX : CXT} {k : Nat} {f : Addr} {fd : FuncData} {ps ks : List Str} {sp : Sp} {E : XK} {x : Str} {p pos : Pos} {kws : List Keyword} {tk : TA} {g : List Value → List Value → List Value} {gV : List V → List V → List V}
theorem pe_callK0 (F : FnOk X.prog X.w X.K X.mg X.base CX k f fd ps sp) (hr : Room k X.A) (hg : Gl X x) (hm : X.mg x = some (.ref f))
    (hk : PySem.W.keepIn X.K (.ref f) = true) (hb : KBinds X.K fd ps ks g gV) (hx : Passes CX X E) (hkw : PK X kws tk)
    (hall : (backToKw pos (keywordEach kws X.env)).all (·.1.isSome) = true := by rfl)
    (hks : (backToKw pos (keywordEach kws X.env)).filterMap (·.1) = ks := by rfl) (hdb : (x == ("__debug__" : Str)) = false := by decide)
    (hpl : ((backTo pos (starEach [] X.env)).any (·.1) || (backToKw pos (keywordEach kws X.env)).any (·.1.isNone)) = false := by rfl) :
    PE X (.Call (.Name x p) [] kws pos) (tCallK sp gV E tNil tk) := by
  refine ⟨fun pins s σ H Q I h => wpAny_Call_Name_kw (ld_glob I hg hm ?_ hdb)⟩
  refine PySem.W.callWith_KW0 (h₀ := X.base) I.ok.mod.kin hk hall ?_ hpl
  refine thn (hkw.run pos pins s σ H _ I h) fun ws s2 ⟨zs, H2, I2, rz, q2⟩ => ⟨I2.kIn, ?_⟩
  rw [hks]
  exact run_fnk F hr hb hx I2 .nil rz q2
end
/-! ### a ** b, a great -/
def CPowW (i j : Int) : Prop := 0 ≤ j ∧ (Builtin.Int.intBits i : Int) * j ≤ 2 ^ 27
theorem op_powW {X : Cx} : OpR X (binaryOp .Pow) (rI CPowW fun i j => .int (i ^ j.toNat)) := opI fun _ _ _ _ _ _ _ hc q => PyProof.Rows.pow_int hc.1 hc.2 q
/-! ### a text times a number from 2 on -/
def timesS (z : Str) (n : Nat) : Str := ⟨(List.replicate n z.cps).foldl (· ++ ·) #[]⟩
theorem timesS_go (l : List (Array Nat)) : ∀ a : Array Nat, (l.foldl (· ++ ·) a).toList = a.toList ++ (l.map Array.toList).flatten := by
  induction l with
  | nil => intro a; simp
  | cons b l ih =>
    intro a
    rw [List.foldl_cons, ih]
    simp
theorem timesS_list (z : Str) (n : Nat) : (timesS z n).cps.toList = (List.replicate n z.cps.toList).flatten := by
  unfold timesS
  rw [timesS_go]
  simp
theorem timesS_len (z : Str) (n : Nat) : (timesS z n).length = n * z.length := by
  show (timesS z n).cps.size = n * z.cps.size
  rw [← Array.length_toList, timesS_list]
  simp
def rMulS : R2 := fun x y H Q => ∃ (z : Str) (n : Int), x = .str z ∧ y = .int n ∧ 0 ≤ n ∧ n ≤ 1000 ∧ 1 ≤ z.length ∧ z.length ≤ 1000 ∧ Q (.str (timesS z n.toNat)) H
theorem timesS_one (z : Str) : timesS z 1 = z := by
  unfold timesS
  simp [List.replicate]
theorem op_mulS {X : Cx} : OpR X (binaryOp .Mult) rMulS := by
  intro pins s σ H x y v u Q I rx ry h
  obtain ⟨z, n, rfl, rfl, h0, h1, h2, h3, q⟩ := h
  obtain ⟨t, rfl⟩ := rx
  obtain ⟨t', rfl⟩ := ry
  refine PySem.P.mul_str ?_ (fun a b => ?_) (fun a b => ?_) ?_
  · have e1 : ¬ n < -(2 ^ 63 : Int) := by omega
    have e2 : ¬ n ≥ 2 ^ 63 := by omega
    rw [decide_eq_false e1, decide_eq_false e2]
    rfl
  · have e3 : (1 : Int) ≤ n := by omega
    have e4 : (1000 : Int) ≤ (2 ^ 63 - 1) / n := by
      refine Int.le_ediv_of_mul_le (by omega) ?_
      omega
    omega
  · have e5 : z.length * n.toNat ≤ 1000 * 1000 := Nat.mul_le_mul h3 (by omega)
    have e6 : sizeLine = 16777216 := sizeLine_eq
    unfold Builtin.Str.tooLong
    exact decide_eq_false (by omega)
  · by_cases c : n < 1
    · rw [if_pos c]
      have e : n.toNat = 0 := by omega
      rw [e] at q
      exact ⟨by decide, ⟨.str Str.empty, H, I.tok _, ⟨_, rfl⟩, q⟩⟩
    · rw [if_neg c]
      have e7 : (z.length == 0) = false := by rw [beq_eq_false_iff_ne]; omega
      by_cases c1 : n = 1
      · subst c1
        have q' : Q (.str z) H := by
          rw [← timesS_one z]
          exact q
        rw [if_pos (by simp)]
        exact ⟨.str z, H, I, ⟨_, rfl⟩, q'⟩
      · have e8 : (n == 1 || z.length == 0) = false := by rw [e7, Bool.or_false, beq_eq_false_iff_ne]; exact c1
        rw [e8]
        rw [if_neg Bool.false_ne_true]
        refine ⟨?_, ⟨.str (timesS z n.toNat), H, I.tok _, ⟨_, rfl⟩, q⟩⟩
        have e5 : n.toNat * z.length ≤ 1000 * 1000 := Nat.mul_le_mul (by omega) h3
        have e6 : sizeLine = 16777216 := sizeLine_eq
        have e9 := timesS_len z n.toNat
        show (timesS z n.toNat).length ≤ sizeLine
        omega
/-! ### enumerate(list, start=k) -/
section
variable {M : Model} {A : Around} {E : Value → Shared → Prop} {s : Shared} {env : Env}
theorem callWith_tyKw {pos : Pos} {T : String} {e : Expr} {rest : List Expr} {kws : List Keyword} {Q : Value → Shared → Prop}
    (h : wpAny M A (spliced (backTo pos (starEach (e :: rest) env))) (fun vs s₁ => wpAny M A (evalAll ((backToKw pos (keywordEach kws env)).map (·.2))) (fun kvs s₂ =>
      wpAny M A (call (.type T) vs (((backToKw pos (keywordEach kws env)).filterMap (·.1)).zip kvs)) Q E s₂) E s₁) E s)
    (he : backTo pos (starEach (e :: rest) env) = (false, eval e env) :: backTo pos (starEach rest env)) (h1 : (backTo pos (starEach (e :: rest) env)).any (·.1) = false)
    (h2 : (backToKw pos (keywordEach kws env)).all (·.1.isSome) = true) (h3 : (backToKw pos (keywordEach kws env)).any (·.1.isNone) = false) :
    wpAny M A (callWith pos (.type T) [] (backTo pos (starEach (e :: rest) env)) (backToKw pos (keywordEach kws env))) Q E s := by
  unfold callWith
  rw [he] at h h1 ⊢
  have hh := evalArgs_kwB (f := .type T) (Q := fun a s₁ => wpAny M A (call (.type T) ([] ++ a.pos) a.kw) Q E s₁) h2 h
  refine wpAny_bind (wpAny_holding (wpAny_mono hh (fun a s₁ b => wpAny_bind (wpAny_standAt ?_)) fun _ _ z => z))
  simp only [h1, h3, Bool.or_false]
  exact wpAny_bind (wpAny_pure (wpAny_bind (wpAny_mono b (fun r s₂ c => wpAny_bind (wpAny_holding (wpAny_point (wpAny_pure c)))) fun _ _ z => z)))
end
/-- the turns: (k + i, x) in a new pair -/
def Itek (K : PySem.W.Frag) (a : Addr) (k : Int) : It where
  go i H := ∃ (xs : List V) (x : V), SqL K H a xs ∧ xs[i]? = some x
  yld i H v H' := ∃ T x, v = .ref T ∧ H T = none ∧ H' = upd H T (.tup [.int (k + (i : Nat)), x]) ∧ ∀ xs, SqL K H a xs → xs[i]? = some x
  stop i H := ∃ xs : List V, SqL K H a xs ∧ xs.length = i
theorem turn_enumk {P : Program} {w : World} {K : PySem.W.Frag} {elts : List Expr} {kk : Nat} {tpos : Pos} (a e it : Addr) (k : Int) :
    Turn P w K (.Tuple elts kk tpos) (Itek K a k) [e, it] e (fun i h => (∃ old, IsEnum h e it (k + (i : Nat)) old) ∧ h.IsListIter it a i ∧ e ≠ it) where
  mem := List.mem_cons_self
  obj i h st b hb := by
    obtain ⟨⟨old, he⟩, ⟨o, ho, _, hd⟩, _⟩ := st
    rcases List.mem_cons.mp hb with z | z
    · subst z; exact ⟨_, he, fun v q => nomatch q⟩
    · rw [List.mem_singleton] at z; subst z; exact ⟨o, ho, fun v q => by rw [hd] at q; cases q⟩
  keep i h h' st kp := ⟨st.1.elim fun old he => ⟨old, kp e List.mem_cons_self _ he⟩, st.2.1.at fun o q => kp it (by simp) o q, st.2.2⟩
  item := by
    intro X hP hw hK hc i pins s σ H E I hf st hg
    subst hP hw hK
    obtain ⟨⟨old, he⟩, hit, hne⟩ := st
    obtain ⟨xs, x, hq, hx⟩ := hg
    obtain ⟨its, rv, p, hz⟩ := I.list hq
    obtain ⟨u, hu, ru⟩ := rv.get hx
    have el := Heap.lt_size he
    have il : it < s.heap.objs.size := by
      obtain ⟨_, q, _⟩ := hit
      exact Heap.lt_size q
    have ha := p.isList
    have hh : X.A.in1.handled = none := I.ok.hd hc
    have nai : a ≠ it := fun z => by
      obtain ⟨o1, g1, c1, _⟩ := ha
      obtain ⟨o2, g2, c2, _⟩ := hit
      rw [z] at g1
      rw [g1] at g2
      cases g2
      rw [c1] at c2
      exact absurd c2 (by decide)
    have nae : e ≠ a := fun z => by
      obtain ⟨o1, g1, c1, _⟩ := ha
      rw [← z] at g1
      rw [show s.heap.get? e = _ from he] at g1
      cases g1
      injection c1 with c2
      exact absurd c2 (by decide)
    have lt : i < its.toArray.size := by
      have q := (List.getElem?_eq_some_iff.mp hu).1
      simpa using q
    have nef : e ∉ [it, a] := fun z => by
      rcases List.mem_cons.mp z with z | z
      · exact hne z
      · exact nae (List.mem_singleton.mp z)
    refine wpAny_pyNext_enum_itemC (Draws.list hh it a nai its.toArray) he ⟨hit, ha⟩ lt hne nef fun y h' tk hy ho hs' hT _ hk => ⟨_, rfl, wpAny_letOwnedTupleGo_enum (s := { s with heap := h', toks := tk + 1 }) ho fun h'' he' sb => ?_⟩
    have hit' := hs'.1
    have ey : y = u := by
      have q : its.toArray[i]? = some u := by simpa using hu
      rw [show its.toArray[i]? = some y from hy] at q
      exact Option.some.inj q
    subst ey
    have hT2 := (sb.2 _ (Nat.ne_of_gt el)).trans hT
    have old2 : ∀ b ob, b ∉ [e, it] → s.heap.get? b = some ob → h''.get? b = some ob := fun b ob hb q => by
      have n1 : b ≠ e := fun z => hb (by simp [z])
      have n2 : b ≠ it := fun z => hb (by simp [z])
      exact (sb.2 b n1).trans (hk b ob n1 n2 q)
    have I1 := I.turnedNew (ch := [e, it]) (t' := tk + 1) (ob := .tup [.int (k + (i : Nat)), x]) old2 hf (Nat.le_refl _) ⟨by show 2 ≤ sizeLine; decide, [.int (k + (i : Nat)) tk, y], .cons ⟨_, rfl⟩ (.cons ru .nil), _, hT2, rfl, _, rfl⟩
    refine ⟨.ref s.heap.objs.size, _, I1, rfl, ⟨_, x, rfl, I.hok.fresh (Nat.le_refl _), rfl, fun ys hy => by rw [I.list_inj hy hq]; exact hx⟩, ⟨⟨y, ?_⟩, hit'.at fun o q => (sb.2 it (Ne.symm hne)).trans q, hne⟩, fun b hb => ?_⟩
    · have e1 : k + ((i + 1 : Nat) : Int) = k + (i : Int) + 1 := by omega
      rw [e1]
      exact he'
    · have lb : b < s.heap.objs.size := by
        rcases List.mem_cons.mp hb with z | z
        · rw [z]; exact el
        · rw [List.mem_singleton.mp z]; exact il
      rw [upd_ne (Nat.ne_of_lt lb)]
      exact (hf b hb).1
  done := by
    intro X hP hw hK hc i pins s σ H E I hf st hg
    subst hP hw hK
    obtain ⟨⟨old, he⟩, hit, hne⟩ := st
    obtain ⟨xs, hq, hx⟩ := hg
    obtain ⟨its, rv, p, hz⟩ := I.list hq
    have f := hf it (by simp)
    have lx := rv.length
    have hh : X.A.in1.handled = none := I.ok.hd hc
    have ha := p.isList
    have nai : a ≠ it := fun z => by
      obtain ⟨o1, g1, c1, _⟩ := ha
      obtain ⟨o2, g2, c2, _⟩ := hit
      rw [z] at g1
      rw [g1] at g2
      cases g2
      rw [c1] at c2
      exact absurd c2 (by decide)
    have en : i = its.toArray.size := by
      rw [List.size_toArray]
      omega
    refine wpAny_pyNext_enum_endD (Draws.list hh it a nai its.toArray) he (by rw [← en]; exact ⟨hit, ha⟩) fun h' eb => ⟨rfl, ?_⟩
    exact I.turned (t' := s.toks) (fun b o hb q => eb b o hb q) f.1 f.2.1 f.2.2.2.1 f.2.2.2.2.1 f.2.2.2.2.2
  self A i s Q E st h := st.1.elim fun old he => wpAny_pyIter_enum he h
def iEnumk (K : PySem.W.Frag) (k : Int) (ta : TA) : TI := fun σ H R => ta σ H fun vs H1 => ∃ a xs, vs = [.ref a] ∧ SqL K H1 a xs ∧ R (Itek K a k) H1
theorem pi_enumk {X : Cx} {e : Expr} {ta : TA} {p pos tpos q1 q2 : Pos} {elts : List Expr} {kk j : Nat} {k : Int} (hg : Gl X "enumerate") (hm : X.mg "enumerate" = none) (ha : PA X [e] ta) (hk0 : -(2 ^ 62) ≤ k) (hk1 : k < 2 ^ 62)
    (he : backTo pos (starEach [e] X.env) = (false, eval e X.env) :: backTo pos (starEach [] X.env) := by rfl) (h1 : (backTo pos (starEach [e] X.env)).any (·.1) = false := by rfl)
    (h2 : (backToKw pos (keywordEach [⟨some "start", .Constant (.int k) j q1, q2⟩] X.env)).all (·.1.isSome) = true := by rfl) (h3 : (backToKw pos (keywordEach [⟨some "start", .Constant (.int k) j q1, q2⟩] X.env)).any (·.1.isNone) = false := by rfl) :
    PI X (.Tuple elts kk tpos) (.Call (.Name "enumerate" p) [e] [⟨some "start", .Constant (.int k) j q1, q2⟩] pos) (iEnumk X.K k ta) := by
  refine ⟨fun pins s σ H R I h => wpAny_Call_Name_kw (ld_blt I hg hm boot_enumerate ?_)⟩
  refine callWith_tyKw (thn (ha.run pos pins s σ H _ I h) fun us s1 ⟨vs, H1, I1, r1, q⟩ => ?_) he h1 h2 h3
  refine thn ((pk_cons (nm := some "start") (kpos := q2) (pe_int (i := k) (j := j) (pos := q1)) pk_nil).run pos pins s1 σ H1 (fun zs H2 => zs = [.int k] ∧ H2 = H1) I1 ⟨rfl, rfl⟩) fun ws s2 ⟨zs, H2, I2, r2, ez, eH⟩ => ?_
  subst ez eH
  obtain ⟨a, xs, ex, hq, q⟩ := q
  subst ex
  cases r1 with
  | cons r rr =>
    cases rr
    cases r
    cases r2 with
    | cons rk rr2 =>
      cases rr2
      obtain ⟨t, rfl⟩ := rk
      obtain ⟨its, rv, p', hz⟩ := I2.list hq
      refine enum_begins_start (begins_list a its.toArray) p'.isList (by omega) (by omega) fun h' he hit hsz hk => wpAny_pyIter_enum he ?_
      have I3 : Inv X pins σ H2 { s2 with heap := h' } := I2.kept (t' := s2.toks) hk
      have he' : IsEnum h' (s2.heap.objs.size + 1) s2.heap.objs.size (k + ((0 : Nat) : Int)) .none := by
        have z : k + ((0 : Nat) : Int) = k := by omega
        rw [z]
        exact he
      refine ⟨s2.heap.objs.size + 1, [s2.heap.objs.size + 1, s2.heap.objs.size], _, _, H2, rfl, I3, turn_enumk a (s2.heap.objs.size + 1) s2.heap.objs.size k, ⟨⟨.none, he'⟩, ⟨_, hit, rfl, rfl⟩, Nat.succ_ne_self _⟩, fun b hb => ?_, q⟩
      have hle : s2.heap.objs.size ≤ b := by
        rcases List.mem_cons.mp hb with z | z
        · rw [z]
          exact Nat.le_succ _
        · rw [List.mem_singleton.mp z]
          exact Nat.le_refl _
      exact I2.fpOk hle (I2.hok.fresh hle)
/-- for i, x in enumerate(list, start=k): the invariant's turns -/
theorem for_enumk {K : PySem.W.Frag} {a : Addr} {xs : List V} {k : Int} {g : TG} {tb : TS} {D : Ends} {σ : L2.St} {H : Hp} (Pv : Nat → L2.St → Hp → Prop) (h0 : Pv 0 σ H)
    (hl : ∀ i σ H, i ≤ xs.length → Pv i σ H → SqL K H a xs)
    (hs : ∀ i x T σ H, xs[i]? = some x → Pv i σ H → H T = none → g (.ref T) σ (upd H T (.tup [.int (k + (i : Nat)), x])) fun σ2 H2 => tb { D with nx := Pv (i + 1), ct := Pv (i + 1), bk := D.nx } σ2 H2)
    (hd : ∀ σ H, Pv xs.length σ H → D.nx σ H) :
    ∃ W : Nat → Nat → L2.St → Hp → Prop, (∃ m, W 0 m σ H) ∧ ∀ i m σ H, W i m σ H → ((Itek K a k).stop i H ∧ D.nx σ H) ∨ ((Itek K a k).go i H ∧ ∃ N : L2.St → Hp → Prop,
      (∀ σ' H', N σ' H' → ∃ m', m' < m ∧ W (i + 1) m' σ' H') ∧ ∀ x H', (Itek K a k).yld i H x H' → g x σ H' fun σ2 H2 => tb { D with nx := N, ct := N, bk := D.nx } σ2 H2) := by
  refine ⟨fun i m σ H => m = xs.length - i ∧ i ≤ xs.length ∧ Pv i σ H, ⟨xs.length, rfl, Nat.zero_le _, h0⟩, ?_⟩
  rintro i m σ H ⟨rfl, hi, p⟩
  have q := hl i σ H hi p
  by_cases c : i < xs.length
  · refine .inr ⟨⟨xs, xs[i], q, by simp [c]⟩, Pv (i + 1), fun σ' H' p' => ⟨_, by omega, rfl, c, p'⟩, ?_⟩
    rintro v H' ⟨T, x, rfl, nT, rfl, hx⟩
    exact hs i x T σ H (hx xs q) p nT
  · have e : xs.length = i := by omega
    exact .inl ⟨⟨xs, q, e⟩, hd σ H (by rw [e]; exact p)⟩
end Xr

set_option Elab.async false
set_option maxRecDepth 100000
/-! Texts as lists of codes, data under a heap that grows, lexemes as data. -/
namespace Hx
open PySem PySem.Spec PyProof.Rows L2
/-! ### texts -/
def ss (l : List Nat) : Str := ⟨l.toArray⟩
theorem ss_list (l : List Nat) : (ss l).cps.toList = l := List.toList_toArray
theorem ss_len (l : List Nat) : (ss l).length = l.length := List.size_toArray
theorem ss_of (z : Str) : ss z.cps.toList = z := by
  unfold ss
  rw [Array.toArray_toList]
theorem ss_app (a b : List Nat) : ss a ++ ss b = ss (a ++ b) := by
  show (⟨a.toArray ++ b.toArray⟩ : Str) = ⟨(a ++ b).toArray⟩
  simp
theorem ss_inj {a b : List Nat} (h : ss a = ss b) : a = b := by
  have := congrArg (fun z => z.cps.toList) h
  simpa [ss_list] using this
theorem ss_at {l : List Nat} {i c : Nat} (h : l[i]? = some c) : atI (ss l).cps.toList (i : Int) = some c := by
  rw [ss_list]
  exact atI_nat h
theorem starts_at {l g : List Nat} {i : Nat} (hi : i ≤ l.length) : Txt.startswith3 (ss l) (ss g) (i : Int) = g.isPrefixOf (l.drop i) := by
  unfold Txt.startswith3
  have e0 : fromIndex (ss l).length (i : Int) = i := by
    unfold fromIndex
    rw [if_neg (by omega)]
    omega
  rw [e0, ss_len, ss_len]
  have e1 : Builtin.Str.subAt (ss l) (ss g) i = ((l.drop i).take g.length == g) := by
    unfold Builtin.Str.subAt
    rw [ss_len]
    show ((l.toArray).extract i (i + g.length) == g.toArray) = _
    rw [List.extract_toArray]
    simp [List.extract_eq_take_drop]
  rw [e1]
  by_cases c : i + g.length ≤ l.length
  · rw [decide_eq_true c, Bool.true_and, Bool.eq_iff_iff, List.isPrefixOf_iff_prefix, beq_iff_eq]
    constructor
    · intro h
      exact ⟨(l.drop i).drop g.length, by
        conv => lhs; lhs; rw [← h]
        exact List.take_append_drop _ _⟩
    · rintro ⟨t, h⟩
      rw [← h, List.take_left]
  · rw [decide_eq_false c, Bool.false_and]
    symm
    rw [Bool.eq_false_iff]
    intro h
    rw [List.isPrefixOf_iff_prefix] at h
    have := h.length_le
    rw [List.length_drop] at this
    omega
theorem cut_ss {l : List Nat} {i j : Nat} (hi : i ≤ l.length) (hj : j ≤ l.length) : cutS (ss l) (some (i : Int)) (some (j : Int)) = ss ((l.drop i).take (j - i)) := by
  unfold cutS
  rw [ss_list, ss_len, HT.sIx_nat, HT.sIx_nat, Nat.min_eq_left hi, Nat.min_eq_left hj]
  rfl
/-! ### data under a heap that grows -/
theorem Same.seqT {K : PySem.W.Frag} {H H' : Hp} {a : Addr} {xs : List V} (e : Same H H') (h : SqT K H a xs) : SqT K H' a xs := by
  rcases h with (h | ⟨o, h⟩) | h
  · exact .inl (.inl (e _ _ h))
  · exact .inl (.inr ⟨o, e _ _ h⟩)
  · exact .inr h
theorem Same.new {H : Hp} {p : Addr} {o : HO} (n : H p = none) : Same H (upd H p o) := fun b u e => by
  rw [upd_ne (ne_of_none e n)]
  exact e
theorem Same.upd {G H : Hp} (e : Same G H) {p : Addr} {o : HO} (n : G p = none) : Same G (L2.upd H p o) := fun b u q => by
  rw [upd_ne (ne_of_none q n)]
  exact e _ _ q
theorem Same.both {G H : Hp} (e : Same G H) (p : Addr) (o : HO) : Same (L2.upd G p o) (L2.upd H p o) := fun b u q => by
  by_cases c : b = p
  · subst c
    rw [upd_same] at q ⊢
    exact q
  · rw [upd_ne c] at q ⊢
    exact e _ _ q
mutual
theorem Dp.same {K : PySem.W.Frag} {H H' : Hp} (e : Same H H') : ∀ (d : PyData) (v : V), Dp K H v d → Dp K H' v d
  | .none, _, h => by cases h; exact .non
  | .bool b, _, h => by cases h; exact .bl b
  | .int i, _, h => by cases h; exact .int i
  | .str x, _, h => by cases h; exact .str x
  | .list ds, _, h => by
    cases h with
    | lst a b => exact .lst (e.seq a) (DpAll.same e ds _ b)
  | .tuple ds, _, h => by
    cases h with
    | tup a b => exact .tup (Same.seqT e a) (DpAll.same e ds _ b)
  | .dict _, _, h => by cases h
theorem DpAll.same {K : PySem.W.Frag} {H H' : Hp} (e : Same H H') : ∀ (ds : List PyData) (vs : List V), DpAll K H vs ds → DpAll K H' vs ds
  | [], _, h => by cases h; exact .nil
  | d :: ds, _, h => by
    cases h with
    | cons a b => exact .cons (Dp.same e d _ a) (DpAll.same e ds _ b)
end
theorem DpAll.len {K : PySem.W.Frag} {H : Hp} : ∀ {vs : List V} {ds : List PyData}, DpAll K H vs ds → vs.length = ds.length
  | _, [], h => by cases h; rfl
  | _, d :: ds, h => by
    cases h with
    | cons a b => exact congrArg (· + 1) (DpAll.len b)
theorem DpAll.app {K : PySem.W.Frag} {H : Hp} : ∀ {vs ws : List V} {ds es : List PyData}, DpAll K H vs ds → DpAll K H ws es → DpAll K H (vs ++ ws) (ds ++ es)
  | _, _, [], _, h, h' => by cases h; exact h'
  | _, _, d :: ds, _, h, h' => by
    cases h with
    | cons a b => exact .cons a (DpAll.app b h')
theorem DpAll.get {K : PySem.W.Frag} {H : Hp} : ∀ {vs : List V} {ds : List PyData} {i : Nat} {v : V}, DpAll K H vs ds → vs[i]? = some v → ∃ d, ds[i]? = some d ∧ Dp K H v d
  | _, [], _, _, h, q => by cases h; simp at q
  | _, d :: ds, i, v, h, q => by
    cases h with
    | cons a b =>
      cases i with
      | zero => simp at q; subst q; exact ⟨d, rfl, a⟩
      | succ i => simpa using DpAll.get b (by simpa using q)
/-- H' holds all of H; F is a part of it that is new, all told -/
structure Newly (H H' F : Hp) : Prop where
  same : Same H H'
  sub : Same F H'
  fresh : ∀ b, F b ≠ none → H b = none
def join (F G : Hp) : Hp := fun b => match F b with
  | some o => some o
  | none => G b
theorem join_left {F G : Hp} : Same F (join F G) := fun b o e => by
  unfold join
  rw [e]
theorem join_none {F G : Hp} {b : Addr} (h1 : F b = none) (h2 : G b = none) : join F G b = none := by
  unfold join
  rw [h1]
  exact h2
theorem join_right {F G : Hp} (h : ∀ b, F b ≠ none → G b = none) : Same G (join F G) := fun b o e => by
  unfold join
  cases q : F b with
  | none => exact e
  | some u =>
    have := h b (by rw [q]; exact fun z => by cases z)
    rw [this] at e
    cases e
theorem join_same {F G H : Hp} (h1 : Same F H) (h2 : Same G H) : Same (join F G) H := fun b o e => by
  unfold join at e
  cases q : F b with
  | none =>
    rw [q] at e
    exact h2 _ _ e
  | some u =>
    rw [q] at e
    cases e
    exact h1 _ _ q
theorem join_fresh {F G H : Hp} (h1 : ∀ b, F b ≠ none → H b = none) (h2 : ∀ b, G b ≠ none → H b = none) : ∀ b, join F G b ≠ none → H b = none := fun b e => by
  unfold join at e
  cases q : F b with
  | none =>
    rw [q] at e
    exact h2 _ e
  | some u => exact h1 b (by rw [q]; exact fun z => by cases z)
/-! ### lexemes as data -/
def sortS : Lx.Srt → Str
  | .name => "name"
  | .word => "word"
  | .maker => "maker"
  | .number => "number"
  | .sign => "sign"
def tokD (k : Nat) (t : Lx.Tok) : PyData := .tuple [.tuple [.int (k : Int), .int ((t.1 : Int) + 1)], .str (sortS t.2.1), .str (ss t.2.2)]
def lexText : Nat → List (List Nat) → Except (Nat × Nat) (List PyData)
  | _, [] => .ok []
  | k, l :: r => match Lx.lex 0 l with
    | .error e => .error (k, e)
    | .ok f => match lexText (k + 1) r with
      | .error e => .error e
      | .ok ds => .ok (f.map (tokD k) ++ ds)
theorem sortS_ok : ∀ t : Lx.Srt, PyData.strOk (sortS t) = true := by intro t; cases t <;> decide +kernel
theorem ss_ok {w : List Nat} (h : ∀ c ∈ w, c < 1114112) : PyData.strOk (ss w) = true := by
  unfold PyData.strOk ss
  simpa using h
end Hx

set_option Elab.async false
set_option maxRecDepth 100000
/-! run_end and sign_end -/
namespace P01
open PySem L2 Hx Xr
def top (i : Nat) : Stmt := PySem.Challenge.pw_slumberway_k01_lexemes.main.body.getD i (.Pass ⟨0, 0, 0, 0⟩)
abbrev sLexemes : Stmt := top 11
abbrev sRowLex : Stmt := top 12
abbrev sLexAt : Stmt := top 13
abbrev sRunEnd : Stmt := top 14
abbrev sSignEnd : Stmt := top 15
abbrev zSmall : Str := "abcdefghijklmnopqrstuvwxyz"
abbrev zGreat : Str := "ABCDEFGHIJKLMNOPQRSTUVWXYZ"
abbrev zFig : Str := "0123456789"
def wordsV : List V := Lx.words.map fun w => V.str (ss w)
def signsV : List V := Lx.signs.map fun w => V.str (ss w)
/-- what the top has written, of the lexer -/
structure TxtL (K : PySem.W.Frag) (mg : Str → Option Value) (aW aS : Addr) : Prop where
  len : mg "len" = none
  small : ∃ t, mg "SMALL" = some (.str zSmall t)
  great : ∃ t, mg "GREAT" = some (.str zGreat t)
  fig : ∃ t, mg "FIGURES" = some (.str zFig t)
  longest : ∃ t, mg "LONGEST" = some (.int 8 t)
  remark : ∃ t, mg "REMARK" = some (.str ("--" : Str) t)
  words : mg "WORDS" = some (.ref aW)
  signs : mg "SIGNS" = some (.ref aS)
  wordsT : ∀ H, SqT K H aW wordsV
  signsT : ∀ H, SqT K H aS signsV
section
variable {P : Program} {w : World} {K : PySem.W.Frag} {mg : Str → Option Value} {base : Heap} {aW aS : Addr}
/-! ### run_end -/
def inZ (z : Str) (c : Nat) : Bool := decide (c ∈ z.cps.toList)
def runEnd (p : Nat → Bool) (l : List Nat) (a m : Nat) : Nat := a + Lx.runLen p ((l.drop a).take (m - a))
theorem runEnd_on {p : Nat → Bool} {l : List Nat} {a m c : Nat} (h : l[a]? = some c) (hm : a < m) (hp : p c = true) : runEnd p l (a + 1) m = runEnd p l a m := by
  have e : l.drop a = c :: l.drop (a + 1) := by
    obtain ⟨h1, h2⟩ := List.getElem?_eq_some_iff.mp h
    rw [List.drop_eq_getElem_cons h1, h2]
  have e2 : m - a = (m - (a + 1)) + 1 := by omega
  unfold runEnd Lx.runLen
  rw [e, e2, List.take_succ_cons]
  simp only [List.takeWhile, hp, List.length_cons]
  omega
theorem runEnd_no {p : Nat → Bool} {l : List Nat} {a m c : Nat} (h : l[a]? = some c) (hp : p c = false) : runEnd p l a m = a := by
  have e : l.drop a = c :: l.drop (a + 1) := by
    obtain ⟨h1, h2⟩ := List.getElem?_eq_some_iff.mp h
    rw [List.drop_eq_getElem_cons h1, h2]
  unfold runEnd Lx.runLen
  rw [e]
  cases m - a with
  | zero => simp
  | succ k => simp [List.takeWhile, hp]
theorem runEnd_end {p : Nat → Bool} {l : List Nat} {a m : Nat} (h : l.length ≤ a ∨ m ≤ a) : runEnd p l a m = a := by
  unfold runEnd Lx.runLen
  rcases h with h | h
  · rw [List.drop_eq_nil_of_le h]
    simp
  · rw [show m - a = 0 by omega]
    simp
theorem runEnd_le {p : Nat → Bool} {l : List Nat} {a m : Nat} (h : a ≤ l.length) : a ≤ runEnd p l a m ∧ runEnd p l a m ≤ l.length := by
  unfold runEnd Lx.runLen
  have h1 := (List.takeWhile_prefix p (l := (l.drop a).take (m - a))).length_le
  rw [List.length_take, List.length_drop] at h1
  omega
def spRunEnd : Sp := fun vs H Q _ => ∃ (l : List Nat) (a m : Nat) (z : Str), vs = [.str (ss l), .int a, .str z, .int m] ∧ a ≤ l.length ∧ l.length ≤ 1000 ∧ Q (.int (runEnd (inZ z) l a m : Nat)) H
theorem scR : FnScope ["row", "at", "signs", "most"] ["row", "at", "signs", "most"] (defScope sRunEnd) := ⟨rfl, rfl, rfl, by decide +kernel, rfl, by decide +kernel, by decide +kernel⟩
theorem ok_runEnd {f : Addr} {fd : FuncData} (F : Fun K "run_end" "run_end" sRunEnd f fd) (T : TxtL K mg aW aS) : FnOk P w K mg base CX0 1 f fd ["row", "at", "signs", "most"] spRunEnd := by
  refine F.ok scR (fun vs H Q E h => ?_) (fun cdv A outer s H vs Q E hr h => ?_)
  · obtain ⟨l, a, m, z, rfl, _⟩ := h
    rfl
  · obtain ⟨l, a, m, z, rfl, ha, hl, k⟩ := h
    refine ⟨_, pss_cons (ps_while PassesOwn.never
        (PW.pt (pw_and (pt_cmpR op_lt (pv 1) (pe_callB call_len (by rfl) T.len PySem.boot_len (pa_cons (pv 0) pa_nil)) (nomark _)) (pw_and (pt_cmpR op_lt (pv 1) (pv 3) (nomark _)) (pw_and1 (pt_cmpR op_in_sign (pe_ix ix_str (pv 0) (pv 1) (fun _ _ => rfl)) (pv 2) rfl)))))
        (pss_one (ps_aug (i := 1) scR.nd rfl (.inl rfl) pe_int ip_add)))
      (pss_one (ps_ret (pv 1))), ?_⟩
    refine ⟨fun n σ H' => ∃ b : Nat, n = l.length - b ∧ σ = [some (.str (ss l)), some (.int b), some (.str z), some (.int m)] ∧ H' = H ∧ b ≤ l.length ∧ runEnd (inZ z) l b m = runEnd (inZ z) l a m,
      ⟨_, a, rfl, rfl, rfl, ha, rfl⟩, ?_⟩
    · rintro n σ H' ⟨b, en, rfl, rfl, hb, eb⟩
      have stop : (l.length ≤ b ∨ m ≤ b) ∨ (∃ c, l[b]? = some c ∧ inZ z c = false) → Q (.int (b : Int)) H' := fun q => by
        have e : runEnd (inZ z) l b m = b := by
          rcases q with q | ⟨c, q1, q2⟩
          · exact runEnd_end q
          · exact runEnd_no q1 q2
        rw [← eb, e] at k
        exact k
      refine ⟨_, rfl, _, rfl, _, (ss l).length, rfl, ⟨by rw [ss_len, sizeLine_eq]; omega, rfl⟩, _, _, rfl, rfl, _, rfl, ?_⟩
      rw [ss_len]
      by_cases c1 : b < l.length
      · rw [decide_eq_true (by omega)]
        refine iteT ⟨_, rfl, _, rfl, _, _, rfl, rfl, _, rfl, ?_⟩
        by_cases c2 : b < m
        · rw [decide_eq_true (by omega)]
          have hc : l[b]? = some l[b] := by simp [c1]
          refine iteT ⟨_, rfl, _, rfl, _, _, l[b], rfl, rfl, by rw [ss_len, sizeLine_eq]; omega, ss_at hc, _, rfl, _, _, rfl, rfl, _, rfl, ?_⟩
          by_cases c3 : inZ z l[b] = true
          · have c3' : decide (l[b] ∈ z.cps.toList) = true := c3
            rw [c3']
            refine iteT ⟨_, fun _ _ q => q, _, rfl, _, _, rfl, rfl, l.length - (b + 1), by omega, b + 1, rfl, rfl, rfl, c1, ?_⟩
            rw [runEnd_on hc c2 c3]
            exact eb
          · have c3' : decide (l[b] ∈ z.cps.toList) = false := Bool.eq_false_iff.mpr c3
            rw [c3']
            exact iteF ⟨_, rfl, stop (.inr ⟨_, hc, c3'⟩)⟩
        · rw [decide_eq_false (by omega)]
          exact iteF (iteF ⟨_, rfl, stop (.inl (.inr (by omega)))⟩)
      · rw [decide_eq_false (by omega)]
        exact iteF (iteF ⟨_, rfl, stop (.inl (.inl (by omega)))⟩)
end
end P01

set_option Elab.async false
set_option maxRecDepth 100000
/-! sign_end and lexeme_at -/
namespace P01
open PySem L2 Hx Xr
/-! ### the mathematics -/
theorem small_in : inZ zSmall = Lx.small := by
  funext c
  have e : zSmall.cps.toList = List.range' 97 26 := by decide +kernel
  unfold inZ Lx.small
  rw [e, Bool.eq_iff_iff]
  simp only [decide_eq_true_eq, Bool.and_eq_true, List.mem_range'_1]
  omega
theorem great_in : inZ zGreat = Lx.great := by
  funext c
  have e : zGreat.cps.toList = List.range' 65 26 := by decide +kernel
  unfold inZ Lx.great
  rw [e, Bool.eq_iff_iff]
  simp only [decide_eq_true_eq, Bool.and_eq_true, List.mem_range'_1]
  omega
theorem fig_in : inZ zFig = Lx.figure := by
  funext c
  have e : zFig.cps.toList = List.range' 48 10 := by decide +kernel
  unfold inZ Lx.figure
  rw [e, Bool.eq_iff_iff]
  simp only [decide_eq_true_eq, Bool.and_eq_true, List.mem_range'_1]
  omega
theorem alnum_in (c : Nat) : decide (c ∈ ((zSmall ++ zGreat) ++ zFig).cps.toList) = Lx.alnum c := by
  have e : ((zSmall ++ zGreat) ++ zFig).cps.toList = zSmall.cps.toList ++ zGreat.cps.toList ++ zFig.cps.toList := by decide +kernel
  have h1 : inZ zSmall c = Lx.small c := by rw [small_in]
  have h2 : inZ zGreat c = Lx.great c := by rw [great_in]
  have h3 : inZ zFig c = Lx.figure c := by rw [fig_in]
  unfold Lx.alnum
  rw [← h1, ← h2, ← h3, e]
  unfold inZ
  rw [Bool.eq_iff_iff]
  simp only [decide_eq_true_eq, Bool.or_eq_true, List.mem_append]
theorem words_in (w : List Nat) : inV (.str (ss w)) wordsV = Lx.words.contains w := by
  unfold inV wordsV
  rw [List.any_map, List.contains_eq_any_beq]
  congr 1
  funext y
  show (ss y == ss w) = (w == y)
  rw [Bool.eq_iff_iff, beq_iff_eq, beq_iff_eq]
  exact ⟨fun h => (ss_inj h).symm, fun h => by rw [h]⟩
theorem tok_small {c : Nat} {r : List Nat} {t : Lx.Srt} {n : Nat} (hc : Lx.small c = true) (h : Lx.tokAt (c :: r) = .ok (t, n)) :
    n = 1 + Lx.runLen Lx.small (r.take 7) ∧ t = (if Lx.words.contains ((c :: r).take n) = true then .word else .name) ∧ Lx.behind (c :: r) n = false := by
  have e : Lx.tokLen (c :: r) = some (if Lx.words.contains ((c :: r).take (1 + Lx.runLen Lx.small (r.take 7))) = true then .word else .name, 1 + Lx.runLen Lx.small (r.take 7)) := by
    simp only [Lx.tokLen, hc, if_true]
  unfold Lx.tokAt at h
  rw [e] at h
  have ht : (if Lx.words.contains ((c :: r).take (1 + Lx.runLen Lx.small (r.take 7))) = true then Lx.Srt.word else Lx.Srt.name) ≠ .sign := by split <;> decide
  simp only [ht, if_false] at h
  split at h
  · cases h
  · rename_i hb
    cases h
    exact ⟨rfl, rfl, by simpa using hb⟩
theorem tok_great {c : Nat} {r : List Nat} {t : Lx.Srt} {n : Nat} (h1 : Lx.small c = false) (hc : Lx.great c = true) (h : Lx.tokAt (c :: r) = .ok (t, n)) :
    n = 1 + Lx.runLen Lx.small (r.take 7) ∧ t = .maker ∧ Lx.behind (c :: r) n = false := by
  unfold Lx.tokAt at h
  rw [Lx.tokLen_great h1 hc] at h
  simp only [(by decide : Lx.Srt.maker ≠ .sign), if_false] at h
  split at h
  · cases h
  · rename_i hb
    cases h
    exact ⟨rfl, rfl, by simpa using hb⟩
theorem tok_figure {c : Nat} {r : List Nat} {t : Lx.Srt} {n : Nat} (h1 : Lx.small c = false) (h2 : Lx.great c = false) (hc : Lx.figure c = true) (h : Lx.tokAt (c :: r) = .ok (t, n)) :
    n = (if c = 48 then 1 else 1 + Lx.runLen Lx.figure r) ∧ t = .number ∧ Lx.behind (c :: r) n = false := by
  unfold Lx.tokAt at h
  rw [Lx.tokLen_figure h1 h2 hc] at h
  generalize (if c = 48 then 1 else 1 + Lx.runLen Lx.figure r) = m at h ⊢
  simp only [(by decide : Lx.Srt.number ≠ .sign), if_false] at h
  split at h
  · cases h
  · rename_i hb
    cases h
    exact ⟨rfl, rfl, by simpa using hb⟩
theorem tok_sign {c : Nat} {r : List Nat} {t : Lx.Srt} {n : Nat} (h1 : Lx.small c = false) (h2 : Lx.great c = false) (hc : Lx.figure c = false) (h : Lx.tokAt (c :: r) = .ok (t, n)) :
    ∃ g, Lx.signs.find? (fun g => g.isPrefixOf (c :: r)) = some g ∧ t = .sign ∧ n = g.length := by
  unfold Lx.tokAt Lx.tokLen at h
  simp only [h1, h2, hc, Bool.false_eq_true, if_false] at h
  cases e : Lx.signs.find? (fun g => g.isPrefixOf (c :: r)) with
  | none => simp [e] at h
  | some g =>
    simp [e] at h
    exact ⟨g, rfl, h.1.symm, h.2.symm⟩
section
variable {P : Program} {w : World} {K : PySem.W.Frag} {mg : Str → Option Value} {base : Heap} {aW aS : Addr}
def spSignEnd : Sp := fun vs H Q _ => ∃ (k : Int) (l g : List Nat) (a : Nat), vs = [.int k, .str (ss l), .int a] ∧ a ≤ l.length ∧ l.length ≤ 1000 ∧ Lx.signs.find? (fun g => g.isPrefixOf (l.drop a)) = some g ∧ Q (.int (a + g.length : Nat)) H
theorem scS : FnScope ["number", "row", "at", "sign"] ["number", "row", "at"] (defScope sSignEnd) := ⟨rfl, rfl, rfl, by decide +kernel, rfl, by decide +kernel, by decide +kernel⟩
theorem ok_signEnd {f : Addr} {fd : FuncData} (F : Fun K "sign_end" "sign_end" sSignEnd f fd) (T : TxtL K mg aW aS) : FnOk P w K mg base CX0 1 f fd ["number", "row", "at"] spSignEnd := by
  refine F.ok scS (fun vs H Q E h => ?_) (fun cdv A outer s H vs Q E hr h => ?_)
  · obtain ⟨k, l, g, a, rfl, _⟩ := h
    rfl
  · obtain ⟨k, l, g, a, rfl, ha, hl, hg, q⟩ := h
    refine ⟨_, pss_cons (ps_for PassesOwn.never rfl (pi_tup (pe_glob (v := .ref aS) (by rfl) T.signs rfl)) (pg_name (i := 3) scS.nd rfl (.inl rfl))
        (pss_one (ps_if (pt_val (pe_bm PySem.F.plainAttrs_str PySem.F.slot_str_startswith PySem.F.type_str_startswith mt_startswith3 (pv 1) (pa_cons (pv 3) (pa_cons (pv 2) pa_nil))))
          (pss_one (ps_ret (pe_op op_add (pv 2) (pe_callB call_len (by rfl) T.len PySem.boot_len (pa_cons (pv 3) pa_nil))))) pss_nil)))
      pss_never, ?_⟩
    refine ⟨aS, rfl, ⟨_, T.signsT _⟩, for_tup (K := K) (a := aS) (xs := signsV) (fun i σ H' => ∃ v : Option V, σ = [some (.int k), some (.str (ss l)), some (.int a), v] ∧ H' = H ∧ (Lx.signs.drop i).find? (fun g => g.isPrefixOf (l.drop a)) = some g)
      ⟨none, rfl, rfl, hg⟩ (fun i σ H' _ _ => T.signsT _) ?_ ?_⟩
    · rintro i x σ H' hx ⟨v, rfl, rfl, hf⟩
      obtain ⟨u, hu, rfl⟩ : ∃ u, Lx.signs[i]? = some u ∧ x = V.str (ss u) := by
        unfold signsV at hx
        rw [List.getElem?_map] at hx
        cases e : Lx.signs[i]? with
        | none => rw [e] at hx; cases hx
        | some u => rw [e] at hx; exact ⟨u, rfl, (Option.some.inj hx).symm⟩
      have ed : Lx.signs.drop i = u :: Lx.signs.drop (i + 1) := by
        obtain ⟨h1, h2⟩ := List.getElem?_eq_some_iff.mp hu
        rw [List.drop_eq_getElem_cons h1, h2]
      rw [ed] at hf
      have hul : u.length ≤ 2 := by
        have : ∀ u ∈ Lx.signs, u.length ≤ 2 := by decide
        exact this u (List.mem_of_getElem? hu)
      refine ⟨_, rfl, rfl, _, rfl, _, rfl, _, _, _, rfl, rfl, _, rfl, ?_⟩
      rw [starts_at ha]
      by_cases c : u.isPrefixOf (l.drop a) = true
      · rw [c]
        have eg : u = g := by
          simp only [List.find?, c] at hf
          exact Option.some.inj hf
        subst eg
        refine iteT ⟨_, rfl, _, rfl, _, (ss u).length, rfl, ⟨by rw [ss_len, sizeLine_eq]; omega, rfl⟩, _, _, rfl, rfl, ?_⟩
        rw [ss_len]
        exact q
      · rw [Bool.eq_false_iff.mpr c]
        simp only [List.find?, Bool.eq_false_iff.mpr c] at hf
        exact iteF ⟨_, rfl, rfl, hf⟩
    · rintro σ H' ⟨v, _, _, hf⟩
      rw [show Lx.signs.drop signsV.length = [] by decide] at hf
      cases hf
end
end P01

set_option Elab.async false
set_option maxRecDepth 100000
/-! lexeme_at -/
namespace P01
open PySem L2 Hx Xr
section
variable {P : Program} {w : World} {K : PySem.W.Frag} {mg : Str → Option Value} {base : Heap} {aW aS : Addr}
theorem drop_cons {α : Type} {l : List α} {a : Nat} {c : α} (h : l[a]? = some c) : l.drop a = c :: l.drop (a + 1) := by
  obtain ⟨h1, h2⟩ := List.getElem?_eq_some_iff.mp h
  rw [List.drop_eq_getElem_cons h1, h2]
theorem behind_no {l : List Nat} {a n : Nat} (hb : Lx.behind (l.drop a) n = false) {c : Nat} (h : l[a + n]? = some c) : Lx.alnum c = false := by
  unfold Lx.behind at hb
  rw [List.drop_drop, drop_cons h] at hb
  exact hb
def spLexAt : Sp := fun vs H Q _ => ∃ (k : Int) (l : List Nat) (a n : Nat) (t : Lx.Srt), vs = [.int k, .str (ss l), .int a] ∧ a < l.length ∧ l.length ≤ 1000 ∧ Lx.tokAt (l.drop a) = .ok (t, n) ∧
  ∀ p, H p = none → Q (.ref p) (upd H p (.tup [.str (sortS t), .int (a + n : Nat)]))
theorem scL : FnScope ["number", "row", "at", "first", "end", "sort"] ["number", "row", "at"] (defScope sLexAt) := ⟨rfl, rfl, rfl, by decide +kernel, rfl, by decide +kernel, by decide +kernel⟩
set_option maxHeartbeats 4000000 in
theorem ok_lexAt {f fR fS : Addr} {fd fdR fdS : FuncData} (F : Fun K "lexeme_at" "lexeme_at" sLexAt f fd) (T : TxtL K mg aW aS)
    (FR : Fun K "run_end" "run_end" sRunEnd fR fdR) (bR : Binds K fdR ["row", "at", "signs", "most"] []) (gR : mg "run_end" = some (.ref fR))
    (FS : Fun K "sign_end" "sign_end" sSignEnd fS fdS) (bS : Binds K fdS ["number", "row", "at"] []) (gS : mg "sign_end" = some (.ref fS)) :
    FnOk P w K mg base CX0 2 f fd ["number", "row", "at"] spLexAt := by
  have GR : FnOk P w K mg base CX0 1 fR fdR ["row", "at", "signs", "most"] spRunEnd := ok_runEnd FR T
  have GS : FnOk P w K mg base CX0 1 fS fdS ["number", "row", "at"] spSignEnd := ok_signEnd FS T
  refine F.ok scL (fun vs H Q E h => ?_) (fun cdv A outer s H vs Q E hr h => ?_)
  · obtain ⟨k, l, a, n, t, rfl, _⟩ := h
    rfl
  · obtain ⟨k, l, a, n, t, rfl, ha, hl, ht, q⟩ := h
    obtain ⟨t1, m1⟩ := T.small
    obtain ⟨t2, m2⟩ := T.great
    obtain ⟨t3, m3⟩ := T.fig
    obtain ⟨t4, m4⟩ := T.longest
    refine ⟨_, pss_cons (ps_set (i := 3) scL.nd rfl (.inl rfl) (pe_ix ix_str (pv 1) (pv 2) (fun _ _ => rfl)))
      (C8.pss_cut (ps_if (pt_cmpR op_in_sign (pv 3) (pe_glob (v := .str zSmall) (by rfl) m1 ⟨_, rfl⟩) rfl)
          (pss_cons (ps_set (i := 4) scL.nd rfl (.inl rfl) (pe_call GR hr rfl gR FR.kp bR .nil pass0 (pa_cons (pv 1) (pa_cons (pe_op op_add (pv 2) pe_int) (pa_cons (pe_glob (v := .str zSmall) (by rfl) m1 ⟨_, rfl⟩) (pa_cons (pe_op op_add (pv 2) (pe_glob (v := .int 8) (by rfl) m4 ⟨_, rfl⟩)) pa_nil))))))
            (pss_one (ps_set (i := 5) scL.nd rfl (.inl rfl) (pe_ifExp (pt_cmpR op_in_seq (pe_slice sl_str (pv 1) (po_some (pv 2)) (po_some (pv 4))) (pe_glob (v := .ref aW) (by rfl) T.words rfl) rfl) pe_str pe_str))))
          (pss_one (ps_if (pt_cmpR op_in_sign (pv 3) (pe_glob (v := .str zGreat) (by rfl) m2 ⟨_, rfl⟩) rfl)
            (pss_cons (ps_set (i := 4) scL.nd rfl (.inl rfl) (pe_call GR hr rfl gR FR.kp bR .nil pass0 (pa_cons (pv 1) (pa_cons (pe_op op_add (pv 2) pe_int) (pa_cons (pe_glob (v := .str zSmall) (by rfl) m1 ⟨_, rfl⟩) (pa_cons (pe_op op_add (pv 2) (pe_glob (v := .int 8) (by rfl) m4 ⟨_, rfl⟩)) pa_nil))))))
              (pss_one (ps_set (i := 5) scL.nd rfl (.inl rfl) pe_str)))
            (pss_one (ps_if (pt_cmpR op_in_sign (pv 3) (pe_glob (v := .str zFig) (by rfl) m3 ⟨_, rfl⟩) rfl)
              (pss_cons (ps_set (i := 4) scL.nd rfl (.inl rfl) (pe_ifExp (pt_cmpR op_eq (pv 3) pe_str (nomark _)) (pe_op op_add (pv 2) pe_int)
                  (pe_call GR hr rfl gR FR.kp bR .nil pass0 (pa_cons (pv 1) (pa_cons (pe_op op_add (pv 2) pe_int) (pa_cons (pe_glob (v := .str zFig) (by rfl) m3 ⟨_, rfl⟩) (pa_cons (pe_callB call_len (by rfl) T.len PySem.boot_len (pa_cons (pv 1) pa_nil)) pa_nil)))))))
                (pss_one (ps_set (i := 5) scL.nd rfl (.inl rfl) pe_str)))
              (pss_one (ps_ret (pe_tup (pa_cons pe_str (pa_cons (pe_call GS hr rfl gS FS.kp bS .nil pass0 (pa_cons (pv 0) (pa_cons (pv 1) (pa_cons (pv 2) pa_nil)))) pa_nil))))))))))
      (pss_cons (ps_if (PW.pt (pw_and (pt_cmpR op_lt (pv 4) (pe_callB call_len (by rfl) T.len PySem.boot_len (pa_cons (pv 1) pa_nil)) (nomark _))
          (pw_and1 (pt_cmpR op_in_sign (pe_ix ix_str (pv 1) (pv 4) (fun _ _ => rfl)) (pe_op op_add_str (pe_op op_add_str (pe_glob (v := .str zSmall) (by rfl) m1 ⟨_, rfl⟩) (pe_glob (v := .str zGreat) (by rfl) m2 ⟨_, rfl⟩)) (pe_glob (v := .str zFig) (by rfl) m3 ⟨_, rfl⟩)) rfl))))
          pss_never pss_nil)
        (pss_one (ps_ret (pe_tup (pa_cons (pv 5) (pa_cons (pv 4) pa_nil))))))), ?_⟩
    have hc : l[a]? = some l[a] := by simp [ha]
    have ed := drop_cons hc
    rw [ed] at ht
    refine ⟨_, rfl, _, rfl, _, _, l[a], rfl, rfl, by rw [ss_len, sizeLine_eq]; omega, ss_at hc, ?_⟩
    refine ⟨fun σ' H' => H' = H ∧ σ' = [some (.int k), some (.str (ss l)), some (.int a), some (.str ⟨#[l[a]]⟩), some (.int (a + n : Nat)), some (.str (sortS t))] ∧ Lx.behind (l.drop a) n = false ∧ a + n ≤ l.length, ?_, ?_⟩
    · have small7 : runEnd (inZ zSmall) l (a + 1) (a + 8) = a + (1 + Lx.runLen Lx.small ((l.drop (a + 1)).take 7)) := by
        unfold runEnd
        rw [small_in, show a + 8 - (a + 1) = 7 by omega]
        omega
      have le7 : a + (1 + Lx.runLen Lx.small ((l.drop (a + 1)).take 7)) ≤ l.length := by
        rw [← small7]
        exact (runEnd_le (by omega)).2
      refine ⟨_, rfl, _, _, rfl, rfl, _, rfl, ?_⟩
      have e1 : decide (l[a] ∈ zSmall.cps.toList) = Lx.small l[a] := by
        have := congrFun small_in l[a]
        exact this
      have e2 : decide (l[a] ∈ zGreat.cps.toList) = Lx.great l[a] := by
        have := congrFun great_in l[a]
        exact this
      have e3 : decide (l[a] ∈ zFig.cps.toList) = Lx.figure l[a] := by
        have := congrFun fig_in l[a]
        exact this
      rw [e1]
      by_cases c1 : Lx.small l[a] = true
      · rw [c1]
        obtain ⟨n1, n2, n3⟩ := tok_small c1 ht
        rw [← ed] at n2 n3
        subst n1
        refine iteT ⟨_, rfl, _, rfl, _, _, rfl, rfl, _, rfl, _, _, rfl, rfl, l, a + 1, a + 8, zSmall, rfl, by omega, hl, ?_⟩
        rw [small7]
        refine ⟨_, rfl, _, rfl, _, rfl, _, rfl, _, rfl, _, rfl, by rw [ss_len, sizeLine_eq]; omega, aW, wordsV, rfl, .inr (T.wordsT _), rfl, by decide +kernel, _, rfl, ?_⟩
        rw [cut_ss (by omega) le7, Nat.add_sub_cancel_left]
        show (if inV (V.str (ss ((l.drop a).take (1 + Lx.runLen Lx.small ((l.drop (a + 1)).take 7))))) wordsV = true then _ else _)
        rw [words_in]
        by_cases c4 : Lx.words.contains ((l.drop a).take (1 + Lx.runLen Lx.small ((l.drop (a + 1)).take 7))) = true
        · rw [if_pos c4] at n2
          subst n2
          rw [c4]
          exact iteT ⟨rfl, rfl, n3, le7⟩
        · rw [if_neg c4] at n2
          subst n2
          rw [Bool.eq_false_iff.mpr c4]
          exact iteF ⟨rfl, rfl, n3, le7⟩
      · rw [Bool.eq_false_iff.mpr c1]
        refine iteF ⟨_, rfl, _, _, rfl, rfl, _, rfl, ?_⟩
        rw [e2]
        by_cases c2 : Lx.great l[a] = true
        · rw [c2]
          obtain ⟨n1, rfl, n3⟩ := tok_great (Bool.eq_false_iff.mpr c1) c2 ht
          rw [← ed] at n3
          subst n1
          refine iteT ⟨_, rfl, _, rfl, _, _, rfl, rfl, _, rfl, _, _, rfl, rfl, l, a + 1, a + 8, zSmall, rfl, by omega, hl, ?_⟩
          rw [small7]
          exact ⟨rfl, rfl, n3, le7⟩
        · rw [Bool.eq_false_iff.mpr c2]
          refine iteF ⟨_, rfl, _, _, rfl, rfl, _, rfl, ?_⟩
          rw [e3]
          by_cases c3 : Lx.figure l[a] = true
          · rw [c3]
            obtain ⟨n1, rfl, n3⟩ := tok_figure (Bool.eq_false_iff.mpr c1) (Bool.eq_false_iff.mpr c2) c3 ht
            rw [← ed] at n3
            refine iteT ⟨_, rfl, rfl, _, rfl, ?_⟩
            have e0 : decide (V.str ⟨#[l[a]]⟩ = V.str ("0" : Str)) = decide (l[a] = 48) := by
              have z : ("0" : Str) = ⟨#[48]⟩ := by decide +kernel
              rw [z, Bool.eq_iff_iff, decide_eq_true_eq, decide_eq_true_eq]
              constructor
              · intro h
                injection h with h
                injection h with h
                have := congrArg Array.toList h
                simpa using this
              · intro h
                rw [h]
            show (if decide (V.str ⟨#[l[a]]⟩ = V.str ("0" : Str)) = true then _ else _)
            rw [e0]
            by_cases c4 : l[a] = 48
            · rw [if_pos c4] at n1
              subst n1
              rw [decide_eq_true c4]
              exact iteT ⟨_, rfl, _, _, rfl, rfl, rfl, rfl, n3, by omega⟩
            · rw [if_neg c4] at n1
              rw [decide_eq_false c4]
              have re : runEnd (inZ zFig) l (a + 1) l.length = a + n := by
                unfold runEnd
                rw [fig_in, List.take_of_length_le (by rw [List.length_drop]; omega), n1]
                omega
              refine iteF ⟨_, rfl, _, rfl, _, _, rfl, rfl, _, rfl, _, (ss l).length, rfl, ⟨by rw [ss_len, sizeLine_eq]; omega, rfl⟩, l, a + 1, l.length, zFig, by rw [ss_len]; rfl, by omega, hl, ?_⟩
              rw [re]
              exact ⟨rfl, rfl, n3, by rw [← re]; exact (runEnd_le (by omega)).2⟩
          · rw [Bool.eq_false_iff.mpr c3]
            obtain ⟨g, hg, rfl, rfl⟩ := tok_sign (Bool.eq_false_iff.mpr c1) (Bool.eq_false_iff.mpr c2) (Bool.eq_false_iff.mpr c3) ht
            refine iteF ⟨_, rfl, _, rfl, _, rfl, k, l, g, a, rfl, by omega, hl, by rw [ed]; exact hg, by show 2 ≤ sizeLine; decide, q⟩
    · rintro σ' H' ⟨rfl, rfl, hb, hn⟩
      refine ⟨_, rfl, _, rfl, _, (ss l).length, rfl, ⟨by rw [ss_len, sizeLine_eq]; omega, rfl⟩, _, _, rfl, rfl, _, rfl, ?_⟩
      rw [ss_len]
      by_cases c1 : a + n < l.length
      · rw [decide_eq_true (by omega)]
        have hc2 : l[a + n]? = some l[a + n] := by simp [c1]
        refine iteT ⟨_, rfl, _, rfl, _, _, l[a + n], rfl, rfl, by rw [ss_len, sizeLine_eq]; omega, ss_at hc2, _, _, rfl, rfl, by decide +kernel, _, _, rfl, rfl, by decide +kernel, _, _, rfl, rfl, _, rfl, ?_⟩
        rw [alnum_in, behind_no hb hc2]
        exact iteF ⟨_, rfl, _, rfl, by show 2 ≤ sizeLine; decide, q⟩
      · rw [decide_eq_false (by omega)]
        exact iteF (iteF ⟨_, rfl, _, rfl, by show 2 ≤ sizeLine; decide, q⟩)
end
end P01

set_option Elab.async false
set_option maxRecDepth 100000
/-! row_lexemes -/
namespace P01
open PySem L2 Hx Xr
/-! ### the mathematics -/
theorem tokLen_le {s : List Nat} {t : Lx.Srt} {n : Nat} (h : Lx.tokLen s = some (t, n)) : 1 ≤ n ∧ n ≤ s.length := by
  cases s with
  | nil => cases h
  | cons c r =>
    have r7 : Lx.runLen Lx.small (r.take 7) ≤ r.length := by
      have h1 := (List.takeWhile_prefix Lx.small (l := r.take 7)).length_le
      rw [List.length_take] at h1
      unfold Lx.runLen
      omega
    have rf : Lx.runLen Lx.figure r ≤ r.length := (List.takeWhile_prefix Lx.figure (l := r)).length_le
    unfold Lx.tokLen at h
    simp only at h
    split at h
    · cases h
      simp only [List.length_cons]
      omega
    · split at h
      · cases h
        simp only [List.length_cons]
        omega
      · split at h
        · injection h with h
          injection h with h1 h2
          subst h2
          simp only [List.length_cons]
          split <;> omega
        · split at h
          · rename_i g hg
            cases h
            have h1 : g ∈ Lx.signs := List.mem_of_find?_eq_some hg
            have h2 : 1 ≤ g.length := (by decide : ∀ g ∈ Lx.signs, 1 ≤ g.length) g h1
            have h3 := List.find?_some hg
            rw [List.isPrefixOf_iff_prefix] at h3
            exact ⟨h2, h3.length_le⟩
          · cases h
theorem tokAt_le {s : List Nat} {t : Lx.Srt} {n : Nat} (h : Lx.tokAt s = .ok (t, n)) : 1 ≤ n ∧ n ≤ s.length := by
  unfold Lx.tokAt at h
  cases e : Lx.tokLen s with
  | none => rw [e] at h; cases h
  | some q =>
    obtain ⟨t', n'⟩ := q
    rw [e] at h
    simp only at h
    split at h
    · cases h
      exact tokLen_le e
    · split at h
      · cases h
      · cases h
        exact tokLen_le e
theorem lex_else {b c : Nat} {r : List Nat} {ft toks : List Lx.Tok} (h1 : ¬ (c = 45 ∧ r.head? = some 45)) (h2 : c ≠ 32) (h : Lx.pre ft (Lx.lex b (c :: r)) = .ok toks) :
    ∃ t n, Lx.tokAt (c :: r) = .ok (t, n) ∧ Lx.pre (ft ++ [(b, t, (c :: r).take n)]) (Lx.lex (b + n) ((c :: r).drop n)) = .ok toks := by
  rw [Lx.lex.eq_def] at h
  simp only [h1, if_false, h2] at h
  cases e : Lx.tokAt (c :: r) with
  | error k => rw [e] at h; cases h
  | ok q =>
    obtain ⟨t, n⟩ := q
    rw [e] at h
    simp only [Lx.pre_pre] at h
    have hn := (tokAt_le e).1
    refine ⟨t, n, rfl, ?_⟩
    have ed : (c :: r).drop n = r.drop (n - 1) := by
      obtain ⟨m, rfl⟩ : ∃ m, n = m + 1 := ⟨n - 1, by omega⟩
      rfl
    rw [ed]
    exact h
theorem head_drop {l : List Nat} {b c : Nat} (h : l[b]? = some c) : ([45, 45] : List Nat).isPrefixOf (l.drop b) = decide (c = 45 ∧ (l.drop (b + 1)).head? = some 45) := by
  rw [drop_cons h, Bool.eq_iff_iff, decide_eq_true_eq]
  cases l.drop (b + 1) with
  | nil => simp [List.isPrefixOf]
  | cons x r =>
    simp [List.isPrefixOf]
    constructor
    · rintro ⟨rfl, rfl⟩
      exact ⟨rfl, rfl⟩
    · rintro ⟨rfl, rfl⟩
      exact ⟨rfl, rfl⟩
section
variable {P : Program} {w : World} {K : PySem.W.Frag} {mg : Str → Option Value} {base : Heap} {aW aS : Addr}
def spRowLex (K : PySem.W.Frag) : Sp := fun vs H Q _ => ∃ (k : Nat) (l : List Nat) (toks : List Lx.Tok), vs = [.int k, .str (ss l)] ∧ l.length ≤ 1000 ∧ Lx.lex 0 l = .ok toks ∧
  ∀ (H' F : Hp) (p : Addr) (items : List V), Newly H H' F → H p = none → F p = none → H' p = some (.lst items) → DpAll K F items (toks.map (tokD k)) → Q (.ref p) H'
theorem scW : FnScope ["number", "row", "told", "at", "sort", "end"] ["number", "row"] (defScope sRowLex) := ⟨rfl, rfl, rfl, by decide +kernel, rfl, by decide +kernel, by decide +kernel⟩
set_option maxHeartbeats 4000000 in
theorem ok_rowLex {f fL fR fS : Addr} {fd fdL fdR fdS : FuncData} (F : Fun K "row_lexemes" "row_lexemes" sRowLex f fd) (T : TxtL K mg aW aS)
    (FL : Fun K "lexeme_at" "lexeme_at" sLexAt fL fdL) (bL : Binds K fdL ["number", "row", "at"] []) (gL : mg "lexeme_at" = some (.ref fL))
    (FR : Fun K "run_end" "run_end" sRunEnd fR fdR) (bR : Binds K fdR ["row", "at", "signs", "most"] []) (gR : mg "run_end" = some (.ref fR))
    (FS : Fun K "sign_end" "sign_end" sSignEnd fS fdS) (bS : Binds K fdS ["number", "row", "at"] []) (gS : mg "sign_end" = some (.ref fS)) :
    FnOk P w K mg base CX0 3 f fd ["number", "row"] (spRowLex K) := by
  have GL : FnOk P w K mg base CX0 2 fL fdL ["number", "row", "at"] spLexAt := ok_lexAt FL T FR bR gR FS bS gS
  refine F.ok scW (fun vs H Q E h => ?_) (fun cdv A outer s H vs Q E hr h => ?_)
  · obtain ⟨k, l, toks, rfl, _⟩ := h
    rfl
  · obtain ⟨k, l, toks, rfl, hl, hx, q⟩ := h
    obtain ⟨t5, m5⟩ := T.remark
    refine ⟨_, pss_cons (ps_set (i := 2) scW.nd rfl (.inl rfl) (pe_lst pa_nil)) (pss_cons (ps_set (i := 3) scW.nd rfl (.inl rfl) pe_int)
      (pss_cons (ps_while PassesOwn.never
        (PW.pt (pw_and (pt_cmpR op_lt (pv 3) (pe_callB call_len (by rfl) T.len PySem.boot_len (pa_cons (pv 1) pa_nil)) (nomark _))
          (pw_and1 (pt_not (pt_val (pe_bm PySem.F.plainAttrs_str PySem.F.slot_str_startswith PySem.F.type_str_startswith mt_startswith3 (pv 1) (pa_cons (pe_glob (v := .str ("--" : Str)) (by rfl) m5 ⟨_, rfl⟩) (pa_cons (pv 3) pa_nil))))))))
        (pss_one (ps_if (pt_cmpR op_eq (pe_ix ix_str (pv 1) (pv 3) (fun _ _ => rfl)) pe_str (nomark _))
          (pss_one (ps_aug (i := 3) scW.nd rfl (.inl rfl) pe_int ip_add))
          (pss_cons (ps_asg (pe_call GL hr rfl gL FL.kp bL .nil pass0 (pa_cons (pv 0) (pa_cons (pv 1) (pa_cons (pv 3) pa_nil)))) (pg_tup rfl (pgs_cons (pg_name (i := 4) scW.nd rfl (.inl rfl)) (pgs_cons (pg_name (i := 5) scW.nd rfl (.inl rfl)) pgs_nil))))
            (pss_cons (ps_expr (pe_bm PySem.F.plainAttrs_list PySem.F.slot_list_append PySem.F.type_list_append mt_append (pv 2)
              (pa_cons (pe_tup (pa_cons (pe_tup (pa_cons (pv 0) (pa_cons (pe_op op_add (pv 3) pe_int) pa_nil))) (pa_cons (pv 4) (pa_cons (pe_slice sl_str (pv 1) (po_some (pv 3)) (po_some (pv 5))) pa_nil)))) pa_nil)))
              (pss_one (ps_set (i := 3) scW.nd rfl (.inl rfl) (pv 5))))))))
      (pss_one (ps_ret (pv 2))))), ?_⟩
    refine ⟨Nat.zero_le _, fun p np => ?_⟩
    refine ⟨fun n σ H' => ∃ (b : Nat) (G : Hp) (items : List V) (ft : List Lx.Tok) (v4 v5 : Option V), n = l.length - b ∧ σ = [some (.int k), some (.str (ss l)), some (.ref p), some (.int b), v4, v5] ∧ b ≤ l.length ∧
        Newly H H' G ∧ G p = none ∧ H' p = some (.lst items) ∧ DpAll K G items (ft.map (tokD k)) ∧ Lx.pre ft (Lx.lex b (l.drop b)) = .ok toks ∧ ft.length ≤ b,
      ⟨_, 0, fun _ => none, [], [], none, none, rfl, rfl, Nat.zero_le _, ⟨Same.new np, (fun b o e => nomatch e), fun b e => absurd rfl e⟩, rfl, upd_same, .nil, by rw [Lx.pre_nil]; exact hx, Nat.le_refl _⟩, ?_⟩
    rintro n σ H' ⟨b, G, items, ft, v4, v5, en, rfl, hb, nw, gp, hp, hd, hx, hf⟩
    have s1 := nw.same
    have s2 := nw.sub
    refine ⟨_, rfl, _, rfl, _, (ss l).length, rfl, ⟨by rw [ss_len, sizeLine_eq]; omega, rfl⟩, _, _, rfl, rfl, _, rfl, ?_⟩
    rw [ss_len]
    have fin : Lx.lex b (l.drop b) = .ok [] → Q (.ref p) H' := fun e => by
      rw [e] at hx
      have e1 : ft = toks := by simpa [Lx.pre] using hx
      subst e1
      exact q H' G p items nw np gp hp hd
    by_cases c1 : b < l.length
    · rw [decide_eq_true (by omega)]
      have hc : l[b]? = some l[b] := by simp [c1]
      have ed := drop_cons hc
      refine iteT ⟨_, rfl, rfl, _, rfl, _, _, _, rfl, rfl, _, rfl, ?_⟩
      have ez : ("--" : Str) = ss [45, 45] := by decide +kernel
      rw [ez, starts_at hb, head_drop hc]
      by_cases c2 : l[b] = 45 ∧ (l.drop (b + 1)).head? = some 45
      · rw [decide_eq_true c2]
        refine iteF ⟨_, rfl, fin ?_⟩
        rw [ed, Lx.lex.eq_def]
        simp only [c2, if_true]
        simp
      · rw [decide_eq_false c2]
        refine iteT ⟨_, fun _ _ z => z, ?_⟩
        refine ⟨_, rfl, _, rfl, _, _, l[b], rfl, rfl, by rw [ss_len, sizeLine_eq]; omega, ss_at hc, rfl, _, rfl, ?_⟩
        have e0 : decide (V.str ⟨#[l[b]]⟩ = V.str (" " : Str)) = decide (l[b] = 32) := by
          have z : (" " : Str) = ⟨#[32]⟩ := by decide +kernel
          rw [z, Bool.eq_iff_iff, decide_eq_true_eq, decide_eq_true_eq]
          constructor
          · intro h
            injection h with h
            injection h with h
            have := congrArg Array.toList h
            simpa using this
          · intro h
            rw [h]
        show (if decide (V.str ⟨#[l[b]]⟩ = V.str (" " : Str)) = true then _ else _)
        rw [e0]
        by_cases c3 : l[b] = 32
        · rw [decide_eq_true c3]
          refine iteT ⟨_, rfl, _, _, rfl, rfl, _, by omega, b + 1, G, items, ft, v4, v5, rfl, rfl, c1, nw, gp, hp, hd, ?_, by omega⟩
          rw [ed, c3, Lx.lex_blank] at hx
          exact hx
        · rw [decide_eq_false c3]
          rw [ed] at hx
          obtain ⟨t, n', ht, hx'⟩ := lex_else c2 c3 hx
          rw [← ed] at hx' ht
          have hn := tokAt_le ht
          rw [List.length_drop] at hn
          rw [List.drop_drop] at hx'
          refine iteF ⟨_, rfl, _, rfl, _, rfl, k, l, b, n', t, rfl, c1, hl, ht, fun p2 np2 => ?_⟩
          have pp2 : p ≠ p2 := ne_of_none hp np2
          refine ⟨p2, _, rfl, SqT.of upd_same, rfl, _, _, rfl, _, _, rfl, rfl, ?_⟩
          refine ⟨_, rfl, .inl ⟨rfl, _, SqL.of (by rw [upd_ne pp2]; exact hp)⟩, ?_⟩
          refine ⟨_, rfl, _, rfl, _, _, rfl, rfl, by show 2 ≤ sizeLine; decide, fun q1 nq1 => ?_⟩
          have q1p2 : p2 ≠ q1 := ne_of_none upd_same nq1
          have pq1 : p ≠ q1 := ne_of_none (by rw [upd_ne pp2]; exact hp) nq1
          refine ⟨_, rfl, _, rfl, _, rfl, _, rfl, _, rfl, _, rfl, _, rfl, by rw [ss_len, sizeLine_eq]; omega, by show 3 ≤ sizeLine; decide, fun q2 nq2 => ?_⟩
          have pq2 : p ≠ q2 := ne_of_none (by rw [upd_ne pq1, upd_ne pp2]; exact hp) nq2
          have q12 : q1 ≠ q2 := ne_of_none upd_same nq2
          have hlen : items.length = ft.length := by
            have := DpAll.len hd
            rwa [List.length_map] at this
          refine ⟨p, items, _, rfl, rfl, by rw [upd_ne pq2, upd_ne pq1, upd_ne pp2]; exact hp, by rw [sizeLine_eq]; omega, ?_⟩
          have nq1' : H' q1 = none := by rw [upd_ne (Ne.symm q1p2)] at nq1; exact nq1
          have nq2' : H' q2 = none := by
            rw [upd_ne (Ne.symm q12)] at nq2
            by_cases z : q2 = p2
            · rw [z, upd_same] at nq2; cases nq2
            · rw [upd_ne z] at nq2; exact nq2
          have g1 : G q1 = none := s2.free nq1'
          have g2 : G q2 = none := s2.free nq2'
          have g2' : (upd G q1 (.tup [.int k, .int ((b : Int) + 1)])) q2 = none := by rw [upd_ne (Ne.symm q12)]; exact g2
          refine ⟨_, rfl, _, by omega, b + n', upd (upd G q1 (.tup [.int k, .int ((b : Int) + 1)])) q2 (.tup [.ref q1, .str (sortS t), .str (ss ((l.drop b).take n'))]), items ++ [.ref q2], ft ++ [(b, t, (l.drop b).take n')], _, _, rfl, rfl, by omega, ⟨?_, ?_, ?_⟩, ?_, ?_, ?_, hx', ?_⟩
          · exact Same.upd (((s1.trans (Same.new np2)).trans (Same.new nq1)).trans (Same.new nq2)) np
          · rw [cut_ss hb (by omega), Nat.add_sub_cancel_left]
            refine Same.upd (Same.both (Same.both (Same.upd s2 (s2.free np2)) _ _) _ _) ?_
            rw [upd_ne pq2, upd_ne pq1]
            exact gp
          · intro z e
            by_cases z2 : z = q2
            · rw [z2]; exact s1.free nq2'
            · rw [upd_ne z2] at e
              by_cases z1 : z = q1
              · rw [z1]; exact s1.free nq1'
              · rw [upd_ne z1] at e
                exact nw.fresh z e
          · rw [upd_ne pq2, upd_ne pq1]
            exact gp
          · exact upd_same
          · rw [List.map_append]
            refine DpAll.app (DpAll.same ((Same.new g1).trans (Same.new g2')) _ _ hd) (.cons (.tup (SqT.of upd_same) (.cons (.tup (SqT.of (by rw [upd_ne q12]; exact upd_same)) (.cons (.int _) (.cons (.int _) .nil))) (.cons (.str _) (.cons (.str _) .nil)))) .nil)
          · rw [List.length_append, List.length_singleton]
            omega
    · rw [decide_eq_false (by omega)]
      refine iteF (iteF ⟨_, rfl, fin ?_⟩)
      rw [List.drop_eq_nil_of_le (by omega)]
      exact Lx.lex_nil _
end
end P01

set_option Elab.async false
set_option maxRecDepth 100000
/-! lexemes -/
namespace P01
open PySem L2 Hx Xr
theorem pre_ok {a toks : List Lx.Tok} {x : Except Nat (List Lx.Tok)} (h : Lx.pre a x = .ok toks) : ∃ l, x = .ok l ∧ toks = a ++ l := by
  cases x with
  | ok l => exact ⟨l, rfl, by simpa [Lx.pre] using h.symm⟩
  | error e => cases h
theorem lex_len : ∀ (n : Nat) (s : List Nat), s.length ≤ n → ∀ (b : Nat) (toks : List Lx.Tok), Lx.lex b s = .ok toks → toks.length ≤ s.length := by
  intro n
  induction n with
  | zero =>
    intro s hs b toks h
    have e : s = [] := List.length_eq_zero_iff.mp (by omega)
    subst e
    rw [Lx.lex_nil] at h
    cases h
    exact Nat.le_refl _
  | succ n ih =>
    intro s hs b toks h
    cases s with
    | nil =>
      rw [Lx.lex_nil] at h
      cases h
      exact Nat.le_refl _
    | cons c r =>
      simp only [List.length_cons] at hs ⊢
      by_cases h1 : c = 45 ∧ r.head? = some 45
      · rw [Lx.lex.eq_def] at h
        simp only [h1] at h
        simp at h
        subst h
        exact Nat.zero_le _
      · by_cases h2 : c = 32
        · rw [h2, Lx.lex_blank] at h
          have := ih r (by omega) _ _ h
          omega
        · rw [← Lx.pre_nil (Lx.lex b (c :: r))] at h
          obtain ⟨t, m, ht, hx⟩ := lex_else h1 h2 h
          have hm := tokAt_le ht
          obtain ⟨l, hl, rfl⟩ := pre_ok hx
          have := ih ((c :: r).drop m) (by rw [List.length_drop, List.length_cons]; omega) _ _ hl
          rw [List.length_drop, List.length_cons] at this
          simp only [List.length_append, List.length_cons, List.length_nil]
          simp only [List.length_cons] at hm
          omega
section
variable {P : Program} {w : World} {K : PySem.W.Frag} {mg : Str → Option Value} {base : Heap} {aW aS : Addr}
def spLexemes (K : PySem.W.Frag) : Sp := fun vs H Q _ => ∃ (a : Addr) (rows : List (List Nat)) (ds : List PyData), vs = [.ref a] ∧ SqL K H a (rows.map fun l => V.str (ss l)) ∧ rows.length ≤ 1000 ∧ (∀ l ∈ rows, l.length ≤ 1000) ∧ lexText 1 rows = .ok ds ∧
  ∀ (H' F : Hp) (p : Addr) (items : List V), Newly H H' F → H p = none → F p = none → H' p = some (.lst items) → DpAll K F items ds → Q (.ref p) H'
theorem scX : FnScope ["text", "told", "number", "row"] ["text"] (defScope sLexemes) := ⟨rfl, rfl, rfl, by decide +kernel, rfl, by decide +kernel, by decide +kernel⟩
set_option maxHeartbeats 4000000 in
theorem ok_lexemes {f fW fL fR fS : Addr} {fd fdW fdL fdR fdS : FuncData} (F : Fun K "lexemes" "lexemes" sLexemes f fd) (T : TxtL K mg aW aS) (me : mg "enumerate" = none)
    (FW : Fun K "row_lexemes" "row_lexemes" sRowLex fW fdW) (bW : Binds K fdW ["number", "row"] []) (gW : mg "row_lexemes" = some (.ref fW))
    (FL : Fun K "lexeme_at" "lexeme_at" sLexAt fL fdL) (bL : Binds K fdL ["number", "row", "at"] []) (gL : mg "lexeme_at" = some (.ref fL))
    (FR : Fun K "run_end" "run_end" sRunEnd fR fdR) (bR : Binds K fdR ["row", "at", "signs", "most"] []) (gR : mg "run_end" = some (.ref fR))
    (FS : Fun K "sign_end" "sign_end" sSignEnd fS fdS) (bS : Binds K fdS ["number", "row", "at"] []) (gS : mg "sign_end" = some (.ref fS)) :
    FnOk P w K mg base CX0 4 f fd ["text"] (spLexemes K) := by
  have GW : FnOk P w K mg base CX0 3 fW fdW ["number", "row"] (spRowLex K) := ok_rowLex FW T FL bL gL FR bR gR FS bS gS
  refine F.ok scX (fun vs H Q E h => ?_) (fun cdv A outer s H vs Q E hr h => ?_)
  · obtain ⟨a, rows, ds, rfl, _⟩ := h
    rfl
  · obtain ⟨a, rows, ds, rfl, hS, hl, hr1, hx, q⟩ := h
    refine ⟨_, pss_cons (ps_set (i := 1) scX.nd rfl (.inl rfl) (pe_lst pa_nil))
      (pss_cons (ps_for PassesOwn.never rfl (pi_enumk (k := 1) (by rfl) me (pa_cons (pv 0) pa_nil) (by decide) (by decide)) (pg_tup rfl (pgs_cons (pg_name (i := 2) scX.nd rfl (.inl rfl)) (pgs_cons (pg_name (i := 3) scX.nd rfl (.inl rfl)) pgs_nil)))
        (pss_one (ps_expr (pe_bm PySem.F.plainAttrs_list PySem.F.slot_list_extend PySem.F.type_list_extend mt_extend (pv 1) (pa_cons (pe_call GW hr rfl gW FW.kp bW .nil pass0 (pa_cons (pv 2) (pa_cons (pv 3) pa_nil))) pa_nil)))))
      (pss_one (ps_ret (pv 1)))), ?_⟩
    refine ⟨Nat.zero_le _, fun p np => ?_⟩
    refine ⟨_, rfl, a, _, rfl, (Same.new np).seq hS, for_enumk (K := K) (a := a) (xs := rows.map fun l => V.str (ss l)) (k := 1) (fun i σ H' => ∃ (G : Hp) (items : List V) (d1 d2 : List PyData) (v2 v3 : Option V), σ = [some (.ref a), some (.ref p), v2, v3] ∧
        Newly H H' G ∧ G p = none ∧ H' p = some (.lst items) ∧ DpAll K G items d1 ∧ d1.length ≤ 1000 * i ∧ lexText (1 + i) (rows.drop i) = .ok d2 ∧ ds = d1 ++ d2)
      ⟨fun _ => none, [], [], ds, none, none, rfl, ⟨Same.new np, (fun b o e => nomatch e), fun b e => absurd rfl e⟩, rfl, upd_same, .nil, Nat.zero_le _, hx, rfl⟩ (fun i σ H' _ ⟨_, _, _, _, _, _, _, nw, _⟩ => nw.same.seq hS) ?_ ?_⟩
    · rintro i x T σ H' hi ⟨G, items, d1, d2, v2, v3, rfl, nw, gp, hp, hd, hlen, hx2, rfl⟩ nT
      obtain ⟨u, hu, rfl⟩ : ∃ u, rows[i]? = some u ∧ x = V.str (ss u) := by
        rw [List.getElem?_map] at hi
        cases e : rows[i]? with
        | none => rw [e] at hi; cases hi
        | some u => rw [e] at hi; exact ⟨u, rfl, (Option.some.inj hi).symm⟩
      have hil : i < rows.length := (List.getElem?_eq_some_iff.mp hu).1
      have hul := hr1 u (List.mem_of_getElem? hu)
      have pT : p ≠ T := ne_of_none hp nT
      rw [drop_cons hu] at hx2
      unfold lexText at hx2
      cases e1 : Lx.lex 0 u with
      | error e => rw [e1] at hx2; cases hx2
      | ok toks =>
        rw [e1] at hx2
        simp only at hx2
        cases e2 : lexText (1 + i + 1) (rows.drop (i + 1)) with
        | error e => rw [e2] at hx2; cases hx2
        | ok d3 =>
          rw [e2] at hx2
          cases hx2
          have htl := lex_len _ u (Nat.le_refl _) 0 toks e1
          refine ⟨T, _, rfl, SqT.of upd_same, rfl, _, _, rfl, _, _, rfl, rfl, ?_⟩
          refine ⟨_, rfl, .inl ⟨rfl, _, SqL.of (by rw [upd_ne pT]; exact hp)⟩, ?_⟩
          have s1 := nw.same.trans (Same.new (o := .tup [.int (1 + (i : Nat)), .str (ss u)]) nT)
          refine ⟨_, rfl, _, rfl, 1 + i, u, toks, congrArg (fun z => [V.int z, V.str (ss u)]) (by omega : (1 : Int) + (i : Int) = ((1 + i : Nat) : Int)), hul, e1, fun H2 F2 p2 items2 nw2 np2 fp2 hp2 hd2 => ?_⟩
          have hp3 : H2 p = some (.lst items) := nw2.same _ _ (by rw [upd_ne pT]; exact hp)
          have pp2 : p ≠ p2 := ne_of_none (by rw [upd_ne pT]; exact hp) np2
          have hl2 := DpAll.len hd2
          have hl1 := DpAll.len hd
          rw [List.length_map] at hl2
          have nw2f : ∀ b, F2 b ≠ none → H' b = none := fun b e => by
            have z := nw2.fresh b e
            by_cases c : b = T
            · rw [c]; exact nT
            · rw [upd_ne c] at z; exact z
          refine ⟨p, p2, items, items2, rfl, rfl, hp3, hp2, by rw [sizeLine_eq]; omega, ?_⟩
          have fp : F2 p = none := by
            cases z : F2 p with
            | none => rfl
            | some o =>
              have := nw2f p (by rw [z]; exact fun y => by cases y)
              rw [hp] at this
              cases this
          refine ⟨join F2 G, items ++ items2, d1 ++ toks.map (tokD (1 + i)), d3, _, _, rfl, ⟨?_, ?_, ?_⟩, join_none fp gp, upd_same, ?_, ?_, rfl, by rw [List.append_assoc]⟩
          · exact Same.upd (s1.trans nw2.same) np
          · exact Same.upd (join_same nw2.sub (((nw.sub).trans (Same.new nT)).trans nw2.same)) (join_none fp gp)
          · exact join_fresh (fun b e => nw.same.free (nw2f b e)) nw.fresh
          · exact DpAll.app (DpAll.same (join_right fun b e => nw.sub.free (nw2f b e)) _ _ hd) (DpAll.same join_left _ _ hd2)
          · rw [List.length_append, List.length_map]
            omega
    · rintro σ H' ⟨G, items, d1, d2, v2, v3, rfl, nw, gp, hp, hd, hlen, hx2, rfl⟩
      rw [List.length_map, List.drop_length] at hx2
      unfold lexText at hx2
      cases hx2
      rw [List.append_nil] at q
      exact ⟨_, rfl, q H' G p items nw np gp hp hd⟩
end
end P01

set_option Elab.async false
set_option maxRecDepth 100000
/-! the law's purse: mixed, purse, take, at -/
namespace G01
open PySem L2 Hx Xr P01
abbrev sMixed : Stmt := top 17
abbrev sPurse : Stmt := top 18
abbrev sTake : Stmt := top 19
abbrev sAt : Stmt := top 20
section
variable {P : Program} {w : World} {K : PySem.W.Frag} {mg : Str → Option Value} {base : Heap}
def big : Int := 10 ^ 60 + 7
def spMixed : Sp := fun vs H Q _ => ∃ (c k : Int), vs = [.int c, .int k] ∧ 0 ≤ k ∧ k ≤ 100000000 ∧ ∀ m : Int, 0 ≤ m → m < 2 ^ 200 → Q (.int m) H
theorem scM : FnScope ["_law_cell", "_law_k", "_law_number"] ["_law_cell", "_law_k"] (defScope sMixed) := ⟨rfl, rfl, rfl, by decide +kernel, rfl, by decide +kernel, by decide +kernel⟩
theorem natAbs_lt {i : Int} {n : Nat} (h0 : 0 ≤ i) (h : i < 2 ^ n) : i.natAbs < 2 ^ n := by
  have e : ((2 ^ n : Nat) : Int) = (2 : Int) ^ n := by norm_cast
  omega
theorem ok_mixed {f : Addr} {fd : FuncData} (F : Fun K "_law_mixed" "_law_mixed" sMixed f fd) : FnOk P w K mg base CX0 1 f fd ["_law_cell", "_law_k"] spMixed := by
  refine F.ok scM (fun vs H Q E h => ?_) (fun cdv A outer s H vs Q E hr h => ?_)
  · obtain ⟨c, k, rfl, _⟩ := h
    rfl
  · obtain ⟨c, k, rfl, h0, h1, q⟩ := h
    refine ⟨_, pss_cons (ps_set (i := 2) scM.nd rfl (.inl rfl) (pe_op op_add (pe_op op_add (pe_op op_mulW (pe_op op_add (pe_op op_mod (pv 0) (pe_op op_add (pe_op op_pow pe_int pe_int) pe_int)) (pe_op op_mul pe_int (pv 1))) pe_int) (pe_op op_mul pe_int (pv 1))) pe_int))
      (pss_cons (ps_set (i := 2) scM.nd rfl (.inl rfl) (pe_op op_mod (pe_op op_mulW (pv 2) (pv 2)) (pe_op op_add (pe_op op_pow pe_int pe_int) pe_int)))
      (pss_one (ps_ret (pe_op op_mod (pe_op op_mulW (pe_op op_add (pv 2) pe_int) (pe_op op_add (pv 2) pe_int)) (pe_op op_add (pe_op op_pow pe_int pe_int) pe_int))))), ?_⟩
    have e18 : ((10 : Int) ^ Int.toNat 18 + 9) = 1000000000000000009 := by decide +kernel
    have e60 : ((10 : Int) ^ Int.toNat 60 + 7) = 1000000000000000000000000000000000000000000000000000000000007 := by decide +kernel
    refine ⟨_, rfl, _, _, rfl, rfl, ⟨by decide, by decide, by decide⟩, _, _, rfl, rfl, _, _, rfl, rfl, by show (0 : Int) < _; decide +kernel, ?_⟩
    rw [e18]
    refine ⟨_, rfl, _, _, rfl, rfl, .inl ⟨by decide, by decide⟩, _, _, rfl, rfl, ?_⟩
    have a0 : 0 ≤ c % 1000000000000000009 + 7 * k := by omega
    have a1 : c % 1000000000000000009 + 7 * k < 2 ^ 70 := by omega
    refine ⟨_, _, rfl, rfl, wide_mul (natAbs_lt a0 a1) (b := 100) (by decide) (by decide) (by decide) (by decide), ?_⟩
    generalize c % 1000000000000000009 + 7 * k = A at a0 a1 ⊢
    refine ⟨_, rfl, _, _, rfl, rfl, .inl ⟨by decide, by decide⟩, _, _, rfl, rfl, _, _, rfl, rfl, ?_⟩
    have b0 : 0 ≤ A * 739108512309184756019283746561 + 7919 * k + 1 := by omega
    have b1 : A * 739108512309184756019283746561 + 7919 * k + 1 < 2 ^ 175 := by omega
    dsimp only [tRet, tSeq, tAsg, gName, tOp, tVar, List.set]
    generalize A * 739108512309184756019283746561 + 7919 * k + 1 = N at b0 b1 ⊢
    refine ⟨_, rfl, _, rfl, _, _, rfl, rfl, wide_mul (natAbs_lt b0 b1) (natAbs_lt b0 b1) (by decide) (by decide) (by decide), _, _, rfl, rfl, ⟨by decide, by decide, by decide⟩, _, _, rfl, rfl, _, _, rfl, rfl, by show (0 : Int) < _; decide +kernel, ?_⟩
    rw [e60]
    have c0 : 0 ≤ N * N % 1000000000000000000000000000000000000000000000000000000000007 := Int.emod_nonneg _ (by decide)
    have c1 : N * N % 1000000000000000000000000000000000000000000000000000000000007 < 1000000000000000000000000000000000000000000000000000000000007 := Int.emod_lt_of_pos _ (by decide)
    dsimp only [tRet, tSeq, tAsg, gName, tOp, tVar, List.set]
    generalize N * N % 1000000000000000000000000000000000000000000000000000000000007 = M at c0 c1 ⊢
    have d1 : M + 40503 < 2 ^ 201 := by omega
    have d2 : M + 57 < 2 ^ 201 := by omega
    refine ⟨_, rfl, _, _, rfl, rfl, _, rfl, _, _, rfl, rfl, _, _, rfl, rfl, wide_mul (natAbs_lt (by omega) d1) (natAbs_lt (by omega) d2) (by decide) (by decide) (by decide), _, _, rfl, rfl, ⟨by decide, by decide, by decide⟩, _, _, rfl, rfl, _, _, rfl, rfl, by show (0 : Int) < _; decide +kernel, ?_⟩
    rw [e60]
    have f0 : 0 ≤ (M + 40503) * (M + 57) % 1000000000000000000000000000000000000000000000000000000000007 := Int.emod_nonneg _ (by decide)
    have f1 : (M + 40503) * (M + 57) % 1000000000000000000000000000000000000000000000000000000000007 < 1000000000000000000000000000000000000000000000000000000000007 := Int.emod_lt_of_pos _ (by decide)
    exact q _ f0 (by omega)
end
end G01

set_option Elab.async false
set_option maxRecDepth 100000
/-! the law's purse, take, at -/
namespace G01
open PySem L2 Hx Xr P01
def PurseAt (H : Hp) (a : Addr) (n : Int) : Prop := ∃ x z : Int, H a = some (.lst [.int x, .int n, .int z]) ∧ 0 ≤ x ∧ x < 2 ^ 2000 ∧ 0 ≤ z ∧ z < 2 ^ 62 ∧ 0 ≤ n
/-- all but what stands at a is kept -/
def But (a : Addr) (H H' : Hp) : Prop := ∀ b o, b ≠ a → H b = some o → H' b = some o
theorem But.of {a : Addr} {H H' : Hp} (h : Same H H') : But a H H' := fun b o _ e => h b o e
theorem But.refl (a : Addr) (H : Hp) : But a H H := fun _ _ _ e => e
theorem But.trans {a : Addr} {H H1 H2 : Hp} (h : But a H H1) (h' : But a H1 H2) : But a H H2 := fun b o n e => h' b o n (h b o n e)
theorem But.sub {a : Addr} {H H' F : Hp} (h : But a H H') (s : Same F H) (n : F a = none) : Same F H' := fun b o e => h b o (fun z => by rw [z, n] at e; cases e) (s b o e)
theorem But.free {a : Addr} {H H' : Hp} {n : Int} (h : But a H H') (p : PurseAt H' a n) {b : Addr} (e : H' b = none) : H b = none := by
  cases q : H b with
  | none => rfl
  | some o =>
    by_cases c : b = a
    · obtain ⟨x, z, hp, _⟩ := p
      rw [c, hp] at e
      cases e
    · rw [h b o c q] at e
      cases e
theorem But.upd {a : Addr} {H : Hp} {o : HO} : But a H (L2.upd H a o) := fun b u n e => by
  rw [upd_ne n]
  exact e
theorem PurseAt.ne {H : Hp} {a b : Addr} {n : Int} (p : PurseAt H a n) (e : H b = none) : a ≠ b := by
  obtain ⟨x, z, hp, _⟩ := p
  exact ne_of_none hp e
theorem PurseAt.but {H H' : Hp} {a : Addr} {n : Int} (p : PurseAt H a n) (s : H' a = H a) : PurseAt H' a n := by
  obtain ⟨x, z, hp, q⟩ := p
  exact ⟨x, z, s.trans hp, q⟩
theorem PurseAt.same {H H' : Hp} {a : Addr} {n : Int} (p : PurseAt H a n) (s : Same H H') : PurseAt H' a n := by
  obtain ⟨x, z, hp, q⟩ := p
  exact ⟨x, z, s _ _ hp, q⟩
section
variable {P : Program} {w : World} {K : PySem.W.Frag} {mg : Str → Option Value} {base : Heap}
def spPurse : Sp := fun vs H Q _ => ∃ (c k : Int), vs = [.int c, .int k] ∧ 0 ≤ k ∧ k ≤ 1000 ∧ ∀ (p : Addr) (H' : Hp), H p = none → Same H H' → PurseAt H' p 0 → Q (.ref p) H'
theorem scP : FnScope ["_law_cell", "_law_k"] ["_law_cell", "_law_k"] (defScope sPurse) := ⟨rfl, rfl, rfl, by decide +kernel, rfl, by decide +kernel, by decide +kernel⟩
theorem ok_purse {f fM : Addr} {fd fdM : FuncData} (F : Fun K "_law_purse" "_law_purse" sPurse f fd)
    (FM : Fun K "_law_mixed" "_law_mixed" sMixed fM fdM) (bM : Binds K fdM ["_law_cell", "_law_k"] []) (gM : mg "_law_mixed" = some (.ref fM)) :
    FnOk P w K mg base CX0 2 f fd ["_law_cell", "_law_k"] spPurse := by
  have GM : FnOk P w K mg base CX0 1 fM fdM ["_law_cell", "_law_k"] spMixed := ok_mixed FM
  refine F.ok scP (fun vs H Q E h => ?_) (fun cdv A outer s H vs Q E hr h => ?_)
  · obtain ⟨c, k, rfl, _⟩ := h
    rfl
  · obtain ⟨c, k, rfl, h0, h1, q⟩ := h
    refine ⟨_, pss_cons (ps_if (pt_cmpR op_ge (pv 0) (pe_op op_pow pe_int pe_int) (nomark _))
        (pss_one (ps_ret (pe_lst (pa_cons (pe_op op_mod (pe_op op_sub (pv 0) (pe_op op_pow pe_int pe_int)) (pe_op op_powW (pe_op op_pow pe_int pe_int) pe_int)) (pa_cons pe_int (pa_cons (pv 1) pa_nil)))))) pss_nil)
      (pss_one (ps_ret (pe_lst (pa_cons (pe_call GM hr rfl gM FM.kp bM .nil pass0 (pa_cons (pv 0) (pa_cons (pv 1) pa_nil))) (pa_cons pe_int (pa_cons (pe_op op_add (pe_op op_mod (pv 0) (pe_op op_add (pe_op op_pow pe_int pe_int) pe_int)) (pv 1)) pa_nil)))))), ?_⟩
    refine ⟨_, rfl, _, _, rfl, rfl, ⟨by decide, by decide, by decide⟩, _, _, rfl, rfl, _, rfl, ?_⟩
    refine ite2 (fun _ => ?_) (fun _ => ?_)
    · refine ⟨_, rfl, _, _, rfl, rfl, ⟨by decide, by decide, by decide⟩, _, _, rfl, rfl, _, _, rfl, rfl, ⟨by decide, by decide, by decide⟩, _, _, rfl, rfl, ⟨by decide, by decide +kernel⟩, _, _, rfl, rfl, by show (0 : Int) < _; decide +kernel, _, rfl, by show 3 ≤ sizeLine; decide, fun p np => ?_⟩
      refine q p _ np (Same.new np) ⟨_, k, upd_same, Int.emod_nonneg _ (by decide +kernel), Int.lt_trans (Int.emod_lt_of_pos _ (by decide +kernel)) (by decide +kernel), h0, by omega, by decide⟩
    · have e18 : ((10 : Int) ^ Int.toNat 18 + 9) = 1000000000000000009 := by decide +kernel
      refine ⟨_, rfl, _, rfl, c, k, rfl, h0, by omega, fun m m0 m1 => ?_⟩
      refine ⟨_, rfl, _, _, rfl, rfl, ⟨by decide, by decide, by decide⟩, _, _, rfl, rfl, _, _, rfl, rfl, by show (0 : Int) < _; decide +kernel, _, rfl, _, _, rfl, rfl, by show 3 ≤ sizeLine; decide, fun p np => ?_⟩
      refine q p _ np (Same.new np) ⟨m, _, upd_same, m0, Int.lt_trans m1 (by decide +kernel), ?_, ?_, by decide⟩
      · rw [e18]
        omega
      · rw [e18]
        omega
def spTake : Sp := fun vs H Q _ => ∃ (a : Addr) (s n : Int), vs = [.ref a, .int s] ∧ 1 ≤ s ∧ s ≤ 1000 ∧ PurseAt H a n ∧ n ≤ 1000000 ∧
  ∀ (j : Nat) (n' : Int) (H' : Hp), (j : Int) < s → n' ≤ n + 1 → PurseAt H' a n' → But a H H' → (∀ b, H b = none → H' b = none) → Q (.int (j : Int)) H'
theorem scT : FnScope ["_law_purse_here", "_law_steps", "_law_got"] ["_law_purse_here", "_law_steps"] (defScope sTake) := ⟨rfl, rfl, rfl, by decide +kernel, rfl, by decide +kernel, by decide +kernel⟩
theorem ok_take {f fM : Addr} {fd fdM : FuncData} (F : Fun K "_law_take" "_law_take" sTake f fd)
    (FM : Fun K "_law_mixed" "_law_mixed" sMixed fM fdM) (bM : Binds K fdM ["_law_cell", "_law_k"] []) (gM : mg "_law_mixed" = some (.ref fM)) :
    FnOk P w K mg base CX0 2 f fd ["_law_purse_here", "_law_steps"] spTake := by
  have GM : FnOk P w K mg base CX0 1 fM fdM ["_law_cell", "_law_k"] spMixed := ok_mixed FM
  refine F.ok scT (fun vs H Q E h => ?_) (fun cdv A outer st H vs Q E hr h => ?_)
  · obtain ⟨a, s, n, rfl, _⟩ := h
    rfl
  · obtain ⟨a, s, n, rfl, s1, s2, ⟨x, z, hp, x0, x1, z0, z1, n0⟩, n1, q⟩ := h
    refine ⟨_, C8.pss_cut (ps_if (pt_cmpR op_lt (pe_ix ix_list (pv 0) pe_int (fun _ _ => rfl)) (pv 1) (nomark _))
        (pss_cons (ps_asg (pe_op op_add (pe_ix ix_list (pv 0) pe_int (fun _ _ => rfl)) pe_int) (pg_sub (pv 0) pe_int set_list))
          (pss_one (ps_asg (pe_op op_add (pe_ix ix_list (pv 0) pe_int (fun _ _ => rfl)) (pe_op op_mul (pv 1) (pe_call GM hr rfl gM FM.kp bM .nil pass0
            (pa_cons (pe_ix ix_list (pv 0) pe_int (fun _ _ => rfl)) (pa_cons (pe_op op_add (pe_op op_mul pe_int (pe_ix ix_list (pv 0) pe_int (fun _ _ => rfl))) pe_int) pa_nil))))) (pg_sub (pv 0) pe_int set_list)))) pss_nil)
      (pss_cons (ps_set (i := 2) scT.nd rfl (.inl rfl) (pe_op op_mod (pe_ix ix_list (pv 0) pe_int (fun _ _ => rfl)) (pv 1)))
      (pss_cons (ps_asg (pe_op op_fdiv (pe_ix ix_list (pv 0) pe_int (fun _ _ => rfl)) (pv 1)) (pg_sub (pv 0) pe_int set_list))
      (pss_one (ps_ret (pv 2))))), ?_⟩
    refine ⟨fun σ' H' => ∃ x' n' : Int, σ' = [some (.ref a), some (.int s), none] ∧ H' = upd H a (.lst [.int x', .int n', .int z]) ∧ 0 ≤ x' ∧ x' < 2 ^ 2000 ∧ 0 ≤ n' ∧ n' ≤ n + 1, ?_, ?_⟩
    · refine ⟨_, rfl, a, _, 0, _, rfl, rfl, SqL.of hp, atI_nat (j := 0) rfl, _, rfl, _, _, rfl, rfl, _, rfl, ?_⟩
      refine ite2 (fun c => ?_) (fun c => ?_)
      · refine ⟨_, rfl, a, _, 1, _, rfl, rfl, SqL.of hp, atI_nat (j := 1) rfl, _, _, rfl, rfl, ?_⟩
        refine ⟨_, rfl, a, _, 1, 1, rfl, rfl, hp, rfl, ?_⟩
        refine ⟨_, rfl, a, _, 0, _, rfl, rfl, SqL.of upd_same, atI_nat (j := 0) rfl, _, rfl, _, rfl, a, _, 2, _, rfl, rfl, SqL.of upd_same, atI_nat (j := 2) rfl, _, rfl, a, _, 1, _, rfl, rfl, SqL.of upd_same, atI_nat (j := 1) rfl, _, _, rfl, rfl, .inl ⟨by decide, by decide⟩, _, _, rfl, rfl,
          z, _, rfl, by omega, by omega, fun m m0 m1 => ?_⟩
        have sm0 : 0 ≤ s * m := Int.mul_nonneg (by omega) m0
        have sm1 : s * m ≤ 1000 * m := Int.mul_le_mul_of_nonneg_right s2 m0
        refine ⟨_, _, rfl, rfl, .inl ⟨by omega, by omega⟩, _, _, rfl, rfl, _, rfl, a, _, 0, 0, rfl, rfl, upd_same, rfl, ?_⟩
        refine ⟨x + s * m, n + 1, rfl, ?_, by omega, ?_, by omega, by omega⟩
        · rw [upd_upd]
          rfl
        · have cx : x < s := of_decide_eq_true c
          have b1 : s * m < 2 ^ 211 := by omega
          have b2 : x + s * m < 2 ^ 212 := by omega
          exact Int.lt_trans b2 (by decide +kernel)
      · refine ⟨x, n, rfl, ?_, x0, x1, n0, by omega⟩
        funext b
        by_cases e : b = a
        · rw [e, upd_same, hp]
        · rw [upd_ne e]
    · rintro σ' H' ⟨x', n', rfl, rfl, x0', x1', n0', n1'⟩
      refine ⟨_, rfl, a, _, 0, _, rfl, rfl, SqL.of upd_same, atI_nat (j := 0) rfl, _, rfl, _, _, rfl, rfl, by omega, ?_⟩
      refine ⟨_, rfl, a, _, 0, _, rfl, rfl, SqL.of upd_same, atI_nat (j := 0) rfl, _, rfl, _, _, rfl, rfl, ⟨by omega, by omega⟩, _, rfl, a, _, 0, 0, rfl, rfl, upd_same, rfl, _, rfl, ?_⟩
      obtain ⟨j, hj⟩ := Int.eq_ofNat_of_zero_le (Int.emod_nonneg x' (show s ≠ 0 by omega))
      have jl : (j : Int) < s := by
        rw [← hj]
        exact Int.emod_lt_of_pos _ (by omega)
      have fin := fun H' => q j n' H' jl n1'
      rw [← hj] at fin
      refine fin _ ⟨x' / s, z, upd_same, Int.ediv_nonneg x0' (by omega), Int.lt_of_le_of_lt (Int.ediv_le_self _ x0') x1', z0, z1, n0'⟩ (by rw [upd_upd]; exact But.upd) fun b e => ?_
      have c : b ≠ a := fun c => by
        rw [c, hp] at e
        cases e
      rw [upd_ne c, upd_ne c]
      exact e
end
end G01

set_option Elab.async false
set_option maxRecDepth 100000
/-! words, and a word of the law -/
namespace G01
open PySem L2 Hx Xr P01
abbrev sWord : Stmt := top 21
abbrev sWords : Stmt := top 22
theorem tbl_at {tbl : List (List Nat)} {j : Nat} (h : j < tbl.length) : atI (tbl.map fun w => V.str (ss w)) (j : Int) = some (V.str (ss tbl[j])) := by
  refine atI_nat ?_
  rw [List.getElem?_map, List.getElem?_eq_getElem h]
  rfl
theorem valid_small {w : List Nat} (h1 : w ≠ []) (h2 : w.length ≤ 8) (h3 : ∀ c ∈ w, Lx.small c = true) : Lx.Valid (if Lx.words.contains w = true then .word else .name) w := by
  by_cases c : Lx.words.contains w = true
  · rw [if_pos c]
    show w ∈ Lx.words
    simpa using c
  · rw [if_neg c]
    exact ⟨h1, h2, h3, Bool.eq_false_iff.mpr c⟩
theorem small_128 {c : Nat} (h : Lx.small c = true) : c < 128 := by
  unfold Lx.small at h
  simp only [Bool.and_eq_true, decide_eq_true_eq] at h
  omega
def tSmall : List (List Nat) := [[120], [102], [105, 110], [97, 98], [108, 101, 116, 115], [111, 102, 97], [100, 97, 116, 97, 115], [97, 98, 99, 100, 101, 102, 103, 104], [101], [116, 104, 101, 110]]
def tMaker : List (List Nat) := [[65], [67, 111, 110, 115], [84, 114, 117, 101], [65, 98, 99, 100, 101, 102, 103, 104], [73, 110], [90]]
def tNumber : List (List Nat) := [[48], [55], [49, 48], [52, 50], [49, 48, 48, 48, 48, 48, 48, 48, 48, 48, 48, 48, 48, 48, 48, 48, 48, 48, 48, 48, 48, 48, 48, 48, 48, 48, 48, 48, 48, 48], [57, 48, 53]]
def tSign : List (List Nat) := [[45, 62], [61, 61], [61], [124], [40], [41], [43], [45], [42], [60], [95]]
theorem tSmall_ok : ∀ w ∈ tSmall, w ≠ [] ∧ w.length ≤ 8 ∧ ∀ c ∈ w, Lx.small c = true := by decide
theorem tMaker_ok : ∀ w ∈ tMaker, w.length ≤ 30 ∧ (∀ c ∈ w, c < 128) := by decide
theorem tMaker_val : ∀ w ∈ tMaker, Lx.Valid .maker w := by
  intro w h
  simp only [tMaker, List.mem_cons, List.not_mem_nil, or_false] at h
  rcases h with h | h | h | h | h | h <;> subst h <;> exact ⟨_, _, rfl, by decide, by decide, by decide⟩
theorem tNumber_ok : ∀ w ∈ tNumber, w.length ≤ 30 ∧ (∀ c ∈ w, c < 128) := by decide
theorem tNumber_val : ∀ w ∈ tNumber, Lx.Valid .number w := by
  intro w h
  simp only [tNumber, List.mem_cons, List.not_mem_nil, or_false] at h
  rcases h with h | h | h | h | h | h <;> subst h
  · exact .inl rfl
  all_goals exact .inr ⟨_, _, rfl, by decide, by decide, by decide⟩
theorem tSign_ok : ∀ w ∈ tSign, w.length ≤ 30 ∧ (∀ c ∈ w, c < 128) ∧ w ∈ Lx.signs := by decide
theorem words_ok : ∀ w ∈ Lx.words, w.length ≤ 30 ∧ (∀ c ∈ w, c < 128) := by decide
section
variable {P : Program} {w : World} {K : PySem.W.Frag} {mg : Str → Option Value} {base : Heap}
def spWords : Sp := fun vs H Q _ => vs = [] ∧ ∀ p, H p = none → Q (.ref p) (upd H p (.lst wordsV))
theorem scWs : FnScope [] [] (defScope sWords) := ⟨rfl, rfl, rfl, by decide +kernel, rfl, by decide +kernel, by decide +kernel⟩
theorem ok_words {f : Addr} {fd : FuncData} (F : Fun K "_law_words" "_law_words" sWords f fd) : FnOk P w K mg base CX0 1 f fd [] spWords := by
  refine F.ok scWs (fun vs H Q E h => ?_) (fun cdv A outer s H vs Q E hr h => ?_)
  · obtain ⟨rfl, _⟩ := h
    rfl
  · obtain ⟨rfl, q⟩ := h
    refine ⟨_, pss_one (ps_ret (pe_lst (pa_cons pe_str (pa_cons pe_str (pa_cons pe_str (pa_cons pe_str (pa_cons pe_str (pa_cons pe_str (pa_cons pe_str (pa_cons pe_str (pa_cons pe_str pa_nil))))))))))), ?_⟩
    refine ⟨by show 9 ≤ sizeLine; decide, fun p np => ?_⟩
    have e : wordsV = [V.str "data", V.str "let", V.str "in", V.str "if", V.str "then", V.str "else", V.str "case", V.str "of", V.str "fun"] := by decide +kernel
    have := q p np
    rw [e] at this
    exact this
def spWord : Sp := fun vs H Q _ => ∃ (a : Addr) (n : Int), vs = [.ref a] ∧ PurseAt H a n ∧ n ≤ 900000 ∧
  ∀ (H' : Hp) (p : Addr) (t : Lx.Srt) (u : List Nat) (n' : Int), But a H H' → PurseAt H' a n' → n' ≤ n + 12 → Lx.Valid t u → u.length ≤ 30 → (∀ c ∈ u, c < 128) → H p = none → H' p = some (.lst [.str (sortS t), .str (ss u)]) → Q (.ref p) H'
theorem scWd : FnScope ["_law_purse_here", "_law_way", "_law_small", "_law_sign", "_law_stem", "_law_k"] ["_law_purse_here"] (defScope sWord) := ⟨rfl, rfl, rfl, by decide +kernel, rfl, by decide +kernel, by decide +kernel⟩
end
end G01

set_option Elab.async false
set_option maxRecDepth 100000
/-! a word of the law -/
namespace G01
open PySem L2 Hx Xr P01
theorem But.updNew {a D : Addr} {H H' : Hp} {o : HO} (h : But a H H') (n : H D = none) : But a H (L2.upd H' D o) := fun b u c e => by
  rw [upd_ne (ne_of_none e n)]
  exact h b u c e
theorem join_chars : ∀ cs : List Nat, TL.joinL [] (cs.map fun c => [c]) = cs
  | [] => rfl
  | [c] => rfl
  | c :: d :: r => by
    have ih := join_chars (d :: r)
    show [c] ++ ([] ++ TL.joinL [] ((d :: r).map fun c => [c])) = c :: d :: r
    rw [ih]
    rfl
theorem join_one (cs : List Nat) : Txt.join ("" : Str) (cs.map fun c => (⟨#[c]⟩ : Str)) = ss cs := by
  have e1 : ("" : Str) = SX.S [] := by decide +kernel
  have e2 : (cs.map fun c => (⟨#[c]⟩ : Str)) = (cs.map fun c => [c]).map SX.S := by
    rw [List.map_map]
    rfl
  rw [e1, e2, SX.join_S, join_chars]
  rfl
section
variable {P : Program} {w : World} {K : PySem.W.Frag} {mg : Str → Option Value} {base : Heap}
set_option maxHeartbeats 4000000 in
theorem ok_word {f fT fM fW : Addr} {fd fdT fdM fdW : FuncData} (F : Fun K "_law_word" "_law_word" sWord f fd) (mi : mg "int" = none) (mr : mg "range" = none)
    (FT : Fun K "_law_take" "_law_take" sTake fT fdT) (bT : Binds K fdT ["_law_purse_here", "_law_steps"] []) (gT : mg "_law_take" = some (.ref fT))
    (FM : Fun K "_law_mixed" "_law_mixed" sMixed fM fdM) (bM : Binds K fdM ["_law_cell", "_law_k"] []) (gM : mg "_law_mixed" = some (.ref fM))
    (FW : Fun K "_law_words" "_law_words" sWords fW fdW) (bW : Binds K fdW [] []) (gW : mg "_law_words" = some (.ref fW)) :
    FnOk P w K mg base CX0 4 f fd ["_law_purse_here"] spWord := by
  have GT : FnOk P w K mg base CX0 2 fT fdT ["_law_purse_here", "_law_steps"] spTake := ok_take FT FM bM gM
  have GW : FnOk P w K mg base CX0 1 fW fdW [] spWords := ok_words FW
  refine F.ok scWd (fun vs H Q E h => ?_) (fun cdv A outer s H vs Q E hr h => ?_)
  · obtain ⟨a, n, rfl, _⟩ := h
    rfl
  · obtain ⟨a, n, rfl, pa, hn, q⟩ := h
    have hr1 : Room 1 _ := hr.mono (by decide)
    have hr2 : Room 2 _ := hr.mono (by decide)
    refine ⟨_, pss_cons (ps_set (i := 1) scWd.nd rfl (.inl rfl) (pe_call GT hr2 rfl gT FT.kp bT .nil pass0 (pa_cons (pv 0) (pa_cons pe_int pa_nil))))
      (pss_cons (ps_set (i := 2) scWd.nd rfl (.inr rfl) pe_str)
      (pss_cons (ps_if (pt_cmpR op_lt (pv 1) pe_int (nomark _))
          (pss_cons (ps_set (i := 3) scWd.nd rfl (.inl rfl) (pe_ix ix_list (pe_lst (pa_cons pe_str (pa_cons pe_str (pa_cons pe_str (pa_cons pe_str (pa_cons pe_str (pa_cons pe_str (pa_cons pe_str (pa_cons pe_str (pa_cons pe_str (pa_cons pe_str pa_nil)))))))))))
              (pe_call GT hr2 rfl gT FT.kp bT .nil pass0 (pa_cons (pv 0) (pa_cons pe_int pa_nil))) (fun _ _ => rfl)))
            (pss_one (ps_ret (pe_lst (pa_cons (pe_ix ix_list (pe_lst (pa_cons pe_str (pa_cons pe_str pa_nil))) (pe_callTy call_int1 (by rfl) mi (by decide +kernel) (pa_cons (pe_cmpR op_in_seq (pv 3) (pe_call0 GW hr1 rfl gW FW.kp bW .nil pass0) rfl) pa_nil)) (fun _ _ => rfl)) (pa_cons (pv 3) pa_nil)))))) pss_nil)
      (pss_cons (ps_if (pt_cmpR op_eq (pv 1) pe_int (nomark _))
          (pss_one (ps_ret (pe_lst (pa_cons pe_str (pa_cons (pe_ix ix_list (pe_lst (pa_cons pe_str (pa_cons pe_str (pa_cons pe_str (pa_cons pe_str (pa_cons pe_str (pa_cons pe_str pa_nil)))))))
              (pe_call GT hr2 rfl gT FT.kp bT .nil pass0 (pa_cons (pv 0) (pa_cons pe_int pa_nil))) (fun _ _ => rfl)) pa_nil))))) pss_nil)
      (pss_cons (ps_if (pt_cmpR op_eq (pv 1) pe_int (nomark _))
          (pss_one (ps_ret (pe_lst (pa_cons pe_str (pa_cons (pe_ix ix_list (pe_lst (pa_cons pe_str (pa_cons pe_str (pa_cons pe_str (pa_cons pe_str (pa_cons (pe_op op_add_str pe_str (pe_op op_mulS pe_str pe_int)) (pa_cons pe_str pa_nil)))))))
              (pe_call GT hr2 rfl gT FT.kp bT .nil pass0 (pa_cons (pv 0) (pa_cons pe_int pa_nil))) (fun _ _ => rfl)) pa_nil))))) pss_nil)
      (pss_cons (ps_if (pt_cmpR op_eq (pv 1) pe_int (nomark _))
          (pss_cons (ps_set (i := 3) scWd.nd rfl (.inl rfl) (pe_ix ix_list (pe_call0 GW hr1 rfl gW FW.kp bW .nil pass0) (pe_call GT hr2 rfl gT FT.kp bT .nil pass0 (pa_cons (pv 0) (pa_cons pe_int pa_nil))) (fun _ _ => rfl)))
            (pss_one (ps_ret (pe_lst (pa_cons pe_str (pa_cons (pv 3) pa_nil)))))) pss_nil)
      (pss_cons (ps_if (pt_cmpR op_eq (pv 1) pe_int (nomark _))
          (pss_cons (ps_set (i := 4) scWd.nd rfl (.inl rfl) (pe_join pe_str (pe_lc (own := [("_law_k", 5)]) (g := gName 5) (tt := tYes) rfl scWd.nd
              (pi_range1 rfl mr (pa_cons (pe_op op_add pe_int (pe_call GT hr2 rfl gT FT.kp bT .nil pass0 (pa_cons (pv 0) (pa_cons pe_int pa_nil)))) pa_nil))
              (blkOk_by (N := ["_law_purse_here", "_law_way", "_law_small", "_law_sign", "_law_stem", "_law_k"]) (sc := defScope sWord) (by decide +kernel))
              (fun _ _ _ _ _ => pg_name (i := 5) scWd.nd rfl (.inl rfl)) (fun _ _ _ _ _ => pts_nil)
              (fun _ _ _ _ _ => pe_ix ix_str (pv 2) (pe_call GT hr2 rfl gT FT.kp bT .nil pass0 (pa_cons (pv 0) (pa_cons pe_int pa_nil))) (fun _ _ => rfl)))))
            (pss_one (ps_ret (pe_lst (pa_cons (pe_ix ix_list (pe_lst (pa_cons pe_str (pa_cons pe_str pa_nil))) (pe_callTy call_int1 (by rfl) mi (by decide +kernel) (pa_cons (pe_cmpR op_in_seq (pv 4) (pe_call0 GW hr1 rfl gW FW.kp bW .nil pass0) rfl) pa_nil)) (fun _ _ => rfl)) (pa_cons (pv 4) pa_nil)))))) pss_nil)
      (pss_one (ps_ret (pe_lst (pa_cons pe_str (pa_cons (pe_ix ix_list (pe_lst (pa_cons pe_str (pa_cons pe_str (pa_cons pe_str (pa_cons pe_str (pa_cons pe_str (pa_cons pe_str (pa_cons pe_str (pa_cons pe_str (pa_cons pe_str (pa_cons pe_str (pa_cons pe_str pa_nil))))))))))))
              (pe_call GT hr2 rfl gT FT.kp bT .nil pass0 (pa_cons (pv 0) (pa_cons pe_int pa_nil))) (fun _ _ => rfl)) pa_nil))))))))))), ?_⟩
    have fin : ∀ (Hk : Hp) (n' : Int) (t : Lx.Srt) (u : List Nat), But a H Hk → PurseAt Hk a n' → n' ≤ n + 12 → Lx.Valid t u → u.length ≤ 30 → (∀ c ∈ u, c < 128) → ∀ p, Hk p = none → Q (.ref p) (upd Hk p (.lst [.str (sortS t), .str (ss u)])) :=
      fun Hk n' t u hb hp h1 h2 h3 h4 p np => q _ p t u n' (hb.trans (But.of (Same.new np))) (hp.same (Same.new np)) h1 h2 h3 h4 (hb.free hp np) upd_same
    refine ⟨_, rfl, a, 8, n, rfl, by decide, by decide, pa, by omega, fun j n1 H1 hj hn1 p1 b1 f1 => ?_⟩
    refine ⟨_, rfl, _, _, rfl, rfl, _, rfl, ite2 (fun c => ?_) (fun c => ?_)⟩
    · refine ⟨by show 10 ≤ sizeLine; decide, fun l nl => ⟨_, rfl, a, 10, n1, rfl, by decide, by decide, p1.same (Same.new nl), by omega, fun j2 n2 H2 hj2 hn2 p2 b2 f2 => ?_⟩⟩
      have nal : l ≠ a := (p1.ne nl).symm
      have eS : tSmall.map (fun w => V.str (ss w)) = [V.str "x", V.str "f", V.str "in", V.str "ab", V.str "lets", V.str "ofa", V.str "datas", V.str "abcdefgh", V.str "e", V.str "then"] := by decide +kernel
      have hj2' : j2 < tSmall.length := by
        have z : tSmall.length = 10 := by decide
        omega
      have hl : H2 l = some (.lst (tSmall.map fun w => V.str (ss w))) := by
        rw [eS]
        exact b2 l _ nal upd_same
      refine ⟨l, _, _, _, rfl, rfl, SqL.of hl, tbl_at hj2', ?_⟩
      obtain ⟨w1, w2, w3⟩ := tSmall_ok _ (List.getElem_mem hj2')
      generalize tSmall[j2] = u at w1 w2 w3 ⊢
      refine ⟨by show 2 ≤ sizeLine; decide, fun l2 nl2 => ⟨_, rfl, rfl, fun l3 nl3 => ?_⟩⟩
      have n23 : l2 ≠ l3 := ne_of_none upd_same nl3
      refine ⟨l3, _, rfl, .inl (SqL.of upd_same), rfl, by decide +kernel, .inr ⟨_, rfl, ?_⟩⟩
      have hl2 : ∀ o, (upd (upd H2 l2 (.lst [V.str "name", V.str "word"])) l3 o) l2 = some (.lst [V.str "name", V.str "word"]) := fun o => by
        rw [upd_ne n23]
        exact upd_same
      show rIxL K (.ref l2) (.int (if inV (V.str (ss u)) wordsV = true then 1 else 0)) _ _
      rw [words_in]
      have ev := valid_small w1 w2 w3
      have bk := (b1.trans (But.of (Same.new nl))).trans b2
      have bk2 : But a H (upd (upd H2 l2 (.lst [V.str "name", V.str "word"])) l3 (.lst wordsV)) := (bk.trans (But.of (Same.new nl2))).trans (But.of (Same.new nl3))
      have pk2 : PurseAt (upd (upd H2 l2 (.lst [V.str "name", V.str "word"])) l3 (.lst wordsV)) a n2 := (p2.same (Same.new nl2)).same (Same.new nl3)
      by_cases cw : Lx.words.contains u = true
      · rw [if_pos cw] at ev ⊢
        exact ⟨l2, _, _, _, rfl, rfl, SqL.of (hl2 _), atI_nat (j := 1) rfl, _, rfl, by show 2 ≤ sizeLine; decide, fun p np => fin _ n2 .word u bk2 pk2 (by omega) ev (by omega) (fun c hc => small_128 (w3 c hc)) p np⟩
      · rw [if_neg cw] at ev ⊢
        exact ⟨l2, _, _, _, rfl, rfl, SqL.of (hl2 _), atI_nat (j := 0) rfl, _, rfl, by show 2 ≤ sizeLine; decide, fun p np => fin _ n2 .name u bk2 pk2 (by omega) ev (by omega) (fun c hc => small_128 (w3 c hc)) p np⟩
    · refine ⟨_, rfl, rfl, _, rfl, ite2 (fun c3 => ?_) (fun c3 => ?_)⟩
      · refine ⟨by show 6 ≤ sizeLine; decide, fun l nl => ⟨_, rfl, a, 6, n1, rfl, by decide, by decide, p1.same (Same.new nl), by omega, fun j2 n2 H2 hj2 hn2 p2 b2 f2 => ?_⟩⟩
        have nal : l ≠ a := (p1.ne nl).symm
        have eS : tMaker.map (fun w => V.str (ss w)) = [V.str "A", V.str "Cons", V.str "True", V.str "Abcdefgh", V.str "In", V.str "Z"] := by decide +kernel
        have hj2' : j2 < tMaker.length := by
          have z : tMaker.length = 6 := by decide
          omega
        have hl : H2 l = some (.lst (tMaker.map fun w => V.str (ss w))) := by
          rw [eS]
          exact b2 l _ nal upd_same
        obtain ⟨w1, w2⟩ := tMaker_ok _ (List.getElem_mem hj2')
        exact ⟨l, _, _, _, rfl, rfl, SqL.of hl, tbl_at hj2', by show 2 ≤ sizeLine; decide, fun p np => fin H2 n2 .maker _ ((b1.trans (But.of (Same.new nl))).trans b2) p2 (by omega) (tMaker_val _ (List.getElem_mem hj2')) w1 w2 p np⟩
      · refine ⟨_, rfl, rfl, _, rfl, ite2 (fun c4 => ?_) (fun c4 => ?_)⟩
        · refine ⟨_, _, rfl, rfl, by decide, by decide, by decide +kernel, by decide +kernel, _, _, rfl, rfl, by decide +kernel, by show 6 ≤ sizeLine; decide, fun l nl => ⟨_, rfl, a, 6, n1, rfl, by decide, by decide, p1.same (Same.new nl), by omega, fun j2 n2 H2 hj2 hn2 p2 b2 f2 => ?_⟩⟩
          have nal : l ≠ a := (p1.ne nl).symm
          have eS : tNumber.map (fun w => V.str (ss w)) = [V.str "0", V.str "7", V.str "10", V.str "42", V.str (("1" : Str) ++ timesS ("0" : Str) (29 : Int).toNat), V.str "905"] := by decide +kernel
          have hj2' : j2 < tNumber.length := by
            have z : tNumber.length = 6 := by decide
            omega
          have hl : H2 l = some (.lst (tNumber.map fun w => V.str (ss w))) := by
            rw [eS]
            exact b2 l _ nal upd_same
          obtain ⟨w1, w2⟩ := tNumber_ok _ (List.getElem_mem hj2')
          exact ⟨l, _, _, _, rfl, rfl, SqL.of hl, tbl_at hj2', by show 2 ≤ sizeLine; decide, fun p np => fin H2 n2 .number _ ((b1.trans (But.of (Same.new nl))).trans b2) p2 (by omega) (tNumber_val _ (List.getElem_mem hj2')) w1 w2 p np⟩
        · refine ⟨_, rfl, rfl, _, rfl, ite2 (fun c5 => ?_) (fun c5 => ?_)⟩
          · refine ⟨rfl, fun l nl => ⟨_, rfl, a, 9, n1, rfl, by decide, by decide, p1.same (Same.new nl), by omega, fun j2 n2 H2 hj2 hn2 p2 b2 f2 => ?_⟩⟩
            have nal : l ≠ a := (p1.ne nl).symm
            have hj2' : j2 < Lx.words.length := by
              have z : Lx.words.length = 9 := by decide
              omega
            have hl : H2 l = some (.lst (Lx.words.map fun w => V.str (ss w))) := b2 l _ nal upd_same
            obtain ⟨w1, w2⟩ := words_ok _ (List.getElem_mem hj2')
            exact ⟨l, _, _, _, rfl, rfl, SqL.of hl, tbl_at hj2', _, rfl, by show 2 ≤ sizeLine; decide, fun p np => fin H2 n2 .word _ ((b1.trans (But.of (Same.new nl))).trans b2) p2 (by omega) (List.getElem_mem hj2') w1 w2 p np⟩
          · refine ⟨_, rfl, rfl, _, rfl, ite2 (fun c6 => ?_) (fun c6 => ?_)⟩
            · refine ⟨⟨_, rfl⟩, _, rfl, a, 8, n1, rfl, by decide, by decide, p1, by omega, fun j2 n2 H2 hj2 hn2 p2 b2 f2 => ?_⟩
              refine ⟨_, _, rfl, rfl, _, rfl, by omega, by omega, fun D nD => ?_⟩
              have naD : a ≠ D := p2.ne nD
              refine lc_range (lo := 0) (n := (1 + (j2 : Int)).toNat) (fun i Hk => ∃ (cs : List Nat) (n3 : Int), cs.length = i ∧ (∀ c ∈ cs, Lx.small c = true) ∧ Hk D = some (.lst (cs.map fun c => V.str ⟨#[c]⟩)) ∧ But a H Hk ∧ PurseAt Hk a n3 ∧ n3 ≤ n2 + i)
                ⟨[], n2, rfl, (fun c h => nomatch h), upd_same, (b1.trans b2).trans (But.of (Same.new nD)), p2.same (Same.new nD), by omega⟩ ?_ ?_
              · rintro i Hk hi ⟨cs, n3, hcl, hcs, hD, hb, hp, hn3⟩
                refine ⟨rfl, _, rfl, _, rfl, a, 26, n3, rfl, by decide, by decide, hp, by omega, fun j3 n4 H4 hj3 hn4 p4 b4 f4 => ?_⟩
                have hc : zSmall.cps.toList[j3]? = some (97 + j3) := by
                  have e : zSmall.cps.toList = List.range' 97 26 := by decide +kernel
                  rw [e, List.getElem?_range' (by omega)]
                  simp
                refine ⟨zSmall, _, _, rfl, rfl, by decide +kernel, atI_nat hc, _, b4 D _ naD.symm hD, by rw [List.length_map, sizeLine_eq]; omega, cs ++ [97 + j3], n4, by rw [List.length_append, hcl]; rfl, ?_, ?_, ?_, ?_, by omega⟩
                · intro c h
                  rcases List.mem_append.mp h with h | h
                  · exact hcs c h
                  · rw [List.mem_singleton.mp h]
                    unfold Lx.small
                    simp
                    omega
                · rw [List.map_append]
                  exact upd_same
                · exact But.updNew (hb.trans b4) ((b1.trans b2).free p2 nD)
                · exact p4.but (upd_ne naD)
              · rintro Hk ⟨cs, n3, hcl, hcs, hD, hb, hp, hn3⟩
                have hsum : ((cs.map fun c => (⟨#[c]⟩ : Str)).map (·.length)).sum = cs.length := by
                  clear hcl hcs hD
                  induction cs with
                  | nil => rfl
                  | cons c cs ih =>
                    simp only [List.map_cons, List.sum_cons, List.length_cons, ih]
                    show 1 + cs.length = cs.length + 1
                    omega
                refine ⟨_, D, cs.map (fun c => (⟨#[c]⟩ : Str)), rfl, rfl, .inl (SqL.of (by rw [List.map_map]; exact hD)), ?_, ?_⟩
                · rw [hsum, List.length_map]
                  have e0 : (("" : Str)).length = 0 := by decide +kernel
                  rw [e0]
                  omega
                · rw [join_one cs]
                  have w1 : cs ≠ [] := fun z => by
                    rw [z] at hcl
                    simp only [List.length_nil] at hcl
                    omega
                  have w2 : cs.length ≤ 8 := by omega
                  refine ⟨by show 2 ≤ sizeLine; decide, fun l2 nl2 => ⟨_, rfl, rfl, fun l3 nl3 => ?_⟩⟩
                  have n23 : l2 ≠ l3 := ne_of_none upd_same nl3
                  refine ⟨l3, _, rfl, .inl (SqL.of upd_same), rfl, by decide +kernel, .inr ⟨_, rfl, ?_⟩⟩
                  have hl2 : ∀ o, (upd (upd Hk l2 (.lst [V.str "name", V.str "word"])) l3 o) l2 = some (.lst [V.str "name", V.str "word"]) := fun o => by
                    rw [upd_ne n23]
                    exact upd_same
                  show rIxL K (.ref l2) (.int (if inV (V.str (ss cs)) wordsV = true then 1 else 0)) _ _
                  rw [words_in]
                  have ev := valid_small w1 w2 hcs
                  have bk2 : But a H (upd (upd Hk l2 (.lst [V.str "name", V.str "word"])) l3 (.lst wordsV)) := (hb.trans (But.of (Same.new nl2))).trans (But.of (Same.new nl3))
                  have pk2 : PurseAt (upd (upd Hk l2 (.lst [V.str "name", V.str "word"])) l3 (.lst wordsV)) a n3 := (hp.same (Same.new nl2)).same (Same.new nl3)
                  by_cases cw : Lx.words.contains cs = true
                  · rw [if_pos cw] at ev ⊢
                    exact ⟨l2, _, _, _, rfl, rfl, SqL.of (hl2 _), atI_nat (j := 1) rfl, _, rfl, by show 2 ≤ sizeLine; decide, fun p np => fin _ n3 .word cs bk2 pk2 (by omega) ev (by omega) (fun c hc => small_128 (hcs c hc)) p np⟩
                  · rw [if_neg cw] at ev ⊢
                    exact ⟨l2, _, _, _, rfl, rfl, SqL.of (hl2 _), atI_nat (j := 0) rfl, _, rfl, by show 2 ≤ sizeLine; decide, fun p np => fin _ n3 .name cs bk2 pk2 (by omega) ev (by omega) (fun c hc => small_128 (hcs c hc)) p np⟩
            · refine ⟨by show 11 ≤ sizeLine; decide, fun l nl => ⟨_, rfl, a, 11, n1, rfl, by decide, by decide, p1.same (Same.new nl), by omega, fun j2 n2 H2 hj2 hn2 p2 b2 f2 => ?_⟩⟩
              have nal : l ≠ a := (p1.ne nl).symm
              have eS : tSign.map (fun w => V.str (ss w)) = [V.str "->", V.str "==", V.str "=", V.str "|", V.str "(", V.str ")", V.str "+", V.str "-", V.str "*", V.str "<", V.str "_"] := by decide +kernel
              have hj2' : j2 < tSign.length := by
                have z : tSign.length = 11 := by decide
                omega
              have hl : H2 l = some (.lst (tSign.map fun w => V.str (ss w))) := by
                rw [eS]
                exact b2 l _ nal upd_same
              obtain ⟨w1, w2, w3⟩ := tSign_ok _ (List.getElem_mem hj2')
              exact ⟨l, _, _, _, rfl, rfl, SqL.of hl, tbl_at hj2', by show 2 ≤ sizeLine; decide, fun p np => fin H2 n2 .sign _ ((b1.trans (But.of (Same.new nl))).trans b2) p2 (by omega) w3 w1 w2 p np⟩
end
end G01

set_option Elab.async false
set_option maxRecDepth 100000
/-! what may touch -/
namespace G01
open PySem L2 Hx Xr P01
abbrev sTouches : Stmt := top 23
abbrev sGrow : Stmt := top 24
def gp (a b : Nat) : PyData := .list [.str (ss [a]), .str (ss [b])]
def growL : List PyData := [gp 45 62, gp 61 61, gp 45 45, gp 60 45, gp 61 45, gp 42 45, gp 43 45, gp 124 45, gp 40 45]
theorem hu65 {k : Nat} {A : Around} (hr : Room k A) : A.units + 65 < cLine := by
  have := hr.un
  omega
theorem is_sign (t : Lx.Srt) : decide (V.str (sortS t) = V.str ("sign" : Str)) = decide (t = .sign) := by
  cases t <;> decide +kernel
theorem grow_no {u' : List Nat} {x : Nat} {r : List Nat} (h : (growL.any fun z => PyData.eqv z (.list [.str (ss u'), .str (ss [x])])) = false) : Lx.compat (some (.sign, u')) (x :: r) := by
  show (if Lx.Srt.sign = .sign then ¬ (u' = [45] ∧ (x = 62 ∨ x = 45)) ∧ ¬ (u' = [61] ∧ x = 61) else Lx.alnum x = false)
  rw [if_pos rfl]
  refine ⟨?_, ?_⟩
  · rintro ⟨rfl, rfl | rfl⟩
    · rw [show (growL.any fun z => PyData.eqv z (.list [.str (ss [45]), .str (ss [62])])) = true by decide +kernel] at h
      cases h
    · rw [show (growL.any fun z => PyData.eqv z (.list [.str (ss [45]), .str (ss [45])])) = true by decide +kernel] at h
      cases h
  · rintro ⟨rfl, rfl⟩
    rw [show (growL.any fun z => PyData.eqv z (.list [.str (ss [61]), .str (ss [61])])) = true by decide +kernel] at h
    cases h
theorem compat_mixed1 {t : Lx.Srt} {u u' : List Nat} (hv : Lx.Valid t u) (ht : t ≠ .sign) : Lx.compat (some (.sign, u')) u := by
  have key : ∃ x r, u = x :: r ∧ Lx.alnum x = true := by
    have sm : ∀ {w : List Nat}, w ≠ [] → (∀ c ∈ w, Lx.small c = true) → ∃ x r, w = x :: r ∧ Lx.alnum x = true := by
      intro w h1 h2
      cases w with
      | nil => exact absurd rfl h1
      | cons a r => exact ⟨a, r, rfl, by unfold Lx.alnum; rw [h2 a List.mem_cons_self]; rfl⟩
    cases t with
    | name => exact sm hv.1 hv.2.2.1
    | word =>
      obtain ⟨k1, _, k3⟩ := Lx.words_small u hv
      exact sm k1 k3
    | maker =>
      obtain ⟨c, r, rfl, hc, _⟩ := hv
      exact ⟨c, r, rfl, by unfold Lx.alnum; rw [hc]; simp⟩
    | number =>
      rcases hv with rfl | ⟨c, r, rfl, hc, _⟩
      · exact ⟨48, [], rfl, by decide⟩
      · exact ⟨c, r, rfl, by unfold Lx.alnum; rw [hc]; simp⟩
    | sign => exact absurd rfl ht
  obtain ⟨x, r, rfl, hx⟩ := key
  show (if Lx.Srt.sign = .sign then ¬ (u' = [45] ∧ (x = 62 ∨ x = 45)) ∧ ¬ (u' = [61] ∧ x = 61) else Lx.alnum x = false)
  rw [if_pos rfl]
  refine ⟨?_, ?_⟩
  · rintro ⟨_, rfl | rfl⟩ <;> exact absurd hx (by decide)
  · rintro ⟨_, rfl⟩
    exact absurd hx (by decide)
theorem compat_mixed2 {t' : Lx.Srt} {u u' : List Nat} (hv : Lx.Valid .sign u) (ht : t' ≠ .sign) : Lx.compat (some (t', u')) u := by
  obtain ⟨c, r, rfl, h1, h2, h3, _⟩ := Lx.signs_not u hv
  show (if t' = .sign then ¬ (u' = [45] ∧ (c = 62 ∨ c = 45)) ∧ ¬ (u' = [61] ∧ c = 61) else Lx.alnum c = false)
  rw [if_neg ht]
  unfold Lx.alnum
  rw [h1, h2, h3]
  rfl
section
variable {P : Program} {w : World} {K : PySem.W.Frag} {mg : Str → Option Value} {base : Heap}
def spGrow (K : PySem.W.Frag) : Sp := fun vs H Q _ => vs = [] ∧ ∀ (p : Addr) (H' : Hp), Same H H' → Dp K H' (.ref p) (.list growL) → Q (.ref p) H'
theorem scGr : FnScope [] [] (defScope sGrow) := ⟨rfl, rfl, rfl, by decide +kernel, rfl, by decide +kernel, by decide +kernel⟩
theorem pair_new {K : PySem.W.Frag} {H : Hp} {p : Addr} {x y : Str} : Dp K (upd H p (.lst [.str x, .str y])) (.ref p) (.list [.str x, .str y]) := .lst (SqL.of upd_same) (.cons (.str x) (.cons (.str y) .nil))
theorem ok_grow {f : Addr} {fd : FuncData} (F : Fun K "_law_grow" "_law_grow" sGrow f fd) : FnOk P w K mg base CX0 1 f fd [] (spGrow K) := by
  refine F.ok scGr (fun vs H Q E h => ?_) (fun cdv A outer s H vs Q E hr h => ?_)
  · obtain ⟨rfl, _⟩ := h
    rfl
  · obtain ⟨rfl, q⟩ := h
    refine ⟨_, pss_one (ps_ret (pe_lst (pa_cons (pe_lst (pa_cons pe_str (pa_cons pe_str pa_nil))) (pa_cons (pe_lst (pa_cons pe_str (pa_cons pe_str pa_nil))) (pa_cons (pe_lst (pa_cons pe_str (pa_cons pe_str pa_nil))) (pa_cons (pe_lst (pa_cons pe_str (pa_cons pe_str pa_nil)))
      (pa_cons (pe_lst (pa_cons pe_str (pa_cons pe_str pa_nil))) (pa_cons (pe_lst (pa_cons pe_str (pa_cons pe_str pa_nil))) (pa_cons (pe_lst (pa_cons pe_str (pa_cons pe_str pa_nil))) (pa_cons (pe_lst (pa_cons pe_str (pa_cons pe_str pa_nil))) (pa_cons (pe_lst (pa_cons pe_str (pa_cons pe_str pa_nil))) pa_nil))))))))))), ?_⟩
    refine ⟨by show 2 ≤ sizeLine; decide, fun p1 n1 => ⟨by show 2 ≤ sizeLine; decide, fun p2 n2 => ⟨by show 2 ≤ sizeLine; decide, fun p3 n3 => ⟨by show 2 ≤ sizeLine; decide, fun p4 n4 => ⟨by show 2 ≤ sizeLine; decide, fun p5 n5 => ⟨by show 2 ≤ sizeLine; decide, fun p6 n6 =>
      ⟨by show 2 ≤ sizeLine; decide, fun p7 n7 => ⟨by show 2 ≤ sizeLine; decide, fun p8 n8 => ⟨by show 2 ≤ sizeLine; decide, fun p9 n9 => ⟨by show 9 ≤ sizeLine; decide, fun p np => ?_⟩⟩⟩⟩⟩⟩⟩⟩⟩⟩
    have t9 := Same.new (o := .lst [.ref p1, .ref p2, .ref p3, .ref p4, .ref p5, .ref p6, .ref p7, .ref p8, .ref p9]) np
    have t8 := (Same.new (o := .lst [.str "(", .str "-"]) n9).trans t9
    have t7 := (Same.new (o := .lst [.str "|", .str "-"]) n8).trans t8
    have t6 := (Same.new (o := .lst [.str "+", .str "-"]) n7).trans t7
    have t5 := (Same.new (o := .lst [.str "*", .str "-"]) n6).trans t6
    have t4 := (Same.new (o := .lst [.str "=", .str "-"]) n5).trans t5
    have t3 := (Same.new (o := .lst [.str "<", .str "-"]) n4).trans t4
    have t2 := (Same.new (o := .lst [.str "-", .str "-"]) n3).trans t3
    have t1 := (Same.new (o := .lst [.str "=", .str "="]) n2).trans t2
    have t0 := (Same.new (o := .lst [.str "-", .str ">"]) n1).trans t1
    refine q p _ t0 ?_
    have e : growL = [.list [.str "-", .str ">"], .list [.str "=", .str "="], .list [.str "-", .str "-"], .list [.str "<", .str "-"], .list [.str "=", .str "-"], .list [.str "*", .str "-"], .list [.str "+", .str "-"], .list [.str "|", .str "-"], .list [.str "(", .str "-"]] := by
      unfold growL gp
      rw [show ss [45] = ("-" : Str) by decide +kernel, show ss [62] = (">" : Str) by decide +kernel, show ss [61] = ("=" : Str) by decide +kernel, show ss [60] = ("<" : Str) by decide +kernel, show ss [42] = ("*" : Str) by decide +kernel,
        show ss [43] = ("+" : Str) by decide +kernel, show ss [124] = ("|" : Str) by decide +kernel, show ss [40] = ("(" : Str) by decide +kernel]
    rw [e]
    exact .lst (SqL.of upd_same) (.cons (Dp.same t1 _ _ pair_new) (.cons (Dp.same t2 _ _ pair_new) (.cons (Dp.same t3 _ _ pair_new) (.cons (Dp.same t4 _ _ pair_new) (.cons (Dp.same t5 _ _ pair_new) (.cons (Dp.same t6 _ _ pair_new) (.cons (Dp.same t7 _ _ pair_new) (.cons (Dp.same t8 _ _ pair_new) (.cons (Dp.same t9 _ _ pair_new) .nil)))))))))
theorem shaped_pair {a b : Str} (h1 : PyData.strOk a = true) (h2 : PyData.strOk b = true) : SeqAt.shaped (.list [.str a, .str b]) = true := by
  simp [SeqAt.shaped, PyData.canLay0, PyData.canLayAll0, PyData.depth, PyData.depthAll, h1, h2]
def LastOk (K : PySem.W.Frag) (H : Hp) (v : V) (last : Option (Lx.Srt × List Nat)) : Prop := (v = .non ∧ last = none) ∨ ∃ (al : Addr) (t : Lx.Srt) (u : List Nat), v = .ref al ∧ SqL K H al [.str (sortS t), .str (ss u)] ∧ last = some (t, u) ∧ Lx.Valid t u ∧ u.length ≤ 30 ∧ ∀ c ∈ u, c < 128
def spTouches (K : PySem.W.Frag) : Sp := fun vs H Q _ => ∃ (t : Lx.Srt) (u : List Nat) (lv : V) (last : Option (Lx.Srt × List Nat)), vs = [.str (sortS t), .str (ss u), lv] ∧ Lx.Valid t u ∧ u.length ≤ 30 ∧ (∀ c ∈ u, c < 128) ∧ LastOk K H lv last ∧
  ∀ (H' : Hp) (b : Bool), Same H H' → (b = true → Lx.compat last u) → Q (.bl b) H'
theorem scTo : FnScope ["_law_sort", "_law_word_here", "_law_last", "_law_both"] ["_law_sort", "_law_word_here", "_law_last"] (defScope sTouches) := ⟨rfl, rfl, rfl, by decide +kernel, rfl, by decide +kernel, by decide +kernel⟩
set_option maxHeartbeats 4000000 in
theorem ok_touches {f fG : Addr} {fd fdG : FuncData} (F : Fun K "_law_touches" "_law_touches" sTouches f fd)
    (FG : Fun K "_law_grow" "_law_grow" sGrow fG fdG) (bG : Binds K fdG [] []) (gG : mg "_law_grow" = some (.ref fG)) :
    FnOk P w K mg base CX0 2 f fd ["_law_sort", "_law_word_here", "_law_last"] (spTouches K) := by
  have GG : FnOk P w K mg base CX0 1 fG fdG [] (spGrow K) := ok_grow FG
  refine F.ok scTo (fun vs H Q E h => ?_) (fun cdv A outer s H vs Q E hr h => ?_)
  · obtain ⟨t, u, lv, last, rfl, _⟩ := h
    rfl
  · obtain ⟨t, u, lv, last, rfl, hv, hl, hc, hL, q⟩ := h
    refine ⟨_, pss_cons (ps_if (pt_cmpR op_isN (pv 2) pe_non (nomark _)) (pss_one (ps_ret pe_bl)) pss_nil)
      (pss_cons (ps_if (PW.pt (pw_and (pt_cmpR op_ne (pe_ix ix_list (pv 2) pe_int (fun _ _ => rfl)) pe_str (nomark _)) (pw_and1 (pt_cmpR op_ne (pv 0) pe_str (nomark _))))) (pss_one (ps_ret pe_bl)) pss_nil)
      (pss_cons (ps_if (PW.pt (pw_and (pt_cmpR op_eq (pe_ix ix_list (pv 2) pe_int (fun _ _ => rfl)) pe_str (nomark _)) (pw_and1 (pt_cmpR op_eq (pv 0) pe_str (nomark _)))))
          (pss_cons (ps_set (i := 3) scTo.nd rfl (.inl rfl) (pe_op op_add_str (pe_ix ix_list (pv 2) pe_int (fun _ _ => rfl)) (pv 1)))
            (pss_one (ps_ret (pe_and (pe_cmpR op_notIn_seq (pv 3) (pe_lst (pa_cons pe_str (pa_cons pe_str (pa_cons pe_str pa_nil)))) rfl)
              (pe_and (pe_not (pe_bm PySem.F.plainAttrs_str PySem.F.slot_str_startswith PySem.F.type_str_startswith mt_startswith (pv 3) (pa_cons pe_str pa_nil)))
                (pe_one (pe_cmpR (op_notInD (hu65 hr)) (pe_lst (pa_cons (pe_ix ix_list (pv 2) pe_int (fun _ _ => rfl)) (pa_cons (pe_ix ix_str (pv 1) pe_int (fun _ _ => rfl)) pa_nil))) (pe_call0 GG hr rfl gG FG.kp bG .nil pass0) rfl)))))))
          pss_nil)
      (pss_one (ps_ret pe_bl)))), ?_⟩
    refine ⟨_, rfl, rfl, _, rfl, ?_⟩
    rcases hL with ⟨rfl, rfl⟩ | ⟨al, t', u', rfl, hS, rfl, hv', hl', hc'⟩
    · exact iteT (q H true (Same.refl H) fun _ => by cases u <;> trivial)
    · rw [show decide (V.ref al = V.non) = false from decide_eq_false fun z => nomatch z]
      refine iteF ⟨_, rfl, al, _, 0, _, rfl, rfl, hS, atI_nat (j := 0) rfl, ?_⟩
      refine ⟨rfl, _, rfl, ?_⟩
      show if (!decide (V.str (sortS t') = V.str ("sign" : Str))) = true then _ else _
      rw [is_sign]
      by_cases c1 : t' = .sign
      · rw [decide_eq_true c1]
        refine iteF (iteF ⟨_, rfl, al, _, 0, _, rfl, rfl, hS, atI_nat (j := 0) rfl, rfl, _, rfl, ?_⟩)
        show if decide (V.str (sortS t') = V.str ("sign" : Str)) = true then _ else _
        rw [is_sign, decide_eq_true c1]
        refine iteT ⟨_, rfl, rfl, _, rfl, ?_⟩
        show if decide (V.str (sortS t) = V.str ("sign" : Str)) = true then _ else _
        rw [is_sign]
        by_cases c2 : t = .sign
        · rw [decide_eq_true c2]
          subst c1 c2
          refine iteT ⟨_, rfl, al, _, 1, _, rfl, rfl, hS, atI_nat (j := 1) rfl, _, rfl, _, _, rfl, rfl, by rw [ss_len, ss_len, sizeLine_eq]; omega, ?_⟩
          refine ⟨_, rfl, by show 3 ≤ sizeLine; decide, fun l nl => ⟨l, _, rfl, .inl (SqL.of upd_same), rfl, by decide +kernel, _, rfl, ?_⟩⟩
          have s1 : Same H (upd H l (.lst [.str "-->", .str "--", .str "->>"])) := Same.new nl
          obtain ⟨x, r, rfl, _⟩ := Lx.valid_cons hv
          refine ite2 (fun _ => ?_) (fun _ => q _ false s1 fun z => nomatch z)
          refine ⟨_, rfl, rfl, _, _, rfl, rfl, _, rfl, _, rfl, ?_⟩
          refine ite2 (fun _ => ?_) (fun _ => q _ false s1 fun z => nomatch z)
          refine ⟨_, rfl, al, _, 1, _, rfl, rfl, s1.seq hS, atI_nat (j := 1) rfl, _, rfl, _, 0, x, rfl, rfl, by rw [ss_len, sizeLine_eq]; omega, ss_at (i := 0) rfl, by show 2 ≤ sizeLine; decide, fun l2 nl2 => ⟨rfl, fun p H2 s2 dg => ?_⟩⟩
          have hx : x < 128 := hc x List.mem_cons_self
          refine ⟨.list [.str (ss u'), .str (ss [x])], growL, .lst (s2.seq (SqL.of upd_same)) (.cons (.str _) (.cons (.str _) .nil)), dg, shaped_pair (ss_ok fun c h => Nat.lt_trans (hc' c h) (by decide)) (ss_ok fun c h => by rw [List.mem_singleton.mp h]; omega), by decide +kernel, ?_⟩
          refine q H2 _ ((s1.trans (Same.new nl2)).trans s2) fun e => grow_no ?_
          rw [Bool.not_eq_true'] at e
          exact e
        · rw [decide_eq_false c2]
          subst c1
          exact iteF (q H true (Same.refl H) fun _ => compat_mixed1 hv c2)
      · rw [decide_eq_false c1]
        refine iteT ⟨_, rfl, rfl, _, rfl, ?_⟩
        show if (!decide (V.str (sortS t) = V.str ("sign" : Str))) = true then _ else _
        rw [is_sign]
        by_cases c2 : t = .sign
        · rw [decide_eq_true c2]
          subst c2
          refine iteF ?_
          refine ⟨_, rfl, al, _, 0, _, rfl, rfl, hS, atI_nat (j := 0) rfl, rfl, _, rfl, ?_⟩
          show if decide (V.str (sortS t') = V.str ("sign" : Str)) = true then _ else _
          rw [is_sign, decide_eq_false c1]
          exact iteF (iteF (q H true (Same.refl H) fun _ => compat_mixed2 hv c1))
        · rw [decide_eq_false c2]
          exact iteT (q H false (Same.refl H) fun z => nomatch z)
end
end G01

set_option Elab.async false
set_option maxRecDepth 100000
/-! a row of the law -/
namespace G01
open PySem L2 Hx Xr P01
abbrev sRow : Stmt := top 25
def tokL (k : Nat) (t : Lx.Tok) : PyData := .list [.tuple [.int (k : Int), .int ((t.1 : Int) + 1)], .str (sortS t.2.1), .str (ss t.2.2)]
theorem blanks_eq (n : Nat) : timesS (" " : Str) n = ss (List.replicate n 32) := by
  rw [← ss_of (timesS (" " : Str) n), timesS_list]
  congr 1
  have e : (" " : Str).cps.toList = [32] := by decide +kernel
  rw [e]
  induction n with
  | zero => rfl
  | succ n ih => rw [List.replicate_succ, List.flatten_cons, ih]; rfl
theorem blank_len : (" " : Str).length = 1 := by decide +kernel
def tRem : List (List Nat) := [[108, 101, 116, 32, 120], [45], [], [65, 57, 32, 63]]
theorem rem_len : (" -- " : Str).length = 4 := by decide +kernel
theorem rep128 {n c : Nat} (h : c ∈ List.replicate n 32) : c < 128 := by
  rw [(List.mem_replicate.mp h).2]
  decide
theorem app128 {a b : List Nat} (h1 : ∀ c ∈ a, c < 128) (h2 : ∀ c ∈ b, c < 128) : ∀ c ∈ a ++ b, c < 128 := fun c h => by
  rcases List.mem_append.mp h with h | h
  · exact h1 c h
  · exact h2 c h
def Word128 (t : Lx.Tok) : Prop := ∀ c ∈ t.2.2, c < 128
section
variable {P : Program} {w : World} {K : PySem.W.Frag} {mg : Str → Option Value} {base : Heap}
def spRow (K : PySem.W.Frag) : Sp := fun vs H Q _ => ∃ (a : Addr) (k s : Nat) (n : Int), vs = [.ref a, .int k, .int s] ∧ s ≤ 10 ∧ PurseAt H a n ∧ n ≤ 800000 ∧
  ∀ (H' F : Hp) (p q : Addr) (l : List Nat) (ft : List Lx.Tok) (items : List V) (n' : Int), But a H H' → Same F H' → (∀ b, F b ≠ none → H b = none) → PurseAt H' a n' → n' ≤ n + 400 → H p = none → H q = none → F p = none → F q = none →
    H' p = some (.lst [.str (ss l), .ref q]) → H' q = some (.lst items) → DpAll K F items (ft.map (tokL k)) → Lx.lex 0 l = .ok ft → l.length ≤ 300 → (∀ c ∈ l, c < 128) → ft.length ≤ 10 → (∀ t ∈ ft, Word128 t) → Q (.ref p) H'
theorem scRow : FnScope ["_law_purse_here", "_law_number", "_law_steps", "_law_line", "_law_found", "_law_last", "_law_k", "_law_sort", "_law_word_here"] ["_law_purse_here", "_law_number", "_law_steps"] (defScope sRow) := ⟨rfl, rfl, rfl, by decide +kernel, rfl, by decide +kernel, by decide +kernel⟩
set_option maxHeartbeats 8000000 in
theorem ok_row {f fT fM fW fD fG fO : Addr} {fd fdT fdM fdW fdD fdG fdO : FuncData} (F : Fun K "_law_row" "_law_row" sRow f fd) (mi : mg "int" = none) (mr : mg "range" = none) (ml : mg "len" = none)
    (FT : Fun K "_law_take" "_law_take" sTake fT fdT) (bT : Binds K fdT ["_law_purse_here", "_law_steps"] []) (gT : mg "_law_take" = some (.ref fT))
    (FM : Fun K "_law_mixed" "_law_mixed" sMixed fM fdM) (bM : Binds K fdM ["_law_cell", "_law_k"] []) (gM : mg "_law_mixed" = some (.ref fM))
    (FW : Fun K "_law_words" "_law_words" sWords fW fdW) (bW : Binds K fdW [] []) (gW : mg "_law_words" = some (.ref fW))
    (FD : Fun K "_law_word" "_law_word" sWord fD fdD) (bD : Binds K fdD ["_law_purse_here"] []) (gD : mg "_law_word" = some (.ref fD))
    (FG : Fun K "_law_grow" "_law_grow" sGrow fG fdG) (bG : Binds K fdG [] []) (gG : mg "_law_grow" = some (.ref fG))
    (FO : Fun K "_law_touches" "_law_touches" sTouches fO fdO) (bO : Binds K fdO ["_law_sort", "_law_word_here", "_law_last"] []) (gO : mg "_law_touches" = some (.ref fO)) :
    FnOk P w K mg base CX0 5 f fd ["_law_purse_here", "_law_number", "_law_steps"] (spRow K) := by
  have GT : FnOk P w K mg base CX0 2 fT fdT ["_law_purse_here", "_law_steps"] spTake := ok_take FT FM bM gM
  have GD : FnOk P w K mg base CX0 4 fD fdD ["_law_purse_here"] spWord := ok_word FD mi mr FT bT gT FM bM gM FW bW gW
  have GO : FnOk P w K mg base CX0 2 fO fdO ["_law_sort", "_law_word_here", "_law_last"] (spTouches K) := ok_touches FO FG bG gG
  refine F.ok scRow (fun vs H Q E h => ?_) (fun cdv A outer st H vs Q E hr h => ?_)
  · obtain ⟨a, k, s, n, rfl, _⟩ := h
    rfl
  · obtain ⟨a, k, s, n, rfl, hs, pa, hn, q⟩ := h
    have hr2 : Room 2 _ := hr.mono (by decide)
    refine ⟨_, pss_cons (ps_set (i := 3) scRow.nd rfl (.inl rfl) (pe_op op_mulS pe_str (pe_call GT hr2 rfl gT FT.kp bT .nil pass0 (pa_cons (pv 0) (pa_cons pe_int pa_nil)))))
      (pss_cons (ps_set (i := 4) scRow.nd rfl (.inl rfl) (pe_lst pa_nil))
      (pss_cons (ps_set (i := 5) scRow.nd rfl (.inl rfl) pe_non)
      (pss_cons (ps_for PassesOwn.never rfl (pi_range1 rfl mr (pa_cons (pv 2) pa_nil)) (pg_name (i := 6) scRow.nd rfl (.inl rfl))
        (pss_cons (ps_asg (pe_call GD hr rfl gD FD.kp bD .nil pass0 (pa_cons (pv 0) pa_nil)) (pg_unl rfl (pgs_cons (pg_name (i := 7) scRow.nd rfl (.inl rfl)) (pgs_cons (pg_name (i := 8) scRow.nd rfl (.inl rfl)) pgs_nil))))
          (pss_one (ps_if (pt_cmpR op_lt (pe_callB call_len (by rfl) ml PySem.boot_len (pa_cons (pv 3) pa_nil)) pe_int (nomark _))
            (C8.pss_cut (ps_if (PW.pt (pw_or (pt_cmpR op_gt (pe_call GT hr2 rfl gT FT.kp bT .nil pass0 (pa_cons (pv 0) (pa_cons pe_int pa_nil))) pe_int (nomark _))
                (pw_or1 (pt_not (pt_val (pe_call GO hr2 rfl gO FO.kp bO .nil pass0 (pa_cons (pv 7) (pa_cons (pv 8) (pa_cons (pv 5) pa_nil)))))))))
                (pss_one (ps_set (i := 3) scRow.nd rfl (.inl rfl) (pe_op op_add_str (pv 3) (pe_op op_mulS pe_str (pe_op op_add pe_int (pe_call GT hr2 rfl gT FT.kp bT .nil pass0 (pa_cons (pv 0) (pa_cons pe_int pa_nil)))))))) pss_nil)
              (pss_cons (ps_expr (pe_bm PySem.F.plainAttrs_list PySem.F.slot_list_append PySem.F.type_list_append mt_append (pv 4)
                (pa_cons (pe_lst (pa_cons (pe_tup (pa_cons (pv 1) (pa_cons (pe_op op_add (pe_callB call_len (by rfl) ml PySem.boot_len (pa_cons (pv 3) pa_nil)) pe_int) pa_nil))) (pa_cons (pv 7) (pa_cons (pv 8) pa_nil)))) pa_nil)))
              (pss_cons (ps_set (i := 3) scRow.nd rfl (.inl rfl) (pe_op op_add_str (pv 3) (pv 8)))
              (pss_one (ps_set (i := 5) scRow.nd rfl (.inl rfl) (pe_lst (pa_cons (pv 7) (pa_cons (pv 8) pa_nil))))))))
            pss_nil))))
      (pss_cons (ps_set (i := 3) scRow.nd rfl (.inl rfl) (pe_op op_add_str (pv 3) (pe_op op_mulS pe_str (pe_call GT hr2 rfl gT FT.kp bT .nil pass0 (pa_cons (pv 0) (pa_cons pe_int pa_nil))))))
      (C8.pss_cut (ps_if (pt_cmpR op_eq (pe_call GT hr2 rfl gT FT.kp bT .nil pass0 (pa_cons (pv 0) (pa_cons pe_int pa_nil))) pe_int (nomark _))
          (pss_one (ps_set (i := 3) scRow.nd rfl (.inl rfl) (pe_op op_add_str (pe_op op_add_str (pv 3) pe_str) (pe_ix ix_list (pe_lst (pa_cons pe_str (pa_cons pe_str (pa_cons pe_str (pa_cons pe_str pa_nil)))))
            (pe_call GT hr2 rfl gT FT.kp bT .nil pass0 (pa_cons (pv 0) (pa_cons pe_int pa_nil))) (fun _ _ => rfl))))) pss_nil)
      (pss_one (ps_ret (pe_lst (pa_cons (pv 3) (pa_cons (pv 4) pa_nil)))))))))), ?_⟩
    refine ⟨_, rfl, a, 9, n, rfl, by decide, by decide, pa, by omega, fun j n1 H1 hj hn1 p1 b1 f1 => ?_⟩
    refine ⟨(" " : Str), j, rfl, rfl, by omega, by omega, by decide +kernel, by decide +kernel, ?_⟩
    rw [show ((j : Nat) : Int).toNat = j from Int.toNat_natCast j, blanks_eq]
    refine ⟨Nat.zero_le _, fun q0 nq => ?_⟩
    have nqH : H q0 = none := b1.free p1 nq
    refine ⟨_, rfl, s, rfl, by omega, by omega, for_range (lo := 0) (n := (s : Int).toNat) (fun i σ H' => ∃ (l : List Nat) (ft : List Lx.Tok) (lv : V) (last : Option (Lx.Srt × List Nat)) (n' : Int) (G : Hp) (items : List V) (v6 v7 v8 : Option V),
        σ = [some (.ref a), some (.int k), some (.int s), some (.str (ss l)), some (.ref q0), some lv, v6, v7, v8] ∧ But a H H' ∧ PurseAt H' a n' ∧ n' ≤ n + 1 + 20 * i ∧ Same G H' ∧ (∀ b, G b ≠ none → H b = none) ∧ G q0 = none ∧ H' q0 = some (.lst items) ∧
        DpAll K G items (ft.map (tokL k)) ∧ Lx.Pre l ft last ∧ LastOk K G lv last ∧ l.length ≤ 100 ∧ ft.length ≤ i ∧ (∀ t ∈ ft, Word128 t) ∧ ∀ c ∈ l, c < 128)
      ⟨List.replicate j 32, [], .non, none, n1, fun _ => none, [], none, none, none, rfl, b1.updNew nqH, p1.same (Same.new nq), by omega, (fun b o e => nomatch e), fun b e => absurd rfl e, rfl, upd_same, .nil, ?_, .inl ⟨rfl, rfl⟩, by rw [List.length_replicate]; omega, Nat.zero_le _, (fun t h => nomatch h), fun c h => rep128 h⟩ ?_ ?_⟩
    · have := Lx.Pre.nil.blanks (g := j) (.inl rfl)
      rw [List.nil_append] at this
      exact this
    · rintro i σ H' hi ⟨l, ft, lv, last, n', G, items, v6, v7, v8, rfl, hb, hp, hn', sG, fG, gq, hq, hd, hP, hL, hll, hfl, hw, hcl⟩
      have naq : a ≠ q0 := pa.ne nqH
      have ga : G a = none := by
        cases z : G a with
        | none => rfl
        | some o =>
          obtain ⟨x, y, hx, _⟩ := pa
          rw [fG a (by rw [z]; exact fun y => by cases y)] at hx
          cases hx
      refine ⟨_, rfl, a, n', rfl, hp, by omega, fun H2 p2 t u n2 b2 hp2 hn2 hv hul hu np2 hp2' => ?_⟩
      refine ⟨p2, _, rfl, SqL.of hp2', rfl, _, _, rfl, _, _, rfl, rfl, ?_⟩
      have sG2 : Same G H2 := b2.sub sG ga
      have hq2 : H2 q0 = some (.lst items) := b2 q0 _ naq.symm hq
      have hb2 : But a H H2 := hb.trans b2
      refine ⟨_, rfl, _, (ss l).length, rfl, ⟨by rw [ss_len, sizeLine_eq]; omega, rfl⟩, _, _, rfl, rfl, _, rfl, ?_⟩
      rw [ss_len]
      by_cases cl : l.length < 55
      · rw [decide_eq_true (by omega)]
        refine iteT ?_
        refine ⟨fun σ' H3 => ∃ (l' : List Nat) (n3 : Int) (last' : Option (Lx.Srt × List Nat)), σ' = [some (.ref a), some (.int k), some (.int s), some (.str (ss l')), some (.ref q0), some lv, some (.int (0 + (i : Nat))), some (.str (sortS t)), some (.str (ss u))] ∧
          But a H H3 ∧ PurseAt H3 a n3 ∧ n3 ≤ n2 + 2 ∧ Same G H3 ∧ H3 q0 = some (.lst items) ∧ Lx.Pre l' ft last' ∧ Lx.compat last' u ∧ l'.length ≤ l.length + 3 ∧ ∀ c ∈ l', c < 128, ?_, ?_⟩
        · refine ⟨_, rfl, a, 3, n2, rfl, by decide, by decide, hp2, by omega, fun j3 n3 H3 hj3 hn3 p3 b3 f3 => ?_⟩
          have sG3 : Same G H3 := b3.sub sG2 ga
          have hq3 : H3 q0 = some (.lst items) := b3 q0 _ naq.symm hq2
          refine ⟨_, _, rfl, rfl, _, rfl, ?_⟩
          refine ite2 (fun c3 => ?_) (fun c3 => ?_)
          · have e3 : (if true = true then True else False) := by simp
            refine ⟨_, rfl, _, rfl, a, 3, n3, rfl, by decide, by decide, p3, by omega, fun j4 n4 H4 hj4 hn4 p4 b4 f4 => ?_⟩
            refine ⟨_, _, rfl, rfl, (" " : Str), 1 + (j4 : Int), rfl, rfl, by omega, by omega, by decide +kernel, by decide +kernel, ?_⟩
            rw [show (1 + (j4 : Int)).toNat = 1 + j4 by omega, blanks_eq]
            refine ⟨_, _, rfl, rfl, by rw [ss_len, ss_len, List.length_replicate, sizeLine_eq]; omega, ?_⟩
            rw [ss_app]
            exact ⟨l ++ List.replicate (1 + j4) 32, n4, none, rfl, (hb2.trans b3).trans b4, p4, by omega, b4.sub sG3 ga, b4 q0 _ naq.symm hq3, hP.blanks (.inr (by omega)), trivial, by rw [List.length_append, List.length_replicate]; omega, app128 hcl fun c h => rep128 h⟩
          · have hL3 : LastOk K H3 lv last := by
              rcases hL with h | ⟨al, t', u', h1, h2, h3⟩
              · exact .inl h
              · exact .inr ⟨al, t', u', h1, sG3.seq h2, h3⟩
            refine ⟨_, rfl, _, rfl, _, rfl, t, u, lv, last, rfl, hv, hul, hu, hL3, fun H4 b s4 hc4 => ⟨_, rfl, ?_⟩⟩
            have sG4 : Same G H4 := sG3.trans s4
            have hq4 : H4 q0 = some (.lst items) := s4 _ _ hq3
            have p4' : PurseAt H4 a n3 := p3.same s4
            have hb4 : But a H H4 := (hb2.trans b3).trans (But.of s4)
            cases b with
            | true => exact ⟨l, n3, last, rfl, hb4, p4', by omega, sG4, hq4, hP, hc4 rfl, by omega, hcl⟩
            | false =>
              refine ⟨_, rfl, _, rfl, a, 3, n3, rfl, by decide, by decide, p4', by omega, fun j4 n4 H4 hj4 hn4 p4 b4 f4 => ?_⟩
              refine ⟨_, _, rfl, rfl, (" " : Str), 1 + (j4 : Int), rfl, rfl, by omega, by omega, by decide +kernel, by decide +kernel, ?_⟩
              rw [show (1 + (j4 : Int)).toNat = 1 + j4 by omega, blanks_eq]
              refine ⟨_, _, rfl, rfl, by rw [ss_len, ss_len, List.length_replicate, sizeLine_eq]; omega, ?_⟩
              rw [ss_app]
              exact ⟨l ++ List.replicate (1 + j4) 32, n4, none, rfl, hb4.trans b4, p4, by omega, b4.sub sG4 ga, b4 q0 _ naq.symm hq4, hP.blanks (.inr (by omega)), trivial, by rw [List.length_append, List.length_replicate]; omega, app128 hcl fun c h => rep128 h⟩
        · rintro σ' H3 ⟨l', n3, last', rfl, hb3, p3, hn3, sG3, hq3, hP3, hc3, hl3, hcl3⟩
          refine ⟨_, rfl, .inl ⟨rfl, _, SqL.of hq3⟩, ?_⟩
          refine ⟨_, rfl, _, rfl, _, (ss l').length, rfl, ⟨by rw [ss_len, sizeLine_eq]; omega, rfl⟩, _, _, rfl, rfl, by show 2 ≤ sizeLine; decide, fun t1 nt1 => ?_⟩
          refine ⟨_, rfl, _, rfl, by show 3 ≤ sizeLine; decide, fun l1 nl1 => ?_⟩
          have qt : q0 ≠ t1 := ne_of_none hq3 nt1
          have ql : q0 ≠ l1 := ne_of_none (by rw [upd_ne qt]; exact hq3) nl1
          have tl : t1 ≠ l1 := ne_of_none upd_same nl1
          have hil := DpAll.len hd
          rw [List.length_map] at hil
          refine ⟨q0, items, _, rfl, rfl, by rw [upd_ne ql, upd_ne qt]; exact hq3, by rw [sizeLine_eq]; omega, ?_⟩
          refine ⟨_, rfl, _, rfl, _, _, rfl, rfl, by rw [ss_len, ss_len, sizeLine_eq]; omega, ?_⟩
          rw [ss_app]
          refine ⟨_, rfl, _, rfl, by show 2 ≤ sizeLine; decide, fun al nal => ?_⟩
          have qa : q0 ≠ al := ne_of_none upd_same nal
          have la : l1 ≠ al := ne_of_none (by rw [upd_ne ql.symm]; exact upd_same) nal
          have ta : t1 ≠ al := ne_of_none (by rw [upd_ne qt.symm, upd_ne tl]; exact upd_same) nal
          have nal3 : H3 al = none := by
            rw [upd_ne qa.symm, upd_ne la.symm, upd_ne ta.symm] at nal
            exact nal
          have nl3 : H3 l1 = none := by
            rw [upd_ne tl.symm] at nl1
            exact nl1
          have h1 := hb3.free p3 nt1
          have h2 := hb3.free p3 nl3
          have h3 := hb3.free p3 nal3
          have g1 : G t1 = none := sG3.free nt1
          have g2 : (upd G t1 (.tup [.int k, .int ((l'.length : Int) + 1)])) l1 = none := by
            rw [upd_ne tl.symm]
            exact sG3.free nl3
          have g3 : (upd (upd G t1 (.tup [.int k, .int ((l'.length : Int) + 1)])) l1 (.lst [.ref t1, .str (sortS t), .str (ss u)])) al = none := by
            rw [upd_ne la.symm, upd_ne ta.symm]
            exact sG3.free nal3
          have gq' : (upd (upd G t1 (.tup [.int k, .int ((l'.length : Int) + 1)])) l1 (.lst [.ref t1, .str (sortS t), .str (ss u)])) q0 = none := by
            rw [upd_ne ql, upd_ne qt]
            exact gq
          have a1 := p3.ne nt1
          have a2 := p3.ne nl3
          have a3 := p3.ne nal3
          rw [ss_len]
          refine ⟨l' ++ u, ft ++ [(l'.length, t, u)], .ref al, some (t, u), n3, upd (upd (upd G t1 (.tup [.int k, .int ((l'.length : Int) + 1)])) l1 (.lst [.ref t1, .str (sortS t), .str (ss u)])) al (.lst [.str (sortS t), .str (ss u)]), items ++ [.ref l1], _, _, _, rfl,
            (((hb3.updNew h1).updNew h2).updNew nqH).updNew h3, p3.but (by rw [upd_ne a3, upd_ne naq, upd_ne a2, upd_ne a1]), by omega, Same.both (Same.upd (Same.both (Same.both sG3 _ _) _ _) gq') _ _, ?_, ?_, ?_, ?_, hP3.word hv hc3, .inr ⟨al, t, u, rfl, SqL.of upd_same, rfl, hv, hul, hu⟩, ?_, ?_, ?_, app128 hcl3 hu⟩
          · intro b e
            by_cases z3 : b = al
            · rw [z3]; exact h3
            · rw [upd_ne z3] at e
              by_cases z2 : b = l1
              · rw [z2]; exact h2
              · rw [upd_ne z2] at e
                by_cases z1 : b = t1
                · rw [z1]; exact h1
                · rw [upd_ne z1] at e
                  exact fG b e
          · rw [upd_ne qa]
            exact gq'
          · rw [upd_ne qa]
            exact upd_same
          · rw [List.map_append]
            refine DpAll.app (DpAll.same ((Same.new g1).trans ((Same.new g2).trans (Same.new g3))) _ _ hd) (.cons (.lst (SqL.of (by rw [upd_ne la]; exact upd_same)) (.cons (.tup (SqT.of (by rw [upd_ne ta, upd_ne tl]; exact upd_same)) (.cons (.int _) (.cons (.int _) .nil))) (.cons (.str _) (.cons (.str _) .nil)))) .nil)
          · rw [List.length_append]
            omega
          · rw [List.length_append, List.length_singleton]
            omega
          · intro z hz
            rcases List.mem_append.mp hz with hz | hz
            · exact hw z hz
            · rw [List.mem_singleton.mp hz]
              exact hu
      · rw [decide_eq_false (by omega)]
        exact iteF ⟨l, ft, lv, last, n2, G, items, _, _, _, rfl, hb2, hp2, by omega, sG2, fG, gq, hq2, hd, hP, hL, hll, by omega, hw, hcl⟩
    · rintro σ H' ⟨l, ft, lv, last, n', G, items, v6, v7, v8, rfl, hb, hp, hn', sG, fG, gq, hq, hd, hP, hL, hll, hfl, hw, hcl⟩
      have naq : a ≠ q0 := pa.ne nqH
      have ga : G a = none := by
        cases z : G a with
        | none => rfl
        | some o =>
          obtain ⟨x, y, hx, _⟩ := pa
          rw [fG a (by rw [z]; exact fun y => by cases y)] at hx
          cases hx
      have hs10 : (s : Int).toNat = s := Int.toNat_natCast s
      rw [hs10] at hfl hn'
      refine ⟨_, rfl, _, rfl, a, 3, n', rfl, by decide, by decide, hp, by omega, fun j2 n2 H2 hj2 hn2 p2 b2 f2 => ?_⟩
      refine ⟨(" " : Str), j2, rfl, rfl, by omega, by omega, by decide +kernel, by decide +kernel, ?_⟩
      rw [show ((j2 : Nat) : Int).toNat = j2 from Int.toNat_natCast j2, blanks_eq]
      refine ⟨_, _, rfl, rfl, by rw [ss_len, ss_len, List.length_replicate, sizeLine_eq]; omega, ?_⟩
      rw [ss_app]
      obtain ⟨last2, hP2⟩ : ∃ last2, Lx.Pre (l ++ List.replicate j2 32) ft last2 := by
        cases j2 with
        | zero => exact ⟨last, by simpa using hP⟩
        | succ j2 => exact ⟨none, hP.blanks (.inr (by omega))⟩
      have l2 : (l ++ List.replicate j2 32).length ≤ 103 := by
        rw [List.length_append, List.length_replicate]
        omega
      have hcb : ∀ c ∈ l ++ List.replicate j2 32, c < 128 := app128 hcl fun c h => rep128 h
      generalize l ++ List.replicate j2 32 = lb at hP2 l2 hcb ⊢
      have sG2 : Same G H2 := b2.sub sG ga
      have hq2 : H2 q0 = some (.lst items) := b2 q0 _ naq.symm hq
      have hb2 : But a H H2 := hb.trans b2
      refine ⟨fun σ' H3 => ∃ (l' : List Nat) (n3 : Int), σ' = [some (.ref a), some (.int k), some (.int s), some (.str (ss l')), some (.ref q0), some lv, v6, v7, v8] ∧
          But a H H3 ∧ PurseAt H3 a n3 ∧ n3 ≤ n2 + 2 ∧ Same G H3 ∧ H3 q0 = some (.lst items) ∧ Lx.lex 0 l' = .ok ft ∧ l'.length ≤ 300 ∧ ∀ c ∈ l', c < 128, ?_, ?_⟩
      · refine ⟨_, rfl, a, 4, n2, rfl, by decide, by decide, p2, by omega, fun j3 n3 H3 hj3 hn3 p3 b3 f3 => ?_⟩
        have sG3 : Same G H3 := b3.sub sG2 ga
        have hq3 : H3 q0 = some (.lst items) := b3 q0 _ naq.symm hq2
        refine ⟨rfl, _, rfl, ?_⟩
        refine ite2 (fun c3 => ?_) (fun c3 => ?_)
        · refine ⟨_, rfl, _, _, rfl, rfl, by rw [ss_len, rem_len, sizeLine_eq]; omega, by show 4 ≤ sizeLine; decide, fun r nr => ⟨_, rfl, a, 4, n3, rfl, by decide, by decide, p3.same (Same.new nr), by omega, fun j4 n4 H4 hj4 hn4 p4 b4 f4 => ?_⟩⟩
          have nra : r ≠ a := (p3.ne nr).symm
          have eS : tRem.map (fun w => V.str (ss w)) = [V.str "let x", V.str "-", V.str "", V.str "A9 ?"] := by decide +kernel
          have hj4' : j4 < tRem.length := by
            have z : tRem.length = 4 := by decide
            omega
          have hr4 : H4 r = some (.lst (tRem.map fun w => V.str (ss w))) := by
            rw [eS]
            exact b4 r _ nra upd_same
          have hw5 := (by decide : ∀ w ∈ tRem, w.length ≤ 5) _ (List.getElem_mem hj4')
          have hw6 := (by decide : ∀ w ∈ tRem, ∀ c ∈ w, c < 128) _ (List.getElem_mem hj4')
          refine ⟨r, _, _, _, rfl, rfl, SqL.of hr4, tbl_at hj4', ?_⟩
          generalize tRem[j4] = rm at hw5 hw6 ⊢
          have e4 : (" -- " : Str) = ss [32, 45, 45, 32] := by decide +kernel
          rw [e4, ss_app]
          refine ⟨_, _, rfl, rfl, by rw [ss_len, ss_len, List.length_append, sizeLine_eq]; simp only [List.length_cons, List.length_nil]; omega, ?_⟩
          rw [ss_app]
          refine ⟨lb ++ [32, 45, 45, 32] ++ rm, n4, rfl, ((hb2.trans b3).trans (But.of (Same.new nr))).trans b4, p4, by omega, b4.sub (sG3.trans (Same.new nr)) ga, b4 q0 _ naq.symm (Same.new nr _ _ hq3), ?_, ?_, app128 (app128 hcb (by decide)) hw6⟩
          · rw [List.append_assoc]
            exact hP2.remark (32 :: rm)
          · simp only [List.length_append, List.length_cons, List.length_nil]
            omega
        · exact ⟨lb, n3, rfl, hb2.trans b3, p3, by omega, sG3, hq3, hP2.done, by omega, hcb⟩
      · rintro σ' H3 ⟨l', n3, rfl, hb3, p3, hn3, sG3, hq3, hx, hl3, hcl3⟩
        refine ⟨_, rfl, _, rfl, by show 2 ≤ sizeLine; decide, fun p np => ?_⟩
        have pq : p ≠ q0 := (ne_of_none hq3 np).symm
        exact q _ G p q0 l' ft items n3 (hb3.trans (But.of (Same.new np))) (sG3.trans (Same.new np)) fG (p3.same (Same.new np)) (by omega) (hb3.free p3 np) nqH (sG3.free np) gq upd_same (by rw [upd_ne pq.symm]; exact hq3) hd hx hl3 hcl3 (by omega) hw
end
end G01

set_option Elab.async false
set_option maxRecDepth 100000
/-! the rows of the law -/
namespace G01
open PySem L2 Hx Xr P01
abbrev sRows : Stmt := top 26
def dL (p : Nat × Lx.Tok) : PyData := tokL p.1 p.2
def dT (p : Nat × Lx.Tok) : PyData := tokD p.1 p.2
theorem lexText_snoc : ∀ (ls : List (List Nat)) (k : Nat) (ds : List PyData) (l : List Nat) (f : List Lx.Tok), lexText k ls = .ok ds → Lx.lex 0 l = .ok f → lexText k (ls ++ [l]) = .ok (ds ++ f.map (tokD (k + ls.length)))
  | [], k, ds, l, f, h, hf => by
    unfold lexText at h
    cases h
    show lexText k [l] = _
    unfold lexText
    rw [hf]
    unfold lexText
    simp
  | m :: ls, k, ds, l, f, h, hf => by
    unfold lexText at h
    show lexText k (m :: (ls ++ [l])) = _
    unfold lexText
    cases e : Lx.lex 0 m with
    | error x => rw [e] at h; cases h
    | ok g =>
      rw [e] at h
      simp only at h
      cases e2 : lexText (k + 1) ls with
      | error x => rw [e2] at h; cases h
      | ok ds' =>
        rw [e2] at h
        cases h
        simp only [lexText_snoc ls (k + 1) ds' l f e2 hf, List.length_cons]
        rw [List.append_assoc, show k + 1 + ls.length = k + (ls.length + 1) by omega]
section
variable {P : Program} {w : World} {K : PySem.W.Frag} {mg : Str → Option Value} {base : Heap}
def spRows (K : PySem.W.Frag) : Sp := fun vs H Q _ => ∃ (a : Addr) (s : Nat) (n : Int), vs = [.ref a, .int s] ∧ s ≤ 10 ∧ PurseAt H a n ∧ n ≤ 700000 ∧
  ∀ (H' : Hp) (p q1 q2 : Addr) (ls : List (List Nat)) (ps : List (Nat × Lx.Tok)) (items : List V), But a H H' → H' p = some (.lst [.ref q1, .ref q2]) → H' q1 = some (.lst (ls.map fun l => V.str (ss l))) → H' q2 = some (.lst items) →
    DpAll K H' items (ps.map dL) → lexText 1 ls = .ok (ps.map dT) → ls.length ≤ 10 → (∀ l ∈ ls, l.length ≤ 300 ∧ ∀ c ∈ l, c < 128) → ps.length ≤ 100 → (∀ p ∈ ps, Word128 p.2) → Q (.ref p) H'
theorem scRows : FnScope ["_law_purse_here", "_law_steps", "_law_lines", "_law_found", "_law_number", "_law_line", "_law_more"] ["_law_purse_here", "_law_steps"] (defScope sRows) := ⟨rfl, rfl, rfl, by decide +kernel, rfl, by decide +kernel, by decide +kernel⟩
set_option maxHeartbeats 8000000 in
theorem ok_rows {f fT fM fW fD fG fO fR : Addr} {fd fdT fdM fdW fdD fdG fdO fdR : FuncData} (F : Fun K "_law_rows" "_law_rows" sRows f fd) (mi : mg "int" = none) (mr : mg "range" = none) (ml : mg "len" = none)
    (FT : Fun K "_law_take" "_law_take" sTake fT fdT) (bT : Binds K fdT ["_law_purse_here", "_law_steps"] []) (gT : mg "_law_take" = some (.ref fT))
    (FM : Fun K "_law_mixed" "_law_mixed" sMixed fM fdM) (bM : Binds K fdM ["_law_cell", "_law_k"] []) (gM : mg "_law_mixed" = some (.ref fM))
    (FW : Fun K "_law_words" "_law_words" sWords fW fdW) (bW : Binds K fdW [] []) (gW : mg "_law_words" = some (.ref fW))
    (FD : Fun K "_law_word" "_law_word" sWord fD fdD) (bD : Binds K fdD ["_law_purse_here"] []) (gD : mg "_law_word" = some (.ref fD))
    (FG : Fun K "_law_grow" "_law_grow" sGrow fG fdG) (bG : Binds K fdG [] []) (gG : mg "_law_grow" = some (.ref fG))
    (FO : Fun K "_law_touches" "_law_touches" sTouches fO fdO) (bO : Binds K fdO ["_law_sort", "_law_word_here", "_law_last"] []) (gO : mg "_law_touches" = some (.ref fO))
    (FR : Fun K "_law_row" "_law_row" sRow fR fdR) (bR : Binds K fdR ["_law_purse_here", "_law_number", "_law_steps"] []) (gR : mg "_law_row" = some (.ref fR)) :
    FnOk P w K mg base CX0 6 f fd ["_law_purse_here", "_law_steps"] (spRows K) := by
  have GT : FnOk P w K mg base CX0 2 fT fdT ["_law_purse_here", "_law_steps"] spTake := ok_take FT FM bM gM
  have GR : FnOk P w K mg base CX0 5 fR fdR ["_law_purse_here", "_law_number", "_law_steps"] (spRow K) := ok_row FR mi mr ml FT bT gT FM bM gM FW bW gW FD bD gD FG bG gG FO bO gO
  refine F.ok scRows (fun vs H Q E h => ?_) (fun cdv A outer st H vs Q E hr h => ?_)
  · obtain ⟨a, s, n, rfl, _⟩ := h
    rfl
  · obtain ⟨a, s, n, rfl, hs, pa, hn, q⟩ := h
    have hr2 : Room 2 _ := hr.mono (by decide)
    refine ⟨_, pss_cons (ps_set (i := 2) scRows.nd rfl (.inl rfl) (pe_lst pa_nil)) (pss_cons (ps_set (i := 3) scRows.nd rfl (.inl rfl) (pe_lst pa_nil))
      (pss_cons (ps_for PassesOwn.never rfl (pi_range2 rfl mr (pa_cons pe_int (pa_cons (pe_op op_add (pv 1) pe_int) pa_nil))) (pg_name (i := 4) scRows.nd rfl (.inl rfl))
        (pss_cons (ps_asg (pe_call GR hr rfl gR FR.kp bR .nil pass0 (pa_cons (pv 0) (pa_cons (pv 4) (pa_cons (pe_call GT hr2 rfl gT FT.kp bT .nil pass0 (pa_cons (pv 0) (pa_cons pe_int pa_nil))) pa_nil))))
            (pg_unl rfl (pgs_cons (pg_name (i := 5) scRows.nd rfl (.inl rfl)) (pgs_cons (pg_name (i := 6) scRows.nd rfl (.inl rfl)) pgs_nil))))
        (pss_cons (ps_expr (pe_bm PySem.F.plainAttrs_list PySem.F.slot_list_append PySem.F.type_list_append mt_append (pv 2) (pa_cons (pv 5) pa_nil)))
        (pss_one (ps_set (i := 3) scRows.nd rfl (.inl rfl) (pe_op op_cat (pv 3) (pv 6)))))))
      (pss_one (ps_ret (pe_lst (pa_cons (pv 2) (pa_cons (pv 3) pa_nil))))))), ?_⟩
    refine ⟨Nat.zero_le _, fun q1 n1 => ⟨Nat.zero_le _, fun f0 n0 => ?_⟩⟩
    have n0H : H f0 = none := (Same.new n1).free n0
    have q1f : q1 ≠ f0 := ne_of_none upd_same n0
    have aq1 := pa.ne n1
    have af0 := pa.ne n0H
    refine ⟨_, rfl, _, _, rfl, rfl, _, _, rfl, ⟨by decide, by decide, by omega, by omega⟩, for_range (lo := 1) (n := ((s : Int) + 1 - 1).toNat) (fun i σ H' => ∃ (ls : List (List Nat)) (ps : List (Nat × Lx.Tok)) (n' : Int) (G : Hp) (items : List V) (fl : Addr) (v4 v5 v6 : Option V),
        σ = [some (.ref a), some (.int s), some (.ref q1), some (.ref fl), v4, v5, v6] ∧ But a H H' ∧ PurseAt H' a n' ∧ n' ≤ n + 401 * i ∧ Same G H' ∧ (∀ b, G b ≠ none → H b = none) ∧ G q1 = none ∧ H' q1 = some (.lst (ls.map fun l => V.str (ss l))) ∧ fl ≠ a ∧ fl ≠ q1 ∧
        H' fl = some (.lst items) ∧ DpAll K G items (ps.map dL) ∧ lexText 1 ls = .ok (ps.map dT) ∧ ls.length = i ∧ (∀ l ∈ ls, l.length ≤ 300 ∧ ∀ c ∈ l, c < 128) ∧ ps.length ≤ 10 * i ∧ (∀ p ∈ ps, Word128 p.2))
      ⟨[], [], n, fun _ => none, [], f0, none, none, none, rfl, (But.of (Same.new n1)).trans (But.of (Same.new n0)), (pa.same (Same.new n1)).same (Same.new n0), by omega, (fun b o e => nomatch e), (fun b e => absurd rfl e), rfl, by rw [upd_ne q1f]; exact upd_same, af0.symm, q1f.symm, upd_same, .nil, rfl, rfl, (fun l h => nomatch h), Nat.zero_le _, fun p h => nomatch h⟩ ?_ ?_⟩
    · rintro i σ H' hi ⟨ls, ps, n', G, items, fl, v4, v5, v6, rfl, hb, hp, hn', sG, fG, gq, hq, fa, fq, hfl, hd, hx, hi2, hl, hpl, hw⟩
      have ga : G a = none := by
        cases z : G a with
        | none => rfl
        | some o =>
          obtain ⟨x, y, hx, _⟩ := pa
          rw [fG a (by rw [z]; exact fun y => by cases y)] at hx
          cases hx
      refine ⟨_, rfl, _, rfl, _, rfl, a, 7, n', rfl, by decide, by decide, hp, by omega, fun j n2 H2 hj hn2 p2 b2 f2 => ?_⟩
      have sG2 : Same G H2 := b2.sub sG ga
      refine ⟨a, 1 + i, j, n2, ?_, by omega, p2, by omega, fun H3 F3 p3 r l ft items3 n3 b3 sF3 fF3 hp3 hn3 np3 nr3 fp3 fr3 h3 hr3 hd3 hx3 hl3 hc3 hfl3 hw3 => ?_⟩
      · show [V.ref a, V.int (1 + (i : Int)), V.int (j : Int)] = _
        rw [show (1 : Int) + (i : Int) = ((1 + i : Nat) : Int) by omega]
      refine ⟨p3, _, rfl, SqL.of h3, rfl, _, _, rfl, _, _, rfl, rfl, ?_⟩
      have hq2 : H2 q1 = some (.lst (ls.map fun l => V.str (ss l))) := b2 q1 _ aq1.symm hq
      have hq3 : H3 q1 = some (.lst (ls.map fun l => V.str (ss l))) := b3 q1 _ aq1.symm hq2
      have hfl3' : H3 fl = some (.lst items) := b3 fl _ fa (b2 fl _ fa hfl)
      have q1r : q1 ≠ r := ne_of_none hq2 nr3
      refine ⟨_, rfl, .inl ⟨rfl, _, SqL.of hq3⟩, _, rfl, q1, _, _, rfl, rfl, hq3, by rw [List.length_map, sizeLine_eq]; omega, ?_⟩
      have lp := DpAll.len hd
      have l3 := DpAll.len hd3
      rw [List.length_map] at lp l3
      refine ⟨_, rfl, _, rfl, fl, r, items, items3, rfl, rfl, by rw [upd_ne fq]; exact hfl3', by rw [upd_ne q1r.symm]; exact hr3, by rw [sizeLine_eq]; omega, fun f1 nf1 => ?_⟩
      have qf1 : q1 ≠ f1 := ne_of_none upd_same nf1
      have nf3 : H3 f1 = none := by
        rw [upd_ne qf1.symm] at nf1
        exact nf1
      have hb3 : But a H H3 := (hb.trans b2).trans b3
      have sG3 : Same G H3 := b3.sub sG2 ga
      have fF : ∀ b, F3 b ≠ none → H b = none := fun b e => (hb.trans b2).free p2 (fF3 b e)
      have nF : ∀ b, H3 b = none ∨ H b ≠ none → F3 b = none := fun b e => by
        cases z : F3 b with
        | none => rfl
        | some o =>
          have z2 : F3 b ≠ none := by rw [z]; exact fun y => by cases y
          rcases e with e | e
          · rw [sF3 b o z] at e
            cases e
          · exact absurd (fF b z2) e
      have F3q : F3 q1 = none := by
        cases z : F3 q1 with
        | none => rfl
        | some o =>
          have z2 : F3 q1 ≠ none := by rw [z]; exact fun y => by cases y
          have := fF3 q1 z2
          rw [hq2] at this
          cases this
      have Gd : ∀ b, F3 b ≠ none → G b = none := fun b e => sG2.free (fF3 b e)
      refine ⟨ls ++ [l], ps ++ ft.map (fun t => (1 + i, t)), n3, join F3 G, items ++ items3, f1, _, _, _, rfl, (hb3.updNew n1).updNew (hb3.free hp3 nf3), hp3.but (by rw [upd_ne (hp3.ne nf3), upd_ne aq1]), by omega,
        join_same (Same.upd (Same.upd sF3 F3q) (nF f1 (.inl nf3))) (Same.upd (Same.upd sG3 gq) (sG3.free nf3)), join_fresh fF fG, join_none F3q gq, ?_, (hp3.ne nf3).symm, qf1.symm, upd_same, ?_, ?_, ?_, ?_, ?_, ?_⟩
      · rw [upd_ne qf1, List.map_append]
        exact upd_same
      · rw [List.map_append, List.map_map]
        exact DpAll.app (DpAll.same (join_right Gd) _ _ hd) (DpAll.same join_left _ _ hd3)
      · rw [List.map_append, List.map_map, lexText_snoc ls 1 _ l ft hx hx3, hi2]
        rfl
      · rw [List.length_append, List.length_singleton]
        omega
      · intro z hz
        rcases List.mem_append.mp hz with hz | hz
        · exact hl z hz
        · rw [List.mem_singleton.mp hz]
          exact ⟨hl3, hc3⟩
      · rw [List.length_append, List.length_map]
        omega
      · intro z hz
        rcases List.mem_append.mp hz with hz | hz
        · exact hw z hz
        · obtain ⟨t, ht, rfl⟩ := List.mem_map.mp hz
          exact hw3 t ht
    · rintro σ H' ⟨ls, ps, n', G, items, fl, v4, v5, v6, rfl, hb, hp, hn', sG, fG, gq, hq, fa, fq, hfl, hd, hx, hi2, hl, hpl, hw⟩
      have es : ((s : Int) + 1 - 1).toNat = s := by omega
      rw [es] at hi2 hpl
      refine ⟨_, rfl, _, rfl, by show 2 ≤ sizeLine; decide, fun p np => ?_⟩
      have sN : Same H' (upd H' p (.lst [.ref q1, .ref fl])) := Same.new np
      exact q _ p q1 fl ls ps items (hb.trans (But.of sN)) upd_same (sN _ _ hq) (sN _ _ hfl) (DpAll.same (sG.trans sN) _ _ hd) hx (by omega) hl (by omega) hw
end
end G01

set_option Elab.async false
set_option maxRecDepth 100000
/-! the law -/
namespace G01
open PySem L2 Hx Xr P01
abbrev sLaw : Stmt := top 27
section
variable {P : Program} {w : World} {K : PySem.W.Frag} {mg : Str → Option Value} {base : Heap} {aW aS : Addr}
def spAt (K : PySem.W.Frag) : Sp := fun vs H Q _ => ∃ (a : Addr) (ns : List Int) (k : Nat), vs = [.ref a, .int k] ∧ SqL K H a (ns.map V.int) ∧ ∀ z : Int, Q (.int z) H
theorem scAt : FnScope ["_law_script", "_law_k"] ["_law_script", "_law_k"] (defScope sAt) := ⟨rfl, rfl, rfl, by decide +kernel, rfl, by decide +kernel, by decide +kernel⟩
theorem ok_at {f : Addr} {fd : FuncData} (F : Fun K "_law_at" "_law_at" sAt f fd) (ml : mg "len" = none) : FnOk P w K mg base CX0 1 f fd ["_law_script", "_law_k"] (spAt K) := by
  refine F.ok scAt (fun vs H Q E h => ?_) (fun cdv A outer st H vs Q E hr h => ?_)
  · obtain ⟨a, ns, k, rfl, _⟩ := h
    rfl
  · obtain ⟨a, ns, k, rfl, hS, q⟩ := h
    refine ⟨_, pss_cons (ps_if (pt_cmpR op_lt (pv 1) (pe_callB call_len (by rfl) ml PySem.boot_len (pa_cons (pv 0) pa_nil)) (nomark _)) (pss_one (ps_ret (pe_ix ix_list (pv 0) (pv 1) (fun _ _ => rfl)))) pss_nil)
      (pss_one (ps_ret (pe_op op_add (pe_op op_mul pe_int (pv 1)) pe_int))), ?_⟩
    refine ⟨_, rfl, _, rfl, _, _, rfl, .inl ⟨_, hS, rfl⟩, _, _, rfl, rfl, _, rfl, ?_⟩
    rw [List.length_map]
    by_cases c : k < ns.length
    · rw [decide_eq_true (by omega)]
      refine iteT ⟨_, rfl, _, rfl, a, _, _, _, rfl, rfl, hS, atI_nat (v := V.int ns[k]) ?_, q _⟩
      rw [List.getElem?_map, List.getElem?_eq_getElem c]
      rfl
    · rw [decide_eq_false (by omega)]
      exact iteF ⟨_, rfl, _, _, rfl, rfl, .inl ⟨by decide, by decide⟩, _, _, rfl, rfl, q _⟩
/-! ### data that are right -/
theorem shaped_toks {ps : List (Nat × Lx.Tok)} (h : ∀ p ∈ ps, Word128 p.2) : SeqAt.shaped (.list (ps.map dT)) = true := by
  have key : ∀ ps : List (Nat × Lx.Tok), (∀ p ∈ ps, Word128 p.2) → PyData.canLayAll0 (ps.map dT) = true ∧ PyData.depthAll (ps.map dT) ≤ 2 := by
    intro ps
    induction ps with
    | nil => intro _; exact ⟨rfl, by simp [PyData.depthAll]⟩
    | cons p ps ih =>
      intro h
      obtain ⟨i1, i2⟩ := ih fun x hx => h x (List.mem_cons_of_mem _ hx)
      have e1 : PyData.strOk (ss p.2.2.2) = true := ss_ok fun c hc => Nat.lt_trans (h p List.mem_cons_self c hc) (by decide)
      have e2 := sortS_ok p.2.2.1
      refine ⟨?_, ?_⟩
      · simp [dT, tokD, PyData.canLay0, PyData.canLayAll0, e1, e2]
        simpa using i1
      · simp [dT, tokD, PyData.depth, PyData.depthAll]
        omega
  obtain ⟨k1, k2⟩ := key ps h
  unfold SeqAt.shaped
  rw [Bool.and_eq_true]
  refine ⟨by simpa [PyData.canLay0] using k1, decide_eq_true ?_⟩
  simp only [PyData.depth]
  omega
theorem shaped_rows {ls : List (List Nat)} (h : ∀ l ∈ ls, l.length ≤ 300 ∧ ∀ c ∈ l, c < 128) : SeqAt.shaped (.list (ls.map fun l => PyData.str (ss l))) = true := by
  have key : ∀ ls : List (List Nat), (∀ l ∈ ls, l.length ≤ 300 ∧ ∀ c ∈ l, c < 128) → PyData.canLayAll0 (ls.map fun l => PyData.str (ss l)) = true ∧ PyData.depthAll (ls.map fun l => PyData.str (ss l)) ≤ 0 := by
    intro ls
    induction ls with
    | nil => intro _; exact ⟨rfl, by simp [PyData.depthAll]⟩
    | cons l ls ih =>
      intro h
      obtain ⟨i1, i2⟩ := ih fun x hx => h x (List.mem_cons_of_mem _ hx)
      have e1 : PyData.strOk (ss l) = true := ss_ok fun c hc => Nat.lt_trans ((h l List.mem_cons_self).2 c hc) (by decide)
      refine ⟨?_, ?_⟩
      · simp [PyData.canLay0, PyData.canLayAll0, e1]
        simpa using i1
      · simp [PyData.depth, PyData.depthAll]
        simpa using i2
  obtain ⟨k1, k2⟩ := key ls h
  unfold SeqAt.shaped
  rw [Bool.and_eq_true]
  refine ⟨by simpa [PyData.canLay0] using k1, decide_eq_true ?_⟩
  simp only [PyData.depth]
  omega
theorem eqv_self {d : PyData} (h : SeqAt.shaped d = true) : PyData.eqv d d = true := SeqAt.eqv_refl d (SeqAt.canLay_of_shaped h)
theorem strs_all {K : PySem.W.Frag} {H : Hp} : ∀ ls : List (List Nat), DpAll K H (ls.map fun l => V.str (ss l)) (ls.map fun l => PyData.str (ss l))
  | [] => .nil
  | l :: ls => .cons (.str _) (strs_all ls)
theorem tyx_tup {K : PySem.W.Frag} {H : Hp} {a : Addr} {xs : List V} (h : SqT K H a xs) : TyX K H (.ref a) (.type "tuple") := by
  rcases h with (h | ⟨o, h⟩) | ⟨o, its, n, h1, h2, _⟩
  · exact .base (.tup h)
  · exact .fTuple h
  · exact .kTuple h1 h2
/-- a lexeme's tuple, opened -/
theorem tok_open {K : PySem.W.Frag} {H : Hp} {v : V} {p : Nat × Lx.Tok} (h : Dp K H v (dT p)) : ∃ (b t : Addr), v = .ref b ∧ SqT K H b [.ref t, .str (sortS p.2.2.1), .str (ss p.2.2.2)] ∧ SqT K H t [.int (p.1 : Int), .int ((p.2.1 : Int) + 1)] := by
  unfold dT tokD at h
  cases h with
  | tup h1 h2 =>
    cases h2 with
    | cons a1 a2 =>
      cases a1 with
      | tup b1 b2 =>
        cases b2 with
        | cons c1 c2 =>
          cases c2 with
          | cons c3 c4 =>
            cases c1
            cases c3
            cases c4
            cases a2 with
            | cons d1 d2 =>
              cases d2 with
              | cons d3 d4 =>
                cases d1
                cases d3
                cases d4
                exact ⟨_, _, rfl, h1, b1⟩
/-- the same of the law's own list -/
theorem due_open {K : PySem.W.Frag} {H : Hp} {v : V} {p : Nat × Lx.Tok} (h : Dp K H v (dL p)) : ∃ (b t : Addr), v = .ref b ∧ SqL K H b [.ref t, .str (sortS p.2.2.1), .str (ss p.2.2.2)] ∧ SqT K H t [.int (p.1 : Int), .int ((p.2.1 : Int) + 1)] := by
  unfold dL tokL at h
  cases h with
  | lst h1 h2 =>
    cases h2 with
    | cons a1 a2 =>
      cases a1 with
      | tup b1 b2 =>
        cases b2 with
        | cons c1 c2 =>
          cases c2 with
          | cons c3 c4 =>
            cases c1
            cases c3
            cases c4
            cases a2 with
            | cons d1 d2 =>
              cases d2 with
              | cons d3 d4 =>
                cases d1
                cases d3
                cases d4
                exact ⟨_, _, rfl, h1, b1⟩
end
end G01

set_option Elab.async false
set_option maxRecDepth 100000
/-! the law -/
namespace G01
open PySem L2 Hx Xr P01
section
variable {P : Program} {w : World} {K : PySem.W.Frag} {mg : Str → Option Value} {base : Heap} {aW aS : Addr}
def spLaw (K : PySem.W.Frag) : Sp := fun vs H Q _ => ∃ (a : Addr) (ns : List Int), vs = [.ref a] ∧ SqL K H a (ns.map V.int) ∧ ns.length ≤ 63 ∧ ∀ H', Q (.bl true) H'
abbrev lawN : List Str := ["_law_script", "_law_cell", "_law_purse_here", "_law_lines", "_law_due", "_law_place", "_law_sort", "_law_said", "_law_handed", "_law_turn", "_law_told"]
theorem scLaw : FnScope lawN ["_law_script"] (defScope sLaw) := ⟨rfl, rfl, rfl, by decide +kernel, rfl, by decide +kernel, by decide +kernel⟩
structure TxtG (mg : Str → Option Value) : Prop where
  int : mg "int" = none
  range : mg "range" = none
  len : mg "len" = none
  enum : mg "enumerate" = none
  list : mg "list" = none
  isi : mg "isinstance" = none
  tuple : mg "tuple" = none
  bool : mg "bool" = none
  str : mg "str" = none
set_option maxHeartbeats 16000000 in
theorem ok_law {f fA fP fRs fT fX : Addr} {fd fdA fdP fdRs fdT fdX : FuncData} (F : Fun K "law" "law" sLaw f fd) (T : TxtG mg)
    (GA : FnOk P w K mg base CX0 1 fA fdA ["_law_script", "_law_k"] (spAt K)) (kA : PySem.W.keepIn K (.ref fA) = true) (bA : Binds K fdA ["_law_script", "_law_k"] []) (gA : mg "_law_at" = some (.ref fA))
    (GP : FnOk P w K mg base CX0 2 fP fdP ["_law_cell", "_law_k"] spPurse) (kP : PySem.W.keepIn K (.ref fP) = true) (bP : Binds K fdP ["_law_cell", "_law_k"] []) (gP : mg "_law_purse" = some (.ref fP))
    (GRs : FnOk P w K mg base CX0 6 fRs fdRs ["_law_purse_here", "_law_steps"] (spRows K)) (kRs : PySem.W.keepIn K (.ref fRs) = true) (bRs : Binds K fdRs ["_law_purse_here", "_law_steps"] []) (gRs : mg "_law_rows" = some (.ref fRs))
    (GT : FnOk P w K mg base CX0 2 fT fdT ["_law_purse_here", "_law_steps"] spTake) (kT : PySem.W.keepIn K (.ref fT) = true) (bT : Binds K fdT ["_law_purse_here", "_law_steps"] []) (gT : mg "_law_take" = some (.ref fT))
    (GX : FnOk P w K mg base CX0 4 fX fdX ["text"] (spLexemes K)) (kX : PySem.W.keepIn K (.ref fX) = true) (bX : Binds K fdX ["text"] []) (gX : mg "lexemes" = some (.ref fX))
    (kbX : KBinds K fdX ["text"] ["text"] (fun us ws => us ++ ws) (fun vs zs => vs ++ zs)) :
    FnOk P w K mg base CX0 7 f fd ["_law_script"] (spLaw K) := by
  refine F.ok scLaw (fun vs H Q E h => ?_) (fun cdv A outer st H vs Q E hr h => ?_)
  · obtain ⟨a, ns, rfl, _⟩ := h
    rfl
  · obtain ⟨a, ns, rfl, hS, hlen, q⟩ := h
    have hr1 : Room 1 _ := hr.mono (by decide)
    have hr2 : Room 2 _ := hr.mono (by decide)
    have hr4 : Room 4 _ := hr.mono (by decide)
    refine ⟨_, pss_cons (ps_for PassesOwn.never rfl (pi_list (pe_op op_cat (pe_slice sl_list (pv 0) po_none (po_some pe_int)) (pe_lst (pa_cons (pe_call GA hr1 rfl gA kA bA .nil pass0 (pa_cons (pv 0) (pa_cons pe_int (pa_nil)))) (pa_nil))))) (pg_name (i := 1) scLaw.nd rfl (.inl rfl)) (pss_cons (ps_set (i := 2) scLaw.nd rfl (.inl rfl) (pe_call GP hr2 rfl gP kP bP .nil pass0 (pa_cons (pv 1) (pa_cons pe_int (pa_nil)))))
      (pss_cons (ps_asg (pe_call GRs hr rfl gRs kRs bRs .nil pass0 (pa_cons (pv 2) (pa_cons (pe_call GT hr2 rfl gT kT bT .nil pass0 (pa_cons (pv 2) (pa_cons pe_int (pa_nil)))) (pa_nil)))) (pg_unl rfl (pgs_cons (pg_name (i := 3) scLaw.nd rfl (.inl rfl)) (pgs_cons (pg_name (i := 4) scLaw.nd rfl (.inl rfl)) (pgs_nil)))))
      (pss_cons (ps_setLc (i := 4) (own := [("_law_place", 5), ("_law_sort", 6), ("_law_said", 7)]) (g := gUnl K 3 (gCons (gName 5) (gCons (gName 6) (gCons (gName 7) gNil)))) (tt := tYes) rfl scLaw.nd rfl rfl (sw_true rfl rfl rfl (by decide +kernel)) (pi_list (pv 4)) (blkOk_by (N := lawN) (sc := defScope sLaw) (by decide +kernel)) (fun _ _ _ _ _ => pg_unl rfl (pgs_cons (pg_name (i := 5) scLaw.nd rfl (.inl rfl)) (pgs_cons (pg_name (i := 6) scLaw.nd rfl (.inl rfl)) (pgs_cons (pg_name (i := 7) scLaw.nd rfl (.inl rfl)) (pgs_nil))))) (fun _ _ _ _ _ => pts_nil) (fun _ _ _ _ _ => pe_tup (pa_cons (pv 5) (pa_cons (pv 6) (pa_cons (pv 7) (pa_nil))))))
      (pss_cons (ps_set (i := 8) scLaw.nd rfl (.inl rfl) (pe_callTy call_list_of (by rfl) T.list (by decide +kernel) (pa_cons (pv 3) (pa_nil))))
      (pss_one (ps_for PassesOwn.never rfl (pi_range1 rfl T.range (pa_cons pe_int pa_nil)) (pg_name (i := 9) scLaw.nd rfl (.inl rfl)) (pss_cons (ps_set (i := 10) scLaw.nd rfl (.inl rfl) (pe_ix ix_list (pe_lst (pa_cons (pe_call GX hr4 rfl gX kX bX .nil pass0 (pa_cons (pv 8) (pa_nil))) (pa_cons (pe_callK0 GX hr4 rfl gX kX kbX pass0 (pk_cons (pv 8) pk_nil)) (pa_nil)))) (pv 9) (fun _ _ => rfl)))
      (pss_cons (ps_if (PW.pt (pw_or (pt_not (pt_val (pe_callB call_isi (by rfl) T.isi (by decide +kernel) (pa_cons (pv 10) (pa_cons (pe_bltn (v := .ty "list") (by rfl) T.list (by decide +kernel) rfl) (pa_nil)))))) (pw_or (pt_cmpR (op_neD hr.units) (pv 10) (pv 4) (nomark _)) (pw_or1 (pt_cmpR (op_neD hr.units) (pv 8) (pv 3) (nomark _)))))) (pss_one (ps_ret pe_bl)) pss_nil)
      (pss_cons (ps_for PassesOwn.never rfl (pi_list (pv 10)) (pg_tup rfl (pgs_cons (pg_name (i := 5) scLaw.nd rfl (.inl rfl)) (pgs_cons (pg_name (i := 6) scLaw.nd rfl (.inl rfl)) (pgs_cons (pg_name (i := 7) scLaw.nd rfl (.inl rfl)) (pgs_nil))))) (pss_one (ps_if (PW.pt (pw_or (pt_not (pt_val (pe_callB call_isi (by rfl) T.isi (by decide +kernel) (pa_cons (pv 5) (pa_cons (pe_bltn (v := .ty "tuple") (by rfl) T.tuple (by decide +kernel) rfl) (pa_nil)))))) (pw_or (pt_val (pe_callB call_isi (by rfl) T.isi (by decide +kernel) (pa_cons (pe_ix ix_tup (pv 5) pe_int (fun _ _ => rfl)) (pa_cons (pe_bltn (v := .ty "bool") (by rfl) T.bool (by decide +kernel) rfl) (pa_nil))))) (pw_or1 (pt_not (pt_val (pe_callB call_isi (by rfl) T.isi (by decide +kernel) (pa_cons (pv 7) (pa_cons (pe_bltn (v := .ty "str") (by rfl) T.str (by decide +kernel) rfl) (pa_nil)))))))))) (pss_one (ps_ret pe_bl)) pss_nil)))
      (pss_cons (ps_expr (pe_bm PySem.F.plainAttrs_list PySem.F.slot_list_append PySem.F.type_list_append mt_append (pv 10) (pa_cons pe_str pa_nil)))
      (pss_one (ps_expr (pe_bm0 PySem.F.plainAttrs_list PySem.F.slot_list_reverse PySem.F.type_list_reverse mt_reverse (pv 10)))))))))))))))
      (pss_one (ps_ret pe_bl)), ?_⟩
    refine ⟨_, rfl, _, rfl, a, _, rfl, hS, fun p1 np1 => ?_⟩
    refine ⟨_, rfl, a, ns, 2, rfl, (Same.new np1).seq hS, fun z => ?_⟩
    refine ⟨by show 1 ≤ sizeLine; decide, fun p2 np2 => ?_⟩
    have p12 : p1 ≠ p2 := ne_of_none upd_same np2
    have cl : (cutV (ns.map V.int) none (some 5)).length ≤ 63 := by
      unfold cutV
      rw [List.length_take, List.length_drop, List.length_map]
      omega
    refine ⟨p1, p2, _, _, rfl, rfl, by rw [upd_ne p12]; exact upd_same, upd_same, by rw [sizeLine_eq]; simp only [List.length_cons, List.length_nil]; omega, fun L nL => ?_⟩
    have allInt : ∀ i x, (cutV (ns.map V.int) none (some 5) ++ [V.int z])[i]? = some x → ∃ c, x = V.int c := fun i x hx => by
      rcases List.mem_append.mp (List.mem_of_getElem? hx) with h | h
      · obtain ⟨c, _, rfl⟩ := List.mem_map.mp (List.mem_of_mem_drop (List.mem_of_mem_take h))
        exact ⟨c, rfl⟩
      · exact ⟨z, List.mem_singleton.mp h⟩
    generalize cutV (ns.map V.int) none (some 5) ++ [V.int z] = XS at allInt ⊢
    generalize hH3 : upd (upd (upd H p1 _) p2 _) L (.lst XS) = H3
    have hL : H3 L = some (.lst XS) := by rw [← hH3]; exact upd_same
    clear hH3
    refine ⟨L, rfl, ⟨_, SqL.of hL⟩, for_list (K := K) (a := L) (xs := XS) (fun i σ H' => ∃ v1 v2 v3 v4 v5 v6 v7 v8 v9 v10 : Option V, σ = [some (.ref a), v1, v2, v3, v4, v5, v6, v7, v8, v9, v10] ∧ Same H3 H')
      ⟨none, none, none, none, none, none, none, none, none, none, rfl, Same.refl _⟩ (fun i σ H' _ ⟨_, _, _, _, _, _, _, _, _, _, _, s⟩ => s.seq (SqL.of hL)) ?_ (fun σ H' _ => q H')⟩
    rintro i x σ H' hx ⟨v1, v2, v3, v4, v5, v6, v7, v8, v9, v10, rfl, s3⟩
    obtain ⟨c, rfl⟩ := allInt i x hx
    refine ⟨_, rfl, c, 1, rfl, by decide, by decide, fun pu H4 npu s4 hpu => ?_⟩
    refine ⟨_, rfl, _, rfl, pu, 8, 0, rfl, by decide, by decide, hpu, by decide, fun j n5 H5 hj hn5 p5 b5 f5 => ?_⟩
    refine ⟨pu, j, n5, rfl, by omega, p5, by omega, fun H6 pr q1 q2 ls ps items b6 hr6 hq1 hq2 hd6 hx6 hl6 hls6 hps6 hw6 => ?_⟩
    refine ⟨pr, _, rfl, SqL.of hr6, rfl, _, _, rfl, _, _, rfl, rfl, ?_⟩
    have s6 : Same H3 H6 := fun b o e => by
      have e2 := s3 b o e
      have nb : b ≠ pu := ne_of_none e2 npu
      exact (b5.trans b6) b o nb (s4 b o e2)
    have lps := DpAll.len hd6
    rw [List.length_map] at lps
    refine ⟨_, rfl, q2, rfl, ⟨_, SqL.of hq2⟩, fun D nD => lc_list (K := K) (a := q2) (xs := items) (fun i Hk => ∃ (G : Hp) (made : List V), Same H6 G ∧ Same G Hk ∧ G D = none ∧ Hk D = some (.lst made) ∧ DpAll K G made ((ps.take i).map dT))
      ⟨H6, [], Same.refl _, Same.new nD, nD, upd_same, .nil⟩ (fun i Hk _ ⟨G, made, sa, sb, _⟩ => (sa.trans sb).seq (SqL.of hq2)) ?_ ?_⟩
    · rintro i x Hk hx ⟨G, made, sa, sb, gD, hD, hdm⟩
      obtain ⟨d, hdx, dx⟩ := DpAll.get hd6 hx
      rw [List.getElem?_map] at hdx
      obtain ⟨p, hp, rfl⟩ : ∃ p, ps[i]? = some p ∧ d = dL p := by
        cases e : ps[i]? with
        | none => rw [e] at hdx; cases hdx
        | some p => rw [e] at hdx; exact ⟨p, rfl, (Option.some.inj hdx).symm⟩
      obtain ⟨b, t, rfl, hb, ht⟩ := due_open dx
      have il := (List.getElem?_eq_some_iff.mp hp).1
      have lm := DpAll.len hdm
      rw [List.length_map, List.length_take] at lm
      refine ⟨b, _, rfl, (sa.trans sb).seq hb, rfl, _, _, rfl, _, _, rfl, _, _, rfl, rfl, rfl, _, rfl, _, rfl, _, rfl, by show 3 ≤ sizeLine; decide, fun T nT => ?_⟩
      have DT : D ≠ T := ne_of_none hD nT
      have gT : G T = none := sb.free nT
      refine ⟨made, by rw [upd_ne DT]; exact hD, by rw [sizeLine_eq]; omega, upd G T (.tup [.ref t, .str (sortS p.2.2.1), .str (ss p.2.2.2)]), made ++ [.ref T], sa.trans (Same.new gT), Same.upd (Same.both sb _ _) (by rw [upd_ne DT]; exact gD), by rw [upd_ne DT]; exact gD, upd_same, ?_⟩
      rw [List.take_add_one, hp, List.map_append]
      exact DpAll.app (DpAll.same (Same.new gT) _ _ hdm) (.cons (.tup (SqT.of upd_same) (.cons (.tup (Same.seqT (sa.trans (Same.new gT)) ht) (.cons (.int _) (.cons (.int _) .nil))) (.cons (.str _) (.cons (.str _) .nil)))) .nil)
    · rintro Hk ⟨G, made, sa, sb, gD, hD, hdm⟩
      rw [lps, List.take_length] at hdm
      have sk := sa.trans sb
      refine ⟨_, rfl, q1, _, rfl, .inl (SqL.of (sk _ _ hq1)), fun hd nHd => ?_⟩
      have s8 : Same H3 (upd Hk hd (.lst (ls.map fun l => V.str (ss l)))) := (s6.trans sk).trans (Same.new nHd)
      have hh : (upd Hk hd (.lst (ls.map fun l => V.str (ss l)))) hd = some (.lst (ls.map fun l => V.str (ss l))) := upd_same
      have hD8 : (upd Hk hd (.lst (ls.map fun l => V.str (ss l)))) D = some (.lst made) := (Same.new nHd) _ _ hD
      have hq8 : (upd Hk hd (.lst (ls.map fun l => V.str (ss l)))) q1 = some (.lst (ls.map fun l => V.str (ss l))) := (Same.new nHd) _ _ (sk _ _ hq1)
      have sG8 : Same G (upd Hk hd (.lst (ls.map fun l => V.str (ss l)))) := sb.trans (Same.new nHd)
      generalize upd Hk hd (.lst (ls.map fun l => V.str (ss l))) = H8 at s8 hh hD8 hq8 sG8 ⊢
      refine ⟨2, rfl, by decide, by decide, for_range (lo := 0) (n := (2 : Int).toNat) (fun i σ H' => ∃ v5 v6 v7 v9 v10 : Option V, σ = [some (.ref a), some (.int c), some (.ref pu), some (.ref q1), some (.ref D), v5, v6, v7, some (.ref hd), v9, v10] ∧ Same H8 H')
        ⟨_, _, _, _, _, rfl, Same.refl _⟩ ?_ ?_⟩
      · rintro i σ H' hi ⟨v5, v6, v7, v9, v10, rfl, s9⟩
        have hh9 := s9 _ _ hh
        refine ⟨_, rfl, hd, ls, ps.map dT, rfl, SqL.of hh9, by omega, (fun l hl => Nat.le_trans (hls6 l hl).1 (by decide)), hx6, fun H9 F9 p9 it9 nw9 np9 fp9 hp9 hd9 => ?_⟩
        refine ⟨_, rfl, hd, ls, ps.map dT, rfl, SqL.of (nw9.same _ _ hh9), by omega, (fun l hl => Nat.le_trans (hls6 l hl).1 (by decide)), hx6, fun H10 F10 p10 it10 nw10 np10 fp10 hp10 hd10 => ?_⟩
        refine ⟨by show 2 ≤ sizeLine; decide, fun l nl => ?_⟩
        have sl : Same H10 (upd H10 l (.lst [.ref p9, .ref p10])) := Same.new nl
        obtain ⟨pt, itx, Fx, hat, hpt, sFx, fpt, hdx, npt⟩ : ∃ (pt : Addr) (itx : List V) (Fx : Hp), atI [V.ref p9, V.ref p10] (0 + (i : Int)) = some (V.ref pt) ∧ (upd H10 l (.lst [.ref p9, .ref p10])) pt = some (.lst itx) ∧ Same Fx (upd H10 l (.lst [.ref p9, .ref p10])) ∧ Fx pt = none ∧
            DpAll K Fx itx (ps.map dT) ∧ H' pt = none := by
          have hi2 : i = 0 ∨ i = 1 := by
            have : (2 : Int).toNat = 2 := rfl
            omega
          rcases hi2 with rfl | rfl
          · exact ⟨p9, it9, F9, at_of (j := 0) rfl rfl, (nw10.same.trans sl) _ _ hp9, (nw9.sub.trans nw10.same).trans sl, fp9, hd9, np9⟩
          · exact ⟨p10, it10, F10, at_of (j := 1) rfl rfl, sl _ _ hp10, nw10.sub.trans sl, fp10, hd10, nw9.same.free np10⟩
        refine ⟨_, rfl, l, _, _, _, rfl, rfl, SqL.of upd_same, hat, ?_⟩
        have sHl : Same H' (upd H10 l (.lst [.ref p9, .ref p10])) := (nw9.same.trans nw10.same).trans sl
        generalize upd H10 l (.lst [.ref p9, .ref p10]) = Hl at hpt sFx sHl ⊢
        have s8l := s9.trans sHl
        have litx := DpAll.len hdx
        rw [List.length_map] at litx
        have sh1 := shaped_toks hw6
        have sh2 := shaped_rows hls6
        refine ⟨_, rfl, _, _, _, _, true, rfl, .ty "list", .base (.lst hpt), kit_ty (by decide +kernel), _, rfl, ?_⟩
        refine ⟨_, rfl, _, rfl, _, _, .lst (SqL.of hpt) (DpAll.same sFx _ _ hdx), .lst (SqL.of (s8l _ _ hD8)) (DpAll.same (sG8.trans s8l) _ _ hdm), sh1, sh1, _, rfl, ?_⟩
        rw [eqv_self sh1]
        refine ⟨_, rfl, _, rfl, _, _, .lst (SqL.of (s8l _ _ hh)) (strs_all ls), .lst (SqL.of (s8l _ _ hq8)) (strs_all ls), sh2, sh2, _, rfl, ?_⟩
        rw [eqv_self sh2]
        refine ⟨_, rfl, pt, rfl, ⟨_, SqL.of hpt⟩, for_list (K := K) (a := pt) (xs := itx) (fun i3 σ H'' => ∃ v5 v6 v7 : Option V, σ = [some (.ref a), some (.int c), some (.ref pu), some (.ref q1), some (.ref D), v5, v6, v7, some (.ref hd), some (.int (0 + (i : Nat))), some (.ref pt)] ∧ H'' = Hl)
          ⟨_, _, _, rfl, rfl⟩ (fun i3 σ H'' _ ⟨_, _, _, _, e⟩ => by rw [e]; exact SqL.of hpt) ?_ ?_⟩
        · rintro i2 x σ H'' hx2 ⟨v5, v6, v7, rfl, rfl⟩
          obtain ⟨d, hdx2, dx⟩ := DpAll.get hdx hx2
          rw [List.getElem?_map] at hdx2
          obtain ⟨p, hp, rfl⟩ : ∃ p, ps[i2]? = some p ∧ d = dT p := by
            cases e : ps[i2]? with
            | none => rw [e] at hdx2; cases hdx2
            | some p => rw [e] at hdx2; exact ⟨p, rfl, (Option.some.inj hdx2).symm⟩
          obtain ⟨b, t, rfl, hb, ht⟩ := tok_open dx
          have ht' := Same.seqT sFx ht
          refine ⟨b, _, rfl, Same.seqT sFx hb, rfl, _, _, rfl, _, _, rfl, _, _, rfl, rfl, ?_⟩
          refine ⟨_, rfl, _, _, _, _, true, rfl, .ty "tuple", tyx_tup ht', kit_ty (by decide +kernel), _, rfl, ?_⟩
          refine ⟨_, rfl, t, _, 0, _, rfl, rfl, ht', atI_nat (j := 0) rfl, _, _, _, _, false, rfl, .ty "bool", .base (.int _), kit_ty (by decide +kernel), _, rfl, ?_⟩
          refine ⟨_, rfl, _, _, _, _, true, rfl, .ty "str", .base (.str _), kit_ty (by decide +kernel), _, rfl, ?_⟩
          exact ⟨_, _, _, rfl, rfl⟩
        · rintro σ H'' ⟨v5, v6, v7, rfl, rfl⟩
          refine ⟨_, rfl, .inl ⟨rfl, _, SqL.of hpt⟩, pt, itx, _, rfl, rfl, hpt, by rw [sizeLine_eq]; omega, ?_⟩
          refine ⟨_, rfl, .inl ⟨rfl, _, SqL.of upd_same⟩, pt, _, rfl, rfl, upd_same, ?_⟩
          have n8 : H8 pt = none := s9.free npt
          exact ⟨_, _, _, _, _, rfl, Same.upd (Same.upd s8l n8) n8⟩
      · rintro σ H' ⟨v5, v6, v7, v9, v10, rfl, s9⟩
        exact ⟨_, _, _, _, _, _, _, _, _, _, rfl, s8.trans s9⟩
end
end G01

set_option Elab.async false
set_option maxRecDepth 100000
/-! the head -/
namespace G01
open PySem L2 Hx Xr P01
theorem kb_lex {K : PySem.W.Frag} {f : Addr} {fd : FuncData} (F : Fun K "lexemes" "lexemes" sLexemes f fd) : KBinds K fd ["text"] ["text"] (fun us ws => us ++ ws) (fun vs zs => vs ++ zs) := by
  obtain ⟨oc, od, kV, doc, pm, an, cdv, ct, osl, rfl, lk, hcd⟩ := F.ex
  refine ⟨fun s us ws X hl => ?_, fun r1 r2 => r1.append r2⟩
  cases us with
  | nil =>
    cases ws with
    | nil => cases hl
    | cons w ws =>
      cases ws with
      | nil => exact .of_eq rfl
      | cons w2 ws => simp at hl
  | cons u us =>
    cases us with
    | nil =>
      cases ws with
      | nil => exact .of_eq rfl
      | cons w ws => simp at hl
    | cons u2 us => simp at hl
theorem vals_words {t0 t1 t2 t3 t4 t5 t6 t7 t8 : Tok} : Vals P01.wordsV [Value.str "data" t0, Value.str "let" t1, Value.str "in" t2, Value.str "if" t3, Value.str "then" t4, Value.str "else" t5, Value.str "case" t6, Value.str "of" t7, Value.str "fun" t8] := by
  have e : P01.wordsV = [V.str "data", V.str "let", V.str "in", V.str "if", V.str "then", V.str "else", V.str "case", V.str "of", V.str "fun"] := by decide +kernel
  rw [e]
  exact .cons ⟨_, rfl⟩ (.cons ⟨_, rfl⟩ (.cons ⟨_, rfl⟩ (.cons ⟨_, rfl⟩ (.cons ⟨_, rfl⟩ (.cons ⟨_, rfl⟩ (.cons ⟨_, rfl⟩ (.cons ⟨_, rfl⟩ (.cons ⟨_, rfl⟩ (.nil)))))))))
theorem vals_signs {t0 t1 t2 t3 t4 t5 t6 t7 t8 t9 t10 : Tok} : Vals P01.signsV [Value.str "==" t0, Value.str "->" t1, Value.str "=" t2, Value.str "|" t3, Value.str "(" t4, Value.str ")" t5, Value.str "+" t6, Value.str "-" t7, Value.str "*" t8, Value.str "<" t9, Value.str "_" t10] := by
  have e : P01.signsV = [V.str "==", V.str "->", V.str "=", V.str "|", V.str "(", V.str ")", V.str "+", V.str "-", V.str "*", V.str "<", V.str "_"] := by decide +kernel
  rw [e]
  exact .cons ⟨_, rfl⟩ (.cons ⟨_, rfl⟩ (.cons ⟨_, rfl⟩ (.cons ⟨_, rfl⟩ (.cons ⟨_, rfl⟩ (.cons ⟨_, rfl⟩ (.cons ⟨_, rfl⟩ (.cons ⟨_, rfl⟩ (.cons ⟨_, rfl⟩ (.cons ⟨_, rfl⟩ (.cons ⟨_, rfl⟩ (.nil)))))))))))
theorem all_mk {l : PySem.W.OpenLaw} {w : World} {K : PySem.W.Frag} {h : Heap} {mg : Str → Option Value} {fa aW aS f1 f2 f3 f4 f5 f6 f7 f8 f9 f10 f11 f12 f13 f14 f15 f16 : Addr} (X : K.In h) (G : h.Ns mainGlobals mg) (hfa : mg "law" = some (.ref fa))
    {od1 an1 od2 an2 od3 an3 od4 an4 od5 an5 od6 an6 od7 an7 od8 an8 od9 an9 od10 an10 od11 an11 od12 an12 od13 an13 od14 an14 od15 an15 od16 an16 odW odS : Option Addr} {sl1 sl2 sl3 sl4 sl5 sl6 sl7 sl8 sl9 sl10 sl11 sl12 sl13 sl14 sl15 sl16 slW slS : Array (Option Value)} {oc1 kV1 dc1 pm1 cd1 ct1 oc2 kV2 dc2 pm2 cd2 ct2 oc3 kV3 dc3 pm3 cd3 ct3 oc4 kV4 dc4 pm4 cd4 ct4 oc5 kV5 dc5 pm5 cd5 ct5 oc6 kV6 dc6 pm6 cd6 ct6 oc7 kV7 dc7 pm7 cd7 ct7 oc8 kV8 dc8 pm8 cd8 ct8 oc9 kV9 dc9 pm9 cd9 ct9 oc10 kV10 dc10 pm10 cd10 ct10 oc11 kV11 dc11 pm11 cd11 ct11 oc12 kV12 dc12 pm12 cd12 ct12 oc13 kV13 dc13 pm13 cd13 ct13 oc14 kV14 dc14 pm14 cd14 ct14 oc15 kV15 dc15 pm15 cd15 ct15 oc16 kV16 dc16 pm16 cd16 ct16 : Value}
    {itW itS : Array Value} {nW nS : Nat} {tA tB tC tD tE : Tok}
    (a1 : PySem.W.nsIn K mainGlobals "lexemes" = some (some (.ref f1))) (l1 : K.lookup f1 = some ⟨oc1, od1, .func (PySem.W.fnOf "lexemes" "lexemes" (defArgs sLexemes) (defBody sLexemes) (defScope sLexemes) .none kV1 dc1 pm1 an1 cd1 ct1), sl1⟩) (c1 : PySem.W.codeIn K cd1 "lexemes" = true) (k1 : PySem.W.keepIn K (.ref f1) = true)
    (a2 : PySem.W.nsIn K mainGlobals "row_lexemes" = some (some (.ref f2))) (l2 : K.lookup f2 = some ⟨oc2, od2, .func (PySem.W.fnOf "row_lexemes" "row_lexemes" (defArgs sRowLex) (defBody sRowLex) (defScope sRowLex) .none kV2 dc2 pm2 an2 cd2 ct2), sl2⟩) (c2 : PySem.W.codeIn K cd2 "row_lexemes" = true) (k2 : PySem.W.keepIn K (.ref f2) = true)
    (a3 : PySem.W.nsIn K mainGlobals "lexeme_at" = some (some (.ref f3))) (l3 : K.lookup f3 = some ⟨oc3, od3, .func (PySem.W.fnOf "lexeme_at" "lexeme_at" (defArgs sLexAt) (defBody sLexAt) (defScope sLexAt) .none kV3 dc3 pm3 an3 cd3 ct3), sl3⟩) (c3 : PySem.W.codeIn K cd3 "lexeme_at" = true) (k3 : PySem.W.keepIn K (.ref f3) = true)
    (a4 : PySem.W.nsIn K mainGlobals "run_end" = some (some (.ref f4))) (l4 : K.lookup f4 = some ⟨oc4, od4, .func (PySem.W.fnOf "run_end" "run_end" (defArgs sRunEnd) (defBody sRunEnd) (defScope sRunEnd) .none kV4 dc4 pm4 an4 cd4 ct4), sl4⟩) (c4 : PySem.W.codeIn K cd4 "run_end" = true) (k4 : PySem.W.keepIn K (.ref f4) = true)
    (a5 : PySem.W.nsIn K mainGlobals "sign_end" = some (some (.ref f5))) (l5 : K.lookup f5 = some ⟨oc5, od5, .func (PySem.W.fnOf "sign_end" "sign_end" (defArgs sSignEnd) (defBody sSignEnd) (defScope sSignEnd) .none kV5 dc5 pm5 an5 cd5 ct5), sl5⟩) (c5 : PySem.W.codeIn K cd5 "sign_end" = true) (k5 : PySem.W.keepIn K (.ref f5) = true)
    (a6 : PySem.W.nsIn K mainGlobals "_law_mixed" = some (some (.ref f6))) (l6 : K.lookup f6 = some ⟨oc6, od6, .func (PySem.W.fnOf "_law_mixed" "_law_mixed" (defArgs sMixed) (defBody sMixed) (defScope sMixed) .none kV6 dc6 pm6 an6 cd6 ct6), sl6⟩) (c6 : PySem.W.codeIn K cd6 "_law_mixed" = true) (k6 : PySem.W.keepIn K (.ref f6) = true)
    (a7 : PySem.W.nsIn K mainGlobals "_law_purse" = some (some (.ref f7))) (l7 : K.lookup f7 = some ⟨oc7, od7, .func (PySem.W.fnOf "_law_purse" "_law_purse" (defArgs sPurse) (defBody sPurse) (defScope sPurse) .none kV7 dc7 pm7 an7 cd7 ct7), sl7⟩) (c7 : PySem.W.codeIn K cd7 "_law_purse" = true) (k7 : PySem.W.keepIn K (.ref f7) = true)
    (a8 : PySem.W.nsIn K mainGlobals "_law_take" = some (some (.ref f8))) (l8 : K.lookup f8 = some ⟨oc8, od8, .func (PySem.W.fnOf "_law_take" "_law_take" (defArgs sTake) (defBody sTake) (defScope sTake) .none kV8 dc8 pm8 an8 cd8 ct8), sl8⟩) (c8 : PySem.W.codeIn K cd8 "_law_take" = true) (k8 : PySem.W.keepIn K (.ref f8) = true)
    (a9 : PySem.W.nsIn K mainGlobals "_law_at" = some (some (.ref f9))) (l9 : K.lookup f9 = some ⟨oc9, od9, .func (PySem.W.fnOf "_law_at" "_law_at" (defArgs sAt) (defBody sAt) (defScope sAt) .none kV9 dc9 pm9 an9 cd9 ct9), sl9⟩) (c9 : PySem.W.codeIn K cd9 "_law_at" = true) (k9 : PySem.W.keepIn K (.ref f9) = true)
    (a10 : PySem.W.nsIn K mainGlobals "_law_word" = some (some (.ref f10))) (l10 : K.lookup f10 = some ⟨oc10, od10, .func (PySem.W.fnOf "_law_word" "_law_word" (defArgs sWord) (defBody sWord) (defScope sWord) .none kV10 dc10 pm10 an10 cd10 ct10), sl10⟩) (c10 : PySem.W.codeIn K cd10 "_law_word" = true) (k10 : PySem.W.keepIn K (.ref f10) = true)
    (a11 : PySem.W.nsIn K mainGlobals "_law_words" = some (some (.ref f11))) (l11 : K.lookup f11 = some ⟨oc11, od11, .func (PySem.W.fnOf "_law_words" "_law_words" (defArgs sWords) (defBody sWords) (defScope sWords) .none kV11 dc11 pm11 an11 cd11 ct11), sl11⟩) (c11 : PySem.W.codeIn K cd11 "_law_words" = true) (k11 : PySem.W.keepIn K (.ref f11) = true)
    (a12 : PySem.W.nsIn K mainGlobals "_law_touches" = some (some (.ref f12))) (l12 : K.lookup f12 = some ⟨oc12, od12, .func (PySem.W.fnOf "_law_touches" "_law_touches" (defArgs sTouches) (defBody sTouches) (defScope sTouches) .none kV12 dc12 pm12 an12 cd12 ct12), sl12⟩) (c12 : PySem.W.codeIn K cd12 "_law_touches" = true) (k12 : PySem.W.keepIn K (.ref f12) = true)
    (a13 : PySem.W.nsIn K mainGlobals "_law_grow" = some (some (.ref f13))) (l13 : K.lookup f13 = some ⟨oc13, od13, .func (PySem.W.fnOf "_law_grow" "_law_grow" (defArgs sGrow) (defBody sGrow) (defScope sGrow) .none kV13 dc13 pm13 an13 cd13 ct13), sl13⟩) (c13 : PySem.W.codeIn K cd13 "_law_grow" = true) (k13 : PySem.W.keepIn K (.ref f13) = true)
    (a14 : PySem.W.nsIn K mainGlobals "_law_row" = some (some (.ref f14))) (l14 : K.lookup f14 = some ⟨oc14, od14, .func (PySem.W.fnOf "_law_row" "_law_row" (defArgs sRow) (defBody sRow) (defScope sRow) .none kV14 dc14 pm14 an14 cd14 ct14), sl14⟩) (c14 : PySem.W.codeIn K cd14 "_law_row" = true) (k14 : PySem.W.keepIn K (.ref f14) = true)
    (a15 : PySem.W.nsIn K mainGlobals "_law_rows" = some (some (.ref f15))) (l15 : K.lookup f15 = some ⟨oc15, od15, .func (PySem.W.fnOf "_law_rows" "_law_rows" (defArgs sRows) (defBody sRows) (defScope sRows) .none kV15 dc15 pm15 an15 cd15 ct15), sl15⟩) (c15 : PySem.W.codeIn K cd15 "_law_rows" = true) (k15 : PySem.W.keepIn K (.ref f15) = true)
    (a16 : PySem.W.nsIn K mainGlobals "law" = some (some (.ref f16))) (l16 : K.lookup f16 = some ⟨oc16, od16, .func (PySem.W.fnOf "law" "law" (defArgs sLaw) (defBody sLaw) (defScope sLaw) .none kV16 dc16 pm16 an16 cd16 ct16), sl16⟩) (c16 : PySem.W.codeIn K cd16 "law" = true) (k16 : PySem.W.keepIn K (.ref f16) = true)
    (xA : PySem.W.nsIn K mainGlobals "SMALL" = some (some (.str zSmall tA)))
    (xB : PySem.W.nsIn K mainGlobals "GREAT" = some (some (.str zGreat tB)))
    (xC : PySem.W.nsIn K mainGlobals "FIGURES" = some (some (.str zFig tC)))
    (xD : PySem.W.nsIn K mainGlobals "LONGEST" = some (some (.int 8 tD)))
    (xE : PySem.W.nsIn K mainGlobals "REMARK" = some (some (.str ("--" : Str) tE)))
    (xW : PySem.W.nsIn K mainGlobals "WORDS" = some (some (.ref aW)))
    (xS : PySem.W.nsIn K mainGlobals "SIGNS" = some (some (.ref aS)))
    (lW : K.lookup aW = some ⟨.type "tuple", odW, .seq itW nW, slW⟩) (vW : Vals wordsV itW.toList) (lS : K.lookup aS = some ⟨.type "tuple", odS, .seq itS nS, slS⟩) (vS : Vals signsV itS.toList)
    (z_int : PySem.W.nsIn K mainGlobals "int" = some none)
    (z_range : PySem.W.nsIn K mainGlobals "range" = some none)
    (z_len : PySem.W.nsIn K mainGlobals "len" = some none)
    (z_enumerate : PySem.W.nsIn K mainGlobals "enumerate" = some none)
    (z_list : PySem.W.nsIn K mainGlobals "list" = some none)
    (z_isinstance : PySem.W.nsIn K mainGlobals "isinstance" = some none)
    (z_tuple : PySem.W.nsIn K mainGlobals "tuple" = some none)
    (z_bool : PySem.W.nsIn K mainGlobals "bool" = some none)
    (z_str : PySem.W.nsIn K mainGlobals "str" = some none)
    : ∃ fd : FuncData, (∀ (s : Shared) (v : Value), BindsTo s fd ⟨[v], []⟩ [("_law_script", v)]) ∧ ∀ base : Heap, K.In base → base.Ns mainGlobals mg → FnOk l.prog w K mg base CX0 7 fa fd ["_law_script"] (spLaw K) := by
  have e := hfa.symm.trans (PySem.W.mg_of X G a16)
  cases e
  have F1 := fun_mk (st := sLexemes) l1 c1 k1
  have b1 := F1.binds (ps := ["text"]) fun _ _ _ _ _ _ us hl => match us, hl with | [_], _ => rfl
  have g1 := PySem.W.mg_of X G a1
  have F2 := fun_mk (st := sRowLex) l2 c2 k2
  have b2 := F2.binds (ps := ["number", "row"]) fun _ _ _ _ _ _ us hl => match us, hl with | [_, _], _ => rfl
  have g2 := PySem.W.mg_of X G a2
  have F3 := fun_mk (st := sLexAt) l3 c3 k3
  have b3 := F3.binds (ps := ["number", "row", "at"]) fun _ _ _ _ _ _ us hl => match us, hl with | [_, _, _], _ => rfl
  have g3 := PySem.W.mg_of X G a3
  have F4 := fun_mk (st := sRunEnd) l4 c4 k4
  have b4 := F4.binds (ps := ["row", "at", "signs", "most"]) fun _ _ _ _ _ _ us hl => match us, hl with | [_, _, _, _], _ => rfl
  have g4 := PySem.W.mg_of X G a4
  have F5 := fun_mk (st := sSignEnd) l5 c5 k5
  have b5 := F5.binds (ps := ["number", "row", "at"]) fun _ _ _ _ _ _ us hl => match us, hl with | [_, _, _], _ => rfl
  have g5 := PySem.W.mg_of X G a5
  have F6 := fun_mk (st := sMixed) l6 c6 k6
  have b6 := F6.binds (ps := ["_law_cell", "_law_k"]) fun _ _ _ _ _ _ us hl => match us, hl with | [_, _], _ => rfl
  have g6 := PySem.W.mg_of X G a6
  have F7 := fun_mk (st := sPurse) l7 c7 k7
  have b7 := F7.binds (ps := ["_law_cell", "_law_k"]) fun _ _ _ _ _ _ us hl => match us, hl with | [_, _], _ => rfl
  have g7 := PySem.W.mg_of X G a7
  have F8 := fun_mk (st := sTake) l8 c8 k8
  have b8 := F8.binds (ps := ["_law_purse_here", "_law_steps"]) fun _ _ _ _ _ _ us hl => match us, hl with | [_, _], _ => rfl
  have g8 := PySem.W.mg_of X G a8
  have F9 := fun_mk (st := sAt) l9 c9 k9
  have b9 := F9.binds (ps := ["_law_script", "_law_k"]) fun _ _ _ _ _ _ us hl => match us, hl with | [_, _], _ => rfl
  have g9 := PySem.W.mg_of X G a9
  have F10 := fun_mk (st := sWord) l10 c10 k10
  have b10 := F10.binds (ps := ["_law_purse_here"]) fun _ _ _ _ _ _ us hl => match us, hl with | [_], _ => rfl
  have g10 := PySem.W.mg_of X G a10
  have F11 := fun_mk (st := sWords) l11 c11 k11
  have b11 := F11.binds (ps := []) fun _ _ _ _ _ _ us hl => match us, hl with | [], _ => rfl
  have g11 := PySem.W.mg_of X G a11
  have F12 := fun_mk (st := sTouches) l12 c12 k12
  have b12 := F12.binds (ps := ["_law_sort", "_law_word_here", "_law_last"]) fun _ _ _ _ _ _ us hl => match us, hl with | [_, _, _], _ => rfl
  have g12 := PySem.W.mg_of X G a12
  have F13 := fun_mk (st := sGrow) l13 c13 k13
  have b13 := F13.binds (ps := []) fun _ _ _ _ _ _ us hl => match us, hl with | [], _ => rfl
  have g13 := PySem.W.mg_of X G a13
  have F14 := fun_mk (st := sRow) l14 c14 k14
  have b14 := F14.binds (ps := ["_law_purse_here", "_law_number", "_law_steps"]) fun _ _ _ _ _ _ us hl => match us, hl with | [_, _, _], _ => rfl
  have g14 := PySem.W.mg_of X G a14
  have F15 := fun_mk (st := sRows) l15 c15 k15
  have b15 := F15.binds (ps := ["_law_purse_here", "_law_steps"]) fun _ _ _ _ _ _ us hl => match us, hl with | [_, _], _ => rfl
  have g15 := PySem.W.mg_of X G a15
  have F16 := fun_mk (st := sLaw) l16 c16 k16
  have sz : itW.size ≤ sizeLine := by
    have e : itW.size = 9 := (Array.length_toList (xs := itW)).symm.trans (vW.length.symm.trans (by decide +kernel))
    rw [e]
    decide +kernel
  have sz2 : itS.size ≤ sizeLine := by
    have e : itS.size = 11 := (Array.length_toList (xs := itS)).symm.trans (vS.length.symm.trans (by decide +kernel))
    rw [e]
    decide +kernel
  have TL : TxtL K mg aW aS := ⟨PySem.W.mg_none_of X G z_len, ⟨_, PySem.W.mg_of X G xA⟩, ⟨_, PySem.W.mg_of X G xB⟩, ⟨_, PySem.W.mg_of X G xC⟩, ⟨_, PySem.W.mg_of X G xD⟩, ⟨_, PySem.W.mg_of X G xE⟩, PySem.W.mg_of X G xW, PySem.W.mg_of X G xS,
    fun H => .inr ⟨_, itW, nW, lW, rfl, rfl, sz, vW⟩, fun H => .inr ⟨_, itS, nS, lS, rfl, rfl, sz2, vS⟩⟩
  have TG : TxtG mg := ⟨PySem.W.mg_none_of X G z_int, PySem.W.mg_none_of X G z_range, PySem.W.mg_none_of X G z_len, PySem.W.mg_none_of X G z_enumerate, PySem.W.mg_none_of X G z_list, PySem.W.mg_none_of X G z_isinstance, PySem.W.mg_none_of X G z_tuple, PySem.W.mg_none_of X G z_bool, PySem.W.mg_none_of X G z_str⟩
  refine ⟨PySem.W.fnOf "law" "law" (defArgs sLaw) (defBody sLaw) (defScope sLaw) .none kV16 dc16 pm16 an16 cd16 ct16, fun s v => .of_eq rfl, fun base _ _ => ?_⟩
  exact ok_law F16 TG (ok_at F9 TG.len) k9 b9 g9 (ok_purse F7 F6 b6 g6) k7 b7 g7 (ok_rows F15 TG.int TG.range TG.len F8 b8 g8 F6 b6 g6 F11 b11 g11 F10 b10 g10 F13 b13 g13 F12 b12 g12 F14 b14 g14) k15 b15 g15
    (ok_take F8 F6 b6 g6) k8 b8 g8 (ok_lexemes F1 TL TG.enum F2 b2 g2 F3 b3 g3 F4 b4 g4 F5 b5 g5) k1 b1 g1 (kb_lex F1)
theorem walk {l : PySem.W.OpenLaw} {q : Program} {loose : List Str} {XP : (Str → Option Value) → Heap → Prop} {YP : World → Heap → Prop} {d : DefRec} {K : Params → PySem.W.Frag} (hn : l.most = some 63) (hdf : d.params.defaults = [])
    (hY : ∀ (w : World) (h : Heap), YP w h → (K w.params).In h) (F : ∀ (w : World) (mg : Str → Option Value) (fa : Addr) (h : Heap), (K w.params).In h → h.Ns mainGlobals mg → mg d.name = some (.ref fa) → ∃ fd : FuncData,
      (∀ (s : Shared) (u : Value), BindsTo s fd ⟨[u], []⟩ [("_law_script", u)]) ∧ ∀ base : Heap, (K w.params).In base → base.Ns mainGlobals mg → FnOk l.prog w (K w.params) mg base CX0 7 fa fd ["_law_script"] (spLaw (K w.params))) :
    PySem.W.WalkO q loose XP YP l.row.toRowW d [] (fun f vs => PySem.call f vs) := by
  refine L2.walk_of (n := 63) (k := 7) (x := "_law_script") (CX := fun _ => CX0) (sp := fun w => spLaw (K w.params)) hn (by decide) hdf ⟨rfl, by decide, by decide⟩ hY F ?_ ?_
  · exact fun _ _ a ns hl _ hS => ⟨a, ns, rfl, hS, hl, fun _ => rfl⟩
  · exact fun _ _ _ _ _ z => z
end G01
open PySem PySem.W PyProof.Rows in
set_option maxRecDepth 100000 in
set_option maxHeartbeats 0 in
theorem PySem.Challenge.cw_slumberway_k01_lexemes_holds : PySem.Challenge.rw_slumberway_k01_lexemes.Holds := by
  w_on; o_law; k_head; (case hw => w_witness2)
  k_fill
  refine G01.walk (l := PySem.Challenge.rw_slumberway_k01_lexemes) rfl rfl (fun w h Y => PySem.W.kIn_of Y) ?F
  case F =>
    intro w mg fa h KX G hmg
    refine' G01.all_mk KX G hmg ?a1 ?l1 ?c1 ?k1 ?a2 ?l2 ?c2 ?k2 ?a3 ?l3 ?c3 ?k3 ?a4 ?l4 ?c4 ?k4 ?a5 ?l5 ?c5 ?k5 ?a6 ?l6 ?c6 ?k6 ?a7 ?l7 ?c7 ?k7 ?a8 ?l8 ?c8 ?k8 ?a9 ?l9 ?c9 ?k9 ?a10 ?l10 ?c10 ?k10 ?a11 ?l11 ?c11 ?k11 ?a12 ?l12 ?c12 ?k12 ?a13 ?l13 ?c13 ?k13 ?a14 ?l14 ?c14 ?k14 ?a15 ?l15 ?c15 ?k15 ?a16 ?l16 ?c16 ?k16 ?xA ?xB ?xC ?xD ?xE ?xW ?xS ?lW ?vW ?lS ?vS ?z_int ?z_range ?z_len ?z_enumerate ?z_list ?z_isinstance ?z_tuple ?z_bool ?z_str
    (case a1 => k_is)
    (case l1 => k_is)
    (case c1 => k_is)
    (case k1 => k_is)
    (case a2 => k_is)
    (case l2 => k_is)
    (case c2 => k_is)
    (case k2 => k_is)
    (case a3 => k_is)
    (case l3 => k_is)
    (case c3 => k_is)
    (case k3 => k_is)
    (case a4 => k_is)
    (case l4 => k_is)
    (case c4 => k_is)
    (case k4 => k_is)
    (case a5 => k_is)
    (case l5 => k_is)
    (case c5 => k_is)
    (case k5 => k_is)
    (case a6 => k_is)
    (case l6 => k_is)
    (case c6 => k_is)
    (case k6 => k_is)
    (case a7 => k_is)
    (case l7 => k_is)
    (case c7 => k_is)
    (case k7 => k_is)
    (case a8 => k_is)
    (case l8 => k_is)
    (case c8 => k_is)
    (case k8 => k_is)
    (case a9 => k_is)
    (case l9 => k_is)
    (case c9 => k_is)
    (case k9 => k_is)
    (case a10 => k_is)
    (case l10 => k_is)
    (case c10 => k_is)
    (case k10 => k_is)
    (case a11 => k_is)
    (case l11 => k_is)
    (case c11 => k_is)
    (case k11 => k_is)
    (case a12 => k_is)
    (case l12 => k_is)
    (case c12 => k_is)
    (case k12 => k_is)
    (case a13 => k_is)
    (case l13 => k_is)
    (case c13 => k_is)
    (case k13 => k_is)
    (case a14 => k_is)
    (case l14 => k_is)
    (case c14 => k_is)
    (case k14 => k_is)
    (case a15 => k_is)
    (case l15 => k_is)
    (case c15 => k_is)
    (case k15 => k_is)
    (case a16 => k_is)
    (case l16 => k_is)
    (case c16 => k_is)
    (case k16 => k_is)
    (case xA => k_is)
    (case xB => k_is)
    (case xC => k_is)
    (case xD => k_is)
    (case xE => k_is)
    (case xW => k_is)
    (case xS => k_is)
    (case lW => k_is)
    (case vW => exact G01.vals_words)
    (case lS => k_is)
    (case vS => exact G01.vals_signs)
    (case z_int => k_is)
    (case z_range => k_is)
    (case z_len => k_is)
    (case z_enumerate => k_is)
    (case z_list => k_is)
    (case z_isinstance => k_is)
    (case z_tuple => k_is)
    (case z_bool => k_is)
    (case z_str => k_is)

