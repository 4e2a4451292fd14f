/-
  What lex.Scan answers, as plain lists tell it.
-/
import Derived.Test.YtcdmojefheipoaaLexback
namespace Go.Proofs.Ytcdmojefheipoaa
open Go.RowKit

/-- A token's kind and text. -/
def kt (t : Tk) : Nat × List Nat := (t.k, bs t.t)
/-- Tokens of a text behind a place, one behind the other. -/
def Chain (s : ByteArray) : Nat → List Tk → Prop
  | q, [] => q + leftL ((bs s).drop q) = s.size
  | q, t :: r => t.a = q + leftL ((bs s).drop q) ∧ t.a < s.size ∧ t.t = s.extract t.a (t.a + t.t.size) ∧ t.a + t.t.size ≤ s.size ∧ TokOk (kt t) ∧ Chain s (t.a + t.t.size) r
theorem scanA_is (s : ByteArray) : ∀ (f q p : Nat) (acc : List Tk), q ≤ s.size → p = q + leftL ((bs s).drop q) → s.size < f + p → acc.length + (s.size - p) < 16384 →
    (scanF ((bs s).drop p) = none ∧ ∃ e, e < s.size ∧ scanA s f p acc = .error (2, e)) ∨ ∃ l, scanF ((bs s).drop p) = some (l.map kt) ∧ scanA s f p acc = .ok (acc ++ l) ∧ Chain s q l ∧ l.length ≤ s.size - p
  | 0, q, p, acc, hq, hp, hf, _ => by
    have hle := leftL_le ((bs s).drop q)
    rw [List.length_drop, bs_len] at hle
    omega
  | f + 1, q, p, acc, hq, hp, hf, ha => by
    have hle := leftL_le ((bs s).drop q)
    rw [List.length_drop, bs_len] at hle
    unfold scanA
    by_cases hlt : p < s.size
    · rw [if_pos hlt]
      have hne : (bs s).drop p ≠ [] := by
        intro e
        have := congrArg List.length e
        rw [List.length_drop, bs_len] at this
        simp at this; omega
      have hb := begin_le ((bs s).drop p) (List.length_pos_iff.2 hne)
      rw [List.length_drop, bs_len] at hb
      obtain ⟨k, n, hkn⟩ : ∃ k n, beginL ((bs s).drop p) = (k, n) := ⟨_, _, rfl⟩
      rw [hkn] at hb ⊢
      by_cases h0 : n = 0
      · subst h0
        refine .inl ⟨scanF_none hne (by rw [hkn]), p, hlt, ?_⟩
        rw [if_pos rfl]
      · rw [if_neg h0, if_neg (by omega)]
        have hb' : n ≤ s.size - p := hb
        have hl2 := leftL_le ((bs s).drop (p + n))
        rw [List.length_drop, bs_len] at hl2
        have hsz : (s.extract p (p + n)).size = n := by rw [ByteArray.size_extract]; omega
        have hkt : kt ⟨k, p, s.extract p (p + n)⟩ = (k, ((bs s).drop p).take n) := by
          unfold kt; rw [bs_cut]; congr 2; omega
        have hF := scanF_tok hne hkn h0
        have hdd : dropL (((bs s).drop p).drop n) = (bs s).drop (p + n + leftL ((bs s).drop (p + n))) := by
          unfold dropL; rw [show ((bs s).drop p).drop n = (bs s).drop (p + n) from List.drop_drop .., List.drop_drop]
        have hok : scanF ((bs s).drop p) ≠ none → TokOk (k, ((bs s).drop p).take n) := fun h => by
          obtain ⟨ts, hts⟩ := Option.ne_none_iff_exists'.1 h
          have := scanF_ok _ _ (Nat.le_refl _) ts hts
          rw [hF] at hts
          obtain ⟨us, _, rfl⟩ := Option.map_eq_some_iff.1 hts
          exact this _ (List.mem_cons_self ..)
        rcases scanA_is s f (p + n) (p + n + leftL ((bs s).drop (p + n))) (acc ++ [⟨k, p, s.extract p (p + n)⟩]) (by omega) rfl (by omega) (by simp; omega) with ⟨h1, e, h2, h3⟩ | ⟨l, h1, h2, h3, h4⟩
        · refine .inl ⟨?_, e, h2, h3⟩
          rw [hF, hdd, h1]; rfl
        · refine .inr ⟨⟨k, p, s.extract p (p + n)⟩ :: l, ?_, ?_, ?_, ?_⟩
          · rw [hF, hdd, h1, List.map_cons, hkt]; rfl
          · rw [h2, List.append_assoc]; rfl
          · refine ⟨hp, hlt, by show _ = s.extract p (p + (s.extract p (p + n)).size); rw [hsz], ?_, ?_, ?_⟩
            · show p + (s.extract p (p + n)).size ≤ _; rw [hsz]; omega
            · rw [hkt]; exact hok (by rw [hF, hdd, h1]; simp)
            · show Chain s (p + (s.extract p (p + n)).size) l
              rw [hsz]; exact h3
          · simp only [List.length_cons]; omega
    · rw [if_neg hlt]
      have he : (bs s).drop p = [] := List.drop_of_length_le (by rw [bs_len]; omega)
      refine .inr ⟨[], by rw [he]; rfl, by rw [List.append_nil], ?_, Nat.zero_le _⟩
      show q + leftL ((bs s).drop q) = s.size
      omega
/-- What Scan answers of a text that isn't long. -/
theorem scanL_is (s : ByteArray) (hs : s.size ≤ 16000) :
    (scanF (dropL (bs s)) = none ∧ ∃ e, e < s.size ∧ scanL s = .error (2, e)) ∨ ∃ l, scanF (dropL (bs s)) = some (l.map kt) ∧ scanL s = .ok (l ++ [⟨4, s.size, ⟨#[]⟩⟩]) ∧ Chain s 0 l ∧ l.length ≤ s.size := by
  have hle := leftL_le (bs s)
  rw [bs_len] at hle
  unfold scanL
  rw [if_neg (by omega)]
  rcases scanA_is s (s.size + 1) 0 (leftL (bs s)) [] (Nat.zero_le _) (by simp) (by omega) (by simp; omega) with ⟨h1, e, h2, h3⟩ | ⟨l, h1, h2, h3, h4⟩
  · exact .inl ⟨h1, e, h2, by rw [h3]⟩
  · refine .inr ⟨l, h1, by rw [h2]; rfl, h3, by omega⟩

end Go.Proofs.Ytcdmojefheipoaa
