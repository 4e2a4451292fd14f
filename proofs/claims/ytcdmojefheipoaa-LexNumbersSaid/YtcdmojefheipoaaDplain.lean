/-
  Plain facts on decimal digits and their texts; no program, no world.
-/
import Derived.Test.YtcdmojefheipoaaPlain
namespace Go.Proofs.Ytcdmojefheipoaa

/-- What digits (as bytes) behind a number make of it. -/
def dvA (a : Nat) (l : List Nat) : Nat := l.foldl (fun a c => a * 10 + (c - 48)) a
def dv (l : List Nat) : Nat := dvA 0 l
/-- All bytes are digits. -/
def DD (l : List Nat) : Prop := ∀ x ∈ l, 48 ≤ x ∧ x ≤ 57
/-- A string's bytes as numbers. -/
def bs (s : ByteArray) : List Nat := s.data.toList.map UInt8.toNat

theorem bs_len (s : ByteArray) : (bs s).length = s.size := by simp [bs]
theorem bs_get (s : ByteArray) (i : Nat) (h : i < s.size) : dg (bs s) i = (s[i]'h).toNat := by
  unfold dg bs
  rw [List.getElem?_map, List.getElem?_eq_getElem (by simpa using h)]
  rfl
theorem bs_lt (s : ByteArray) : ∀ x ∈ bs s, x < 256 := fun x hx => by
  obtain ⟨c, _, rfl⟩ := List.mem_map.1 hx
  exact c.toNat_lt
theorem bs_of (l : List Nat) (h : ∀ x ∈ l, x < 256) : bs ⟨(l.map UInt8.ofNat).toArray⟩ = l := by
  unfold bs
  simp only [List.map_map]
  conv => rhs; rw [← List.map_id l]
  refine List.map_congr_left fun x hx => ?_
  have := h x hx
  simp
  omega
theorem bs_inj {s t : ByteArray} (h : bs s = bs t) : s = t := by
  have h1 : s.data.toList = t.data.toList := by
    unfold bs at h
    exact List.map_inj_right (f := UInt8.toNat) (fun a b e => UInt8.toNat_inj.1 e) |>.1 h
  cases s; cases t
  simp at h1 ⊢
  exact h1

theorem dvA_append (a : Nat) (l1 l2 : List Nat) : dvA a (l1 ++ l2) = dvA (dvA a l1) l2 := by simp [dvA]
theorem dvA_eq : ∀ (l : List Nat) (a : Nat), dvA a l = a * 10 ^ l.length + dv l
  | [], a => by simp [dvA, dv]
  | c :: l, a => by
    have h1 := dvA_eq l (a * 10 + (c - 48))
    have h2 := dvA_eq l (0 * 10 + (c - 48))
    unfold dv
    simp only [dvA, List.foldl_cons] at h1 h2 ⊢
    rw [h1, h2, List.length_cons, Nat.pow_succ]
    generalize (10 : Nat) ^ l.length = p
    generalize dv l = v
    generalize c - 48 = d
    grind
theorem dv_append (l1 l2 : List Nat) : dv (l1 ++ l2) = dv l1 * 10 ^ l2.length + dv l2 := by
  unfold dv
  rw [dvA_append, dvA_eq l2]
  rfl
theorem dv_cons (c : Nat) (l : List Nat) : dv (c :: l) = (c - 48) * 10 ^ l.length + dv l := by
  have := dv_append [c] l
  simpa [dv, dvA] using this
theorem dv_snoc (l : List Nat) (c : Nat) : dv (l ++ [c]) = dv l * 10 + (c - 48) := by
  rw [dv_append]; simp [dv, dvA]
theorem dv_nil : dv [] = 0 := rfl
theorem DD.append {l1 l2 : List Nat} (h : DD l1) (k : DD l2) : DD (l1 ++ l2) := fun x hx => (List.mem_append.1 hx).elim (h x) (k x)
theorem DD.left {l1 l2 : List Nat} (h : DD (l1 ++ l2)) : DD l1 := fun x hx => h x (List.mem_append_left _ hx)
theorem DD.right {l1 l2 : List Nat} (h : DD (l1 ++ l2)) : DD l2 := fun x hx => h x (List.mem_append_right _ hx)
theorem DD.take {l : List Nat} (h : DD l) (n : Nat) : DD (l.take n) := fun x hx => h x (List.mem_of_mem_take hx)
theorem DD.drop {l : List Nat} (h : DD l) (n : Nat) : DD (l.drop n) := fun x hx => h x (List.mem_of_mem_drop hx)
theorem DD.dg {l : List Nat} (h : DD l) {i : Nat} (hi : i < l.length) : 48 ≤ dg l i ∧ dg l i ≤ 57 := by
  rw [dg_lt hi]; exact h _ (List.getElem_mem hi)
theorem DD.lt256 {l : List Nat} (h : DD l) : ∀ x ∈ l, x < 256 := fun x hx => by have := h x hx; omega
theorem dv_lt : ∀ {l : List Nat}, DD l → dv l < 10 ^ l.length
  | [], _ => by simp [dv, dvA]
  | c :: l, h => by
    have h1 := dv_lt (l := l) (fun x hx => h x (List.mem_cons_of_mem _ hx))
    have h2 := h c (List.mem_cons_self ..)
    rw [dv_cons, List.length_cons, Nat.pow_succ]
    have := Nat.mul_le_mul_right (10 ^ l.length) (show c - 48 ≤ 9 by omega)
    omega
theorem dv_inj : ∀ {l m : List Nat}, DD l → DD m → l.length = m.length → dv l = dv m → l = m
  | [], [], _, _, _, _ => rfl
  | [], _ :: _, _, _, h, _ => by simp at h
  | _ :: _, [], _, _, h, _ => by simp at h
  | c :: l, d :: m, hl, hm, h, hv => by
    have hlen : l.length = m.length := by simpa using h
    have a1 := dv_lt (l := l) (fun x hx => hl x (List.mem_cons_of_mem _ hx))
    have a2 := dv_lt (l := m) (fun x hx => hm x (List.mem_cons_of_mem _ hx))
    have c1 := hl c (List.mem_cons_self ..)
    have c2 := hm d (List.mem_cons_self ..)
    rw [dv_cons, dv_cons, ← hlen] at hv
    rw [← hlen] at a2
    have e : c - 48 = d - 48 := by
      have e1 : ((c - 48) * 10 ^ l.length + dv l) / 10 ^ l.length = c - 48 := by
        rw [Nat.mul_comm, Nat.mul_add_div (by omega), Nat.div_eq_of_lt a1, Nat.add_zero]
      have e2 : ((d - 48) * 10 ^ l.length + dv m) / 10 ^ l.length = d - 48 := by
        rw [Nat.mul_comm, Nat.mul_add_div (by omega), Nat.div_eq_of_lt a2, Nat.add_zero]
      rw [← e1, ← e2, hv]
    rw [e] at hv
    have hv' : dv l = dv m := by omega
    have := dv_inj (fun x hx => hl x (List.mem_cons_of_mem _ hx)) (fun x hx => hm x (List.mem_cons_of_mem _ hx)) hlen hv'
    rw [this, show c = d by omega]

/-- l is the text of n: its decimal digits, without noughts ahead. -/
def IsText (l : List Nat) (n : Nat) : Prop := DD l ∧ dv l = n ∧ l ≠ [] ∧ (1 < l.length → dg l 0 ≠ 48)

theorem IsText.low {l : List Nat} {n : Nat} (h : IsText l n) (hl : 1 < l.length) : 10 ^ (l.length - 1) ≤ n := by
  obtain ⟨h1, rfl, h3, h4⟩ := h
  cases l with
  | nil => simp at hl
  | cons c l =>
    have h5 := h4 hl
    simp [dg] at h5
    have h6 := h1 c (List.mem_cons_self ..)
    rw [dv_cons, List.length_cons, Nat.add_sub_cancel]
    have := Nat.mul_le_mul_right (10 ^ l.length) (show 1 ≤ c - 48 by omega)
    omega
theorem IsText.high {l : List Nat} {n : Nat} (h : IsText l n) : n < 10 ^ l.length := by
  obtain ⟨h1, rfl, _⟩ := h
  exact dv_lt h1
theorem IsText.pos {l : List Nat} {n : Nat} (h : IsText l n) : 0 < l.length := by
  rcases Nat.eq_zero_or_pos l.length with h1 | h1
  · exact absurd (List.eq_nil_of_length_eq_zero h1) h.2.2.1
  · exact h1
theorem IsText.len_le {l m : List Nat} {n k : Nat} (h : IsText l n) (g : IsText m k) (hn : n ≤ k) : l.length ≤ m.length := by
  rcases Nat.lt_or_ge m.length l.length with h1 | h1
  · exfalso
    have h2 := h.low (by have := g.pos; omega)
    have h3 := g.high
    have := Nat.pow_le_pow_right (n := 10) (by decide) (show m.length ≤ l.length - 1 by omega)
    omega
  · exact h1
theorem IsText.uniq {l m : List Nat} {n : Nat} (h : IsText l n) (g : IsText m n) : l = m :=
  dv_inj h.1 g.1 (Nat.le_antisymm (h.len_le g (Nat.le_refl _)) (g.len_le h (Nat.le_refl _))) (h.2.1.trans g.2.1.symm)

theorem dv_zeros : ∀ (k : Nat), dv (List.replicate k 48) = 0
  | 0 => rfl
  | k + 1 => by rw [List.replicate_succ, dv_cons, dv_zeros k]; simp
theorem DD_zeros (k : Nat) : DD (List.replicate k 48) := fun x hx => by simp at hx; omega

/-- A number's text with noughts behind it is that of the number times so many tens. -/
theorem IsText.tens {l : List Nat} {n : Nat} (h : IsText l n) (h0 : n ≠ 0) (k : Nat) : IsText (l ++ List.replicate k 48) (n * 10 ^ k) := by
  refine ⟨h.1.append (DD_zeros k), by rw [dv_append, h.2.1, dv_zeros]; simp, by simp [h.2.2.1], fun _ => ?_⟩
  have hp := h.pos
  rw [dg_append_left _ hp]
  by_cases h1 : 1 < l.length
  · exact h.2.2.2 h1
  · have hl : l.length = 1 := by omega
    obtain ⟨c, rfl⟩ := List.length_eq_one_iff.1 hl
    intro e
    simp [dg] at e
    apply h0
    rw [← h.2.1, e]
    rfl

instance (l : List Nat) : Decidable (DD l) := inferInstanceAs (Decidable (∀ x ∈ l, 48 ≤ x ∧ x ≤ 57))
/-- Are the bytes digits, and is there one? -/
def onlyB (l : List Nat) : Bool := decide (DD l ∧ l ≠ [])
theorem onlyB_pos {l : List Nat} (h : DD l) (h0 : l ≠ []) : onlyB l = true := decide_eq_true ⟨h, h0⟩
theorem onlyB_neg {l : List Nat} (h : ¬ (DD l ∧ l ≠ [])) : onlyB l = false := decide_eq_false h
theorem onlyB_out {l : List Nat} (h : onlyB l = true) : DD l ∧ l ≠ [] := of_decide_eq_true h

end Go.Proofs.Ytcdmojefheipoaa
