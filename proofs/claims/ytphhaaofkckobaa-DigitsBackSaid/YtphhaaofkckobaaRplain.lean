/-
  Plain facts for the reckoning of girdleref01, digit by digit to the base 256.
-/
import Derived.Test.YtphhaaofkckobaaRcmp
namespace Go.Proofs.Ytphhaaofkckobaa

theorem val_snoc (b : Nat) (ds : List Nat) (y : Nat) : val b (ds ++ [y]) = val b ds + b ^ ds.length * y := by rw [val_append]; simp [val]
theorem Dig.snoc {b y : Nat} {ds : List Nat} (h : Dig b ds) (hy : y < b) : Dig b (ds ++ [y]) := h.append (Dig.cons hy (fun _ h => (nomatch h)))
theorem val_take_succ (b : Nat) (ds : List Nat) (i : Nat) : val b (ds.take (i + 1)) = val b (ds.take i) + b ^ i * dg ds i := by
  rcases Nat.lt_or_ge i ds.length with h | h
  · rw [List.take_succ_eq_append_getElem h, val_snoc, dg_lt h, show (ds.take i).length = i by simp; omega]
  · rw [List.take_of_length_le h, List.take_of_length_le (by omega), dg_over h]; simp
theorem val_drop_all (b : Nat) (ds : List Nat) (i : Nat) : val b (ds.drop i) = dg ds i + b * val b (ds.drop (i + 1)) := by
  rcases Nat.lt_or_ge i ds.length with h | h
  · exact val_drop b h
  · rw [List.drop_of_length_le h, List.drop_of_length_le (by omega), dg_over h]; simp [val]
theorem pow_four (i : Nat) : (256 : Nat) ^ (4 * i) = 4294967296 ^ i := by rw [Nat.pow_mul]

theorem val_take_drop (b : Nat) (ds : List Nat) (s m : Nat) : val b ((ds.drop s).take (m + 1)) = dg ds s + b * val b ((ds.drop (s + 1)).take m) := by
  rcases Nat.lt_or_ge s ds.length with h | h
  · rw [drop_cons h, List.take_succ_cons]; rfl
  · rw [List.drop_of_length_le h, List.drop_of_length_le (by omega), dg_over h]; simp [val]
theorem val_take_add (b : Nat) (ds : List Nat) (s m : Nat) : val b (ds.take (s + m)) = val b (ds.take s) + b ^ s * val b ((ds.drop s).take m) := by
  rcases Nat.lt_or_ge s ds.length with h | h
  · rw [List.take_add, val_append, show (ds.take s).length = s by simp; omega]
  · rw [List.take_of_length_le h, List.take_of_length_le (by omega), List.drop_of_length_le h]; simp [val]
theorem val_take_lt {b : Nat} {ds : List Nat} (h : Dig b ds) (hb : 0 < b) (s m : Nat) : val b ((ds.drop s).take m) < b ^ m := by
  have h1 := val_lt (b := b) (ds := (ds.drop s).take m) ((h.drop s).take m)
  have h2 := Nat.pow_le_pow_right (n := b) hb (show ((ds.drop s).take m).length ≤ m by simp; omega)
  omega
theorem cut_whole : ∀ (ds : List Nat), ds.length ≤ (cut ds).length → cut ds = ds
  | [], _ => rfl
  | d :: ds, h => by
    by_cases h0 : cut ds = []
    · rw [cut_cons_nil d ds h0] at h ⊢
      by_cases hd : d = 0
      · simp [hd] at h
      · rw [if_neg hd] at h ⊢
        have : ds = [] := by simpa using h
        rw [this]
    · rw [cut_cons_ne d ds h0] at h ⊢
      rw [cut_whole ds (by simpa using h)]
theorem can_of_ge {b : Nat} (hb : 0 < b) {ds : List Nat} (h : Dig b ds) (hv : ds ≠ [] → b ^ (ds.length - 1) ≤ val b ds) : Can b ds := by
  refine ⟨h, ?_⟩
  rcases Nat.lt_or_ge (cut ds).length ds.length with h1 | h1
  · exfalso
    have h2 : ds ≠ [] := by rintro rfl; simp at h1
    have h3 := hv h2
    have h4 := val_lt h.cut
    rw [val_cut] at h4
    have h5 := Nat.pow_le_pow_right (n := b) hb (show (cut ds).length ≤ ds.length - 1 by omega)
    omega
  · exact cut_whole ds h1
theorem back_step (es ds : List Nat) (j : Nat) (hl : es.length = j) (hv : val 4294967296 es = val 256 (ds.take (4 * j))) :
    val 4294967296 (es ++ [val 256 ((ds.drop (4 * j)).take 4)]) = val 256 (ds.take (4 * (j + 1))) := by
  rw [val_snoc, hl, hv, Nat.mul_add, val_take_add, pow_four]

theorem of_step (ds : List Nat) (n m N : Nat) (hl : ds.length = m) (hv : val 256 ds + 256 ^ m * n = N) : val 256 (ds ++ [n % 256]) + 256 ^ (m + 1) * (n / 256) = N := by
  rw [val_snoc, hl, Nat.pow_succ]
  have := Nat.div_add_mod n 256
  generalize (256 : Nat) ^ m = p at *
  generalize n % 256 = r at *
  generalize n / 256 = q at *
  grind

theorem radd_step (ds xs ys : List Nat) (c i N : Nat) (hl : ds.length = i) (hv : val 256 ds + 256 ^ i * (c + val 256 (xs.drop i) + val 256 (ys.drop i)) = N) :
    val 256 (ds ++ [(c + dg xs i + dg ys i) % 256]) + 256 ^ (i + 1) * ((c + dg xs i + dg ys i) / 256 + val 256 (xs.drop (i + 1)) + val 256 (ys.drop (i + 1))) = N := by
  rw [val_snoc, hl, Nat.pow_succ]
  rw [val_drop_all 256 xs i, val_drop_all 256 ys i] at hv
  have := Nat.div_add_mod (c + dg xs i + dg ys i) 256
  generalize (256 : Nat) ^ i = p at *
  generalize val 256 (xs.drop (i + 1)) = X at *
  generalize val 256 (ys.drop (i + 1)) = Y at *
  generalize dg xs i = x at *
  generalize dg ys i = y at *
  generalize (c + x + y) % 256 = r at *
  generalize (c + x + y) / 256 = q at *
  have h2 : p * (c + x + y) = p * (256 * q + r) := by rw [this]
  grind

theorem rsub_step (ds xs ys : List Nat) (o o' n i : Nat) (hl : ds.length = i) (hn : n + dg ys i + o = dg xs i + 256 * o')
    (hv : val 256 ds + val 256 ys + 256 ^ i * val 256 (xs.drop i) = val 256 xs + 256 ^ i * (o + val 256 (ys.drop i))) :
    val 256 (ds ++ [n]) + val 256 ys + 256 ^ (i + 1) * val 256 (xs.drop (i + 1)) = val 256 xs + 256 ^ (i + 1) * (o' + val 256 (ys.drop (i + 1))) := by
  rw [val_snoc, hl, Nat.pow_succ]
  rw [val_drop_all 256 xs i, val_drop_all 256 ys i] at hv
  generalize (256 : Nat) ^ i = p at *
  generalize val 256 (xs.drop (i + 1)) = X at *
  generalize val 256 (ys.drop (i + 1)) = Y at *
  generalize dg xs i = x at *
  generalize dg ys i = y at *
  have h2 : p * (n + y + o) = p * (x + 256 * o') := by rw [hn]
  grind

theorem rsub_end (ds xs ys : List Nat) (o : Nat) (hd : Dig 256 ds) (hl : ds.length = xs.length) (hle : val 256 ys ≤ val 256 xs)
    (hv : val 256 ds + val 256 ys + 256 ^ xs.length * val 256 (xs.drop xs.length) = val 256 xs + 256 ^ xs.length * (o + val 256 (ys.drop xs.length))) :
    val 256 ds = val 256 xs - val 256 ys := by
  have h1 := val_lt hd
  rw [hl] at h1
  rw [List.drop_length] at hv
  simp only [val, Nat.mul_zero, Nat.add_zero] at hv
  generalize (256 : Nat) ^ xs.length = p at *
  generalize o + val 256 (ys.drop xs.length) = s at *
  cases s with
  | zero => simp at hv; omega
  | succ s =>
    have := Nat.le_mul_of_pos_right p (show 0 < s + 1 by omega)
    omega

theorem rmul_step (cs ys : List Nat) (x i k N : Nat) (hk : i + k < cs.length) (hv : val 256 cs + 256 ^ (i + k) * x * val 256 (ys.drop k) = N) :
    val 256 (cs.set (i + k) (dg cs (i + k) + x * dg ys k)) + 256 ^ (i + (k + 1)) * x * val 256 (ys.drop (k + 1)) = N := by
  have h1 := val_set 256 cs (i + k) (dg cs (i + k) + x * dg ys k) hk
  rw [val_drop_all 256 ys k] at hv
  rw [← Nat.add_assoc, Nat.pow_succ]
  generalize (256 : Nat) ^ (i + k) = p at *
  generalize val 256 (ys.drop (k + 1)) = Y at *
  generalize dg ys k = y at *
  generalize dg cs (i + k) = d at *
  grind

theorem rnorm_step (cs : List Nat) (k : Nat) (hk : k + 1 < cs.length) :
    val 256 ((cs.set (k + 1) (dg cs (k + 1) + dg cs k / 256)).set k (dg cs k % 256)) = val 256 cs := by
  have h1 := val_set 256 cs (k + 1) (dg cs (k + 1) + dg cs k / 256) hk
  have h2 := val_set 256 (cs.set (k + 1) (dg cs (k + 1) + dg cs k / 256)) k (dg cs k % 256) (by simp; omega)
  rw [dg_set _ _ _ _ hk, if_neg (by omega)] at h2
  rw [Nat.pow_succ] at h1
  have h3 := Nat.div_add_mod (dg cs k) 256
  generalize (256 : Nat) ^ k = p at *
  generalize dg cs k % 256 = r at *
  generalize dg cs k / 256 = q at *
  have h4 : p * (256 * q + r) = p * dg cs k := by rw [h3]
  grind

theorem dig_of_top {cs : List Nat} {m : Nat} (hl : cs.length = m + 1) (h : ∀ j, j < m → dg cs j < 256) (hv : val 256 cs < 256 ^ m) : Dig 256 cs := by
  have h1 := val_split 256 cs m
  have h2 : dg cs m = 0 := by
    rcases Nat.eq_zero_or_pos (dg cs m) with h | h
    · exact h
    · have := Nat.le_mul_of_pos_right (256 ^ m) (show 0 < dg cs m + 256 * val 256 (cs.drop (m + 1)) by omega)
      omega
  intro x hx
  obtain ⟨j, hj, rfl⟩ := List.mem_iff_getElem.1 hx
  rw [← dg_lt hj]
  rcases Nat.lt_or_ge j m with h3 | h3
  · exact h j h3
  · have : j = m := by omega
    rw [this, h2]; decide

theorem val_cut_pow {ds : List Nat} (m n : Nat) (hm : ds.length = m + 1) (hz : ∀ j, j < m → dg ds j = 0) (hd : dg ds m = n) : val 256 ds = 256 ^ m * n := by
  have h1 := val_split 256 ds m
  rw [List.drop_of_length_le (by omega), hd] at h1
  have h2 : val 256 (ds.take m) = 0 := by
    rw [val_ext 256 (ds.take m) [] fun j => by
      rcases Nat.lt_or_ge j m with h | h
      · rw [dg_take _ h, hz j h]; rfl
      · rw [dg_over (by simp; omega)]; rfl]
    rfl
  rw [h1, h2]
  simp [val]

end Go.Proofs.Ytphhaaofkckobaa
