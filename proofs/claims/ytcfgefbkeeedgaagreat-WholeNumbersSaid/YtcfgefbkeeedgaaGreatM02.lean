/-
  What the statement stands on.
-/
namespace Go.Proofs.YtcfgefbkeeedgaaGreat
def dg (ds : List Nat) (i : Nat) : Nat := ds[i]?.getD 0
theorem dg_lt {ds : List Nat} {i : Nat} (h : i < ds.length) : dg ds i = ds[i] := by simp [dg, h]
theorem dg_ge {ds : List Nat} {i : Nat} (h : ds.length ≤ i) : dg ds i = 0 := by simp [dg, h]
theorem dg_take (ds : List Nat) {i j : Nat} (h : j < i) : dg (ds.take i) j = dg ds j := by simp [dg, h]
def cut : List Nat → List Nat
  | [] => []
  | d :: ds => match cut ds with
    | [] => if d = 0 then [] else [d]
    | t => d :: t
theorem cut_nil_of_zero : ∀ (ds : List Nat), (∀ x ∈ ds, x = 0) → cut ds = []
  | [], _ => rfl
  | d :: ds, h => by
    have h1 := cut_nil_of_zero ds fun x hx => h x (List.mem_cons_of_mem _ hx)
    have h2 := h d (List.mem_cons_self ..)
    simp [cut, h1, h2]
theorem cut_snoc_ne : ∀ (l : List Nat) (d : Nat) (r : List Nat), d ≠ 0 → (∀ x ∈ r, x = 0) → cut (l ++ d :: r) = l ++ [d]
  | [], d, r, hd, hr => by simp [cut, cut_nil_of_zero r hr, hd]
  | x :: l, d, r, hd, hr => by
    have h := cut_snoc_ne l d r hd hr
    have hne : l ++ [d] ≠ [] := by simp
    simp only [List.cons_append, cut, h]
theorem cut_at (ds : List Nat) (i : Nat) (hi : i < ds.length) (hd : dg ds i ≠ 0) (hz : ∀ j, i < j → j < ds.length → dg ds j = 0) : cut ds = ds.take (i + 1) := by
  have e : ds = ds.take i ++ ds[i] :: ds.drop (i + 1) := by simp
  have hd' : ds[i] ≠ 0 := by rwa [dg_lt hi] at hd
  have hz' : ∀ x ∈ ds.drop (i + 1), x = 0 := by
    intro x hx
    obtain ⟨k, hk, rfl⟩ := List.mem_iff_getElem.1 hx
    have hk' : i + 1 + k < ds.length := by simp at hk; omega
    have := hz (i + 1 + k) (by omega) hk'
    rw [dg_lt hk'] at this
    simpa using this
  have h := cut_snoc_ne (ds.take i) ds[i] (ds.drop (i + 1)) hd' hz'
  rw [← e] at h
  rw [h, List.take_succ_eq_append_getElem hi]
theorem cut_zero (ds : List Nat) (hz : ∀ j, j < ds.length → dg ds j = 0) : cut ds = [] := by
  refine cut_nil_of_zero ds fun x hx => ?_
  obtain ⟨k, hk, rfl⟩ := List.mem_iff_getElem.1 hx
  have := hz k hk
  rwa [dg_lt hk] at this
theorem cut_cons_ne (d : Nat) (ds : List Nat) (h : cut ds ≠ []) : cut (d :: ds) = d :: cut ds := by
  cases hc : cut ds with
  | nil => exact absurd hc h
  | cons x t => simp [cut, hc]
theorem cut_cons_nil (d : Nat) (ds : List Nat) (h : cut ds = []) : cut (d :: ds) = if d = 0 then [] else [d] := by simp [cut, h]
theorem cut_cut : ∀ (ds : List Nat), cut (cut ds) = cut ds
  | [] => rfl
  | d :: ds => by
    have ih := cut_cut ds
    by_cases h : cut ds = []
    · rw [cut_cons_nil d ds h]
      by_cases hd : d = 0 <;> simp [hd, cut]
    · rw [cut_cons_ne d ds h, cut_cons_ne d (cut ds) (by rw [ih]; exact h), ih]
theorem cut_le : ∀ (ds : List Nat), (cut ds).length ≤ ds.length
  | [] => Nat.le_refl _
  | d :: ds => by
    have ih := cut_le ds
    by_cases h : cut ds = []
    · rw [cut_cons_nil d ds h]
      by_cases hd : d = 0 <;> simp [hd]
    · rw [cut_cons_ne d ds h]; simpa using ih
theorem cut_mem : ∀ (ds : List Nat) (x : Nat), x ∈ cut ds → x ∈ ds
  | [], x, h => h
  | d :: ds, x, hx => by
    have ih := cut_mem ds x
    by_cases h : cut ds = []
    · rw [cut_cons_nil d ds h] at hx
      by_cases hd : d = 0
      · simp [hd] at hx
      · simp [hd] at hx; simp [hx]
    · rw [cut_cons_ne d ds h] at hx
      rcases List.mem_cons.1 hx with rfl | hx
      · exact List.mem_cons_self ..
      · exact List.mem_cons_of_mem _ (ih hx)
def val (b : Nat) : List Nat → Nat
  | [] => 0
  | d :: ds => d + b * val b ds
theorem val_cut (b : Nat) : ∀ (ds : List Nat), val b (cut ds) = val b ds
  | [] => rfl
  | d :: ds => by
    have ih := val_cut b ds
    by_cases h : cut ds = []
    · rw [cut_cons_nil d ds h]
      rw [h] at ih
      simp only [val] at ih ⊢
      rw [← ih]
      by_cases hd : d = 0 <;> simp [hd, val]
    · rw [cut_cons_ne d ds h]; simp only [val]; rw [ih]
theorem val_append (b : Nat) : ∀ (xs ys : List Nat), val b (xs ++ ys) = val b xs + b ^ xs.length * val b ys
  | [], ys => by simp [val]
  | x :: xs, ys => by
    have ih := val_append b xs ys
    simp only [List.cons_append, val, ih, List.length_cons, Nat.pow_succ, Nat.mul_add, Nat.add_assoc]
    congr 2
    rw [Nat.mul_comm (b ^ xs.length) b, Nat.mul_assoc]
theorem val_zeros (b n : Nat) : val b (List.replicate n 0) = 0 := by
  induction n with
  | zero => rfl
  | succ n ih => simp [List.replicate_succ, val, ih]
def Dig (b : Nat) (ds : List Nat) : Prop := ∀ x ∈ ds, x < b
theorem Dig.dg {b : Nat} {ds : List Nat} (h : Dig b ds) (hb : 0 < b) (i : Nat) : dg ds i < b := by
  by_cases hi : i < ds.length
  · rw [dg_lt hi]; exact h _ (List.getElem_mem hi)
  · rw [dg_ge (by omega)]; exact hb
theorem Dig.cut {b : Nat} {ds : List Nat} (h : Dig b ds) : Dig b (cut ds) := fun x hx => h x (cut_mem ds x hx)
theorem Dig.cons {b d : Nat} {ds : List Nat} (hd : d < b) (h : Dig b ds) : Dig b (d :: ds) := fun x hx => (List.mem_cons.1 hx).elim (fun e => e ▸ hd) (h x)
theorem Dig.tail {b d : Nat} {ds : List Nat} (h : Dig b (d :: ds)) : Dig b ds := fun x hx => h x (List.mem_cons_of_mem _ hx)
theorem Dig.head {b d : Nat} {ds : List Nat} (h : Dig b (d :: ds)) : d < b := h d (List.mem_cons_self ..)
theorem Dig.set {b : Nat} {ds : List Nat} (h : Dig b ds) (i : Nat) {x : Nat} (hx : x < b) : Dig b (ds.set i x) := fun y hy => by
  rcases List.mem_or_eq_of_mem_set hy with h1 | h1
  · exact h y h1
  · rw [h1]; exact hx
theorem Dig.append {b : Nat} {xs ys : List Nat} (h : Dig b xs) (k : Dig b ys) : Dig b (xs ++ ys) := fun x hx => (List.mem_append.1 hx).elim (h x) (k x)
theorem Dig.take {b : Nat} {xs : List Nat} (h : Dig b xs) (n : Nat) : Dig b (xs.take n) := fun x hx => h x (List.mem_of_mem_take hx)
theorem Dig.drop {b : Nat} {xs : List Nat} (h : Dig b xs) (n : Nat) : Dig b (xs.drop n) := fun x hx => h x (List.mem_of_mem_drop hx)
theorem val_lt {b : Nat} : ∀ {ds : List Nat}, Dig b ds → val b ds < b ^ ds.length
  | [], _ => by simp [val]
  | d :: ds, h => by
    have ih := val_lt h.tail
    have hd := h.head
    simp only [val, List.length_cons, Nat.pow_succ]
    have h1 : b * (val b ds + 1) ≤ b * b ^ ds.length := Nat.mul_le_mul_left b ih
    rw [Nat.mul_add, Nat.mul_one] at h1
    rw [Nat.mul_comm (b ^ ds.length) b]
    omega
def Can (b : Nat) (ds : List Nat) : Prop := Dig b ds ∧ cut ds = ds
theorem Can.nil (b : Nat) : Can b [] := ⟨fun _ h => (nomatch h), rfl⟩
theorem can_cut {b : Nat} {ds : List Nat} (h : Dig b ds) : Can b (cut ds) := ⟨h.cut, cut_cut ds⟩
theorem Can.tail {b d : Nat} {ds : List Nat} (h : Can b (d :: ds)) : Can b ds := by
  refine ⟨h.1.tail, ?_⟩
  have h2 := h.2
  by_cases hc : cut ds = []
  · rw [cut_cons_nil d ds hc] at h2
    by_cases hd : d = 0
    · simp [hd] at h2
    · simp [hd] at h2; rw [hc, ← h2]
  · rw [cut_cons_ne d ds hc] at h2
    simpa using h2
theorem Can.pos {b : Nat} : ∀ {ds : List Nat}, Can b ds → ds ≠ [] → b ^ (ds.length - 1) ≤ val b ds
  | [], _, h => absurd rfl h
  | [d], h, _ => by
    have h2 := h.2
    by_cases hd : d = 0
    · simp [cut, hd] at h2
    · simp [val]; omega
  | d :: e :: ds, h, _ => by
    have ih := Can.pos h.tail (by simp)
    simp only [List.length_cons, Nat.add_sub_cancel] at ih ⊢
    simp only [val, Nat.pow_succ] at ih ⊢
    have := Nat.mul_le_mul_left b ih
    rw [Nat.mul_comm (b ^ ds.length) b]
    omega
theorem Can.eq_nil {b : Nat} (hb : 0 < b) {ds : List Nat} (h : Can b ds) (h0 : val b ds = 0) : ds = [] := by
  by_cases hn : ds = []
  · exact hn
  · have := h.pos hn
    have := Nat.pow_pos (n := ds.length - 1) hb
    omega
theorem Can.uniq {b : Nat} (hb : 0 < b) : ∀ {ds es : List Nat}, Can b ds → Can b es → val b ds = val b es → ds = es
  | [], es, _, he, h => (he.eq_nil hb (by simpa [val] using h.symm)).symm
  | d :: ds, [], hd, _, h => hd.eq_nil hb (by simpa [val] using h)
  | d :: ds, e :: es, hd, he, h => by
    simp only [val] at h
    have h1 := hd.1.head
    have h2 := he.1.head
    have hm : (d + b * val b ds) % b = (e + b * val b es) % b := by rw [h]
    rw [Nat.add_mul_mod_self_left, Nat.add_mul_mod_self_left, Nat.mod_eq_of_lt h1, Nat.mod_eq_of_lt h2] at hm
    have hv : val b ds = val b es := by
      have : b * val b ds = b * val b es := by omega
      exact Nat.eq_of_mul_eq_mul_left hb this
    rw [hm, Can.uniq hb hd.tail he.tail hv]
theorem Can.len_le {b : Nat} (hb : 1 < b) {ds : List Nat} (h : Can b ds) (k : Nat) : ds.length ≤ k ↔ val b ds < b ^ k := by
  constructor
  · intro hl
    exact Nat.lt_of_lt_of_le (val_lt h.1) (Nat.pow_le_pow_right (by omega) hl)
  · intro hv
    by_cases hn : ds = []
    · simp [hn]
    · have hp := h.pos hn
      have : ds.length - 1 < k := (Nat.pow_lt_pow_iff_right hb).1 (Nat.lt_of_le_of_lt hp hv)
      omega
theorem val_set (b : Nat) : ∀ (ds : List Nat) (i x : Nat), i < ds.length → val b (ds.set i x) + b ^ i * dg ds i = val b ds + b ^ i * x
  | [], i, x, h => by simp at h
  | d :: ds, 0, x, _ => by simp [val, dg]; omega
  | d :: ds, i + 1, x, h => by
    have ih := val_set b ds i x (by simpa using h)
    have e : dg (d :: ds) (i + 1) = dg ds i := by simp [dg]
    rw [e]
    simp only [List.set_cons_succ, val, Nat.pow_succ]
    have := congrArg (b * ·) ih
    simp only [Nat.mul_add] at this
    rw [Nat.mul_comm (b ^ i) b, Nat.mul_assoc, Nat.mul_assoc]
    omega
theorem dg_set (ds : List Nat) (i j x : Nat) (hi : i < ds.length) : dg (ds.set i x) j = if j = i then x else dg ds j := by
  by_cases h : j = i
  · subst h; simp [dg, hi]
  · rw [if_neg h]; simp [dg, Ne.symm h]
theorem dg_drop (ds : List Nat) (i j : Nat) : dg (ds.drop i) j = dg ds (i + j) := by simp [dg]
theorem dg_append_left {xs : List Nat} (ys : List Nat) {i : Nat} (h : i < xs.length) : dg (xs ++ ys) i = dg xs i := by simp [dg, List.getElem?_append_left h]
theorem dg_append_right {xs : List Nat} (ys : List Nat) {i : Nat} (h : xs.length ≤ i) : dg (xs ++ ys) i = dg ys (i - xs.length) := by simp [dg, List.getElem?_append_right h]
theorem drop_cons {ds : List Nat} {i : Nat} (h : i < ds.length) : ds.drop i = dg ds i :: ds.drop (i + 1) := by rw [dg_lt h]; exact List.drop_eq_getElem_cons h
theorem val_drop (b : Nat) {ds : List Nat} {i : Nat} (h : i < ds.length) : val b (ds.drop i) = dg ds i + b * val b (ds.drop (i + 1)) := by rw [drop_cons h]; rfl
theorem list_ext_dg {xs ys : List Nat} (hl : xs.length = ys.length) (h : ∀ i, i < xs.length → dg xs i = dg ys i) : xs = ys := by
  refine List.ext_getElem hl fun i h1 h2 => ?_
  have := h i h1
  rwa [dg_lt h1, dg_lt h2] at this
theorem drop_eq_of_dg {xs ys : List Nat} {i : Nat} (hl : xs.length = ys.length) (h : ∀ j, i ≤ j → j < xs.length → dg xs j = dg ys j) : xs.drop i = ys.drop i :=
  list_ext_dg (by simp [hl]) fun j hj => by
    rw [dg_drop, dg_drop]
    simp at hj
    exact h _ (by omega) (by omega)
theorem val_lt_of_digit {b : Nat} {xs ys : List Nat} {i : Nat} (hx : Dig b xs) (hl : xs.length = ys.length) (hi : i < xs.length) (h : ∀ j, i < j → j < xs.length → dg xs j = dg ys j) (hd : dg xs i < dg ys i) :
    val b xs < val b ys := by
  have ex : xs = xs.take i ++ xs.drop i := (List.take_append_drop i xs).symm
  have ey : ys = ys.take i ++ ys.drop i := (List.take_append_drop i ys).symm
  have e := drop_eq_of_dg (i := i + 1) hl fun j h1 h2 => h j (by omega) h2
  have lx : (xs.take i).length = i := by simp; omega
  have ly : (ys.take i).length = i := by simp; omega
  have vx : val b xs = val b (xs.take i) + b ^ i * (dg xs i + b * val b (xs.drop (i + 1))) := by
    rw [← val_drop b hi]; conv => lhs; rw [ex]
    rw [val_append, lx]
  have vy : val b ys = val b (ys.take i) + b ^ i * (dg ys i + b * val b (ys.drop (i + 1))) := by
    rw [← val_drop b (by omega : i < ys.length)]; conv => lhs; rw [ey]
    rw [val_append, ly]
  have h1 := val_lt (hx.take i)
  rw [lx] at h1
  rw [vx, vy, e]
  have h2 := Nat.mul_le_mul_left (b ^ i) (show dg xs i + b * val b (ys.drop (i + 1)) + 1 ≤ dg ys i + b * val b (ys.drop (i + 1)) by omega)
  rw [Nat.mul_add, Nat.mul_one] at h2
  omega
theorem Can.lt_of_len {b : Nat} (hb : 1 < b) {xs ys : List Nat} (hx : Can b xs) (hy : Can b ys) (h : xs.length < ys.length) : val b xs < val b ys := by
  have h1 := val_lt hx.1
  have h2 := hy.pos (by rintro rfl; simp at h)
  have h3 := Nat.pow_le_pow_right (n := b) (by omega) (show xs.length ≤ ys.length - 1 by omega)
  omega
theorem shr_digit (n d e S : Nat) (hn : n < 32) (hd : d < 4294967296) (hS : ∃ T, S = e + 4294967296 * T) :
    (d + 4294967296 * S) / 2 ^ n = (e * 4294967296 + d) / 2 ^ n % 4294967296 + 4294967296 * (S / 2 ^ n) := by
  obtain ⟨T, rfl⟩ := hS
  have hB : (4294967296 : Nat) = 2 ^ n * 2 ^ (32 - n) := by rw [← Nat.pow_add, show n + (32 - n) = 32 by omega]
  have hp := Nat.two_pow_pos n
  generalize (2 : Nat) ^ n = p at *
  generalize (2 : Nat) ^ (32 - n) = q at *
  -- e = r + p u
  have he := Nat.div_add_mod e p
  have hr := Nat.mod_lt e hp
  generalize e / p = u at *
  generalize e % p = r at *
  have h1 : (e + 4294967296 * T) / p = u + q * T := by
    rw [hB, ← he, show p * u + r + p * q * T = r + p * (u + q * T) by grind, Nat.add_mul_div_left _ _ hp, Nat.div_eq_of_lt hr, Nat.zero_add]
  have h2 : (d + 4294967296 * (e + 4294967296 * T)) / p = (d + 4294967296 * r) / p + 4294967296 * (u + q * T) := by
    rw [show d + 4294967296 * (e + 4294967296 * T) = d + 4294967296 * r + p * (4294967296 * (u + q * T)) by rw [← he]; grind, Nat.add_mul_div_left _ _ hp]
  have h3 : (e * 4294967296 + d) / p = (d + 4294967296 * r) / p + 4294967296 * u := by
    rw [show e * 4294967296 + d = d + 4294967296 * r + p * (4294967296 * u) by rw [← he]; grind, Nat.add_mul_div_left _ _ hp]
  have h4 : (d + 4294967296 * r) / p < 4294967296 := by
    refine Nat.div_lt_of_lt_mul ?_
    have := Nat.mul_le_mul_left 4294967296 (show r + 1 ≤ p by omega)
    rw [Nat.mul_comm p]
    omega
  rw [h2, h3, h1, Nat.add_mul_mod_self_left, Nat.mod_eq_of_lt h4]
theorem val_shr (ds : List Nat) (i n : Nat) (hn : n < 32) (hi : i < ds.length) (hd : Dig 4294967296 ds) :
    val 4294967296 (ds.drop i) / 2 ^ n = (dg ds (i + 1) * 4294967296 + dg ds i) / 2 ^ n % 4294967296 + 4294967296 * (val 4294967296 (ds.drop (i + 1)) / 2 ^ n) := by
  rw [val_drop _ hi]
  refine shr_digit n _ _ _ hn (hd.dg (by decide) i) ?_
  by_cases h : i + 1 < ds.length
  · exact ⟨_, val_drop _ h⟩
  · rw [List.drop_of_length_le (by omega), dg_ge (by omega)]; exact ⟨0, rfl⟩
theorem dg_mid {lo seg hi : List Nat} {k : Nat} (h : k < seg.length) : dg (lo ++ (seg ++ hi)) (lo.length + k) = dg seg k := by
  rw [dg_append_right _ (by omega), show lo.length + k - lo.length = k by omega, dg_append_left _ h]
theorem set_mid {lo seg hi : List Nat} {k : Nat} (x : Nat) (h : k < seg.length) : (lo ++ (seg ++ hi)).set (lo.length + k) x = lo ++ (seg.set k x ++ hi) := by
  rw [List.set_append_right _ _ (by omega), show lo.length + k - lo.length = k by omega, List.set_append_left _ _ h]
theorem dg_over {ds : List Nat} {i : Nat} (h : ds.length ≤ i) : dg ds i = 0 := by
  unfold dg
  rw [List.getElem?_eq_none h]
  rfl
theorem val_split (b : Nat) (ds : List Nat) (i : Nat) : val b ds = val b (ds.take i) + b ^ i * (dg ds i + b * val b (ds.drop (i + 1))) := by
  rcases Nat.lt_or_ge i ds.length with h | h
  · rw [← val_drop b h]
    conv => lhs; rw [(List.take_append_drop i ds).symm]
    rw [val_append, show (ds.take i).length = i by simp; omega]
  · rw [List.take_of_length_le h, List.drop_of_length_le (by omega), dg_over h]
    simp [val]
theorem cut_full : ∀ (ds : List Nat), ds.length ≤ (cut ds).length → cut ds = ds
  | [], _ => rfl
  | d :: ds, h => by
    by_cases hn : cut ds = []
    · rw [cut_cons_nil d ds hn] at h ⊢
      split at h
      · simp at h
      · rename_i hd
        rw [if_neg hd]
        have : ds = [] := List.length_eq_zero_iff.1 (by simpa using h)
        rw [this]
    · rw [cut_cons_ne d ds hn] at h ⊢
      rw [cut_full ds (by simpa using h)]
def dvA (a : Nat) (l : List Nat) : Nat := l.foldl (fun a c => a * 10 + (c - 48)) a
def dv (l : List Nat) : Nat := dvA 0 l
def DD (l : List Nat) : Prop := ∀ x ∈ l, 48 ≤ x ∧ x ≤ 57
def bs (s : ByteArray) : List Nat := s.data.toList.map UInt8.toNat
theorem bs_len (s : ByteArray) : (bs s).length = s.size := by simp [bs]
theorem bs_get (s : ByteArray) (i : Nat) (h : i < s.size) : dg (bs s) i = (s[i]'h).toNat := by
  unfold dg bs
  rw [List.getElem?_map, List.getElem?_eq_getElem (by simpa using h)]
  rfl
theorem bs_of (l : List Nat) (h : ∀ x ∈ l, x < 256) : bs ⟨(l.map UInt8.ofNat).toArray⟩ = l := by
  unfold bs
  simp only [List.map_map]
  conv => rhs; rw [← List.map_id l]
  refine List.map_congr_left fun x hx => ?_
  have := h x hx
  simp
  omega
theorem bs_inj {s t : ByteArray} (h : bs s = bs t) : s = t := by
  have h1 : s.data.toList = t.data.toList := by
    unfold bs at h
    exact List.map_inj_right (f := UInt8.toNat) (fun a b e => UInt8.toNat_inj.1 e) |>.1 h
  cases s; cases t
  simp at h1 ⊢
  exact h1
theorem dvA_append (a : Nat) (l1 l2 : List Nat) : dvA a (l1 ++ l2) = dvA (dvA a l1) l2 := by simp [dvA]
theorem dvA_eq : ∀ (l : List Nat) (a : Nat), dvA a l = a * 10 ^ l.length + dv l
  | [], a => by simp [dvA, dv]
  | c :: l, a => by
    have h1 := dvA_eq l (a * 10 + (c - 48))
    have h2 := dvA_eq l (0 * 10 + (c - 48))
    unfold dv
    simp only [dvA, List.foldl_cons] at h1 h2 ⊢
    rw [h1, h2, List.length_cons, Nat.pow_succ]
    generalize (10 : Nat) ^ l.length = p
    generalize dv l = v
    generalize c - 48 = d
    grind
theorem dv_append (l1 l2 : List Nat) : dv (l1 ++ l2) = dv l1 * 10 ^ l2.length + dv l2 := by
  unfold dv
  rw [dvA_append, dvA_eq l2]
  rfl
theorem dv_cons (c : Nat) (l : List Nat) : dv (c :: l) = (c - 48) * 10 ^ l.length + dv l := by
  have := dv_append [c] l
  simpa [dv, dvA] using this
theorem dv_snoc (l : List Nat) (c : Nat) : dv (l ++ [c]) = dv l * 10 + (c - 48) := by
  rw [dv_append]; simp [dv, dvA]
theorem dv_nil : dv [] = 0 := rfl
theorem DD.append {l1 l2 : List Nat} (h : DD l1) (k : DD l2) : DD (l1 ++ l2) := fun x hx => (List.mem_append.1 hx).elim (h x) (k x)
theorem DD.right {l1 l2 : List Nat} (h : DD (l1 ++ l2)) : DD l2 := fun x hx => h x (List.mem_append_right _ hx)
theorem DD.take {l : List Nat} (h : DD l) (n : Nat) : DD (l.take n) := fun x hx => h x (List.mem_of_mem_take hx)
theorem DD.drop {l : List Nat} (h : DD l) (n : Nat) : DD (l.drop n) := fun x hx => h x (List.mem_of_mem_drop hx)
theorem DD.dg {l : List Nat} (h : DD l) {i : Nat} (hi : i < l.length) : 48 ≤ dg l i ∧ dg l i ≤ 57 := by
  rw [dg_lt hi]; exact h _ (List.getElem_mem hi)
theorem DD.lt256 {l : List Nat} (h : DD l) : ∀ x ∈ l, x < 256 := fun x hx => by have := h x hx; omega
theorem dv_lt : ∀ {l : List Nat}, DD l → dv l < 10 ^ l.length
  | [], _ => by simp [dv, dvA]
  | c :: l, h => by
    have h1 := dv_lt (l := l) (fun x hx => h x (List.mem_cons_of_mem _ hx))
    have h2 := h c (List.mem_cons_self ..)
    rw [dv_cons, List.length_cons, Nat.pow_succ]
    have := Nat.mul_le_mul_right (10 ^ l.length) (show c - 48 ≤ 9 by omega)
    omega
theorem dv_inj : ∀ {l m : List Nat}, DD l → DD m → l.length = m.length → dv l = dv m → l = m
  | [], [], _, _, _, _ => rfl
  | [], _ :: _, _, _, h, _ => by simp at h
  | _ :: _, [], _, _, h, _ => by simp at h
  | c :: l, d :: m, hl, hm, h, hv => by
    have hlen : l.length = m.length := by simpa using h
    have a1 := dv_lt (l := l) (fun x hx => hl x (List.mem_cons_of_mem _ hx))
    have a2 := dv_lt (l := m) (fun x hx => hm x (List.mem_cons_of_mem _ hx))
    have c1 := hl c (List.mem_cons_self ..)
    have c2 := hm d (List.mem_cons_self ..)
    rw [dv_cons, dv_cons, ← hlen] at hv
    rw [← hlen] at a2
    have e : c - 48 = d - 48 := by
      have e1 : ((c - 48) * 10 ^ l.length + dv l) / 10 ^ l.length = c - 48 := by
        rw [Nat.mul_comm, Nat.mul_add_div (by omega), Nat.div_eq_of_lt a1, Nat.add_zero]
      have e2 : ((d - 48) * 10 ^ l.length + dv m) / 10 ^ l.length = d - 48 := by
        rw [Nat.mul_comm, Nat.mul_add_div (by omega), Nat.div_eq_of_lt a2, Nat.add_zero]
      rw [← e1, ← e2, hv]
    rw [e] at hv
    have hv' : dv l = dv m := by omega
    have := dv_inj (fun x hx => hl x (List.mem_cons_of_mem _ hx)) (fun x hx => hm x (List.mem_cons_of_mem _ hx)) hlen hv'
    rw [this, show c = d by omega]
def IsText (l : List Nat) (n : Nat) : Prop := DD l ∧ dv l = n ∧ l ≠ [] ∧ (1 < l.length → dg l 0 ≠ 48)
theorem IsText.low {l : List Nat} {n : Nat} (h : IsText l n) (hl : 1 < l.length) : 10 ^ (l.length - 1) ≤ n := by
  obtain ⟨h1, rfl, h3, h4⟩ := h
  cases l with
  | nil => simp at hl
  | cons c l =>
    have h5 := h4 hl
    simp [dg] at h5
    have h6 := h1 c (List.mem_cons_self ..)
    rw [dv_cons, List.length_cons, Nat.add_sub_cancel]
    have := Nat.mul_le_mul_right (10 ^ l.length) (show 1 ≤ c - 48 by omega)
    omega
theorem IsText.high {l : List Nat} {n : Nat} (h : IsText l n) : n < 10 ^ l.length := by
  obtain ⟨h1, rfl, _⟩ := h
  exact dv_lt h1
theorem IsText.pos {l : List Nat} {n : Nat} (h : IsText l n) : 0 < l.length := by
  rcases Nat.eq_zero_or_pos l.length with h1 | h1
  · exact absurd (List.eq_nil_of_length_eq_zero h1) h.2.2.1
  · exact h1
theorem IsText.len_le {l m : List Nat} {n k : Nat} (h : IsText l n) (g : IsText m k) (hn : n ≤ k) : l.length ≤ m.length := by
  rcases Nat.lt_or_ge m.length l.length with h1 | h1
  · exfalso
    have h2 := h.low (by have := g.pos; omega)
    have h3 := g.high
    have := Nat.pow_le_pow_right (n := 10) (by decide) (show m.length ≤ l.length - 1 by omega)
    omega
  · exact h1
theorem IsText.uniq {l m : List Nat} {n : Nat} (h : IsText l n) (g : IsText m n) : l = m :=
  dv_inj h.1 g.1 (Nat.le_antisymm (h.len_le g (Nat.le_refl _)) (g.len_le h (Nat.le_refl _))) (h.2.1.trans g.2.1.symm)
theorem dv_zeros : ∀ (k : Nat), dv (List.replicate k 48) = 0
  | 0 => rfl
  | k + 1 => by rw [List.replicate_succ, dv_cons, dv_zeros k]; simp
instance (l : List Nat) : Decidable (DD l) := inferInstanceAs (Decidable (∀ x ∈ l, 48 ≤ x ∧ x ≤ 57))
def onlyB (l : List Nat) : Bool := decide (DD l ∧ l ≠ [])
theorem onlyB_pos {l : List Nat} (h : DD l) (h0 : l ≠ []) : onlyB l = true := decide_eq_true ⟨h, h0⟩
theorem onlyB_neg {l : List Nat} (h : ¬ (DD l ∧ l ≠ [])) : onlyB l = false := decide_eq_false h
theorem onlyB_out {l : List Nat} (h : onlyB l = true) : DD l ∧ l ≠ [] := of_decide_eq_true h
end Go.Proofs.YtcfgefbkeeedgaaGreat
