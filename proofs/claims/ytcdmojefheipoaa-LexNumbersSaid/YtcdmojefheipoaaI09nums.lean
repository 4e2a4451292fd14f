/-
  girdlelaw09.LexNumbers: what Scan answers of its texts.
-/
import Derived.Test.YtcdmojefheipoaaI09digits
namespace Go.Proofs.Ytcdmojefheipoaa
open Go.RowKit

theorem bs_app (a b : ByteArray) : bs (a ++ b) = bs a ++ bs b := by
  unfold bs
  rw [ByteArray.data_append]
  simp
theorem DigS.digL {o : ByteArray} (h : Dig20 o) : DigL (bs o) := by
  obtain ⟨i, h1, h2, _⟩ := h
  exact ⟨by rw [h1.1]; omega, h1.2⟩
theorem Dig20.size {o : ByteArray} (h : Dig20 o) : o.size ≤ 20 := by
  obtain ⟨i, h1, _, h3⟩ := h
  rw [← bs_len, h1.1]; exact h3
/-- A text between two blanks. -/
def between (s : ByteArray) : ByteArray := ⟨#[32]⟩ ++ s ++ ⟨#[32]⟩
theorem between_bs (s : ByteArray) : bs (between s) = 32 :: (bs s ++ [32]) := by
  unfold between
  rw [bs_app, bs_app]; rfl
theorem scan_text (s : ByteArray) (c : Nat) (l : List Nat) (k : Nat) (hs : bs s = c :: l) (hz : s.size ≤ 60000) (hc : inB blanksT c = false) (h35 : c ≠ 35) (hk : beginL (bs s ++ [32]) = (k, (bs s).length)) :
    scanL (between s) = .ok [⟨k, 1, s⟩, ⟨4, s.size + 2, ⟨#[]⟩⟩] := by
  have hb : bs (between s) = 32 :: c :: (l ++ [32]) := by rw [between_bs, hs]; rfl
  have hl : s.size = l.length + 1 := by rw [← bs_len, hs]; rfl
  have hz2 : (between s).size = s.size + 2 := by rw [← bs_len, hb, hl]; simp
  rw [hs] at hk
  rw [scan_token (between s) c l k hb (by omega) hc h35 hk, hz2]
  have hx : (between s).extract 1 (l.length + 2) = s := by
    apply bs_inj
    rw [bs_cut, between_bs, hs]
    simp
  rw [hx]
theorem dig_head {o : ByteArray} (h : Dig20 o) : ∃ c l, bs o = c :: l ∧ inB blanksT c = false ∧ c ≠ 35 := by
  have hd := DigS.digL h
  match hb : bs o, hd with
  | c :: l, hd =>
    obtain ⟨k, rfl⟩ := hd.2 c (by simp)
    exact ⟨_, l, rfl, dig_blank k, by omega⟩
theorem scan_f0 {o : ByteArray} (h : Dig20 o) : scanL (between o) = .ok [⟨1, 1, o⟩, ⟨4, o.size + 2, ⟨#[]⟩⟩] := by
  obtain ⟨c, l, hb, h1, h2⟩ := dig_head h
  have hs := h.size
  refine scan_text o c l 1 hb (by omega) h1 h2 ?_
  rw [begin_dig (DigS.digL h)]
  have := num_one (DigS.digL h) [] 32 [] (by decide +kernel) (by decide) (by decide)
  simp at this
  rw [this]
theorem scan_f1 {o : ByteArray} (h : Dig20 o) : scanL (between (⟨#[45]⟩ ++ o)) = .ok [⟨1, 1, ⟨#[45]⟩ ++ o⟩, ⟨4, (⟨#[45]⟩ ++ o : ByteArray).size + 2, ⟨#[]⟩⟩] := by
  have hb : bs (⟨#[45]⟩ ++ o) = 45 :: bs o := by rw [bs_app]; rfl
  have hs := h.size
  have hz : (⟨#[45]⟩ ++ o : ByteArray).size = o.size + 1 := by rw [← bs_len, hb, List.length_cons, bs_len]
  refine scan_text _ 45 (bs o) 1 hb (by omega) (by decide +kernel) (by decide) ?_
  rw [hb, List.cons_append, begin_minus]
  have := num_one (DigS.digL h) [45] 32 [] (by decide +kernel) (by decide) (by decide)
  simp at this
  rw [this, List.length_cons, Nat.add_comm, bs_len]
theorem scan_f23 {o r : ByteArray} (h : Dig20 o) (hr : Dig20 r) (q : UInt8) (hq : q.toNat = 46 ∨ q.toNat = 47) : scanL (between (o ++ (⟨#[q]⟩ ++ r))) = .ok [⟨1, 1, o ++ (⟨#[q]⟩ ++ r)⟩, ⟨4, (o ++ (⟨#[q]⟩ ++ r)).size + 2, ⟨#[]⟩⟩] := by
  obtain ⟨c, l, hc, h1, h2⟩ := dig_head h
  have hb : bs (o ++ (⟨#[q]⟩ ++ r)) = bs o ++ q.toNat :: bs r := by rw [bs_app, bs_app]; rfl
  have hs := h.size
  have hs2 := hr.size
  have hz : (o ++ (⟨#[q]⟩ ++ r)).size = o.size + 1 + r.size := by rw [← bs_len, hb, List.length_append, List.length_cons, bs_len, bs_len]; omega
  refine scan_text _ c (l ++ q.toNat :: bs r) 1 (by rw [hb, hc]; rfl) (by omega) h1 h2 ?_
  rw [hb, List.append_assoc, begin_dig (DigS.digL h), List.cons_append, num_two (DigS.digL h) (DigS.digL hr) q.toNat 32 [] hq (by decide +kernel), List.length_append, List.length_cons]
  congr 1
  omega
theorem scan_f45 {o : ByteArray} (h : Dig20 o) (q : UInt8) (hq : q.toNat = 46 ∨ q.toNat = 47) : scanL (between (o ++ ⟨#[q]⟩)) = .error (2, 1) := by
  obtain ⟨c, l, hc, h1, h2⟩ := dig_head h
  have hb : bs (o ++ ⟨#[q]⟩) = bs o ++ [q.toNat] := by rw [bs_app]; rfl
  have hs := h.size
  have hz : (between (o ++ ⟨#[q]⟩)).size = o.size + 3 := by rw [← bs_len, between_bs, hb]; simp [bs_len]
  refine scan_bad _ c (l ++ [q.toNat] ++ [32]) (by rw [between_bs, hb, hc]; rfl) (by omega) h1 h2 ?_
  rw [show c :: (l ++ [q.toNat] ++ [32]) = bs o ++ q.toNat :: 32 :: [] by rw [hc]; simp, begin_dig (DigS.digL h), num_none (DigS.digL h) q.toNat 32 [] hq (by decide +kernel)]
theorem scan_f6 : scanL (between ⟨#[45]⟩) = .error (2, 1) := by
  refine scan_bad _ 45 [32] rfl (by decide) (by decide +kernel) (by decide) (by decide +kernel)

end Go.Proofs.Ytcdmojefheipoaa
