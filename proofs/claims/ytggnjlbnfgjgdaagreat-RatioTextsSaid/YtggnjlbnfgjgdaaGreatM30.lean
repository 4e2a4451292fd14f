/-
  strings.Cut at a byte.
-/
import Derived.Test.YtggnjlbnfgjgdaaGreatM22
import Derived.Lib.Bytealg
import Derived.Lib.IndexLaws
import Derived.Shelf.RegionOpenPlain

namespace Go.Proofs.YtggnjlbnfgjgdaaGreat
open Go.RowKit

/-- The first place of a byte in a list, if it is there. -/
def posOf (c : Nat) : List Nat → Option Nat
  | [] => none
  | b :: l => if b = c then some 0 else (posOf c l).map (· + 1)
theorem posOf_none {c : Nat} : ∀ {l : List Nat}, posOf c l = none → c ∉ l
  | [], _ => by simp
  | b :: l, h => by
    unfold posOf at h
    split at h
    · cases h
    · rename_i hb
      have := posOf_none (l := l) (by simpa using h)
      simp [this]
      exact fun e => hb e.symm
theorem posOf_of_not {c : Nat} : ∀ {l : List Nat}, c ∉ l → posOf c l = none
  | [], _ => rfl
  | b :: l, h => by
    have h1 : b ≠ c := fun e => h (by simp [e])
    have h2 : c ∉ l := fun e => h (by simp [e])
    unfold posOf
    rw [if_neg h1, posOf_of_not h2]
    rfl
theorem posOf_lt {c : Nat} : ∀ {l : List Nat} {i : Nat}, posOf c l = some i → i < l.length
  | [], _, h => by cases h
  | b :: l, i, h => by
    unfold posOf at h
    split at h
    · injection h with h; simp; omega
    · cases hp : posOf c l with
      | none => rw [hp] at h; cases h
      | some j =>
        rw [hp] at h
        have := posOf_lt hp
        simp only [Option.map_some, Option.some.injEq] at h
        simp only [List.length_cons]
        omega
theorem posOf_split {c : Nat} : ∀ {l : List Nat} {i : Nat}, posOf c l = some i → c ∉ l.take i ∧ l = l.take i ++ c :: l.drop (i + 1)
  | [], _, h => by cases h
  | b :: l, i, h => by
    unfold posOf at h
    split at h
    · rename_i hb
      injection h with h
      subst h
      simp [hb]
    · rename_i hb
      cases hp : posOf c l with
      | none => rw [hp] at h; cases h
      | some j =>
        rw [hp] at h
        simp only [Option.map_some, Option.some.injEq] at h
        subst h
        obtain ⟨h1, h2⟩ := posOf_split hp
        refine ⟨by simp [h1]; exact fun e => hb e.symm, ?_⟩
        show b :: l = b :: (l.take j ++ c :: l.drop (j + 1))
        rw [← h2]
theorem posOf_append {c : Nat} : ∀ {l : List Nat} (r : List Nat), c ∉ l → posOf c (l ++ c :: r) = some l.length
  | [], r, _ => by simp [posOf]
  | b :: l, r, h => by
    have h1 : b ≠ c := fun e => h (by simp [e])
    have h2 : c ∉ l := fun e => h (by simp [e])
    show posOf c (b :: (l ++ c :: r)) = _
    unfold posOf
    rw [if_neg h1, posOf_append r h2]
    rfl
/-- What strings.IndexByte answers. -/
def posI (c : Nat) (l : List Nat) : Int := match posOf c l with | some i => i | none => -1
theorem indexByte_pos (c : UInt8) : ∀ l : List UInt8, Lib.indexByte l c = posI c.toNat (l.map UInt8.toNat)
  | [] => rfl
  | b :: l => by
    unfold Lib.indexByte
    rw [indexByte_pos c l]
    by_cases h : b = c
    · subst h; simp [posI, posOf]
    · have h' : ¬ b.toNat = c.toNat := fun e => h (UInt8.toNat_inj.1 e)
      have h'' : (b == c) = false := by simpa using h
      rw [h'']
      rcases hp : posOf c.toNat (l.map UInt8.toNat) with _ | i
      · simp [posI, posOf, h', hp]
      · have : ((i : Int) == -1) = false := by rw [beq_eq_false_iff_ne]; omega
        simp [posI, posOf, h', hp, this]

set_option maxRecDepth 100000 in
theorem sidxbyte_any (s : ByteArray) (c : UInt8) (w : World) (z : Int) (hz : posI c.toNat (bs s) = z) :
    Calls Tryz.prog 87 #[.string s, .int .u8 c.toNat] w fun e w' => e = .returned (.int .i64 z) ∧ w' = w := by
  have HZ : Lib.indexByte s.data.toList c = z := (indexByte_pos c _).trans hz
  have HZ' : Lib.indexByte s.data.toList ((c.toNat : Int).toNat.toUInt8) = z := by
    rw [show ((c.toNat : Int).toNat.toUInt8) = c by simp]; exact HZ
  clear hz HZ
  go_enter Tryz.func87, Tryz.ntmps87
  go_wp2
  rw [run_callFunc_extern Tryz.func99 (by kernel_rfl) (by kernel_rfl) (by kernel_rfl) (e := Extern.BytealgIndexByte.indexByte) (by kernel_rfl), Lib.run_indexByteString, HZ']
  simp only [Result.andThen]
  rw [Oper.upon_value]
  go_wp2
  go_ret
  exact ⟨rfl, rfl⟩

theorem bs_one (c : UInt8) : bs ⟨#[c]⟩ = [c.toNat] := rfl
set_option maxRecDepth 100000 in
set_option maxHeartbeats 1000000 in
/-- Index at a text of one byte. -/
theorem sidx_any (s : ByteArray) (c : UInt8) (w : World) (z : Int) (hz : posI c.toNat (bs s) = z) :
    Calls Tryz.prog 68 #[.string s, .string ⟨#[c]⟩] w fun e w' => e = .returned (.int .i64 z) ∧ w' = w := by
  have H := Lib.hid (sidxbyte_any s c w z hz)
  have e1 : (ByteArray.mk #[c]).size = 1 := rfl
  cases hs : ([c] == s.toList)
  · clear hz
    go_enter Tryz.func68, Tryz.ntmps68
    go_wp2_with (go_at_call 87; refine H.out.mono ?_; rintro e w1 ⟨rfl, rfl⟩)
    go_ret
    exact ⟨rfl, rfl⟩
  · have hz0 : z = 0 := by
      have h1 : s.data.toList = [c] := by rw [← Lib.toList_data]; exact (beq_iff_eq.1 hs).symm
      rw [← hz]
      unfold bs
      rw [h1]
      simp [posI, posOf]
    subst hz0
    clear hz
    go_enter Tryz.func68, Tryz.ntmps68
    go_wp2_with (go_at_call 87; refine H.out.mono ?_; rintro e w1 ⟨rfl, rfl⟩)
    go_ret
    exact ⟨rfl, rfl⟩

set_option maxRecDepth 100000 in
set_option maxHeartbeats 1000000 in
theorem scutin_no (s : ByteArray) (c : UInt8) (w : World) (h : posOf c.toNat (bs s) = none) :
    Calls Tryz.prog 64 #[.string s, .string ⟨#[c]⟩] w fun e w' => e = .returned (.tuple #[.string s, .string ⟨#[]⟩, .bool false]) ∧ Below w.heap.size w w' := by
  have H := Lib.hid (sidx_any s c w (-1) (by unfold posI; rw [h]))
  clear h
  go_enter Tryz.func64, Tryz.ntmps64
  go_wp2_with (go_at_call 68; refine H.out.mono ?_; rintro e w1 ⟨rfl, rfl⟩)
  go_ret3
  exact ⟨rfl, Below.refl _ _⟩
set_option maxRecDepth 100000 in
set_option maxHeartbeats 1000000 in
theorem scutin_yes (s : ByteArray) (c : UInt8) (w : World) (i : Nat) (h : posOf c.toNat (bs s) = some i) (hs : s.size ≤ 1000000) :
    Calls Tryz.prog 64 #[.string s, .string ⟨#[c]⟩] w fun e w' => e = .returned (.tuple #[.string (s.extract 0 i), .string (s.extract (i + 1) s.size), .bool true]) ∧ Below w.heap.size w w' := by
  have H := Lib.hid (sidx_any s c w i (by unfold posI; rw [h]))
  have hi : i < s.size := by rw [← bs_len]; exact posOf_lt h
  have hs' : (s.size : Int) ≤ 1000000 := by omega
  have hi' : i < 1000000 := by omega
  have c1 : (0 : Int) ≤ (i : Int) := by omega
  have c2 : (i : Int) ≤ s.size := by omega
  have c3 : (0 : Int) ≤ (i : Int) + 1 := by omega
  have c4 : (i : Int) + 1 ≤ s.size := by omega
  have e1 : (ByteArray.mk #[c]).size = 1 := rfl
  clear h
  go_enter Tryz.func64, Tryz.ntmps64
  go_wp2_with (go_at_call 68; refine H.out.mono ?_; rintro e w1 ⟨rfl, rfl⟩)
  have mixed : Tryz.prog.follows .mixedOrders = true := by kernel_rfl
  go_region_o
  go_wp2
  go_ret3
  exact ⟨rfl, (Below.refl _ _).drew⟩

set_option maxRecDepth 100000 in
theorem scut_no (s : ByteArray) (c : UInt8) (w : World) (h : posOf c.toNat (bs s) = none) :
    Calls Tryz.prog 32 #[.string s, .string ⟨#[c]⟩] w fun e w' => e = .returned (.tuple #[.string s, .string ⟨#[]⟩, .bool false]) ∧ Below w.heap.size w w' := by
  have H := Lib.hid (scutin_no s c w h)
  clear h
  go_enter Tryz.func32, Tryz.ntmps32
  go_wp2_with (go_at_call 64; refine H.out.mono ?_; rintro e w1 ⟨rfl, hB⟩)
  go_ret3
  exact ⟨rfl, hB⟩
set_option maxRecDepth 100000 in
theorem scut_yes (s : ByteArray) (c : UInt8) (w : World) (i : Nat) (h : posOf c.toNat (bs s) = some i) (hs : s.size ≤ 1000000) :
    Calls Tryz.prog 32 #[.string s, .string ⟨#[c]⟩] w fun e w' => e = .returned (.tuple #[.string (s.extract 0 i), .string (s.extract (i + 1) s.size), .bool true]) ∧ Below w.heap.size w w' := by
  have H := Lib.hid (scutin_yes s c w i h hs)
  clear h hs
  go_enter Tryz.func32, Tryz.ntmps32
  go_wp2_with (go_at_call 64; refine H.out.mono ?_; rintro e w1 ⟨rfl, hB⟩)
  go_ret3
  exact ⟨rfl, hB⟩

end Go.Proofs.YtggnjlbnfgjgdaaGreat
