/-
  lex.Join.
-/
import Derived.Test.YtcdmojefheipoaaLexbuild
import Derived.Test.YtcdmojefheipoaaLexlink
import Derived.Test.YtcdmojefheipoaaLexscan
import Derived.Deep.RegionHeld3
import Derived.Outline
import Derived.Deep.QuietTactic
import Derived.BigQuiet
import Derived.Deep.DeepCutAuto
namespace Go.Proofs.Ytcdmojefheipoaa
open Go.RowKit

/-- Tokens with blanks between, as bytes. -/
def sepU (p : Option Nat) (k : Nat) : List UInt8 := if p.any (fun q => apartK q k) = true then [32] else []
def joinU : Option Nat → List Tk → List UInt8
  | _, [] => []
  | p, t :: r => sepU p t.k ++ (t.t.data.toList ++ joinU (some t.k) r)
def lastK : Option Nat → List Tk → Option Nat
  | p, [] => p
  | _, t :: r => lastK (some t.k) r
theorem joinU_snoc (t : Tk) : ∀ (l : List Tk) (p : Option Nat), joinU p (l ++ [t]) = joinU p l ++ (sepU (lastK p l) t.k ++ t.t.data.toList)
  | [], p => by simp [joinU, lastK]
  | x :: l, p => by
    show sepU p x.k ++ (x.t.data.toList ++ joinU (some x.k) (l ++ [t])) = _
    rw [joinU_snoc t l]
    simp [joinU, lastK]
theorem lastK_snoc (t : Tk) : ∀ (l : List Tk) (p : Option Nat), lastK p (l ++ [t]) = some t.k
  | [], _ => rfl
  | x :: l, p => lastK_snoc t l (some x.k)
theorem bs_map (s : ByteArray) : bs s = s.data.toList.map (fun b => b.toNat) := by unfold bs; first | rfl | simp [ByteArray.toList_data]
theorem joinU_bs : ∀ (l : List Tk) (p : Option Nat), (joinU p l).map (fun b => b.toNat) = joinG p (l.map kt)
  | [], _ => rfl
  | t :: l, p => by
    show (sepU p t.k ++ (t.t.data.toList ++ joinU (some t.k) l)).map _ = (if p.any (fun q => apartK q t.k) = true then [32] else []) ++ (bs t.t ++ joinG (some t.k) (l.map kt))
    rw [List.map_append, List.map_append, joinU_bs l, bs_map]
    unfold sepU
    by_cases h : p.any (fun q => apartK q t.k) = true
    · rw [if_pos h, if_pos h]; rfl
    · rw [if_neg h, if_neg h]; rfl
/-- How long tokens' texts are together. -/
def lenT : List Tk → Nat
  | [] => 0
  | t :: r => t.t.size + 1 + lenT r
theorem lenT_snoc (t : Tk) : ∀ l : List Tk, lenT (l ++ [t]) = lenT l + (t.t.size + 1)
  | [] => by simp [lenT]
  | x :: l => by
    show x.t.size + 1 + lenT (l ++ [t]) = x.t.size + 1 + lenT l + (t.t.size + 1)
    rw [lenT_snoc t l]; omega
theorem lenT_take : ∀ (l : List Tk) (j : Nat), lenT (l.take j) ≤ lenT l
  | [], _ => by simp
  | _ :: _, 0 => Nat.zero_le _
  | t :: r, j + 1 => by
    have := lenT_take r j
    show t.t.size + 1 + lenT (r.take j) ≤ t.t.size + 1 + lenT r
    omega
theorem sepU_len (p : Option Nat) (k : Nat) : (sepU p k).length ≤ 1 := by unfold sepU; split <;> simp
theorem joinU_len : ∀ (l : List Tk) (p : Option Nat), (joinU p l).length ≤ lenT l
  | [], _ => Nat.le_refl _
  | t :: l, p => by
    have h1 := sepU_len p t.k
    have h2 := joinU_len l (some t.k)
    simp only [joinU, List.length_append, lenT, Array.length_toList]
    have : t.t.data.size = t.t.size := rfl
    omega
/-- Tokens in memory, a block's first ones. -/
def TokAt (w : World) (g : Nat) (l : List Tk) : Prop := ∀ (j : Nat) (t : Tk), l[j]? = some t → w.cell? ⟨g, j * 3, none⟩ = some (.int .i64 t.k) ∧ w.cell? ⟨g, j * 3 + 1, none⟩ = some (.int .i64 t.a) ∧ w.cell? ⟨g, j * 3 + 2, none⟩ = some (.string t.t)
theorem TokAt.to {w w' : World} {g : Nat} {l : List Tk} (h : TokAt w g l) (hg : g < w.heap.size) (hB : Below w.heap.size w w') : TokAt w' g l := fun j t e => by
  have := h j t e
  have hc : ∀ o, w'.cell? ⟨g, o, none⟩ = w.cell? ⟨g, o, none⟩ := fun o => hB.cell (p := ⟨g, o, none⟩) hg
  rw [hc, hc, hc]; exact this
theorem Bld.to {B b : Nat} {l : List Value} {w w' : World} (h : Bld B b l w) (hB : Below w.heap.size w w') : Bld B b l w' := by
  have one : ∀ p, Lib.BuilderAt 48 5 B b p l w → Lib.BuilderAt 48 5 B b p l w' := fun p ⟨h1, v, h2, h3, h4⟩ => by
    refine ⟨h1, v, (hB.block b (lt_of_heap h2)).trans h2, ⟨h3.1, ?_⟩, h4⟩
    rcases h3.2 with k | ⟨row, cap, cur, e1, e2, e3, e4, e5, e6⟩
    · exact .inl k
    · exact .inr ⟨row, cap, cur, e1, e2, (hB.block row (lt_of_heap e3)).trans e3, e4, e5, e6⟩
  rcases h with h | h
  · exact .inl (one _ h)
  · exact .inr (one _ h)

theorem _root_.Go.RowKit.Below.drewN' {B : Nat} {a w : World} (h : Below B a w) (n : Nat) : Below B a (w.drewN n) := ⟨h.os, h.tape, h.output, h.size, h.block⟩
theorem byteCells_app (l m : List UInt8) : Lib.byteCells (l ++ m) = Lib.byteCells l ++ Lib.byteCells m := by simp [Lib.byteCells]
theorem byteCells_len (l : List UInt8) : (Lib.byteCells l).length = l.length := by simp [Lib.byteCells]
set_option maxRecDepth 100000 in
set_option maxHeartbeats 4000000 in
theorem join_any (l : List Tk) (g c : Nat) (w : World) (hT : TokAt w g l) (hg : g < w.heap.size) (hl : lenT l ≤ 100000) (hn : l.length ≤ 100000) :
    Calls Try.prog 11 #[.slice (some ⟨g, 0, none⟩) l.length c] w fun e w' => e = .returned (.string ⟨(joinU none l).toArray⟩) ∧ Below w.heap.size w w' := by
  obtain ⟨n, hnl⟩ : ∃ n, l.length = n := ⟨_, rfl⟩
  have HT := Lib.hid (And.intro hT (And.intro hg (And.intro hl hnl)))
  rw [hnl] at hn ⊢
  clear hT hg hl hnl
  have HB := Lib.hid (Lib.fresh_isBuilder 48 5 w)
  go_enter Try.func11, Try.ntmps11
  go_wp2_with fail
  go_loopw [8] (fun sj wr => ∃ j : Nat, j ≤ n ∧ sj = .int .i64 j ∧ Hid (Bld w.heap.size w.heap.size (Lib.byteCells (joinU none (l.take j))) wr) ∧ Below w.heap.size w wr) (fun sj _ => n - (intOf sj).toNat)
  case atStart => exact ⟨0, Nat.zero_le _, rfl, HB, (Below.refl _ _).alloc (Nat.le_refl _) _⟩
  case round =>
    clear HB
    obtain ⟨j, hj, rfl, HB, hb⟩ := hrel
    by_cases hlt : j < n
    · obtain ⟨t, ht⟩ : ∃ t, l[j]? = some t := ⟨l[j]'(by rw [HT.out.2.2.2]; exact hlt), List.getElem?_eq_getElem _⟩
      obtain ⟨c0, c1, c2⟩ := (HT.out.1.to HT.out.2.1 hb) j t ht
      have hlt' : (j : Int) < (n : Int) := by omega
      have hj0 : (0 : Int) ≤ (j : Int) := by omega
      replace ht := Lib.hid ht
      have hw0 : w.heap.size ≤ wr.heap.size := hb.size
      have hne : wr.heap.size ≠ w.heap.size := fun e => by
        rcases HB.out with h | h <;> (have := h.lt; omega)
      have hA : Below wr.heap.size wr (wr.alloc (.cells #[.int .i64 t.k, .int .i64 t.a, .string t.t] 30)) := (Below.refl _ _).alloc (Nat.le_refl _) _
      have d0 : (wr.alloc (.cells #[.int .i64 t.k, .int .i64 t.a, .string t.t] 30)).cell? ⟨wr.heap.size, 0, none⟩ = some (.int .i64 t.k) := by simp [go_sem]
      have d1 : (wr.alloc (.cells #[.int .i64 t.k, .int .i64 t.a, .string t.t] 30)).cell? ⟨wr.heap.size, 1, none⟩ = some (.int .i64 t.a) := by simp [go_sem]
      have d2 : (wr.alloc (.cells #[.int .i64 t.k, .int .i64 t.a, .string t.t] 30)).cell? ⟨wr.heap.size, 2, none⟩ = some (.string t.t) := by simp [go_sem]
      have hblk := Lib.hid (World.alloc_heap_new wr (.cells #[.int .i64 t.k, .int .i64 t.a, .string t.t] 30))
      replace HB := Lib.hid (HB.out.to hA)
      replace hb := hb.trans (hA.mono hw0)
      have hts : (joinU none (l.take j)).length + (t.t.size + 1) ≤ 100000 := by
        have h1 := joinU_len (l.take j) none
        have h2 := lenT_take l (j + 1)
        have h3 : l.take (j + 1) = l.take j ++ [t] := by
          rw [List.take_add_one, ht.out]; rfl
        rw [h3, lenT_snoc] at h2
        have := HT.out.2.2.1
        omega
      have hsn : Hid (joinU none (l.take (j + 1)) = joinU none (l.take j) ++ (sepU (lastK none (l.take j)) t.k ++ t.t.data.toList)) := by
        have h3 : l.take (j + 1) = l.take j ++ [t] := by rw [List.take_add_one, ht.out]; rfl
        rw [h3]; exact joinU_snoc t _ none
      match j with
      | 0 =>
        have k0 : decide ((0 : Int) < ((0 : Nat) : Int)) = false := rfl
        go_upto_region 5 with fail
        generalize (wr.alloc (.cells #[.int .i64 t.k, .int .i64 t.a, .string t.t] 30)) = W1 at d0 d1 d2 HB hb hblk ⊢
        clear hA c0 c1 c2
        go_quiet (fail)
        have hD : Below W1.heap.size W1 (W1.drewN nq) := (Below.refl W1.heap.size W1).drewN' nq
        go_wp2_with fail
        refine (bstring_any t.t (HB.out.to hD) (by rw [byteCells_len]; omega) (Nat.le_refl _) (Nat.le_trans hb.size hD.size)).mono ?_
        rintro e W3 ⟨rfl, hU, hb3⟩
        replace HB := Lib.hid (Or.inr hU : Bld _ _ _ W3)
        replace hb := (hb.trans (hD.mono hb.size)).trans hb3
        clear hU hb3 hD d0 d1 d2 hts
        go_wp2_with fail
        go_roundw
        case rel => exact ⟨1, by omega, by go_num, by have := HB.out; rw [hsn.out, byteCells_app, byteCells_app]; exact this, hb⟩
        case measure => simp [intOf]; omega
      | i + 1 =>
        obtain ⟨x, hx⟩ : ∃ x, l[i]? = some x := ⟨l[i]'(by rw [HT.out.2.2.2]; omega), List.getElem?_eq_getElem _⟩
        have hlk : Hid (lastK none (l.take (i + 1)) = some x.k) := by rw [List.take_add_one, hx]; exact lastK_snoc x _ none
        have k0 : decide ((0 : Int) < (i : Int) + 1) = true := decide_eq_true (by omega)
        have k1 : IntKind.i64.wrap ((i : Int) + 1 - 1) = (i : Int) := by rw [show (i : Int) + 1 - 1 = i by omega]; exact wrap_num (by omega) (by omega)
        have k4 : IntKind.i64.wrap (i : Int) = (i : Int) := wrap_num (by omega) (by omega)
        have k2 : (0 : Int) ≤ (i : Int) := by omega
        have k3 : (i : Int) < (n : Int) := by omega
        go_upto_region 5 with fail
        generalize (wr.alloc (.cells #[.int .i64 t.k, .int .i64 t.a, .string t.t] 30)) = W1 at d0 d1 d2 HB hb hblk ⊢
        obtain ⟨e0, e1, e2⟩ := (HT.out.1.to HT.out.2.1 hb) i x hx
        clear hA c0 c1 c2 hx
        obtain ⟨r, hr⟩ : ∃ r, apartK x.k t.k = r := ⟨_, rfl⟩
        have HA := fun (W : World) => apart_any x t W
        rw [hr] at HA
        replace HA := Lib.hid HA
        replace hr := Lib.hid hr
        have hbk := hb.size
        have hgk : g < W1.heap.size := Nat.lt_of_lt_of_le HT.out.2.1 hbk
        have hwk : wr.heap.size < W1.heap.size := World.block_lt_of_cell? W1 _ d0
        cases r with
        | false =>
          go_region_held3 (fun W => W.cell? ⟨g, i * 3, none⟩ = some (.int .i64 x.k) ∧ W.cell? ⟨g, i * 3 + 1, none⟩ = some (.int .i64 x.a) ∧ W.cell? ⟨g, i * 3 + 2, none⟩ = some (.string x.t) ∧ W.cell? ⟨wr.heap.size, 0, none⟩ = some (.int .i64 t.k) ∧ W.cell? ⟨wr.heap.size, 1, none⟩ = some (.int .i64 t.a) ∧ W.cell? ⟨wr.heap.size, 2, none⟩ = some (.string t.t))
            (first | exact ⟨e0, e1, e2, d0, d1, d2⟩)
            (first | (go_at_call 20; refine (HA.out _).mono ?_; rintro e W2 ⟨rfl, hB2⟩; have e0 := (hB2.cell (p := ⟨g, i * 3, none⟩) hgk).trans e0; have e1 := (hB2.cell (p := ⟨g, i * 3 + 1, none⟩) hgk).trans e1; have e2 := (hB2.cell (p := ⟨g, i * 3 + 2, none⟩) hgk).trans e2; have d0 := (hB2.cell (p := ⟨wr.heap.size, 0, none⟩) hwk).trans d0; have d1 := (hB2.cell (p := ⟨wr.heap.size, 1, none⟩) hwk).trans d1; have d2 := (hB2.cell (p := ⟨wr.heap.size, 2, none⟩) hwk).trans d2))
          go_wp2_with fail
          have hB3 : Below W1.heap.size W1 W2 := (Below.refl W1.heap.size W1).drew.trans hB2
          refine (bstring_any t.t (HB.out.to hB3) (by rw [byteCells_len]; omega) (Nat.le_refl _) (Nat.le_trans hb.size hB3.size)).mono ?_
          rintro e W3 ⟨rfl, hU, hb3⟩
          replace HB := Lib.hid (Or.inr hU : Bld _ _ _ W3)
          replace hb := (hb.trans (hB3.mono hb.size)).trans hb3
          clear hU hb3 hB3 hB2 hts e0 e1 e2
          go_wp2_with fail
          go_roundw
          case rel => exact ⟨i + 1 + 1, by omega, by go_num, by have := HB.out; rw [hsn.out, hlk.out]; unfold sepU; rw [if_neg (by simp [hr.out]), List.nil_append, byteCells_app]; exact this, hb⟩
          case measure => simp [intOf]; omega
        | true =>
          go_region_held3 (fun W => W.cell? ⟨g, i * 3, none⟩ = some (.int .i64 x.k) ∧ W.cell? ⟨g, i * 3 + 1, none⟩ = some (.int .i64 x.a) ∧ W.cell? ⟨g, i * 3 + 2, none⟩ = some (.string x.t) ∧ W.cell? ⟨wr.heap.size, 0, none⟩ = some (.int .i64 t.k) ∧ W.cell? ⟨wr.heap.size, 1, none⟩ = some (.int .i64 t.a) ∧ W.cell? ⟨wr.heap.size, 2, none⟩ = some (.string t.t))
            (first | exact ⟨e0, e1, e2, d0, d1, d2⟩)
            (first | (go_at_call 20; refine (HA.out _).mono ?_; rintro e W2 ⟨rfl, hB2⟩; have e0 := (hB2.cell (p := ⟨g, i * 3, none⟩) hgk).trans e0; have e1 := (hB2.cell (p := ⟨g, i * 3 + 1, none⟩) hgk).trans e1; have e2 := (hB2.cell (p := ⟨g, i * 3 + 2, none⟩) hgk).trans e2; have d0 := (hB2.cell (p := ⟨wr.heap.size, 0, none⟩) hwk).trans d0; have d1 := (hB2.cell (p := ⟨wr.heap.size, 1, none⟩) hwk).trans d1; have d2 := (hB2.cell (p := ⟨wr.heap.size, 2, none⟩) hwk).trans d2))
          go_wp2_with fail
          have hB3 : Below W1.heap.size W1 W2 := (Below.refl W1.heap.size W1).drew.trans hB2
          have hwk2 : wr.heap.size < W2.heap.size := Nat.lt_of_lt_of_le hwk hB3.size
          have hTT := Lib.hid d2
          refine (bbyte_any 32 (HB.out.to hB3) (by rw [byteCells_len]; omega) (Nat.le_refl _) (Nat.le_trans hb.size hB3.size)).mono ?_
          rintro e W3 ⟨rfl, hU, hb3, hk3⟩
          have hbk2 : W2.heap[wr.heap.size]? = some (.cells #[.int .i64 t.k, .int .i64 t.a, .string t.t] 30 (0, 0)) := (hB3.block _ hwk).trans hblk.out
          have hbk3 := hk3 wr.heap.size _ _ _ hne (by decide) hbk2
          replace d2 : W3.cell? ⟨wr.heap.size, 2, none⟩ = some (.string t.t) := by rw [Lib.cell_of_heap hbk3]; rfl
          replace HB := Lib.hid (Or.inr hU : Bld _ _ _ W3)
          replace hb := (hb.trans (hB3.mono hb.size)).trans hb3
          clear hU hb3 hB3 hB2 hk3 hbk2 hbk3 hwk2 hTT e0 e1 e2 d0 d1
          go_wp2_with fail
          refine (bstring_any t.t HB.out (by rw [List.length_append, byteCells_len]; simp; omega) (Nat.le_refl _) hb.size).mono ?_
          rintro e W4 ⟨rfl, hU, hb4⟩
          replace HB := Lib.hid (Or.inr hU : Bld _ _ _ W4)
          replace hb := hb.trans hb4
          clear hU hb4 hts
          go_wp2_with fail
          go_roundw
          case rel => exact ⟨i + 1 + 1, by omega, by go_num, by have := HB.out; rw [hsn.out, hlk.out]; unfold sepU; rw [if_pos (by simp [hr.out]), byteCells_app, byteCells_app, ← List.append_assoc]; exact this, hb⟩
          case measure => simp [intOf]; omega
    · obtain rfl : j = n := by omega
      have HS := Lib.hid (Try.Builder_String_any w.heap.size w.heap.size (joinU none (l.take j)) wr HB.out hb.size)
      have he : l.take j = l := List.take_of_length_le (by rw [HT.out.2.2.2]; omega)
      rw [he] at HS
      clear he
      go_wp2_with fail
      refine HS.out.mono ?_
      rintro e w1 ⟨rfl, hb1⟩
      go_wp2_with fail
      go_ret
      exact ⟨rfl, hb.trans hb1⟩

end Go.Proofs.Ytcdmojefheipoaa
