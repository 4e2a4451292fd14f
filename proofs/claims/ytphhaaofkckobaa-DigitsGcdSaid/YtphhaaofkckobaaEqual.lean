/-
  slices.Equal on numbers: are they just the same digits?
-/
import Derived.Test.YtphhaaofkckobaaDiv
import Derived.BigQuiet
namespace Go.Proofs.Ytphhaaofkckobaa
open Go.RowKit

theorem below_drewN {B : Nat} {a w : World} (h : Below B a w) (n : Nat) : Below B a (w.drewN n) := ⟨h.os, h.tape, h.output, h.size, h.block⟩

set_option maxRecDepth 100000 in
set_option maxHeartbeats 1000000 in
theorem equal_nat (p1 p2 : Option Addr) (K1 K2 : Nat) (ds es : List Nat) (w : World) (at1 : At .u32 w p1 K1 ds) (at2 : At .u32 w p2 K2 es) (hl : ds.length ≤ 1000000) :
    Calls Try.prog 17 #[.slice p1 ds.length K1, .slice p2 es.length K2] w fun e w' => e = .returned (.bool (decide (ds = es))) ∧ Below w.heap.size w w' := by
  go_enter Try.func17, Try.ntmps17
  by_cases hlen : ds.length = es.length
  · have hl' : (((ds.length : Nat) : Int) != ((es.length : Nat) : Int)) = false := by simp [hlen]
    have HL := Lib.hid hlen
    clear hlen
    have hbw := Below.refl w.heap.size w
    go_wp2_with fail
    go_loopw [13] (fun si wr => ∃ k : Nat, k ≤ ds.length ∧ si = .int .i64 k ∧ Hid (∀ j, j < k → dg ds j = dg es j) ∧ Below w.heap.size w wr) (fun si _ => ds.length - (intOf si).toNat)
    case atStart => exact ⟨0, by omega, rfl, fun j hj => by omega, hbw⟩
    case round =>
      obtain ⟨k, hk, rfl, hz, hBr⟩ := hrel
      by_cases hlt : k < ds.length
      · obtain ⟨b1, o1, rfl, hk1, hb1, hx1⟩ := at1.pos (by omega)
        obtain ⟨b2, o2, rfl, hk2, hb2, hy2⟩ := at2.pos (by have := HL.out; omega)
        have hx := (hBr.cell (p := ⟨b1, o1 + k, none⟩) hb1).trans (hx1 k hlt)
        have hy := (hBr.cell (p := ⟨b2, o2 + k, none⟩) hb2).trans (hy2 k (by have := HL.out; omega))
        have hli : (k : Int) < ((ds.length : Nat) : Int) := by omega
        have hle : (k : Int) < ((es.length : Nat) : Int) := by have := HL.out; omega
        clear hx1 hy2
        by_cases hd : dg ds k = dg es k
        · have hd' : (((dg ds k : Nat) : Int) != ((dg es k : Nat) : Int)) = false := by simp [hd]
          have H := Lib.hid hd; clear hd
          go_wp2_with (go_quiet (fail))
          go_roundw
          case rel =>
            refine ⟨k + 1, by omega, by go_num, fun j hj => ?_, below_drewN hBr _⟩
            by_cases hjk : j = k
            · rw [hjk]; exact H.out
            · exact hz.out j (by omega)
          case measure => simp [intOf]; omega
        · have hd' : (((dg ds k : Nat) : Int) != ((dg es k : Nat) : Int)) = true := by simp; omega
          have H := Lib.hid hd; clear hd
          go_wp2_with (go_quiet (fail))
          go_ret
          refine ⟨ret_one ?_, below_drewN hBr _⟩
          rw [decide_eq_false (fun h => H.out (by rw [h]))]; rfl
      · have hge : ¬ (k : Int) < ((ds.length : Nat) : Int) := by omega
        have HE := Lib.hid (list_ext_dg HL.out fun j hj => hz.out j (by omega))
        clear hlt
        go_wp2
        go_ret
        exact ⟨ret_one (by rw [decide_eq_true HE.out]; rfl), hBr⟩
  · have hl' : (((ds.length : Nat) : Int) != ((es.length : Nat) : Int)) = true := by simp; omega
    have hl2 : ¬ ((ds.length : Nat) : Int) = ((es.length : Nat) : Int) := by omega
    have HL := Lib.hid hlen
    clear hlen
    go_wp2
    go_ret
    exact ⟨ret_one (by rw [decide_eq_false (fun h => HL.out (by rw [h]))]; rfl), Below.refl _ _⟩

set_option maxRecDepth 100000 in
set_option maxHeartbeats 1000000 in
theorem equal_u32 (p1 p2 : Option Addr) (K1 K2 : Nat) (ds es : List Nat) (w : World) (at1 : At .u32 w p1 K1 ds) (at2 : At .u32 w p2 K2 es) (hl : ds.length ≤ 1000000) :
    Calls Try.prog 20 #[.slice p1 ds.length K1, .slice p2 es.length K2] w fun e w' => e = .returned (.bool (decide (ds = es))) ∧ Below w.heap.size w w' := by
  go_enter Try.func20, Try.ntmps20
  by_cases hlen : ds.length = es.length
  · have hl' : (((ds.length : Nat) : Int) != ((es.length : Nat) : Int)) = false := by simp [hlen]
    have HL := Lib.hid hlen
    clear hlen
    have hbw := Below.refl w.heap.size w
    go_wp2_with fail
    go_loopw [13] (fun si wr => ∃ k : Nat, k ≤ ds.length ∧ si = .int .i64 k ∧ Hid (∀ j, j < k → dg ds j = dg es j) ∧ Below w.heap.size w wr) (fun si _ => ds.length - (intOf si).toNat)
    case atStart => exact ⟨0, by omega, rfl, fun j hj => by omega, hbw⟩
    case round =>
      obtain ⟨k, hk, rfl, hz, hBr⟩ := hrel
      by_cases hlt : k < ds.length
      · obtain ⟨b1, o1, rfl, hk1, hb1, hx1⟩ := at1.pos (by omega)
        obtain ⟨b2, o2, rfl, hk2, hb2, hy2⟩ := at2.pos (by have := HL.out; omega)
        have hx := (hBr.cell (p := ⟨b1, o1 + k, none⟩) hb1).trans (hx1 k hlt)
        have hy := (hBr.cell (p := ⟨b2, o2 + k, none⟩) hb2).trans (hy2 k (by have := HL.out; omega))
        have hli : (k : Int) < ((ds.length : Nat) : Int) := by omega
        have hle : (k : Int) < ((es.length : Nat) : Int) := by have := HL.out; omega
        clear hx1 hy2
        by_cases hd : dg ds k = dg es k
        · have hd' : (((dg ds k : Nat) : Int) != ((dg es k : Nat) : Int)) = false := by simp [hd]
          have H := Lib.hid hd; clear hd
          go_wp2_with (go_quiet (fail))
          go_roundw
          case rel =>
            refine ⟨k + 1, by omega, by go_num, fun j hj => ?_, below_drewN hBr _⟩
            by_cases hjk : j = k
            · rw [hjk]; exact H.out
            · exact hz.out j (by omega)
          case measure => simp [intOf]; omega
        · have hd' : (((dg ds k : Nat) : Int) != ((dg es k : Nat) : Int)) = true := by simp; omega
          have H := Lib.hid hd; clear hd
          go_wp2_with (go_quiet (fail))
          go_ret
          refine ⟨ret_one ?_, below_drewN hBr _⟩
          rw [decide_eq_false (fun h => H.out (by rw [h]))]; rfl
      · have hge : ¬ (k : Int) < ((ds.length : Nat) : Int) := by omega
        have HE := Lib.hid (list_ext_dg HL.out fun j hj => hz.out j (by omega))
        clear hlt
        go_wp2
        go_ret
        exact ⟨ret_one (by rw [decide_eq_true HE.out]; rfl), hBr⟩
  · have hl' : (((ds.length : Nat) : Int) != ((es.length : Nat) : Int)) = true := by simp; omega
    have hl2 : ¬ ((ds.length : Nat) : Int) = ((es.length : Nat) : Int) := by omega
    have HL := Lib.hid hlen
    clear hlen
    go_wp2
    go_ret
    exact ⟨ret_one (by rw [decide_eq_false (fun h => HL.out (by rw [h]))]; rfl), Below.refl _ _⟩

end Go.Proofs.Ytphhaaofkckobaa
