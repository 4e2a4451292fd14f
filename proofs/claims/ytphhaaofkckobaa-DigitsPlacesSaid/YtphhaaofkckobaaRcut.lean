/-
  girdleref01.Cut: a list of ints without noughts at the end, in the same memory.
-/
import Derived.Test.YtphhaaofkckobaaEqual
namespace Go.Proofs.Ytphhaaofkckobaa
open Go.RowKit

theorem At.take {q : IntKind} {w : World} {p : Option Addr} {K : Nat} {ds : List Nat} (h : At q w p K ds) (k : Nat) : At q w p K (ds.take k) := by
  rcases h with ⟨rfl, rfl, rfl⟩ | ⟨b, off, e, hc, hs, hx⟩
  · exact .inl ⟨rfl, by simp, rfl⟩
  · refine .inr ⟨b, off, e, by simp; omega, hs, fun j hj => ?_⟩
    simp at hj
    rw [hx j (by omega)]
    unfold dg
    rw [List.getElem?_take, if_pos (by omega)]

set_option maxRecDepth 100000 in
set_option maxHeartbeats 1000000 in
theorem refCut_at (p : Option Addr) (K : Nat) (ds : List Nat) (w : World) (hat : At .i64 w p K ds) (hl : ds.length ≤ 1000000) :
    Calls Try.prog 34 #[.slice p ds.length K] w fun e w' => (∃ v, e = .returned v ∧ Nums .i64 w v (cut ds) ∧ ∃ n K', v = .slice p n K') ∧ w' = w := by
  have hcap := hat.le_cap
  go_enter Try.func34, Try.ntmps34
  go_wp2_with fail
  go_loop [3] (fun s => ∃ k : Nat, k ≤ ds.length ∧ s = .int .i64 k ∧ Hid (∀ j, k ≤ j → j < ds.length → dg ds j = 0)) (fun s => (intOf s).toNat)
  case atStart => exact ⟨ds.length, Nat.le_refl _, rfl, fun j h1 h2 => by omega⟩
  case round =>
    obtain ⟨k, hk, rfl, hz⟩ := hrel
    cases k with
    | zero =>
      have E := Lib.hid (cut_zero ds fun j hj => hz.out j (by omega) hj)
      go_wp2
      go_ret
      refine ⟨⟨_, rfl, ⟨p, K, ?_, ?_⟩, _, _, rfl⟩, rfl⟩
      · rw [E.out]; rfl
      · rw [E.out]; exact hat.take 0
    | succ i =>
      obtain ⟨b, off, rfl, _, _, hc⟩ := hat.pos (by omega)
      have hci := hc i (by omega)
      have hii : (i : Int) < ((ds.length : Nat) : Int) := by omega
      have hi2 : ((i + 1 : Nat) : Int) - 1 = (i : Int) := by omega
      clear hc
      by_cases hd : dg ds i = 0
      · have hd' : (((dg ds i : Nat) : Int) == 0) = true := by simp [hd]
        have H := Lib.hid hd; clear hd
        go_wp2
        refine ⟨⟨i, by omega, rfl, fun j h1 h2 => ?_⟩, by simp [intOf]⟩
        by_cases hj : j = i
        · rw [hj]; exact H.out
        · exact hz.out j (by omega) h2
      · have hd' : (((dg ds i : Nat) : Int) == 0) = false := by simp; omega
        have H := Lib.hid hd; clear hd
        have E := Lib.hid (cut_at ds i (by omega) H.out fun j h1 h2 => hz.out j (by omega) h2)
        go_wp2
        go_ret
        refine ⟨⟨_, rfl, ⟨some ⟨b, off, none⟩, K, ?_, ?_⟩, _, _, rfl⟩, rfl⟩
        · rw [E.out, List.length_take, Nat.min_eq_left hk]; rfl
        · rw [E.out]; exact hat.take (i + 1)

theorem refCut_any (p : Option Addr) (K : Nat) (ds : List Nat) (w : World) (hat : At .i64 w p K ds) (hl : ds.length ≤ 1000000) :
    Calls Try.prog 34 #[.slice p ds.length K] w fun e w' => (∃ v, e = .returned v ∧ Nums .i64 w v (cut ds)) ∧ w' = w :=
  (refCut_at p K ds w hat hl).mono fun _ _ ⟨⟨v, h1, h2, _⟩, h3⟩ => ⟨⟨v, h1, h2⟩, h3⟩

end Go.Proofs.Ytphhaaofkckobaa
