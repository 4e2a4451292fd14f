/-
  What the rows of girdlelaw01 ask of the heap: the table of math/bits, tied to the program's text; and a list of digits, as it is handed in.
-/
import Derived.Test.YtphhaaofkckobaaDoorLsmall
import Derived.Test.YtphhaaofkckobaaDoorRows
import Derived.ProofKit
import Derived.LaidMore
import Derived.OpenShut
import Derived.Stop.Joined
namespace Go.Proofs.YtphhaaofkckobaaDoor
open Go.ChangeShapes Go.WideShapes Go.ChangeAt Go.RowKit

theorem own : ownKnob Tryd.prog.godebug = none := by kernel_rfl
theorem laidOut : laidOutB Tryd.prog = true := by kernel_rfl
theorem gTab : Tryd.prog.globalNamed "math/bits.deBruijn32tab" = some 0 := by kernel_rfl
theorem tTab : (Tryd.prog.globals[0]?).map (·.type) = some 76 := by kernel_rfl

/-- What the rows list. -/
def tabLaid : List (String × DataW Unit) := [("math/bits.deBruijn32tab", Rows.laid_math_bits_deBruijn32tab)]

theorem door_met (os : Os) (args : Array Value) : laidMetH Tryd.prog tabLaid ((World.doorLaid Tryd.prog 400 os).forCall (fun _ _ => 0) ⟨#[], args, []⟩).memory :=
  laidMetH_of_parts3 (fuel := 8) (laidMet_of_run' 8 (by kernel_rfl) (by kernel_rfl)) (by kernel_rfl) (by kernel_rfl)

theorem laid_digits {H : Type} : (Rows.laid_math_bits_deBruijn32tab : DataW H) = .agg (Lib.deBruijn32tab.map fun (n : Nat) => .lit (.int .u8 (n : Int))) := rfl

theorem tab_of_laid {W : World} (h : laidMetH Tryd.prog tabLaid W) : Tab W := by
  rw [MakeChecks.laidMetH_plain _ _ _ (by kernel_rfl)] at h
  obtain ⟨ps, ⟨g0, t0, cs0, f0, p0, q0, hg0, ht0, hv0, hd0, _, _⟩, _, _⟩ := h
  obtain rfl := Option.some.inj (gTab.symm.trans hg0)
  obtain rfl := Option.some.inj (tTab.symm.trans ht0)
  obtain ⟨xs, m, rfl, hx, hlen, hn, hel⟩ := DataW.trod_array Tryd.underlying76 hd0
  have c1 : Tryd.prog.cellsOf 5 = 1 := by kernel_rfl
  intro j hj
  have h1 := hel j hj
  rw [c1, Nat.mul_one] at h1
  have hjx : j < xs.length := by rw [hn]; exact hj
  rw [List.getElem?_eq_getElem hjx] at h1
  obtain ⟨k, e1, e2, _⟩ := DataW.trod_int Tryd.underlying5 h1
  rw [laid_digits] at hx
  simp only [Prod.mk.injEq, DataW.agg.injEq] at hx
  have h2 := congrArg (·[j]?) hx.1
  simp only [List.getElem?_map, List.getElem?_eq_getElem hjx, List.getElem?_eq_getElem hj, Option.map_some, Option.some.injEq, e2] at h2
  have hk : k = Lib.deBruijn32tab[j] := by simpa using h2.symm
  have h3 := World.var?_cell hg0 hv0 j
  have h4 : cs0[j]? = some (.int .u8 k) := by
    have := congrArg (·[0]?) e1
    simpa [List.getElem?_take, List.getElem?_drop] using this
  rw [h3, h4, hk]
  simp [List.getD, List.getElem?_eq_getElem hj]

theorem cellsU : Tryd.prog.cellsOf 35 = 1 := by kernel_rfl

/-- A list of digits, as it is handed in. -/
theorem open_digits {H : Type} {enc : TypeId × Value → H} {W : World} {base : Nat} {T : TypeId} (hT : Tryd.prog.underlying T = some (.slice 35)) {v : Value} {d : DataW H} {ps : List MemPlace}
    (hok : Value.okWide Tryd.prog W .any base T v) (h : DataW.Trod enc Tryd.prog W 0 (fun _ => true) true T v d ps) :
    ∃ (p : Option Addr) (K : Nat) (ds : List Nat), v = .slice p ds.length K ∧ At .u32 W p K ds ∧ Dig 4294967296 ds := by
  obtain ⟨fuel, hf⟩ := h
  obtain ⟨a0, len, cap, rfl⟩ := okWide_slice hT hok
  rcases open_ints hT Tryd.underlying35 cellsU hf with ⟨hcs, _⟩ | ⟨a, len', cap', zs, hcs, _, hl, hm, hz, _, hcell, hwz⟩
  · simp [Value.cells] at hcs
    obtain ⟨rfl, rfl, rfl⟩ := hcs
    exact ⟨none, 0, [], rfl, .inl ⟨rfl, rfl, rfl⟩, fun x hx => by simp at hx⟩
  · simp [Value.cells] at hcs
    obtain ⟨rfl, rfl, rfl⟩ := hcs
    simp only [if_true] at hz
    simp only [Value.okWide, hT, Cell.okWide, Cell.ok] at hok
    obtain ⟨_, _, _, hspot, row, cells, hsh, _⟩ := hok
    obtain ⟨b, off, spot⟩ := a
    simp only at hspot
    subst hspot
    have hb : b < W.heap.size := by
      rcases Nat.lt_or_ge b W.heap.size with h | h
      · exact h
      · simp [World.shape?, Array.getElem?_eq_none h] at hsh
    have hrange : ∀ z ∈ zs, 0 ≤ z ∧ z < 4294967296 := fun z hz => by
      have := bounds_u32 (hwz z hz)
      omega
    refine ⟨_, cap, (zs.take len).map Int.toNat, by simp; omega, .inr ⟨b, off, rfl, by simp; omega, hb, fun j hj => ?_⟩, fun x hx => ?_⟩
    · simp at hj
      have hc := hcell j (by omega)
      have hj' : j < zs.length := by omega
      have hr := hrange zs[j] (List.getElem_mem hj')
      have e : (⟨b, off, none⟩ : Addr).add j = ⟨b, off + j, none⟩ := by unfold Addr.add; split <;> simp_all
      rw [e] at hc
      rw [hc]
      have e2 : dg ((zs.take len).map Int.toNat) j = zs[j].toNat := by
        unfold dg
        rw [List.getElem?_map, List.getElem?_take, if_pos (by omega), List.getElem?_eq_getElem hj']
        rfl
      rw [e2]
      simp [List.getD, List.getElem?_eq_getElem hj']
      omega
    · obtain ⟨z, hz', rfl⟩ := List.mem_map.1 hx
      have := hrange z (List.mem_of_mem_take hz')
      omega

end Go.Proofs.YtphhaaofkckobaaDoor
