/-
  What the statement stands on.
-/
import Derived.Test.YtcfgefbkeeedgaaGreatM15
import Derived.Laws.IdiomStrings
namespace Go.Proofs.YtcfgefbkeeedgaaGreat
open Go.RowKit
theorem At.cross {q q' : IntKind} (hq : q ≠ q') {t : TypeId} {g : Nat} {w w' : World} {p : Option Addr} {cap : Nat} {ds ts : List Nat} (h : At q w p cap ds) (hr : Row q' t w g ts) (ho : Only g w w') : At q w' p cap ds := by
  rcases h with h | ⟨b, off, rfl, h1, h2, h3⟩
  · exact .inl h
  · refine .inr ⟨b, off, rfl, h1, Nat.lt_of_lt_of_le h2 ho.size, fun j hj => ?_⟩
    have hb : b ≠ g := by
      rintro rfl
      have h4 := h3 j hj
      have h5 : w.heap[b]? = some (.cells (cellsOf q' ts).toArray t (0, 0)) := hr
      rw [cell_of_row w b (off + j) _ t (0, 0) h5] at h4
      rcases Nat.lt_or_ge (off + j) ts.length with h6 | h6
      · simp [cellsOf_get q' ts _ h6] at h4
        exact hq h4.1.symm
      · simp [cellsOf] at h4
        obtain ⟨a, _, ha, _⟩ := h4
        exact hq ha.symm
    exact (ho.cell (a := ⟨b, off + j, none⟩) h2 hb).trans (h3 j hj)
theorem IsNat.cross {q' : IntKind} (hq : IntKind.u32 ≠ q') {t : TypeId} {g : Nat} {w w' : World} {v : Value} {n : Nat} {ts : List Nat} (h : IsNat w v n) (hr : Row q' t w g ts) (ho : Only g w w') : IsNat w' v n := by
  obtain ⟨ds, ⟨p, c, e, h⟩, k⟩ := h
  exact ⟨ds, ⟨p, c, e, h.cross hq hr ho⟩, k⟩
theorem dv_digit (L : List Nat) (n i m : Nat) (hl : L.length = i) (hv : dv L + 10 ^ i * n = m) : dv ((48 + n % 10) :: L) + 10 ^ (i + 1) * (n / 10) = m := by
  rw [dv_cons, hl, Nat.pow_succ, show 48 + n % 10 - 48 = n % 10 by omega]
  have := Nat.div_add_mod n 10
  generalize (10 : Nat) ^ i = p at *
  generalize n % 10 = r at *
  generalize n / 10 = q at *
  grind
set_option maxRecDepth 100000 in
set_option maxHeartbeats 1000000 in
theorem writeBlock_any (g off cap m : Nat) (lo seg hi : List Nat) (va : Value) (w : World) (hoff : off = lo.length) (hrow : Row .u8 5 w g (lo ++ (seg ++ hi))) (hseg : seg.length = 18) (ha : IsNat w va m) (hm : m < 1000000000000000000) :
    Calls Tryz.prog 66 #[.slice (some ⟨g, off, none⟩) 18 cap, va] w fun e w' => (∃ v, e = .returned v) ∧ (∃ L, L.length = 18 ∧ DD L ∧ dv L = m ∧ Row .u8 5 w' g (lo ++ (L ++ hi))) ∧ Only g w w' := by
  subst hoff
  have C := Lib.hid (small_fit ha (by omega))
  have HM := Lib.hid hm
  clear ha hm
  go_enter Tryz.func66, Tryz.ntmps66
  go_wp2_with fail
  refine C.out.mono ?_
  clear C
  rintro e w1 ⟨rfl, hB1⟩
  have hrow1 := hrow.below hB1 hrow.lt
  have hO1 : Only g w w1 := Only.of_below hB1
  clear hrow hB1; go_wp2_with fail
  go_loopw [4, 14] (fun sn si wr => ∃ (i n : Nat) (L : List Nat), i ≤ 18 ∧ si = .int .i64 i ∧ sn = .int .u64 n ∧ n < 1000000000000000000 ∧ Hid (L.length = i) ∧ DD L ∧ Hid (dv L + 10 ^ i * n = m) ∧ Row .u8 5 wr g (lo ++ ((seg.take (18 - i) ++ L) ++ hi)) ∧ Only g w wr) (fun _ si _ => 18 - (intOf si).toNat)
  case atStart => exact ⟨0, m, [], by omega, rfl, rfl, HM.out, rfl, fun _ h => (nomatch h), by show _ = _; simp [dv_nil], by rw [Nat.sub_zero, List.take_of_length_le (by omega), List.append_nil]; exact hrow1, hO1⟩
  case round =>
    clear hrow1 hO1
    obtain ⟨i, n, L, hi18, rfl, rfl, hn, hLl, hLd, hLv, hrow, hO⟩ := hrel
    by_cases hlt : i < 18
    · obtain ⟨j, hj⟩ : ∃ j, 18 - i = j + 1 := ⟨17 - i, by omega⟩
      have hj2 : 18 - (i + 1) = j := by omega
      have hjI : (17 : Int) - (i : Int) = (j : Int) := by omega
      rw [hj] at hrow
      have hsl : (seg.take (j + 1) ++ L).length = 18 := by simp [hLl.out]; omega
      have ho := hrow.cell (j := lo.length + j) (by simp [hLl.out]; omega)
      have hf := hrow.free (lo.length + j)
      rw [dg_mid (by rw [hsl]; omega)] at ho
      have hset := hrow.set (lo.length + j) (48 + n % 10) (by simp [hLl.out]; omega)
      rw [set_mid _ (by rw [hsl]; omega)] at hset
      have hss : (seg.take (j + 1) ++ L).set j (48 + n % 10) = seg.take j ++ ((48 + n % 10) :: L) := by
        rw [List.take_succ_eq_append_getElem (by omega), List.append_assoc, List.set_append, if_neg (by simp; omega)]
        rw [show j - (seg.take j).length = 0 by simp; omega]
        rfl
      rw [hss] at hset
      have HSet := Lib.hid hset
      have hltI : (i : Int) < 18 := by omega
      have HNN := Lib.hid hn
      have ew : IntKind.u64.wrap ((n : Int) / 10) = (n : Int) / 10 := wraps_u64 _ (by omega) (by omega)
      have HV := Lib.hid (dv_digit L n i m hLl.out hLv.out)
      have HJ := Lib.hid hj2
      have HI := Lib.hid hi18
      have hj18 : j < 18 := by omega
      have HOO := Lib.hid hO
      clear hrow hset hss hsl hj hj2 hLv hlt hO hn; go_wp2_with fail
      go_roundw
      case rel =>
        refine ⟨i + 1, n / 10, (48 + n % 10) :: L, by omega, by go_num, by go_num, by have := HNN.out; omega, by show _ = _; rw [List.length_cons, hLl.out], fun x hx => ?_, HV.out, ?_, HOO.out.set _ _⟩
        · rcases List.mem_cons.1 hx with rfl | hx
          · omega
          · exact hLd x hx
        · rw [HJ.out]
          have h1 := HSet.out
          simpa using h1
      case measure => have := HI.out; simp [intOf]; omega
    · have h18 : i = 18 := by omega
      subst h18
      have hn0 : n = 0 := by have h1 := hLv.out; have h2 := HM.out; have h3 : (10 : Nat) ^ 18 = 1000000000000000000 := by decide
                             rw [h3] at h1; omega
      have HL := Lib.hid (show dv L = m by have h1 := hLv.out; rw [hn0] at h1; simpa using h1)
      have hrow2 : Row .u8 5 wr g (lo ++ (L ++ hi)) := by simpa using hrow
      clear hn0 hlt hLv hrow hn
      go_wp2
      go_end0
      exact ⟨⟨_, rfl⟩, ⟨L, hLl.out, hLd, HL.out, hrow2⟩, hO⟩
theorem conv_row (g k n : Nat) (ts : List Nat) (w : World) (hrow : Row .u8 5 w g ts) (hn : ts.length = n) (hk : k < n) (hd : ∀ x ∈ ts, x < 256) :
    (convert 112 9 (.slice (some ⟨g, k, none⟩) (n - k) (n - k))).run Tryz.prog w = .ok (.string ⟨((ts.drop k).map UInt8.ofNat).toArray⟩) w := by
  have h := run_convert_bytes_back (P := Tryz.prog) w 112 9 5 ⟨g, k, none⟩ (n - k) ((ts.drop k).map UInt8.ofNat) Tryz.underlying112 Tryz.underlying5 Tryz.underlying9 (fun j hj => by
    have hj' : k + j < ts.length := by simp at hj; omega
    have e : (⟨g, k, none⟩ : Addr).add j = ⟨g, k + j, none⟩ := by unfold Addr.add; split <;> simp_all
    rw [e, hrow.cell hj']
    have hx := hd _ (List.getElem_mem hj')
    rw [dg_lt hj']
    simp
    omega)
  rw [show ((ts.drop k).map UInt8.ofNat).length = n - k by simp; omega] at h
  exact h
set_option maxRecDepth 100000 in
set_option maxHeartbeats 1000000 in
theorem without_any (g n : Nat) (ts : List Nat) (w : World) (hrow : Row .u8 5 w g ts) (hn : ts.length = n) (h0 : 0 < n) (hl : n ≤ 1000000) (hd : DD ts) :
    Calls Tryz.prog 67 #[.slice (some ⟨g, 0, none⟩) n n] w fun e w' => (∃ s, e = .returned (.string s) ∧ IsText (bs s) (dv ts)) ∧ w' = w := by
  have HN := Lib.hid hn
  have HD := Lib.hid hd
  have hnI : ((n : Int) - 1).toNat = n - 1 := by omega
  have hn1 : (1 : Int) ≤ (n : Int) := by omega
  clear hn hd
  go_enter Tryz.func67, Tryz.ntmps67
  go_wp2_with fail
  go_loop [3] (fun sk => ∃ k : Nat, k < n ∧ sk = .int .i64 k ∧ Hid (ts.take k = List.replicate k 48)) (fun sk => n - (intOf sk).toNat)
  case atStart => exact ⟨0, h0, rfl, rfl⟩
  case round =>
    obtain ⟨k, hk, rfl, hz⟩ := hrel
    have hc := hrow.cell (j := k) (by have := HN.out; omega)
    have hdk := HD.out.dg (i := k) (by have := HN.out; omega)
    by_cases hlt : k + 1 < n
    · have hltI : (k : Int) < (n : Int) - 1 := by omega
      by_cases h48 : dg ts k = 48
      · have h48b : (((dg ts k : Nat) : Int) == 48) = true := by rw [h48]; rfl
        have HZ : Hid (ts.take (k + 1) = List.replicate (k + 1) 48) := by
          show _ = _
          rw [List.take_succ_eq_append_getElem (by have := HN.out; omega), hz.out, List.replicate_succ', ← dg_lt, h48]
        clear h48 hdk
        go_wp2
        go_round
        case rel => exact ⟨k + 1, hlt, by go_num, HZ.out⟩
        case measure => simp [intOf]; omega
      · have h48b : (((dg ts k : Nat) : Int) == 48) = false := beq_eq_false_iff_ne.2 (by omega)
        have HT : Hid (∀ s, bs s = ts.drop k → IsText (bs s) (dv ts)) := by
          intro s hs
          rw [hs]
          refine ⟨HD.out.drop k, ?_, by intro e; have := congrArg List.length e; rw [List.length_drop, List.length_nil] at this; have := HN.out; omega, fun _ => by rw [dg_drop]; exact h48⟩
          conv => rhs; rw [← List.take_append_drop k ts, dv_append, hz.out, dv_zeros]
          simp
        have hcv := conv_row g k n ts w hrow HN.out hk HD.out.lt256
        have HS := Lib.hid (HT.out _ (bs_of (ts.drop k) (fun x hx => HD.out.lt256 x (List.mem_of_mem_drop hx))))
        clear h48 hdk; go_wp2_with fail
        go_ret
        exact ⟨⟨_, rfl, by rw [← List.map_drop]; exact HS.out⟩, rfl⟩
    · have hkn : k = n - 1 := by omega
      have hltI : ¬ (k : Int) < (n : Int) - 1 := by omega
      have hltD : decide ((k : Int) < (n : Int) - 1) = false := decide_eq_false hltI
      have HS : Hid (IsText (bs ⟨((ts.drop k).map UInt8.ofNat).toArray⟩) (dv ts)) := by
        show IsText _ _
        rw [bs_of (ts.drop k) (fun x hx => HD.out.lt256 x (List.mem_of_mem_drop hx))]
        refine ⟨HD.out.drop k, ?_, by intro e; have := congrArg List.length e; rw [List.length_drop, List.length_nil] at this; have := HN.out; omega, fun h => by rw [List.length_drop] at h; have := HN.out; omega⟩
        conv => rhs; rw [← List.take_append_drop k ts, dv_append, hz.out, dv_zeros]
        simp
      have hcv := conv_row g k n ts w hrow HN.out hk HD.out.lt256
      clear hdk hkn hlt; go_wp2_with fail
      go_ret
      exact ⟨⟨_, rfl, by rw [← List.map_drop]; exact HS.out⟩, rfl⟩
end Go.Proofs.YtcfgefbkeeedgaaGreat
