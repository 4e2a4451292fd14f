/-
  A strings.Builder of one's own: copyCheck (its last region the loader refuses: the shelf's laying falls).
-/
import Derived.Test.YtcdmojefheipoaaLextok
import Derived.Lib.Builder
import Derived.Lib.AppendStr
import Derived.Laws.AppendOwn
namespace Go.Proofs.Ytcdmojefheipoaa
open Go.RowKit

theorem builder_size : (Try.prog.info? 48).map (fun i => i.size) = some 2 := by kernel_rfl
set_option maxRecDepth 100000 in
set_option maxHeartbeats 1000000 in
theorem bused_any (b : Nat) (w : World) (h0 : w.cell? ⟨b, 0, none⟩ = some (.pointer (some ⟨b, 0, none⟩))) :
    Calls Try.prog 34 #[.pointer (some ⟨b, 0, none⟩)] w fun e w' => e = .returned (.tuple #[]) ∧ w' = w := by
  obtain ⟨j, hj, _⟩ := Option.map_eq_some_iff.1 builder_size
  go_enter Try.func34, Try.ntmps34
  go_wp2
  rw [Lib.run_neq_ptr_same w _ Try.underlying46 hj]
  go_wp2
  go_end0
  exact ⟨rfl, rfl⟩
set_option maxRecDepth 100000 in
set_option maxHeartbeats 1000000 in
theorem bfresh_any (b : Nat) (w : World) (h0 : w.cell? ⟨b, 0, none⟩ = some (.pointer none)) (hsh : w.shape? b = some (48, 2)) (hfz : w.frozen? ⟨b, 0, none⟩ = false) :
    Calls Try.prog 34 #[.pointer (some ⟨b, 0, none⟩)] w fun e w' => e = .returned (.tuple #[]) ∧ w' = w.setCell ⟨b, 0, none⟩ (.pointer (some ⟨b, 0, none⟩)) := by
  obtain ⟨j, hj, hjs⟩ := Option.map_eq_some_iff.1 builder_size
  go_enter Try.func34, Try.ntmps34
  go_wp2
  rw [Lib.run_to_unsafe w ⟨b, 0, none⟩ Try.underlying46 Try.underlying63 hj (by rw [hjs]; decide) hsh (Nat.zero_lt_succ 1)]
  simp only [Result.andThen]
  rw [Oper.upon_value]
  go_wp2
  rw [run_callFunc_extern Try.func39 (by kernel_rfl) (by kernel_rfl) (by kernel_rfl) (e := Extern.AbiNoEscape.same) (by kernel_rfl)]
  rw [Lib.run_noEscape]
  simp only [Result.andThen]
  rw [Oper.upon_value]
  go_wp2
  rw [Lib.run_from_unsafe w ⟨b, 0, none⟩ Try.underlying63 Try.underlying46 hj hsh (by kernel_rfl)]
  simp only [Result.andThen]
  rw [Oper.upon_value]
  go_wp2
  go_end0
  exact ⟨rfl, rfl⟩

/-- A builder that a call has laid, its bytes; it may never have been written. -/
abbrev Bld (B b : Nat) (l : List Value) (w : World) : Prop := Lib.IsBuilder 48 5 B b l w
/-- .. it has been written. -/
abbrev BldU (B b : Nat) (l : List Value) (w : World) : Prop := Lib.BuilderAt 48 5 B b (.pointer (some ⟨b, 0, none⟩)) l w
theorem bcheck_any {B b : Nat} {l : List Value} {w : World} (h : Bld B b l w) :
    Calls Try.prog 34 #[.pointer (some ⟨b, 0, none⟩)] w fun e w' => e = .returned (.tuple #[]) ∧ BldU B b l w' ∧ Below B w w' ∧ ∀ k, k ≠ b → w'.heap[k]? = w.heap[k]? := by
  cases h with
  | inl h => exact (bfresh_any b w h.cell0 h.shape h.frozen0).mono fun e w' hw => ⟨hw.1, hw.2 ▸ h.used _, hw.2 ▸ (Below.refl B w).setCell (p := ⟨b, 0, none⟩) h.1 _, fun k hk => hw.2 ▸ Below.heap_setCell _ _ _ _ hk⟩
  | inr h => exact (bused_any b w h.cell0).mono fun e w' hw => ⟨hw.1, hw.2 ▸ h, hw.2 ▸ Below.refl B _, fun k _ => by rw [hw.2]⟩
theorem byte_info : (Try.prog.info? 5).map (fun i => (i.zero, i.size, i.bytes)) = some (some (.int .u8 0), 1, 1) := by kernel_rfl
/-- What a written builder is, laid open. -/
theorem BldU.open {B b : Nat} {l : List Value} {w : World} (h : BldU B b l w) : ∃ q c, w.cell? ⟨b, 0, none⟩ = some (.pointer (some ⟨b, 0, none⟩)) ∧ w.cell? ⟨b, 1, none⟩ = some (.slice q l.length c) ∧ w.heap[b]? = some (.cells #[.pointer (some ⟨b, 0, none⟩), .slice q l.length c] 48 (0, 0)) ∧ w.ownsRow B 5 1 (.slice q l.length c) l.length l ∧ (Value.slice q l.length c).ownBlock ≠ some b := by
  obtain ⟨_, v, h1, h2, h3⟩ := h
  have hv : ∃ q c, v = .slice q l.length c := by
    rcases h2.2 with ⟨e1, e2⟩ | ⟨g, c, _, e1, _⟩
    · exact ⟨none, 0, by rw [e1, e2]⟩
    · exact ⟨_, c, e1⟩
  obtain ⟨q, c, rfl⟩ := hv
  exact ⟨q, c, by rw [Lib.cell_of_heap h1]; rfl, by rw [Lib.cell_of_heap h1]; rfl, h1, h2, h3⟩
/-- A builder's row has grown: how its block stands, and what its new row's store comes to. -/
theorem bld_end {B b : Nat} {W1 W2 : World} {v v' : Value} {l' : List Value} (hB : B ≤ b) (hbk : W1.heap[b]? = some (.cells #[.pointer (some ⟨b, 0, none⟩), v] 48 (0, 0))) (hne : v.ownBlock ≠ some b) (hg : W1.grownBy W2 v.ownBlock) (ho : W2.ownsRow B 5 1 v' l'.length l') :
    ∃ q c, v' = .slice q l'.length c ∧ W2.cell? ⟨b, 0, none⟩ = some (.pointer (some ⟨b, 0, none⟩)) ∧ W2.cell? ⟨b, 1, none⟩ = some v ∧ W2.frozen? ⟨b, 1, none⟩ = false ∧ BldU B b l' (W2.setCell ⟨b, 1, none⟩ (.slice q l'.length c)) := by
  have h2 := (hg.block b (lt_of_heap hbk) fun e => hne e.symm).trans hbk
  have hv : ∃ q c, v' = .slice q l'.length c := by
    rcases ho.2 with ⟨e1, e2⟩ | ⟨g, c, _, e1, _⟩
    · exact ⟨none, 0, by rw [e1, e2]⟩
    · exact ⟨_, c, e1⟩
  obtain ⟨q, c, rfl⟩ := hv
  exact ⟨q, c, rfl, by rw [Lib.cell_of_heap h2]; rfl, by rw [Lib.cell_of_heap h2]; rfl, Lib.frozen_of_heap h2 1, Lib.BuilderAt.put hB h2 ho (by decide)⟩
set_option maxRecDepth 100000 in
set_option maxHeartbeats 2000000 in
theorem bstring_any {B b : Nat} {l : List Value} {w : World} (s : ByteArray) (h : Bld B b l w) (hl : l.length + s.size ≤ 1000000) (hB : B ≤ b) (hw : B ≤ w.heap.size) :
    Calls Try.prog 22 #[.pointer (some ⟨b, 0, none⟩), .string s] w fun e w' => e = .returned (.tuple #[.int .i64 s.size, .nilIface]) ∧ BldU B b (l ++ Lib.strCells s) w' ∧ Below B w w' := by
  obtain ⟨i, hi, hz, hsz, hby⟩ := info_parts byte_info
  have HC := Lib.hid (bcheck_any h)
  clear h
  go_enter Try.func22, Try.ntmps22
  go_wp2_with (go_at_call 34; refine HC.out.mono ?_)
  rintro e w1 ⟨rfl, h1, hb, _⟩
  obtain ⟨q, c, c0, c1, hbk, hown, hne⟩ := h1.open
  have hw1 : B ≤ w1.heap.size := Nat.le_trans hw hb.size
  clear HC h1
  go_wp2_with (at_builtin; refine Lib.wpList_append_own_string _ rfl _ _ 38 9 rfl B 5 i Try.underlying38 Try.underlying9 hi hz hsz hby _ _ _ rfl hown s rfl (by unfold maxLen; omega) (by omega) hw1 (fun v' w2 ho hg _ => ?_); obtain ⟨q2, k2, rfl, d0, d1, f1, HU⟩ := bld_end hB hbk hne hg (l' := l ++ Lib.strCells s) (by simpa [Lib.strCells_length] using ho))
  go_ret2
  rw [List.length_append] at HU
  exact ⟨rfl, HU, (hb.grown hg hw1 fun k hk => (hown.lt k hk).1).setCell (p := ⟨b, 1, none⟩) hB _⟩
set_option maxRecDepth 100000 in
set_option maxHeartbeats 2000000 in
theorem bbyte_any {B b : Nat} {l : List Value} {w : World} (x : Int) (h : Bld B b l w) (hl : l.length + 1 ≤ 1000000) (hB : B ≤ b) (hw : B ≤ w.heap.size) :
    Calls Try.prog 21 #[.pointer (some ⟨b, 0, none⟩), .int .u8 x] w fun e w' => e = .returned .nilIface ∧ BldU B b (l ++ [.int .u8 x]) w' ∧ Below B w w' ∧ ∀ k cs T fr, k ≠ b → T ≠ 5 → w.heap[k]? = some (.cells cs T fr) → w'.heap[k]? = some (.cells cs T fr) := by
  obtain ⟨i, hi, hz, hsz, hby⟩ := info_parts byte_info
  have HC := Lib.hid (bcheck_any h)
  clear h
  go_enter Try.func21, Try.ntmps21
  go_wp2_with (go_at_call 34; refine HC.out.mono ?_)
  rintro e w1 ⟨rfl, h1, hb, hk⟩
  have HK := Lib.hid hk
  clear hk
  obtain ⟨q, c, c0, c1, hbk, hown, hne⟩ := h1.open
  have hw1 : B ≤ w1.heap.size := Nat.le_trans hw hb.size
  have hA : Below B w1 (w1.alloc (.cells #[.int .u8 x] 5)) := (Below.refl B w1).alloc hw1 _
  have hwA := Nat.le_trans hw1 hA.size
  have hbA : (w1.alloc (.cells #[.int .u8 x] 5)).heap[b]? = _ := (Lib.alloc_old w1 _ b (lt_of_heap hbk)).trans hbk
  clear HC h1
  go_wp2_with (at_builtin; refine wpList_append_own _ rfl _ _ 38 rfl B 5 i (.int .u8 0) 1 1 Try.underlying38 hi hz hsz hby rfl (by decide) _ _ _ rfl (hown.alloc _) ⟨w1.heap.size, 0, none⟩ 1 1 [.int .u8 x] rfl rfl (fun j u hu => by match j, hu with | 0, hu => cases hu; simp [go_sem]) (fun u hu => by simp at hu; subst hu; rfl) (by unfold maxLen; omega) (by omega) hwA (fun v' w2 ho hg _ => ?_); have HG := Lib.hid hg; obtain ⟨q2, k2, rfl, d0, d1, f1, HU⟩ := bld_end hB hbA hne hg (l' := l ++ [.int .u8 x]) (by simpa using ho))
  go_ret
  rw [List.length_append] at HU
  refine ⟨rfl, HU, ((hb.trans hA).grown hg hwA fun k hk => (hown.lt k hk).1).setCell (p := ⟨b, 1, none⟩) hB _, fun k cs T fr hkb hT hk => ?_⟩
  have e1 : w1.heap[k]? = some (.cells cs T fr) := (HK.out k hkb).trans hk
  have e2 : (w1.alloc (.cells #[.int .u8 x] 5)).heap[k]? = some (.cells cs T fr) := (Lib.alloc_old w1 _ k (lt_of_heap e1)).trans e1
  have hne2 : (Value.slice q l.length c).ownBlock ≠ some k := fun e => by
    rcases hown.2 with ⟨e3, _⟩ | ⟨row, cap, cur, e3, _, e5, _⟩
    · rw [e3] at e; cases e
    · rw [e3] at e
      have : row = k := Option.some.inj e
      subst this
      rw [e5] at e1
      have h9 := Option.some.inj e1
      injection h9 with _ h10 _
      exact hT h10.symm
  have e3 := (HG.out.block k (lt_of_heap e2) fun e => hne2 e.symm).trans e2
  exact (Below.heap_setCell _ _ _ _ hkb).trans e3

end Go.Proofs.Ytcdmojefheipoaa
