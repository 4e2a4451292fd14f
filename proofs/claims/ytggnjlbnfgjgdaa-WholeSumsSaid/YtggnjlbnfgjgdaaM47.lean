/-
  girdletop.WholeSums, as a walk: whatever the two ratios, it returns true.
-/
import Derived.Test.YtggnjlbnfgjgdaaM20
import Derived.Test.YtggnjlbnfgjgdaaM29
import Derived.Test.YtggnjlbnfgjgdaaM46

namespace Go.Proofs.Ytggnjlbnfgjgdaa
open Go.RowKit

theorem rA_text : IsRText (bs ⟨#[49, 47, 50]⟩) rA := rtext_frac (1) 2 rA (by decide +kernel) (by decide +kernel) [49] [50] _ rfl (by decide) (itext_pos (by decide) ⟨by decide, by decide, by decide, by decide⟩) ⟨by decide, by decide, by decide, by decide⟩
theorem rA_read : parseR (bs ⟨#[49, 47, 50]⟩) = (rA, 0) := parse_text rA_text
theorem nb_tens (a b : Nat) (ha : a = 21) (hb : b = 210) : NB a ≤ 10 ^ b := by subst ha hb; unfold NB; decide +kernel
theorem text_short {t : ByteArray} {q : Rat} (hq : RB q 21) (h : IsRText (bs t) q) : t.size ≤ 1000 := by
  obtain ⟨k, hk⟩ : ∃ k, k = 210 := ⟨_, rfl⟩
  have h1 := nb_tens 21 k rfl hk
  have h2 := rtext_tens (k := k) h (Nat.le_of_lt (Nat.lt_of_lt_of_le hq.1 h1)) (Nat.le_of_lt (Nat.lt_of_lt_of_le hq.2 h1))
  rw [bs_len] at h2
  omega
theorem rb_floor {x : Rat} {k : Nat} (h : RB x k) (hk : 1 ≤ k) : RB ((x.floor : Int) : Rat) k := rb_whole (floor_nb h) hk
theorem one_is : (1 : Rat) = Rat.divInt 1 1 := by decide +kernel
theorem one_rb : RB 1 1 := rb_one (by decide +kernel) (by decide +kernel)
theorem rest_sgn (x : Rat) : 0 ≤ (x - ((x.floor : Int) : Rat)).num.sign ∧ cmpR (x - ((x.floor : Int) : Rat)) 1 = -1 := by
  have h1 := Rat.floor_le x
  have h2 := Rat.lt_floor_add_one x
  have h3 : ((x.floor + 1 : Int) : Rat) = ((x.floor : Int) : Rat) + 1 := by rw [Rat.intCast_add]; rfl
  rw [h3] at h2
  refine ⟨?_, cmpR_lt (by grind)⟩
  have h4 : 0 ≤ x - ((x.floor : Int) : Rat) := by grind
  exact Int.sign_nonneg_iff.2 (Rat.num_nonneg.2 h4)

set_option maxRecDepth 100000 in
set_option maxHeartbeats 16000000 in
theorem wholeSums_any (bA : Bool) (pA qA : Option Addr) (KA JA : Nat) (dsA esA : List Nat) (bB : Bool) (pB qB : Option Addr) (KB JB : Nat) (dsB esB : List Nat) (w : World) (atA : At .u32 w pA KA dsA) (ctA : At .u32 w qA JA esA) (ddA : Dig 4294967296 dsA) (deA : Dig 4294967296 esA) (atB : At .u32 w pB KB dsB) (ctB : At .u32 w qB JB esB) (ddB : Dig 4294967296 dsB) (deB : Dig 4294967296 esB) :
    Calls Try.prog 10 #[.agg #[.bool bA, .slice pA dsA.length KA, .slice qA esA.length JA], .agg #[.bool bB, .slice pB dsB.length KB, .slice qB esB.length JB]] w fun e w' => e = .returned (.bool true) ∧ Below w.heap.size w w' := by
  have HDA := Lib.hid (And.intro ddA deA)
  obtain ⟨lA, hlA⟩ : ∃ l, dsA.length = l := ⟨_, rfl⟩
  obtain ⟨jA, hjA⟩ : ∃ l, esA.length = l := ⟨_, rfl⟩
  have HLA := Lib.hid (And.intro hlA hjA)
  rw [hlA, hjA]
  have HDB := Lib.hid (And.intro ddB deB)
  obtain ⟨lB, hlB⟩ : ∃ l, dsB.length = l := ⟨_, rfl⟩
  obtain ⟨jB, hjB⟩ : ∃ l, esB.length = l := ⟨_, rfl⟩
  have HLB := Lib.hid (And.intro hlB hjB)
  rw [hlB, hjB]
  clear ddA deA hlA hjA ddB deB hlB hjB
  have S := ((St.start w).alloc 30 [.bool bA, .slice pA lA KA, .slice qA jA JA] (w.heap.size)).alloc 30 [.bool bB, .slice pB lB KB, .slice qB jB JB] (w.heap.size + 1)
  try simp only [List.cons_append, List.nil_append] at S
  replace atA := atA.hold S.hold
  replace ctA := ctA.hold S.hold
  replace atB := atB.hold S.hold
  replace ctB := ctB.hold S.hold
  have c0_0 := S.c 0 0 rfl rfl
  have c0_1 := S.c 0 1 rfl rfl
  have c0_2 := S.c 0 2 rfl rfl
  have c1_0 := S.c 1 0 rfl rfl
  have c1_1 := S.c 1 1 rfl rfl
  have c1_2 := S.c 1 2 rfl rfl
  go_enter Try.func10, Try.ntmps10
  go_wp2_with fail
  clear c0_0 c0_1 c0_2 c1_0 c1_1 c1_2
  refine (S.call (rparse_any ⟨#[49, 47, 50]⟩ _ (by decide) rA 0 rA_read)).mono ?_
  clear S
  rintro e w1 ⟨⟨_, rfl, bX, pX, lX, KX, qX, jX, JX, rfl, hX, nX, dX⟩, S, H⟩
  replace atA := atA.hold H
  replace ctA := ctA.hold H
  replace atB := atB.hold H
  replace ctB := ctB.hold H
  clear H
  have c0_0 := S.c 0 0 rfl rfl
  have c0_1 := S.c 0 1 rfl rfl
  have c0_2 := S.c 0 2 rfl rfl
  have c1_0 := S.c 1 0 rfl rfl
  have c1_1 := S.c 1 1 rfl rfl
  have c1_2 := S.c 1 2 rfl rfl
  have H := S.hnew 30 [.bool bX, .slice pX lX KX, .slice qX jX JX]
  replace S := S.alloc 30 [.bool bX, .slice pX lX KX, .slice qX jX JX] (w1.heap.size)
  try simp only [List.cons_append, List.nil_append] at S
  replace atA := atA.hold H
  replace ctA := ctA.hold H
  replace atB := atB.hold H
  replace ctB := ctB.hold H
  replace nX := nX.hold H
  replace dX := dX.hold H
  clear H
  clear c0_0 c0_1 c0_2 c1_0 c1_1 c1_2
  have c2_0 := S.c 2 0 rfl rfl
  have c2_1 := S.c 2 1 rfl rfl
  have c2_2 := S.c 2 2 rfl rfl
  go_wp2_with fail
  clear c2_0 c2_1 c2_2
  refine (S.call (rtext_lit ⟨bX, pX, lX, KX, qX, jX, JX, rfl, hX, nX, dX⟩ ⟨#[49, 47, 50]⟩ rA_max rA_text)).mono ?_
  clear S
  rintro e w2 ⟨rfl, S, H⟩
  replace atA := atA.hold H
  replace ctA := ctA.hold H
  replace atB := atB.hold H
  replace ctB := ctB.hold H
  replace nX := nX.hold H
  replace dX := dX.hold H
  clear H
  have c2_0 := S.c 2 0 rfl rfl
  have c2_1 := S.c 2 1 rfl rfl
  have c2_2 := S.c 2 2 rfl rfl
  go_wp2_with fail
  clear c2_0 c2_1 c2_2
  refine (S.call (wof_any 3 _ (by decide) (by decide))).mono ?_
  clear S
  rintro e w3 ⟨⟨_, rfl, p3, l3, K3, rfl, n3⟩, S, H⟩
  replace atA := atA.hold H
  replace ctA := ctA.hold H
  replace atB := atB.hold H
  replace ctB := ctB.hold H
  replace nX := nX.hold H
  replace dX := dX.hold H
  clear H
  have c2_0 := S.c 2 0 rfl rfl
  have c2_1 := S.c 2 1 rfl rfl
  have c2_2 := S.c 2 2 rfl rfl
  go_wp2_with fail
  clear c2_0 c2_1 c2_2
  refine (S.call (wtext_lit ⟨_, _, _, rfl, n3⟩ ⟨#[51]⟩ (lit_max _ (by decide)) (itext_pos (by decide) ⟨by decide, by decide, by decide, by decide⟩))).mono ?_
  clear S
  rintro e w4 ⟨rfl, S, H⟩
  replace atA := atA.hold H
  replace ctA := ctA.hold H
  replace atB := atB.hold H
  replace ctB := ctB.hold H
  replace nX := nX.hold H
  replace dX := dX.hold H
  replace n3 := n3.hold H
  clear H
  have c2_0 := S.c 2 0 rfl rfl
  have c2_1 := S.c 2 1 rfl rfl
  have c2_2 := S.c 2 2 rfl rfl
  clear nX dX n3
  clear c2_0 c2_1 c2_2
  have c0_0 := S.c 0 0 rfl rfl
  have c0_1 := S.c 0 1 rfl rfl
  have c0_2 := S.c 0 2 rfl rfl
  have c1_0 := S.c 1 0 rfl rfl
  have c1_1 := S.c 1 1 rfl rfl
  have c1_2 := S.c 1 2 rfl rfl
  have H := S.hnew 30 [.bool bA, .slice pA lA KA, .slice qA jA JA, .bool bB, .slice pB lB KB, .slice qB jB JB]
  replace S := S.alloc 30 [.bool bA, .slice pA lA KA, .slice qA jA JA, .bool bB, .slice pB lB KB, .slice qB jB JB] (w4.heap.size)
  try simp only [List.cons_append, List.nil_append] at S
  replace atA := atA.hold H
  replace ctA := ctA.hold H
  replace atB := atB.hold H
  replace ctB := ctB.hold H
  clear H
  go_wp2_with fail
  clear c0_0 c0_1 c0_2 c1_0 c1_1 c1_2
  generalize (w4.alloc (.cells #[.bool bA, .slice pA lA KA, .slice qA jA JA, .bool bB, .slice pB lB KB, .slice qB jB JB] 30)) = w5 at S atA ctA atB ctB ⊢
  have HB0 : ∀ W, St w W [(w.heap.size, 30, [.bool bA, .slice pA lA KA, .slice qA jA JA]), (w.heap.size + 1, 30, [.bool bB, .slice pB lB KB, .slice qB jB JB]), (w1.heap.size, 30, [.bool bX, .slice pX lX KX, .slice qX jX JX]), (w4.heap.size, 30, [.bool bA, .slice pA lA KA, .slice qA jA JA, .bool bB, .slice pB lB KB, .slice qB jB JB])] → At .u32 W pA KA dsA → At .u32 W qA JA esA → At .u32 W pB KB dsB → At .u32 W qB JB esB → ∀ j, j < 2 → W.cell? ⟨w4.heap.size, j * 3, none⟩ = some (.bool ([bA, bB].getD j false)) ∧ W.cell? ⟨w4.heap.size, j * 3 + 1, none⟩ = some (.slice ([pA, pB].getD j none) ([dsA, dsB].getD j []).length ([KA, KB].getD j 0)) ∧ W.cell? ⟨w4.heap.size, j * 3 + 2, none⟩ = some (.slice ([qA, qB].getD j none) ([esA, esB].getD j []).length ([JA, JB].getD j 0)) ∧ At .u32 W ([pA, pB].getD j none) ([KA, KB].getD j 0) ([dsA, dsB].getD j []) ∧ At .u32 W ([qA, qB].getD j none) ([JA, JB].getD j 0) ([esA, esB].getD j []) ∧ Dig 4294967296 ([dsA, dsB].getD j []) ∧ Dig 4294967296 ([esA, esB].getD j []) :=
    fun W S a b c d => rraws2 S 3 rfl HLA.out.1 HLA.out.2 HLB.out.1 HLB.out.2 a b c d HDA.out.1 HDA.out.2 HDB.out.1 HDB.out.2
  have HB := Lib.hid HB0
  clear HB0
  go_loopw [45] (fun si wr => ∃ k : Nat, k ≤ 2 ∧ si = .int .i64 k ∧ Hid (∀ j, j < k → TriedR 10 ([bA, bB].getD j false) ([dsA, dsB].getD j []) ([esA, esB].getD j [])) ∧ St w wr [(w.heap.size, 30, [.bool bA, .slice pA lA KA, .slice qA jA JA]), (w.heap.size + 1, 30, [.bool bB, .slice pB lB KB, .slice qB jB JB]), (w1.heap.size, 30, [.bool bX, .slice pX lX KX, .slice qX jX JX]), (w4.heap.size, 30, [.bool bA, .slice pA lA KA, .slice qA jA JA, .bool bB, .slice pB lB KB, .slice qB jB JB])] ∧ At .u32 wr pA KA dsA ∧ At .u32 wr qA JA esA ∧ At .u32 wr pB KB dsB ∧ At .u32 wr qB JB esB) (fun si _ => 2 - (intOf si).toNat)
  case atStart => exact ⟨0, by omega, rfl, fun j hj => by omega, S, atA, ctA, atB, ctB⟩
  case round =>
    clear S atA ctA atB ctB
    obtain ⟨k, hk, rfl, hz, S, atA, ctA, atB, ctB⟩ := hrel
    by_cases hlt : k < 2
    · have HR := HB.out wr S atA ctA atB ctB k hlt
      obtain ⟨bk, hbk⟩ : ∃ x, [bA, bB].getD k false = x := ⟨_, rfl⟩
      obtain ⟨pk, hpk⟩ : ∃ x, [pA, pB].getD k none = x := ⟨_, rfl⟩
      obtain ⟨qk, hqk⟩ : ∃ x, [qA, qB].getD k none = x := ⟨_, rfl⟩
      obtain ⟨Kk, hKk⟩ : ∃ x, [KA, KB].getD k 0 = x := ⟨_, rfl⟩
      obtain ⟨Jk, hJk⟩ : ∃ x, [JA, JB].getD k 0 = x := ⟨_, rfl⟩
      obtain ⟨dk, hdk⟩ : ∃ x, [dsA, dsB].getD k [] = x := ⟨_, rfl⟩
      obtain ⟨ek, hek⟩ : ∃ x, [esA, esB].getD k [] = x := ⟨_, rfl⟩
      rw [hbk, hpk, hqk, hKk, hJk, hdk, hek] at HR
      obtain ⟨a0, a1, a2, at1, at2, g1, g2⟩ := HR
      have HD := Lib.hid (And.intro g1 g2)
      have HI := Lib.hid (And.intro hlt (And.intro hbk (And.intro hdk hek)))
      have hki : (k : Int) < 2 := by omega
      obtain ⟨l, hl⟩ : ∃ l, dk.length = l := ⟨_, rfl⟩
      obtain ⟨m, hm⟩ : ∃ m, ek.length = m := ⟨_, rfl⟩
      have HL2 := Lib.hid (And.intro hl hm)
      rw [hl] at a1
      rw [hm] at a2
      clear hl hm hlt g1 g2 hbk hpk hqk hKk hJk hdk hek
      have H := S.hnew 30 [.bool bk, .slice pk l Kk, .slice qk m Jk]
      replace S := S.alloc 30 [.bool bk, .slice pk l Kk, .slice qk m Jk] (wr.heap.size)
      try simp only [List.cons_append, List.nil_append] at S
      replace atA := atA.hold H
      replace ctA := ctA.hold H
      replace atB := atB.hold H
      replace ctB := ctB.hold H
      replace at1 := at1.hold H
      replace at2 := at2.hold H
      clear H
      have c4_0 := S.c 4 0 rfl rfl
      have c4_1 := S.c 4 1 rfl rfl
      have c4_2 := S.c 4 2 rfl rfl
      go_wp2_with fail
      clear c4_0 c4_1 c4_2
      refine (S.call (rcheck_all bk pk qk Kk Jk l m dk ek _ at1 at2 HD.out.1 HD.out.2 HL2.out.1 HL2.out.2)).mono ?_
      clear S
      rintro e w6 ⟨⟨c, rfl, hc⟩, S, H⟩
      replace atA := atA.hold H
      replace ctA := ctA.hold H
      replace atB := atB.hold H
      replace ctB := ctB.hold H
      replace at1 := at1.hold H
      replace at2 := at2.hold H
      clear H
      have c4_0 := S.c 4 0 rfl rfl
      have c4_1 := S.c 4 1 rfl rfl
      have c4_2 := S.c 4 2 rfl rfl
      by_cases h0 : c = 0
      · have h0' : (c != 0) = false := by rw [h0]; rfl
        have HV := Lib.hid (hc.out h0)
        clear h0 hc
        by_cases h20 : 10 < l
        · have h20' : (10 : Int) < (l : Int) := by omega
          go_wp2_with fail
          go_ret
          exact ⟨rfl, S.below⟩
        · have h20' : ¬ (10 : Int) < (l : Int) := by omega
          by_cases h21 : 10 < m
          · have h21' : (10 : Int) < (m : Int) := by omega
            go_wp2_with fail
            go_ret
            exact ⟨rfl, S.below⟩
          · have h21' : ¬ (10 : Int) < (m : Int) := by omega
            have HT := Lib.hid (show TriedR 10 bk dk ek from ⟨by rw [HL2.out.1]; omega, by rw [HL2.out.2]; omega, HV.out⟩)
            clear h20 h21
            go_wp2_with fail
            replace S := S.take 4 (L := [(w.heap.size, 30, [.bool bA, .slice pA lA KA, .slice qA jA JA]), (w.heap.size + 1, 30, [.bool bB, .slice pB lB KB, .slice qB jB JB]), (w1.heap.size, 30, [.bool bX, .slice pX lX KX, .slice qX jX JX]), (w4.heap.size, 30, [.bool bA, .slice pA lA KA, .slice qA jA JA, .bool bB, .slice pB lB KB, .slice qB jB JB])]) rfl
            go_roundw
            case rel =>
              refine ⟨k + 1, HI.out.1, by go_num, fun j hj => ?_, S, atA, ctA, atB, ctB⟩
              by_cases hjk : j = k
              · rw [hjk, HI.out.2.1, HI.out.2.2.1, HI.out.2.2.2]; exact HT.out
              · exact hz.out j (by omega)
            case measure => have := HI.out.1; simp [intOf]; omega
      · have h0' : (c != 0) = true := by simpa using h0
        clear h0 hc
        go_wp2_with fail
        go_ret
        exact ⟨rfl, S.below⟩
    · have hge : ¬ (k : Int) < 2 := by omega
      have t : ∀ j, j < 2 → TriedR 10 ([bA, bB].getD j false) ([dsA, dsB].getD j []) ([esA, esB].getD j []) := fun j hj => hz.out j (by omega)
      obtain ⟨zA, hA, rA, nA, dA⟩ := tried_rat (b := bA) (t 0 (by decide)) HDA.out.1 HDA.out.2 HLA.out.1 HLA.out.2 atA ctA
      obtain ⟨zB, hB, rB, nB, dB⟩ := tried_rat (b := bB) (t 1 (by decide)) HDB.out.1 HDB.out.2 HLB.out.1 HLB.out.2 atB ctB
      have RA := Lib.hid rA
      have RBB := Lib.hid rB
      clear t hlt hz rA rB atA ctA atB ctB HB
      obtain ⟨zS, hzS⟩ : ∃ z : Rat, zA + zB = z := ⟨_, rfl⟩
      have RS := Lib.hid (show RB zS 21 from hzS ▸ rb_add RA.out RBB.out)
      obtain ⟨zf, hzf⟩ : ∃ z, zS.floor = z := ⟨_, rfl⟩
      have RF := Lib.hid (show RB ((zf : Int) : Rat) 21 from hzf ▸ rb_floor RS.out (by decide))
      have hfm : zf.natAbs < maxN := by rw [← hzf]; exact nb_max (floor_nb RS.out) (by decide)
      obtain ⟨zR, hzR⟩ : ∃ z : Rat, zS - ((zf : Int) : Rat) = z := ⟨_, rfl⟩
      have RR := Lib.hid (show RB zR 43 from hzR ▸ rb_sub RS.out RF.out)
      have hrs := rest_sgn zS
      rw [hzf, hzR] at hrs
      obtain ⟨sg, hsg⟩ : ∃ s, zR.num.sign = s := ⟨_, rfl⟩
      rw [hsg] at hrs
      have hs0 : 0 ≤ sg := hrs.1
      have HSG := Lib.hid hsg
      have HC := Lib.hid hrs.2
      have HS := Lib.hid hzS
      have HF := Lib.hid (And.intro hzf hfm)
      have HR := Lib.hid hzR
      clear hzS hzf hfm hzR hrs hsg
      have c0_0 := S.c 0 0 rfl rfl
      have c0_1 := S.c 0 1 rfl rfl
      have c0_2 := S.c 0 2 rfl rfl
      go_wp2_with fail
      clear c0_0 c0_1 c0_2
      refine (S.call (rtext_any ⟨bA, pA, lA, KA, qA, jA, JA, rfl, hA, nA, dA⟩ (rb_max RA.out (by decide)))).mono ?_
      clear S
      rintro e w6 ⟨⟨t1, rfl, ht1⟩, S, H⟩
      replace nA := nA.hold H
      replace dA := dA.hold H
      replace nB := nB.hold H
      replace dB := dB.hold H
      clear H
      have c0_0 := S.c 0 0 rfl rfl
      have c0_1 := S.c 0 1 rfl rfl
      have c0_2 := S.c 0 2 rfl rfl
      have Ht1 := Lib.hid ht1
      clear ht1
      go_wp2_with fail
      clear c0_0 c0_1 c0_2
      refine (S.call (rparse_any t1 _ (text_short (RA.out.mono (by decide)) Ht1.out) zA 0 (parse_text Ht1.out))).mono ?_
      clear S
      rintro e w7 ⟨⟨_, rfl, bP, pP, lP, KP, qP, jP, JP, rfl, hP, nP, dP⟩, S, H⟩
      replace nA := nA.hold H
      replace dA := dA.hold H
      replace nB := nB.hold H
      replace dB := dB.hold H
      clear H
      have c0_0 := S.c 0 0 rfl rfl
      have c0_1 := S.c 0 1 rfl rfl
      have c0_2 := S.c 0 2 rfl rfl
      have H := S.hnew 30 [.bool bP, .slice pP lP KP, .slice qP jP JP]
      replace S := S.alloc 30 [.bool bP, .slice pP lP KP, .slice qP jP JP] (w7.heap.size)
      try simp only [List.cons_append, List.nil_append] at S
      replace nA := nA.hold H
      replace dA := dA.hold H
      replace nB := nB.hold H
      replace dB := dB.hold H
      replace nP := nP.hold H
      replace dP := dP.hold H
      clear H
      clear c0_0 c0_1 c0_2
      have c1_0 := S.c 1 0 rfl rfl
      have c1_1 := S.c 1 1 rfl rfl
      have c1_2 := S.c 1 2 rfl rfl
      go_wp2_with fail
      generalize (.tuple #[.agg #[.bool bP, .slice pP lP KP, .slice qP jP JP], .int .i64 0] : Value) = g1
      clear c1_0 c1_1 c1_2
      refine (S.call (rtext_any ⟨bB, pB, lB, KB, qB, jB, JB, rfl, hB, nB, dB⟩ (rb_max RBB.out (by decide)))).mono ?_
      clear S
      rintro e w8 ⟨⟨t2, rfl, ht2⟩, S, H⟩
      replace nA := nA.hold H
      replace dA := dA.hold H
      replace nB := nB.hold H
      replace dB := dB.hold H
      replace nP := nP.hold H
      replace dP := dP.hold H
      clear H
      have c1_0 := S.c 1 0 rfl rfl
      have c1_1 := S.c 1 1 rfl rfl
      have c1_2 := S.c 1 2 rfl rfl
      have Ht2 := Lib.hid ht2
      clear ht2
      go_wp2_with fail
      clear c1_0 c1_1 c1_2
      refine (S.call (rparse_any t2 _ (text_short (RBB.out.mono (by decide)) Ht2.out) zB 0 (parse_text Ht2.out))).mono ?_
      clear S
      rintro e w9 ⟨⟨_, rfl, bQ, pQ, lQ, KQ, qQ, jQ, JQ, rfl, hQ, nQ, dQ⟩, S, H⟩
      replace nA := nA.hold H
      replace dA := dA.hold H
      replace nB := nB.hold H
      replace dB := dB.hold H
      replace nP := nP.hold H
      replace dP := dP.hold H
      clear H
      have c1_0 := S.c 1 0 rfl rfl
      have c1_1 := S.c 1 1 rfl rfl
      have c1_2 := S.c 1 2 rfl rfl
      have H := S.hnew 30 [.bool bQ, .slice pQ lQ KQ, .slice qQ jQ JQ]
      replace S := S.alloc 30 [.bool bQ, .slice pQ lQ KQ, .slice qQ jQ JQ] (w9.heap.size)
      try simp only [List.cons_append, List.nil_append] at S
      replace nA := nA.hold H
      replace dA := dA.hold H
      replace nB := nB.hold H
      replace dB := dB.hold H
      replace nP := nP.hold H
      replace dP := dP.hold H
      replace nQ := nQ.hold H
      replace dQ := dQ.hold H
      clear H
      clear c1_0 c1_1 c1_2
      have c4_0 := S.c 4 0 rfl rfl
      have c4_1 := S.c 4 1 rfl rfl
      have c4_2 := S.c 4 2 rfl rfl
      have c5_0 := S.c 5 0 rfl rfl
      have c5_1 := S.c 5 1 rfl rfl
      have c5_2 := S.c 5 2 rfl rfl
      go_wp2_with fail
      generalize (.tuple #[.agg #[.bool bQ, .slice pQ lQ KQ, .slice qQ jQ JQ], .int .i64 0] : Value) = g2
      clear c4_0 c4_1 c4_2 c5_0 c5_1 c5_2
      refine (S.call (radd_any ⟨bP, pP, lP, KP, qP, jP, JP, rfl, hP, nP, dP⟩ ⟨bQ, pQ, lQ, KQ, qQ, jQ, JQ, rfl, hQ, nQ, dQ⟩ RA.out RBB.out (by decide) zS HS.out)).mono ?_
      clear S
      rintro e w10 ⟨⟨_, rfl, bS, pS, lS, KS, qS, jS, JS, rfl, hS, nS, dS⟩, S, H⟩
      replace nA := nA.hold H
      replace dA := dA.hold H
      replace nB := nB.hold H
      replace dB := dB.hold H
      replace nP := nP.hold H
      replace dP := dP.hold H
      replace nQ := nQ.hold H
      replace dQ := dQ.hold H
      clear H
      have c4_0 := S.c 4 0 rfl rfl
      have c4_1 := S.c 4 1 rfl rfl
      have c4_2 := S.c 4 2 rfl rfl
      have c5_0 := S.c 5 0 rfl rfl
      have c5_1 := S.c 5 1 rfl rfl
      have c5_2 := S.c 5 2 rfl rfl
      have H := S.hnew 30 [.bool bS, .slice pS lS KS, .slice qS jS JS]
      replace S := S.alloc 30 [.bool bS, .slice pS lS KS, .slice qS jS JS] (w10.heap.size)
      try simp only [List.cons_append, List.nil_append] at S
      replace nA := nA.hold H
      replace dA := dA.hold H
      replace nB := nB.hold H
      replace dB := dB.hold H
      replace nP := nP.hold H
      replace dP := dP.hold H
      replace nQ := nQ.hold H
      replace dQ := dQ.hold H
      replace nS := nS.hold H
      replace dS := dS.hold H
      clear H
      clear c4_0 c4_1 c4_2 c5_0 c5_1 c5_2
      have c0_0 := S.c 0 0 rfl rfl
      have c0_1 := S.c 0 1 rfl rfl
      have c0_2 := S.c 0 2 rfl rfl
      have c1_0 := S.c 1 0 rfl rfl
      have c1_1 := S.c 1 1 rfl rfl
      have c1_2 := S.c 1 2 rfl rfl
      go_wp2_with fail
      generalize (.tuple #[.agg #[.bool bS, .slice pS lS KS, .slice qS jS JS], .int .i64 0] : Value) = g3
      clear c0_0 c0_1 c0_2 c1_0 c1_1 c1_2
      refine (S.call (radd_any ⟨bA, pA, lA, KA, qA, jA, JA, rfl, hA, nA, dA⟩ ⟨bB, pB, lB, KB, qB, jB, JB, rfl, hB, nB, dB⟩ RA.out RBB.out (by decide) zS HS.out)).mono ?_
      clear S
      rintro e w11 ⟨⟨_, rfl, bT, pT, lT, KT, qT, jT, JT, rfl, hT, nT, dT⟩, S, H⟩
      replace nA := nA.hold H
      replace dA := dA.hold H
      replace nB := nB.hold H
      replace dB := dB.hold H
      replace nP := nP.hold H
      replace dP := dP.hold H
      replace nQ := nQ.hold H
      replace dQ := dQ.hold H
      replace nS := nS.hold H
      replace dS := dS.hold H
      clear H
      have c0_0 := S.c 0 0 rfl rfl
      have c0_1 := S.c 0 1 rfl rfl
      have c0_2 := S.c 0 2 rfl rfl
      have c1_0 := S.c 1 0 rfl rfl
      have c1_1 := S.c 1 1 rfl rfl
      have c1_2 := S.c 1 2 rfl rfl
      have H := S.hnew 30 [.bool bT, .slice pT lT KT, .slice qT jT JT]
      replace S := S.alloc 30 [.bool bT, .slice pT lT KT, .slice qT jT JT] (w11.heap.size)
      try simp only [List.cons_append, List.nil_append] at S
      replace nA := nA.hold H
      replace dA := dA.hold H
      replace nB := nB.hold H
      replace dB := dB.hold H
      replace nP := nP.hold H
      replace dP := dP.hold H
      replace nQ := nQ.hold H
      replace dQ := dQ.hold H
      replace nS := nS.hold H
      replace dS := dS.hold H
      replace nT := nT.hold H
      replace dT := dT.hold H
      clear H
      clear c0_0 c0_1 c0_2 c1_0 c1_1 c1_2
      have c7_0 := S.c 7 0 rfl rfl
      have c7_1 := S.c 7 1 rfl rfl
      have c7_2 := S.c 7 2 rfl rfl
      go_wp2_with fail
      generalize (.tuple #[.agg #[.bool bT, .slice pT lT KT, .slice qT jT JT], .int .i64 0] : Value) = g4
      clear c7_0 c7_1 c7_2
      refine (S.call (rtext_any ⟨bT, pT, lT, KT, qT, jT, JT, rfl, hT, nT, dT⟩ (rb_max RS.out (by decide)))).mono ?_
      clear S
      rintro e w12 ⟨⟨t3, rfl, ht3⟩, S, H⟩
      replace nA := nA.hold H
      replace dA := dA.hold H
      replace nB := nB.hold H
      replace dB := dB.hold H
      replace nP := nP.hold H
      replace dP := dP.hold H
      replace nQ := nQ.hold H
      replace dQ := dQ.hold H
      replace nS := nS.hold H
      replace dS := dS.hold H
      replace nT := nT.hold H
      replace dT := dT.hold H
      clear H
      have c7_0 := S.c 7 0 rfl rfl
      have c7_1 := S.c 7 1 rfl rfl
      have c7_2 := S.c 7 2 rfl rfl
      have Ht3 := Lib.hid ht3
      clear ht3
      go_wp2_with fail
      clear c7_0 c7_1 c7_2
      refine (S.call (rparse_any t3 _ (text_short (RS.out.mono (by decide)) Ht3.out) zS 0 (parse_text Ht3.out))).mono ?_
      clear S
      rintro e w13 ⟨⟨_, rfl, bU, pU, lU, KU, qU, jU, JU, rfl, hU, nU, dU⟩, S, H⟩
      replace nA := nA.hold H
      replace dA := dA.hold H
      replace nB := nB.hold H
      replace dB := dB.hold H
      replace nP := nP.hold H
      replace dP := dP.hold H
      replace nQ := nQ.hold H
      replace dQ := dQ.hold H
      replace nS := nS.hold H
      replace dS := dS.hold H
      replace nT := nT.hold H
      replace dT := dT.hold H
      clear H
      have c7_0 := S.c 7 0 rfl rfl
      have c7_1 := S.c 7 1 rfl rfl
      have c7_2 := S.c 7 2 rfl rfl
      have H := S.hnew 30 [.bool bU, .slice pU lU KU, .slice qU jU JU]
      replace S := S.alloc 30 [.bool bU, .slice pU lU KU, .slice qU jU JU] (w13.heap.size)
      try simp only [List.cons_append, List.nil_append] at S
      replace nA := nA.hold H
      replace dA := dA.hold H
      replace nB := nB.hold H
      replace dB := dB.hold H
      replace nP := nP.hold H
      replace dP := dP.hold H
      replace nQ := nQ.hold H
      replace dQ := dQ.hold H
      replace nS := nS.hold H
      replace dS := dS.hold H
      replace nT := nT.hold H
      replace dT := dT.hold H
      replace nU := nU.hold H
      replace dU := dU.hold H
      clear H
      clear c7_0 c7_1 c7_2
      have c6_0 := S.c 6 0 rfl rfl
      have c6_1 := S.c 6 1 rfl rfl
      have c6_2 := S.c 6 2 rfl rfl
      have c8_0 := S.c 8 0 rfl rfl
      have c8_1 := S.c 8 1 rfl rfl
      have c8_2 := S.c 8 2 rfl rfl
      go_wp2_with fail
      generalize (.tuple #[.agg #[.bool bU, .slice pU lU KU, .slice qU jU JU], .int .i64 0] : Value) = g5
      clear c6_0 c6_1 c6_2 c8_0 c8_1 c8_2
      refine (S.call (rcompare_any ⟨bS, pS, lS, KS, qS, jS, JS, rfl, hS, nS, dS⟩ ⟨bU, pU, lU, KU, qU, jU, JU, rfl, hU, nU, dU⟩ RS.out RS.out (by decide) 0 (cmpR_eq zS))).mono ?_
      clear S
      rintro e w14 ⟨rfl, S, H⟩
      replace nA := nA.hold H
      replace dA := dA.hold H
      replace nB := nB.hold H
      replace dB := dB.hold H
      replace nP := nP.hold H
      replace dP := dP.hold H
      replace nQ := nQ.hold H
      replace dQ := dQ.hold H
      replace nS := nS.hold H
      replace dS := dS.hold H
      replace nT := nT.hold H
      replace dT := dT.hold H
      replace nU := nU.hold H
      replace dU := dU.hold H
      clear H
      have c6_0 := S.c 6 0 rfl rfl
      have c6_1 := S.c 6 1 rfl rfl
      have c6_2 := S.c 6 2 rfl rfl
      have c8_0 := S.c 8 0 rfl rfl
      have c8_1 := S.c 8 1 rfl rfl
      have c8_2 := S.c 8 2 rfl rfl
      clear c6_0 c6_1 c6_2 c8_0 c8_1 c8_2
      have c6_0 := S.c 6 0 rfl rfl
      have c6_1 := S.c 6 1 rfl rfl
      have c6_2 := S.c 6 2 rfl rfl
      go_upto_region 16 with fail
      clear c6_0 c6_1 c6_2
      go_cut [21, 22] (fun s21 s22 wx => ∃ g21 bR pR lR KR qR jR JR, s21 = .pointer (some ⟨g21, 0, none⟩) ∧ s22 = .int .i64 0 ∧ St w wx [(w.heap.size, 30, [.bool bA, .slice pA lA KA, .slice qA jA JA]), (w.heap.size + 1, 30, [.bool bB, .slice pB lB KB, .slice qB jB JB]), (w1.heap.size, 30, [.bool bX, .slice pX lX KX, .slice qX jX JX]), (w4.heap.size, 30, [.bool bA, .slice pA lA KA, .slice qA jA JA, .bool bB, .slice pB lB KB, .slice qB jB JB]), (w7.heap.size, 30, [.bool bP, .slice pP lP KP, .slice qP jP JP]), (w9.heap.size, 30, [.bool bQ, .slice pQ lQ KQ, .slice qQ jQ JQ]), (w10.heap.size, 30, [.bool bS, .slice pS lS KS, .slice qS jS JS]), (w11.heap.size, 30, [.bool bT, .slice pT lT KT, .slice qT jT JT]), (w13.heap.size, 30, [.bool bU, .slice pU lU KU, .slice qU jU JU]), (g21, 30, [.bool bR, .slice pR lR KR, .slice qR jR JR])] ∧ Hid (negB zR.num = bR) ∧ IsNat wx (.slice pR lR KR) zR.num.natAbs ∧ IsNat wx (.slice qR jR JR) zR.den ∧ Hold w14 wx)
      case first =>
        have HH := Hold.drew w14
        replace nA := nA.hold HH
        replace dA := dA.hold HH
        replace nB := nB.hold HH
        replace dB := dB.hold HH
        replace nP := nP.hold HH
        replace dP := dP.hold HH
        replace nQ := nQ.hold HH
        replace dQ := dQ.hold HH
        replace nS := nS.hold HH
        replace dS := dS.hold HH
        replace nT := nT.hold HH
        replace dT := dT.hold HH
        replace nU := nU.hold HH
        replace dU := dU.hold HH
        replace S := S.drew
        refine wp_region_held_drew (S := fun W => W.cell? ⟨w10.heap.size, 0, none⟩ = some (.bool bS) ∧ W.cell? ⟨w10.heap.size, 1, none⟩ = some (.slice pS lS KS) ∧ W.cell? ⟨w10.heap.size, 2, none⟩ = some (.slice qS jS JS)) (by kernel_rfl) ⟨S.c 6 0 rfl rfl, S.c 6 1 rfl rfl, S.c 6 2 rfl rfl⟩ (fun hS => ?_)
        generalize w14.drew = w15 at S nA dA nB dB nP dP nQ dQ nS dS nT dT nU dU HH hS ⊢
        refine wpAnyH_take (i := 0) (v := ?_) ((List.getElem?_toArray ..).trans rfl) (by kernel_rfl) (by kernel_rfl) (by kernel_rfl) (fun _ _ _ h => h) (Or.inl ⟨rfl, fun W hW => ?_⟩) hS ?_
        rotate_left
        · obtain ⟨hW0, hW1, hW2⟩ := hW; go_simp; try first | rfl | (rw [if_neg (by first | omega | (simp only [ByteArray.size_append]; first | omega | (have h1 : (ByteArray.mk #[47]).size = 1 := rfl; omega)))]; try rfl) | kernel_rfl
        try simp only [Act.put, List.setIfInBounds_toArray, List.set_cons_zero, List.set_cons_succ]
        refine wpAnyH_take (i := 1) (v := ?_) ((List.getElem?_toArray ..).trans rfl) (by kernel_rfl) (by kernel_rfl) (by kernel_rfl) (fun _ _ _ h => h) (Or.inl ⟨rfl, fun W hW => ?_⟩) hS ?_
        rotate_left
        · obtain ⟨hW0, hW1, hW2⟩ := hW; go_simp; try first | rfl | (rw [if_neg (by first | omega | (simp only [ByteArray.size_append]; first | omega | (have h1 : (ByteArray.mk #[47]).size = 1 := rfl; omega)))]; try rfl) | kernel_rfl
        try simp only [Act.put, List.setIfInBounds_toArray, List.set_cons_zero, List.set_cons_succ]
        refine wpAnyH_ready (rs := [2, 8]) (by kernel_rfl) (by simp) (AllReadyH.cons ((List.getElem?_toArray ..).trans rfl) (fun KK hKK => ?_) (AllReadyH.cons ((List.getElem?_toArray ..).trans rfl) (fun KK hKK => ?_) AllReadyH.nil))
        ·
          go_simp
          clear hS
          refine (S.call (rfloor_any ⟨bS, pS, lS, KS, qS, jS, JS, rfl, hS, nS, dS⟩ (rb_max RS.out (by decide)) zf HF.out.1)).mono ?_
          clear S
          rintro e w16 ⟨⟨_, rfl, pf, lf, Kf, rfl, nf⟩, S, H⟩
          replace nA := nA.hold H
          replace dA := dA.hold H
          replace nB := nB.hold H
          replace dB := dB.hold H
          replace nP := nP.hold H
          replace dP := dP.hold H
          replace nQ := nQ.hold H
          replace dQ := dQ.hold H
          replace nS := nS.hold H
          replace dS := dS.hold H
          replace nT := nT.hold H
          replace dT := dT.hold H
          replace nU := nU.hold H
          replace dU := dU.hold H
          replace HH := HH.trans H
          clear H
          go_wp2_with fail
          refine hKK.out _ _ ⟨S.c 6 0 rfl rfl, S.c 6 1 rfl rfl, S.c 6 2 rfl rfl⟩ (fun hS => ?_)
          clear hKK KK
          try simp only [Act.put, List.setIfInBounds_toArray, List.set_cons_zero, List.set_cons_succ]
          refine wpAnyH_ready (rs := [3, 8]) (by kernel_rfl) (by simp) (AllReadyH.cons ((List.getElem?_toArray ..).trans rfl) (fun KK hKK => ?_) (AllReadyH.cons ((List.getElem?_toArray ..).trans rfl) (fun KK hKK => ?_) AllReadyH.nil))
          ·
            go_simp
            clear hS
            refine (S.call (rwhole_any ⟨_, _, _, rfl, nf⟩ HF.out.2 ((zf : Int) : Rat) rfl)).mono ?_
            clear S
            rintro e w17 ⟨⟨_, rfl, bF, pF, lF, KF, qF, jF, JF, rfl, hF, nF, dF⟩, S, H⟩
            replace nA := nA.hold H
            replace dA := dA.hold H
            replace nB := nB.hold H
            replace dB := dB.hold H
            replace nP := nP.hold H
            replace dP := dP.hold H
            replace nQ := nQ.hold H
            replace dQ := dQ.hold H
            replace nS := nS.hold H
            replace dS := dS.hold H
            replace nT := nT.hold H
            replace dT := dT.hold H
            replace nU := nU.hold H
            replace dU := dU.hold H
            replace nf := nf.hold H
            replace HH := HH.trans H
            clear H
            go_wp2_with fail
            refine hKK.out _ _ ⟨S.c 6 0 rfl rfl, S.c 6 1 rfl rfl, S.c 6 2 rfl rfl⟩ (fun hS => ?_)
            clear hKK KK
            try simp only [Act.put, List.setIfInBounds_toArray, List.set_cons_zero, List.set_cons_succ]
            refine wpAnyH_ready (rs := [4, 8]) (by kernel_rfl) (by simp) (AllReadyH.cons ((List.getElem?_toArray ..).trans rfl) (fun KK hKK => ?_) (AllReadyH.cons ((List.getElem?_toArray ..).trans rfl) (fun KK hKK => ?_) AllReadyH.nil))
            ·
              go_simp
              clear hS
              refine (S.call (rsub_any ⟨bS, pS, lS, KS, qS, jS, JS, rfl, hS, nS, dS⟩ ⟨bF, pF, lF, KF, qF, jF, JF, rfl, hF, nF, dF⟩ RS.out RF.out (by decide) zR HR.out)).mono ?_
              clear S
              rintro e w18 ⟨⟨_, rfl, bR, pR, lR, KR, qR, jR, JR, rfl, hR, nR, dR⟩, S, H⟩
              replace nA := nA.hold H
              replace dA := dA.hold H
              replace nB := nB.hold H
              replace dB := dB.hold H
              replace nP := nP.hold H
              replace dP := dP.hold H
              replace nQ := nQ.hold H
              replace dQ := dQ.hold H
              replace nS := nS.hold H
              replace dS := dS.hold H
              replace nT := nT.hold H
              replace dT := dT.hold H
              replace nU := nU.hold H
              replace dU := dU.hold H
              replace nf := nf.hold H
              replace nF := nF.hold H
              replace dF := dF.hold H
              replace HH := HH.trans H
              clear H
              go_wp2_with fail
              refine hKK.out _ _ ⟨S.c 6 0 rfl rfl, S.c 6 1 rfl rfl, S.c 6 2 rfl rfl⟩ (fun hS => ?_)
              clear hKK KK
              try simp only [Act.put, List.setIfInBounds_toArray, List.set_cons_zero, List.set_cons_succ]
              refine wpAnyH_take (i := 5) (v := ?_) ((List.getElem?_toArray ..).trans rfl) (by kernel_rfl) (by kernel_rfl) (by kernel_rfl) (fun _ _ _ h => h) (Or.inl ⟨rfl, fun W hW => ?_⟩) hS ?_
              rotate_left
              · obtain ⟨hW0, hW1, hW2⟩ := hW; go_simp; try first | rfl | (rw [if_neg (by first | omega | (simp only [ByteArray.size_append]; first | omega | (have h1 : (ByteArray.mk #[47]).size = 1 := rfl; omega)))]; try rfl) | kernel_rfl
              try simp only [Act.put, List.setIfInBounds_toArray, List.set_cons_zero, List.set_cons_succ]
              refine wpAnyH_take (i := 6) (v := ?_) ((List.getElem?_toArray ..).trans rfl) (by kernel_rfl) (by kernel_rfl) (by kernel_rfl) (fun _ _ _ h => h) (Or.inl ⟨rfl, fun W hW => ?_⟩) hS ?_
              rotate_left
              · obtain ⟨hW0, hW1, hW2⟩ := hW; go_simp; try first | rfl | (rw [if_neg (by first | omega | (simp only [ByteArray.size_append]; first | omega | (have h1 : (ByteArray.mk #[47]).size = 1 := rfl; omega)))]; try rfl) | kernel_rfl
              try simp only [Act.put, List.setIfInBounds_toArray, List.set_cons_zero, List.set_cons_succ]
              refine wpAnyH_take (i := 7) (v := ?_) ((List.getElem?_toArray ..).trans rfl) (by kernel_rfl) (by kernel_rfl) (by kernel_rfl) (fun _ _ _ h => h) (Or.inl ⟨rfl, fun W hW => ?_⟩) hS ?_
              rotate_left
              · obtain ⟨hW0, hW1, hW2⟩ := hW; go_simp; try first | rfl | (rw [if_neg (by first | omega | (simp only [ByteArray.size_append]; first | omega | (have h1 : (ByteArray.mk #[47]).size = 1 := rfl; omega)))]; try rfl) | kernel_rfl
              try simp only [Act.put, List.setIfInBounds_toArray, List.set_cons_zero, List.set_cons_succ]
              refine wpAnyH_ready (rs := [8]) (by kernel_rfl) (by simp) (AllReadyH.cons ((List.getElem?_toArray ..).trans rfl) (fun KK hKK => ?_) AllReadyH.nil)
              go_simp
              clear hS
              have H := S.hnew 30 [.bool false, .slice none 0 0, .slice none 0 0]
              replace S := S.alloc 30 [.bool false, .slice none 0 0, .slice none 0 0] (w18.heap.size)
              try simp only [List.cons_append, List.nil_append] at S
              replace nA := nA.hold H
              replace dA := dA.hold H
              replace nB := nB.hold H
              replace dB := dB.hold H
              replace nP := nP.hold H
              replace dP := dP.hold H
              replace nQ := nQ.hold H
              replace dQ := dQ.hold H
              replace nS := nS.hold H
              replace dS := dS.hold H
              replace nT := nT.hold H
              replace dT := dT.hold H
              replace nU := nU.hold H
              replace dU := dU.hold H
              replace nf := nf.hold H
              replace nF := nF.hold H
              replace dF := dF.hold H
              replace nR := nR.hold H
              replace dR := dR.hold H
              replace HH := HH.trans H
              clear H
              refine hKK.out _ _ ⟨S.c 6 0 rfl rfl, S.c 6 1 rfl rfl, S.c 6 2 rfl rfl⟩ (fun hS => ?_)
              generalize (w18.alloc (.cells #[.bool false, .slice none 0 0, .slice none 0 0] 30)) = w19 at S nA dA nB dB nP dP nQ dQ nS dS nT dT nU dU nf nF dF nR dR HH hS ⊢
              clear hKK KK
              try simp only [Act.put, List.setIfInBounds_toArray, List.set_cons_zero, List.set_cons_succ]
              refine wpAnyH_ready (rs := [9]) (by kernel_rfl) (by simp) (AllReadyH.cons ((List.getElem?_toArray ..).trans rfl) (fun KK hKK => ?_) AllReadyH.nil)
              have c0 := S.c 9 0 rfl rfl
              have f0 := S.f 9 0 rfl
              have c1 := S.c 9 1 rfl rfl
              have f1 := S.f 9 1 rfl
              have c2 := S.c 9 2 rfl rfl
              have f2 := S.f 9 2 rfl
              go_simp
              clear hS c0 f0 c1 f1 c2 f2
              have H := S.hset 9 0 (.bool bR) rfl rfl (by intro q n e; cases e)
              replace S := S.set 9 0 (.bool bR) rfl
              replace nA := nA.hold H
              replace dA := dA.hold H
              replace nB := nB.hold H
              replace dB := dB.hold H
              replace nP := nP.hold H
              replace dP := dP.hold H
              replace nQ := nQ.hold H
              replace dQ := dQ.hold H
              replace nS := nS.hold H
              replace dS := dS.hold H
              replace nT := nT.hold H
              replace dT := dT.hold H
              replace nU := nU.hold H
              replace dU := dU.hold H
              replace nf := nf.hold H
              replace nF := nF.hold H
              replace dF := dF.hold H
              replace nR := nR.hold H
              replace dR := dR.hold H
              replace HH := HH.trans H
              clear H
              have H := S.hset 9 1 (.slice pR lR KR) rfl rfl (by intro q n e; cases e)
              replace S := S.set 9 1 (.slice pR lR KR) rfl
              replace nA := nA.hold H
              replace dA := dA.hold H
              replace nB := nB.hold H
              replace dB := dB.hold H
              replace nP := nP.hold H
              replace dP := dP.hold H
              replace nQ := nQ.hold H
              replace dQ := dQ.hold H
              replace nS := nS.hold H
              replace dS := dS.hold H
              replace nT := nT.hold H
              replace dT := dT.hold H
              replace nU := nU.hold H
              replace dU := dU.hold H
              replace nf := nf.hold H
              replace nF := nF.hold H
              replace dF := dF.hold H
              replace nR := nR.hold H
              replace dR := dR.hold H
              replace HH := HH.trans H
              clear H
              have H := S.hset 9 2 (.slice qR jR JR) rfl rfl (by intro q n e; cases e)
              replace S := S.set 9 2 (.slice qR jR JR) rfl
              replace nA := nA.hold H
              replace dA := dA.hold H
              replace nB := nB.hold H
              replace dB := dB.hold H
              replace nP := nP.hold H
              replace dP := dP.hold H
              replace nQ := nQ.hold H
              replace dQ := dQ.hold H
              replace nS := nS.hold H
              replace dS := dS.hold H
              replace nT := nT.hold H
              replace dT := dT.hold H
              replace nU := nU.hold H
              replace dU := dU.hold H
              replace nf := nf.hold H
              replace nF := nF.hold H
              replace dF := dF.hold H
              replace nR := nR.hold H
              replace dR := dR.hold H
              replace HH := HH.trans H
              clear H
              refine hKK.out _ _ ⟨S.c 6 0 rfl rfl, S.c 6 1 rfl rfl, S.c 6 2 rfl rfl⟩ (fun hS => ?_)
              generalize (((w19.setCell ⟨w18.heap.size, 0, none⟩ (.bool bR)).setCell ⟨w18.heap.size, 1, none⟩ (.slice pR lR KR)).setCell ⟨w18.heap.size, 2, none⟩ (.slice qR jR JR)) = w20 at S nA dA nB dB nP dP nQ dQ nS dS nT dT nU dU nf nF dF nR dR HH hS ⊢
              clear hKK KK
              try simp only [Act.put, List.setIfInBounds_toArray, List.set_cons_zero, List.set_cons_succ]
              refine wpAnyH_ready (rs := [10]) (by kernel_rfl) (by simp) (AllReadyH.cons ((List.getElem?_toArray ..).trans rfl) (fun KK hKK => ?_) AllReadyH.nil)
              go_simp
              refine hKK.out _ _ hS (fun hS => ?_)
              clear hKK KK
              try simp only [Act.put, List.setIfInBounds_toArray, List.set_cons_zero, List.set_cons_succ]
              refine wpAnyH_done (by kernel_rfl) ?_ _
              go_wp2_with fail
              go_meet
              case rel => exact ⟨w18.heap.size, bR, pR, lR, KR, qR, jR, JR, rfl, rfl, S, hR, nR, dR, HH⟩
            ·
              go_simp
              clear hS
              have H := S.hnew 30 [.bool false, .slice none 0 0, .slice none 0 0]
              replace S := S.alloc 30 [.bool false, .slice none 0 0, .slice none 0 0] (w17.heap.size)
              try simp only [List.cons_append, List.nil_append] at S
              replace nA := nA.hold H
              replace dA := dA.hold H
              replace nB := nB.hold H
              replace dB := dB.hold H
              replace nP := nP.hold H
              replace dP := dP.hold H
              replace nQ := nQ.hold H
              replace dQ := dQ.hold H
              replace nS := nS.hold H
              replace dS := dS.hold H
              replace nT := nT.hold H
              replace dT := dT.hold H
              replace nU := nU.hold H
              replace dU := dU.hold H
              replace nf := nf.hold H
              replace nF := nF.hold H
              replace dF := dF.hold H
              replace HH := HH.trans H
              clear H
              refine hKK.out _ _ ⟨S.c 6 0 rfl rfl, S.c 6 1 rfl rfl, S.c 6 2 rfl rfl⟩ (fun hS => ?_)
              generalize (w17.alloc (.cells #[.bool false, .slice none 0 0, .slice none 0 0] 30)) = w21 at S nA dA nB dB nP dP nQ dQ nS dS nT dT nU dU nf nF dF HH hS ⊢
              clear hKK KK
              try simp only [Act.put, List.setIfInBounds_toArray, List.set_cons_zero, List.set_cons_succ]
              refine wpAnyH_ready (rs := [4]) (by kernel_rfl) (by simp) (AllReadyH.cons ((List.getElem?_toArray ..).trans rfl) (fun KK hKK => ?_) AllReadyH.nil)
              go_simp
              clear hS
              refine (S.call (rsub_any ⟨bS, pS, lS, KS, qS, jS, JS, rfl, hS, nS, dS⟩ ⟨bF, pF, lF, KF, qF, jF, JF, rfl, hF, nF, dF⟩ RS.out RF.out (by decide) zR HR.out)).mono ?_
              clear S
              rintro e w22 ⟨⟨_, rfl, bR, pR, lR, KR, qR, jR, JR, rfl, hR, nR, dR⟩, S, H⟩
              replace nA := nA.hold H
              replace dA := dA.hold H
              replace nB := nB.hold H
              replace dB := dB.hold H
              replace nP := nP.hold H
              replace dP := dP.hold H
              replace nQ := nQ.hold H
              replace dQ := dQ.hold H
              replace nS := nS.hold H
              replace dS := dS.hold H
              replace nT := nT.hold H
              replace dT := dT.hold H
              replace nU := nU.hold H
              replace dU := dU.hold H
              replace nf := nf.hold H
              replace nF := nF.hold H
              replace dF := dF.hold H
              replace HH := HH.trans H
              clear H
              go_wp2_with fail
              refine hKK.out _ _ ⟨S.c 6 0 rfl rfl, S.c 6 1 rfl rfl, S.c 6 2 rfl rfl⟩ (fun hS => ?_)
              clear hKK KK
              try simp only [Act.put, List.setIfInBounds_toArray, List.set_cons_zero, List.set_cons_succ]
              refine wpAnyH_take (i := 5) (v := ?_) ((List.getElem?_toArray ..).trans rfl) (by kernel_rfl) (by kernel_rfl) (by kernel_rfl) (fun _ _ _ h => h) (Or.inl ⟨rfl, fun W hW => ?_⟩) hS ?_
              rotate_left
              · obtain ⟨hW0, hW1, hW2⟩ := hW; go_simp; try first | rfl | (rw [if_neg (by first | omega | (simp only [ByteArray.size_append]; first | omega | (have h1 : (ByteArray.mk #[47]).size = 1 := rfl; omega)))]; try rfl) | kernel_rfl
              try simp only [Act.put, List.setIfInBounds_toArray, List.set_cons_zero, List.set_cons_succ]
              refine wpAnyH_take (i := 6) (v := ?_) ((List.getElem?_toArray ..).trans rfl) (by kernel_rfl) (by kernel_rfl) (by kernel_rfl) (fun _ _ _ h => h) (Or.inl ⟨rfl, fun W hW => ?_⟩) hS ?_
              rotate_left
              · obtain ⟨hW0, hW1, hW2⟩ := hW; go_simp; try first | rfl | (rw [if_neg (by first | omega | (simp only [ByteArray.size_append]; first | omega | (have h1 : (ByteArray.mk #[47]).size = 1 := rfl; omega)))]; try rfl) | kernel_rfl
              try simp only [Act.put, List.setIfInBounds_toArray, List.set_cons_zero, List.set_cons_succ]
              refine wpAnyH_take (i := 7) (v := ?_) ((List.getElem?_toArray ..).trans rfl) (by kernel_rfl) (by kernel_rfl) (by kernel_rfl) (fun _ _ _ h => h) (Or.inl ⟨rfl, fun W hW => ?_⟩) hS ?_
              rotate_left
              · obtain ⟨hW0, hW1, hW2⟩ := hW; go_simp; try first | rfl | (rw [if_neg (by first | omega | (simp only [ByteArray.size_append]; first | omega | (have h1 : (ByteArray.mk #[47]).size = 1 := rfl; omega)))]; try rfl) | kernel_rfl
              try simp only [Act.put, List.setIfInBounds_toArray, List.set_cons_zero, List.set_cons_succ]
              refine wpAnyH_ready (rs := [9]) (by kernel_rfl) (by simp) (AllReadyH.cons ((List.getElem?_toArray ..).trans rfl) (fun KK hKK => ?_) AllReadyH.nil)
              have c0 := S.c 9 0 rfl rfl
              have f0 := S.f 9 0 rfl
              have c1 := S.c 9 1 rfl rfl
              have f1 := S.f 9 1 rfl
              have c2 := S.c 9 2 rfl rfl
              have f2 := S.f 9 2 rfl
              go_simp
              clear hS c0 f0 c1 f1 c2 f2
              have H := S.hset 9 0 (.bool bR) rfl rfl (by intro q n e; cases e)
              replace S := S.set 9 0 (.bool bR) rfl
              replace nA := nA.hold H
              replace dA := dA.hold H
              replace nB := nB.hold H
              replace dB := dB.hold H
              replace nP := nP.hold H
              replace dP := dP.hold H
              replace nQ := nQ.hold H
              replace dQ := dQ.hold H
              replace nS := nS.hold H
              replace dS := dS.hold H
              replace nT := nT.hold H
              replace dT := dT.hold H
              replace nU := nU.hold H
              replace dU := dU.hold H
              replace nf := nf.hold H
              replace nF := nF.hold H
              replace dF := dF.hold H
              replace nR := nR.hold H
              replace dR := dR.hold H
              replace HH := HH.trans H
              clear H
              have H := S.hset 9 1 (.slice pR lR KR) rfl rfl (by intro q n e; cases e)
              replace S := S.set 9 1 (.slice pR lR KR) rfl
              replace nA := nA.hold H
              replace dA := dA.hold H
              replace nB := nB.hold H
              replace dB := dB.hold H
              replace nP := nP.hold H
              replace dP := dP.hold H
              replace nQ := nQ.hold H
              replace dQ := dQ.hold H
              replace nS := nS.hold H
              replace dS := dS.hold H
              replace nT := nT.hold H
              replace dT := dT.hold H
              replace nU := nU.hold H
              replace dU := dU.hold H
              replace nf := nf.hold H
              replace nF := nF.hold H
              replace dF := dF.hold H
              replace nR := nR.hold H
              replace dR := dR.hold H
              replace HH := HH.trans H
              clear H
              have H := S.hset 9 2 (.slice qR jR JR) rfl rfl (by intro q n e; cases e)
              replace S := S.set 9 2 (.slice qR jR JR) rfl
              replace nA := nA.hold H
              replace dA := dA.hold H
              replace nB := nB.hold H
              replace dB := dB.hold H
              replace nP := nP.hold H
              replace dP := dP.hold H
              replace nQ := nQ.hold H
              replace dQ := dQ.hold H
              replace nS := nS.hold H
              replace dS := dS.hold H
              replace nT := nT.hold H
              replace dT := dT.hold H
              replace nU := nU.hold H
              replace dU := dU.hold H
              replace nf := nf.hold H
              replace nF := nF.hold H
              replace dF := dF.hold H
              replace nR := nR.hold H
              replace dR := dR.hold H
              replace HH := HH.trans H
              clear H
              refine hKK.out _ _ ⟨S.c 6 0 rfl rfl, S.c 6 1 rfl rfl, S.c 6 2 rfl rfl⟩ (fun hS => ?_)
              generalize (((w22.setCell ⟨w17.heap.size, 0, none⟩ (.bool bR)).setCell ⟨w17.heap.size, 1, none⟩ (.slice pR lR KR)).setCell ⟨w17.heap.size, 2, none⟩ (.slice qR jR JR)) = w23 at S nA dA nB dB nP dP nQ dQ nS dS nT dT nU dU nf nF dF nR dR HH hS ⊢
              clear hKK KK
              try simp only [Act.put, List.setIfInBounds_toArray, List.set_cons_zero, List.set_cons_succ]
              refine wpAnyH_ready (rs := [10]) (by kernel_rfl) (by simp) (AllReadyH.cons ((List.getElem?_toArray ..).trans rfl) (fun KK hKK => ?_) AllReadyH.nil)
              go_simp
              refine hKK.out _ _ hS (fun hS => ?_)
              clear hKK KK
              try simp only [Act.put, List.setIfInBounds_toArray, List.set_cons_zero, List.set_cons_succ]
              refine wpAnyH_done (by kernel_rfl) ?_ _
              go_wp2_with fail
              go_meet
              case rel => exact ⟨w17.heap.size, bR, pR, lR, KR, qR, jR, JR, rfl, rfl, S, hR, nR, dR, HH⟩
          ·
            go_simp
            clear hS
            have H := S.hnew 30 [.bool false, .slice none 0 0, .slice none 0 0]
            replace S := S.alloc 30 [.bool false, .slice none 0 0, .slice none 0 0] (w16.heap.size)
            try simp only [List.cons_append, List.nil_append] at S
            replace nA := nA.hold H
            replace dA := dA.hold H
            replace nB := nB.hold H
            replace dB := dB.hold H
            replace nP := nP.hold H
            replace dP := dP.hold H
            replace nQ := nQ.hold H
            replace dQ := dQ.hold H
            replace nS := nS.hold H
            replace dS := dS.hold H
            replace nT := nT.hold H
            replace dT := dT.hold H
            replace nU := nU.hold H
            replace dU := dU.hold H
            replace nf := nf.hold H
            replace HH := HH.trans H
            clear H
            refine hKK.out _ _ ⟨S.c 6 0 rfl rfl, S.c 6 1 rfl rfl, S.c 6 2 rfl rfl⟩ (fun hS => ?_)
            generalize (w16.alloc (.cells #[.bool false, .slice none 0 0, .slice none 0 0] 30)) = w24 at S nA dA nB dB nP dP nQ dQ nS dS nT dT nU dU nf HH hS ⊢
            clear hKK KK
            try simp only [Act.put, List.setIfInBounds_toArray, List.set_cons_zero, List.set_cons_succ]
            refine wpAnyH_ready (rs := [3]) (by kernel_rfl) (by simp) (AllReadyH.cons ((List.getElem?_toArray ..).trans rfl) (fun KK hKK => ?_) AllReadyH.nil)
            go_simp
            clear hS
            refine (S.call (rwhole_any ⟨_, _, _, rfl, nf⟩ HF.out.2 ((zf : Int) : Rat) rfl)).mono ?_
            clear S
            rintro e w25 ⟨⟨_, rfl, bF, pF, lF, KF, qF, jF, JF, rfl, hF, nF, dF⟩, S, H⟩
            replace nA := nA.hold H
            replace dA := dA.hold H
            replace nB := nB.hold H
            replace dB := dB.hold H
            replace nP := nP.hold H
            replace dP := dP.hold H
            replace nQ := nQ.hold H
            replace dQ := dQ.hold H
            replace nS := nS.hold H
            replace dS := dS.hold H
            replace nT := nT.hold H
            replace dT := dT.hold H
            replace nU := nU.hold H
            replace dU := dU.hold H
            replace nf := nf.hold H
            replace HH := HH.trans H
            clear H
            go_wp2_with fail
            refine hKK.out _ _ ⟨S.c 6 0 rfl rfl, S.c 6 1 rfl rfl, S.c 6 2 rfl rfl⟩ (fun hS => ?_)
            clear hKK KK
            try simp only [Act.put, List.setIfInBounds_toArray, List.set_cons_zero, List.set_cons_succ]
            refine wpAnyH_ready (rs := [4]) (by kernel_rfl) (by simp) (AllReadyH.cons ((List.getElem?_toArray ..).trans rfl) (fun KK hKK => ?_) AllReadyH.nil)
            go_simp
            clear hS
            refine (S.call (rsub_any ⟨bS, pS, lS, KS, qS, jS, JS, rfl, hS, nS, dS⟩ ⟨bF, pF, lF, KF, qF, jF, JF, rfl, hF, nF, dF⟩ RS.out RF.out (by decide) zR HR.out)).mono ?_
            clear S
            rintro e w26 ⟨⟨_, rfl, bR, pR, lR, KR, qR, jR, JR, rfl, hR, nR, dR⟩, S, H⟩
            replace nA := nA.hold H
            replace dA := dA.hold H
            replace nB := nB.hold H
            replace dB := dB.hold H
            replace nP := nP.hold H
            replace dP := dP.hold H
            replace nQ := nQ.hold H
            replace dQ := dQ.hold H
            replace nS := nS.hold H
            replace dS := dS.hold H
            replace nT := nT.hold H
            replace dT := dT.hold H
            replace nU := nU.hold H
            replace dU := dU.hold H
            replace nf := nf.hold H
            replace nF := nF.hold H
            replace dF := dF.hold H
            replace HH := HH.trans H
            clear H
            go_wp2_with fail
            refine hKK.out _ _ ⟨S.c 6 0 rfl rfl, S.c 6 1 rfl rfl, S.c 6 2 rfl rfl⟩ (fun hS => ?_)
            clear hKK KK
            try simp only [Act.put, List.setIfInBounds_toArray, List.set_cons_zero, List.set_cons_succ]
            refine wpAnyH_take (i := 5) (v := ?_) ((List.getElem?_toArray ..).trans rfl) (by kernel_rfl) (by kernel_rfl) (by kernel_rfl) (fun _ _ _ h => h) (Or.inl ⟨rfl, fun W hW => ?_⟩) hS ?_
            rotate_left
            · obtain ⟨hW0, hW1, hW2⟩ := hW; go_simp; try first | rfl | (rw [if_neg (by first | omega | (simp only [ByteArray.size_append]; first | omega | (have h1 : (ByteArray.mk #[47]).size = 1 := rfl; omega)))]; try rfl) | kernel_rfl
            try simp only [Act.put, List.setIfInBounds_toArray, List.set_cons_zero, List.set_cons_succ]
            refine wpAnyH_take (i := 6) (v := ?_) ((List.getElem?_toArray ..).trans rfl) (by kernel_rfl) (by kernel_rfl) (by kernel_rfl) (fun _ _ _ h => h) (Or.inl ⟨rfl, fun W hW => ?_⟩) hS ?_
            rotate_left
            · obtain ⟨hW0, hW1, hW2⟩ := hW; go_simp; try first | rfl | (rw [if_neg (by first | omega | (simp only [ByteArray.size_append]; first | omega | (have h1 : (ByteArray.mk #[47]).size = 1 := rfl; omega)))]; try rfl) | kernel_rfl
            try simp only [Act.put, List.setIfInBounds_toArray, List.set_cons_zero, List.set_cons_succ]
            refine wpAnyH_take (i := 7) (v := ?_) ((List.getElem?_toArray ..).trans rfl) (by kernel_rfl) (by kernel_rfl) (by kernel_rfl) (fun _ _ _ h => h) (Or.inl ⟨rfl, fun W hW => ?_⟩) hS ?_
            rotate_left
            · obtain ⟨hW0, hW1, hW2⟩ := hW; go_simp; try first | rfl | (rw [if_neg (by first | omega | (simp only [ByteArray.size_append]; first | omega | (have h1 : (ByteArray.mk #[47]).size = 1 := rfl; omega)))]; try rfl) | kernel_rfl
            try simp only [Act.put, List.setIfInBounds_toArray, List.set_cons_zero, List.set_cons_succ]
            refine wpAnyH_ready (rs := [9]) (by kernel_rfl) (by simp) (AllReadyH.cons ((List.getElem?_toArray ..).trans rfl) (fun KK hKK => ?_) AllReadyH.nil)
            have c0 := S.c 9 0 rfl rfl
            have f0 := S.f 9 0 rfl
            have c1 := S.c 9 1 rfl rfl
            have f1 := S.f 9 1 rfl
            have c2 := S.c 9 2 rfl rfl
            have f2 := S.f 9 2 rfl
            go_simp
            clear hS c0 f0 c1 f1 c2 f2
            have H := S.hset 9 0 (.bool bR) rfl rfl (by intro q n e; cases e)
            replace S := S.set 9 0 (.bool bR) rfl
            replace nA := nA.hold H
            replace dA := dA.hold H
            replace nB := nB.hold H
            replace dB := dB.hold H
            replace nP := nP.hold H
            replace dP := dP.hold H
            replace nQ := nQ.hold H
            replace dQ := dQ.hold H
            replace nS := nS.hold H
            replace dS := dS.hold H
            replace nT := nT.hold H
            replace dT := dT.hold H
            replace nU := nU.hold H
            replace dU := dU.hold H
            replace nf := nf.hold H
            replace nF := nF.hold H
            replace dF := dF.hold H
            replace nR := nR.hold H
            replace dR := dR.hold H
            replace HH := HH.trans H
            clear H
            have H := S.hset 9 1 (.slice pR lR KR) rfl rfl (by intro q n e; cases e)
            replace S := S.set 9 1 (.slice pR lR KR) rfl
            replace nA := nA.hold H
            replace dA := dA.hold H
            replace nB := nB.hold H
            replace dB := dB.hold H
            replace nP := nP.hold H
            replace dP := dP.hold H
            replace nQ := nQ.hold H
            replace dQ := dQ.hold H
            replace nS := nS.hold H
            replace dS := dS.hold H
            replace nT := nT.hold H
            replace dT := dT.hold H
            replace nU := nU.hold H
            replace dU := dU.hold H
            replace nf := nf.hold H
            replace nF := nF.hold H
            replace dF := dF.hold H
            replace nR := nR.hold H
            replace dR := dR.hold H
            replace HH := HH.trans H
            clear H
            have H := S.hset 9 2 (.slice qR jR JR) rfl rfl (by intro q n e; cases e)
            replace S := S.set 9 2 (.slice qR jR JR) rfl
            replace nA := nA.hold H
            replace dA := dA.hold H
            replace nB := nB.hold H
            replace dB := dB.hold H
            replace nP := nP.hold H
            replace dP := dP.hold H
            replace nQ := nQ.hold H
            replace dQ := dQ.hold H
            replace nS := nS.hold H
            replace dS := dS.hold H
            replace nT := nT.hold H
            replace dT := dT.hold H
            replace nU := nU.hold H
            replace dU := dU.hold H
            replace nf := nf.hold H
            replace nF := nF.hold H
            replace dF := dF.hold H
            replace nR := nR.hold H
            replace dR := dR.hold H
            replace HH := HH.trans H
            clear H
            refine hKK.out _ _ ⟨S.c 6 0 rfl rfl, S.c 6 1 rfl rfl, S.c 6 2 rfl rfl⟩ (fun hS => ?_)
            generalize (((w26.setCell ⟨w16.heap.size, 0, none⟩ (.bool bR)).setCell ⟨w16.heap.size, 1, none⟩ (.slice pR lR KR)).setCell ⟨w16.heap.size, 2, none⟩ (.slice qR jR JR)) = w27 at S nA dA nB dB nP dP nQ dQ nS dS nT dT nU dU nf nF dF nR dR HH hS ⊢
            clear hKK KK
            try simp only [Act.put, List.setIfInBounds_toArray, List.set_cons_zero, List.set_cons_succ]
            refine wpAnyH_ready (rs := [10]) (by kernel_rfl) (by simp) (AllReadyH.cons ((List.getElem?_toArray ..).trans rfl) (fun KK hKK => ?_) AllReadyH.nil)
            go_simp
            refine hKK.out _ _ hS (fun hS => ?_)
            clear hKK KK
            try simp only [Act.put, List.setIfInBounds_toArray, List.set_cons_zero, List.set_cons_succ]
            refine wpAnyH_done (by kernel_rfl) ?_ _
            go_wp2_with fail
            go_meet
            case rel => exact ⟨w16.heap.size, bR, pR, lR, KR, qR, jR, JR, rfl, rfl, S, hR, nR, dR, HH⟩
        ·
          go_simp
          clear hS
          have H := S.hnew 30 [.bool false, .slice none 0 0, .slice none 0 0]
          replace S := S.alloc 30 [.bool false, .slice none 0 0, .slice none 0 0] (w15.heap.size)
          try simp only [List.cons_append, List.nil_append] at S
          replace nA := nA.hold H
          replace dA := dA.hold H
          replace nB := nB.hold H
          replace dB := dB.hold H
          replace nP := nP.hold H
          replace dP := dP.hold H
          replace nQ := nQ.hold H
          replace dQ := dQ.hold H
          replace nS := nS.hold H
          replace dS := dS.hold H
          replace nT := nT.hold H
          replace dT := dT.hold H
          replace nU := nU.hold H
          replace dU := dU.hold H
          replace HH := HH.trans H
          clear H
          refine hKK.out _ _ ⟨S.c 6 0 rfl rfl, S.c 6 1 rfl rfl, S.c 6 2 rfl rfl⟩ (fun hS => ?_)
          generalize (w15.alloc (.cells #[.bool false, .slice none 0 0, .slice none 0 0] 30)) = w28 at S nA dA nB dB nP dP nQ dQ nS dS nT dT nU dU HH hS ⊢
          clear hKK KK
          try simp only [Act.put, List.setIfInBounds_toArray, List.set_cons_zero, List.set_cons_succ]
          refine wpAnyH_ready (rs := [2]) (by kernel_rfl) (by simp) (AllReadyH.cons ((List.getElem?_toArray ..).trans rfl) (fun KK hKK => ?_) AllReadyH.nil)
          go_simp
          clear hS
          refine (S.call (rfloor_any ⟨bS, pS, lS, KS, qS, jS, JS, rfl, hS, nS, dS⟩ (rb_max RS.out (by decide)) zf HF.out.1)).mono ?_
          clear S
          rintro e w29 ⟨⟨_, rfl, pf, lf, Kf, rfl, nf⟩, S, H⟩
          replace nA := nA.hold H
          replace dA := dA.hold H
          replace nB := nB.hold H
          replace dB := dB.hold H
          replace nP := nP.hold H
          replace dP := dP.hold H
          replace nQ := nQ.hold H
          replace dQ := dQ.hold H
          replace nS := nS.hold H
          replace dS := dS.hold H
          replace nT := nT.hold H
          replace dT := dT.hold H
          replace nU := nU.hold H
          replace dU := dU.hold H
          replace HH := HH.trans H
          clear H
          go_wp2_with fail
          refine hKK.out _ _ ⟨S.c 6 0 rfl rfl, S.c 6 1 rfl rfl, S.c 6 2 rfl rfl⟩ (fun hS => ?_)
          clear hKK KK
          try simp only [Act.put, List.setIfInBounds_toArray, List.set_cons_zero, List.set_cons_succ]
          refine wpAnyH_ready (rs := [3]) (by kernel_rfl) (by simp) (AllReadyH.cons ((List.getElem?_toArray ..).trans rfl) (fun KK hKK => ?_) AllReadyH.nil)
          go_simp
          clear hS
          refine (S.call (rwhole_any ⟨_, _, _, rfl, nf⟩ HF.out.2 ((zf : Int) : Rat) rfl)).mono ?_
          clear S
          rintro e w30 ⟨⟨_, rfl, bF, pF, lF, KF, qF, jF, JF, rfl, hF, nF, dF⟩, S, H⟩
          replace nA := nA.hold H
          replace dA := dA.hold H
          replace nB := nB.hold H
          replace dB := dB.hold H
          replace nP := nP.hold H
          replace dP := dP.hold H
          replace nQ := nQ.hold H
          replace dQ := dQ.hold H
          replace nS := nS.hold H
          replace dS := dS.hold H
          replace nT := nT.hold H
          replace dT := dT.hold H
          replace nU := nU.hold H
          replace dU := dU.hold H
          replace nf := nf.hold H
          replace HH := HH.trans H
          clear H
          go_wp2_with fail
          refine hKK.out _ _ ⟨S.c 6 0 rfl rfl, S.c 6 1 rfl rfl, S.c 6 2 rfl rfl⟩ (fun hS => ?_)
          clear hKK KK
          try simp only [Act.put, List.setIfInBounds_toArray, List.set_cons_zero, List.set_cons_succ]
          refine wpAnyH_ready (rs := [4]) (by kernel_rfl) (by simp) (AllReadyH.cons ((List.getElem?_toArray ..).trans rfl) (fun KK hKK => ?_) AllReadyH.nil)
          go_simp
          clear hS
          refine (S.call (rsub_any ⟨bS, pS, lS, KS, qS, jS, JS, rfl, hS, nS, dS⟩ ⟨bF, pF, lF, KF, qF, jF, JF, rfl, hF, nF, dF⟩ RS.out RF.out (by decide) zR HR.out)).mono ?_
          clear S
          rintro e w31 ⟨⟨_, rfl, bR, pR, lR, KR, qR, jR, JR, rfl, hR, nR, dR⟩, S, H⟩
          replace nA := nA.hold H
          replace dA := dA.hold H
          replace nB := nB.hold H
          replace dB := dB.hold H
          replace nP := nP.hold H
          replace dP := dP.hold H
          replace nQ := nQ.hold H
          replace dQ := dQ.hold H
          replace nS := nS.hold H
          replace dS := dS.hold H
          replace nT := nT.hold H
          replace dT := dT.hold H
          replace nU := nU.hold H
          replace dU := dU.hold H
          replace nf := nf.hold H
          replace nF := nF.hold H
          replace dF := dF.hold H
          replace HH := HH.trans H
          clear H
          go_wp2_with fail
          refine hKK.out _ _ ⟨S.c 6 0 rfl rfl, S.c 6 1 rfl rfl, S.c 6 2 rfl rfl⟩ (fun hS => ?_)
          clear hKK KK
          try simp only [Act.put, List.setIfInBounds_toArray, List.set_cons_zero, List.set_cons_succ]
          refine wpAnyH_take (i := 5) (v := ?_) ((List.getElem?_toArray ..).trans rfl) (by kernel_rfl) (by kernel_rfl) (by kernel_rfl) (fun _ _ _ h => h) (Or.inl ⟨rfl, fun W hW => ?_⟩) hS ?_
          rotate_left
          · obtain ⟨hW0, hW1, hW2⟩ := hW; go_simp; try first | rfl | (rw [if_neg (by first | omega | (simp only [ByteArray.size_append]; first | omega | (have h1 : (ByteArray.mk #[47]).size = 1 := rfl; omega)))]; try rfl) | kernel_rfl
          try simp only [Act.put, List.setIfInBounds_toArray, List.set_cons_zero, List.set_cons_succ]
          refine wpAnyH_take (i := 6) (v := ?_) ((List.getElem?_toArray ..).trans rfl) (by kernel_rfl) (by kernel_rfl) (by kernel_rfl) (fun _ _ _ h => h) (Or.inl ⟨rfl, fun W hW => ?_⟩) hS ?_
          rotate_left
          · obtain ⟨hW0, hW1, hW2⟩ := hW; go_simp; try first | rfl | (rw [if_neg (by first | omega | (simp only [ByteArray.size_append]; first | omega | (have h1 : (ByteArray.mk #[47]).size = 1 := rfl; omega)))]; try rfl) | kernel_rfl
          try simp only [Act.put, List.setIfInBounds_toArray, List.set_cons_zero, List.set_cons_succ]
          refine wpAnyH_take (i := 7) (v := ?_) ((List.getElem?_toArray ..).trans rfl) (by kernel_rfl) (by kernel_rfl) (by kernel_rfl) (fun _ _ _ h => h) (Or.inl ⟨rfl, fun W hW => ?_⟩) hS ?_
          rotate_left
          · obtain ⟨hW0, hW1, hW2⟩ := hW; go_simp; try first | rfl | (rw [if_neg (by first | omega | (simp only [ByteArray.size_append]; first | omega | (have h1 : (ByteArray.mk #[47]).size = 1 := rfl; omega)))]; try rfl) | kernel_rfl
          try simp only [Act.put, List.setIfInBounds_toArray, List.set_cons_zero, List.set_cons_succ]
          refine wpAnyH_ready (rs := [9]) (by kernel_rfl) (by simp) (AllReadyH.cons ((List.getElem?_toArray ..).trans rfl) (fun KK hKK => ?_) AllReadyH.nil)
          have c0 := S.c 9 0 rfl rfl
          have f0 := S.f 9 0 rfl
          have c1 := S.c 9 1 rfl rfl
          have f1 := S.f 9 1 rfl
          have c2 := S.c 9 2 rfl rfl
          have f2 := S.f 9 2 rfl
          go_simp
          clear hS c0 f0 c1 f1 c2 f2
          have H := S.hset 9 0 (.bool bR) rfl rfl (by intro q n e; cases e)
          replace S := S.set 9 0 (.bool bR) rfl
          replace nA := nA.hold H
          replace dA := dA.hold H
          replace nB := nB.hold H
          replace dB := dB.hold H
          replace nP := nP.hold H
          replace dP := dP.hold H
          replace nQ := nQ.hold H
          replace dQ := dQ.hold H
          replace nS := nS.hold H
          replace dS := dS.hold H
          replace nT := nT.hold H
          replace dT := dT.hold H
          replace nU := nU.hold H
          replace dU := dU.hold H
          replace nf := nf.hold H
          replace nF := nF.hold H
          replace dF := dF.hold H
          replace nR := nR.hold H
          replace dR := dR.hold H
          replace HH := HH.trans H
          clear H
          have H := S.hset 9 1 (.slice pR lR KR) rfl rfl (by intro q n e; cases e)
          replace S := S.set 9 1 (.slice pR lR KR) rfl
          replace nA := nA.hold H
          replace dA := dA.hold H
          replace nB := nB.hold H
          replace dB := dB.hold H
          replace nP := nP.hold H
          replace dP := dP.hold H
          replace nQ := nQ.hold H
          replace dQ := dQ.hold H
          replace nS := nS.hold H
          replace dS := dS.hold H
          replace nT := nT.hold H
          replace dT := dT.hold H
          replace nU := nU.hold H
          replace dU := dU.hold H
          replace nf := nf.hold H
          replace nF := nF.hold H
          replace dF := dF.hold H
          replace nR := nR.hold H
          replace dR := dR.hold H
          replace HH := HH.trans H
          clear H
          have H := S.hset 9 2 (.slice qR jR JR) rfl rfl (by intro q n e; cases e)
          replace S := S.set 9 2 (.slice qR jR JR) rfl
          replace nA := nA.hold H
          replace dA := dA.hold H
          replace nB := nB.hold H
          replace dB := dB.hold H
          replace nP := nP.hold H
          replace dP := dP.hold H
          replace nQ := nQ.hold H
          replace dQ := dQ.hold H
          replace nS := nS.hold H
          replace dS := dS.hold H
          replace nT := nT.hold H
          replace dT := dT.hold H
          replace nU := nU.hold H
          replace dU := dU.hold H
          replace nf := nf.hold H
          replace nF := nF.hold H
          replace dF := dF.hold H
          replace nR := nR.hold H
          replace dR := dR.hold H
          replace HH := HH.trans H
          clear H
          refine hKK.out _ _ ⟨S.c 6 0 rfl rfl, S.c 6 1 rfl rfl, S.c 6 2 rfl rfl⟩ (fun hS => ?_)
          generalize (((w31.setCell ⟨w15.heap.size, 0, none⟩ (.bool bR)).setCell ⟨w15.heap.size, 1, none⟩ (.slice pR lR KR)).setCell ⟨w15.heap.size, 2, none⟩ (.slice qR jR JR)) = w32 at S nA dA nB dB nP dP nQ dQ nS dS nT dT nU dU nf nF dF nR dR HH hS ⊢
          clear hKK KK
          try simp only [Act.put, List.setIfInBounds_toArray, List.set_cons_zero, List.set_cons_succ]
          refine wpAnyH_ready (rs := [10]) (by kernel_rfl) (by simp) (AllReadyH.cons ((List.getElem?_toArray ..).trans rfl) (fun KK hKK => ?_) AllReadyH.nil)
          go_simp
          refine hKK.out _ _ hS (fun hS => ?_)
          clear hKK KK
          try simp only [Act.put, List.setIfInBounds_toArray, List.set_cons_zero, List.set_cons_succ]
          refine wpAnyH_done (by kernel_rfl) ?_ _
          go_wp2_with fail
          go_meet
          case rel => exact ⟨w15.heap.size, bR, pR, lR, KR, qR, jR, JR, rfl, rfl, S, hR, nR, dR, HH⟩
      case rest =>
        obtain ⟨g21, bR, pR, lR, KR, qR, jR, JR, rfl, rfl, S, hR, nR, dR, HH⟩ := hcut
        obtain ⟨w33, rfl⟩ : ∃ W : World, W = wc := ⟨_, rfl⟩
        replace nA := nA.hold HH
        replace dA := dA.hold HH
        replace nB := nB.hold HH
        replace dB := dB.hold HH
        replace nP := nP.hold HH
        replace dP := dP.hold HH
        replace nQ := nQ.hold HH
        replace dQ := dQ.hold HH
        replace nS := nS.hold HH
        replace dS := dS.hold HH
        replace nT := nT.hold HH
        replace dT := dT.hold HH
        replace nU := nU.hold HH
        replace dU := dU.hold HH
        clear HH
        have c9_0 := S.c 9 0 rfl rfl
        have c9_1 := S.c 9 1 rfl rfl
        have c9_2 := S.c 9 2 rfl rfl
        go_upto_region 17 with fail
        clear c9_0 c9_1 c9_2
        replace nA := nA.hold (Hold.drew _)
        replace dA := dA.hold (Hold.drew _)
        replace nB := nB.hold (Hold.drew _)
        replace dB := dB.hold (Hold.drew _)
        replace nP := nP.hold (Hold.drew _)
        replace dP := dP.hold (Hold.drew _)
        replace nQ := nQ.hold (Hold.drew _)
        replace dQ := dQ.hold (Hold.drew _)
        replace nS := nS.hold (Hold.drew _)
        replace dS := dS.hold (Hold.drew _)
        replace nT := nT.hold (Hold.drew _)
        replace dT := dT.hold (Hold.drew _)
        replace nU := nU.hold (Hold.drew _)
        replace dU := dU.hold (Hold.drew _)
        replace nR := nR.hold (Hold.drew _)
        replace dR := dR.hold (Hold.drew _)
        replace S := S.drew
        refine wp_region_held_drew (S := fun W => W.cell? ⟨g21, 0, none⟩ = some (.bool bR) ∧ W.cell? ⟨g21, 1, none⟩ = some (.slice pR lR KR) ∧ W.cell? ⟨g21, 2, none⟩ = some (.slice qR jR JR)) (by kernel_rfl) ⟨S.c 9 0 rfl rfl, S.c 9 1 rfl rfl, S.c 9 2 rfl rfl⟩ (fun hS => ?_)
        refine wpAnyH_take (i := 0) (v := ?_) ((List.getElem?_toArray ..).trans rfl) (by kernel_rfl) (by kernel_rfl) (by kernel_rfl) (fun _ _ _ h => h) (Or.inl ⟨rfl, fun W hW => ?_⟩) hS ?_
        rotate_left
        · obtain ⟨hW0, hW1, hW2⟩ := hW; go_simp; try first | rfl | (rw [if_neg (by first | omega | (simp only [ByteArray.size_append]; first | omega | (have h1 : (ByteArray.mk #[47]).size = 1 := rfl; omega)))]; try rfl) | kernel_rfl
        try simp only [Act.put, List.setIfInBounds_toArray, List.set_cons_zero, List.set_cons_succ]
        refine wpAnyH_ready (rs := [1]) (by kernel_rfl) (by simp) (AllReadyH.cons ((List.getElem?_toArray ..).trans rfl) (fun KK hKK => ?_) AllReadyH.nil)
        go_simp
        refine (S.call (rof_any 1 1 _ (by decide) (by decide) (by decide) (by decide) (by decide) 1 one_is)).mono ?_; clear S; rintro e w34 ⟨⟨_, rfl, bO, pO, lO, KO, qO, jO, JO, rfl, hO, nO, dO⟩, S, H⟩; replace nA := nA.hold H; replace dA := dA.hold H; replace nB := nB.hold H; replace dB := dB.hold H; replace nP := nP.hold H; replace dP := dP.hold H; replace nQ := nQ.hold H; replace dQ := dQ.hold H; replace nS := nS.hold H; replace dS := dS.hold H; replace nT := nT.hold H; replace dT := dT.hold H; replace nU := nU.hold H; replace dU := dU.hold H; replace nR := nR.hold H; replace dR := dR.hold H; clear H
        go_wp2_with fail
        refine hKK.out _ _ ⟨S.c 9 0 rfl rfl, S.c 9 1 rfl rfl, S.c 9 2 rfl rfl⟩ (fun hS => ?_)
        clear hKK KK
        try simp only [Act.put, List.setIfInBounds_toArray, List.set_cons_zero, List.set_cons_succ]
        refine wpAnyH_ready (rs := [2]) (by kernel_rfl) (by simp) (AllReadyH.cons ((List.getElem?_toArray ..).trans rfl) (fun KK hKK => ?_) AllReadyH.nil)
        go_simp
        refine (S.call (rcompare_any ⟨bR, pR, lR, KR, qR, jR, JR, rfl, hR, nR, dR⟩ ⟨bO, pO, lO, KO, qO, jO, JO, rfl, hO, nO, dO⟩ RR.out one_rb (by decide) (-1) HC.out)).mono ?_; clear S; rintro e w35 ⟨rfl, S, H⟩; replace nA := nA.hold H; replace dA := dA.hold H; replace nB := nB.hold H; replace dB := dB.hold H; replace nP := nP.hold H; replace dP := dP.hold H; replace nQ := nQ.hold H; replace dQ := dQ.hold H; replace nS := nS.hold H; replace dS := dS.hold H; replace nT := nT.hold H; replace dT := dT.hold H; replace nU := nU.hold H; replace dU := dU.hold H; replace nR := nR.hold H; replace dR := dR.hold H; replace nO := nO.hold H; replace dO := dO.hold H; clear H
        go_wp2_with fail
        refine hKK.out _ _ ⟨S.c 9 0 rfl rfl, S.c 9 1 rfl rfl, S.c 9 2 rfl rfl⟩ (fun hS => ?_)
        clear hKK KK
        try simp only [Act.put, List.setIfInBounds_toArray, List.set_cons_zero, List.set_cons_succ]
        refine wpAnyH_take (i := 3) (v := ?_) ((List.getElem?_toArray ..).trans rfl) (by kernel_rfl) (by kernel_rfl) (by kernel_rfl) (fun _ _ _ h => h) (Or.inl ⟨rfl, fun W hW => ?_⟩) hS ?_
        rotate_left
        · obtain ⟨hW0, hW1, hW2⟩ := hW; go_simp; try first | rfl | (rw [if_neg (by first | omega | (simp only [ByteArray.size_append]; first | omega | (have h1 : (ByteArray.mk #[47]).size = 1 := rfl; omega)))]; try rfl) | kernel_rfl
        try simp only [Act.put, List.setIfInBounds_toArray, List.set_cons_zero, List.set_cons_succ]
        refine wpAnyH_take (i := 4) (v := ?_) ((List.getElem?_toArray ..).trans rfl) (by kernel_rfl) (by kernel_rfl) (by kernel_rfl) (fun _ _ _ h => h) (Or.inl ⟨rfl, fun W hW => ?_⟩) hS ?_
        rotate_left
        · obtain ⟨hW0, hW1, hW2⟩ := hW; go_simp; try first | rfl | (rw [if_neg (by first | omega | (simp only [ByteArray.size_append]; first | omega | (have h1 : (ByteArray.mk #[47]).size = 1 := rfl; omega)))]; try rfl) | kernel_rfl
        try simp only [Act.put, List.setIfInBounds_toArray, List.set_cons_zero, List.set_cons_succ]
        refine wpAnyH_take (i := 5) (v := ?_) ((List.getElem?_toArray ..).trans rfl) (by kernel_rfl) (by kernel_rfl) (by kernel_rfl) (fun _ _ _ h => h) (Or.inl ⟨rfl, fun W hW => ?_⟩) hS ?_
        rotate_left
        · obtain ⟨hW0, hW1, hW2⟩ := hW; go_simp; try first | rfl | (rw [if_neg (by first | omega | (simp only [ByteArray.size_append]; first | omega | (have h1 : (ByteArray.mk #[47]).size = 1 := rfl; omega)))]; try rfl) | kernel_rfl
        try simp only [Act.put, List.setIfInBounds_toArray, List.set_cons_zero, List.set_cons_succ]
        refine wpAnyH_ready (rs := [6]) (by kernel_rfl) (by simp) (AllReadyH.cons ((List.getElem?_toArray ..).trans rfl) (fun KK hKK => ?_) AllReadyH.nil)
        go_simp
        refine hKK.out _ _ ⟨S.c 9 0 rfl rfl, S.c 9 1 rfl rfl, S.c 9 2 rfl rfl⟩ (fun hS => ?_)
        clear hKK KK
        try simp only [Act.put, List.setIfInBounds_toArray, List.set_cons_zero, List.set_cons_succ]
        refine wpAnyH_ready (rs := [7]) (by kernel_rfl) (by simp) (AllReadyH.cons ((List.getElem?_toArray ..).trans rfl) (fun KK hKK => ?_) AllReadyH.nil)
        go_simp
        refine hKK.out _ _ ⟨S.c 9 0 rfl rfl, S.c 9 1 rfl rfl, S.c 9 2 rfl rfl⟩ (fun hS => ?_)
        clear hKK KK
        try simp only [Act.put, List.setIfInBounds_toArray, List.set_cons_zero, List.set_cons_succ]
        refine wpAnyH_done (by kernel_rfl) ?_ _
        have c9_0 := S.c 9 0 rfl rfl
        have c9_1 := S.c 9 1 rfl rfl
        have c9_2 := S.c 9 2 rfl rfl
        go_wp2_with fail
        clear c9_0 c9_1 c9_2
        refine (S.call (rsign_any ⟨bR, pR, lR, KR, qR, jR, JR, rfl, hR, nR, dR⟩ (rb_max RR.out (by decide)).1 HSG.out)).mono ?_
        clear S
        rintro e w36 ⟨rfl, S, H⟩
        replace nA := nA.hold H
        replace dA := dA.hold H
        replace nB := nB.hold H
        replace dB := dB.hold H
        replace nP := nP.hold H
        replace dP := dP.hold H
        replace nQ := nQ.hold H
        replace dQ := dQ.hold H
        replace nS := nS.hold H
        replace dS := dS.hold H
        replace nT := nT.hold H
        replace dT := dT.hold H
        replace nU := nU.hold H
        replace dU := dU.hold H
        replace nR := nR.hold H
        replace dR := dR.hold H
        replace nO := nO.hold H
        replace dO := dO.hold H
        clear H
        have c9_0 := S.c 9 0 rfl rfl
        have c9_1 := S.c 9 1 rfl rfl
        have c9_2 := S.c 9 2 rfl rfl
        go_wp2_with fail
        exact bodyPost_ret (v := .bool true) (by simp [results, Try.f10, go_sem]) rfl (⟨rfl, S.below⟩)

end Go.Proofs.Ytggnjlbnfgjgdaa
