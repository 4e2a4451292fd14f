/-
  What the statement stands on.
-/
import Derived.Test.YtcdmojefheipoaaGreatDoorM30
import Derived.Test.YtcdmojefheipoaaGreatDoorM33
namespace Go.Proofs.YtcdmojefheipoaaGreatDoor
open Go.RowKit
def betw14A : List (List Nat) := [[],[],[0,1],[],[2,3],[],[4,5],[],[6,7],[],[8,9],[],[10,11],[],[12,13],[],[14,15],[],[16,17],[],[18,19],[],[20,21],[22],[23],[24],[25,24],[24,26],[27,24],[28],[29,28,28],[30,28],[28,31],[32,30],[33],[34,33,33],[35,33],[33,36],[37,35],[38],[39,38,38],[40,38],[38,41],[42,40],[43],[44,43,43],[45,43],[43,46],[47,45],[48],[49,48,48],[50,48],[48,51],[52,50],[53],[53,53],[54,55,55,53],[56,53],[53,57],[58,56],[59],[59,59],[60,61,61,59],[62,59],[59,63],[64,62],[65],[66,65,65],[67,65],[65,68],[69,67],[70],[70,71],[72,70],[73],[73],[74,75,73,73],[73,76],[77,76],[78],[78],[79,80,78,78],[81,81,78],[82,78],[78,83],[84,82],[85],[85,85],[86,87,87,85],[85,88],[89,88],[90],[91,90,90],[92,90],[92,93,93,90],[94,90],[90,95],[96,94],[97],[98,97,97],[99,99,97],[100,97],[97,101],[102,100],[103,103],[104,104,103],[105,105,103],[106,103],[103,107],[108,106],[109,109],[110,110,109],[111,111,109],[112,109],[109,113],[114,112],[115],[116,115,115],[117,115],[115,118],[119,117,0,1,2,3,4,5,6,7,8,9,10,11,12,13,14,15,16,17,18,19,20,21,22,23,24,25,26,27,28,29,30,31,32,33,34,35,36,37,38,39,40,41,42,43,44,45,46,47,48,49,50,51,52,53,54,55,56,57,58,59,60,61,62,63,64,65,66,67,68,69,70,71,72,73,74,75,76,77,78,79,80,81,82,83,84,85,86,87,88,89,90,91,92,93,94,95,96,97,98,99,100,101,102,103,104,105,106,107,108,109,110,111,112,113,114,115,116,117,118,119]]
def betw14D : List Nat := [104,105,106,107,108,109,110,111,112,113,114,115,116,117,118,119,120,121,122,123,124,125,126,127,128,129,130,131,132,133,134,135,136,137,138,139,140,141,142,143,144,145,146,147,148,149,150,151,152,153,154,155,156,157,158,159,160,161,162,163,164,165,166,167,168,169,170,171,172,173,174,175,176,177,178,179,180,181,182,183,184,185,186,187,188,189,190,191,192,193,194,195,196,197,198,199,200,201,202,203,204,205,206,207,208,209,210,211,212,213,214,215,216,217,218,219,220,221,222,223,1]
def betw14K : List (List Nat) := [[2],[4],[103,104],[6],[105,106],[8],[107,108],[10],[109,110],[12],[111,112],[14],[113,114],[16],[115,116],[18],[117,118],[20],[119,120],[22],[121,122],[24],[123,124],[125],[126],[26,127],[128,127],[127,129],[130],[5,131],[132,131],[133,131],[131,134],[135],[7,136],[137,136],[138,136],[136,139],[140],[9,141],[142,141],[143,141],[141,144],[145],[11,146],[147,146],[148,146],[146,149],[150],[13,151],[152,151],[153,151],[151,154],[155],[15,156],[156],[157,158,156],[159,156],[156,160],[161],[17,162],[162],[163,164,162],[165,162],[162,166],[167],[19,168],[169,168],[170,168],[168,171],[172],[21,173],[173,174],[175],[23,176],[11,176],[177,178,176],[176,179],[180],[1,181],[3,181],[182,183,181],[184,181],[185,181],[181,186],[187],[3,188],[188],[189,190,188],[188,191],[192],[3,193],[194,193],[193],[195,196,193],[197,193],[193,198],[199],[1,200],[201,200],[202,200],[203,200],[200,204],[205],[206],[207,206],[208,206],[209,206],[206,210],[211],[212],[213,212],[214,212],[215,212],[212,216],[217],[1,218],[219,218],[220,218],[218,221],[222]]
set_option maxRecDepth 100000 in
set_option maxHeartbeats 16000000 in
theorem between_any (w : World) (hT : Tab w) : Calls Tryz.prog 13 #[] w fun e w' => e = .returned (.bool true) ∧ Below w.heap.size w w' := by
  have HT := Lib.hid hT
  clear hT
  have S := St.start w
  go_enter Tryz.func13, Tryz.ntmps13
  go_wp2_with fail
  refine S.cl (dof_any (1) (0) _ (HT.out.below S.below) (by decide) (by decide) (by decide) (by decide) qs1 qs1_dq) ?_; clear S; rintro e w1 ⟨_, rfl, b1, p1, l1, K1, m1, e1, rfl, h1, n1, d1⟩ S H
  clear H; go_wp2_with fail
  refine S.cl (dof_any (2) (0) _ (HT.out.below S.below) (by decide) (by decide) (by decide) (by decide) qs2 qs2_dq) ?_; clear S; rintro e w2 ⟨_, rfl, b2, p2, l2, K2, m2, e2, rfl, h2, n2, d2⟩ S H
  replace n1 := n1.hold H; clear H; go_wp2_with fail
  refine S.cl (smake_any ⟨b1, p1, l1, K1, m1, e1, rfl, h1, n1, d1⟩ ⟨b2, p2, l2, K2, m2, e2, rfl, h2, n2, d2⟩ (by decide) qle12) ?_; clear S; rintro e w3 ⟨_, rfl, b11, p11, l11, K11, m11, e11, b12, p12, l12, K12, m12, e12, rfl, h11, n11, d11, h12, n12, d12⟩ S H
  replace n1 := n1.hold H; replace n2 := n2.hold H
  clear H; clear n1 n2
  have H := S.hnew 29 [.bool b11, .slice p11 l11 K11, .int .i64 e11, .bool b12, .slice p12 l12 K12, .int .i64 e12]
  replace S := S.al 29 [.bool b11, .slice p11 l11 K11, .int .i64 e11, .bool b12, .slice p12 l12 K12, .int .i64 e12] (w3.heap.size)
  replace n11 := n11.hold H; replace n12 := n12.hold H
  clear H; go_wp2_with fail
  generalize (.tuple #[.agg #[.bool b11, .slice p11 l11 K11, .int .i64 e11, .bool b12, .slice p12 l12 K12, .int .i64 e12], .int .i64 0] : Value) = g1
  refine S.cl (dof_any (-1) (0) _ (HT.out.below S.below) (by decide) (by decide) (by decide) (by decide) qsm1 qsm1_dq) ?_; clear S; rintro e w4 ⟨_, rfl, b1, p1, l1, K1, m1, e1, rfl, h1, n1, d1⟩ S H
  replace n11 := n11.hold H; replace n12 := n12.hold H
  clear H; go_wp2_with fail
  refine S.cl (dof_any (3) (0) _ (HT.out.below S.below) (by decide) (by decide) (by decide) (by decide) qs3 qs3_dq) ?_; clear S; rintro e w5 ⟨_, rfl, b2, p2, l2, K2, m2, e2, rfl, h2, n2, d2⟩ S H
  refine iv3 H n11 n12 n1 ?_; clear n11 n12 n1; intro n11 n12 n1
  clear H; go_wp2_with fail
  refine S.cl (smake_any ⟨b1, p1, l1, K1, m1, e1, rfl, h1, n1, d1⟩ ⟨b2, p2, l2, K2, m2, e2, rfl, h2, n2, d2⟩ (by decide) qle13) ?_; clear S; rintro e w6 ⟨_, rfl, b13, p13, l13, K13, m13, e13, b14, p14, l14, K14, m14, e14, rfl, h13, n13, d13, h14, n14, d14⟩ S H
  refine iv4 H n11 n12 n1 n2 ?_; clear n11 n12 n1 n2; intro n11 n12 n1 n2
  clear H; clear n1 n2
  have H := S.hnew 29 [.bool b13, .slice p13 l13 K13, .int .i64 e13, .bool b14, .slice p14 l14 K14, .int .i64 e14]
  replace S := S.al 29 [.bool b13, .slice p13 l13 K13, .int .i64 e13, .bool b14, .slice p14 l14 K14, .int .i64 e14] (w6.heap.size)
  refine iv4 H n11 n12 n13 n14 ?_; clear n11 n12 n13 n14; intro n11 n12 n13 n14
  clear H; have c0_ := S.c6 0 rfl; have c1_ := S.c6 1 rfl; go_wp2_with fail
  generalize (.tuple #[.agg #[.bool b13, .slice p13 l13 K13, .int .i64 e13, .bool b14, .slice p14 l14 K14, .int .i64 e14], .int .i64 0] : Value) = g2
  clear c0_ c1_
  refine S.cl (sadd_v (L := 100) (H := 164) (HT.out.below S.below) ⟨b11, p11, l11, K11, m11, e11, b12, p12, l12, K12, m12, e12, rfl, h11, n11, d11, h12, n12, d12⟩ ⟨b13, p13, l13, K13, m13, e13, b14, p14, l14, K14, m14, e14, rfl, h13, n13, d13, h14, n14, d14⟩ (by decide) 20 (by decide) (by decide) rq_add1 rq_add2) ?_; clear S; rintro e w7 ⟨_, rfl, b15, p15, l15, K15, m15, e15, b16, p16, l16, K16, m16, e16, rfl, h15, n15, d15, h16, n16, d16⟩ S H
  refine iv4 H n11 n12 n13 n14 ?_; clear n11 n12 n13 n14; intro n11 n12 n13 n14
  clear H; have c0_ := S.c6 0 rfl; have c1_ := S.c6 1 rfl
  have H := S.hnew 29 [.bool b15, .slice p15 l15 K15, .int .i64 e15, .bool b16, .slice p16 l16 K16, .int .i64 e16]
  replace S := S.al 29 [.bool b15, .slice p15 l15 K15, .int .i64 e15, .bool b16, .slice p16 l16 K16, .int .i64 e16] (w7.heap.size)
  refine iv6 H n11 n12 n13 n14 n15 n16 ?_; clear n11 n12 n13 n14 n15 n16; intro n11 n12 n13 n14 n15 n16
  clear H; clear c0_ c1_; have c0_ := S.c6 0 rfl; have c1_ := S.c6 1 rfl; go_wp2_with fail
  generalize (.tuple #[.agg #[.bool b15, .slice p15 l15 K15, .int .i64 e15, .bool b16, .slice p16 l16 K16, .int .i64 e16], .int .i64 0] : Value) = g3
  clear c0_ c1_
  refine S.cl (ssub_v (L := 100) (H := 164) (HT.out.below S.below) ⟨b11, p11, l11, K11, m11, e11, b12, p12, l12, K12, m12, e12, rfl, h11, n11, d11, h12, n12, d12⟩ ⟨b13, p13, l13, K13, m13, e13, b14, p14, l14, K14, m14, e14, rfl, h13, n13, d13, h14, n14, d14⟩ (by decide) 20 (by decide) (by decide) rq_sub1 rq_sub2) ?_; clear S; rintro e w8 ⟨_, rfl, b17, p17, l17, K17, m17, e17, b18, p18, l18, K18, m18, e18, rfl, h17, n17, d17, h18, n18, d18⟩ S H
  refine iv6 H n11 n12 n13 n14 n15 n16 ?_; clear n11 n12 n13 n14 n15 n16; intro n11 n12 n13 n14 n15 n16
  clear H; have c0_ := S.c6 0 rfl; have c1_ := S.c6 1 rfl
  have H := S.hnew 29 [.bool b17, .slice p17 l17 K17, .int .i64 e17, .bool b18, .slice p18 l18 K18, .int .i64 e18]
  replace S := S.al 29 [.bool b17, .slice p17 l17 K17, .int .i64 e17, .bool b18, .slice p18 l18 K18, .int .i64 e18] (w8.heap.size)
  refine iv8 H n11 n12 n13 n14 n15 n16 n17 n18 ?_; clear n11 n12 n13 n14 n15 n16 n17 n18; intro n11 n12 n13 n14 n15 n16 n17 n18
  clear H; clear c0_ c1_; have c0_ := S.c6 0 rfl; have c1_ := S.c6 1 rfl; go_wp2_with fail
  generalize (.tuple #[.agg #[.bool b17, .slice p17 l17 K17, .int .i64 e17, .bool b18, .slice p18 l18 K18, .int .i64 e18], .int .i64 0] : Value) = g4
  clear c0_ c1_
  refine S.cl (smul_v (L := 100) (H := 164) (HT.out.below S.below) ⟨b11, p11, l11, K11, m11, e11, b12, p12, l12, K12, m12, e12, rfl, h11, n11, d11, h12, n12, d12⟩ ⟨b13, p13, l13, K13, m13, e13, b14, p14, l14, K14, m14, e14, rfl, h13, n13, d13, h14, n14, d14⟩ (by decide) 20 (by decide) (by decide) rq_mul1 rq_mul2) ?_; clear S; rintro e w9 ⟨_, rfl, b19, p19, l19, K19, m19, e19, b20, p20, l20, K20, m20, e20, rfl, h19, n19, d19, h20, n20, d20⟩ S H
  refine iv8 H n11 n12 n13 n14 n15 n16 n17 n18 ?_; clear n11 n12 n13 n14 n15 n16 n17 n18; intro n11 n12 n13 n14 n15 n16 n17 n18
  clear H; have c0_ := S.c6 0 rfl; have c1_ := S.c6 1 rfl
  have H := S.hnew 29 [.bool b19, .slice p19 l19 K19, .int .i64 e19, .bool b20, .slice p20 l20 K20, .int .i64 e20]
  replace S := S.al 29 [.bool b19, .slice p19 l19 K19, .int .i64 e19, .bool b20, .slice p20 l20 K20, .int .i64 e20] (w9.heap.size)
  refine iv8 H n11 n12 n13 n14 n15 n16 n17 n18 ?_; clear n11 n12 n13 n14 n15 n16 n17 n18; intro n11 n12 n13 n14 n15 n16 n17 n18; refine iv2 H n19 n20 ?_; clear n19 n20; intro n19 n20
  clear H; clear c0_ c1_; have c0_ := S.c6 0 rfl; have c1_ := S.c6 1 rfl; clear c0_ c1_; go_wp2_with fail
  generalize (.tuple #[.agg #[.bool b19, .slice p19 l19 K19, .int .i64 e19, .bool b20, .slice p20 l20 K20, .int .i64 e20], .int .i64 0] : Value) = g5
  refine S.cl (rof_any 1 3 _ (by decide) (by decide) (by decide) (by decide) (by decide) qst qst_is) ?_; clear S; rintro e w10 ⟨_, rfl, b3, p3, l3, K3, q3, j3, J3, rfl, h3, n3, d3⟩ S H
  refine iv8 H n11 n12 n13 n14 n15 n16 n17 n18 ?_; clear n11 n12 n13 n14 n15 n16 n17 n18; intro n11 n12 n13 n14 n15 n16 n17 n18; refine iv2 H n19 n20 ?_; clear n19 n20; intro n19 n20
  clear H; go_wp2_with fail
  refine S.cl (snear_of (a := qst) 4 (HT.out.below S.below) ⟨b3, p3, l3, K3, q3, j3, J3, rfl, h3, n3, d3⟩ (fun _ _ hT ha => dnear_any hT ha qst_rb 4 (by decide) (by decide) false qst_ne 0 qst_tail 3 qst_div (by decide) qsl (by rw [qst_num]; exact qsl_near)) (fun _ _ hT ha => dnear_any hT ha qst_rb 4 (by decide) (by decide) true qst_ne 0 qst_tail 3 qst_div (by decide) qsu (by rw [qst_num]; exact qsu_near))) ?_; clear S; rintro e w11 ⟨_, rfl, b21, p21, l21, K21, m21, e21, b22, p22, l22, K22, m22, e22, rfl, h21, n21, d21, h22, n22, d22⟩ S H
  refine iv8 H n11 n12 n13 n14 n15 n16 n17 n18 ?_; clear n11 n12 n13 n14 n15 n16 n17 n18; intro n11 n12 n13 n14 n15 n16 n17 n18; refine iv4 H n19 n20 n3 d3 ?_; clear n19 n20 n3 d3; intro n19 n20 n3 d3
  clear H; clear n3 d3
  have H := S.hnew 29 [.bool b21, .slice p21 l21 K21, .int .i64 e21, .bool b22, .slice p22 l22 K22, .int .i64 e22]
  replace S := S.al 29 [.bool b21, .slice p21 l21 K21, .int .i64 e21, .bool b22, .slice p22 l22 K22, .int .i64 e22] (w11.heap.size)
  refine iv8 H n11 n12 n13 n14 n15 n16 n17 n18 ?_; clear n11 n12 n13 n14 n15 n16 n17 n18; intro n11 n12 n13 n14 n15 n16 n17 n18; refine iv4 H n19 n20 n21 n22 ?_; clear n19 n20 n21 n22; intro n19 n20 n21 n22
  clear H; have c0_ := S.c6 0 rfl; have c1_ := S.c6 1 rfl; go_wp2_with fail
  generalize (.tuple #[.agg #[.bool b21, .slice p21 l21 K21, .int .i64 e21, .bool b22, .slice p22 l22 K22, .int .i64 e22], .int .i64 0] : Value) = g6
  clear c0_ c1_
  refine S.cl (smeet_any ⟨b11, p11, l11, K11, m11, e11, b12, p12, l12, K12, m12, e12, rfl, h11, n11, d11, h12, n12, d12⟩ ⟨b13, p13, l13, K13, m13, e13, b14, p14, l14, K14, m14, e14, rfl, h13, n13, d13, h14, n14, d14⟩ (by decide) qmeet) ?_; clear S; rintro e w12 ⟨_, rfl, b23, p23, l23, K23, m23, e23, b24, p24, l24, K24, m24, e24, rfl, h23, n23, d23, h24, n24, d24⟩ S H
  refine iv8 H n11 n12 n13 n14 n15 n16 n17 n18 ?_; clear n11 n12 n13 n14 n15 n16 n17 n18; intro n11 n12 n13 n14 n15 n16 n17 n18; refine iv4 H n19 n20 n21 n22 ?_; clear n19 n20 n21 n22; intro n19 n20 n21 n22
  clear H; have c0_ := S.c6 0 rfl; have c1_ := S.c6 1 rfl
  have H := S.hnew 29 [.bool b23, .slice p23 l23 K23, .int .i64 e23, .bool b24, .slice p24 l24 K24, .int .i64 e24]
  replace S := S.al 29 [.bool b23, .slice p23 l23 K23, .int .i64 e23, .bool b24, .slice p24 l24 K24, .int .i64 e24] (w12.heap.size)
  refine iv8 H n11 n12 n13 n14 n15 n16 n17 n18 ?_; clear n11 n12 n13 n14 n15 n16 n17 n18; intro n11 n12 n13 n14 n15 n16 n17 n18; refine iv6 H n19 n20 n21 n22 n23 n24 ?_; clear n19 n20 n21 n22 n23 n24; intro n19 n20 n21 n22 n23 n24
  clear H; clear c0_ c1_; have c1_ := S.c6 1 rfl; go_wp2_with fail
  generalize (.tuple #[.agg #[.bool b23, .slice p23 l23 K23, .int .i64 e23, .bool b24, .slice p24 l24 K24, .int .i64 e24], .int .i64 0] : Value) = g7
  clear c1_
  refine S.cl (swidth_any (HT.out.below S.below) ⟨b13, p13, l13, K13, m13, e13, b14, p14, l14, K14, m14, e14, rfl, h13, n13, d13, h14, n14, d14⟩ (by decide) qs4 qwide) ?_; clear S; rintro e w13 ⟨_, rfl, b25, p25, l25, K25, m25, e25, rfl, h25, n25, d25⟩ S H
  refine iv8 H n11 n12 n13 n14 n15 n16 n17 n18 ?_; clear n11 n12 n13 n14 n15 n16 n17 n18; intro n11 n12 n13 n14 n15 n16 n17 n18; refine iv6 H n19 n20 n21 n22 n23 n24 ?_; clear n19 n20 n21 n22 n23 n24; intro n19 n20 n21 n22 n23 n24
  clear H; have c1_ := S.c6 1 rfl
  have H := S.hnew 27 [.bool b25, .slice p25 l25 K25, .int .i64 e25]
  replace S := S.al 27 [.bool b25, .slice p25 l25 K25, .int .i64 e25] (w13.heap.size)
  refine iv8 H n11 n12 n13 n14 n15 n16 n17 n18 ?_; clear n11 n12 n13 n14 n15 n16 n17 n18; intro n11 n12 n13 n14 n15 n16 n17 n18; refine iv7 H n19 n20 n21 n22 n23 n24 n25 ?_; clear n19 n20 n21 n22 n23 n24 n25; intro n19 n20 n21 n22 n23 n24 n25
  clear H; clear c1_; have c0_ := S.c6 0 rfl; go_wp2_with fail
  generalize (.tuple #[.agg #[.bool b25, .slice p25 l25 K25, .int .i64 e25], .int .i64 0] : Value) = g8
  clear c0_
  refine S.cl (smiddle_any (HT.out.below S.below) ⟨b11, p11, l11, K11, m11, e11, b12, p12, l12, K12, m12, e12, rfl, h11, n11, d11, h12, n12, d12⟩ (by decide) qsh qmid) ?_; clear S; rintro e w14 ⟨_, rfl, b26, p26, l26, K26, m26, e26, rfl, h26, n26, d26⟩ S H
  refine iv8 H n11 n12 n13 n14 n15 n16 n17 n18 ?_; clear n11 n12 n13 n14 n15 n16 n17 n18; intro n11 n12 n13 n14 n15 n16 n17 n18; refine iv7 H n19 n20 n21 n22 n23 n24 n25 ?_; clear n19 n20 n21 n22 n23 n24 n25; intro n19 n20 n21 n22 n23 n24 n25
  clear H; have c0_ := S.c6 0 rfl
  have H := S.hnew 27 [.bool b26, .slice p26 l26 K26, .int .i64 e26]
  replace S := S.al 27 [.bool b26, .slice p26 l26 K26, .int .i64 e26] (w14.heap.size)
  refine iv8 H n11 n12 n13 n14 n15 n16 n17 n18 ?_; clear n11 n12 n13 n14 n15 n16 n17 n18; intro n11 n12 n13 n14 n15 n16 n17 n18; refine iv8 H n19 n20 n21 n22 n23 n24 n25 n26 ?_; clear n19 n20 n21 n22 n23 n24 n25 n26; intro n19 n20 n21 n22 n23 n24 n25 n26
  clear H; clear c0_; have c0_ := S.c6 0 rfl; have c1_ := S.c6 1 rfl
  have H := S.hnew 29 [.bool b11, .slice p11 l11 K11, .int .i64 e11, .bool b12, .slice p12 l12 K12, .int .i64 e12, .bool b11, .slice p11 l11 K11, .int .i64 e11, .bool b12, .slice p12 l12 K12, .int .i64 e12, .bool b13, .slice p13 l13 K13, .int .i64 e13, .bool b14, .slice p14 l14 K14, .int .i64 e14]
  replace S := S.al 29 [.bool b11, .slice p11 l11 K11, .int .i64 e11, .bool b12, .slice p12 l12 K12, .int .i64 e12, .bool b11, .slice p11 l11 K11, .int .i64 e11, .bool b12, .slice p12 l12 K12, .int .i64 e12, .bool b13, .slice p13 l13 K13, .int .i64 e13, .bool b14, .slice p14 l14 K14, .int .i64 e14] (w14.heap.size + 1)
  refine iv8 H n11 n12 n13 n14 n15 n16 n17 n18 ?_; clear n11 n12 n13 n14 n15 n16 n17 n18; intro n11 n12 n13 n14 n15 n16 n17 n18; refine iv8 H n19 n20 n21 n22 n23 n24 n25 n26 ?_; clear n19 n20 n21 n22 n23 n24 n25 n26; intro n19 n20 n21 n22 n23 n24 n25 n26
  clear H; go_wp2_with fail
  generalize (.tuple #[.agg #[.bool b26, .slice p26 l26 K26, .int .i64 e26], .int .i64 0] : Value) = g9
  clear c0_ c1_
  refine S.cl (ssum3_v (HT.out.below S.below) (spans3 S 9 rfl ⟨h11, n11, d11, h12, n12, d12⟩ ⟨h11, n11, d11, h12, n12, d12⟩ ⟨h13, n13, d13, h14, n14, d14⟩) 20 (by decide) (by decide) (by decide) qs1 qs7 (by rw [rq_one, rq_two, rq_thr]) (by rw [rq_one', rq_two', rq_thr'])) ?_; clear S; rintro e w15 ⟨_, rfl, b27, p27, l27, K27, m27, e27, b28, p28, l28, K28, m28, e28, rfl, h27, n27, d27, h28, n28, d28⟩ S H
  refine iv8 H n11 n12 n13 n14 n15 n16 n17 n18 ?_; clear n11 n12 n13 n14 n15 n16 n17 n18; intro n11 n12 n13 n14 n15 n16 n17 n18; refine iv8 H n19 n20 n21 n22 n23 n24 n25 n26 ?_; clear n19 n20 n21 n22 n23 n24 n25 n26; intro n19 n20 n21 n22 n23 n24 n25 n26
  clear H; have c0_ := S.c6 0 rfl; have c1_ := S.c6 1 rfl
  have H := S.hnew 29 [.bool b27, .slice p27 l27 K27, .int .i64 e27, .bool b28, .slice p28 l28 K28, .int .i64 e28]
  replace S := S.al 29 [.bool b27, .slice p27 l27 K27, .int .i64 e27, .bool b28, .slice p28 l28 K28, .int .i64 e28] (w15.heap.size)
  refine iv8 H n11 n12 n13 n14 n15 n16 n17 n18 ?_; clear n11 n12 n13 n14 n15 n16 n17 n18; intro n11 n12 n13 n14 n15 n16 n17 n18; refine iv8 H n19 n20 n21 n22 n23 n24 n25 n26 ?_; clear n19 n20 n21 n22 n23 n24 n25 n26; intro n19 n20 n21 n22 n23 n24 n25 n26; refine iv2 H n27 n28 ?_; clear n27 n28; intro n27 n28
  clear H; clear c0_ c1_; have c5_ := S.c6 5 rfl
  go_upto_region 11 with fail
  clear c5_
  replace n11 := n11.hold (Hold.drew _); replace n12 := n12.hold (Hold.drew _); replace n13 := n13.hold (Hold.drew _); replace n14 := n14.hold (Hold.drew _); replace n15 := n15.hold (Hold.drew _); replace n16 := n16.hold (Hold.drew _); replace n17 := n17.hold (Hold.drew _); replace n18 := n18.hold (Hold.drew _); replace n19 := n19.hold (Hold.drew _); replace n20 := n20.hold (Hold.drew _); replace n21 := n21.hold (Hold.drew _); replace n22 := n22.hold (Hold.drew _); replace n23 := n23.hold (Hold.drew _); replace n24 := n24.hold (Hold.drew _); replace n25 := n25.hold (Hold.drew _); replace n26 := n26.hold (Hold.drew _); replace n27 := n27.hold (Hold.drew _); replace n28 := n28.hold (Hold.drew _)
  replace S := S.drew
  refine wp_region_held_drew (S := fun W => W.cell? ⟨w11.heap.size, 0, none⟩ = some (.bool b21) ∧ W.cell? ⟨w11.heap.size, 1, none⟩ = some (.slice p21 l21 K21) ∧ W.cell? ⟨w11.heap.size, 2, none⟩ = some (.int .i64 e21) ∧ W.cell? ⟨w11.heap.size, 3, none⟩ = some (.bool b22) ∧ W.cell? ⟨w11.heap.size, 4, none⟩ = some (.slice p22 l22 K22) ∧ W.cell? ⟨w11.heap.size, 5, none⟩ = some (.int .i64 e22)) (by kernel_rfl) (S.c6 5 rfl) (fun hS => ?_)
  refine tk 0 hS ?_
  refine rd 1 fun KK hKK => ?_
  go_simp
  refine (S.call (rof_any 1 3 _ (by decide) (by decide) (by decide) (by decide) (by decide) qst qst_is)).mono ?_; clear S; rintro e w16 ⟨⟨_, rfl, b3, p3, l3, K3, q3, j3, J3, rfl, h3, n3, d3⟩, S, H⟩; refine iv8 H n11 n12 n13 n14 n15 n16 n17 n18 ?_; clear n11 n12 n13 n14 n15 n16 n17 n18; intro n11 n12 n13 n14 n15 n16 n17 n18; refine iv8 H n19 n20 n21 n22 n23 n24 n25 n26 ?_; clear n19 n20 n21 n22 n23 n24 n25 n26; intro n19 n20 n21 n22 n23 n24 n25 n26; refine iv2 H n27 n28 ?_; clear n27 n28 H; intro n27 n28
  go_wp2_with fail
  refine ho hKK (S.c6 5 rfl) fun hS => ?_
  clear hKK KK
  refine rd 2 fun KK hKK => ?_
  go_simp
  refine (S.call (shasr_yes (k1 := 20) (k2 := 1) ⟨b21, p21, l21, K21, m21, e21, b22, p22, l22, K22, m22, e22, rfl, h21, n21, d21, h22, n22, d22⟩ ⟨b3, p3, l3, K3, q3, j3, J3, rfl, h3, n3, d3⟩ (by decide) (by decide) qst_rb (by decide) qlt qut)).mono ?_; clear S; rintro e w17 ⟨rfl, S, H⟩; refine iv8 H n11 n12 n13 n14 n15 n16 n17 n18 ?_; clear n11 n12 n13 n14 n15 n16 n17 n18; intro n11 n12 n13 n14 n15 n16 n17 n18; refine iv8 H n19 n20 n21 n22 n23 n24 n25 n26 ?_; clear n19 n20 n21 n22 n23 n24 n25 n26; intro n19 n20 n21 n22 n23 n24 n25 n26; refine iv4 H n27 n28 n3 d3 ?_; clear n27 n28 n3 d3 H; intro n27 n28 n3 d3
  go_wp2_with fail
  refine ho hKK (S.c6 5 rfl) fun hS => ?_
  clear hKK KK
  refine tk 3 hS ?_
  refine tk 4 hS ?_
  refine tk 5 hS ?_
  refine rd 6 fun KK hKK => ?_
  go_simp
  refine ho hKK (S.c6 5 rfl) fun hS => ?_
  clear hKK KK
  refine rd 7 fun KK hKK => ?_
  go_simp
  refine ho hKK (S.c6 5 rfl) fun hS => ?_
  clear hKK KK
  refine wpAnyH_done (by kernel_rfl) ?_ _
  clear n3 d3; have c5_ := S.c6 5 rfl; go_wp2_with fail
  generalize (.tuple #[.agg #[.bool b27, .slice p27 l27 K27, .int .i64 e27, .bool b28, .slice p28 l28 K28, .int .i64 e28], .int .i64 0] : Value) = g10
  clear c5_
  refine S.cl (sround_v (HT.out.below S.below) ⟨b21, p21, l21, K21, m21, e21, b22, p22, l22, K22, m22, e22, rfl, h21, n21, d21, h22, n22, d22⟩ (by decide) 2 (by decide) (by decide) rq_rnd1 rq_rnd2) ?_; clear S; rintro e w18 ⟨_, rfl, b29, p29, l29, K29, m29, e29, b30, p30, l30, K30, m30, e30, rfl, h29, n29, d29, h30, n30, d30⟩ S H
  refine iv8 H n11 n12 n13 n14 n15 n16 n17 n18 ?_; clear n11 n12 n13 n14 n15 n16 n17 n18; intro n11 n12 n13 n14 n15 n16 n17 n18; refine iv8 H n19 n20 n21 n22 n23 n24 n25 n26 ?_; clear n19 n20 n21 n22 n23 n24 n25 n26; intro n19 n20 n21 n22 n23 n24 n25 n26; refine iv2 H n27 n28 ?_; clear n27 n28; intro n27 n28
  clear H; have c5_ := S.c6 5 rfl
  have H := S.hnew 29 [.bool b29, .slice p29 l29 K29, .int .i64 e29, .bool b30, .slice p30 l30 K30, .int .i64 e30]
  replace S := S.al 29 [.bool b29, .slice p29 l29 K29, .int .i64 e29, .bool b30, .slice p30 l30 K30, .int .i64 e30] (w18.heap.size)
  refine iv8 H n11 n12 n13 n14 n15 n16 n17 n18 ?_; clear n11 n12 n13 n14 n15 n16 n17 n18; intro n11 n12 n13 n14 n15 n16 n17 n18; refine iv8 H n19 n20 n21 n22 n23 n24 n25 n26 ?_; clear n19 n20 n21 n22 n23 n24 n25 n26; intro n19 n20 n21 n22 n23 n24 n25 n26; refine iv4 H n27 n28 n29 n30 ?_; clear n27 n28 n29 n30; intro n27 n28 n29 n30
  clear H; clear c5_; go_wp2_with fail
  generalize (.tuple #[.agg #[.bool b29, .slice p29 l29 K29, .int .i64 e29, .bool b30, .slice p30 l30 K30, .int .i64 e30], .int .i64 0] : Value) = g11
  refine S.cl (dof_any (2) (0) _ (HT.out.below S.below) (by decide) (by decide) (by decide) (by decide) qs2 qs2_dq) ?_; clear S; rintro e w19 ⟨_, rfl, b1, p1, l1, K1, m1, e1, rfl, h1, n1, d1⟩ S H
  refine iv8 H n11 n12 n13 n14 n15 n16 n17 n18 ?_; clear n11 n12 n13 n14 n15 n16 n17 n18; intro n11 n12 n13 n14 n15 n16 n17 n18; refine iv8 H n19 n20 n21 n22 n23 n24 n25 n26 ?_; clear n19 n20 n21 n22 n23 n24 n25 n26; intro n19 n20 n21 n22 n23 n24 n25 n26; refine iv4 H n27 n28 n29 n30 ?_; clear n27 n28 n29 n30; intro n27 n28 n29 n30
  clear H; go_wp2_with fail
  refine S.cl (dof_any (1) (0) _ (HT.out.below S.below) (by decide) (by decide) (by decide) (by decide) qs1 qs1_dq) ?_; clear S; rintro e w20 ⟨_, rfl, b2, p2, l2, K2, m2, e2, rfl, h2, n2, d2⟩ S H
  refine iv8 H n11 n12 n13 n14 n15 n16 n17 n18 ?_; clear n11 n12 n13 n14 n15 n16 n17 n18; intro n11 n12 n13 n14 n15 n16 n17 n18; refine iv8 H n19 n20 n21 n22 n23 n24 n25 n26 ?_; clear n19 n20 n21 n22 n23 n24 n25 n26; intro n19 n20 n21 n22 n23 n24 n25 n26; refine iv5 H n27 n28 n29 n30 n1 ?_; clear n27 n28 n29 n30 n1; intro n27 n28 n29 n30 n1
  clear H; go_wp2_with fail
  refine S.cl (smake_back ⟨b1, p1, l1, K1, m1, e1, rfl, h1, n1, d1⟩ ⟨b2, p2, l2, K2, m2, e2, rfl, h2, n2, d2⟩ (by decide) qlt12) ?_; clear S; rintro e w21 rfl S H
  refine iv8 H n11 n12 n13 n14 n15 n16 n17 n18 ?_; clear n11 n12 n13 n14 n15 n16 n17 n18; intro n11 n12 n13 n14 n15 n16 n17 n18; refine iv8 H n19 n20 n21 n22 n23 n24 n25 n26 ?_; clear n19 n20 n21 n22 n23 n24 n25 n26; intro n19 n20 n21 n22 n23 n24 n25 n26; refine iv6 H n27 n28 n29 n30 n1 n2 ?_; clear n27 n28 n29 n30 n1 n2; intro n27 n28 n29 n30 n1 n2
  clear H; clear n1 n2
  have H := S.hnew 29 [.bool false, .slice none 0 0, .int .i64 0, .bool false, .slice none 0 0, .int .i64 0]
  replace S := S.al 29 [.bool false, .slice none 0 0, .int .i64 0, .bool false, .slice none 0 0, .int .i64 0] (w21.heap.size)
  refine iv8 H n11 n12 n13 n14 n15 n16 n17 n18 ?_; clear n11 n12 n13 n14 n15 n16 n17 n18; intro n11 n12 n13 n14 n15 n16 n17 n18; refine iv8 H n19 n20 n21 n22 n23 n24 n25 n26 ?_; clear n19 n20 n21 n22 n23 n24 n25 n26; intro n19 n20 n21 n22 n23 n24 n25 n26; refine iv4 H n27 n28 n29 n30 ?_; clear n27 n28 n29 n30; intro n27 n28 n29 n30
  clear H
  go_upto_region 14 with fail
  replace n11 := n11.hold (Hold.drew _); replace n12 := n12.hold (Hold.drew _); replace n13 := n13.hold (Hold.drew _); replace n14 := n14.hold (Hold.drew _); replace n15 := n15.hold (Hold.drew _); replace n16 := n16.hold (Hold.drew _); replace n17 := n17.hold (Hold.drew _); replace n18 := n18.hold (Hold.drew _); replace n19 := n19.hold (Hold.drew _); replace n20 := n20.hold (Hold.drew _); replace n21 := n21.hold (Hold.drew _); replace n22 := n22.hold (Hold.drew _); replace n23 := n23.hold (Hold.drew _); replace n24 := n24.hold (Hold.drew _); replace n25 := n25.hold (Hold.drew _); replace n26 := n26.hold (Hold.drew _); replace n27 := n27.hold (Hold.drew _); replace n28 := n28.hold (Hold.drew _); replace n29 := n29.hold (Hold.drew _); replace n30 := n30.hold (Hold.drew _)
  replace S := S.drew
  refine wp_region_held_drewL (A := betw14A) (D := betw14D) (K := betw14K) (bs := [false, false, false, false, false, false, false, false, false, false, false, false, false, false, false, false, false, false, false, false, false, false, false, false, false, false, false, false, false, false, false, false, false, false, false, false, false, false, false, false, false, false, false, false, false, false, false, false, false, false, false, false, false, false, false, false, false, false, false, false, false, false, false, false, false, false, false, false, false, false, false, false, false, false, false, false, false, false, false, false, false, false, false, false, false, false, false, false, false, false, false, false, false, false, false, false, false, false, false, false, false, false, false, false, false, false, false, false, false, false, false, false, false, false, false, false, false, false, false, false, false]) (n := 121) (S := fun W => W.cell? ⟨w3.heap.size, 0, none⟩ = some (.bool b11) ∧ W.cell? ⟨w3.heap.size, 1, none⟩ = some (.slice p11 l11 K11) ∧ W.cell? ⟨w3.heap.size, 2, none⟩ = some (.int .i64 e11) ∧ W.cell? ⟨w3.heap.size, 3, none⟩ = some (.bool b12) ∧ W.cell? ⟨w3.heap.size, 4, none⟩ = some (.slice p12 l12 K12) ∧ W.cell? ⟨w3.heap.size, 5, none⟩ = some (.int .i64 e12) ∧ W.cell? ⟨w6.heap.size, 0, none⟩ = some (.bool b13) ∧ W.cell? ⟨w6.heap.size, 1, none⟩ = some (.slice p13 l13 K13) ∧ W.cell? ⟨w6.heap.size, 2, none⟩ = some (.int .i64 e13) ∧ W.cell? ⟨w6.heap.size, 3, none⟩ = some (.bool b14) ∧ W.cell? ⟨w6.heap.size, 4, none⟩ = some (.slice p14 l14 K14) ∧ W.cell? ⟨w6.heap.size, 5, none⟩ = some (.int .i64 e14) ∧ W.cell? ⟨w7.heap.size, 0, none⟩ = some (.bool b15) ∧ W.cell? ⟨w7.heap.size, 1, none⟩ = some (.slice p15 l15 K15) ∧ W.cell? ⟨w7.heap.size, 2, none⟩ = some (.int .i64 e15) ∧ W.cell? ⟨w7.heap.size, 3, none⟩ = some (.bool b16) ∧ W.cell? ⟨w7.heap.size, 4, none⟩ = some (.slice p16 l16 K16) ∧ W.cell? ⟨w7.heap.size, 5, none⟩ = some (.int .i64 e16) ∧ W.cell? ⟨w8.heap.size, 0, none⟩ = some (.bool b17) ∧ W.cell? ⟨w8.heap.size, 1, none⟩ = some (.slice p17 l17 K17) ∧ W.cell? ⟨w8.heap.size, 2, none⟩ = some (.int .i64 e17) ∧ W.cell? ⟨w8.heap.size, 3, none⟩ = some (.bool b18) ∧ W.cell? ⟨w8.heap.size, 4, none⟩ = some (.slice p18 l18 K18) ∧ W.cell? ⟨w8.heap.size, 5, none⟩ = some (.int .i64 e18) ∧ W.cell? ⟨w9.heap.size, 0, none⟩ = some (.bool b19) ∧ W.cell? ⟨w9.heap.size, 1, none⟩ = some (.slice p19 l19 K19) ∧ W.cell? ⟨w9.heap.size, 2, none⟩ = some (.int .i64 e19) ∧ W.cell? ⟨w9.heap.size, 3, none⟩ = some (.bool b20) ∧ W.cell? ⟨w9.heap.size, 4, none⟩ = some (.slice p20 l20 K20) ∧ W.cell? ⟨w9.heap.size, 5, none⟩ = some (.int .i64 e20) ∧ W.cell? ⟨w11.heap.size, 0, none⟩ = some (.bool b21) ∧ W.cell? ⟨w11.heap.size, 1, none⟩ = some (.slice p21 l21 K21) ∧ W.cell? ⟨w11.heap.size, 2, none⟩ = some (.int .i64 e21) ∧ W.cell? ⟨w11.heap.size, 3, none⟩ = some (.bool b22) ∧ W.cell? ⟨w11.heap.size, 4, none⟩ = some (.slice p22 l22 K22) ∧ W.cell? ⟨w11.heap.size, 5, none⟩ = some (.int .i64 e22) ∧ W.cell? ⟨w12.heap.size, 0, none⟩ = some (.bool b23) ∧ W.cell? ⟨w12.heap.size, 1, none⟩ = some (.slice p23 l23 K23) ∧ W.cell? ⟨w12.heap.size, 2, none⟩ = some (.int .i64 e23) ∧ W.cell? ⟨w12.heap.size, 3, none⟩ = some (.bool b24) ∧ W.cell? ⟨w12.heap.size, 4, none⟩ = some (.slice p24 l24 K24) ∧ W.cell? ⟨w12.heap.size, 5, none⟩ = some (.int .i64 e24) ∧ W.cell? ⟨w13.heap.size, 0, none⟩ = some (.bool b25) ∧ W.cell? ⟨w13.heap.size, 1, none⟩ = some (.slice p25 l25 K25) ∧ W.cell? ⟨w13.heap.size, 2, none⟩ = some (.int .i64 e25) ∧ W.cell? ⟨w14.heap.size, 0, none⟩ = some (.bool b26) ∧ W.cell? ⟨w14.heap.size, 1, none⟩ = some (.slice p26 l26 K26) ∧ W.cell? ⟨w14.heap.size, 2, none⟩ = some (.int .i64 e26) ∧ W.cell? ⟨w15.heap.size, 0, none⟩ = some (.bool b27) ∧ W.cell? ⟨w15.heap.size, 1, none⟩ = some (.slice p27 l27 K27) ∧ W.cell? ⟨w15.heap.size, 2, none⟩ = some (.int .i64 e27) ∧ W.cell? ⟨w15.heap.size, 3, none⟩ = some (.bool b28) ∧ W.cell? ⟨w15.heap.size, 4, none⟩ = some (.slice p28 l28 K28) ∧ W.cell? ⟨w15.heap.size, 5, none⟩ = some (.int .i64 e28) ∧ W.cell? ⟨w18.heap.size, 0, none⟩ = some (.bool b29) ∧ W.cell? ⟨w18.heap.size, 1, none⟩ = some (.slice p29 l29 K29) ∧ W.cell? ⟨w18.heap.size, 2, none⟩ = some (.int .i64 e29) ∧ W.cell? ⟨w18.heap.size, 3, none⟩ = some (.bool b30) ∧ W.cell? ⟨w18.heap.size, 4, none⟩ = some (.slice p30 l30 K30) ∧ W.cell? ⟨w18.heap.size, 5, none⟩ = some (.int .i64 e30)) (by kernel_rfl) (by kernel_rfl) (by kernel_rfl) (by kernel_rfl) (by kernel_rfl) (con6 (S.c6 0 rfl) (con6 (S.c6 1 rfl) (con6 (S.c6 2 rfl) (con6 (S.c6 3 rfl) (con6 (S.c6 4 rfl) (con6 (S.c6 5 rfl) (con6 (S.c6 6 rfl) (con3 (S.c3 7 rfl) (con3 (S.c3 8 rfl) (con6 (S.c6 10 rfl) (S.c6 11 rfl))))))))))) (fun hTab hNoSel hS => ?_)
  refine wpAnyH_takeL (i := 0) (v := .int .i64 0) hTab (opOf rfl) hNoSel (by kernel_rfl) (fun _ _ _ h => h) (Or.inl ⟨by kernel_rfl, fun W _ => by kernel_rfl⟩) hS ?_
  dsimp only [setO, List.set_cons_zero, List.set_cons_succ]
  refine wpAnyH_takeL (i := 1) (v := .int .i64 0) hTab (opOf rfl) hNoSel (by kernel_rfl) (fun _ _ _ h => h) (Or.inl ⟨by kernel_rfl, fun W _ => by kernel_rfl⟩) hS ?_
  dsimp only [setO, List.set_cons_zero, List.set_cons_succ]
  refine wpAnyH_takeL (i := 2) (v := .int .i64 0) hTab (opOf rfl) hNoSel (by kernel_rfl) (fun _ _ _ h => h) (Or.inl ⟨by kernel_rfl, fun W _ => by kernel_rfl⟩) hS ?_
  dsimp only [setO, List.set_cons_zero, List.set_cons_succ]
  refine wpAnyH_takeL (i := 3) (v := .int .i64 0) hTab (opOf rfl) hNoSel (by kernel_rfl) (fun _ _ _ h => h) (Or.inl ⟨by kernel_rfl, fun W _ => by kernel_rfl⟩) hS ?_
  dsimp only [setO, List.set_cons_zero, List.set_cons_succ]
  refine wpAnyH_takeL (i := 4) (v := .int .i64 0) hTab (opOf rfl) hNoSel (by kernel_rfl) (fun _ _ _ h => h) (Or.inl ⟨by kernel_rfl, fun W _ => by kernel_rfl⟩) hS ?_
  dsimp only [setO, List.set_cons_zero, List.set_cons_succ]
  refine wpAnyH_takeL (i := 5) (v := .int .i64 0) hTab (opOf rfl) hNoSel (by kernel_rfl) (fun _ _ _ h => h) (Or.inl ⟨by kernel_rfl, fun W _ => by kernel_rfl⟩) hS ?_
  dsimp only [setO, List.set_cons_zero, List.set_cons_succ]
  refine wpAnyH_takeL (i := 6) (v := .int .i64 0) hTab (opOf rfl) hNoSel (by kernel_rfl) (fun _ _ _ h => h) (Or.inl ⟨by kernel_rfl, fun W _ => by kernel_rfl⟩) hS ?_
  dsimp only [setO, List.set_cons_zero, List.set_cons_succ]
  refine wpAnyH_takeL (i := 7) (v := .int .i64 0) hTab (opOf rfl) hNoSel (by kernel_rfl) (fun _ _ _ h => h) (Or.inl ⟨by kernel_rfl, fun W _ => by kernel_rfl⟩) hS ?_
  dsimp only [setO, List.set_cons_zero, List.set_cons_succ]
  refine wpAnyH_takeL (i := 8) (v := .int .i64 0) hTab (opOf rfl) hNoSel (by kernel_rfl) (fun _ _ _ h => h) (Or.inl ⟨by kernel_rfl, fun W _ => by kernel_rfl⟩) hS ?_
  dsimp only [setO, List.set_cons_zero, List.set_cons_succ]
  refine wpAnyH_takeL (i := 9) (v := .int .i64 0) hTab (opOf rfl) hNoSel (by kernel_rfl) (fun _ _ _ h => h) (Or.inl ⟨by kernel_rfl, fun W _ => by kernel_rfl⟩) hS ?_
  dsimp only [setO, List.set_cons_zero, List.set_cons_succ]
  refine wpAnyH_takeL (i := 10) (v := .int .i64 0) hTab (opOf rfl) hNoSel (by kernel_rfl) (fun _ _ _ h => h) (Or.inl ⟨by kernel_rfl, fun W _ => by kernel_rfl⟩) hS ?_
  dsimp only [setO, List.set_cons_zero, List.set_cons_succ]
  refine wpAnyH_takeL (i := 11) (v := .int .i64 0) hTab (opOf rfl) hNoSel (by kernel_rfl) (fun _ _ _ h => h) (Or.inl ⟨by kernel_rfl, fun W _ => by kernel_rfl⟩) hS ?_
  dsimp only [setO, List.set_cons_zero, List.set_cons_succ]
  refine wpAnyH_takeL (i := 12) (v := .int .i64 0) hTab (opOf rfl) hNoSel (by kernel_rfl) (fun _ _ _ h => h) (Or.inl ⟨by kernel_rfl, fun W _ => by kernel_rfl⟩) hS ?_
  dsimp only [setO, List.set_cons_zero, List.set_cons_succ]
  refine wpAnyH_takeL (i := 13) (v := .int .i64 0) hTab (opOf rfl) hNoSel (by kernel_rfl) (fun _ _ _ h => h) (Or.inl ⟨by kernel_rfl, fun W _ => by kernel_rfl⟩) hS ?_
  dsimp only [setO, List.set_cons_zero, List.set_cons_succ]
  refine wpAnyH_takeL (i := 14) (v := .int .i64 0) hTab (opOf rfl) hNoSel (by kernel_rfl) (fun _ _ _ h => h) (Or.inl ⟨by kernel_rfl, fun W _ => by kernel_rfl⟩) hS ?_
  dsimp only [setO, List.set_cons_zero, List.set_cons_succ]
  refine wpAnyH_takeL (i := 15) (v := .int .i64 0) hTab (opOf rfl) hNoSel (by kernel_rfl) (fun _ _ _ h => h) (Or.inl ⟨by kernel_rfl, fun W _ => by kernel_rfl⟩) hS ?_
  dsimp only [setO, List.set_cons_zero, List.set_cons_succ]
  refine wpAnyH_takeL (i := 16) (v := .int .i64 0) hTab (opOf rfl) hNoSel (by kernel_rfl) (fun _ _ _ h => h) (Or.inl ⟨by kernel_rfl, fun W _ => by kernel_rfl⟩) hS ?_
  dsimp only [setO, List.set_cons_zero, List.set_cons_succ]
  refine wpAnyH_takeL (i := 17) (v := .int .i64 0) hTab (opOf rfl) hNoSel (by kernel_rfl) (fun _ _ _ h => h) (Or.inl ⟨by kernel_rfl, fun W _ => by kernel_rfl⟩) hS ?_
  dsimp only [setO, List.set_cons_zero, List.set_cons_succ]
  refine wpAnyH_takeL (i := 18) (v := .int .i64 0) hTab (opOf rfl) hNoSel (by kernel_rfl) (fun _ _ _ h => h) (Or.inl ⟨by kernel_rfl, fun W _ => by kernel_rfl⟩) hS ?_
  dsimp only [setO, List.set_cons_zero, List.set_cons_succ]
  refine wpAnyH_takeL (i := 19) (v := .int .i64 0) hTab (opOf rfl) hNoSel (by kernel_rfl) (fun _ _ _ h => h) (Or.inl ⟨by kernel_rfl, fun W _ => by kernel_rfl⟩) hS ?_
  dsimp only [setO, List.set_cons_zero, List.set_cons_succ]
  refine wpAnyH_takeL (i := 20) (v := .int .i64 0) hTab (opOf rfl) hNoSel (by kernel_rfl) (fun _ _ _ h => h) (Or.inl ⟨by kernel_rfl, fun W _ => by kernel_rfl⟩) hS ?_
  dsimp only [setO, List.set_cons_zero, List.set_cons_succ]
  refine wpAnyH_takeL (i := 21) (v := .int .i64 0) hTab (opOf rfl) hNoSel (by kernel_rfl) (fun _ _ _ h => h) (Or.inl ⟨by kernel_rfl, fun W _ => by kernel_rfl⟩) hS ?_
  dsimp only [setO, List.set_cons_zero, List.set_cons_succ]
  refine wpAnyH_takeL (i := 22) (v := .int .i64 0) hTab (opOf rfl) hNoSel (by kernel_rfl) (fun _ _ _ h => h) (Or.inl ⟨by kernel_rfl, fun W _ => by kernel_rfl⟩) hS ?_
  dsimp only [setO, List.set_cons_zero, List.set_cons_succ]
  refine wpAnyH_takeL (i := 23) (v := .bool true) hTab (opOf rfl) hNoSel (by kernel_rfl) (fun _ _ _ h => h) (Or.inl ⟨by kernel_rfl, fun W _ => by kernel_rfl⟩) hS ?_
  dsimp only [setO, List.set_cons_zero, List.set_cons_succ]
  refine wpAnyH_takeL (i := 24) (v := .bool true) hTab (opOf rfl) hNoSel (by kernel_rfl) (fun _ _ _ h => h) (Or.inl ⟨by kernel_rfl, fun W _ => by kernel_rfl⟩) hS ?_
  dsimp only [setO, List.set_cons_zero, List.set_cons_succ]
  refine wpAnyH_takeL (i := 25) (v := .int .i64 1) hTab (opOf rfl) hNoSel (by kernel_rfl) (fun _ _ _ h => h) (Or.inl ⟨by kernel_rfl, fun W _ => by kernel_rfl⟩) hS ?_
  dsimp only [setO, List.set_cons_zero, List.set_cons_succ]
  refine wpAnyH_takeL (i := 26) (v := .bool true) hTab (opOf rfl) hNoSel (by kernel_rfl) (fun _ _ _ h => h) (Or.inl ⟨by kernel_rfl, fun W _ => by kernel_rfl⟩) hS ?_
  dsimp only [setO, List.set_cons_zero, List.set_cons_succ]
  refine wpAnyH_takeL (i := 27) (v := .bool true) hTab (opOf rfl) hNoSel (by kernel_rfl) (fun _ _ _ h => h) (Or.inl ⟨by kernel_rfl, fun W _ => by kernel_rfl⟩) hS ?_
  dsimp only [setO, List.set_cons_zero, List.set_cons_succ]
  refine wpAnyH_takeL (i := 28) (v := .bool true) hTab (opOf rfl) hNoSel (by kernel_rfl) (fun _ _ _ h => h) (Or.inl ⟨by kernel_rfl, fun W _ => by kernel_rfl⟩) hS ?_
  dsimp only [setO, List.set_cons_zero, List.set_cons_succ]
  refine wpAnyH_takeL (i := 29) (v := ?_) hTab (opOf rfl) hNoSel (by kernel_rfl) (fun _ _ _ h => h) (Or.inl ⟨rfl, fun W hW => ?_⟩) hS ?_
  rotate_left
  · have hW12 := hW.2.2.2.2.2.2.2.2.2.2.2.2.1; have hW13 := hW.2.2.2.2.2.2.2.2.2.2.2.2.2.1; have hW14 := hW.2.2.2.2.2.2.2.2.2.2.2.2.2.2.1; have hW15 := hW.2.2.2.2.2.2.2.2.2.2.2.2.2.2.2.1; have hW16 := hW.2.2.2.2.2.2.2.2.2.2.2.2.2.2.2.2.1; have hW17 := hW.2.2.2.2.2.2.2.2.2.2.2.2.2.2.2.2.2.1; clear hW; go_simp; try first | rfl | kernel_rfl
  dsimp only [setO, List.set_cons_zero, List.set_cons_succ]
  refine wpAnyH_readyL hTab (by kernel_rfl) (rs := [30]) (by kernel_rfl) (by simp) (AllReadyH.cons (opOf rfl) (fun KK hKK => ?_) AllReadyH.nil)
  go_simp
  refine (S.call (stext_v (L := 100) (H := 166) ⟨b15, p15, l15, K15, m15, e15, b16, p16, l16, K16, m16, e16, rfl, h15, n15, d15, h16, n16, d16⟩ (by decide) qs0 qs5 rfl rfl qs0_rb qs5_rb ⟨#[48]⟩ ⟨#[53]⟩ ⟨#[48, 46, 46, 53]⟩ qs0_text qs5_text (by decide) (by decide) (by decide +kernel))).mono ?_; clear S; rintro e w22 ⟨rfl, S, H⟩; refine iv8 H n11 n12 n13 n14 n15 n16 n17 n18 ?_; clear n11 n12 n13 n14 n15 n16 n17 n18; intro n11 n12 n13 n14 n15 n16 n17 n18; refine iv8 H n19 n20 n21 n22 n23 n24 n25 n26 ?_; clear n19 n20 n21 n22 n23 n24 n25 n26; intro n19 n20 n21 n22 n23 n24 n25 n26; refine iv4 H n27 n28 n29 n30 ?_; clear n27 n28 n29 n30 H; intro n27 n28 n29 n30
  go_wp2_with fail
  refine hKK.out _ _ (con6 (S.c6 0 rfl) (con6 (S.c6 1 rfl) (con6 (S.c6 2 rfl) (con6 (S.c6 3 rfl) (con6 (S.c6 4 rfl) (con6 (S.c6 5 rfl) (con6 (S.c6 6 rfl) (con3 (S.c3 7 rfl) (con3 (S.c3 8 rfl) (con6 (S.c6 10 rfl) (S.c6 11 rfl))))))))))) (fun hS => ?_)
  clear hKK KK
  refine wpAnyH_setL ?_; dsimp only [List.set_cons_zero, List.set_cons_succ]
  refine wpAnyH_takeL (i := 31) (v := .bool true) hTab (opOf rfl) hNoSel (by kernel_rfl) (fun _ _ _ h => h) (Or.inl ⟨by kernel_rfl, fun W _ => by kernel_rfl⟩) hS ?_
  dsimp only [setO, List.set_cons_zero, List.set_cons_succ]
  refine wpAnyH_takeL (i := 32) (v := .bool true) hTab (opOf rfl) hNoSel (by kernel_rfl) (fun _ _ _ h => h) (Or.inl ⟨by kernel_rfl, fun W _ => by kernel_rfl⟩) hS ?_
  dsimp only [setO, List.set_cons_zero, List.set_cons_succ]
  refine wpAnyH_takeL (i := 33) (v := .bool true) hTab (opOf rfl) hNoSel (by kernel_rfl) (fun _ _ _ h => h) (Or.inl ⟨by kernel_rfl, fun W _ => by kernel_rfl⟩) hS ?_
  dsimp only [setO, List.set_cons_zero, List.set_cons_succ]
  refine wpAnyH_takeL (i := 34) (v := ?_) hTab (opOf rfl) hNoSel (by kernel_rfl) (fun _ _ _ h => h) (Or.inl ⟨rfl, fun W hW => ?_⟩) hS ?_
  rotate_left
  · have hW18 := hW.2.2.2.2.2.2.2.2.2.2.2.2.2.2.2.2.2.2.1; have hW19 := hW.2.2.2.2.2.2.2.2.2.2.2.2.2.2.2.2.2.2.2.1; have hW20 := hW.2.2.2.2.2.2.2.2.2.2.2.2.2.2.2.2.2.2.2.2.1; have hW21 := hW.2.2.2.2.2.2.2.2.2.2.2.2.2.2.2.2.2.2.2.2.2.1; have hW22 := hW.2.2.2.2.2.2.2.2.2.2.2.2.2.2.2.2.2.2.2.2.2.2.1; have hW23 := hW.2.2.2.2.2.2.2.2.2.2.2.2.2.2.2.2.2.2.2.2.2.2.2.1; clear hW; go_simp; try first | rfl | kernel_rfl
  dsimp only [setO, List.set_cons_zero, List.set_cons_succ]
  refine wpAnyH_readyL hTab (by kernel_rfl) (rs := [35]) (by kernel_rfl) (by simp) (AllReadyH.cons (opOf rfl) (fun KK hKK => ?_) AllReadyH.nil)
  go_simp
  refine (S.call (stext_v (L := 100) (H := 166) ⟨b17, p17, l17, K17, m17, e17, b18, p18, l18, K18, m18, e18, rfl, h17, n17, d17, h18, n18, d18⟩ (by decide) qsm2 qs3 rfl rfl qsm2_rb qs3_rb ⟨#[45, 50]⟩ ⟨#[51]⟩ ⟨#[45, 50, 46, 46, 51]⟩ qsm2_text qs3_text (by decide) (by decide) (by decide +kernel))).mono ?_; clear S; rintro e w23 ⟨rfl, S, H⟩; refine iv8 H n11 n12 n13 n14 n15 n16 n17 n18 ?_; clear n11 n12 n13 n14 n15 n16 n17 n18; intro n11 n12 n13 n14 n15 n16 n17 n18; refine iv8 H n19 n20 n21 n22 n23 n24 n25 n26 ?_; clear n19 n20 n21 n22 n23 n24 n25 n26; intro n19 n20 n21 n22 n23 n24 n25 n26; refine iv4 H n27 n28 n29 n30 ?_; clear n27 n28 n29 n30 H; intro n27 n28 n29 n30
  go_wp2_with fail
  refine hKK.out _ _ (con6 (S.c6 0 rfl) (con6 (S.c6 1 rfl) (con6 (S.c6 2 rfl) (con6 (S.c6 3 rfl) (con6 (S.c6 4 rfl) (con6 (S.c6 5 rfl) (con6 (S.c6 6 rfl) (con3 (S.c3 7 rfl) (con3 (S.c3 8 rfl) (con6 (S.c6 10 rfl) (S.c6 11 rfl))))))))))) (fun hS => ?_)
  clear hKK KK
  refine wpAnyH_setL ?_; dsimp only [List.set_cons_zero, List.set_cons_succ]
  refine wpAnyH_takeL (i := 36) (v := .bool true) hTab (opOf rfl) hNoSel (by kernel_rfl) (fun _ _ _ h => h) (Or.inl ⟨by kernel_rfl, fun W _ => by kernel_rfl⟩) hS ?_
  dsimp only [setO, List.set_cons_zero, List.set_cons_succ]
  refine wpAnyH_takeL (i := 37) (v := .bool true) hTab (opOf rfl) hNoSel (by kernel_rfl) (fun _ _ _ h => h) (Or.inl ⟨by kernel_rfl, fun W _ => by kernel_rfl⟩) hS ?_
  dsimp only [setO, List.set_cons_zero, List.set_cons_succ]
  refine wpAnyH_takeL (i := 38) (v := .bool true) hTab (opOf rfl) hNoSel (by kernel_rfl) (fun _ _ _ h => h) (Or.inl ⟨by kernel_rfl, fun W _ => by kernel_rfl⟩) hS ?_
  dsimp only [setO, List.set_cons_zero, List.set_cons_succ]
  refine wpAnyH_takeL (i := 39) (v := ?_) hTab (opOf rfl) hNoSel (by kernel_rfl) (fun _ _ _ h => h) (Or.inl ⟨rfl, fun W hW => ?_⟩) hS ?_
  rotate_left
  · have hW24 := hW.2.2.2.2.2.2.2.2.2.2.2.2.2.2.2.2.2.2.2.2.2.2.2.2.1; have hW25 := hW.2.2.2.2.2.2.2.2.2.2.2.2.2.2.2.2.2.2.2.2.2.2.2.2.2.1; have hW26 := hW.2.2.2.2.2.2.2.2.2.2.2.2.2.2.2.2.2.2.2.2.2.2.2.2.2.2.1; have hW27 := hW.2.2.2.2.2.2.2.2.2.2.2.2.2.2.2.2.2.2.2.2.2.2.2.2.2.2.2.1; have hW28 := hW.2.2.2.2.2.2.2.2.2.2.2.2.2.2.2.2.2.2.2.2.2.2.2.2.2.2.2.2.1; have hW29 := hW.2.2.2.2.2.2.2.2.2.2.2.2.2.2.2.2.2.2.2.2.2.2.2.2.2.2.2.2.2.1; clear hW; go_simp; try first | rfl | kernel_rfl
  dsimp only [setO, List.set_cons_zero, List.set_cons_succ]
  refine wpAnyH_readyL hTab (by kernel_rfl) (rs := [40]) (by kernel_rfl) (by simp) (AllReadyH.cons (opOf rfl) (fun KK hKK => ?_) AllReadyH.nil)
  go_simp
  refine (S.call (stext_v (L := 200) (H := 329) ⟨b19, p19, l19, K19, m19, e19, b20, p20, l20, K20, m20, e20, rfl, h19, n19, d19, h20, n20, d20⟩ (by decide) qsm2 qs6 rfl rfl qsm2_rb qs6_rb ⟨#[45, 50]⟩ ⟨#[54]⟩ ⟨#[45, 50, 46, 46, 54]⟩ qsm2_text qs6_text (by decide) (by decide) (by decide +kernel))).mono ?_; clear S; rintro e w24 ⟨rfl, S, H⟩; refine iv8 H n11 n12 n13 n14 n15 n16 n17 n18 ?_; clear n11 n12 n13 n14 n15 n16 n17 n18; intro n11 n12 n13 n14 n15 n16 n17 n18; refine iv8 H n19 n20 n21 n22 n23 n24 n25 n26 ?_; clear n19 n20 n21 n22 n23 n24 n25 n26; intro n19 n20 n21 n22 n23 n24 n25 n26; refine iv4 H n27 n28 n29 n30 ?_; clear n27 n28 n29 n30 H; intro n27 n28 n29 n30
  go_wp2_with fail
  refine hKK.out _ _ (con6 (S.c6 0 rfl) (con6 (S.c6 1 rfl) (con6 (S.c6 2 rfl) (con6 (S.c6 3 rfl) (con6 (S.c6 4 rfl) (con6 (S.c6 5 rfl) (con6 (S.c6 6 rfl) (con3 (S.c3 7 rfl) (con3 (S.c3 8 rfl) (con6 (S.c6 10 rfl) (S.c6 11 rfl))))))))))) (fun hS => ?_)
  clear hKK KK
  refine wpAnyH_setL ?_; dsimp only [List.set_cons_zero, List.set_cons_succ]
  refine wpAnyH_takeL (i := 41) (v := .bool true) hTab (opOf rfl) hNoSel (by kernel_rfl) (fun _ _ _ h => h) (Or.inl ⟨by kernel_rfl, fun W _ => by kernel_rfl⟩) hS ?_
  dsimp only [setO, List.set_cons_zero, List.set_cons_succ]
  refine wpAnyH_takeL (i := 42) (v := .bool true) hTab (opOf rfl) hNoSel (by kernel_rfl) (fun _ _ _ h => h) (Or.inl ⟨by kernel_rfl, fun W _ => by kernel_rfl⟩) hS ?_
  dsimp only [setO, List.set_cons_zero, List.set_cons_succ]
  refine wpAnyH_takeL (i := 43) (v := .bool true) hTab (opOf rfl) hNoSel (by kernel_rfl) (fun _ _ _ h => h) (Or.inl ⟨by kernel_rfl, fun W _ => by kernel_rfl⟩) hS ?_
  dsimp only [setO, List.set_cons_zero, List.set_cons_succ]
  refine wpAnyH_takeL (i := 44) (v := ?_) hTab (opOf rfl) hNoSel (by kernel_rfl) (fun _ _ _ h => h) (Or.inl ⟨rfl, fun W hW => ?_⟩) hS ?_
  rotate_left
  · have hW30 := hW.2.2.2.2.2.2.2.2.2.2.2.2.2.2.2.2.2.2.2.2.2.2.2.2.2.2.2.2.2.2.1; have hW31 := hW.2.2.2.2.2.2.2.2.2.2.2.2.2.2.2.2.2.2.2.2.2.2.2.2.2.2.2.2.2.2.2.1; have hW32 := hW.2.2.2.2.2.2.2.2.2.2.2.2.2.2.2.2.2.2.2.2.2.2.2.2.2.2.2.2.2.2.2.2.1; have hW33 := hW.2.2.2.2.2.2.2.2.2.2.2.2.2.2.2.2.2.2.2.2.2.2.2.2.2.2.2.2.2.2.2.2.2.1; have hW34 := hW.2.2.2.2.2.2.2.2.2.2.2.2.2.2.2.2.2.2.2.2.2.2.2.2.2.2.2.2.2.2.2.2.2.2.1; have hW35 := hW.2.2.2.2.2.2.2.2.2.2.2.2.2.2.2.2.2.2.2.2.2.2.2.2.2.2.2.2.2.2.2.2.2.2.2.1; clear hW; go_simp; try first | rfl | kernel_rfl
  dsimp only [setO, List.set_cons_zero, List.set_cons_succ]
  refine wpAnyH_readyL hTab (by kernel_rfl) (rs := [45]) (by kernel_rfl) (by simp) (AllReadyH.cons (opOf rfl) (fun KK hKK => ?_) AllReadyH.nil)
  go_simp
  refine (S.call (stext_v (L := 68) (H := 35) ⟨b21, p21, l21, K21, m21, e21, b22, p22, l22, K22, m22, e22, rfl, h21, n21, d21, h22, n22, d22⟩ (by decide) qsl qsu rfl rfl qsl_rb qsu_rb ⟨#[53, 47, 49, 54]⟩ ⟨#[49, 49, 47, 51, 50]⟩ ⟨#[53, 47, 49, 54, 46, 46, 49, 49, 47, 51, 50]⟩ qsl_text qsu_text (by decide) (by decide) (by decide +kernel))).mono ?_; clear S; rintro e w25 ⟨rfl, S, H⟩; refine iv8 H n11 n12 n13 n14 n15 n16 n17 n18 ?_; clear n11 n12 n13 n14 n15 n16 n17 n18; intro n11 n12 n13 n14 n15 n16 n17 n18; refine iv8 H n19 n20 n21 n22 n23 n24 n25 n26 ?_; clear n19 n20 n21 n22 n23 n24 n25 n26; intro n19 n20 n21 n22 n23 n24 n25 n26; refine iv4 H n27 n28 n29 n30 ?_; clear n27 n28 n29 n30 H; intro n27 n28 n29 n30
  go_wp2_with fail
  refine hKK.out _ _ (con6 (S.c6 0 rfl) (con6 (S.c6 1 rfl) (con6 (S.c6 2 rfl) (con6 (S.c6 3 rfl) (con6 (S.c6 4 rfl) (con6 (S.c6 5 rfl) (con6 (S.c6 6 rfl) (con3 (S.c3 7 rfl) (con3 (S.c3 8 rfl) (con6 (S.c6 10 rfl) (S.c6 11 rfl))))))))))) (fun hS => ?_)
  clear hKK KK
  refine wpAnyH_setL ?_; dsimp only [List.set_cons_zero, List.set_cons_succ]
  refine wpAnyH_takeL (i := 46) (v := .bool true) hTab (opOf rfl) hNoSel (by kernel_rfl) (fun _ _ _ h => h) (Or.inl ⟨by kernel_rfl, fun W _ => by kernel_rfl⟩) hS ?_
  dsimp only [setO, List.set_cons_zero, List.set_cons_succ]
  refine wpAnyH_takeL (i := 47) (v := .bool true) hTab (opOf rfl) hNoSel (by kernel_rfl) (fun _ _ _ h => h) (Or.inl ⟨by kernel_rfl, fun W _ => by kernel_rfl⟩) hS ?_
  dsimp only [setO, List.set_cons_zero, List.set_cons_succ]
  refine wpAnyH_takeL (i := 48) (v := .bool true) hTab (opOf rfl) hNoSel (by kernel_rfl) (fun _ _ _ h => h) (Or.inl ⟨by kernel_rfl, fun W _ => by kernel_rfl⟩) hS ?_
  dsimp only [setO, List.set_cons_zero, List.set_cons_succ]
  refine wpAnyH_takeL (i := 49) (v := ?_) hTab (opOf rfl) hNoSel (by kernel_rfl) (fun _ _ _ h => h) (Or.inl ⟨rfl, fun W hW => ?_⟩) hS ?_
  rotate_left
  · have hW36 := hW.2.2.2.2.2.2.2.2.2.2.2.2.2.2.2.2.2.2.2.2.2.2.2.2.2.2.2.2.2.2.2.2.2.2.2.2.1; have hW37 := hW.2.2.2.2.2.2.2.2.2.2.2.2.2.2.2.2.2.2.2.2.2.2.2.2.2.2.2.2.2.2.2.2.2.2.2.2.2.1; have hW38 := hW.2.2.2.2.2.2.2.2.2.2.2.2.2.2.2.2.2.2.2.2.2.2.2.2.2.2.2.2.2.2.2.2.2.2.2.2.2.2.1; have hW39 := hW.2.2.2.2.2.2.2.2.2.2.2.2.2.2.2.2.2.2.2.2.2.2.2.2.2.2.2.2.2.2.2.2.2.2.2.2.2.2.2.1; have hW40 := hW.2.2.2.2.2.2.2.2.2.2.2.2.2.2.2.2.2.2.2.2.2.2.2.2.2.2.2.2.2.2.2.2.2.2.2.2.2.2.2.2.1; have hW41 := hW.2.2.2.2.2.2.2.2.2.2.2.2.2.2.2.2.2.2.2.2.2.2.2.2.2.2.2.2.2.2.2.2.2.2.2.2.2.2.2.2.2.1; clear hW; go_simp; try first | rfl | kernel_rfl
  dsimp only [setO, List.set_cons_zero, List.set_cons_succ]
  refine wpAnyH_readyL hTab (by kernel_rfl) (rs := [50]) (by kernel_rfl) (by simp) (AllReadyH.cons (opOf rfl) (fun KK hKK => ?_) AllReadyH.nil)
  go_simp
  refine (S.call (stext_v (L := 100) (H := 164) ⟨b23, p23, l23, K23, m23, e23, b24, p24, l24, K24, m24, e24, rfl, h23, n23, d23, h24, n24, d24⟩ (by decide) qs1 qs2 qmeet1 qmeet2 qs1_rb qs2_rb ⟨#[49]⟩ ⟨#[50]⟩ ⟨#[49, 46, 46, 50]⟩ qs1_text qs2_text (by decide) (by decide) (by decide +kernel))).mono ?_; clear S; rintro e w26 ⟨rfl, S, H⟩; refine iv8 H n11 n12 n13 n14 n15 n16 n17 n18 ?_; clear n11 n12 n13 n14 n15 n16 n17 n18; intro n11 n12 n13 n14 n15 n16 n17 n18; refine iv8 H n19 n20 n21 n22 n23 n24 n25 n26 ?_; clear n19 n20 n21 n22 n23 n24 n25 n26; intro n19 n20 n21 n22 n23 n24 n25 n26; refine iv4 H n27 n28 n29 n30 ?_; clear n27 n28 n29 n30 H; intro n27 n28 n29 n30
  go_wp2_with fail
  refine hKK.out _ _ (con6 (S.c6 0 rfl) (con6 (S.c6 1 rfl) (con6 (S.c6 2 rfl) (con6 (S.c6 3 rfl) (con6 (S.c6 4 rfl) (con6 (S.c6 5 rfl) (con6 (S.c6 6 rfl) (con3 (S.c3 7 rfl) (con3 (S.c3 8 rfl) (con6 (S.c6 10 rfl) (S.c6 11 rfl))))))))))) (fun hS => ?_)
  clear hKK KK
  refine wpAnyH_setL ?_; dsimp only [List.set_cons_zero, List.set_cons_succ]
  refine wpAnyH_takeL (i := 51) (v := .bool true) hTab (opOf rfl) hNoSel (by kernel_rfl) (fun _ _ _ h => h) (Or.inl ⟨by kernel_rfl, fun W _ => by kernel_rfl⟩) hS ?_
  dsimp only [setO, List.set_cons_zero, List.set_cons_succ]
  refine wpAnyH_takeL (i := 52) (v := .bool true) hTab (opOf rfl) hNoSel (by kernel_rfl) (fun _ _ _ h => h) (Or.inl ⟨by kernel_rfl, fun W _ => by kernel_rfl⟩) hS ?_
  dsimp only [setO, List.set_cons_zero, List.set_cons_succ]
  refine wpAnyH_takeL (i := 53) (v := .bool true) hTab (opOf rfl) hNoSel (by kernel_rfl) (fun _ _ _ h => h) (Or.inl ⟨by kernel_rfl, fun W _ => by kernel_rfl⟩) hS ?_
  dsimp only [setO, List.set_cons_zero, List.set_cons_succ]
  refine wpAnyH_takeL (i := 54) (v := ?_) hTab (opOf rfl) hNoSel (by kernel_rfl) (fun _ _ _ h => h) (Or.inl ⟨rfl, fun W hW => ?_⟩) hS ?_
  rotate_left
  · have hW42 := hW.2.2.2.2.2.2.2.2.2.2.2.2.2.2.2.2.2.2.2.2.2.2.2.2.2.2.2.2.2.2.2.2.2.2.2.2.2.2.2.2.2.2.1; have hW43 := hW.2.2.2.2.2.2.2.2.2.2.2.2.2.2.2.2.2.2.2.2.2.2.2.2.2.2.2.2.2.2.2.2.2.2.2.2.2.2.2.2.2.2.2.1; have hW44 := hW.2.2.2.2.2.2.2.2.2.2.2.2.2.2.2.2.2.2.2.2.2.2.2.2.2.2.2.2.2.2.2.2.2.2.2.2.2.2.2.2.2.2.2.2.1; clear hW; go_simp; try first | rfl | kernel_rfl
  dsimp only [setO, List.set_cons_zero, List.set_cons_succ]
  refine wpAnyH_readyL hTab (by kernel_rfl) (rs := [55]) (by kernel_rfl) (by simp) (AllReadyH.cons (opOf rfl) (fun KK hKK => ?_) AllReadyH.nil)
  go_simp
  refine (S.call (dof_any (4) (0) _ (HT.out.below S.below) (by decide) (by decide) (by decide) (by decide) qs4 qs4_dq)).mono ?_; clear S; rintro e w27 ⟨⟨_, rfl, b31, p31, l31, K31, m31, e31, rfl, h31, n31, d31⟩, S, H⟩; refine iv8 H n11 n12 n13 n14 n15 n16 n17 n18 ?_; clear n11 n12 n13 n14 n15 n16 n17 n18; intro n11 n12 n13 n14 n15 n16 n17 n18; refine iv8 H n19 n20 n21 n22 n23 n24 n25 n26 ?_; clear n19 n20 n21 n22 n23 n24 n25 n26; intro n19 n20 n21 n22 n23 n24 n25 n26; refine iv4 H n27 n28 n29 n30 ?_; clear n27 n28 n29 n30 H; intro n27 n28 n29 n30
  go_wp2_with fail
  refine hKK.out _ _ (con6 (S.c6 0 rfl) (con6 (S.c6 1 rfl) (con6 (S.c6 2 rfl) (con6 (S.c6 3 rfl) (con6 (S.c6 4 rfl) (con6 (S.c6 5 rfl) (con6 (S.c6 6 rfl) (con3 (S.c3 7 rfl) (con3 (S.c3 8 rfl) (con6 (S.c6 10 rfl) (S.c6 11 rfl))))))))))) (fun hS => ?_)
  clear hKK KK
  refine wpAnyH_setL ?_; dsimp only [List.set_cons_zero, List.set_cons_succ]
  refine wpAnyH_readyL hTab (by kernel_rfl) (rs := [56]) (by kernel_rfl) (by simp) (AllReadyH.cons (opOf rfl) (fun KK hKK => ?_) AllReadyH.nil)
  go_simp
  refine (S.call (dcompare_any (L := 100) (H := 165) ⟨b25, p25, l25, K25, m25, e25, rfl, h25, n25, d25⟩ (IsD.mono (L := 100) (H := 164) (L' := 100) (H' := 165) ⟨b31, p31, l31, K31, m31, e31, rfl, h31, n31, d31⟩ (by decide) (by decide)) (by decide) 0 (cmpR_eq qs4))).mono ?_; clear S; rintro e w28 ⟨rfl, S, H⟩; refine iv8 H n11 n12 n13 n14 n15 n16 n17 n18 ?_; clear n11 n12 n13 n14 n15 n16 n17 n18; intro n11 n12 n13 n14 n15 n16 n17 n18; refine iv8 H n19 n20 n21 n22 n23 n24 n25 n26 ?_; clear n19 n20 n21 n22 n23 n24 n25 n26; intro n19 n20 n21 n22 n23 n24 n25 n26; refine iv5 H n27 n28 n29 n30 n31 ?_; clear n27 n28 n29 n30 n31 H; intro n27 n28 n29 n30 n31
  go_wp2_with fail
  refine hKK.out _ _ (con6 (S.c6 0 rfl) (con6 (S.c6 1 rfl) (con6 (S.c6 2 rfl) (con6 (S.c6 3 rfl) (con6 (S.c6 4 rfl) (con6 (S.c6 5 rfl) (con6 (S.c6 6 rfl) (con3 (S.c3 7 rfl) (con3 (S.c3 8 rfl) (con6 (S.c6 10 rfl) (S.c6 11 rfl))))))))))) (fun hS => ?_)
  clear hKK KK
  refine wpAnyH_setL ?_; dsimp only [List.set_cons_zero, List.set_cons_succ]
  refine wpAnyH_takeL (i := 57) (v := .bool true) hTab (opOf rfl) hNoSel (by kernel_rfl) (fun _ _ _ h => h) (Or.inl ⟨by kernel_rfl, fun W _ => by kernel_rfl⟩) hS ?_
  dsimp only [setO, List.set_cons_zero, List.set_cons_succ]
  refine wpAnyH_takeL (i := 58) (v := .bool true) hTab (opOf rfl) hNoSel (by kernel_rfl) (fun _ _ _ h => h) (Or.inl ⟨by kernel_rfl, fun W _ => by kernel_rfl⟩) hS ?_
  dsimp only [setO, List.set_cons_zero, List.set_cons_succ]
  refine wpAnyH_takeL (i := 59) (v := .bool true) hTab (opOf rfl) hNoSel (by kernel_rfl) (fun _ _ _ h => h) (Or.inl ⟨by kernel_rfl, fun W _ => by kernel_rfl⟩) hS ?_
  dsimp only [setO, List.set_cons_zero, List.set_cons_succ]
  refine wpAnyH_takeL (i := 60) (v := ?_) hTab (opOf rfl) hNoSel (by kernel_rfl) (fun _ _ _ h => h) (Or.inl ⟨rfl, fun W hW => ?_⟩) hS ?_
  rotate_left
  · have hW45 := hW.2.2.2.2.2.2.2.2.2.2.2.2.2.2.2.2.2.2.2.2.2.2.2.2.2.2.2.2.2.2.2.2.2.2.2.2.2.2.2.2.2.2.2.2.2.1; have hW46 := hW.2.2.2.2.2.2.2.2.2.2.2.2.2.2.2.2.2.2.2.2.2.2.2.2.2.2.2.2.2.2.2.2.2.2.2.2.2.2.2.2.2.2.2.2.2.2.1; have hW47 := hW.2.2.2.2.2.2.2.2.2.2.2.2.2.2.2.2.2.2.2.2.2.2.2.2.2.2.2.2.2.2.2.2.2.2.2.2.2.2.2.2.2.2.2.2.2.2.2.1; clear hW; go_simp; try first | rfl | kernel_rfl
  dsimp only [setO, List.set_cons_zero, List.set_cons_succ]
  refine wpAnyH_readyL hTab (by kernel_rfl) (rs := [61]) (by kernel_rfl) (by simp) (AllReadyH.cons (opOf rfl) (fun KK hKK => ?_) AllReadyH.nil)
  go_simp
  refine (S.call (dof_any 3 (-1) _ (HT.out.below S.below) (by decide) (by decide) (by decide) (by decide) qsh qsh_dq)).mono ?_; clear S; rintro e w29 ⟨⟨_, rfl, b32, p32, l32, K32, m32, e32, rfl, h32, n32, d32⟩, S, H⟩; refine iv8 H n11 n12 n13 n14 n15 n16 n17 n18 ?_; clear n11 n12 n13 n14 n15 n16 n17 n18; intro n11 n12 n13 n14 n15 n16 n17 n18; refine iv8 H n19 n20 n21 n22 n23 n24 n25 n26 ?_; clear n19 n20 n21 n22 n23 n24 n25 n26; intro n19 n20 n21 n22 n23 n24 n25 n26; refine iv5 H n27 n28 n29 n30 n31 ?_; clear n27 n28 n29 n30 n31 H; intro n27 n28 n29 n30 n31
  go_wp2_with fail
  refine hKK.out _ _ (con6 (S.c6 0 rfl) (con6 (S.c6 1 rfl) (con6 (S.c6 2 rfl) (con6 (S.c6 3 rfl) (con6 (S.c6 4 rfl) (con6 (S.c6 5 rfl) (con6 (S.c6 6 rfl) (con3 (S.c3 7 rfl) (con3 (S.c3 8 rfl) (con6 (S.c6 10 rfl) (S.c6 11 rfl))))))))))) (fun hS => ?_)
  clear hKK KK
  refine wpAnyH_setL ?_; dsimp only [List.set_cons_zero, List.set_cons_succ]
  refine wpAnyH_readyL hTab (by kernel_rfl) (rs := [62]) (by kernel_rfl) (by simp) (AllReadyH.cons (opOf rfl) (fun KK hKK => ?_) AllReadyH.nil)
  go_simp
  refine (S.call (dcompare_any (L := 101) (H := 164) ⟨b26, p26, l26, K26, m26, e26, rfl, h26, n26, d26⟩ (IsD.mono (L := 100) (H := 164) (L' := 101) (H' := 164) ⟨b32, p32, l32, K32, m32, e32, rfl, h32, n32, d32⟩ (by decide) (by decide)) (by decide) 0 (cmpR_eq qsh))).mono ?_; clear S; rintro e w30 ⟨rfl, S, H⟩; refine iv8 H n11 n12 n13 n14 n15 n16 n17 n18 ?_; clear n11 n12 n13 n14 n15 n16 n17 n18; intro n11 n12 n13 n14 n15 n16 n17 n18; refine iv8 H n19 n20 n21 n22 n23 n24 n25 n26 ?_; clear n19 n20 n21 n22 n23 n24 n25 n26; intro n19 n20 n21 n22 n23 n24 n25 n26; refine iv6 H n27 n28 n29 n30 n31 n32 ?_; clear n27 n28 n29 n30 n31 n32 H; intro n27 n28 n29 n30 n31 n32
  go_wp2_with fail
  refine hKK.out _ _ (con6 (S.c6 0 rfl) (con6 (S.c6 1 rfl) (con6 (S.c6 2 rfl) (con6 (S.c6 3 rfl) (con6 (S.c6 4 rfl) (con6 (S.c6 5 rfl) (con6 (S.c6 6 rfl) (con3 (S.c3 7 rfl) (con3 (S.c3 8 rfl) (con6 (S.c6 10 rfl) (S.c6 11 rfl))))))))))) (fun hS => ?_)
  clear hKK KK
  refine wpAnyH_setL ?_; dsimp only [List.set_cons_zero, List.set_cons_succ]
  refine wpAnyH_takeL (i := 63) (v := .bool true) hTab (opOf rfl) hNoSel (by kernel_rfl) (fun _ _ _ h => h) (Or.inl ⟨by kernel_rfl, fun W _ => by kernel_rfl⟩) hS ?_
  dsimp only [setO, List.set_cons_zero, List.set_cons_succ]
  refine wpAnyH_takeL (i := 64) (v := .bool true) hTab (opOf rfl) hNoSel (by kernel_rfl) (fun _ _ _ h => h) (Or.inl ⟨by kernel_rfl, fun W _ => by kernel_rfl⟩) hS ?_
  dsimp only [setO, List.set_cons_zero, List.set_cons_succ]
  refine wpAnyH_takeL (i := 65) (v := .bool true) hTab (opOf rfl) hNoSel (by kernel_rfl) (fun _ _ _ h => h) (Or.inl ⟨by kernel_rfl, fun W _ => by kernel_rfl⟩) hS ?_
  dsimp only [setO, List.set_cons_zero, List.set_cons_succ]
  refine wpAnyH_takeL (i := 66) (v := ?_) hTab (opOf rfl) hNoSel (by kernel_rfl) (fun _ _ _ h => h) (Or.inl ⟨rfl, fun W hW => ?_⟩) hS ?_
  rotate_left
  · have hW48 := hW.2.2.2.2.2.2.2.2.2.2.2.2.2.2.2.2.2.2.2.2.2.2.2.2.2.2.2.2.2.2.2.2.2.2.2.2.2.2.2.2.2.2.2.2.2.2.2.2.1; have hW49 := hW.2.2.2.2.2.2.2.2.2.2.2.2.2.2.2.2.2.2.2.2.2.2.2.2.2.2.2.2.2.2.2.2.2.2.2.2.2.2.2.2.2.2.2.2.2.2.2.2.2.1; have hW50 := hW.2.2.2.2.2.2.2.2.2.2.2.2.2.2.2.2.2.2.2.2.2.2.2.2.2.2.2.2.2.2.2.2.2.2.2.2.2.2.2.2.2.2.2.2.2.2.2.2.2.2.1; have hW51 := hW.2.2.2.2.2.2.2.2.2.2.2.2.2.2.2.2.2.2.2.2.2.2.2.2.2.2.2.2.2.2.2.2.2.2.2.2.2.2.2.2.2.2.2.2.2.2.2.2.2.2.2.1; have hW52 := hW.2.2.2.2.2.2.2.2.2.2.2.2.2.2.2.2.2.2.2.2.2.2.2.2.2.2.2.2.2.2.2.2.2.2.2.2.2.2.2.2.2.2.2.2.2.2.2.2.2.2.2.2.1; have hW53 := hW.2.2.2.2.2.2.2.2.2.2.2.2.2.2.2.2.2.2.2.2.2.2.2.2.2.2.2.2.2.2.2.2.2.2.2.2.2.2.2.2.2.2.2.2.2.2.2.2.2.2.2.2.2.1; clear hW; go_simp; try first | rfl | kernel_rfl
  dsimp only [setO, List.set_cons_zero, List.set_cons_succ]
  refine wpAnyH_readyL hTab (by kernel_rfl) (rs := [67]) (by kernel_rfl) (by simp) (AllReadyH.cons (opOf rfl) (fun KK hKK => ?_) AllReadyH.nil)
  go_simp
  refine (S.call (stext_v (L := 100) (H := 170) ⟨b27, p27, l27, K27, m27, e27, b28, p28, l28, K28, m28, e28, rfl, h27, n27, d27, h28, n28, d28⟩ (by decide) qs1 qs7 rfl rfl qs1_rb qs7_rb ⟨#[49]⟩ ⟨#[55]⟩ ⟨#[49, 46, 46, 55]⟩ qs1_text qs7_text (by decide) (by decide) (by decide +kernel))).mono ?_; clear S; rintro e w31 ⟨rfl, S, H⟩; refine iv8 H n11 n12 n13 n14 n15 n16 n17 n18 ?_; clear n11 n12 n13 n14 n15 n16 n17 n18; intro n11 n12 n13 n14 n15 n16 n17 n18; refine iv8 H n19 n20 n21 n22 n23 n24 n25 n26 ?_; clear n19 n20 n21 n22 n23 n24 n25 n26; intro n19 n20 n21 n22 n23 n24 n25 n26; refine iv6 H n27 n28 n29 n30 n31 n32 ?_; clear n27 n28 n29 n30 n31 n32 H; intro n27 n28 n29 n30 n31 n32
  go_wp2_with fail
  refine hKK.out _ _ (con6 (S.c6 0 rfl) (con6 (S.c6 1 rfl) (con6 (S.c6 2 rfl) (con6 (S.c6 3 rfl) (con6 (S.c6 4 rfl) (con6 (S.c6 5 rfl) (con6 (S.c6 6 rfl) (con3 (S.c3 7 rfl) (con3 (S.c3 8 rfl) (con6 (S.c6 10 rfl) (S.c6 11 rfl))))))))))) (fun hS => ?_)
  clear hKK KK
  refine wpAnyH_setL ?_; dsimp only [List.set_cons_zero, List.set_cons_succ]
  refine wpAnyH_takeL (i := 68) (v := .bool true) hTab (opOf rfl) hNoSel (by kernel_rfl) (fun _ _ _ h => h) (Or.inl ⟨by kernel_rfl, fun W _ => by kernel_rfl⟩) hS ?_
  dsimp only [setO, List.set_cons_zero, List.set_cons_succ]
  refine wpAnyH_takeL (i := 69) (v := .bool true) hTab (opOf rfl) hNoSel (by kernel_rfl) (fun _ _ _ h => h) (Or.inl ⟨by kernel_rfl, fun W _ => by kernel_rfl⟩) hS ?_
  dsimp only [setO, List.set_cons_zero, List.set_cons_succ]
  refine wpAnyH_takeL (i := 70) (v := .bool true) hTab (opOf rfl) hNoSel (by kernel_rfl) (fun _ _ _ h => h) (Or.inl ⟨by kernel_rfl, fun W _ => by kernel_rfl⟩) hS ?_
  dsimp only [setO, List.set_cons_zero, List.set_cons_succ]
  refine wpAnyH_takeL (i := 71) (v := .bool true) hTab (opOf rfl) hNoSel (by kernel_rfl) (fun _ _ _ h => h) (Or.inl ⟨by kernel_rfl, fun W _ => by kernel_rfl⟩) hS ?_
  dsimp only [setO, List.set_cons_zero, List.set_cons_succ]
  refine wpAnyH_takeL (i := 72) (v := .bool true) hTab (opOf rfl) hNoSel (by kernel_rfl) (fun _ _ _ h => h) (Or.inl ⟨by kernel_rfl, fun W _ => by kernel_rfl⟩) hS ?_
  dsimp only [setO, List.set_cons_zero, List.set_cons_succ]
  refine wpAnyH_takeL (i := 73) (v := .bool true) hTab (opOf rfl) hNoSel (by kernel_rfl) (fun _ _ _ h => h) (Or.inl ⟨by kernel_rfl, fun W _ => by kernel_rfl⟩) hS ?_
  dsimp only [setO, List.set_cons_zero, List.set_cons_succ]
  refine wpAnyH_takeL (i := 74) (v := ?_) hTab (opOf rfl) hNoSel (by kernel_rfl) (fun _ _ _ h => h) (Or.inl ⟨rfl, fun W hW => ?_⟩) hS ?_
  rotate_left
  · have hW54 := hW.2.2.2.2.2.2.2.2.2.2.2.2.2.2.2.2.2.2.2.2.2.2.2.2.2.2.2.2.2.2.2.2.2.2.2.2.2.2.2.2.2.2.2.2.2.2.2.2.2.2.2.2.2.2.1; have hW55 := hW.2.2.2.2.2.2.2.2.2.2.2.2.2.2.2.2.2.2.2.2.2.2.2.2.2.2.2.2.2.2.2.2.2.2.2.2.2.2.2.2.2.2.2.2.2.2.2.2.2.2.2.2.2.2.2.1; have hW56 := hW.2.2.2.2.2.2.2.2.2.2.2.2.2.2.2.2.2.2.2.2.2.2.2.2.2.2.2.2.2.2.2.2.2.2.2.2.2.2.2.2.2.2.2.2.2.2.2.2.2.2.2.2.2.2.2.2.1; have hW57 := hW.2.2.2.2.2.2.2.2.2.2.2.2.2.2.2.2.2.2.2.2.2.2.2.2.2.2.2.2.2.2.2.2.2.2.2.2.2.2.2.2.2.2.2.2.2.2.2.2.2.2.2.2.2.2.2.2.2.1; have hW58 := hW.2.2.2.2.2.2.2.2.2.2.2.2.2.2.2.2.2.2.2.2.2.2.2.2.2.2.2.2.2.2.2.2.2.2.2.2.2.2.2.2.2.2.2.2.2.2.2.2.2.2.2.2.2.2.2.2.2.2.1; have hW59 := hW.2.2.2.2.2.2.2.2.2.2.2.2.2.2.2.2.2.2.2.2.2.2.2.2.2.2.2.2.2.2.2.2.2.2.2.2.2.2.2.2.2.2.2.2.2.2.2.2.2.2.2.2.2.2.2.2.2.2.2; clear hW; go_simp; try first | rfl | kernel_rfl
  dsimp only [setO, List.set_cons_zero, List.set_cons_succ]
  refine wpAnyH_takeL (i := 75) (v := ?_) hTab (opOf rfl) hNoSel (by kernel_rfl) (fun _ _ _ h => h) (Or.inl ⟨rfl, fun W hW => ?_⟩) hS ?_
  rotate_left
  · have hW30 := hW.2.2.2.2.2.2.2.2.2.2.2.2.2.2.2.2.2.2.2.2.2.2.2.2.2.2.2.2.2.2.1; have hW31 := hW.2.2.2.2.2.2.2.2.2.2.2.2.2.2.2.2.2.2.2.2.2.2.2.2.2.2.2.2.2.2.2.1; have hW32 := hW.2.2.2.2.2.2.2.2.2.2.2.2.2.2.2.2.2.2.2.2.2.2.2.2.2.2.2.2.2.2.2.2.1; have hW33 := hW.2.2.2.2.2.2.2.2.2.2.2.2.2.2.2.2.2.2.2.2.2.2.2.2.2.2.2.2.2.2.2.2.2.1; have hW34 := hW.2.2.2.2.2.2.2.2.2.2.2.2.2.2.2.2.2.2.2.2.2.2.2.2.2.2.2.2.2.2.2.2.2.2.1; have hW35 := hW.2.2.2.2.2.2.2.2.2.2.2.2.2.2.2.2.2.2.2.2.2.2.2.2.2.2.2.2.2.2.2.2.2.2.2.1; clear hW; go_simp; try first | rfl | kernel_rfl
  dsimp only [setO, List.set_cons_zero, List.set_cons_succ]
  refine wpAnyH_readyL hTab (by kernel_rfl) (rs := [76]) (by kernel_rfl) (by simp) (AllReadyH.cons (opOf rfl) (fun KK hKK => ?_) AllReadyH.nil)
  go_simp
  refine (S.call (sholds_any (L := 68) (H := 36) ⟨b29, p29, l29, K29, m29, e29, b30, p30, l30, K30, m30, e30, rfl, h29, n29, d29, h30, n30, d30⟩ (IsSp.mono (L := 68) (H := 35) ⟨b21, p21, l21, K21, m21, e21, b22, p22, l22, K22, m22, e22, rfl, h21, n21, d21, h22, n22, d22⟩ (by decide) (by decide)) (by decide) true qholds)).mono ?_; clear S; rintro e w32 ⟨rfl, S, H⟩; refine iv8 H n11 n12 n13 n14 n15 n16 n17 n18 ?_; clear n11 n12 n13 n14 n15 n16 n17 n18; intro n11 n12 n13 n14 n15 n16 n17 n18; refine iv8 H n19 n20 n21 n22 n23 n24 n25 n26 ?_; clear n19 n20 n21 n22 n23 n24 n25 n26; intro n19 n20 n21 n22 n23 n24 n25 n26; refine iv6 H n27 n28 n29 n30 n31 n32 ?_; clear n27 n28 n29 n30 n31 n32 H; intro n27 n28 n29 n30 n31 n32
  go_wp2_with fail
  refine hKK.out _ _ (con6 (S.c6 0 rfl) (con6 (S.c6 1 rfl) (con6 (S.c6 2 rfl) (con6 (S.c6 3 rfl) (con6 (S.c6 4 rfl) (con6 (S.c6 5 rfl) (con6 (S.c6 6 rfl) (con3 (S.c3 7 rfl) (con3 (S.c3 8 rfl) (con6 (S.c6 10 rfl) (S.c6 11 rfl))))))))))) (fun hS => ?_)
  clear hKK KK
  refine wpAnyH_setL ?_; dsimp only [List.set_cons_zero, List.set_cons_succ]
  refine wpAnyH_takeL (i := 77) (v := .bool true) hTab (opOf rfl) hNoSel (by kernel_rfl) (fun _ _ _ h => h) (Or.inl ⟨by kernel_rfl, fun W _ => by kernel_rfl⟩) hS ?_
  dsimp only [setO, List.set_cons_zero, List.set_cons_succ]
  refine wpAnyH_takeL (i := 78) (v := .bool true) hTab (opOf rfl) hNoSel (by kernel_rfl) (fun _ _ _ h => h) (Or.inl ⟨by kernel_rfl, fun W _ => by kernel_rfl⟩) hS ?_
  dsimp only [setO, List.set_cons_zero, List.set_cons_succ]
  refine wpAnyH_takeL (i := 79) (v := ?_) hTab (opOf rfl) hNoSel (by kernel_rfl) (fun _ _ _ h => h) (Or.inl ⟨rfl, fun W hW => ?_⟩) hS ?_
  rotate_left
  · have hW0 := hW.1; have hW1 := hW.2.1; have hW2 := hW.2.2.1; have hW3 := hW.2.2.2.1; have hW4 := hW.2.2.2.2.1; have hW5 := hW.2.2.2.2.2.1; clear hW; go_simp; try first | rfl | kernel_rfl
  dsimp only [setO, List.set_cons_zero, List.set_cons_succ]
  refine wpAnyH_takeL (i := 80) (v := ?_) hTab (opOf rfl) hNoSel (by kernel_rfl) (fun _ _ _ h => h) (Or.inl ⟨rfl, fun W hW => ?_⟩) hS ?_
  rotate_left
  · have hW6 := hW.2.2.2.2.2.2.1; have hW7 := hW.2.2.2.2.2.2.2.1; have hW8 := hW.2.2.2.2.2.2.2.2.1; have hW9 := hW.2.2.2.2.2.2.2.2.2.1; have hW10 := hW.2.2.2.2.2.2.2.2.2.2.1; have hW11 := hW.2.2.2.2.2.2.2.2.2.2.2.1; clear hW; go_simp; try first | rfl | kernel_rfl
  dsimp only [setO, List.set_cons_zero, List.set_cons_succ]
  refine wpAnyH_readyL hTab (by kernel_rfl) (rs := [81]) (by kernel_rfl) (by simp) (AllReadyH.cons (opOf rfl) (fun KK hKK => ?_) AllReadyH.nil)
  go_simp
  refine (S.call (shull_any ⟨b11, p11, l11, K11, m11, e11, b12, p12, l12, K12, m12, e12, rfl, h11, n11, d11, h12, n12, d12⟩ ⟨b13, p13, l13, K13, m13, e13, b14, p14, l14, K14, m14, e14, rfl, h13, n13, d13, h14, n14, d14⟩ (by decide))).mono ?_; clear S; rintro e w33 ⟨⟨_, rfl, b33, p33, l33, K33, m33, e33, b34, p34, l34, K34, m34, e34, rfl, h33, n33, d33, h34, n34, d34⟩, S, H⟩; refine iv8 H n11 n12 n13 n14 n15 n16 n17 n18 ?_; clear n11 n12 n13 n14 n15 n16 n17 n18; intro n11 n12 n13 n14 n15 n16 n17 n18; refine iv8 H n19 n20 n21 n22 n23 n24 n25 n26 ?_; clear n19 n20 n21 n22 n23 n24 n25 n26; intro n19 n20 n21 n22 n23 n24 n25 n26; refine iv6 H n27 n28 n29 n30 n31 n32 ?_; clear n27 n28 n29 n30 n31 n32 H; intro n27 n28 n29 n30 n31 n32
  go_wp2_with fail
  refine hKK.out _ _ (con6 (S.c6 0 rfl) (con6 (S.c6 1 rfl) (con6 (S.c6 2 rfl) (con6 (S.c6 3 rfl) (con6 (S.c6 4 rfl) (con6 (S.c6 5 rfl) (con6 (S.c6 6 rfl) (con3 (S.c3 7 rfl) (con3 (S.c3 8 rfl) (con6 (S.c6 10 rfl) (S.c6 11 rfl))))))))))) (fun hS => ?_)
  clear hKK KK
  refine wpAnyH_setL ?_; dsimp only [List.set_cons_zero, List.set_cons_succ]
  refine wpAnyH_readyL hTab (by kernel_rfl) (rs := [82]) (by kernel_rfl) (by simp) (AllReadyH.cons (opOf rfl) (fun KK hKK => ?_) AllReadyH.nil)
  go_simp
  refine (S.call (stext_v (L := 100) (H := 164) ⟨b33, p33, l33, K33, m33, e33, b34, p34, l34, K34, m34, e34, rfl, h33, n33, d33, h34, n34, d34⟩ (by decide) qsm1 qs3 qhull1 qhull2 qsm1_rb qs3_rb ⟨#[45, 49]⟩ ⟨#[51]⟩ ⟨#[45, 49, 46, 46, 51]⟩ qsm1_text qs3_text (by decide) (by decide) (by decide +kernel))).mono ?_; clear S; rintro e w34 ⟨rfl, S, H⟩; refine iv8 H n11 n12 n13 n14 n15 n16 n17 n18 ?_; clear n11 n12 n13 n14 n15 n16 n17 n18; intro n11 n12 n13 n14 n15 n16 n17 n18; refine iv8 H n19 n20 n21 n22 n23 n24 n25 n26 ?_; clear n19 n20 n21 n22 n23 n24 n25 n26; intro n19 n20 n21 n22 n23 n24 n25 n26; refine iv8 H n27 n28 n29 n30 n31 n32 n33 n34 ?_; clear n27 n28 n29 n30 n31 n32 n33 n34 H; intro n27 n28 n29 n30 n31 n32 n33 n34
  go_wp2_with fail
  refine hKK.out _ _ (con6 (S.c6 0 rfl) (con6 (S.c6 1 rfl) (con6 (S.c6 2 rfl) (con6 (S.c6 3 rfl) (con6 (S.c6 4 rfl) (con6 (S.c6 5 rfl) (con6 (S.c6 6 rfl) (con3 (S.c3 7 rfl) (con3 (S.c3 8 rfl) (con6 (S.c6 10 rfl) (S.c6 11 rfl))))))))))) (fun hS => ?_)
  clear hKK KK
  refine wpAnyH_setL ?_; dsimp only [List.set_cons_zero, List.set_cons_succ]
  refine wpAnyH_takeL (i := 83) (v := .bool true) hTab (opOf rfl) hNoSel (by kernel_rfl) (fun _ _ _ h => h) (Or.inl ⟨by kernel_rfl, fun W _ => by kernel_rfl⟩) hS ?_
  dsimp only [setO, List.set_cons_zero, List.set_cons_succ]
  refine wpAnyH_takeL (i := 84) (v := .bool true) hTab (opOf rfl) hNoSel (by kernel_rfl) (fun _ _ _ h => h) (Or.inl ⟨by kernel_rfl, fun W _ => by kernel_rfl⟩) hS ?_
  dsimp only [setO, List.set_cons_zero, List.set_cons_succ]
  refine wpAnyH_takeL (i := 85) (v := .bool true) hTab (opOf rfl) hNoSel (by kernel_rfl) (fun _ _ _ h => h) (Or.inl ⟨by kernel_rfl, fun W _ => by kernel_rfl⟩) hS ?_
  dsimp only [setO, List.set_cons_zero, List.set_cons_succ]
  refine wpAnyH_takeL (i := 86) (v := ?_) hTab (opOf rfl) hNoSel (by kernel_rfl) (fun _ _ _ h => h) (Or.inl ⟨rfl, fun W hW => ?_⟩) hS ?_
  rotate_left
  · have hW6 := hW.2.2.2.2.2.2.1; have hW7 := hW.2.2.2.2.2.2.2.1; have hW8 := hW.2.2.2.2.2.2.2.2.1; have hW9 := hW.2.2.2.2.2.2.2.2.2.1; have hW10 := hW.2.2.2.2.2.2.2.2.2.2.1; have hW11 := hW.2.2.2.2.2.2.2.2.2.2.2.1; clear hW; go_simp; try first | rfl | kernel_rfl
  dsimp only [setO, List.set_cons_zero, List.set_cons_succ]
  refine wpAnyH_readyL hTab (by kernel_rfl) (rs := [87]) (by kernel_rfl) (by simp) (AllReadyH.cons (opOf rfl) (fun KK hKK => ?_) AllReadyH.nil)
  go_simp
  refine (S.call (dof_any (0) (0) _ (HT.out.below S.below) (by decide) (by decide) (by decide) (by decide) qs0 qs0_dq)).mono ?_; clear S; rintro e w35 ⟨⟨_, rfl, b35, p35, l35, K35, m35, e35, rfl, h35, n35, d35⟩, S, H⟩; refine iv8 H n11 n12 n13 n14 n15 n16 n17 n18 ?_; clear n11 n12 n13 n14 n15 n16 n17 n18; intro n11 n12 n13 n14 n15 n16 n17 n18; refine iv8 H n19 n20 n21 n22 n23 n24 n25 n26 ?_; clear n19 n20 n21 n22 n23 n24 n25 n26; intro n19 n20 n21 n22 n23 n24 n25 n26; refine iv8 H n27 n28 n29 n30 n31 n32 n33 n34 ?_; clear n27 n28 n29 n30 n31 n32 n33 n34 H; intro n27 n28 n29 n30 n31 n32 n33 n34
  go_wp2_with fail
  refine hKK.out _ _ (con6 (S.c6 0 rfl) (con6 (S.c6 1 rfl) (con6 (S.c6 2 rfl) (con6 (S.c6 3 rfl) (con6 (S.c6 4 rfl) (con6 (S.c6 5 rfl) (con6 (S.c6 6 rfl) (con3 (S.c3 7 rfl) (con3 (S.c3 8 rfl) (con6 (S.c6 10 rfl) (S.c6 11 rfl))))))))))) (fun hS => ?_)
  clear hKK KK
  refine wpAnyH_setL ?_; dsimp only [List.set_cons_zero, List.set_cons_succ]
  refine wpAnyH_readyL hTab (by kernel_rfl) (rs := [88]) (by kernel_rfl) (by simp) (AllReadyH.cons (opOf rfl) (fun KK hKK => ?_) AllReadyH.nil)
  go_simp
  refine (S.call (shas_any ⟨b13, p13, l13, K13, m13, e13, b14, p14, l14, K14, m14, e14, rfl, h13, n13, d13, h14, n14, d14⟩ ⟨b35, p35, l35, K35, m35, e35, rfl, h35, n35, d35⟩ (by decide) true qhas0)).mono ?_; clear S; rintro e w36 ⟨rfl, S, H⟩; refine iv8 H n11 n12 n13 n14 n15 n16 n17 n18 ?_; clear n11 n12 n13 n14 n15 n16 n17 n18; intro n11 n12 n13 n14 n15 n16 n17 n18; refine iv8 H n19 n20 n21 n22 n23 n24 n25 n26 ?_; clear n19 n20 n21 n22 n23 n24 n25 n26; intro n19 n20 n21 n22 n23 n24 n25 n26; refine iv8 H n27 n28 n29 n30 n31 n32 n33 n34 ?_; clear n27 n28 n29 n30 n31 n32 n33 n34; intro n27 n28 n29 n30 n31 n32 n33 n34; replace n35 := n35.hold H; clear H
  go_wp2_with fail
  refine hKK.out _ _ (con6 (S.c6 0 rfl) (con6 (S.c6 1 rfl) (con6 (S.c6 2 rfl) (con6 (S.c6 3 rfl) (con6 (S.c6 4 rfl) (con6 (S.c6 5 rfl) (con6 (S.c6 6 rfl) (con3 (S.c3 7 rfl) (con3 (S.c3 8 rfl) (con6 (S.c6 10 rfl) (S.c6 11 rfl))))))))))) (fun hS => ?_)
  clear hKK KK
  refine wpAnyH_setL ?_; dsimp only [List.set_cons_zero, List.set_cons_succ]
  refine wpAnyH_takeL (i := 89) (v := .bool true) hTab (opOf rfl) hNoSel (by kernel_rfl) (fun _ _ _ h => h) (Or.inl ⟨by kernel_rfl, fun W _ => by kernel_rfl⟩) hS ?_
  dsimp only [setO, List.set_cons_zero, List.set_cons_succ]
  refine wpAnyH_takeL (i := 90) (v := .bool true) hTab (opOf rfl) hNoSel (by kernel_rfl) (fun _ _ _ h => h) (Or.inl ⟨by kernel_rfl, fun W _ => by kernel_rfl⟩) hS ?_
  dsimp only [setO, List.set_cons_zero, List.set_cons_succ]
  refine wpAnyH_takeL (i := 91) (v := ?_) hTab (opOf rfl) hNoSel (by kernel_rfl) (fun _ _ _ h => h) (Or.inl ⟨rfl, fun W hW => ?_⟩) hS ?_
  rotate_left
  · have hW6 := hW.2.2.2.2.2.2.1; have hW7 := hW.2.2.2.2.2.2.2.1; have hW8 := hW.2.2.2.2.2.2.2.2.1; have hW9 := hW.2.2.2.2.2.2.2.2.2.1; have hW10 := hW.2.2.2.2.2.2.2.2.2.2.1; have hW11 := hW.2.2.2.2.2.2.2.2.2.2.2.1; clear hW; go_simp; try first | rfl | kernel_rfl
  dsimp only [setO, List.set_cons_zero, List.set_cons_succ]
  refine wpAnyH_readyL hTab (by kernel_rfl) (rs := [92]) (by kernel_rfl) (by simp) (AllReadyH.cons (opOf rfl) (fun KK hKK => ?_) AllReadyH.nil)
  go_simp
  refine (S.call (ssize_any ⟨b13, p13, l13, K13, m13, e13, b14, p14, l14, K14, m14, e14, rfl, h13, n13, d13, h14, n14, d14⟩ (by decide))).mono ?_; clear S; rintro e w37 ⟨⟨_, rfl, b36, p36, l36, K36, m36, e36, rfl, h36, n36, d36⟩, S, H⟩; refine iv8 H n11 n12 n13 n14 n15 n16 n17 n18 ?_; clear n11 n12 n13 n14 n15 n16 n17 n18; intro n11 n12 n13 n14 n15 n16 n17 n18; refine iv8 H n19 n20 n21 n22 n23 n24 n25 n26 ?_; clear n19 n20 n21 n22 n23 n24 n25 n26; intro n19 n20 n21 n22 n23 n24 n25 n26; refine iv8 H n27 n28 n29 n30 n31 n32 n33 n34 ?_; clear n27 n28 n29 n30 n31 n32 n33 n34; intro n27 n28 n29 n30 n31 n32 n33 n34; replace n35 := n35.hold H; clear H
  go_wp2_with fail
  refine hKK.out _ _ (con6 (S.c6 0 rfl) (con6 (S.c6 1 rfl) (con6 (S.c6 2 rfl) (con6 (S.c6 3 rfl) (con6 (S.c6 4 rfl) (con6 (S.c6 5 rfl) (con6 (S.c6 6 rfl) (con3 (S.c3 7 rfl) (con3 (S.c3 8 rfl) (con6 (S.c6 10 rfl) (S.c6 11 rfl))))))))))) (fun hS => ?_)
  clear hKK KK
  refine wpAnyH_setL ?_; dsimp only [List.set_cons_zero, List.set_cons_succ]
  refine wpAnyH_readyL hTab (by kernel_rfl) (rs := [93]) (by kernel_rfl) (by simp) (AllReadyH.cons (opOf rfl) (fun KK hKK => ?_) AllReadyH.nil)
  go_simp
  refine (S.call (dof_any (3) (0) _ (HT.out.below S.below) (by decide) (by decide) (by decide) (by decide) qs3 qs3_dq)).mono ?_; clear S; rintro e w38 ⟨⟨_, rfl, b37, p37, l37, K37, m37, e37, rfl, h37, n37, d37⟩, S, H⟩; refine iv8 H n11 n12 n13 n14 n15 n16 n17 n18 ?_; clear n11 n12 n13 n14 n15 n16 n17 n18; intro n11 n12 n13 n14 n15 n16 n17 n18; refine iv8 H n19 n20 n21 n22 n23 n24 n25 n26 ?_; clear n19 n20 n21 n22 n23 n24 n25 n26; intro n19 n20 n21 n22 n23 n24 n25 n26; refine iv8 H n27 n28 n29 n30 n31 n32 n33 n34 ?_; clear n27 n28 n29 n30 n31 n32 n33 n34; intro n27 n28 n29 n30 n31 n32 n33 n34; refine iv2 H n35 n36 ?_; clear n35 n36 H; intro n35 n36
  go_wp2_with fail
  refine hKK.out _ _ (con6 (S.c6 0 rfl) (con6 (S.c6 1 rfl) (con6 (S.c6 2 rfl) (con6 (S.c6 3 rfl) (con6 (S.c6 4 rfl) (con6 (S.c6 5 rfl) (con6 (S.c6 6 rfl) (con3 (S.c3 7 rfl) (con3 (S.c3 8 rfl) (con6 (S.c6 10 rfl) (S.c6 11 rfl))))))))))) (fun hS => ?_)
  clear hKK KK
  refine wpAnyH_setL ?_; dsimp only [List.set_cons_zero, List.set_cons_succ]
  refine wpAnyH_readyL hTab (by kernel_rfl) (rs := [94]) (by kernel_rfl) (by simp) (AllReadyH.cons (opOf rfl) (fun KK hKK => ?_) AllReadyH.nil)
  go_simp
  refine (S.call (dcompare_any ⟨b36, p36, l36, K36, m36, e36, rfl, h36, n36, d36⟩ ⟨b37, p37, l37, K37, m37, e37, rfl, h37, n37, d37⟩ (by decide) 0 qsize)).mono ?_; clear S; rintro e w39 ⟨rfl, S, H⟩; refine iv8 H n11 n12 n13 n14 n15 n16 n17 n18 ?_; clear n11 n12 n13 n14 n15 n16 n17 n18; intro n11 n12 n13 n14 n15 n16 n17 n18; refine iv8 H n19 n20 n21 n22 n23 n24 n25 n26 ?_; clear n19 n20 n21 n22 n23 n24 n25 n26; intro n19 n20 n21 n22 n23 n24 n25 n26; refine iv8 H n27 n28 n29 n30 n31 n32 n33 n34 ?_; clear n27 n28 n29 n30 n31 n32 n33 n34; intro n27 n28 n29 n30 n31 n32 n33 n34; refine iv3 H n35 n36 n37 ?_; clear n35 n36 n37 H; intro n35 n36 n37
  go_wp2_with fail
  refine hKK.out _ _ (con6 (S.c6 0 rfl) (con6 (S.c6 1 rfl) (con6 (S.c6 2 rfl) (con6 (S.c6 3 rfl) (con6 (S.c6 4 rfl) (con6 (S.c6 5 rfl) (con6 (S.c6 6 rfl) (con3 (S.c3 7 rfl) (con3 (S.c3 8 rfl) (con6 (S.c6 10 rfl) (S.c6 11 rfl))))))))))) (fun hS => ?_)
  clear hKK KK
  refine wpAnyH_setL ?_; dsimp only [List.set_cons_zero, List.set_cons_succ]
  refine wpAnyH_takeL (i := 95) (v := .bool true) hTab (opOf rfl) hNoSel (by kernel_rfl) (fun _ _ _ h => h) (Or.inl ⟨by kernel_rfl, fun W _ => by kernel_rfl⟩) hS ?_
  dsimp only [setO, List.set_cons_zero, List.set_cons_succ]
  refine wpAnyH_takeL (i := 96) (v := .bool true) hTab (opOf rfl) hNoSel (by kernel_rfl) (fun _ _ _ h => h) (Or.inl ⟨by kernel_rfl, fun W _ => by kernel_rfl⟩) hS ?_
  dsimp only [setO, List.set_cons_zero, List.set_cons_succ]
  refine wpAnyH_takeL (i := 97) (v := .bool true) hTab (opOf rfl) hNoSel (by kernel_rfl) (fun _ _ _ h => h) (Or.inl ⟨by kernel_rfl, fun W _ => by kernel_rfl⟩) hS ?_
  dsimp only [setO, List.set_cons_zero, List.set_cons_succ]
  refine wpAnyH_takeL (i := 98) (v := ?_) hTab (opOf rfl) hNoSel (by kernel_rfl) (fun _ _ _ h => h) (Or.inl ⟨rfl, fun W hW => ?_⟩) hS ?_
  rotate_left
  · have hW0 := hW.1; have hW1 := hW.2.1; have hW2 := hW.2.2.1; have hW3 := hW.2.2.2.1; have hW4 := hW.2.2.2.2.1; have hW5 := hW.2.2.2.2.2.1; clear hW; go_simp; try first | rfl | kernel_rfl
  dsimp only [setO, List.set_cons_zero, List.set_cons_succ]
  refine wpAnyH_readyL hTab (by kernel_rfl) (rs := [99]) (by kernel_rfl) (by simp) (AllReadyH.cons (opOf rfl) (fun KK hKK => ?_) AllReadyH.nil)
  go_simp
  refine (S.call (sneg_any ⟨b11, p11, l11, K11, m11, e11, b12, p12, l12, K12, m12, e12, rfl, h11, n11, d11, h12, n12, d12⟩ (by decide))).mono ?_; clear S; rintro e w40 ⟨⟨_, rfl, b38, p38, l38, K38, m38, e38, b39, p39, l39, K39, m39, e39, rfl, h38, n38, d38, h39, n39, d39⟩, S, H⟩; refine iv8 H n11 n12 n13 n14 n15 n16 n17 n18 ?_; clear n11 n12 n13 n14 n15 n16 n17 n18; intro n11 n12 n13 n14 n15 n16 n17 n18; refine iv8 H n19 n20 n21 n22 n23 n24 n25 n26 ?_; clear n19 n20 n21 n22 n23 n24 n25 n26; intro n19 n20 n21 n22 n23 n24 n25 n26; refine iv8 H n27 n28 n29 n30 n31 n32 n33 n34 ?_; clear n27 n28 n29 n30 n31 n32 n33 n34; intro n27 n28 n29 n30 n31 n32 n33 n34; refine iv3 H n35 n36 n37 ?_; clear n35 n36 n37 H; intro n35 n36 n37
  go_wp2_with fail
  refine hKK.out _ _ (con6 (S.c6 0 rfl) (con6 (S.c6 1 rfl) (con6 (S.c6 2 rfl) (con6 (S.c6 3 rfl) (con6 (S.c6 4 rfl) (con6 (S.c6 5 rfl) (con6 (S.c6 6 rfl) (con3 (S.c3 7 rfl) (con3 (S.c3 8 rfl) (con6 (S.c6 10 rfl) (S.c6 11 rfl))))))))))) (fun hS => ?_)
  clear hKK KK
  refine wpAnyH_setL ?_; dsimp only [List.set_cons_zero, List.set_cons_succ]
  refine wpAnyH_readyL hTab (by kernel_rfl) (rs := [100]) (by kernel_rfl) (by simp) (AllReadyH.cons (opOf rfl) (fun KK hKK => ?_) AllReadyH.nil)
  go_simp
  refine (S.call (stext_v (L := 100) (H := 164) ⟨b38, p38, l38, K38, m38, e38, b39, p39, l39, K39, m39, e39, rfl, h38, n38, d38, h39, n39, d39⟩ (by decide) qsm2 qsm1 qneg2 qneg1 qsm2_rb qsm1_rb ⟨#[45, 50]⟩ ⟨#[45, 49]⟩ ⟨#[45, 50, 46, 46, 45, 49]⟩ qsm2_text qsm1_text (by decide) (by decide) (by decide +kernel))).mono ?_; clear S; rintro e w41 ⟨rfl, S, H⟩; refine iv8 H n11 n12 n13 n14 n15 n16 n17 n18 ?_; clear n11 n12 n13 n14 n15 n16 n17 n18; intro n11 n12 n13 n14 n15 n16 n17 n18; refine iv8 H n19 n20 n21 n22 n23 n24 n25 n26 ?_; clear n19 n20 n21 n22 n23 n24 n25 n26; intro n19 n20 n21 n22 n23 n24 n25 n26; refine iv8 H n27 n28 n29 n30 n31 n32 n33 n34 ?_; clear n27 n28 n29 n30 n31 n32 n33 n34; intro n27 n28 n29 n30 n31 n32 n33 n34; refine iv5 H n35 n36 n37 n38 n39 ?_; clear n35 n36 n37 n38 n39 H; intro n35 n36 n37 n38 n39
  go_wp2_with fail
  refine hKK.out _ _ (con6 (S.c6 0 rfl) (con6 (S.c6 1 rfl) (con6 (S.c6 2 rfl) (con6 (S.c6 3 rfl) (con6 (S.c6 4 rfl) (con6 (S.c6 5 rfl) (con6 (S.c6 6 rfl) (con3 (S.c3 7 rfl) (con3 (S.c3 8 rfl) (con6 (S.c6 10 rfl) (S.c6 11 rfl))))))))))) (fun hS => ?_)
  clear hKK KK
  refine wpAnyH_setL ?_; dsimp only [List.set_cons_zero, List.set_cons_succ]
  refine wpAnyH_takeL (i := 101) (v := .bool true) hTab (opOf rfl) hNoSel (by kernel_rfl) (fun _ _ _ h => h) (Or.inl ⟨by kernel_rfl, fun W _ => by kernel_rfl⟩) hS ?_
  dsimp only [setO, List.set_cons_zero, List.set_cons_succ]
  refine wpAnyH_takeL (i := 102) (v := .bool true) hTab (opOf rfl) hNoSel (by kernel_rfl) (fun _ _ _ h => h) (Or.inl ⟨by kernel_rfl, fun W _ => by kernel_rfl⟩) hS ?_
  dsimp only [setO, List.set_cons_zero, List.set_cons_succ]
  refine wpAnyH_takeL (i := 103) (v := .bool true) hTab (opOf rfl) hNoSel (by kernel_rfl) (fun _ _ _ h => h) (Or.inl ⟨by kernel_rfl, fun W _ => by kernel_rfl⟩) hS ?_
  dsimp only [setO, List.set_cons_zero, List.set_cons_succ]
  refine wpAnyH_readyL hTab (by kernel_rfl) (rs := [104]) (by kernel_rfl) (by simp) (AllReadyH.cons (opOf rfl) (fun KK hKK => ?_) AllReadyH.nil)
  go_simp
  refine (S.call (dof_any 1 1 _ (HT.out.below S.below) (by decide) (by decide) (by decide) (by decide) qs2 qpt)).mono ?_; clear S; rintro e w42 ⟨⟨_, rfl, b40, p40, l40, K40, m40, e40, rfl, h40, n40, d40⟩, S, H⟩; refine iv8 H n11 n12 n13 n14 n15 n16 n17 n18 ?_; clear n11 n12 n13 n14 n15 n16 n17 n18; intro n11 n12 n13 n14 n15 n16 n17 n18; refine iv8 H n19 n20 n21 n22 n23 n24 n25 n26 ?_; clear n19 n20 n21 n22 n23 n24 n25 n26; intro n19 n20 n21 n22 n23 n24 n25 n26; refine iv8 H n27 n28 n29 n30 n31 n32 n33 n34 ?_; clear n27 n28 n29 n30 n31 n32 n33 n34; intro n27 n28 n29 n30 n31 n32 n33 n34; refine iv5 H n35 n36 n37 n38 n39 ?_; clear n35 n36 n37 n38 n39 H; intro n35 n36 n37 n38 n39
  go_wp2_with fail
  refine hKK.out _ _ (con6 (S.c6 0 rfl) (con6 (S.c6 1 rfl) (con6 (S.c6 2 rfl) (con6 (S.c6 3 rfl) (con6 (S.c6 4 rfl) (con6 (S.c6 5 rfl) (con6 (S.c6 6 rfl) (con3 (S.c3 7 rfl) (con3 (S.c3 8 rfl) (con6 (S.c6 10 rfl) (S.c6 11 rfl))))))))))) (fun hS => ?_)
  clear hKK KK
  refine wpAnyH_setL ?_; dsimp only [List.set_cons_zero, List.set_cons_succ]
  refine wpAnyH_readyL hTab (by kernel_rfl) (rs := [105]) (by kernel_rfl) (by simp) (AllReadyH.cons (opOf rfl) (fun KK hKK => ?_) AllReadyH.nil)
  go_simp
  refine (S.call (spoint_any ⟨b40, p40, l40, K40, m40, e40, rfl, h40, n40, d40⟩ (by decide))).mono ?_; clear S; rintro e w43 ⟨⟨_, rfl, b41, p41, l41, K41, m41, e41, b42, p42, l42, K42, m42, e42, rfl, h41, n41, d41, h42, n42, d42⟩, S, H⟩; refine iv8 H n11 n12 n13 n14 n15 n16 n17 n18 ?_; clear n11 n12 n13 n14 n15 n16 n17 n18; intro n11 n12 n13 n14 n15 n16 n17 n18; refine iv8 H n19 n20 n21 n22 n23 n24 n25 n26 ?_; clear n19 n20 n21 n22 n23 n24 n25 n26; intro n19 n20 n21 n22 n23 n24 n25 n26; refine iv8 H n27 n28 n29 n30 n31 n32 n33 n34 ?_; clear n27 n28 n29 n30 n31 n32 n33 n34; intro n27 n28 n29 n30 n31 n32 n33 n34; refine iv6 H n35 n36 n37 n38 n39 n40 ?_; clear n35 n36 n37 n38 n39 n40 H; intro n35 n36 n37 n38 n39 n40
  go_wp2_with fail
  refine hKK.out _ _ (con6 (S.c6 0 rfl) (con6 (S.c6 1 rfl) (con6 (S.c6 2 rfl) (con6 (S.c6 3 rfl) (con6 (S.c6 4 rfl) (con6 (S.c6 5 rfl) (con6 (S.c6 6 rfl) (con3 (S.c3 7 rfl) (con3 (S.c3 8 rfl) (con6 (S.c6 10 rfl) (S.c6 11 rfl))))))))))) (fun hS => ?_)
  clear hKK KK
  refine wpAnyH_setL ?_; dsimp only [List.set_cons_zero, List.set_cons_succ]
  refine wpAnyH_readyL hTab (by kernel_rfl) (rs := [106]) (by kernel_rfl) (by simp) (AllReadyH.cons (opOf rfl) (fun KK hKK => ?_) AllReadyH.nil)
  go_simp
  refine (S.call (stext_v (L := 100) (H := 164) ⟨b41, p41, l41, K41, m41, e41, b42, p42, l42, K42, m42, e42, rfl, h41, n41, d41, h42, n42, d42⟩ (by decide) qs2 qs2 rfl rfl qs2_rb qs2_rb ⟨#[50]⟩ ⟨#[50]⟩ ⟨#[50, 46, 46, 50]⟩ qs2_text qs2_text (by decide) (by decide) (by decide +kernel))).mono ?_; clear S; rintro e w44 ⟨rfl, S, H⟩; refine iv8 H n11 n12 n13 n14 n15 n16 n17 n18 ?_; clear n11 n12 n13 n14 n15 n16 n17 n18; intro n11 n12 n13 n14 n15 n16 n17 n18; refine iv8 H n19 n20 n21 n22 n23 n24 n25 n26 ?_; clear n19 n20 n21 n22 n23 n24 n25 n26; intro n19 n20 n21 n22 n23 n24 n25 n26; refine iv8 H n27 n28 n29 n30 n31 n32 n33 n34 ?_; clear n27 n28 n29 n30 n31 n32 n33 n34; intro n27 n28 n29 n30 n31 n32 n33 n34; refine iv8 H n35 n36 n37 n38 n39 n40 n41 n42 ?_; clear n35 n36 n37 n38 n39 n40 n41 n42 H; intro n35 n36 n37 n38 n39 n40 n41 n42
  go_wp2_with fail
  refine hKK.out _ _ (con6 (S.c6 0 rfl) (con6 (S.c6 1 rfl) (con6 (S.c6 2 rfl) (con6 (S.c6 3 rfl) (con6 (S.c6 4 rfl) (con6 (S.c6 5 rfl) (con6 (S.c6 6 rfl) (con3 (S.c3 7 rfl) (con3 (S.c3 8 rfl) (con6 (S.c6 10 rfl) (S.c6 11 rfl))))))))))) (fun hS => ?_)
  clear hKK KK
  refine wpAnyH_setL ?_; dsimp only [List.set_cons_zero, List.set_cons_succ]
  refine wpAnyH_takeL (i := 107) (v := .bool true) hTab (opOf rfl) hNoSel (by kernel_rfl) (fun _ _ _ h => h) (Or.inl ⟨by kernel_rfl, fun W _ => by kernel_rfl⟩) hS ?_
  dsimp only [setO, List.set_cons_zero, List.set_cons_succ]
  refine wpAnyH_takeL (i := 108) (v := .bool true) hTab (opOf rfl) hNoSel (by kernel_rfl) (fun _ _ _ h => h) (Or.inl ⟨by kernel_rfl, fun W _ => by kernel_rfl⟩) hS ?_
  dsimp only [setO, List.set_cons_zero, List.set_cons_succ]
  refine wpAnyH_takeL (i := 109) (v := .bool true) hTab (opOf rfl) hNoSel (by kernel_rfl) (fun _ _ _ h => h) (Or.inl ⟨by kernel_rfl, fun W _ => by kernel_rfl⟩) hS ?_
  dsimp only [setO, List.set_cons_zero, List.set_cons_succ]
  refine wpAnyH_readyL hTab (by kernel_rfl) (rs := [110]) (by kernel_rfl) (by simp) (AllReadyH.cons (opOf rfl) (fun KK hKK => ?_) AllReadyH.nil)
  go_simp
  refine (S.call (dof_any (-1) (0) _ (HT.out.below S.below) (by decide) (by decide) (by decide) (by decide) qsm1 qsm1_dq)).mono ?_; clear S; rintro e w45 ⟨⟨_, rfl, b43, p43, l43, K43, m43, e43, rfl, h43, n43, d43⟩, S, H⟩; refine iv8 H n11 n12 n13 n14 n15 n16 n17 n18 ?_; clear n11 n12 n13 n14 n15 n16 n17 n18; intro n11 n12 n13 n14 n15 n16 n17 n18; refine iv8 H n19 n20 n21 n22 n23 n24 n25 n26 ?_; clear n19 n20 n21 n22 n23 n24 n25 n26; intro n19 n20 n21 n22 n23 n24 n25 n26; refine iv8 H n27 n28 n29 n30 n31 n32 n33 n34 ?_; clear n27 n28 n29 n30 n31 n32 n33 n34; intro n27 n28 n29 n30 n31 n32 n33 n34; refine iv8 H n35 n36 n37 n38 n39 n40 n41 n42 ?_; clear n35 n36 n37 n38 n39 n40 n41 n42 H; intro n35 n36 n37 n38 n39 n40 n41 n42
  go_wp2_with fail
  refine hKK.out _ _ (con6 (S.c6 0 rfl) (con6 (S.c6 1 rfl) (con6 (S.c6 2 rfl) (con6 (S.c6 3 rfl) (con6 (S.c6 4 rfl) (con6 (S.c6 5 rfl) (con6 (S.c6 6 rfl) (con3 (S.c3 7 rfl) (con3 (S.c3 8 rfl) (con6 (S.c6 10 rfl) (S.c6 11 rfl))))))))))) (fun hS => ?_)
  clear hKK KK
  refine wpAnyH_setL ?_; dsimp only [List.set_cons_zero, List.set_cons_succ]
  refine wpAnyH_readyL hTab (by kernel_rfl) (rs := [111]) (by kernel_rfl) (by simp) (AllReadyH.cons (opOf rfl) (fun KK hKK => ?_) AllReadyH.nil)
  go_simp
  refine (S.call (seven_any ⟨b43, p43, l43, K43, m43, e43, rfl, h43, n43, d43⟩ (by decide))).mono ?_; clear S; rintro e w46 ⟨⟨_, rfl, b44, p44, l44, K44, m44, e44, b45, p45, l45, K45, m45, e45, rfl, h44, n44, d44, h45, n45, d45⟩, S, H⟩; refine iv8 H n11 n12 n13 n14 n15 n16 n17 n18 ?_; clear n11 n12 n13 n14 n15 n16 n17 n18; intro n11 n12 n13 n14 n15 n16 n17 n18; refine iv8 H n19 n20 n21 n22 n23 n24 n25 n26 ?_; clear n19 n20 n21 n22 n23 n24 n25 n26; intro n19 n20 n21 n22 n23 n24 n25 n26; refine iv8 H n27 n28 n29 n30 n31 n32 n33 n34 ?_; clear n27 n28 n29 n30 n31 n32 n33 n34; intro n27 n28 n29 n30 n31 n32 n33 n34; refine iv8 H n35 n36 n37 n38 n39 n40 n41 n42 ?_; clear n35 n36 n37 n38 n39 n40 n41 n42; intro n35 n36 n37 n38 n39 n40 n41 n42; replace n43 := n43.hold H; clear H
  go_wp2_with fail
  refine hKK.out _ _ (con6 (S.c6 0 rfl) (con6 (S.c6 1 rfl) (con6 (S.c6 2 rfl) (con6 (S.c6 3 rfl) (con6 (S.c6 4 rfl) (con6 (S.c6 5 rfl) (con6 (S.c6 6 rfl) (con3 (S.c3 7 rfl) (con3 (S.c3 8 rfl) (con6 (S.c6 10 rfl) (S.c6 11 rfl))))))))))) (fun hS => ?_)
  clear hKK KK
  refine wpAnyH_setL ?_; dsimp only [List.set_cons_zero, List.set_cons_succ]
  refine wpAnyH_readyL hTab (by kernel_rfl) (rs := [112]) (by kernel_rfl) (by simp) (AllReadyH.cons (opOf rfl) (fun KK hKK => ?_) AllReadyH.nil)
  go_simp
  refine (S.call (stext_v (L := 100) (H := 164) ⟨b44, p44, l44, K44, m44, e44, b45, p45, l45, K45, m45, e45, rfl, h44, n44, d44, h45, n45, d45⟩ (by decide) qsm1 qs1 qev1 qev2 qsm1_rb qs1_rb ⟨#[45, 49]⟩ ⟨#[49]⟩ ⟨#[45, 49, 46, 46, 49]⟩ qsm1_text qs1_text (by decide) (by decide) (by decide +kernel))).mono ?_; clear S; rintro e w47 ⟨rfl, S, H⟩; refine iv8 H n11 n12 n13 n14 n15 n16 n17 n18 ?_; clear n11 n12 n13 n14 n15 n16 n17 n18; intro n11 n12 n13 n14 n15 n16 n17 n18; refine iv8 H n19 n20 n21 n22 n23 n24 n25 n26 ?_; clear n19 n20 n21 n22 n23 n24 n25 n26; intro n19 n20 n21 n22 n23 n24 n25 n26; refine iv8 H n27 n28 n29 n30 n31 n32 n33 n34 ?_; clear n27 n28 n29 n30 n31 n32 n33 n34; intro n27 n28 n29 n30 n31 n32 n33 n34; refine iv8 H n35 n36 n37 n38 n39 n40 n41 n42 ?_; clear n35 n36 n37 n38 n39 n40 n41 n42; intro n35 n36 n37 n38 n39 n40 n41 n42; refine iv3 H n43 n44 n45 ?_; clear n43 n44 n45 H; intro n43 n44 n45
  go_wp2_with fail
  refine hKK.out _ _ (con6 (S.c6 0 rfl) (con6 (S.c6 1 rfl) (con6 (S.c6 2 rfl) (con6 (S.c6 3 rfl) (con6 (S.c6 4 rfl) (con6 (S.c6 5 rfl) (con6 (S.c6 6 rfl) (con3 (S.c3 7 rfl) (con3 (S.c3 8 rfl) (con6 (S.c6 10 rfl) (S.c6 11 rfl))))))))))) (fun hS => ?_)
  clear hKK KK
  refine wpAnyH_setL ?_; dsimp only [List.set_cons_zero, List.set_cons_succ]
  refine wpAnyH_takeL (i := 113) (v := .bool true) hTab (opOf rfl) hNoSel (by kernel_rfl) (fun _ _ _ h => h) (Or.inl ⟨by kernel_rfl, fun W _ => by kernel_rfl⟩) hS ?_
  dsimp only [setO, List.set_cons_zero, List.set_cons_succ]
  refine wpAnyH_takeL (i := 114) (v := .bool true) hTab (opOf rfl) hNoSel (by kernel_rfl) (fun _ _ _ h => h) (Or.inl ⟨by kernel_rfl, fun W _ => by kernel_rfl⟩) hS ?_
  dsimp only [setO, List.set_cons_zero, List.set_cons_succ]
  refine wpAnyH_takeL (i := 115) (v := .bool true) hTab (opOf rfl) hNoSel (by kernel_rfl) (fun _ _ _ h => h) (Or.inl ⟨by kernel_rfl, fun W _ => by kernel_rfl⟩) hS ?_
  dsimp only [setO, List.set_cons_zero, List.set_cons_succ]
  refine wpAnyH_takeL (i := 116) (v := ?_) hTab (opOf rfl) hNoSel (by kernel_rfl) (fun _ _ _ h => h) (Or.inl ⟨rfl, fun W hW => ?_⟩) hS ?_
  rotate_left
  · have hW0 := hW.1; have hW1 := hW.2.1; have hW2 := hW.2.2.1; have hW3 := hW.2.2.2.1; have hW4 := hW.2.2.2.2.1; have hW5 := hW.2.2.2.2.2.1; clear hW; go_simp; try first | rfl | kernel_rfl
  dsimp only [setO, List.set_cons_zero, List.set_cons_succ]
  refine wpAnyH_readyL hTab (by kernel_rfl) (rs := [117]) (by kernel_rfl) (by simp) (AllReadyH.cons (opOf rfl) (fun KK hKK => ?_) AllReadyH.nil)
  go_simp
  refine (S.call (scheck_any (HT.out.below S.below) ⟨b11, p11, l11, K11, m11, e11, b12, p12, l12, K12, m12, e12, rfl, h11, n11, d11, h12, n12, d12⟩ (by decide) qle12)).mono ?_; clear S; rintro e w48 ⟨rfl, S, H⟩; refine iv8 H n11 n12 n13 n14 n15 n16 n17 n18 ?_; clear n11 n12 n13 n14 n15 n16 n17 n18; intro n11 n12 n13 n14 n15 n16 n17 n18; refine iv8 H n19 n20 n21 n22 n23 n24 n25 n26 ?_; clear n19 n20 n21 n22 n23 n24 n25 n26; intro n19 n20 n21 n22 n23 n24 n25 n26; refine iv8 H n27 n28 n29 n30 n31 n32 n33 n34 ?_; clear n27 n28 n29 n30 n31 n32 n33 n34; intro n27 n28 n29 n30 n31 n32 n33 n34; refine iv8 H n35 n36 n37 n38 n39 n40 n41 n42 ?_; clear n35 n36 n37 n38 n39 n40 n41 n42; intro n35 n36 n37 n38 n39 n40 n41 n42; refine iv3 H n43 n44 n45 ?_; clear n43 n44 n45 H; intro n43 n44 n45
  go_wp2_with fail
  refine hKK.out _ _ (con6 (S.c6 0 rfl) (con6 (S.c6 1 rfl) (con6 (S.c6 2 rfl) (con6 (S.c6 3 rfl) (con6 (S.c6 4 rfl) (con6 (S.c6 5 rfl) (con6 (S.c6 6 rfl) (con3 (S.c3 7 rfl) (con3 (S.c3 8 rfl) (con6 (S.c6 10 rfl) (S.c6 11 rfl))))))))))) (fun hS => ?_)
  clear hKK KK
  refine wpAnyH_setL ?_; dsimp only [List.set_cons_zero, List.set_cons_succ]
  refine wpAnyH_takeL (i := 118) (v := .bool true) hTab (opOf rfl) hNoSel (by kernel_rfl) (fun _ _ _ h => h) (Or.inl ⟨by kernel_rfl, fun W _ => by kernel_rfl⟩) hS ?_
  dsimp only [setO, List.set_cons_zero, List.set_cons_succ]
  refine wpAnyH_takeL (i := 119) (v := .bool true) hTab (opOf rfl) hNoSel (by kernel_rfl) (fun _ _ _ h => h) (Or.inl ⟨by kernel_rfl, fun W _ => by kernel_rfl⟩) hS ?_
  dsimp only [setO, List.set_cons_zero, List.set_cons_succ]
  refine wpAnyH_readyL hTab (by kernel_rfl) (rs := [120]) (by kernel_rfl) (by simp) (AllReadyH.cons (opOf rfl) (fun KK hKK => ?_) AllReadyH.nil)
  go_simp
  refine hKK.out _ _ (con6 (S.c6 0 rfl) (con6 (S.c6 1 rfl) (con6 (S.c6 2 rfl) (con6 (S.c6 3 rfl) (con6 (S.c6 4 rfl) (con6 (S.c6 5 rfl) (con6 (S.c6 6 rfl) (con3 (S.c3 7 rfl) (con3 (S.c3 8 rfl) (con6 (S.c6 10 rfl) (S.c6 11 rfl))))))))))) (fun hS => ?_)
  clear hKK KK
  refine wpAnyH_setL ?_; dsimp only [List.set_cons_zero, List.set_cons_succ]
  refine wpAnyH_doneL hTab (by kernel_rfl) (by kernel_rfl) ?_ _
  go_wp2_with fail
  exact bodyPost_ret (v := .bool true) (by simp [results, Tryz.f13, go_sem]) rfl (⟨rfl, S.below⟩)
end Go.Proofs.YtcdmojefheipoaaGreatDoor
