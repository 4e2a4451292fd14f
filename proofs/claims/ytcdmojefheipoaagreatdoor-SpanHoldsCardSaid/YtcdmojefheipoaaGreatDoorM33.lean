/-
  What the statement stands on.
-/
import Derived.NoCompilerSame
import Derived.Deep.RegionHeld3
namespace Go.Proofs.YtcdmojefheipoaaGreatDoor
open Go
def setO (l : List Value) : Option Nat → Value → List Value
  | none, _ => l
  | some i, v => l.set i v
def tabsOf (a : List (List Nat)) (d : List Nat) (l : List (List Nat)) : RegionTabs := ⟨a.toArray, d.toArray, l.toArray⟩
def apart4 (di : Nat) (li : List Nat) (dj : Nat) (lj : List Nat) : Bool :=
  (match di with | d + 1 => !lj.contains d && dj != d + 1 | 0 => true) && (match dj with | d + 1 => !li.contains d | 0 => true)
theorem apart4_is (T : RegionTabs) (x y : Nat) : T.apart x y = apart4 (T.dst.getD x 0) (T.looks.getD x []) (T.dst.getD y 0) (T.looks.getD y []) := by
  unfold RegionTabs.apart apart4
  cases T.dst.getD x 0 <;> cases T.dst.getD y 0 <;> rfl
def rowFree (i di : Nat) (li : List Nat) (j : Nat) (b : Bool) (aj : List Nat) (dj : Nat) (lj : List Nat) : Bool :=
  j == i || b || aj.contains i || apart4 di li dj lj
def freeGo (i di : Nat) (li : List Nat) : Nat → List Bool → List (List Nat) → List Nat → List (List Nat) → Bool
  | _, _, [], _, _ => true
  | j, b :: bs, a :: as, d :: ds, l :: ls => rowFree i di li j b a d l && freeGo i di li (j + 1) bs as ds ls
  | _, _, _ :: _, _, _ => false
def readyGo (all : List Bool) : Nat → List Bool → List (List Nat) → List Nat
  | _, _, [] => []
  | j, b :: bs, a :: as => if (!b && a.all fun on => all.getD on false) = true then j :: readyGo all (j + 1) bs as else readyGo all (j + 1) bs as
  | _, [], _ :: _ => []
theorem freeGo_at {i di : Nat} {li : List Nat} : ∀ (as : List (List Nat)) (j : Nat) (bs : List Bool) (ds : List Nat) (ls : List (List Nat)), freeGo i di li j bs as ds ls = true →
    ∀ k, k < as.length → rowFree i di li (j + k) (bs.getD k true) (as.getD k []) (ds.getD k 0) (ls.getD k []) = true
  | [], _, _, _, _, _, k, hk => by simp at hk
  | a :: as, j, bs, ds, ls, h, k, hk => by
    match bs, ds, ls with
    | b :: bs, d :: ds, l :: ls =>
      simp only [freeGo, Bool.and_eq_true] at h
      match k with
      | 0 => simpa using h.1
      | k + 1 =>
        have := freeGo_at as (j + 1) bs ds ls h.2 k (by simpa using hk)
        rw [show j + (k + 1) = j + 1 + k by omega]
        simpa using this
    | [], _, _ => simp [freeGo] at h
    | _ :: _, [], _ => simp [freeGo] at h
    | _ :: _, _ :: _, [] => simp [freeGo] at h
theorem readyGo_is (all : List Bool) : ∀ (as : List (List Nat)) (j : Nat) (bs : List Bool), bs.length = as.length →
    readyGo all j bs as = (List.range' j as.length).filter fun i => !bs.getD (i - j) true && (as.getD (i - j) []).all fun on => all.getD on false
  | [], j, bs, _ => by simp [readyGo]
  | a :: as, j, [], h => by simp at h
  | a :: as, j, b :: bs, h => by
    have ih := readyGo_is all as (j + 1) bs (by simpa using h)
    have e : (List.range' (j + 1) as.length).filter (fun i => !(b :: bs).getD (i - j) true && ((a :: as).getD (i - j) []).all fun on => all.getD on false) = (List.range' (j + 1) as.length).filter fun i => !bs.getD (i - (j + 1)) true && (as.getD (i - (j + 1)) []).all fun on => all.getD on false := by
      apply List.filter_congr
      intro x hx
      rw [List.mem_range'_1] at hx
      obtain ⟨n, hn⟩ : ∃ n, x = j + 1 + n := ⟨x - (j + 1), by omega⟩
      subst hn
      rw [show j + 1 + n - j = n + 1 by omega, show j + 1 + n - (j + 1) = n by omega]
      simp
    simp only [readyGo, List.length_cons, List.range'_succ, List.filter_cons, Nat.sub_self, List.getD_cons_zero]
    rw [e, ih]
theorem tabs_free {as : List (List Nat)} {ds : List Nat} {ls : List (List Nat)} {bs : List Bool} {i : Nat} (hi : decide (i < as.length) = true) (h : freeGo i (ds.getD i 0) (ls.getD i []) 0 bs as ds ls = true) : (tabsOf as ds ls).free bs.toArray i = true := by
  have hi := of_decide_eq_true hi
  unfold RegionTabs.free
  simp only [tabsOf, List.size_toArray, hi, decide_true, Bool.true_and, List.all_eq_true, List.mem_range]
  intro j hj
  have := freeGo_at as 0 bs ds ls h j hj
  rw [Nat.zero_add] at this
  unfold rowFree at this
  rw [apart4_is]
  simpa [Array.getD_eq_getD_getElem?, List.getD_eq_getElem?_getD] using this
theorem tabs_ready {as : List (List Nat)} {ds : List Nat} {ls : List (List Nat)} {bs : List Bool} (hl : decide (bs.length = as.length) = true) : (tabsOf as ds ls).ready bs.toArray = readyGo bs 0 bs as := by
  rw [readyGo_is bs as 0 bs (of_decide_eq_true hl)]
  unfold RegionTabs.ready
  simp only [tabsOf, List.size_toArray, List.range_eq_range']
  apply List.filter_congr
  intro x hx
  rw [List.mem_range'_1] at hx
  have hx : x < as.length := by omega
  simp [Array.getD_eq_getD_getElem?, List.getD_eq_getElem?_getD, hx]
section
variable {P : Program} {ops : Array Oper} {Q : Exit → Act → World → Prop} {S : World → Prop} {A : List (List Nat)} {D : List Nat} {K : List (List Nat)}
theorem put_setO (l : List Value) (ds : List Deferred) (d : Option Nat) (v : Value) : Act.put ⟨l.toArray, ds⟩ d v = ⟨(setO l d v).toArray, ds⟩ := by
  cases d with
  | none => rfl
  | some i => simp [Act.put, setO]
theorem wp_region_held_drewL {id : Nat} {a : Act} {w : World} (hm : P.follows .mixedOrders = true) (hT : RegionTabs.of .any ops = tabsOf A D K) (hn : Region.noSelect ops = true) {bs : List Bool} (hb : Array.replicate ops.size false = bs.toArray) {n : Nat} (hsz : ops.size = n) (hS : S w.drew)
    (h : RegionTabs.of .any ops = tabsOf A D K → Region.noSelect ops = true → S w.drew → wpAnyH P .any ops Q S n bs.toArray a w.drew) : (Code.region id ops true).wp P Q a w :=
  wp_region_held_drew hm hS (by rw [hb, hsz]; exact h hT hn)
theorem wpAnyH_takeL {i : Nat} {oi : Oper} {v : Value} {fuel : Nat} {bs : List Bool} {l : List Value} {ds : List Deferred} {w : World} (hT : RegionTabs.of .any ops = tabsOf A D K) (hi : ops[i]? = some oi)
    (hs : Region.noSelect ops = true) (hc : (decide (i < A.length) && decide (bs.length = A.length) && freeGo i (D.getD i 0) (K.getD i []) 0 bs A D K && (readyGo bs 0 bs A).contains i) = true)
    (hQ : ∀ c a w, Q (.panic c) (a.put oi.dst v) w → Q (.panic c) a w) (hy : YieldsIf P ops S oi v ⟨l.toArray, ds⟩) (hS : S w)
    (h : wpAnyH P .any ops Q S fuel (bs.set i true).toArray ⟨(setO l oi.dst v).toArray, ds⟩ w) : wpAnyH P .any ops Q S (fuel + 1) bs.toArray ⟨l.toArray, ds⟩ w := by
  simp only [Bool.and_eq_true] at hc
  obtain ⟨⟨⟨h1, h2⟩, h3⟩, h4⟩ := hc
  refine wpAnyH_take hi hs ?_ ?_ hQ hy hS (by rw [put_setO, List.setIfInBounds_toArray]; exact h)
  · rw [← RegionTabs.free_eq, hT]; exact tabs_free h1 h3
  · rw [← RegionTabs.ready_eq, hT, tabs_ready h2]; exact h4
theorem wpAnyH_readyL {rs : List Nat} {fuel : Nat} {bs : List Bool} {a : Act} {w : World} (hT : RegionTabs.of .any ops = tabsOf A D K) (hl : decide (bs.length = A.length) = true) (hr : readyGo bs 0 bs A = rs) (hne : rs ≠ [])
    (h : AllReadyH P .any ops Q S fuel bs.toArray a w rs) : wpAnyH P .any ops Q S (fuel + 1) bs.toArray a w := wpAnyH_ready (by rw [← RegionTabs.ready_eq, hT, tabs_ready hl]; exact hr) hne h
theorem wpAnyH_doneL {bs : List Bool} {a : Act} {w : World} (hT : RegionTabs.of .any ops = tabsOf A D K) (hl : decide (bs.length = A.length) = true) (hr : readyGo bs 0 bs A = []) (h : Q .normal a w) :
    ∀ fuel, wpAnyH P .any ops Q S fuel bs.toArray a w := wpAnyH_done (by rw [← RegionTabs.ready_eq, hT, tabs_ready hl]; exact hr) h
theorem wpAnyH_setL {fuel i : Nat} {bs : List Bool} {a : Act} {w : World} (h : wpAnyH P .any ops Q S fuel (bs.set i true).toArray a w) : wpAnyH P .any ops Q S fuel (bs.toArray.setIfInBounds i true) a w := by rw [List.setIfInBounds_toArray]; exact h
end
end Go.Proofs.YtcdmojefheipoaaGreatDoor
