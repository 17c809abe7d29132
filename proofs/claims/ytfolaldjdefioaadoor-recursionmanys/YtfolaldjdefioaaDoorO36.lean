import Derived.Test.YtfolaldjdefioaaDoorO29
namespace Go.Proofs.YtfolaldjdefioaaDoor.Tree
/-- which are wanted, of k from b on -/
def wi (wt : List Bool) (b k : Nat) : List Nat := (List.range' b k).filter (fun j => wt.getD j false)
theorem wi_zero (wt : List Bool) (b : Nat) : wi wt b 0 = [] := rfl
theorem wi_add (wt : List Bool) (b k j : Nat) : wi wt b (k + j) = wi wt b k ++ wi wt (b + k) j := by
  rw [wi, wi, wi, ← List.filter_append, ← List.range'_append_1]
theorem wi_succ (wt : List Bool) (b k : Nat) : wi wt b (k + 1) = wi wt b k ++ (if wt.getD (b + k) false then [b + k] else []) := by
  rw [wi_add, wi, wi]
  congr 1
  rw [show List.range' (b + k) 1 = [b + k] from rfl]
  by_cases h : wt.getD (b + k) false = true
  · rw [if_pos h]; simp only [List.filter, h]
  · rw [if_neg h]; simp only [List.filter, h]
theorem wi_mem {wt : List Bool} {b k i : Nat} (h : i ∈ wi wt b k) : b ≤ i ∧ i < b + k := by
  have := (List.mem_filter.1 h).1
  rw [List.mem_range'_1] at this
  exact this
theorem wi_left (wt : List Bool) (b k j : Nat) : (wi wt b (k + j)).filter (· < b + k) = wi wt b k := by
  rw [wi_add, List.filter_append, List.filter_eq_self.2 (fun x hx => by have := wi_mem hx; simp; omega), List.filter_eq_nil_iff.2 (fun x hx => by have := wi_mem hx; simp; omega), List.append_nil]
theorem wi_right (wt : List Bool) (b k j : Nat) : (wi wt b (k + j)).filter (b + k ≤ ·) = wi wt (b + k) j := by
  rw [wi_add, List.filter_append, List.filter_eq_nil_iff.2 (fun x hx => by have := wi_mem hx; simp; omega), List.filter_eq_self.2 (fun x hx => by have := wi_mem hx; simp; omega), List.nil_append]
theorem wi_sorted (wt : List Bool) (b k : Nat) : (wi wt b k).Pairwise (· < ·) := List.Pairwise.filter _ List.pairwise_lt_range'
theorem wi_length (wt : List Bool) (b k : Nat) : (wi wt b k).length ≤ k := by
  have := List.length_filter_le (fun j => wt.getD j false) (List.range' b k)
  rw [List.length_range'] at this
  exact this
/-- a proof of many has at most n less as many -/
theorem wi_many : ∀ (f : Nat) (wt : List Bool) (b : Nat) (l : List T), l.length ≤ f → 1 ≤ l.length → (many (wi wt b l.length) b l).length + (wi wt b l.length).length ≤ l.length
  | 0, wt, b, l, h, h1 => by omega
  | f + 1, wt, b, l, h, h1 => by
    by_cases hi : wi wt b l.length = []
    · rw [hi, many_none h1]; simpa using h1
    · by_cases h2 : l.length = 1
      · have := wi_length wt b l.length
        rw [many_one hi h2]; simpa using this
      · have x := sp_lt (n := l.length) (by omega)
        have y := sp_pos (n := l.length) (by omega)
        have e : l.length = sp l.length + (l.length - sp l.length) := by omega
        have l1 : (l.take (sp l.length)).length = sp l.length := by simp; omega
        have l2 : (l.drop (sp l.length)).length = l.length - sp l.length := by simp
        have ih1 := wi_many f wt b (l.take (sp l.length)) (by omega) (by omega)
        have ih2 := wi_many f wt (b + sp l.length) (l.drop (sp l.length)) (by omega) (by omega)
        rw [l1] at ih1
        rw [l2] at ih2
        have hw : (wi wt b l.length).length = (wi wt b (sp l.length)).length + (wi wt (b + sp l.length) (l.length - sp l.length)).length := by
          conv => lhs; rw [e]
          rw [wi_add, List.length_append]
        have hl := wi_left wt b (sp l.length) (l.length - sp l.length)
        have hr := wi_right wt b (sp l.length) (l.length - sp l.length)
        rw [← e] at hl hr
        rw [many_cut hi (by omega), hl, hr, List.length_append]
        omega
end Go.Proofs.YtfolaldjdefioaaDoor.Tree
namespace Go.Proofs.YtfolaldjdefioaaDoor
open Go.RowKit
theorem At.split {w : World} {x : Addr} {l r : List (List UInt8)} (h : At w (some x) (l ++ r)) : At w (some (x.add l.length)) r := by
  have := h.drop l.length
  rwa [List.drop_left] at this
/-- what is told: a root, and what is left of the proof -/
def OutT (w : World) (r : List UInt8) (R : List (List UInt8)) (e : Ending) (w' : World) : Prop :=
  ∃ a' c', e = .returned (.tuple #[sv r, .slice a' R.length c', .bool true]) ∧ At w' a' R ∧ R.length ≤ c' ∧ c' ≤ 9223372036854775807 ∧ Below w.heap.size w w'
set_option maxRecDepth 100000 in
set_option maxHeartbeats 2000000 in
theorem told_any (L : List (List UInt8)) (wt : List Bool) (hwl : wt.length = L.length) (hM : L.length ≤ 1000000) (al aw : Option Addr) (capl capw : Nat) : ∀ (f b len E : Nat) (R : List (List UInt8)) (ap : Option Addr) (capp : Nat) (w : World), len ≤ f → 1 ≤ len → b + len = E → E ≤ L.length →
    (Tree.many (Tree.wi wt b len) b ((L.drop b).take len) ++ R).length ≤ capp → capp ≤ 9223372036854775807 → At w ap (Tree.many (Tree.wi wt b len) b ((L.drop b).take len) ++ R) → Tabs w → At w al L → AtB w aw wt →
    Calls Tryd.prog 19 #[.int .i64 b, .int .i64 E, .slice al L.length capl, .slice aw wt.length capw, .slice ap (Tree.many (Tree.wi wt b len) b ((L.drop b).take len) ++ R).length capp] w (OutT w (Tree.root ((L.drop b).take len)) R) := by
  intro f
  induction f with
  | zero => intro b len E R ap capp w hf h1; omega
  | succ f ih =>
    intro b len E R ap capp w hf h1 hE hEL hl hc hP T hA hB
    have hseg : ((L.drop b).take len).length = len := by simp; omega
    obtain ⟨n, hn⟩ : ∃ n, L.length = n := ⟨_, rfl⟩
    rw [hwl]
    rw [hn] at hwl hM hEL ⊢
    have HP := hid hP
    have HT := hid T
    have HA := hid hA
    have HB := hid hB
    clear hP T hA hB
    have HL := hid hl
    clear hl
    obtain ⟨q, hq⟩ : ∃ q, (Tree.many (Tree.wi wt b len) b ((L.drop b).take len) ++ R).length = q := ⟨_, rfl⟩
    have hqc : q ≤ capp := by rw [← hq]; exact HL.out
    rw [hq]
    go_enter Tryd.func19, Tryd.ntmps19
    go_wp2
    go_loopw [13, 14] (fun v i w' => ∃ j : Nat, j ≤ len ∧ i = .int .i64 ((b + j : Nat) : Int) ∧ (∃ c : Bool, v = .bool c ∧ Hid (c = true ↔ Tree.wi wt b j ≠ [])) ∧ w' = w) (fun _ i _ => E - (intOf i).toNat)
    case atStart => exact ⟨0, by omega, by simp, ⟨false, rfl, by rw [Tree.wi_zero]; simp [Hid]⟩, rfl⟩
    case round =>
      obtain ⟨j, hj, rfl, ⟨c, rfl, hcc⟩, rfl⟩ := hrel
      by_cases hjl : j < len
      · have b0 : ((b + j : Nat) : Int) < (E : Int) := by omega
        have b1 : ((b + j : Nat) : Int) < (n : Int) := by omega
        obtain ⟨s, hs⟩ : ∃ s, wt[b + j]? = some s := ⟨_, List.getElem?_eq_getElem (by omega)⟩
        obtain ⟨x, rfl, _, hcell⟩ := HB.out (b + j) s hs
        have hsucc := Tree.wi_succ wt b j
        have hgd : wt.getD (b + j) false = s := by rw [List.getD_eq_getElem?_getD, hs]; rfl
        rw [hgd] at hsucc
        cases c
        · cases s
          · have hc' : Hid (false = true ↔ Tree.wi wt b (j + 1) ≠ []) := by
              unfold Hid; rw [hsucc]; simpa using hcc.out
            go_wp2
            exact ⟨⟨j + 1, by omega, congrArg (Value.int IntKind.i64) (by omega), ⟨false, rfl, hc'⟩, trivial⟩, by simp [intOf]; omega⟩
          · have hc' : Hid (true = true ↔ Tree.wi wt b (j + 1) ≠ []) := by
              unfold Hid; rw [hsucc]; simp
            go_wp2
            exact ⟨⟨j + 1, by omega, congrArg (Value.int IntKind.i64) (by omega), ⟨true, rfl, hc'⟩, trivial⟩, by simp [intOf]; omega⟩
        · have hc' : Hid (true = true ↔ Tree.wi wt b (j + 1) ≠ []) := by
            have hne := hcc.out.1 rfl
            unfold Hid; rw [hsucc]; simp [hne]
          go_wp2
          exact ⟨⟨j + 1, by omega, congrArg (Value.int IntKind.i64) (by omega), ⟨true, rfl, hc'⟩, trivial⟩, by simp [intOf]; omega⟩
      · obtain rfl : j = len := by omega
        have b0 : ¬ ((b + j : Nat) : Int) < (E : Int) := by omega
        clear hj
        have hsl := hseg
        generalize hS : (L.drop b).take j = sg at *
        cases c
        · have hw0 : Tree.wi wt b j = [] := Classical.byContradiction (fun h => by have := hcc.out.2 h; cases this)
          rw [hw0, Tree.many_none (by omega)] at HP hq
          obtain ⟨x, rfl⟩ := HP.out.pos (by simp)
          obtain ⟨y, hy, _, hc0⟩ := HP.out 0 _ rfl
          obtain rfl := Option.some.inj hy
          rw [addr_zero, svS] at hc0
          have hR := hid (show At wr (some (x.add 1)) R from HP.out.split)
          have hqR : q = R.length + 1 := by rw [← hq]; simp
          subst hqR
          have z0 : (((R.length + 1 : Nat) : Int) == 0) = false := by simp; omega
          by_cases hcp : capp = 1
          · subst hcp
            obtain rfl : R = [] := List.length_eq_zero_iff.1 (by omega)
            generalize Tree.root sg = r at *
            clear HP HL hcc hw0 hq ih
            go_wp2
            go_quiet (fail)
            go_wp2
            go_ret3
            exact ⟨_, _, rfl, At.nil _ _, by simp, by omega, below_drewN (Below.refl _ _) _⟩
          · generalize Tree.root sg = r at *
            clear HP HL hcc hw0 hq ih
            go_wp2
            go_quiet (fail)
            go_wp2
            go_ret3
            exact ⟨some (x.add 1), capp - 1, rfl, hR.out.heap rfl, by omega, by omega, below_drewN (Below.refl _ _) _⟩
        · have hne := hcc.out.1 rfl
          by_cases h1' : j = 1
          · subst h1'
            rw [Tree.many_one hne hseg, List.nil_append] at HP hq
            obtain ⟨p, hp⟩ : ∃ p, L[b]? = some p := ⟨_, List.getElem?_eq_getElem (by omega)⟩
            have hsg : sg = [p] := by
              rw [← hS, List.take_one, List.head?_drop, hp]; rfl
            obtain ⟨x, rfl, _, hcl⟩ := HA.out b p hp
            rw [svS] at hcl
            have e1 : (E : Int) - (b : Int) = 1 := by omega
            have e2 : (b : Int) < (n : Int) := by omega
            subst hsg
            rw [Tree.root_one]
            subst hq
            have HPo := hid HP.out
            have hRc := HL.out
            rw [Tree.many_one hne rfl, List.nil_append] at hRc
            clear HP HL hcc hne ih hS hseg
            go_wp2
            go_ret3
            exact ⟨_, _, rfl, HPo.out, hRc, hc, Below.refl _ _⟩
          · have h2 : 2 ≤ j := by omega
            have k1 := Tree.sp_lt h2
            have k2 := Tree.sp_pos h2
            have hh := half_any j h2 (by omega)
            have ecut := Tree.many_cut (b := b) hne (l := sg) (by omega)
            have eroot := Tree.root_cut (l := sg) (by omega)
            rw [hseg] at ecut eroot
            generalize Tree.sp j = k at *
            have ew1 := Tree.wi_left wt b k (j - k)
            have ew2 := Tree.wi_right wt b k (j - k)
            rw [show k + (j - k) = j from by omega] at ew1 ew2
            have es1 : sg.take k = (L.drop b).take k := by rw [← hS, List.take_take, Nat.min_eq_left (by omega)]
            have es2 : sg.drop k = (L.drop (b + k)).take (j - k) := by rw [← hS, List.drop_take, List.drop_drop]
            rw [ew1, ew2, es1, es2] at ecut
            rw [es1, es2] at eroot
            rw [ecut, List.append_assoc] at HP hq
            have hl1 := HL.out
            rw [ecut, List.append_assoc] at hl1
            have c1 := ih b k (b + k) (Tree.many (Tree.wi wt (b + k) (j - k)) (b + k) ((L.drop (b + k)).take (j - k)) ++ R) ap capp wr (by omega) (by omega) rfl (by omega) hl1 hc HP.out HT.out HA.out HB.out
            have c2 := fun a' c' w' g1 g2 g3 g4 g5 g6 => ih (b + k) (j - k) E R a' c' w' (by omega) (by omega) (by omega) (by omega) g1 g2 g3 g4 g5 g6
            rw [hq, hn, hwl] at c1
            rw [hn, hwl] at c2
            obtain ⟨N, hN⟩ : ∃ N, Hid (Tree.nd (Tree.root ((L.drop b).take k)) (Tree.root ((L.drop (b + k)).take (j - k))) = N) := ⟨_, rfl⟩
            have er := hid (show Tree.root sg = N from eroot.trans hN.out)
            generalize Tree.root ((L.drop b).take k) = x1 at *
            generalize Tree.root ((L.drop (b + k)).take (j - k)) = x2 at *
            generalize hM2 : Tree.many (Tree.wi wt (b + k) (j - k)) (b + k) ((L.drop (b + k)).take (j - k)) ++ R = M2 at *
            have e1 : (E : Int) - (b : Int) = (j : Int) := by omega
            have e0 : ((E : Int) - (b : Int) == 1) = false := by rw [e1]; simp; omega
            have e00 : ((j : Int) == 1) = false := by simp; omega
            clear HP HL hcc hne ih ecut eroot ew1 ew2 es1 es2 hl1 hS hq
            generalize hK : b + k = K at *
            have e3 : (b : Int) + (k : Int) = (K : Int) := by omega
            have e4 : IntKind.i64.wrap (K : Int) = (K : Int) := wrap_small _ (by omega) (by omega)
            have hK' := hid hK
            clear hK
            go_wp2_with (first
              | (go_at_call 41; refine (hh _).mono ?_; rintro e w0 ⟨rfl, rfl⟩)
              | (go_at_call 19; (with_reducible refine c1.mono ?_); rintro e w1 ⟨a1, cc1, rfl, hA1, hl1, hc1, hw1⟩)
              | (go_at_call 19; (with_reducible refine (c2 a1 cc1 w1 hl1 hc1 hA1 (HT.out.next hw1) (HA.out.below hw1 (Nat.le_refl _)) (HB.out.below hw1 (Nat.le_refl _))).mono ?_); rintro e w2 ⟨a2, cc2, rfl, hA2, hl2, hc2, hw2⟩)
              | (go_at_call 23; refine (lnode_at x1 x2 N hN _ ((HT.out.next hw1).next hw2)).mono ?_; rintro e w3 ⟨rfl, hw3⟩))
            go_ret3
            refine ⟨a2, cc2, ?_, hA2.below hw3 (Nat.le_refl _), hl2, hc2, (hw1.trans (hw2.mono hw1.size)).trans (hw3.mono (Nat.le_trans hw1.size hw2.size))⟩
            rw [er.out]
            rfl
end Go.Proofs.YtfolaldjdefioaaDoor
