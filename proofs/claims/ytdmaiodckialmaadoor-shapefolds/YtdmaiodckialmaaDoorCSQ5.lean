import Derived.Test.YtdmaiodckialmaaDoorCSQ2
import Derived.Deep.CutRange
import Derived.Deep.DeepCutAuto
import Derived.Test.YtdmaiodckialmaaDoorCSP18
import Derived.Test.YtdmaiodckialmaaDoorCSF6
import Derived.Test.YtdmaiodckialmaaDoorCSH6
import Derived.Test.YtdmaiodckialmaaDoorCSL3
import Derived.Test.YtdmaiodckialmaaDoorCFS1
import Derived.Test.YtdmaiodckialmaaDoorCSF3
namespace Go.Proofs.YtdmaiodckialmaaDoor
open Go.RowKit Go.Shelf
end Go.Proofs.YtdmaiodckialmaaDoor

namespace Go.Proofs.YtdmaiodckialmaaDoor
open Go.RowKit Go.Shelf
end Go.Proofs.YtdmaiodckialmaaDoor

namespace Go.Proofs.YtdmaiodckialmaaDoor
open Go.RowKit Go.Shelf
theorem seg_all (l : List (List UInt8)) : Tree.seg l 0 l.length = l := by unfold Tree.seg; rw [List.take_length]; rfl
theorem pth_in : ∀ (f b n i : Nat), ∀ s ∈ Tree.pthF f b n i, b ≤ s.1 ∧ s.1 ≤ s.2 ∧ s.2 ≤ b + n
  | 0, b, n, i, s, h => by cases h
  | f + 1, b, n, i, s, h => by
    by_cases h2 : n < 2
    · rw [Tree.pthF_small h2] at h; cases h
    · have s1 := Tree.sp_lt (n := n) (by omega)
      have s2 := Tree.sp_pos (n := n) (by omega)
      by_cases hi : i < b + Tree.sp n
      · rw [Tree.pthF_left (by omega) hi] at h
        rcases List.mem_append.1 h with h | h
        · have := pth_in f b (Tree.sp n) i s h
          omega
        · obtain rfl := List.mem_singleton.1 h
          exact ⟨by show b ≤ b + Tree.sp n; omega, by show b + Tree.sp n ≤ b + n; omega, by show b + n ≤ b + n; omega⟩
      · rw [Tree.pthF_right (by omega) hi] at h
        rcases List.mem_append.1 h with h | h
        · have := pth_in f (b + Tree.sp n) (n - Tree.sp n) i s h
          omega
        · obtain rfl := List.mem_singleton.1 h
          exact ⟨by show b ≤ b; omega, by show b ≤ b + Tree.sp n; omega, by show b + Tree.sp n ≤ b + n; omega⟩
theorem prf_in : ∀ (f b n m : Nat), 1 ≤ n → b < m → m ≤ b + n → ∀ s ∈ Tree.prfF f b n m, b ≤ s.1 ∧ s.1 ≤ s.2 ∧ s.2 ≤ b + n
  | 0, b, n, m, _, _, _, s, h => by cases h
  | f + 1, b, n, m, h1, hm, hm2, s, h => by
    rw [Tree.prfF] at h
    by_cases h2 : b + n = m
    · rw [if_pos h2] at h
      by_cases hb : b = 0
      · rw [if_pos hb] at h; cases h
      · rw [if_neg hb] at h
        obtain rfl := List.mem_singleton.1 h
        exact ⟨by show b ≤ b; omega, by show b ≤ b + n; omega, by show b + n ≤ b + n; omega⟩
    · rw [if_neg h2] at h
      have s1 := Tree.sp_lt (n := n) (by omega)
      have s2 := Tree.sp_pos (n := n) (by omega)
      by_cases hi : m ≤ b + Tree.sp n
      · rw [if_pos hi] at h
        rcases List.mem_append.1 h with h | h
        · have := prf_in f b (Tree.sp n) m (by omega) hm hi s h
          omega
        · obtain rfl := List.mem_singleton.1 h
          exact ⟨by show b ≤ b + Tree.sp n; omega, by show b + Tree.sp n ≤ b + n; omega, by show b + n ≤ b + n; omega⟩
      · rw [if_neg hi] at h
        rcases List.mem_append.1 h with h | h
        · have := prf_in f (b + Tree.sp n) (n - Tree.sp n) m (by omega) (by omega) (by omega) s h
          omega
        · obtain rfl := List.mem_singleton.1 h
          exact ⟨by show b ≤ b; omega, by show b ≤ b + Tree.sp n; omega, by show b + Tree.sp n ≤ b + n; omega⟩
/-- H2, H3, H4 against layer 3 -/
theorem pth_hash (l : List (List UInt8)) (k : Nat) (hk : k < l.length) : (Tree.pthF l.length 0 l.length k).map (fun s => Tree.root (Tree.seg l s.1 s.2)) = Tree.path k l := by
  have h := Tree.pthF_hash l l.length 0 l.length k (Nat.le_refl _) (Nat.zero_le _) (by omega) (by omega)
  rw [Nat.zero_add, seg_all, Nat.sub_zero] at h
  exact h
theorem prf_hash (l : List (List UInt8)) (m : Nat) (h1 : 1 ≤ m) (h2 : m ≤ l.length) : (Tree.prfF l.length 0 l.length m).map (fun s => Tree.root (Tree.seg l s.1 s.2)) = Tree.proof m l true := by
  have h := Tree.prfF_hash l l.length 0 l.length m (Nat.le_refl _) (by omega) (by omega) (by omega)
  rw [Nat.zero_add, seg_all, Nat.sub_zero] at h
  exact h
theorem oth_hash (l : List (List UInt8)) (is : List Nat) (h1 : 1 ≤ l.length) (hi : ∀ i ∈ is, i < l.length) : (Tree.othF l.length 0 l.length is).map (fun s => Tree.root (Tree.seg l s.1 s.2)) = Tree.many is 0 l := by
  have h := Tree.othF_hash l is l.length 0 l.length h1 (Nat.le_refl _) (by omega)
  rw [wit_whole hi, Nat.zero_add, seg_all] at h
  exact h
end Go.Proofs.YtdmaiodckialmaaDoor

namespace Go.Proofs.YtdmaiodckialmaaDoor
open Go.RowKit Go.Shelf
theorem BatOk.okI {n : Nat} {cs : List Int} (h : BatOk (n : Int) cs) : OkI n cs := by
  refine ⟨h.l1, h.l2, fun j x hx => ?_, fun j x y hx hy => ?_⟩
  · exact h.all x (List.mem_of_getElem? hx)
  · obtain ⟨h1, e1⟩ := List.getElem?_eq_some_iff.1 hx
    obtain ⟨h2, e2⟩ := List.getElem?_eq_some_iff.1 hy
    have := List.pairwise_iff_getElem.1 h.so j (j + 1) h1 h2 (by omega)
    rw [e1, e2] at this
    exact this
theorem hs_all {X : List (List UInt8)} (h : X.all (·.length == 32) = true) : Tree.Hs X := fun x hx => by
  have := List.all_eq_true.1 h x hx
  simpa using this
theorem wrg_zero {X : List (List UInt8)} (h : X.all (·.length == 32) = true) (hl : X.length ≤ 4096) : wrg X = 0 := by
  unfold wrg
  rw [if_neg (by omega), if_pos h]
theorem rootOut_ok {X : List (List UInt8)} (h : wrg X = 0) : rootOut X = (Tree.root X, 0) := by unfold rootOut; rw [if_pos h]
theorem pathOut_ok {X : List (List UInt8)} (h : wrg X = 0) {k : Nat} (hk : k < X.length) : pathOut X (k : Int) = (Tree.path k X, 0) := by
  unfold pathOut; rw [if_pos h, if_pos (by omega), Int.toNat_natCast]
theorem proofOut_ok {X : List (List UInt8)} (h : wrg X = 0) {m : Nat} (h1 : 1 ≤ m) (hm : m ≤ X.length) : proofOut X (m : Int) = (Tree.proof m X true, 0) := by
  unfold proofOut; rw [if_pos h, if_pos (by omega), Int.toNat_natCast]
theorem manyOut_ok {X : List (List UInt8)} (h : wrg X = 0) {cs : List Int} (hb : BatOk (X.length : Int) cs) : manyOut X cs = (Tree.many (toN cs) 0 X, 0) := by
  unfold manyOut; rw [if_pos h, if_pos hb.okI]
/-- a list of texts and no error -/
def AnsT (n : Nat) (L : List (List UInt8)) (w : World) (r : Ending) (w' : World) : Prop := ∃ a k, r = .returned (.tuple #[.slice a n k, .int .i64 0]) ∧ At w' a L ∧ Below w.heap.size w w'
theorem Out2.ans {w w' : World} {o : List (List UInt8) × Int} {L : List (List UInt8)} {r : Ending} {n : Nat} (h : Out2 w o r w') (ho : o = (L, 0)) (hn : L.length = n) : AnsT n L w r w' := by
  subst ho hn
  obtain ⟨v, rfl, h1, h2⟩ := h
  obtain ⟨a, cap, rfl, h3, _⟩ := h1.at
  exact ⟨a, cap, rfl, h3, h2⟩
end Go.Proofs.YtdmaiodckialmaaDoor

namespace Go.Proofs.YtdmaiodckialmaaDoor
open Go.RowKit Go.Shelf
theorem batchE_rise {n : Int} {l : List Int} (h1 : 1 ≤ n ∧ n ≤ 1099511627776) (h2 : ¬ (l.length = 0 ∨ 256 < l.length)) (hr : rsgB l = true) : batchE n l = if 0 ≤ l.getD 0 0 ∧ l.getD (l.length - 1) 0 < n then 0 else 80 := by
  have hp : l.Pairwise (· < ·) := by unfold rsgB at hr; exact of_decide_eq_true hr
  have hfl : l.getD 0 0 ≤ l.getD (l.length - 1) 0 := by
    rw [getD_at (show 0 < l.length by omega), getD_at (show l.length - 1 < l.length by omega)]
    by_cases e : l.length = 1
    · have : l.length - 1 = 0 := by omega
      simp [this]
    · have := List.pairwise_iff_getElem.1 hp 0 (l.length - 1) (by omega) (by omega) (by omega)
      omega
  unfold batchE
  rw [if_pos h1, if_neg h2, if_pos hr]
  by_cases h3 : 0 ≤ l.getD 0 0 ∧ l.getD (l.length - 1) 0 < n
  · rw [if_pos h3, if_pos (by omega), if_pos (by omega)]
  · rw [if_neg h3]
    split
    · rw [if_neg (by omega)]
    · rfl
set_option maxRecDepth 100000 in
set_option maxHeartbeats 4000000 in
theorem rBatch8_any (N : Int) (l : List Int) (a : Option Addr) (cap : Nat) (w : World) (hn : l.length ≤ 140737488355328) (hA : AtI w a l) :
    Calls Tryd.prog 8 #[.int .i64 N, .slice a l.length cap] w (SpP w (batchE N l) (batchL N l)) := by
  have HA := hid hA
  have nil : ∀ (c : Int) (w' : World), Below w.heap.size w w' → SpP w c [] (.returned (.tuple #[.slice none 0 0, .int .i64 c])) w' := fun c w' hb => ⟨hb, _, rfl, OwnM.nil 2 _, (fun k hk => by cases hk)⟩
  have NIL := hid nil
  obtain ⟨E, hE⟩ : ∃ E, Hid (batchE N l = E) := ⟨_, rfl⟩
  obtain ⟨R, hR⟩ : ∃ R, Hid (batchL N l = R) := ⟨_, rfl⟩
  have hR0 : Hid (E ≠ 0 → R = []) := fun h => by rw [← hR.out]; unfold batchL; rw [if_neg (by rw [hE.out]; exact h)]
  rw [hE.out, hR.out]
  obtain ⟨n, hl⟩ : ∃ n, Hid (l.length = n) := ⟨_, rfl⟩
  rw [hl.out] at hn ⊢
  clear nil hA
  by_cases h1 : 1 ≤ N ∧ N ≤ 1099511627776
  · have a1 : ¬ N < 1 := by omega
    have a2 : ¬ 1099511627776 < N := by omega
    by_cases h2 : n = 0 ∨ 256 < n
    · have e83 : Hid (E = 83) := by rw [Hid, ← hE.out]; unfold batchE; rw [if_pos h1, if_pos (by rw [hl.out]; exact h2)]
      have fin : Hid (SpP w E R (.returned (.tuple #[.slice none 0 0, .int .i64 83])) w) := by rw [Hid, hR0.out (by rw [e83.out]; decide), e83.out]; exact NIL.out 83 w (Below.refl _ _)
      by_cases h3 : n < 1
      · have b1 : (n : Int) < 1 := by omega
        go_enter Tryd.func8, Tryd.ntmps8
        go_wp2
        refine bodyPost_ret (results_tmp2 rfl _ _ _) rfl ?_
        exact fin.out
      · have b1 : ¬ (n : Int) < 1 := by omega
        have b2 : 256 < (n : Int) := by omega
        go_enter Tryd.func8, Tryd.ntmps8
        go_wp2
        refine bodyPost_ret (results_tmp2 rfl _ _ _) rfl ?_
        exact fin.out
    · have b1 : ¬ (n : Int) < 1 := by omega
      have b2 : ¬ 256 < (n : Int) := by omega
      have HN := hid (show 1 ≤ n ∧ n ≤ 256 by omega)
      have H1 := hid h1
      clear h1 h2
      go_enter Tryd.func8, Tryd.ntmps8
      go_wp2
      go_loopw [6] (fun i w' => ∃ m : Nat, i = .int .i64 (m : Int) ∧ 1 ≤ m ∧ (m = 1 ∨ m ≤ n) ∧ Hid (∀ j x y, j + 1 < m → l[j]? = some x → l[j + 1]? = some y → x < y) ∧ Hid (Below w.heap.size w w')) (fun i _ => n - (intOf i).toNat)
      case atStart => exact ⟨1, rfl, Nat.le_refl _, .inl rfl, fun j x y hj => by omega, Below.refl _ _⟩
      case round =>
        obtain ⟨m, rfl, hm1, hk, hall, hB⟩ := hrel
        by_cases hkn : m < n
        · have b0 : (m : Int) < (n : Int) := by omega
          obtain ⟨k, hkm⟩ : ∃ k, Hid (k + 1 = m) := ⟨m - 1, show m - 1 + 1 = m by omega⟩
          have hkm' := hkm.out
          obtain ⟨x, rfl⟩ := HA.out.pos (by have := hl.out; omega)
          have hA' := HA.out.below hB.out (Nat.le_refl _)
          have hl' := hl.out
          have c0 := hA'.cell k (by omega)
          have c1 := hA'.cell m (by omega)
          have g0 : Hid (l[k]? = some (l[k]'(by omega))) := List.getElem?_eq_getElem _
          have g1 : Hid (l[m]? = some (l[m]'(by omega))) := List.getElem?_eq_getElem _
          generalize l[k]'(by omega) = u at *
          generalize l[m]'(by omega) = v at *
          have u0 : IntKind.i64.wrap ((m : Int) - 1) = (k : Int) := by rw [IntKind.wrap_i64]; omega
          have u1 : IntKind.i64.wrap ((m : Int) + 1) = ((m + 1 : Nat) : Int) := by rw [IntKind.wrap_i64]; omega
          have b3 : (k : Int) < (n : Int) := by omega
          have b4 : (0 : Int) ≤ (k : Int) := by omega
          have b5 : (0 : Int) ≤ (m : Int) := by omega
          clear hA' hl' hkm'
          by_cases huv : u < v
          · have d1 : decide (v ≤ u) = false := decide_eq_false (by omega)
            have hall' : Hid (∀ j x y, j + 1 < m + 1 → l[j]? = some x → l[j + 1]? = some y → x < y) := fun j x y hj hx hy => by
              by_cases e : j = k
              · subst e
                rw [g0.out] at hx; rw [hkm.out, g1.out] at hy
                obtain rfl := Option.some.inj hx
                obtain rfl := Option.some.inj hy
                exact huv
              · have := hkm.out; exact hall.out j x y (by omega) hx hy
            clear HA hall g0 g1 HN
            go_wp2
            go_quiet (fail)
            go_wp2
            exact ⟨⟨m + 1, rfl, by omega, .inr (by omega), hall', by first | exact hB | exact hid hB.out.drew | exact hid (below_drewN hB.out _)⟩, by simp [intOf]; omega⟩
          · have d1 : decide (v ≤ u) = true := decide_eq_true (by omega)
            have e82 : Hid (E = 82) := by
              rw [Hid, ← hE.out]; unfold batchE
              rw [if_pos H1.out, if_neg (by rw [hl.out]; have := HN.out; omega), if_neg]
              unfold rsgB
              rw [decide_eq_true_iff]
              intro h
              exact huv (rsg_of_pair h k u v g0.out (by rw [hkm.out]; exact g1.out))
            have fin : Hid (∀ w', Below w.heap.size w w' → SpP w E R (.returned (.tuple #[.slice none 0 0, .int .i64 82])) w') := fun w' hb => by rw [hR0.out (by rw [e82.out]; decide), e82.out]; exact NIL.out 82 w' hb
            clear HA hall g0 g1 HN
            go_wp2
            go_quiet (fail)
            go_wp2
            refine bodyPost_ret (results_tmp2 rfl _ _ _) rfl ?_
            exact fin.out _ (by first | exact hB.out | exact hB.out.drew | exact below_drewN hB.out _)
        · have b0 : ¬ (m : Int) < (n : Int) := by omega
          have er : rsgB l = true := by
            unfold rsgB
            rw [decide_eq_true_iff]
            refine rsg_pair fun j x y hx hy => hall.out j x y ?_ hx hy
            have := (List.getElem?_eq_some_iff.1 hy).1
            have := hl.out
            omega
          have hEr := batchE_rise H1.out (by rw [hl.out]; have := HN.out; omega) er
          rw [hE.out] at hEr
          have hn1 := HN.out
          have hll := hl.out
          obtain ⟨x, rfl⟩ := HA.out.pos (by omega)
          have hA' := HA.out.below hB.out (Nat.le_refl _)
          have c0 := hA'.cell 0 (by omega)
          rw [addr_zero] at c0
          have c1 := hA'.cell (n - 1) (by omega)
          rw [getD_at (show 0 < l.length by omega), getD_at (show l.length - 1 < l.length by omega)] at hEr
          have hl1 : l.length - 1 = n - 1 := by omega
          simp only [hl1] at hEr
          obtain ⟨k, hk⟩ : ∃ k, k + 1 = n := ⟨n - 1, by omega⟩
          have hk1 : n - 1 = k := by omega
          simp only [hk1] at hEr c1
          generalize hu : l[0]'(by omega) = u at *
          generalize hv : l[k]'(by omega) = v at *
          have u0 : IntKind.i64.wrap ((n : Int) - 1) = (k : Int) := by rw [IntKind.wrap_i64]; omega
          have b3 : (k : Int) < (n : Int) := by omega
          have b4 : (0 : Int) ≤ (k : Int) := by omega
          have b6 : (0 : Int) < (n : Int) := by omega
          have HEr := hid hEr
          by_cases hbad : u < 0 ∨ N ≤ v
          · have e80 : Hid (E = 80) := by rw [Hid, HEr.out, if_neg (by omega)]
            have fin : Hid (SpP w E R (.returned (.tuple #[.slice none 0 0, .int .i64 80])) wr) := by rw [Hid, hR0.out (by rw [e80.out]; decide), e80.out]; exact NIL.out 80 wr hB.out
            clear hEr hA' hall er HEr
            by_cases h5 : u < 0
            · go_wp2
              refine bodyPost_ret (results_tmp2 rfl _ _ _) rfl ?_
              exact fin.out
            · have h6 : N ≤ v := by omega
              go_wp2
              refine bodyPost_ret (results_tmp2 rfl _ _ _) rfl ?_
              exact fin.out
          · have h5 : ¬ u < 0 := by omega
            have h6 : ¬ N ≤ v := by omega
            have e0 : E = 0 := by rw [HEr.out, if_pos (by omega)]
            have hE0 : batchE N l = 0 := by rw [hE.out]; exact e0
            have hBk := BatOk.of hE0
            obtain ⟨NN, rfl⟩ : ∃ NN : Nat, N = (NN : Int) := ⟨N.toNat, by have := hBk.n1; omega⟩
            have hn1' := hBk.n1
            have hn2' := hBk.n2
            have hRe : R = Tree.othF NN 0 NN (toN l) := by rw [← hR.out]; unfold batchL; rw [if_pos hE0, Int.toNat_natCast]
            have hix := hBk.okI.ix
            have A2 : AtI wr (some x) (ix (toN l)) := by rw [hix]; exact hA'
            have i1 := others_any (toN l) (some x) cap (by rw [toN_len]; omega) NN 0 NN (Nat.le_refl _) (by omega) (by omega) wr A2
            rw [Nat.zero_add, toN_len, hll, ← hRe] at i1
            have z := hB.out.size
            have HB := hB
            subst e0
            clear hEr hA' hall er HEr hRe hix A2 hBk hE0 hR hR0 hE
            go_wp2_with (go_at_call 22; fail)
            refine i1.mono ?_
            rintro r w2 ⟨v2, rfl, O2, F2, b2⟩
            have FIN : Hid (SpP w 0 R (.returned (.tuple #[v2, .int .i64 0])) w2) := ⟨HB.out.trans (b2.mono z), v2, rfl, O2, fun k hk => Nat.le_trans z (F2 k hk)⟩
            clear O2 F2 b2 i1
            go_wp2
            refine bodyPost_ret (results_tmp2 rfl _ _ _) rfl ?_
            exact FIN.out
  · have e81 : Hid (E = 81) := by rw [Hid, ← hE.out]; unfold batchE; rw [if_neg h1]
    have fin : Hid (SpP w E R (.returned (.tuple #[.slice none 0 0, .int .i64 81])) w) := by rw [Hid, hR0.out (by rw [e81.out]; decide), e81.out]; exact NIL.out 81 w (Below.refl _ _)
    by_cases h3 : N < 1
    · go_enter Tryd.func8, Tryd.ntmps8
      go_wp2
      refine bodyPost_ret (results_tmp2 rfl _ _ _) rfl ?_
      exact fin.out
    · have h4 : 1099511627776 < N := by omega
      go_enter Tryd.func8, Tryd.ntmps8
      go_wp2
      refine bodyPost_ret (results_tmp2 rfl _ _ _) rfl ?_
      exact fin.out
end Go.Proofs.YtdmaiodckialmaaDoor

namespace Go.Proofs.YtdmaiodckialmaaDoor
open Go.RowKit Go.Shelf
set_option maxRecDepth 100000 in
set_option maxHeartbeats 4000000 in
theorem rising12_any (n : Nat) (cs : List Int) (a : Option Addr) (cap : Nat) (hn : 1 ≤ n) (hn2 : n ≤ 1099511627776) (hcs : cs.length ≤ 9223372036854775807) (hw : ∀ x ∈ cs, -9223372036854775808 ≤ x ∧ x ≤ 9223372036854775807) (w : World) (hA : AtI w a cs) :
    Calls Tryd.prog 7 #[.slice a cs.length cap, .int .i64 (n : Int), .int .i64 12] w (RisP n w) := by
  have HA := hid hA
  have HW := hid hw
  clear hA hw
  generalize hN : cs.length = N at *
  go_enter Tryd.func7, Tryd.ntmps7
  go_wp2
  go_loopw [7, 8, 9] (fun v t i w' => ∃ (L : List Int) (A k : Nat), Hid (L.length = k) ∧ t = .int .i64 (A : Int) ∧ i = .int .i64 (k : Int) ∧ A ≤ n ∧ k ≤ N ∧ k ≤ 12 ∧ Hid (Rsn L A) ∧ Hid (Own w' w.heap.size v (iv8 L)) ∧ Hid (Below w.heap.size w w')) (fun _ _ i _ => 12 - (intOf i).toNat)
  case atStart => exact ⟨[], 0, 0, rfl, rfl, rfl, by omega, by omega, by omega, Rsn.nil _, Own.nil _ _, Below.refl _ _⟩
  case round =>
    obtain ⟨L, A, k, hk, rfl, rfl, hAn, hkN, hk2, hR, hO, hB⟩ := hrel
    obtain ⟨oa, oc, hv, hat, -⟩ := hO.out.atI8
    rw [hk.out] at hv
    subst hv
    have hat := hid hat
    by_cases hgo : (k : Int) < (N : Int) ∧ (k : Int) < 12 ∧ (A : Int) < (n : Int)
    · obtain ⟨g1, g2, g3⟩ := hgo
      obtain ⟨x, rfl⟩ := HA.out.pos (by omega)
      have hcell := (HA.out.below hB.out (Nat.le_refl _)).cell k (by omega)
      have hcw := HW.out (cs[k]'(by omega)) (List.getElem_mem _)
      generalize cs[k]'(by omega) = c at *
      obtain ⟨R, hRn⟩ : ∃ R : Nat, (n : Int) - (A : Int) = (R : Int) := ⟨n - A, by omega⟩
      have hRw : IntKind.i64.wrap ((n : Int) - (A : Int)) = (R : Int) := by rw [IntKind.wrap_i64]; omega
      obtain ⟨t, htt⟩ : ∃ t : Int, Int.tmod (k : Int) 2 = t := ⟨_, rfl⟩
      by_cases ht : t = 0
      · subst ht
        by_cases h4 : (40 : Int) < (R : Int)
        · have ip := fun w' => pick_any c (40 : Int) (by omega) (by omega) (by omega) (by omega) w'
          have q0 := pk_nonneg c (40 : Int) (by omega)
          have q1 := pk_lt c (40 : Int) (by omega)
          obtain ⟨q, hq⟩ : ∃ q : Nat, Hid (pk c (40 : Int) = (q : Int)) := ⟨(pk c (40 : Int)).toNat, by unfold Hid; omega⟩
          rw [hq.out] at q0 q1
          have hs : IntKind.i64.wrap ((A : Int) + (q : Int)) = ((A + q : Nat) : Int) := by rw [IntKind.wrap_i64]; omega
          have hs' : IntKind.i64.wrap (((A + q : Nat) : Int) + 1) = ((A + q + 1 : Nat) : Int) := by rw [IntKind.wrap_i64]; omega
          obtain ⟨v3, w3, hap, hO3, hb3⟩ := append_int8 wr w.heap.size _ L ((A + q : Nat) : Int) hO.out (by have := hk.out; omega) hB.out.size
          generalize hG : A + q = G at *
          go_wp2_with (first
            | (go_at_call 6; refine (ip _).mono ?_; rintro e w2 ⟨rfl, h0⟩; have h0 := h0.symm; subst h0; rw [hq.out])
            | (at_builtin; go_must (refine Lib.wpList_append_run _ rfl _ _ 26 26 rfl _ _ rfl rfl _ _ hap ?_)))
          exact ⟨⟨L ++ [((G : Nat) : Int)], G + 1, k + 1, by unfold Hid; have := hk.out; simp; omega, by go_num, by go_num, by omega, by omega, by omega, by unfold Hid; rw [← hG]; exact hR.out.push q, hO3, hB.out.trans hb3⟩, by simp [intOf]; omega⟩
        · have ip := fun w' => pick_any c (R : Int) (by omega) (by omega) (by omega) (by omega) w'
          have q0 := pk_nonneg c (R : Int) (by omega)
          have q1 := pk_lt c (R : Int) (by omega)
          obtain ⟨q, hq⟩ : ∃ q : Nat, Hid (pk c (R : Int) = (q : Int)) := ⟨(pk c (R : Int)).toNat, by unfold Hid; omega⟩
          rw [hq.out] at q0 q1
          have hs : IntKind.i64.wrap ((A : Int) + (q : Int)) = ((A + q : Nat) : Int) := by rw [IntKind.wrap_i64]; omega
          have hs' : IntKind.i64.wrap (((A + q : Nat) : Int) + 1) = ((A + q + 1 : Nat) : Int) := by rw [IntKind.wrap_i64]; omega
          obtain ⟨v3, w3, hap, hO3, hb3⟩ := append_int8 wr w.heap.size _ L ((A + q : Nat) : Int) hO.out (by have := hk.out; omega) hB.out.size
          generalize hG : A + q = G at *
          go_wp2_with (first
            | (go_at_call 6; refine (ip _).mono ?_; rintro e w2 ⟨rfl, h0⟩; have h0 := h0.symm; subst h0; rw [hq.out])
            | (at_builtin; go_must (refine Lib.wpList_append_run _ rfl _ _ 26 26 rfl _ _ rfl rfl _ _ hap ?_)))
          exact ⟨⟨L ++ [((G : Nat) : Int)], G + 1, k + 1, by unfold Hid; have := hk.out; simp; omega, by go_num, by go_num, by omega, by omega, by omega, by unfold Hid; rw [← hG]; exact hR.out.push q, hO3, hB.out.trans hb3⟩, by simp [intOf]; omega⟩
      · have ht' : (t == 0) = false := by simpa using ht
        have ip := fun w' => pick_any c (R : Int) (by omega) (by omega) (by omega) (by omega) w'
        have q0 := pk_nonneg c (R : Int) (by omega)
        have q1 := pk_lt c (R : Int) (by omega)
        obtain ⟨q, hq⟩ : ∃ q : Nat, Hid (pk c (R : Int) = (q : Int)) := ⟨(pk c (R : Int)).toNat, by unfold Hid; omega⟩
        rw [hq.out] at q0 q1
        have hs : IntKind.i64.wrap ((A : Int) + (q : Int)) = ((A + q : Nat) : Int) := by rw [IntKind.wrap_i64]; omega
        have hs' : IntKind.i64.wrap (((A + q : Nat) : Int) + 1) = ((A + q + 1 : Nat) : Int) := by rw [IntKind.wrap_i64]; omega
        obtain ⟨v3, w3, hap, hO3, hb3⟩ := append_int8 wr w.heap.size _ L ((A + q : Nat) : Int) hO.out (by have := hk.out; omega) hB.out.size
        generalize hG : A + q = G at *
        go_wp2_with (first
          | (go_at_call 6; refine (ip _).mono ?_; rintro e w2 ⟨rfl, h0⟩; have h0 := h0.symm; subst h0; rw [hq.out])
          | (at_builtin; go_must (refine Lib.wpList_append_run _ rfl _ _ 26 26 rfl _ _ rfl rfl _ _ hap ?_)))
        exact ⟨⟨L ++ [((G : Nat) : Int)], G + 1, k + 1, by unfold Hid; have := hk.out; simp; omega, by go_num, by go_num, by omega, by omega, by omega, by unfold Hid; rw [← hG]; exact hR.out.push q, hO3, hB.out.trans hb3⟩, by simp [intOf]; omega⟩
    · by_cases g1 : (k : Int) < (N : Int)
      · by_cases g2 : (k : Int) < 12
        · have g3 : ¬ (A : Int) < (n : Int) := fun h => hgo ⟨g1, g2, h⟩
          clear hgo
          by_cases hz : k = 0
          · subst hz
            obtain rfl : L = [] := List.eq_nil_of_length_eq_zero hk.out
            have ip := fun w' => pick_any (n : Int) (n : Int) (by omega) (by omega) (by omega) (by omega) w'
            have q0 := pk_nonneg (n : Int) (n : Int) (by omega)
            have q1 := pk_lt (n : Int) (n : Int) (by omega)
            obtain ⟨q, hq⟩ : ∃ q : Nat, Hid (pk (n : Int) (n : Int) = (q : Int)) := ⟨(pk (n : Int) (n : Int)).toNat, by unfold Hid; omega⟩
            rw [hq.out] at q0 q1
            obtain ⟨v3, w3, hap, hO3, hb3⟩ := append_int8 wr w.heap.size _ [] ((q : Nat) : Int) hO.out (by simp) hB.out.size
            go_wp2_with (first
              | (go_at_call 6; refine (ip _).mono ?_; rintro e w2 ⟨rfl, h0⟩; have h0 := h0.symm; subst h0; rw [hq.out])
              | (at_builtin; go_must (refine Lib.wpList_append_run _ rfl _ _ 26 26 rfl _ _ rfl rfl _ _ hap ?_)))
            go_ret
            obtain ⟨oa, oc, rfl, hat3, -⟩ := hO3.atI8
            refine ⟨oa, oc, _, rfl, hat3, Rsn.ok (A := q + 1) ?_ (by omega) hn hn2 (by simp) (by simp), hB.out.trans hb3⟩
            have := (Rsn.nil 0).push q
            simpa using this
          · have hz' : ¬ (k : Int) = 0 := by omega
            go_wp2
            go_ret
            have hat := hat.out
            refine ⟨oa, oc, L, by rw [hk.out]; rfl, hat, hR.out.ok hAn hn hn2 (by have := hk.out; omega) (by have := hk.out; omega), hB.out⟩
        · clear hgo
          have hz : ¬ k = 0 := by omega
          have hz' : ¬ (k : Int) = 0 := by omega
          go_wp2
          go_ret
          have hat := hat.out
          refine ⟨oa, oc, L, by rw [hk.out]; rfl, hat, hR.out.ok hAn hn hn2 (by have := hk.out; omega) (by have := hk.out; omega), hB.out⟩
      · clear hgo
        by_cases hz : k = 0
        · subst hz
          obtain rfl : L = [] := List.eq_nil_of_length_eq_zero hk.out
          have ip := fun w' => pick_any (n : Int) (n : Int) (by omega) (by omega) (by omega) (by omega) w'
          have q0 := pk_nonneg (n : Int) (n : Int) (by omega)
          have q1 := pk_lt (n : Int) (n : Int) (by omega)
          obtain ⟨q, hq⟩ : ∃ q : Nat, Hid (pk (n : Int) (n : Int) = (q : Int)) := ⟨(pk (n : Int) (n : Int)).toNat, by unfold Hid; omega⟩
          rw [hq.out] at q0 q1
          obtain ⟨v3, w3, hap, hO3, hb3⟩ := append_int8 wr w.heap.size _ [] ((q : Nat) : Int) hO.out (by simp) hB.out.size
          go_wp2_with (first
            | (go_at_call 6; refine (ip _).mono ?_; rintro e w2 ⟨rfl, h0⟩; have h0 := h0.symm; subst h0; rw [hq.out])
            | (at_builtin; go_must (refine Lib.wpList_append_run _ rfl _ _ 26 26 rfl _ _ rfl rfl _ _ hap ?_)))
          go_ret
          obtain ⟨oa, oc, rfl, hat3, -⟩ := hO3.atI8
          refine ⟨oa, oc, _, rfl, hat3, Rsn.ok (A := q + 1) ?_ (by omega) hn hn2 (by simp) (by simp), hB.out.trans hb3⟩
          have := (Rsn.nil 0).push q
          simpa using this
        · have hz' : ¬ (k : Int) = 0 := by omega
          go_wp2
          go_ret
          have hat := hat.out
          refine ⟨oa, oc, L, by rw [hk.out]; rfl, hat, hR.out.ok hAn hn hn2 (by have := hk.out; omega) (by have := hk.out; omega), hB.out⟩
theorem batchL_few8 (N : Int) (ps : List Int) : (batchL N ps).length ≤ 1099511627776 := by
  unfold batchL
  split
  · next h =>
    have ok := BatOk.of h
    have n1 := ok.n1
    have n2 := ok.n2
    obtain ⟨M, rfl⟩ : ∃ M : Nat, N = (M : Int) := ⟨N.toNat, by omega⟩
    have c := (bat_count ok).1
    rw [Int.toNat_natCast]
    omega
  · simp
/-- two bytes as a text -/
theorem conv_some (p q : Int) (hp : 0 ≤ p ∧ p < 256) (hq : 0 ≤ q ∧ q < 256) (W : World) (H : Nat) (hX : W.heap[H]? = some (.cells #[.int .u8 p, .int .u8 q] 5 (0, 0))) : (convert 35 9 (.slice (some ⟨H, 0, none⟩) 2 2)).run Tryd.prog W = .ok (sv [UInt8.ofNat p.toNat, UInt8.ofNat q.toNat]) W := by
  refine run_conv_bytes (P := Tryd.prog) _ 35 9 5 H 0 2 2 [UInt8.ofNat p.toNat, UInt8.ofNat q.toNat] rfl Tryd.underlying35 Tryd.underlying5 Tryd.underlying9 ?_
  intro j v hv
  match j, hv with
  | 0, hv =>
    have e : v = .int .u8 p := by
      simp [bv] at hv
      rw [← hv]; congr 1; omega
    rw [e, cell_of_row _ _ _ _ _ _ hX]; rfl
  | 1, hv =>
    have e : v = .int .u8 q := by
      simp [bv] at hv
      rw [← hv]; congr 1; omega
    rw [e, cell_of_row _ _ _ _ _ _ hX]; rfl
  | j + 2, hv => simp [bv] at hv
theorem prs_take : ∀ (l : List (Nat × Nat)) (k : Nat), (prs l).take (k * 2) = prs (l.take k)
  | [], k => by simp [prs]
  | q :: l, 0 => by simp [prs]
  | q :: l, k + 1 => by
    have e1 : prs (q :: l) = .int .i64 (q.1 : Int) :: .int .i64 (q.2 : Int) :: prs l := rfl
    have e2 : prs ((q :: l).take (k + 1)) = .int .i64 (q.1 : Int) :: .int .i64 (q.2 : Int) :: prs (l.take k) := rfl
    rw [e1, e2, show (k + 1) * 2 = k * 2 + 1 + 1 by omega, List.take_succ_cons, List.take_succ_cons, prs_take l k]
/-- spans and hashes: two lists of one's own -/
structure Fd (w0 w : World) (x y : Value) (X : List (Nat × Nat)) (Y : List (List UInt8)) : Prop where
  ox : OwnP w x X
  oy : OwnM 1 w y Y.length (svs Y)
  fx : ∀ k, x.ownBlock = some k → w0.heap.size ≤ k
  fy : ∀ k, y.ownBlock = some k → w0.heap.size ≤ k
  ne : ∀ k, x.ownBlock = some k → y.ownBlock ≠ some k
  hy : ∀ q ∈ Y, q.length = 32
  bel : Below w0.heap.size w0 w
section
variable {w0 w w' : World} {x x' y y' : Value} {X X' : List (Nat × Nat)} {Y Y' : List (List UInt8)}
theorem Fd.below (h : Fd w0 w x y X Y) (hb : Below w.heap.size w w') : Fd w0 w' x y X Y := ⟨h.ox.below hb, h.oy.below hb, h.fx, h.fy, h.ne, h.hy, h.bel.trans (hb.mono h.bel.size)⟩
theorem Fd.growX (h : Fd w0 w x y X Y) (hg : Grow w w' x x') (ho : OwnP w' x' X') : Fd w0 w' x' y X' Y where
  ox := ho
  oy := h.oy.kept hg.size (fun g hy => hg.old g (h.oy.lt g hy) (fun e => h.ne g e hy))
  fx := fun k hk => by
    rcases hg.alt with e | ⟨e, _⟩
    · exact h.fx k (e ▸ hk)
    · have := e k hk; have := h.bel.size; omega
  fy := h.fy
  ne := fun k hk hy => by
    rcases hg.alt with e | ⟨e, _⟩
    · exact h.ne k (e ▸ hk) hy
    · have := e k hk; have := h.oy.lt k hy; omega
  hy := h.hy
  bel := h.bel.trans ⟨hg.os, hg.tape, hg.output, hg.size, fun k hk => hg.old k (Nat.lt_of_lt_of_le hk h.bel.size) (fun e => by have := h.fx k e; omega)⟩
theorem Fd.growY (h : Fd w0 w x y X Y) (hg : Grow w w' y y') (ho : OwnM 1 w' y' Y'.length (svs Y')) (hY : ∀ q ∈ Y', q.length = 32) : Fd w0 w' x y' X Y' where
  ox := OwnM.kept h.ox hg.size (fun g hx => hg.old g (h.ox.lt g hx) (fun e => h.ne g hx e))
  oy := ho
  fx := h.fx
  fy := fun k hk => by
    rcases hg.alt with e | ⟨e, _⟩
    · exact h.fy k (e ▸ hk)
    · have := e k hk; have := h.bel.size; omega
  ne := fun k hk hy => by
    rcases hg.alt with e | ⟨e, _⟩
    · exact h.ne k hk (e ▸ hy)
    · have := e k hy; have := OwnM.lt h.ox k hk; omega
  hy := hY
  bel := h.bel.trans ⟨hg.os, hg.tape, hg.output, hg.size, fun k hk => hg.old k (Nat.lt_of_lt_of_le hk h.bel.size) (fun e => by have := h.fy k e; omega)⟩
theorem Fd.new (w0 w : World) (hb : Below w0.heap.size w0 w) : Fd w0 w (.slice none 0 0) (.slice none 0 0) [] [] := ⟨OwnM.nil 2 w, OwnM.nil 1 w, fun k hk => (by cases hk), fun k hk => (by cases hk), fun k hk => (by cases hk), fun q hq => (by cases hq), hb⟩
end
/-- append of a hash -/
theorem append_hash (w : World) (v : Value) (Y : List (List UInt8)) (D : List UInt8) (h : OwnM 1 w v Y.length (svs Y)) (hl : Y.length ≤ 2000000000000) :
    ∃ v' w', (Builtin.append_ #[23, 23] 23 #[v, .slice (some ⟨w.heap.size, 0, none⟩) 1 1]).run Tryd.prog (w.alloc (.cells #[.string ⟨D.toArray⟩] 9)) = .ok v' w' ∧ OwnM 1 w' v' (Y ++ [D]).length (svs (Y ++ [D])) ∧ Grow w w' v v' := by
  obtain ⟨v', w', h1, h2, h3⟩ := append_oneL 23 9 _ 16 Tryd.underlying23 infoS8 rfl w v Y.length (svs Y) [.string ⟨D.toArray⟩] rfl (fun u hu => by
    simp only [List.mem_cons, List.not_mem_nil, or_false] at hu
    subst hu; rfl) h (by omega) (by rw [maxLen]; omega)
  refine ⟨v', w', h1, ?_, h3⟩
  have : svs (Y ++ [D]) = svs Y ++ [.string ⟨D.toArray⟩] := by simp [svs]; rfl
  rw [this, List.length_append]
  exact h2
/-- folds of such lists -/
theorem folds_fd {w0 w : World} {x y : Value} {X : List (Nat × Nat)} {Y : List (List UInt8)} (h : Fd w0 w x y X Y) (T : Tabs w) (size : Int) (b e : Int) (hX : X.length ≤ 2000000000000) (hY : Y.length ≤ 2000000000000) :
    Calls Tryd.prog 5 #[.int .i64 size, x, y, .agg #[.int .i64 b, .int .i64 e]] w fun r w' => r = .returned (.bool true) ∧ Below w.heap.size w w' := by
  obtain ⟨a, c, rfl, _, _⟩ := OwnM.shape h.ox
  obtain ⟨a2, c2, rfl, _, _⟩ := OwnM.shape h.oy
  have := folds8_any size (pm X) Y b e a a2 c c2 w (by rw [List.length_map]; omega) (by omega) (fun q hq => by rw [h.hy q hq]; omega) (OwnP.atP h.ox).q (OwnM.at8 h.oy) T
  rw [List.length_map] at this
  exact this
end Go.Proofs.YtdmaiodckialmaaDoor

namespace Go.Proofs.YtdmaiodckialmaaDoor
open Go.RowKit Go.Shelf

theorem OwnM.set {m : Nat} {w : World} {g n c : Nat} {cs : List Value} (h : OwnM m w (.slice (some ⟨g, 0, none⟩) n c) n cs) {j : Nat} (hj : j < cs.length) (u : Value) :
    OwnM m (w.setCell ⟨g, j, none⟩ u) (.slice (some ⟨g, 0, none⟩) n c) n (cs.set j u) ∧ (∃ y, w.cell? ⟨g, j, none⟩ = some y) ∧ w.frozen? ⟨g, j, none⟩ = false := by
  rcases h with ⟨h, _⟩ | ⟨g', cap', h, h2, h3, h0, h4, h5, h6⟩
  · cases h
  injection h with e1 e2 e3
  injection e1 with e1
  injection e1 with e1
  subst e1 e3
  have ht := h5 j (by have := Nat.mul_le_mul_right m h2; omega)
  rw [Nat.zero_add] at ht
  obtain ⟨y, hy⟩ := Option.isSome_iff_exists.1 ht.1
  refine ⟨.inr ⟨g, c, rfl, h2, h3, by rw [List.length_set]; exact h0, ?_, ?_, by simpa [World.setCell] using h6⟩, ⟨y, hy⟩, ht.2⟩
  · intro k u' hk
    rw [List.getElem?_set] at hk
    rw [Nat.zero_add]
    split at hk
    · next e =>
      subst e
      (try split at hk) <;> first | (rw [World.cell?_setCell_same _ _ _ (by rw [hy]; try rfl)]; exact hk) | cases hk
    · next e =>
      rw [World.cell?_setCell_other _ _ _ _ (by simp; try exact fun e' => e e'.symm)]
      have := h4 k u' hk
      rwa [Nat.zero_add] at this
  · intro k hk
    have := h5 k hk
    rw [World.frozen?_setCell]
    refine ⟨?_, this.2⟩
    by_cases e : j = 0 + k
    · rw [← e, World.cell?_setCell_same _ _ _ (by rw [hy]; try rfl)]; rfl
    · rw [World.cell?_setCell_other _ _ _ _ (by simp; try exact fun e' => e (by omega))]; exact this.1
/-- blocks by their roles: only those of role r are written -/
structure Wr (ρ : Nat → Nat) (r : Nat) (w w' : World) : Prop where
  os : w'.os = w.os
  tape : w'.tape = w.tape
  output : w'.output = w.output
  size : w.heap.size ≤ w'.heap.size
  block : ∀ k, k < w.heap.size → ρ k ≠ r → w'.heap[k]? = w.heap[k]?
/-- what is new has this role -/
def rx (ρ : Nat → Nat) (w : World) (r : Nat) : Nat → Nat := fun k => if k < w.heap.size then ρ k else r
theorem rx_old {ρ : Nat → Nat} {w : World} {r k : Nat} (h : k < w.heap.size) : rx ρ w r k = ρ k := if_pos h
theorem rx_new {ρ : Nat → Nat} {w : World} {r k : Nat} (h : w.heap.size ≤ k) : rx ρ w r k = r := if_neg (by omega)
theorem Wr.grow {ρ : Nat → Nat} {r : Nat} {w w' : World} {v v' : Value} (hg : Grow w w' v v') (hr : ∀ k, v.ownBlock = some k → ρ k = r) : Wr ρ r w w' :=
  ⟨hg.os, hg.tape, hg.output, hg.size, fun k hk hne => hg.old k hk (fun e => hne (hr k e))⟩
theorem Wr.setCell {ρ : Nat → Nat} {r : Nat} {w w' : World} (h : Wr ρ r w w') {g : Nat} (hg : g < w.heap.size → ρ g = r) (o : Nat) (u : Value) : Wr ρ r w (w'.setCell ⟨g, o, none⟩ u) :=
  ⟨h.os, h.tape, h.output, by simpa [World.setCell] using h.size, fun k hk hne => (heap_setCell_other w' ⟨g, o, none⟩ k u (fun e => hne (by subst e; exact hg hk))).trans (h.block k hk hne)⟩
theorem Wr.refl (ρ : Nat → Nat) (r : Nat) (w : World) : Wr ρ r w w := ⟨rfl, rfl, rfl, Nat.le_refl _, fun _ _ _ => rfl⟩
theorem Wr.below {ρ : Nat → Nat} {r : Nat} {w w' : World} (h : Below w.heap.size w w') : Wr ρ r w w' := ⟨h.os, h.tape, h.output, h.size, fun k hk _ => h.block k hk⟩
theorem Wr.own {ρ : Nat → Nat} {r : Nat} {w w' : World} {v v' : Value} (hg : Grow w w' v v') (hr : ∀ k, v.ownBlock = some k → ρ k = r) (hl : ∀ k, v.ownBlock = some k → k < w.heap.size) : ∀ k, v'.ownBlock = some k → rx ρ w r k = r := fun k e => by
  rcases hg.alt with e1 | ⟨e1, _⟩
  · rw [e1] at e; rw [rx_old (hl k e)]; exact hr k e
  · exact rx_new (e1 k e)
end Go.Proofs.YtdmaiodckialmaaDoor

namespace Go.Proofs.YtdmaiodckialmaaDoor
open Go.RowKit Go.Shelf
theorem pk_nat8 (c : Int) (n : Nat) (hn : 1 ≤ n) : ∃ k : Nat, Hid (pk c (n : Int) = (k : Int)) ∧ k < n := by
  have q0 := pk_nonneg c (n : Int) (by omega)
  have q1 := pk_lt c (n : Int) (by omega)
  exact ⟨(pk c (n : Int)).toNat, by unfold Hid; omega, by omega⟩
section
variable {w0 w w' : World} {x x' y y' : Value} {X X' : List (Nat × Nat)} {Y Y' : List (List UInt8)}
theorem Fd.drew (h : Fd w0 w x y X Y) : Fd w0 w.drew x y X Y := h.below (Below.drew (Below.refl _ _))
/-- a pair of the first list, as it is read -/
theorem Fd.pair {xa : Option Addr} {n xc : Nat} (h : Fd w0 w (.slice xa n xc) y X Y) (k : Nat) (hk : k < X.length) : ∃ g, xa = some ⟨g, 0, none⟩ ∧ w.cell? ⟨g, k * 2, none⟩ = some (.int .i64 ((X[k]).1 : Int)) ∧ w.cell? ⟨g, k * 2 + 1, none⟩ = some (.int .i64 ((X[k]).2 : Int)) := by
  obtain ⟨a, c, e, _, _⟩ := OwnM.shape h.ox
  have h1 := h.ox
  rw [e] at h1
  injection e with e1 e2 e3
  subst e1
  obtain ⟨g, h2, _, h3, h4⟩ := OwnP.atP h1 k (((X[k]).1 : Int), ((X[k]).2 : Int)) (by simp [hk])
  exact ⟨g, h2, h3, h4⟩
/-- the first list's k-th pair is written over -/
theorem Fd.setX {g n c : Nat} (h : Fd w0 w (.slice (some ⟨g, 0, none⟩) n c) y X Y) (k : Nat) (hk : k < X.length) (b e : Nat) :
    Fd w0 ((w.setCell ⟨g, k * 2, none⟩ (.int .i64 (b : Int))).setCell ⟨g, k * 2 + 1, none⟩ (.int .i64 (e : Int))) (.slice (some ⟨g, 0, none⟩) n c) y (X.set k (b, e)) Y := by
  obtain ⟨a', c', e', _, _⟩ := OwnM.shape h.ox
  injection e' with e1 e2 e3
  have h1 : OwnM 2 w (.slice (some ⟨g, 0, none⟩) n c) n (prs X) := by have := h.ox; unfold OwnP at this; rw [← e2] at this; exact this
  have o1 := (h1.setC (k * 2) (.int .i64 (b : Int)) (by rw [prs_len]; omega)).setC (k * 2 + 1) (.int .i64 (e : Int)) (by rw [List.length_set, prs_len]; omega)
  rw [← prs_set] at o1
  have hs : ((w.setCell ⟨g, k * 2, none⟩ (.int .i64 (b : Int))).setCell ⟨g, k * 2 + 1, none⟩ (.int .i64 (e : Int))).heap.size = w.heap.size := by simp [World.setCell]
  have hh : ∀ q, q ≠ g → ((w.setCell ⟨g, k * 2, none⟩ (.int .i64 (b : Int))).setCell ⟨g, k * 2 + 1, none⟩ (.int .i64 (e : Int))).heap[q]? = w.heap[q]? := fun q hq => by
    rw [heap_setCell_other _ ⟨g, k * 2 + 1, none⟩ q _ hq, heap_setCell_other _ ⟨g, k * 2, none⟩ q _ hq]
  exact {
    ox := by unfold OwnP; rw [List.length_set, ← e2]; exact o1
    oy := h.oy.kept (Nat.le_of_eq hs.symm) (fun q hq => hh q (fun e5 => h.ne g rfl (e5 ▸ hq)))
    fx := h.fx
    fy := h.fy
    ne := h.ne
    hy := h.hy
    bel := h.bel.trans ⟨rfl, rfl, rfl, Nat.le_of_eq hs.symm, fun q hq => hh q (fun e5 => by have := h.fx g rfl; omega)⟩ }
theorem own_form {m n : Nat} {v : Value} {cs : List Value} (h : OwnM m w v n cs) (hn : 0 < n) : ∃ g c, v = .slice (some ⟨g, 0, none⟩) n c ∧ n ≤ c := by
  rcases h with ⟨h1, h2⟩ | ⟨g, c, h1, h2, h3, h0, h4, h5, h6⟩
  · exfalso
    have := h2.1
    omega
  · exact ⟨g, c, h1, by omega⟩
/-- what a store into the first list wants -/
theorem Fd.room {g n c : Nat} (h : Fd w0 w (.slice (some ⟨g, 0, none⟩) n c) y X Y) (k : Nat) (hk : k < X.length) (u : Value) :
    (∃ z, w.cell? ⟨g, k * 2, none⟩ = some z) ∧ w.frozen? ⟨g, k * 2, none⟩ = false ∧ (∃ z, (w.setCell ⟨g, k * 2, none⟩ u).cell? ⟨g, k * 2 + 1, none⟩ = some z) ∧ (w.setCell ⟨g, k * 2, none⟩ u).frozen? ⟨g, k * 2 + 1, none⟩ = false := by
  obtain ⟨a', c', e', _, _⟩ := OwnM.shape h.ox
  injection e' with e1 e2 e3
  have h1 : OwnM 2 w (.slice (some ⟨g, 0, none⟩) n c) n (prs X) := by have := h.ox; unfold OwnP at this; rw [← e2] at this; exact this
  have o1 := h1.set (j := k * 2) (by rw [prs_len]; omega) u
  have o2 := o1.1.set (j := k * 2 + 1) (by rw [List.length_set, prs_len]; omega) u
  exact ⟨o1.2.1, o1.2.2, o2.2.1, o2.2.2⟩
/-- both lists are cut -/
theorem Fd.cutX {g n c : Nat} (h : Fd w0 w (.slice (some ⟨g, 0, none⟩) n c) y X Y) (k : Nat) (hk : k ≤ n) : Fd w0 w (.slice (some ⟨g, 0, none⟩) k c) y (X.take k) Y := by
  obtain ⟨a', c', e', _, _⟩ := OwnM.shape h.ox
  injection e' with e1 e2 e3
  have h1 : OwnM 2 w (.slice (some ⟨g, 0, none⟩) n c) n (prs X) := by have := h.ox; unfold OwnP at this; rw [← e2] at this; exact this
  have h2 := h1.cut hk
  rw [prs_take] at h2
  exact ⟨by unfold OwnP; rw [List.length_take, Nat.min_eq_left (by omega)]; exact h2, h.oy, h.fx, h.fy, h.ne, h.hy, h.bel⟩
theorem Fd.cutY {g n c : Nat} (h : Fd w0 w x (.slice (some ⟨g, 0, none⟩) n c) X Y) (k : Nat) (hk : k ≤ n) : Fd w0 w x (.slice (some ⟨g, 0, none⟩) k c) X (Y.take k) := by
  obtain ⟨a', c', e', _, _⟩ := OwnM.shape h.oy
  injection e' with e1 e2 e3
  have h1 : OwnM 1 w (.slice (some ⟨g, 0, none⟩) n c) n (svs Y) := by have := h.oy; rw [← e2] at this; exact this
  have h2 := h1.cut hk
  rw [Nat.mul_one, show (svs Y).take k = svs (Y.take k) from by simp [svs, List.map_take]] at h2
  exact ⟨h.ox, by rw [List.length_take, Nat.min_eq_left (by omega)]; exact h2, h.fx, h.fy, h.ne, fun q hq => h.hy q (List.mem_of_mem_take hq), h.bel⟩
end
theorem hash8_D (s : ByteArray) (hs : s.size ≤ 140737488355000) (w : World) : Calls Tryd.prog 9 #[.string s] w fun r w' => ∃ D : List UInt8, D.length = 32 ∧ r = .returned (.string ⟨D.toArray⟩) ∧ Below w.heap.size w w' :=
  (hash8_any s hs w).mono fun _ _ h => ⟨_, Sha.sha_length _, h.1, h.2⟩
theorem sv_two (a b : UInt8) : ∃ s : ByteArray, sv [a, b] = .string s ∧ s.size = 2 := ⟨_, rfl, rfl⟩
theorem hy_snoc {Y : List (List UInt8)} {D : List UInt8} (h : ∀ q ∈ Y, q.length = 32) (hD : D.length = 32) : ∀ q ∈ Y ++ [D], q.length = 32 := fun q hq => by
  rcases List.mem_append.1 hq with h1 | h1
  · exact h q h1
  · rw [List.mem_singleton.1 h1]; exact hD
end Go.Proofs.YtdmaiodckialmaaDoor
