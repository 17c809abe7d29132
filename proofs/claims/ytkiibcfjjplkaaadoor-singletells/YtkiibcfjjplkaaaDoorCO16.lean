import Derived.Test.YtkiibcfjjplkaaaDoorCO9
namespace Go.Proofs.YtkiibcfjjplkaaaDoor
open Go.RowKit

theorem own_one (w : World) (base : Nat) (r : List UInt8) (hb : base ≤ w.heap.size) : Own (w.alloc (.cells #[sv r] 9)) base (.slice (some ⟨w.heap.size, 0, none⟩) 1 1) (svs [r]) := by
  refine .inr ⟨w.heap.size, 1, rfl, hb, by simp [svs], by simp [maxLen], ?_, ?_, by rw [size_alloc]; omega⟩
  · intro j v hv
    rw [cell_of_row _ _ _ _ _ _ (heap_alloc_new w _), Nat.zero_add]
    simpa [svs] using hv
  · exact there_of_row (heap_alloc_new w _) 0 1 (by simp)
set_option maxRecDepth 100000 in
set_option maxHeartbeats 400000 in
theorem proof1_whole (n : Nat) (a : Option Addr) (cap : Nat) (c : Nat) (w : World) :
    Calls Tryd.prog 66 #[.int .i64 n, .slice a n cap, .bool true, .pointer (some ⟨c, 0, none⟩)] w (Out w []) := by
  go_enter Tryd.func66, Tryd.ntmps66
  go_wp2
  go_ret
  exact ⟨_, rfl, Own.nil _ _, Below.refl _ _⟩
set_option maxRecDepth 100000 in
set_option maxHeartbeats 400000 in
theorem proof1_part (l : List (List UInt8)) (a : Option Addr) (cap : Nat) (c : Nat) (w : World) (hl : l.length ≤ cap) (hc : cap ≤ 9223372036854775807) (hA : At w a l) (T : Tabs w) :
    Calls Tryd.prog 66 #[.int .i64 (l.length : Nat), .slice a l.length cap, .bool false, .pointer (some ⟨c, 0, none⟩)] w (Out w [Tree.root l]) := by
  have h2 := root_any l a cap w hl hc hA T
  generalize Tree.root l = r at *
  generalize l.length = n at *
  go_enter Tryd.func66, Tryd.ntmps66
  go_wp2_with (go_at_call 65; refine h2.mono ?_; rintro e w1 ⟨rfl, hw1⟩; rw [show sv r = Value.string ⟨r.toArray⟩ from rfl])
  go_ret
  exact ⟨_, rfl, own_one w1 w.heap.size r hw1.size, hw1.alloc hw1.size _⟩
set_option maxRecDepth 100000 in
set_option maxHeartbeats 2000000 in
theorem proof1_any : ∀ (f : Nat) (l : List (List UInt8)) (m : Nat) (wh : Bool) (a : Option Addr) (cap c : Nat) (w : World), l.length ≤ f → l.length ≤ 1000000 → 1 ≤ m → m ≤ l.length → l.length ≤ cap → cap ≤ 9223372036854775807 → At w a l → Tabs w →
    w.cell? ⟨c, 0, none⟩ = some (.func (.func 66) #[] #[.pointer (some ⟨c, 0, none⟩)]) →
    Calls Tryd.prog 66 #[.int .i64 m, .slice a l.length cap, .bool wh, .pointer (some ⟨c, 0, none⟩)] w (Out w (Tree.proof m l wh)) := by
  intro f
  induction f with
  | zero => intro l m wh a cap c w hf _ hm1 hm; omega
  | succ f ih =>
    intro l m wh a cap c w hf hM hm1 hm hl hc hA T hcl
    by_cases h1 : m = l.length
    · subst h1
      cases wh
      · rw [Tree.proof_part hm1]; exact proof1_part l a cap c w hl hc hA T
      · rw [Tree.proof_whole hm1]; exact proof1_whole l.length a cap c w
    · obtain ⟨n, hn⟩ : ∃ n, l.length = n := ⟨_, rfl⟩
      have h2 : 2 ≤ n := by omega
      obtain ⟨x, rfl⟩ := hA.pos (by rw [hn]; omega)
      have eL := fun h => Tree.proof_left (m := m) (l := l) (whole := wh) hm1 (by omega) h
      have eR := fun h => Tree.proof_right (m := m) (l := l) (whole := wh) hm1 (by omega) h
      rw [hn] at eL eR hf hl hm h1 hM ⊢
      have k1 := Tree.sp_lt h2
      have k2 := Tree.sp_pos h2
      have hs : spI (n : Int) = ((Tree.sp n : Nat) : Int) := rfl
      generalize Tree.sp n = k at *
      have l1 : (l.take k).length = k := by rw [List.length_take, hn]; omega
      have l2 : (l.drop k).length = n - k := by rw [List.length_drop, hn]
      have n2 : ((m : Int) == (n : Int)) = false := by simp; omega
      have HT := hid T
      have A1 := hid (hA.take k)
      have A2 := hid (hA.drop k)
      by_cases hmk : m ≤ k
      · have b0 : (m : Int) ≤ (k : Int) := by omega
        have e := hid (eL hmk)
        have c1 := fun w' (h : At w' (some x) (l.take k)) => ih (l.take k) m wh (some x) k c w' (by omega) (by omega) (by omega) (by omega) (by omega) (by omega) h
        have c2 := fun w' (h : At w' (some (x.add k)) (l.drop k)) => root_any (l.drop k) (some (x.add k)) (n - k) w' (by omega) (by omega) h
        rw [l1] at c1
        rw [l2] at c2
        have hpl := Tree.proof_length _ m (l.take k) wh (Nat.le_refl _) (by omega) (by omega)
        generalize Tree.proof m (l.take k) wh = L at *
        generalize Tree.root (l.drop k) = r at *
        clear hA ih hn eL eR T
        go_enter Tryd.func66, Tryd.ntmps66
        go_wp2_with (first
          | (go_at_call 63; refine (split_any (n : Int) (by omega) (by omega) _).mono ?_; rintro e w0 ⟨rfl, rfl⟩; rw [hs])
          | (go_at_call 64; refine (cut_any x n cap k k1 hl _).mono ?_; rintro e wc ⟨rfl, hbc, hhc⟩; have hcl0 := cell_below hcl hbc)
          | (go_at_call 66; refine (c1 _ (A1.out.heap hhc) (HT.out.below hbc HT.out.lt) hcl0).mono ?_; rintro e w1 ⟨v1, rfl, hO1, hw1⟩)
          | (go_at_call 65; refine (c2 _ ((A2.out.heap hhc).below hw1 (Nat.le_refl _)) ((HT.out.below hbc HT.out.lt).below hw1 (HT.out.below hbc HT.out.lt).lt)).mono ?_; rintro e w2 ⟨rfl, hw2⟩; obtain ⟨v3, w3, hap, hO3, hb3⟩ := append_text w2 wc.heap.size v1 L r (hO1.below hw2 (Nat.le_refl _)) (by omega) (Nat.le_trans hw1.size hw2.size); rw [show sv r = Value.string ⟨r.toArray⟩ from rfl] at hap ⊢)
          | (at_builtin; go_must (refine Lib.wpList_append_run _ rfl _ _ 28 28 rfl _ _ rfl rfl _ _ hap ?_)))
        go_ret
        exact ⟨_, rfl, by rw [e.out]; exact hO3.mono hbc.size, hbc.trans (((hw1.trans (hw2.mono hw1.size)).trans hb3).mono hbc.size)⟩
      · have b0 : ¬ (m : Int) ≤ (k : Int) := by omega
        have e := hid (eR hmk)
        have c1 := fun w' (h : At w' (some (x.add k)) (l.drop k)) => ih (l.drop k) (m - k) false (some (x.add k)) (n - k) c w' (by omega) (by omega) (by omega) (by omega) (by omega) (by omega) h
        have c2 := fun w' (h : At w' (some x) (l.take k)) => root_any (l.take k) (some x) (k) w' (by omega) (by omega) h
        rw [l2, show ((m - k : Nat) : Int) = (m : Int) - (k : Int) from by omega] at c1
        rw [l1] at c2
        have hpl := Tree.proof_length _ (m - k) (l.drop k) false (Nat.le_refl _) (by omega) (by omega)
        generalize Tree.proof (m - k) (l.drop k) false = L at *
        generalize Tree.root (l.take k) = r at *
        clear hA ih hn eL eR T
        go_enter Tryd.func66, Tryd.ntmps66
        go_wp2_with (first
          | (go_at_call 63; refine (split_any (n : Int) (by omega) (by omega) _).mono ?_; rintro e w0 ⟨rfl, rfl⟩; rw [hs])
          | (go_at_call 64; refine (cut_any x n cap k k1 hl _).mono ?_; rintro e wc ⟨rfl, hbc, hhc⟩; have hcl0 := cell_below hcl hbc)
          | (go_at_call 66; refine (c1 _ (A2.out.heap hhc) (HT.out.below hbc HT.out.lt) hcl0).mono ?_; rintro e w1 ⟨v1, rfl, hO1, hw1⟩)
          | (go_at_call 65; refine (c2 _ ((A1.out.heap hhc).below hw1 (Nat.le_refl _)) ((HT.out.below hbc HT.out.lt).below hw1 (HT.out.below hbc HT.out.lt).lt)).mono ?_; rintro e w2 ⟨rfl, hw2⟩; obtain ⟨v3, w3, hap, hO3, hb3⟩ := append_text w2 wc.heap.size v1 L r (hO1.below hw2 (Nat.le_refl _)) (by omega) (Nat.le_trans hw1.size hw2.size); rw [show sv r = Value.string ⟨r.toArray⟩ from rfl] at hap ⊢)
          | (at_builtin; go_must (refine Lib.wpList_append_run _ rfl _ _ 28 28 rfl _ _ rfl rfl _ _ hap ?_)))
        go_ret
        exact ⟨_, rfl, by rw [e.out]; exact hO3.mono hbc.size, hbc.trans (((hw1.trans (hw2.mono hw1.size)).trans hb3).mono hbc.size)⟩
end Go.Proofs.YtkiibcfjjplkaaaDoor

namespace Go.Proofs.YtkiibcfjjplkaaaDoor
open Go.RowKit

set_option maxRecDepth 100000 in
set_option maxHeartbeats 400000 in
theorem proof_any (l : List (List UInt8)) (m : Nat) (a : Option Addr) (cap : Nat) (w : World) (hM : l.length ≤ 1000000) (hm1 : 1 ≤ m) (hm : m ≤ l.length) (hl : l.length ≤ cap) (hc : cap ≤ 9223372036854775807) (hA : At w a l) (T : Tabs w) :
    Calls Tryd.prog 46 #[.slice a l.length cap, .int .i64 m] w (Out w (Tree.proof m l true)) := by
  have hmf : ∀ (fn : Fn) (first cap : Array Value) (w : World), (Instr.makeFunc fn first cap).run Tryd.prog w = .ok (.func fn first cap) w := fun _ _ _ _ => rfl
  have hb := (Below.refl w.heap.size w).alloc (Nat.le_refl _) (.cells #[Value.func (.func 66) #[] #[Value.pointer (some ⟨w.heap.size, 0, none⟩)]] 99)
  have hc1 := proof1_any _ l m true a cap w.heap.size (w.alloc (.cells #[Value.func (.func 66) #[] #[Value.pointer (some ⟨w.heap.size, 0, none⟩)]] 99)) (Nat.le_refl _) hM hm1 hm hl hc (hA.below hb (Nat.le_refl _)) (T.below hb T.lt)
    (by rw [cell_of_row _ _ _ _ _ _ (heap_alloc_new w _)]; rfl)
  generalize Tree.proof m l true = L at *
  generalize l.length = n at *
  clear hA T hc hl
  go_enter Tryd.func46, Tryd.ntmps46
  go_wp2_with (go_at_call 66; refine hc1.mono ?_; rintro e w1 ⟨v1, rfl, hO1, hw1⟩)
  go_ret
  exact ⟨_, rfl, hO1.mono hb.size, hb.trans (hw1.mono (by rw [size_alloc]; omega))⟩
/-- T4 -/
def proofOut (l : List (List UInt8)) (m : Int) : List (List UInt8) × Int := if wrg l = 0 then (if 1 ≤ m ∧ m ≤ l.length then (Tree.proof m.toNat l true, 0) else ([], 31)) else ([], wrg l)
set_option maxRecDepth 100000 in
set_option maxHeartbeats 400000 in
theorem Proof_any (l : List (List UInt8)) (m : Int) (a : Option Addr) (cap : Nat) (w : World) (hl : l.length ≤ cap) (hc : cap ≤ 9223372036854775807) (hA : At w a l) (T : Tabs w) :
    Calls Tryd.prog 17 #[.slice a l.length cap, .int .i64 m] w (Out2 w (proofOut l m)) := by
  have h1 := check_any l a cap w (by omega) hA
  by_cases h : wrg l = 0
  · have h4 := wrg_le h
    rw [h] at h1
    by_cases hm : 1 ≤ m ∧ m ≤ l.length
    · have ho : proofOut l m = (Tree.proof m.toNat l true, 0) := by rw [proofOut, if_pos h, if_pos hm]
      rw [ho]
      have h2 := proof_any l m.toNat a cap w (by omega) (by omega) (by omega) hl hc hA T
      rw [Int.toNat_of_nonneg (show 0 ≤ m by omega)] at h2
      generalize Tree.proof m.toNat l true = L at *
      generalize l.length = n at *
      obtain ⟨b1, b2⟩ := hm
      have b3 : ¬ (n : Int) < m := by omega
      have b4 : ¬ m < 1 := by omega
      clear h hA ho
      go_enter Tryd.func17, Tryd.ntmps17
      go_wp2_with (first
        | (go_at_call 43; refine h1.mono ?_; rintro e w1 ⟨rfl, rfl⟩)
        | (go_at_call 46; refine h2.mono ?_; rintro e w2 ⟨v2, rfl, hO2, hw2⟩))
      go_ret2
      exact ⟨_, rfl, hO2, hw2⟩
    · have ho : proofOut l m = ([], 31) := by rw [proofOut, if_pos h, if_neg hm]
      rw [ho]
      generalize l.length = n at *
      clear h hA ho
      by_cases b4 : m < 1
      · clear hm
        go_enter Tryd.func17, Tryd.ntmps17
        go_wp2_with (go_at_call 43; refine h1.mono ?_; rintro e w1 ⟨rfl, rfl⟩)
        go_ret2
        exact ⟨_, rfl, Own.nil _ _, Below.refl _ _⟩
      · have b3 : (n : Int) < m := by omega
        clear hm
        go_enter Tryd.func17, Tryd.ntmps17
        go_wp2_with (go_at_call 43; refine h1.mono ?_; rintro e w1 ⟨rfl, rfl⟩)
        go_ret2
        exact ⟨_, rfl, Own.nil _ _, Below.refl _ _⟩
  · have ho : proofOut l m = ([], wrg l) := by rw [proofOut, if_neg h]
    rw [ho]
    generalize wrg l = z at *
    generalize l.length = n at *
    have b0 : (z != 0) = true := by simpa using h
    clear hA ho
    go_enter Tryd.func17, Tryd.ntmps17
    go_wp2_with (go_at_call 43; refine h1.mono ?_; rintro e w1 ⟨rfl, rfl⟩)
    go_ret2
    exact ⟨_, rfl, Own.nil _ _, Below.refl _ _⟩
end Go.Proofs.YtkiibcfjjplkaaaDoor

namespace Go.Proofs.YtkiibcfjjplkaaaDoor
open Go.RowKit

/-- T3 -/
def partOut (l : List (List UInt8)) (b e : Int) : List UInt8 × Int := if wrg l = 0 then (if 0 ≤ b ∧ b ≤ e ∧ e ≤ l.length then (Tree.root ((l.take e.toNat).drop b.toNat), 0) else ([], 30)) else ([], wrg l)
end Go.Proofs.YtkiibcfjjplkaaaDoor

namespace Go.Proofs.YtkiibcfjjplkaaaDoor
open Go.RowKit

/-- which of n things -/
def pk (c n : Int) : Int := (if c < 0 then -(c + 1) else c) % n
theorem pk_nonneg (c n : Int) (hn : 0 < n) : 0 ≤ pk c n := Int.emod_nonneg _ (by omega)
theorem pk_lt (c n : Int) (hn : 0 < n) : pk c n < n := Int.emod_lt_of_pos _ hn
set_option maxRecDepth 100000 in
set_option maxHeartbeats 400000 in
theorem pick_any (c n : Int) (hc1 : -9223372036854775808 ≤ c) (hc2 : c ≤ 9223372036854775807) (hn : 0 < n) (hn2 : n ≤ 9223372036854775807) (w : World) :
    Calls Tryd.prog 9 #[.int .i64 c, .int .i64 n] w fun e w' => e = .returned (.int .i64 (pk c n)) ∧ w' = w := by
  have hp0 := pk_nonneg c n hn
  have hp1 := pk_lt c n hn
  have hn0 : ¬ n = 0 := by omega
  by_cases h : c < 0
  · have e1 : IntKind.i64.wrap (c + 1) = c + 1 := by rw [IntKind.wrap_i64]; omega
    have e2 : IntKind.i64.wrap (-(c + 1)) = -(c + 1) := by rw [IntKind.wrap_i64]; omega
    have e3 : Int.tmod (-(c + 1)) n = pk c n := by rw [Int.tmod_eq_emod_of_nonneg (by omega), pk, if_pos h]
    have e4 : IntKind.i64.wrap (pk c n) = pk c n := wrap_small _ (by omega) (by omega)
    go_enter Tryd.func9, Tryd.ntmps9
    go_wp2
    go_ret
    exact ⟨rfl, rfl⟩
  · have e3 : Int.tmod c n = pk c n := by rw [Int.tmod_eq_emod_of_nonneg (by omega), pk, if_neg h]
    have e4 : IntKind.i64.wrap (pk c n) = pk c n := wrap_small _ (by omega) (by omega)
    go_enter Tryd.func9, Tryd.ntmps9
    go_wp2
    go_ret
    exact ⟨rfl, rfl⟩


theorem AtI.below {w w' : World} {a : Option Addr} {l : List Int} {B : Nat} (h : AtI w a l) (hb : Below B w w') (hB : w.heap.size ≤ B) : AtI w' a l := fun j p hp => by
  obtain ⟨x, rfl, hx, hc⟩ := h j p hp
  exact ⟨x, rfl, Nat.lt_of_lt_of_le hx hb.size, (hb.cell (p := x.add j) (by rw [addr_block]; omega)).trans hc⟩
theorem AtI.pos {w : World} {a : Option Addr} {l : List Int} (h : AtI w a l) (hl : 0 < l.length) : ∃ x, a = some x := by
  obtain ⟨x, hx, _⟩ := h 0 _ (List.getElem?_eq_getElem hl)
  exact ⟨x, hx⟩
theorem AtI.cell {w : World} {x : Addr} {l : List Int} (h : AtI w (some x) l) (j : Nat) (hj : j < l.length) : w.cell? (x.add j) = some (.int .i64 l[j]) := by
  obtain ⟨y, hy, _, hc⟩ := h j _ (List.getElem?_eq_getElem hj)
  obtain rfl := Option.some.inj hy
  exact hc
def nums (cs : List Int) (k : Nat) : List (List UInt8) := (cs.take k).map lf
theorem nums_succ (cs : List Int) (k : Nat) (h : k < cs.length) : nums cs (k + 1) = nums cs k ++ [lf cs[k]] := by
  rw [nums, nums, List.take_add_one, List.getElem?_eq_getElem h, List.map_append]; rfl
theorem nums_len (cs : List Int) (k : Nat) : (nums cs k).length = min k cs.length := by simp [nums]
theorem nums_hs (cs : List Int) (k : Nat) : Tree.Hs (nums cs k) := fun x hx => by
  simp only [nums, List.mem_map] at hx
  obtain ⟨c, _, rfl⟩ := hx
  exact lf_length c
end Go.Proofs.YtkiibcfjjplkaaaDoor

namespace Go.Proofs.YtkiibcfjjplkaaaDoor.Tree
/-- the root of the first m, where m goes past the first part -/
theorem root_past {l : List T} {m : Nat} (h1 : sp l.length < m) (h2 : m ≤ l.length) (hl : 2 ≤ l.length) : root (l.take m) = nd (root (l.take (sp l.length))) (root ((l.drop (sp l.length)).take (m - sp l.length))) := by
  have a := sp_lt hl
  have b := sp_ge hl
  have c := sp_pos hl
  have hlen : (l.take m).length = m := by simp; omega
  have hs : sp m = sp l.length := by
    have e := sp_eq hl
    rw [e] at h1 b
    rw [sp_one (n := m) (by rw [← e] at h1; omega) _ h1 (by omega), e]
  rw [root_cut (l := l.take m) (by rw [hlen]; omega), hlen, hs, List.take_take, Nat.min_eq_left (by omega), List.drop_take]
end Go.Proofs.YtkiibcfjjplkaaaDoor.Tree
namespace Go.Proofs.YtkiibcfjjplkaaaDoor
open Go.RowKit
theorem At.init {w : World} {a : Option Addr} {l : List (List UInt8)} {r : List UInt8} (h : At w a (l ++ [r])) : At w a l := fun j p hp => h j p (by
  rw [List.getElem?_append_left (List.getElem?_eq_some_iff.1 hp).1]; exact hp)
theorem At.last {w : World} {x : Addr} {l : List (List UInt8)} {r : List UInt8} (h : At w (some x) (l ++ [r])) : w.cell? (x.add l.length) = some (.string ⟨r.toArray⟩) := by
  obtain ⟨y, hy, _, hc⟩ := h l.length r (by simp)
  obtain rfl := Option.some.inj hy
  exact hc
end Go.Proofs.YtkiibcfjjplkaaaDoor

namespace Go.Proofs.YtkiibcfjjplkaaaDoor
open Go.RowKit
theorem Own.at {w : World} {base : Nat} {v : Value} {L : List (List UInt8)} (h : Own w base v (svs L)) : ∃ a cap, v = .slice a L.length cap ∧ At w a L ∧ L.length ≤ cap ∧ cap ≤ 9223372036854775807 := by
  rcases h with ⟨rfl, h⟩ | ⟨g, cap, rfl, h1, h2, h3, h4, h5, h6⟩
  · obtain rfl : L = [] := by simpa [svs] using h
    exact ⟨none, 0, rfl, At.nil _ _, by simp, by omega⟩
  · rw [svs_length] at h2
    refine ⟨some ⟨g, 0, none⟩, cap, by rw [svs_length], fun j p hp => ⟨_, rfl, h6, ?_⟩, h2, h3⟩
    rw [Addr.add_mid]
    exact h4 j (sv p) (by simp [svs, hp])
theorem wrg_hs {l : List (List UInt8)} (h : Tree.Hs l) (hl : l.length ≤ 4096) : wrg l = 0 := by
  rw [wrg, if_neg (by omega), if_pos]
  rw [List.all_eq_true]
  intro x hx
  simpa using h x hx
theorem Proof_hs {l : List (List UInt8)} (h : Tree.Hs l) (hl : l.length ≤ 4096) (m : Nat) (h1 : 1 ≤ m) (h2 : m ≤ l.length) (a : Option Addr) (cap : Nat) (w : World) (hlc : l.length ≤ cap) (hc : cap ≤ 9223372036854775807) (hA : At w a l) (T : Tabs w) :
    Calls Tryd.prog 17 #[.slice a l.length cap, .int .i64 m] w (Out2 w (Tree.proof m l true, 0)) := by
  have := Proof_any l m a cap w hlc hc hA T
  rwa [proofOut, if_pos (wrg_hs h hl), if_pos (by omega), Int.toNat_natCast] at this
theorem Tabs.next {w w' : World} (h : Tabs w) (hb : Below w.heap.size w w') : Tabs w' := h.below hb h.lt
end Go.Proofs.YtkiibcfjjplkaaaDoor
