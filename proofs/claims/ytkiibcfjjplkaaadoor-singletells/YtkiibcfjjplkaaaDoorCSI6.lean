import Derived.Test.YtkiibcfjjplkaaaDoorCTL36
import Derived.Test.YtkiibcfjjplkaaaDoorCSI1
import Derived.Test.YtkiibcfjjplkaaaDoorCO7
import Derived.Test.YtkiibcfjjplkaaaDoorCO16
namespace Go.Proofs.YtkiibcfjjplkaaaDoor
open Go.RowKit Go.Shelf
set_option maxRecDepth 100000 in
theorem split11_any (n k : Nat) (h2 : 2 ≤ n) (hn : n ≤ 1048576) (hk : Hid (Tree.sp n = k)) (w : World) :
    Calls Tryd.prog 77 #[.int .i64 (n : Int)] w fun r w' => r = .returned (.int .i64 (k : Int)) ∧ w' = w := by
  go_enter Tryd.func77, Tryd.ntmps77
  go_wp2
  go_loopw [3] (fun v w' => ∃ a x : Nat, Hid (2 ^ a = x) ∧ v = .int .i64 (x : Int) ∧ x < n ∧ 0 < x ∧ w' = w) (fun v _ => n - (intOf v).toNat)
  case atStart => exact ⟨0, 1, rfl, rfl, by omega, by omega, rfl⟩
  case round =>
    obtain ⟨a, x, hx, rfl, hlt, hpos, hw⟩ := hrel
    subst hw
    by_cases hc : 2 * x < n
    · have b0 : 2 * (x : Int) < (n : Int) := by omega
      go_wp2
      exact ⟨⟨a + 1, 2 * x, by rw [Hid, Nat.pow_succ, hx.out, Nat.mul_comm], by go_num, by omega, by omega, trivial⟩, by simp [intOf]; omega⟩
    · have b0 : ¬ 2 * (x : Int) < (n : Int) := by omega
      have e : k = x := by rw [← hk.out, Tree.sp_one (by omega) a (by rw [hx.out]; omega) (by rw [hx.out]; omega), hx.out]
      subst e
      go_wp2
      go_ret
      exact ⟨rfl, rfl⟩
set_option maxRecDepth 100000 in
theorem part11_any {w : World} {q h : Nat} {L : List (List UInt8)} {F : Nat → Prop} (t : RtL w q h L F) (b e : Nat) (hb : b ≤ e) (he : e ≤ L.length) (x : List UInt8) (hx : Hid (Tree.root (Til.sg L b e) = x)) :
    Calls Tryd.prog 78 #[.pointer (some ⟨q, 0, none⟩), .int .i64 (b : Int), .int .i64 (e : Int)] w fun r w' => r = .returned (sv x) ∧ Below w.heap.size w w' := by
  have i1 := rPart7_any t (b : Int) (e : Int) (x := x) (z := 0) (by unfold Hid; rw [tPartO_nat hb he, hx.out])
  rw [show sv x = Value.string ⟨x.toArray⟩ from rfl] at i1 ⊢
  clear t
  go_enter Tryd.func78, Tryd.ntmps78
  go_wp2_with (go_at_call 54; refine i1.mono ?_; rintro r w2 ⟨rfl, b2⟩)
  go_ret
  exact ⟨rfl, b2⟩
set_option maxRecDepth 100000 in
set_option maxHeartbeats 400000 in
theorem rpath11_any {q h : Nat} {L : List (List UInt8)} {F : Nat → Prop} : ∀ (f b e i : Nat) (w : World), RtL w q h L F → e - b ≤ f → b ≤ i → i < e → e ≤ L.length →
    Calls Tryd.prog 52 #[.pointer (some ⟨q, 0, none⟩), .int .i64 (i : Int), .int .i64 (b : Int), .int .i64 (e : Int)] w (Out w (Tree.path (i - b) (Til.sg L b e))) := by
  intro f
  induction f with
  | zero => intro b e i w t hf h1 h2 h3; omega
  | succ f ih =>
    intro b e i w t hf h1 h2 h3
    have n20 := t.n20
    have ln : (Til.sg L b e).length = e - b := Til.sg_len h3
    by_cases hone : e - b = 1
    · rw [Tree.path_small (by omega)]
      have n1 : IntKind.i64.wrap ((e : Int) - (b : Int)) = 1 := by rw [IntKind.wrap_i64]; omega
      have n2 : (e : Int) - (b : Int) = 1 := by omega
      clear t ih
      go_enter Tryd.func52, Tryd.ntmps52
      go_wp2
      go_ret
      exact ⟨_, rfl, Own.nil _ _, Below.refl _ _⟩
    · obtain ⟨n, hn⟩ : ∃ n, e - b = n := ⟨_, rfl⟩
      have n1 : IntKind.i64.wrap ((e : Int) - (b : Int)) = (n : Int) := by rw [IntKind.wrap_i64]; omega
      have n3 : (e : Int) - (b : Int) = (n : Int) := by omega
      have n2 : ¬ (n : Int) = 1 := by omega
      have cut := Tree.path_cut (m := i - b) (l := Til.sg L b e) (by omega)
      rw [ln, hn] at cut
      have k1 := Tree.sp_lt (n := n) (by omega)
      have k2 := Tree.sp_pos (n := n) (by omega)
      have hs := fun w' => split11_any n (Tree.sp n) (by omega) (by omega) rfl w'
      generalize Tree.sp n = k at *
      rw [Til.sg_take (by omega), Til.sg_drop] at cut
      obtain ⟨mid, hmid⟩ : ∃ mid : Nat, mid = b + k := ⟨_, rfl⟩
      have hcast : ((mid : Nat) : Int) = (b : Int) + (k : Int) := by omega
      rw [← hmid] at cut
      by_cases hik : i < mid
      · have b0 : (i : Int) < (b : Int) + (k : Int) := by omega
        rw [if_pos (by omega)] at cut
        have c1 := ih b mid i w t (by omega) h1 hik (by omega)
        have hpl := Tree.path_length _ (i - b) (Til.sg L b mid) (Nat.le_refl _)
        have lm : (Til.sg L b mid).length = mid - b := Til.sg_len (by omega)
        have c2 := fun w' (hb : Below w.heap.size w w') => part11_any (t.below hb) mid e (by omega) h3 _ rfl
        rw [cut]
        generalize Tree.path (i - b) (Til.sg L b mid) = A at *
        generalize Tree.root (Til.sg L mid e) = r at *
        simp only [show sv r = Value.string ⟨r.toArray⟩ from rfl] at c2
        simp only [hcast] at c1 c2
        clear ih t cut
        go_enter Tryd.func52, Tryd.ntmps52
        go_wp2_with (first
          | (go_at_call 77; refine (hs _).mono ?_; rintro r0 w0 ⟨rfl, h0⟩; have h0 := h0.symm; subst h0)
          | (go_at_call 52; refine c1.mono ?_; rintro r1 w1 ⟨v1, rfl, hO1, hw1⟩)
          | (go_at_call 78; refine (c2 _ hw1).mono ?_; rintro r2 w2 ⟨rfl, hw2⟩; obtain ⟨v3, w3, hap, hO3, hb3⟩ := append_text w2 w.heap.size v1 A r (hO1.below hw2 (Nat.le_refl _)) (by omega) (Nat.le_trans hw1.size hw2.size); rw [show sv r = Value.string ⟨r.toArray⟩ from rfl] at hap)
          | (at_builtin; go_must (refine Lib.wpList_append_run _ rfl _ _ 28 28 rfl _ _ rfl rfl _ _ hap ?_)))
        go_ret
        exact ⟨_, rfl, hO3, (hw1.trans (hw2.mono hw1.size)).trans hb3⟩
      · have b0 : ¬ (i : Int) < (b : Int) + (k : Int) := by omega
        rw [if_neg (by omega), show i - b - k = i - mid by omega] at cut
        have c1 := ih mid e i w t (by omega) (by omega) h2 h3
        have hpl := Tree.path_length _ (i - mid) (Til.sg L mid e) (Nat.le_refl _)
        have lm : (Til.sg L mid e).length = e - mid := Til.sg_len h3
        have c2 := fun w' (hb : Below w.heap.size w w') => part11_any (t.below hb) b mid (by omega) (by omega) _ rfl
        rw [cut]
        generalize Tree.path (i - mid) (Til.sg L mid e) = A at *
        generalize Tree.root (Til.sg L b mid) = r at *
        simp only [show sv r = Value.string ⟨r.toArray⟩ from rfl] at c2
        simp only [hcast] at c1 c2
        clear ih t cut
        go_enter Tryd.func52, Tryd.ntmps52
        go_wp2_with (first
          | (go_at_call 77; refine (hs _).mono ?_; rintro r0 w0 ⟨rfl, h0⟩; have h0 := h0.symm; subst h0)
          | (go_at_call 52; refine c1.mono ?_; rintro r1 w1 ⟨v1, rfl, hO1, hw1⟩)
          | (go_at_call 78; refine (c2 _ hw1).mono ?_; rintro r2 w2 ⟨rfl, hw2⟩; obtain ⟨v3, w3, hap, hO3, hb3⟩ := append_text w2 w.heap.size v1 A r (hO1.below hw2 (Nat.le_refl _)) (by omega) (Nat.le_trans hw1.size hw2.size); rw [show sv r = Value.string ⟨r.toArray⟩ from rfl] at hap)
          | (at_builtin; go_must (refine Lib.wpList_append_run _ rfl _ _ 28 28 rfl _ _ rfl rfl _ _ hap ?_)))
        go_ret
        exact ⟨_, rfl, hO3, (hw1.trans (hw2.mono hw1.size)).trans hb3⟩
set_option maxRecDepth 100000 in
set_option maxHeartbeats 400000 in
theorem rproof11_any {q h : Nat} {L : List (List UInt8)} {F : Nat → Prop} : ∀ (f b e m : Nat) (wh : Bool) (w : World), RtL w q h L F → e - b ≤ f → 1 ≤ m → m ≤ e - b → b ≤ e → e ≤ L.length →
    Calls Tryd.prog 53 #[.pointer (some ⟨q, 0, none⟩), .int .i64 (m : Int), .int .i64 (b : Int), .int .i64 (e : Int), .bool wh] w (Out w (Tree.proof m (Til.sg L b e) wh)) := by
  intro f
  induction f with
  | zero => intro b e m wh w t hf h1 h2 h3; omega
  | succ f ih =>
    intro b e m wh w t hf h1 h2 h3 h4
    have n20 := t.n20
    have ln : (Til.sg L b e).length = e - b := Til.sg_len h4
    obtain ⟨n, hn⟩ : ∃ n, e - b = n := ⟨_, rfl⟩
    have n1 : IntKind.i64.wrap ((e : Int) - (b : Int)) = (n : Int) := by rw [IntKind.wrap_i64]; omega
    have n3 : (e : Int) - (b : Int) = (n : Int) := by omega
    by_cases hmn : m = n
    · subst hmn
      cases wh
      · have c2 := part11_any t b e h3 h4 _ rfl
        have eq : Tree.proof m (Til.sg L b e) false = [Tree.root (Til.sg L b e)] := by
          have := Tree.proof_part (l := Til.sg L b e) (by omega)
          rwa [ln, hn] at this
        rw [eq]
        generalize Tree.root (Til.sg L b e) = r at *
        rw [show sv r = Value.string ⟨r.toArray⟩ from rfl] at c2
        clear t ih eq
        go_enter Tryd.func53, Tryd.ntmps53
        go_wp2_with (go_at_call 78; refine c2.mono ?_; rintro r2 w1 ⟨rfl, hw1⟩)
        go_ret
        exact ⟨_, rfl, own_one w1 w.heap.size r hw1.size, hw1.alloc hw1.size _⟩
      · have eq : Tree.proof m (Til.sg L b e) true = [] := by
          have := Tree.proof_whole (l := Til.sg L b e) (by omega)
          rwa [ln, hn] at this
        rw [eq]
        clear t ih eq
        go_enter Tryd.func53, Tryd.ntmps53
        go_wp2
        go_ret
        exact ⟨_, rfl, Own.nil _ _, Below.refl _ _⟩
    · have n2 : ¬ (m : Int) = (n : Int) := by omega
      have k1 := Tree.sp_lt (n := n) (by omega)
      have k2 := Tree.sp_pos (n := n) (by omega)
      have hs := fun w' => split11_any n (Tree.sp n) (by omega) (by omega) rfl w'
      obtain ⟨k, hk⟩ : ∃ k, Hid (Tree.sp n = k) := ⟨_, rfl⟩
      rw [hk.out] at k1 k2 hs
      obtain ⟨mid, hmid⟩ : ∃ mid : Nat, mid = b + k := ⟨_, rfl⟩
      have hcast : ((mid : Nat) : Int) = (b : Int) + (k : Int) := by omega
      by_cases hmk : m ≤ k
      · have b0 : (m : Int) ≤ (k : Int) := by omega
        have cut := Tree.proof_left (m := m) (l := Til.sg L b e) (whole := wh) h1 (by omega) (by rw [ln, hn, hk.out]; exact hmk)
        rw [ln, hn, hk.out, Til.sg_take (by omega), Til.sg_drop, ← hmid] at cut
        have c1 := ih b mid m wh w t (by omega) h1 (by omega) (by omega) (by omega)
        have lm : (Til.sg L b mid).length = mid - b := Til.sg_len (by omega)
        have hpl := Tree.proof_length _ m (Til.sg L b mid) wh (Nat.le_refl _) h1 (by omega)
        have c2 := fun w' (hb : Below w.heap.size w w') => part11_any (t.below hb) mid e (by omega) h4 _ rfl
        rw [cut]
        generalize Tree.proof m (Til.sg L b mid) wh = A at *
        generalize Tree.root (Til.sg L mid e) = r at *
        simp only [show sv r = Value.string ⟨r.toArray⟩ from rfl] at c2
        simp only [hcast] at c1 c2
        clear ih t cut
        go_enter Tryd.func53, Tryd.ntmps53
        go_wp2_with (first
          | (go_at_call 77; refine (hs _).mono ?_; rintro r0 w0 ⟨rfl, h0⟩; have h0 := h0.symm; subst h0)
          | (go_at_call 53; refine c1.mono ?_; rintro r1 w1 ⟨v1, rfl, hO1, hw1⟩)
          | (go_at_call 78; refine (c2 _ hw1).mono ?_; rintro r2 w2 ⟨rfl, hw2⟩; obtain ⟨v3, w3, hap, hO3, hb3⟩ := append_text w2 w.heap.size v1 A r (hO1.below hw2 (Nat.le_refl _)) (by omega) (Nat.le_trans hw1.size hw2.size); rw [show sv r = Value.string ⟨r.toArray⟩ from rfl] at hap)
          | (at_builtin; go_must (refine Lib.wpList_append_run _ rfl _ _ 28 28 rfl _ _ rfl rfl _ _ hap ?_)))
        go_ret
        exact ⟨_, rfl, hO3, (hw1.trans (hw2.mono hw1.size)).trans hb3⟩
      · have b0 : ¬ (m : Int) ≤ (k : Int) := by omega
        have cut := Tree.proof_right (m := m) (l := Til.sg L b e) (whole := wh) h1 (by omega) (by rw [ln, hn, hk.out]; exact hmk)
        rw [ln, hn, hk.out, Til.sg_take (by omega), Til.sg_drop, ← hmid] at cut
        have hcast2 : ((m - k : Nat) : Int) = (m : Int) - (k : Int) := by omega
        have c1 := ih mid e (m - k) false w t (by omega) (by omega) (by omega) (by omega) h4
        have lm : (Til.sg L mid e).length = e - mid := Til.sg_len h4
        have hpl := Tree.proof_length _ (m - k) (Til.sg L mid e) false (Nat.le_refl _) (by omega) (by omega)
        have c2 := fun w' (hb : Below w.heap.size w w') => part11_any (t.below hb) b mid (by omega) (by omega) _ rfl
        rw [cut]
        generalize Tree.proof (m - k) (Til.sg L mid e) false = A at *
        generalize Tree.root (Til.sg L b mid) = r at *
        rw [hcast2] at c1
        simp only [show sv r = Value.string ⟨r.toArray⟩ from rfl] at c2
        simp only [hcast] at c1 c2
        clear ih t cut
        go_enter Tryd.func53, Tryd.ntmps53
        go_wp2_with (first
          | (go_at_call 77; refine (hs _).mono ?_; rintro r0 w0 ⟨rfl, h0⟩; have h0 := h0.symm; subst h0)
          | (go_at_call 53; refine c1.mono ?_; rintro r1 w1 ⟨v1, rfl, hO1, hw1⟩)
          | (go_at_call 78; refine (c2 _ hw1).mono ?_; rintro r2 w2 ⟨rfl, hw2⟩; obtain ⟨v3, w3, hap, hO3, hb3⟩ := append_text w2 w.heap.size v1 A r (hO1.below hw2 (Nat.le_refl _)) (by omega) (Nat.le_trans hw1.size hw2.size); rw [show sv r = Value.string ⟨r.toArray⟩ from rfl] at hap)
          | (at_builtin; go_must (refine Lib.wpList_append_run _ rfl _ _ 28 28 rfl _ _ rfl rfl _ _ hap ?_)))
        go_ret
        exact ⟨_, rfl, hO3, (hw1.trans (hw2.mono hw1.size)).trans hb3⟩
/-- the lists of S1, S2 -/
def incL (L : List (List UInt8)) (n i : Int) : List (List UInt8) := if incE L n i = 0 then Tree.path i.toNat (L.take n.toNat) else []
def conL (L : List (List UInt8)) (m n : Int) : List (List UInt8) := if conE L m n = 0 then Tree.proof m.toNat (L.take n.toNat) true else []
theorem sg_zero (L : List (List UInt8)) (n : Nat) : Til.sg L 0 n = L.take n := by unfold Til.sg; rw [List.drop_zero]
theorem Out2.none (w : World) (c : Int) : Out2 w ([], c) (.returned (.tuple #[.slice none 0 0, .int .i64 c])) w := ⟨_, rfl, Own.nil _ _, Below.refl _ _⟩
set_option maxRecDepth 100000 in
set_option maxHeartbeats 400000 in
theorem rInc11_any {w : World} {q h : Nat} {L : List (List UInt8)} {F : Nat → Prop} (t : RtL w q h L F) (n i : Int) :
    Calls Tryd.prog 25 #[.pointer (some ⟨q, 0, none⟩), .int .i64 n, .int .i64 i] w (Out2 w (incL L n i, incE L n i)) := by
  obtain ⟨a, c, r1, _, _, _, _, _, _⟩ := t.open
  have c1 : w.cell? ⟨q, 1, none⟩ = some (.slice a L.length c) := by rw [cell_of_row _ _ _ _ _ _ r1]; rfl
  by_cases h1 : 0 ≤ n ∧ n ≤ (L.length : Int)
  · have x1 : ¬ n < 0 := by omega
    have x2 : ¬ (L.length : Int) < n := by omega
    by_cases h2 : 0 ≤ i ∧ i < n
    · have x3 : ¬ i < 0 := by omega
      have x4 : ¬ n ≤ i := by omega
      obtain ⟨N, rfl⟩ : ∃ N : Nat, n = (N : Int) := ⟨n.toNat, by omega⟩
      obtain ⟨I, rfl⟩ : ∃ I : Nat, i = (I : Int) := ⟨i.toNat, by omega⟩
      have eE : incE L (N : Int) (I : Int) = 0 := by unfold incE; rw [if_pos h1, if_pos h2]
      have eL : incL L (N : Int) (I : Int) = Tree.path I (L.take N) := by unfold incL; rw [if_pos eE, Int.toNat_natCast, Int.toNat_natCast]
      rw [eE, eL]
      have i1 := rpath11_any N 0 N I w t (by omega) (Nat.zero_le _) (by omega) (by omega)
      rw [Nat.sub_zero, sg_zero] at i1
      generalize Tree.path I (L.take N) = A at *
      generalize L.length = m at *
      clear t r1 eE eL
      go_enter Tryd.func25, Tryd.ntmps25
      go_wp2_with (go_at_call 52; refine i1.mono ?_; rintro r w1 ⟨v1, rfl, hO1, hw1⟩)
      go_ret2
      exact ⟨_, rfl, hO1, hw1⟩
    · have eE : incE L n i = 110 := by unfold incE; rw [if_pos h1, if_neg h2]
      have eL : incL L n i = [] := by unfold incL; rw [if_neg (by rw [eE]; decide)]
      rw [eE, eL]
      have fin := Out2.none w 110
      generalize L.length = m at *
      clear t r1 eE eL
      by_cases h3 : i < 0
      · go_enter Tryd.func25, Tryd.ntmps25
        go_wp2
        go_ret2
        exact fin
      · have h4 : n ≤ i := by omega
        go_enter Tryd.func25, Tryd.ntmps25
        go_wp2
        go_ret2
        exact fin
  · have eE : incE L n i = 111 := by unfold incE; rw [if_neg h1]
    have eL : incL L n i = [] := by unfold incL; rw [if_neg (by rw [eE]; decide)]
    rw [eE, eL]
    have fin := Out2.none w 111
    generalize L.length = m at *
    clear t r1 eE eL
    by_cases h3 : n < 0
    · go_enter Tryd.func25, Tryd.ntmps25
      go_wp2
      go_ret2
      exact fin
    · have h4 : (m : Int) < n := by omega
      go_enter Tryd.func25, Tryd.ntmps25
      go_wp2
      go_ret2
      exact fin
set_option maxRecDepth 100000 in
set_option maxHeartbeats 400000 in
theorem rCon11_any {w : World} {q h : Nat} {L : List (List UInt8)} {F : Nat → Prop} (t : RtL w q h L F) (m n : Int) :
    Calls Tryd.prog 26 #[.pointer (some ⟨q, 0, none⟩), .int .i64 m, .int .i64 n] w (Out2 w (conL L m n, conE L m n)) := by
  obtain ⟨a, c, r1, _, _, _, _, _, _⟩ := t.open
  have c1 : w.cell? ⟨q, 1, none⟩ = some (.slice a L.length c) := by rw [cell_of_row _ _ _ _ _ _ r1]; rfl
  by_cases h1 : 0 ≤ n ∧ n ≤ (L.length : Int) ∧ 1 ≤ m ∧ m ≤ n
  · have x1 : ¬ n < 0 := by omega
    have x2 : ¬ (L.length : Int) < n := by omega
    have x3 : ¬ m < 1 := by omega
    have x4 : ¬ n < m := by omega
    obtain ⟨N, rfl⟩ : ∃ N : Nat, n = (N : Int) := ⟨n.toNat, by omega⟩
    obtain ⟨M, rfl⟩ : ∃ M : Nat, m = (M : Int) := ⟨m.toNat, by omega⟩
    have eE : conE L (M : Int) (N : Int) = 0 := by unfold conE; rw [if_pos h1]
    have eL : conL L (M : Int) (N : Int) = Tree.proof M (L.take N) true := by unfold conL; rw [if_pos eE, Int.toNat_natCast, Int.toNat_natCast]
    rw [eE, eL]
    have i1 := rproof11_any N 0 N M true w t (by omega) (by omega) (by omega) (by omega) (by omega)
    rw [sg_zero] at i1
    generalize Tree.proof M (L.take N) true = A at *
    generalize L.length = k at *
    clear t r1 eE eL
    go_enter Tryd.func26, Tryd.ntmps26
    go_wp2_with (go_at_call 53; refine i1.mono ?_; rintro r w1 ⟨v1, rfl, hO1, hw1⟩)
    go_ret2
    exact ⟨_, rfl, hO1, hw1⟩
  · have eE : conE L m n = 111 := by unfold conE; rw [if_neg h1]
    have eL : conL L m n = [] := by unfold conL; rw [if_neg (by rw [eE]; decide)]
    rw [eE, eL]
    have fin := Out2.none w 111
    generalize L.length = k at *
    clear t r1 eE eL
    by_cases h3 : n < 0
    · go_enter Tryd.func26, Tryd.ntmps26
      go_wp2
      go_ret2
      exact fin
    · by_cases h4 : (k : Int) < n
      · go_enter Tryd.func26, Tryd.ntmps26
        go_wp2
        go_ret2
        exact fin
      · by_cases h5 : m < 1
        · go_enter Tryd.func26, Tryd.ntmps26
          go_wp2
          go_ret2
          exact fin
        · have h6 : n < m := by omega
          go_enter Tryd.func26, Tryd.ntmps26
          go_wp2
          go_ret2
          exact fin
end Go.Proofs.YtkiibcfjjplkaaaDoor
