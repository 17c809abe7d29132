import Derived.Test.YtkiibcfjjplkaaaDoorCTL15
import Derived.Test.YtkiibcfjjplkaaaDoorCSP10
import Derived.Test.YtkiibcfjjplkaaaDoorCO7
import Derived.Test.YtkiibcfjjplkaaaDoorCEX3
import Derived.Test.YtkiibcfjjplkaaaDoorCO16
import Derived.Test.YtkiibcfjjplkaaaDoorCO23
import Derived.Test.YtkiibcfjjplkaaaDoorCO9
import Derived.Test.YtkiibcfjjplkaaaDoorCK3
namespace Go.Proofs.YtkiibcfjjplkaaaDoor
open Go.RowKit Go.Shelf
theorem OwnP.at11 {w : World} {a : Option Addr} {c n : Nat} {l : List (Nat × Nat)} (h : OwnP w (.slice a n c) l) {j : Nat} {s : Nat × Nat} (hj : l[j]? = some s) : ∃ g, a = some ⟨g, 0, none⟩ ∧ g < w.heap.size ∧ w.cell? ⟨g, j * 2, none⟩ = some (.int .i64 (s.1 : Int)) ∧ w.cell? ⟨g, j * 2 + 1, none⟩ = some (.int .i64 (s.2 : Int)) := by
  obtain ⟨g, cap, e, c0, hg⟩ := h.cell (prs_get hj).1
  obtain ⟨g', cap', e', c1, _⟩ := h.cell (prs_get hj).2
  injection e with e
  injection e' with e'
  rw [e] at e'
  injection e' with e'
  injection e' with e'
  subst e'
  exact ⟨g, e, hg, c0, c1⟩
/-- hashes of some subtrees -/
def hsh (L : List (List UInt8)) (S : List (Nat × Nat)) : List (List UInt8) := S.map fun s => Tree.root (Til.sg L s.1 s.2)
theorem hsh_len (L : List (List UInt8)) (S : List (Nat × Nat)) : (hsh L S).length = S.length := by simp [hsh]
/-- the first k are there -/
def hpre (L : List (List UInt8)) (S : List (Nat × Nat)) (k : Nat) : List (List UInt8) := hsh L (S.take k) ++ List.replicate (S.length - k) []
theorem hpre_zero (L : List (List UInt8)) (S : List (Nat × Nat)) : hpre L S 0 = List.replicate S.length [] := by simp [hpre, hsh]
theorem hpre_all (L : List (List UInt8)) (S : List (Nat × Nat)) : hpre L S S.length = hsh L S := by simp [hpre]
theorem hpre_len (L : List (List UInt8)) (S : List (Nat × Nat)) {k : Nat} (hk : k ≤ S.length) : (hpre L S k).length = S.length := by
  rw [hpre, List.length_append, hsh_len, List.length_take, List.length_replicate]; omega
theorem hpre_set (L : List (List UInt8)) (S : List (Nat × Nat)) {k : Nat} (hk : k < S.length) : (hpre L S k).set k (Tree.root (Til.sg L S[k].1 S[k].2)) = hpre L S (k + 1) := by
  have e1 : (hsh L (S.take k)).length = k := by rw [hsh_len, List.length_take]; omega
  rw [hpre, List.set_append_right _ _ (by omega), e1, Nat.sub_self, hpre]
  rw [show S.length - k = (S.length - (k + 1)) + 1 from by omega, List.replicate_succ, List.set_cons_zero]
  rw [show S.take (k + 1) = S.take k ++ [S[k]] from by rw [List.take_add_one, List.getElem?_eq_getElem hk]; rfl]
  rw [hsh, hsh, List.map_append, List.append_assoc]
  rfl
set_option maxRecDepth 100000 in
set_option maxHeartbeats 2000000 in
theorem had_any {w : World} {q h : Nat} {L : List (List UInt8)} {F : Nat → Prop} (t : TrL w q h L F) (n : Int) (b : Bool) (hb : b = decide (0 ≤ n ∧ n ≤ (L.length : Int))) :
    Calls Tryd.prog 32 #[.pointer (some ⟨q, 0, none⟩), .int .i64 n] w fun r w' => r = .returned (.bool b) ∧ w' = w := by
  have i1 := tSizeL t
  obtain ⟨m, hm⟩ : ∃ m, Hid (L.length = m) := ⟨_, rfl⟩
  rw [hm.out] at i1 hb
  by_cases h0 : 0 ≤ n
  · by_cases h1 : n ≤ (m : Int)
    · obtain rfl : b = true := by rw [hb]; exact decide_eq_true ⟨h0, h1⟩
      clear hb t
      go_enter Tryd.func32, Tryd.ntmps32
      go_wp2_with (go_at_call 8; refine i1.mono ?_; rintro r w1 ⟨rfl, h0⟩; have h0 := h0.symm; subst h0)
      go_ret
      exact ⟨rfl, rfl⟩
    · obtain rfl : b = false := by rw [hb]; exact decide_eq_false (fun h => h1 h.2)
      clear hb t
      go_enter Tryd.func32, Tryd.ntmps32
      go_wp2_with (go_at_call 8; refine i1.mono ?_; rintro r w1 ⟨rfl, h0⟩; have h0 := h0.symm; subst h0)
      go_ret
      exact ⟨congrArg (fun x => Ending.returned (.bool x)) (decide_eq_false (by omega)), rfl⟩
  · obtain rfl : b = false := by rw [hb]; exact decide_eq_false (fun h => h0 h.1)
    clear hb t
    go_enter Tryd.func32, Tryd.ntmps32
    go_wp2
    go_ret
    exact ⟨rfl, rfl⟩
set_option maxRecDepth 100000 in
set_option maxHeartbeats 2000000 in
theorem hashes11_any {w : World} {q h : Nat} {L : List (List UInt8)} {F : Nat → Prop} (t : TrL w q h L F) (Z : Tb w) (S : List (Nat × Nat)) (v : Value) (hv : OwnP w v S) (hS : ∀ s ∈ S, s.1 ≤ s.2 ∧ s.2 ≤ L.length) (hl : S.length ≤ 2000000) :
    Calls Tryd.prog 33 #[v, .func (.func 14) #[.pointer (some ⟨q, 0, none⟩)] #[]] w fun r w' => r = .returned (.slice (some ⟨w.heap.size, 0, none⟩) S.length S.length) ∧ Row w' w.heap.size (hsh L S) ∧ Below w.heap.size w w' := by
  obtain ⟨a, c, rfl, hc1, hc2⟩ := hv.shape
  have mk := make_texts w S.length (by omega)
  have A0 := hid hv
  have HT := hid t
  have HZ := hid Z
  have HS := hid hS
  have hT := Z.lt
  obtain ⟨n, hn⟩ : ∃ n, S.length = n := ⟨_, rfl⟩
  have HN := hid hn
  rw [hn] at mk hl hc1 ⊢
  have R0 : Hid (Row (w.alloc (.cells (svs (List.replicate n [])).toArray 9)) w.heap.size (hpre L S 0)) := by
    have := heap_alloc_new w (.cells (svs (List.replicate n [])).toArray 9)
    unfold Hid Row
    rw [hpre_zero, hn]
    exact this
  have B0 := hid ((Below.refl w.heap.size w).alloc (Nat.le_refl _) (.cells (svs (List.replicate n [])).toArray 9))
  clear t Z hS hv hn
  go_enter Tryd.func33, Tryd.ntmps33
  go_wp2
  go_loopw [6, 7, 13] (fun _ _ i w' => ∃ k : Nat, k ≤ n ∧ i = .int .i64 (k : Int) ∧ Hid (Row w' w.heap.size (hpre L S k)) ∧ Hid (Below w.heap.size w w')) (fun _ _ i _ => n - (intOf i).toNat)
  case atStart => exact ⟨0, by omega, rfl, R0, B0⟩
  case round =>
    clear R0 B0
    obtain ⟨k, hk, rfl, hR, hB⟩ := hrel
    by_cases hkn : k < n
    · have b0 : (k : Int) < (n : Int) := by omega
      have j0 : (0 : Int) ≤ (k : Int) := by omega
      have hkS : k < S.length := by rw [HN.out]; exact hkn
      obtain ⟨g, rfl, hg, c0, c1⟩ := OwnP.at11 (A0.out.below hB.out) (List.getElem?_eq_getElem hkS)
      have hs := HS.out S[k] (List.getElem_mem hkS)
      have hset := hid (hpre_set L S hkS)
      have hlen := hpre_len L S (Nat.le_of_lt hkS)
      have HX : Hid (tPartO L (S[k].1 : Int) (S[k].2 : Int) = (Tree.root (Til.sg L S[k].1 S[k].2), 0)) := tPartO_nat hs.1 hs.2
      have hbs := (Below.refl wr.heap.size wr).alloc (Nat.le_refl _) (.cells #[.int .i64 (S[k].1 : Int), .int .i64 (S[k].2 : Int)] 38)
      have s0 := SpI.new wr (S[k].1 : Int) (S[k].2 : Int)
      have sc0 := s0.c0
      have sc1 := s0.c1
      have b1 := hB.out.trans (hbs.mono hB.out.size)
      have R1 := hR.out.below hbs hR.out.lt
      have i1 := tPart_any (HT.out.below b1) (S[k].1 : Int) (S[k].2 : Int) (HZ.out.below b1 hT) HX
      generalize (S[k].1 : Int) = x0 at *
      generalize (S[k].2 : Int) = x1 at *
      generalize Tree.root (Til.sg L S[k].1 S[k].2) = r at *
      rw [show sv r = Value.string ⟨r.toArray⟩ from rfl] at i1
      have B1 := hid b1
      have HR1 := hid R1
      clear hs HX hbs s0 hR hB b1 R1
      go_wp2_with (go_at_call 14; refine i1.mono ?_; rintro e w2 ⟨rfl, b2⟩; have B2 := hid b2; have R2 := hid (HR1.out.below b2 HR1.out.lt); clear b2; have f2 := R2.out.free (j := k) (by rw [hlen, HN.out]; exact hkn); have d2 := R2.out.cell (List.getElem?_eq_getElem (show k < (hpre L S k).length by rw [hlen, HN.out]; exact hkn)))
      refine ⟨⟨k + 1, by omega, by go_num, ?_, ?_⟩, by simp [intOf]; omega⟩
      · have := R2.out.set k r
        rw [hset.out] at this
        exact this
      · exact Below.setCell (p := ⟨w.heap.size, k, none⟩) (B1.out.trans (B2.out.mono B1.out.size)) (Nat.le_refl _) _
    · obtain rfl : k = n := by omega
      have b0 : ¬ (k : Int) < (k : Int) := by omega
      go_wp2
      go_ret
      have := hR.out
      rw [← HN.out, hpre_all] at this
      exact ⟨rfl, this, hB.out⟩
end Go.Proofs.YtkiibcfjjplkaaaDoor

namespace Go.Proofs.YtkiibcfjjplkaaaDoor
open Go.RowKit Go.Shelf
theorem pth_in : ∀ (f b n i : Nat), ∀ s ∈ Tree.pthF f b n i, b ≤ s.1 ∧ s.1 ≤ s.2 ∧ s.2 ≤ b + n
  | 0, b, n, i, s, h => by cases h
  | f + 1, b, n, i, s, h => by
    by_cases h2 : n < 2
    · rw [Tree.pthF_small h2] at h; cases h
    · have s1 := Tree.sp_lt (n := n) (by omega)
      have s2 := Tree.sp_pos (n := n) (by omega)
      by_cases hi : i < b + Tree.sp n
      · rw [Tree.pthF_left (by omega) hi] at h
        rcases List.mem_append.1 h with h | h
        · have := pth_in f b (Tree.sp n) i s h
          omega
        · obtain rfl := List.mem_singleton.1 h
          exact ⟨by show b ≤ b + Tree.sp n; omega, by show b + Tree.sp n ≤ b + n; omega, by show b + n ≤ b + n; omega⟩
      · rw [Tree.pthF_right (by omega) hi] at h
        rcases List.mem_append.1 h with h | h
        · have := pth_in f (b + Tree.sp n) (n - Tree.sp n) i s h
          omega
        · obtain rfl := List.mem_singleton.1 h
          exact ⟨by show b ≤ b; omega, by show b ≤ b + Tree.sp n; omega, by show b + Tree.sp n ≤ b + n; omega⟩
theorem prf_in : ∀ (f b n m : Nat), 1 ≤ n → b < m → m ≤ b + n → ∀ s ∈ Tree.prfF f b n m, b ≤ s.1 ∧ s.1 ≤ s.2 ∧ s.2 ≤ b + n
  | 0, b, n, m, _, _, _, s, h => by cases h
  | f + 1, b, n, m, h1, hm, hm2, s, h => by
    rw [Tree.prfF] at h
    by_cases h2 : b + n = m
    · rw [if_pos h2] at h
      by_cases hb : b = 0
      · rw [if_pos hb] at h; cases h
      · rw [if_neg hb] at h
        obtain rfl := List.mem_singleton.1 h
        exact ⟨by show b ≤ b; omega, by show b ≤ b + n; omega, by show b + n ≤ b + n; omega⟩
    · rw [if_neg h2] at h
      have s1 := Tree.sp_lt (n := n) (by omega)
      have s2 := Tree.sp_pos (n := n) (by omega)
      by_cases hi : m ≤ b + Tree.sp n
      · rw [if_pos hi] at h
        rcases List.mem_append.1 h with h | h
        · have := prf_in f b (Tree.sp n) m (by omega) hm hi s h
          omega
        · obtain rfl := List.mem_singleton.1 h
          exact ⟨by show b ≤ b + Tree.sp n; omega, by show b + Tree.sp n ≤ b + n; omega, by show b + n ≤ b + n; omega⟩
      · rw [if_neg hi] at h
        rcases List.mem_append.1 h with h | h
        · have := prf_in f (b + Tree.sp n) (n - Tree.sp n) m (by omega) (by omega) (by omega) s h
          omega
        · obtain rfl := List.mem_singleton.1 h
          exact ⟨by show b ≤ b; omega, by show b ≤ b + Tree.sp n; omega, by show b + Tree.sp n ≤ b + n; omega⟩
theorem pthF_short : ∀ (f b n i : Nat), (Tree.pthF f b n i).length ≤ f
  | 0, b, n, i => by simp [Tree.pthF]
  | f + 1, b, n, i => by
    rw [Tree.pthF]
    split
    · simp
    · split
      · rw [List.length_append]; have := pthF_short f b (Tree.sp n) i; simp; omega
      · rw [List.length_append]; have := pthF_short f (b + Tree.sp n) (n - Tree.sp n) i; simp; omega
theorem prfF_short : ∀ (f b n m : Nat), (Tree.prfF f b n m).length ≤ f + 1
  | 0, b, n, i => by simp [Tree.prfF]
  | f + 1, b, n, m => by
    rw [Tree.prfF]
    split
    · split <;> simp
    · split
      · rw [List.length_append]; have := prfF_short f b (Tree.sp n) m; simp; omega
      · rw [List.length_append]; have := prfF_short f (b + Tree.sp n) (n - Tree.sp n) m; simp; omega
theorem hsh_path (L : List (List UInt8)) {n i : Nat} (hi : i < n) (hn : n ≤ L.length) : hsh L (Tree.pthF n 0 n i) = Tree.path i (L.take n) := by
  have e := Tree.pthF_hash L n 0 n i (Nat.le_refl _) (Nat.zero_le _) (by omega) (by omega)
  rw [Nat.zero_add, Nat.sub_zero] at e
  exact e
theorem hsh_proof (L : List (List UInt8)) {m n : Nat} (h1 : 1 ≤ m) (h2 : m ≤ n) (hn : n ≤ L.length) : hsh L (Tree.prfF n 0 n m) = Tree.proof m (L.take n) true := by
  have e := Tree.prfF_hash L n 0 n m (Nat.le_refl _) (by omega) (by omega) (by omega)
  rw [Nat.zero_add, Nat.sub_zero] at e
  exact e
/-- S1 -/
def incE (L : List (List UInt8)) (n i : Int) : Int := if 0 ≤ n ∧ n ≤ (L.length : Int) then (if 0 ≤ i ∧ i < n then 0 else 110) else 111
/-- S2 -/
def conE (L : List (List UInt8)) (m n : Int) : Int := if 0 ≤ n ∧ n ≤ (L.length : Int) ∧ 1 ≤ m ∧ m ≤ n then 0 else 111
/-- a list comes out, new, and no error -/
def RwP (w : World) (l : List (List UInt8)) (r : Ending) (w' : World) : Prop := ∃ g, r = .returned (.tuple #[.slice (some ⟨g, 0, none⟩) l.length l.length, .int .i64 0]) ∧ Row w' g l ∧ w.heap.size ≤ g ∧ Below w.heap.size w w'
set_option maxRecDepth 100000 in
set_option maxHeartbeats 2000000 in
theorem inc11_sp {w : World} {q h : Nat} {L : List (List UInt8)} {F : Nat → Prop} (t : TrL w q h L F) (Z : Tb w) (n i : Nat) (hi : i < n) (hn : n ≤ L.length) :
    Calls Tryd.prog 10 #[.pointer (some ⟨q, 0, none⟩), .int .i64 (n : Int), .int .i64 (i : Int)] w (RwP w (hsh L (Tree.pthF n 0 n i))) := by
  have i1 := had_any t (n : Int) true (by rw [decide_eq_true ⟨by omega, by omega⟩])
  have hn20 := t.n20
  have i2 := path8_any (n : Int) (i : Int) w
  have eE : pathE (n : Int) (i : Int) = 0 := by unfold pathE; rw [if_pos ⟨by omega, by omega⟩, if_pos ⟨by omega, by omega⟩]
  have eL : pathL (n : Int) (i : Int) = Tree.pthF n 0 n i := by unfold pathL; rw [if_pos eE, Int.toNat_natCast, Int.toNat_natCast]
  rw [eE, eL] at i2
  have j3 := fun (w' : World) (v : Value) (hb : Below w.heap.size w w') (ho : OwnP w' v (Tree.pthF n 0 n i)) => hashes11_any (t.below hb) (Z.below hb Z.lt) (Tree.pthF n 0 n i) v ho (fun s hs => by have := pth_in n 0 n i s hs; omega) (Nat.le_trans (pthF_short n 0 n i) (by omega))
  have el := hsh_len L (Tree.pthF n 0 n i)
  generalize hsh L (Tree.pthF n 0 n i) = R at *
  generalize Tree.pthF n 0 n i = S at *
  have c0 : ¬ (i : Int) < 0 := by omega
  have c1 : ¬ (n : Int) ≤ (i : Int) := by omega
  have c2 : (i : Int) < (n : Int) := by omega
  clear t Z eE eL hn hi hn20
  go_enter Tryd.func10, Tryd.ntmps10
  go_wp2_with (first
    | (go_at_call 32; refine i1.mono ?_; rintro r w1 ⟨rfl, h0⟩; have h0 := h0.symm; subst h0)
    | (go_at_call 11; fail))
  refine i2.mono ?_
  rintro r w2 ⟨b2, v2, rfl, o2, f2⟩
  have i3 := j3 w2 v2 b2 o2
  have B2 := hid b2
  have hmf : ∀ (fn : Fn) (first cap : Array Value) (w : World), (Instr.makeFunc fn first cap).run Tryd.prog w = .ok (.func fn first cap) w := fun _ _ _ _ => rfl
  clear j3 o2 f2 b2
  go_wp2_with (go_at_call 33; refine i3.mono ?_; rintro r w3 ⟨rfl, R3, b3⟩)
  go_ret2
  exact ⟨_, by rw [el]; rfl, R3, B2.out.size, B2.out.trans (b3.mono B2.out.size)⟩
set_option maxRecDepth 100000 in
set_option maxHeartbeats 2000000 in
theorem con11_sp {w : World} {q h : Nat} {L : List (List UInt8)} {F : Nat → Prop} (t : TrL w q h L F) (Z : Tb w) (m n : Nat) (h1 : 1 ≤ m) (h2 : m ≤ n) (hn : n ≤ L.length) :
    Calls Tryd.prog 12 #[.pointer (some ⟨q, 0, none⟩), .int .i64 (m : Int), .int .i64 (n : Int)] w (RwP w (hsh L (Tree.prfF n 0 n m))) := by
  have i1 := had_any t (n : Int) true (by rw [decide_eq_true ⟨by omega, by omega⟩])
  have hn20 := t.n20
  have i2 := proof8_any (m : Int) (n : Int) w
  have eE : proofE (m : Int) (n : Int) = 0 := by unfold proofE; rw [if_pos ⟨by omega, by omega, by omega⟩]
  have eL : proofL (m : Int) (n : Int) = Tree.prfF n 0 n m := by unfold proofL; rw [if_pos eE, Int.toNat_natCast, Int.toNat_natCast]
  rw [eE, eL] at i2
  have j3 := fun (w' : World) (v : Value) (hb : Below w.heap.size w w') (ho : OwnP w' v (Tree.prfF n 0 n m)) => hashes11_any (t.below hb) (Z.below hb Z.lt) (Tree.prfF n 0 n m) v ho (fun s hs => by have := prf_in n 0 n m (by omega) (by omega) (by omega) s hs; omega) (Nat.le_trans (prfF_short n 0 n m) (by omega))
  have el := hsh_len L (Tree.prfF n 0 n m)
  generalize hsh L (Tree.prfF n 0 n m) = R at *
  generalize Tree.prfF n 0 n m = S at *
  have c0 : ¬ (m : Int) < 1 := by omega
  have c1 : ¬ (n : Int) < (m : Int) := by omega
  clear t Z eE eL hn h1 h2 hn20
  go_enter Tryd.func12, Tryd.ntmps12
  go_wp2_with (first
    | (go_at_call 32; refine i1.mono ?_; rintro r w1 ⟨rfl, h0⟩; have h0 := h0.symm; subst h0)
    | (go_at_call 13; fail))
  refine i2.mono ?_
  rintro r w2 ⟨b2, v2, rfl, o2, f2⟩
  have i3 := j3 w2 v2 b2 o2
  have B2 := hid b2
  have hmf : ∀ (fn : Fn) (first cap : Array Value) (w : World), (Instr.makeFunc fn first cap).run Tryd.prog w = .ok (.func fn first cap) w := fun _ _ _ _ => rfl
  clear j3 o2 f2 b2
  go_wp2_with (go_at_call 33; refine i3.mono ?_; rintro r w3 ⟨rfl, R3, b3⟩)
  go_ret2
  exact ⟨_, by rw [el]; rfl, R3, B2.out.size, B2.out.trans (b3.mono B2.out.size)⟩
theorem inc11_ok {w : World} {q h : Nat} {L : List (List UInt8)} {F : Nat → Prop} (t : TrL w q h L F) (Z : Tb w) (n i : Nat) (hi : i < n) (hn : n ≤ L.length) :
    Calls Tryd.prog 10 #[.pointer (some ⟨q, 0, none⟩), .int .i64 (n : Int), .int .i64 (i : Int)] w (RwP w (Tree.path i (L.take n))) := by
  rw [← hsh_path L hi hn]; exact inc11_sp t Z n i hi hn
theorem con11_ok {w : World} {q h : Nat} {L : List (List UInt8)} {F : Nat → Prop} (t : TrL w q h L F) (Z : Tb w) (m n : Nat) (h1 : 1 ≤ m) (h2 : m ≤ n) (hn : n ≤ L.length) :
    Calls Tryd.prog 12 #[.pointer (some ⟨q, 0, none⟩), .int .i64 (m : Int), .int .i64 (n : Int)] w (RwP w (Tree.proof m (L.take n) true)) := by
  rw [← hsh_proof L h1 h2 hn]; exact con11_sp t Z m n h1 h2 hn
end Go.Proofs.YtkiibcfjjplkaaaDoor

namespace Go.Proofs.YtkiibcfjjplkaaaDoor
open Go.RowKit Go.Shelf
set_option maxRecDepth 100000 in
set_option maxHeartbeats 4000000 in
/-- a tree of some leaves of raw numbers -/
theorem filled11_any (ht : Int) (cs : List Int) (a : Option Addr) (ca : Nat) (w : World) (h1 : -9223372036854775808 ≤ ht) (h2 : ht ≤ 9223372036854775807) (hcs : cs.length ≤ 9223372036854775807) (hA : AtI w a cs) (Z : Tb w) :
    Calls Tryd.prog 7 #[.int .i64 ht, .slice a cs.length ca] w fun e w' => ∃ (q h : Nat) (F : Nat → Prop), e = .returned (.pointer (some ⟨q, 0, none⟩)) ∧ (h : Int) = 1 + pk ht 8 ∧ TrL w' q h (nums cs 300) F ∧ (∀ k, F k → w.heap.size ≤ k) ∧ Below w.heap.size w w' := by
  have HZ := hid Z
  have HA := hid hA
  have hT := Z.lt
  clear Z hA
  have p0 := pk_nonneg ht 8 (by omega)
  have p1 := pk_lt ht 8 (by omega)
  have i1 := pick_any ht 8 h1 h2 (by omega) (by omega) w
  obtain ⟨h, hh⟩ : ∃ h : Nat, (h : Int) = 1 + pk ht 8 := ⟨(1 + pk ht 8).toNat, by omega⟩
  have s1 : IntKind.i64.wrap (1 + pk ht 8) = (h : Int) := by rw [wrap_small _ (by omega) (by omega)]; omega
  have new := tNew_any h (by omega) (by omega) w hT
  have HH := hid hh
  generalize pk ht 8 = p at *
  obtain ⟨n, hn⟩ : ∃ n : Nat, Hid (cs.length = n) := ⟨_, rfl⟩
  rw [hn.out] at hcs ⊢
  clear hh p0 p1
  go_enter Tryd.func7, Tryd.ntmps7
  go_wp2_with (go_at_call 9; refine i1.mono ?_; rintro e w0 ⟨rfl, h0⟩; have h0 := h0.symm; subst h0)
  go_wp2_with (go_at_call 30; fail)
  refine new.mono ?_
  rintro e w1 ⟨q, F1, rfl, E1, hF1, B1⟩
  have E1 := hid E1
  have B1 := hid B1
  have hF1 := hid hF1
  clear new i1 s1
  go_wp2
  go_loopw [7, 8] (fun i _ w' => ∃ (k : Nat) (F : Nat → Prop), k ≤ n ∧ k ≤ 300 ∧ i = .int .i64 (k : Int) ∧ Hid (TrL w' q h (nums cs k) F) ∧ Hid (∀ k, F k → w.heap.size ≤ k) ∧ Hid (Below w.heap.size w w')) (fun i _ _ => 300 - (intOf i).toNat)
  case atStart => exact ⟨0, F1, by omega, by omega, rfl, E1, hF1, B1⟩
  case round =>
    clear E1 B1 hF1
    obtain ⟨k, F, hk, hkM, rfl, hE, hF, hB⟩ := hrel
    by_cases hkn : k < n ∧ k < 300
    · obtain ⟨g1, g2⟩ := hkn
      have b0 : (k : Int) < (n : Int) := by omega
      have b1 : (k : Int) < 300 := by omega
      have hkc : k < cs.length := by rw [hn.out]; exact g1
      obtain ⟨y, rfl, _, hy⟩ := (HA.out.below hB.out (Nat.le_refl _)) k cs[k] (List.getElem?_eq_getElem hkc)
      have hnx := hid (nums_succ cs k hkc)
      have hl := nums_len cs k
      generalize cs[k] = c at *
      obtain ⟨r, hr⟩ : ∃ r, Hid (lf c = r) := ⟨_, rfl⟩
      have lr : r.length = 32 := by rw [← hr.out, lf_length]
      rw [hr.out] at hnx
      go_wp2_with (go_at_call 15; fail)
      refine (lleaf_at c r hr _).mono ?_
      rintro e w2 ⟨rfl, hw2⟩
      have B2 := hid (hB.out.trans (hw2.mono hB.out.size))
      have add := tAdd_any (hE.out.below hw2) r lr (by rw [hl]; omega) (HZ.out.below B2.out hT)
      rw [← hnx.out] at add
      clear hw2 hB hE hnx hl
      go_wp2_with (go_at_call 24; fail)
      refine add.mono ?_
      rintro e w3 ⟨rfl, F3, E3, M3⟩
      obtain ⟨b3, f3⟩ := M3.below (B := w.heap.size) B2.out.size hF.out
      have B3 := hid (B2.out.trans b3)
      have E3 := hid E3
      have f3 := hid f3
      clear b3 M3 add
      go_wp2
      exact ⟨⟨k + 1, F3, by omega, by omega, by go_num, E3, f3, B3⟩, by simp [intOf]; omega⟩
    · have e : nums cs k = nums cs 300 := by
        have := hn.out
        by_cases h : k < n
        · rw [show k = 300 from by omega]
        · rw [nums, nums, List.take_of_length_le (by omega), List.take_of_length_le (by omega)]
      rw [e] at hE
      by_cases h1 : k < n
      · have b0 : (k : Int) < (n : Int) := by omega
        have b1 : ¬ (k : Int) < 300 := by omega
        go_wp2
        go_ret
        exact ⟨q, rfl, h, HH.out, F, hE.out, hF.out, hB.out⟩
      · have b0 : ¬ (k : Int) < (n : Int) := by omega
        go_wp2
        go_ret
        exact ⟨q, rfl, h, HH.out, F, hE.out, hF.out, hB.out⟩
theorem AtI.two (w : World) (x y : Int) : AtI (w.alloc (.cells #[.int .i64 x, .int .i64 y] 3)) (some ⟨w.heap.size, 0, none⟩) [x, y] := fun j p hp => by
  have r := heap_alloc_new w (.cells #[.int .i64 x, .int .i64 y] 3)
  refine ⟨_, rfl, lt_of_heap r, ?_⟩
  rw [Addr.add_mid, Nat.zero_add, cell_of_row _ _ _ _ _ _ r]
  match j, hp with
  | 0, hp => simp at hp; subst hp; rfl
  | 1, hp => simp at hp; subst hp; rfl
theorem path01 (a b : List UInt8) : Tree.path 0 ([a, b].take 2) = [b] := by
  have e := hsh_path [a, b] (n := 2) (i := 0) (by omega) (Nat.le_refl _)
  rw [← e]
  rfl
theorem proof12 (a b : List UInt8) : Tree.proof 1 ([a, b].take 2) true = [b] := by
  have e := hsh_proof [a, b] (m := 1) (n := 2) (by omega) (by omega) (Nat.le_refl _)
  rw [← e]
  rfl
theorem drewBelow11 {w w' : World} (h : Below w.drew.heap.size w.drew w') : Below w.heap.size w w' := ⟨h.os, h.tape, h.output, h.size, h.block⟩
set_option maxRecDepth 100000 in
set_option maxHeartbeats 4000000 in
theorem known11_any (w : World) (Z : Tb w) :
    Calls Tryd.prog 6 #[] w fun e w' => e = .returned (.bool true) ∧ Below w.heap.size w w' := by
  have b0 := (Below.refl w.heap.size w).alloc (Nat.le_refl _) (.cells #[.int .i64 1, .int .i64 2] 3)
  have i1 := filled11_any 0 [1, 2] (some ⟨w.heap.size, 0, none⟩) 2 _ (by omega) (by omega) (by decide) (AtI.two w 1 2) (Z.below b0 Z.lt)
  have i2 := fun w' => lleaf_at 2 (lf 2) rfl w'
  have HZ := hid Z
  have hT := Z.lt
  have B0 := hid b0
  rw [show nums [1, 2] 300 = [lf 1, lf 2] from rfl, show ([1, 2] : List Int).length = 2 from rfl] at i1
  generalize lf 1 = x at *
  generalize lf 2 = y at *
  clear Z b0
  go_enter Tryd.func6, Tryd.ntmps6
  go_wp2_with (go_at_call 7; fail)
  refine i1.mono ?_
  rintro r w1 ⟨q, h, F, rfl, _, t1, _, b1⟩
  have B1 := hid (B0.out.trans (b1.mono (by rw [size_alloc]; omega)))
  have T1 := hid t1
  clear i1 t1 b1 B0
  have j1 := inc11_ok T1.out (HZ.out.below B1.out hT) 2 0 (by omega) (Nat.le_refl _)
  rw [path01] at j1
  go_wp2_with (go_at_call 10; fail)
  refine j1.mono ?_
  rintro r w2 ⟨g2, rfl, r2, n2, b2⟩
  have B2 := hid (B1.out.trans (b2.mono B1.out.size))
  have R2 := hid r2
  have j2 := con11_ok (T1.out.below b2) (HZ.out.below B2.out hT) 1 2 (by omega) (by omega) (Nat.le_refl _)
  rw [proof12] at j2
  clear j1 r2 n2 b2 T1 B1
  go_wp2_with (go_at_call 12; fail)
  refine j2.mono ?_
  rintro r w3 ⟨g3, rfl, r3, n3, b3⟩
  have B3 := hid (B2.out.trans (b3.mono B2.out.size))
  have R2' := hid (R2.out.below b3 R2.out.lt)
  have c2 := R2'.out.cell (j := 0) (p := y) rfl
  have c3 := r3.cell (j := 0) (p := y) rfl
  have l2 := R2'.out.lt
  have l3 := r3.lt
  have hyy : ((ByteArray.mk y.toArray).toList == (ByteArray.mk y.toArray).toList) = true := by simp
  clear j2 r3 n3 b3 R2 R2' B2
  rw [show sv y = .string ⟨y.toArray⟩ from rfl] at c2 c3
  simp only [show sv y = .string ⟨y.toArray⟩ from rfl] at i2
  go_upto_region 6 with fail
  have b3 := B3
  go_region_held3 (fun w' => w'.cell? ⟨g2, 0, none⟩ = some (.string ⟨y.toArray⟩) ∧ w'.cell? ⟨g3, 0, none⟩ = some (.string ⟨y.toArray⟩)) (first | exact e7 | exact e6 | exact ⟨c2, c3⟩)
    (first
      | (go_at_call 15; have hb6 := b6; (with_reducible refine (i2 _).mono ?_); rintro r w7 ⟨rfl, b7'⟩; have b7 := b6.trans (b7'.mono b6.size); have e7 := And.intro ((b7.cell (p := ⟨g2, 0, none⟩) l2).trans c2) ((b7.cell (p := ⟨g3, 0, none⟩) l3).trans c3))
      | (go_at_call 15; (with_reducible refine (i2 _).mono ?_); rintro r w6 ⟨rfl, b6'⟩; have b6 := drewBelow11 b6'; have e6 := And.intro ((b6.cell (p := ⟨g2, 0, none⟩) l2).trans c2) ((b6.cell (p := ⟨g3, 0, none⟩) l3).trans c3)))
  all_goals
    have BE := hid (B3.out.trans (b7.mono B3.out.size))
    clear b6 b7 b6' b7' e6 e7
    go_wp2
    go_ret
    exact ⟨rfl, BE.out⟩
end Go.Proofs.YtkiibcfjjplkaaaDoor

namespace Go.Proofs.YtkiibcfjjplkaaaDoor
open Go.RowKit Go.Shelf
theorem pk_nat11 (c : Int) (n : Nat) (hn : 1 ≤ n) : ∃ k : Nat, Hid (pk c (n : Int) = (k : Int)) ∧ k < n := by
  have q0 := pk_nonneg c (n : Int) (by omega)
  have q1 := pk_lt c (n : Int) (by omega)
  exact ⟨(pk c (n : Int)).toNat, by unfold Hid; omega, by omega⟩
theorem nums_most (cs : List Int) (k : Nat) : (nums cs k).length ≤ k := by rw [nums_len]; omega
set_option maxRecDepth 100000 in
set_option maxHeartbeats 4000000 in
theorem shapes11_law (ht one two : Int) (cs : List Int) (a : Option Addr) (ca : Nat) (w : World) (h1 : -9223372036854775808 ≤ ht) (h2 : ht ≤ 9223372036854775807) (ho1 : -9223372036854775808 ≤ one) (ho2 : one ≤ 9223372036854775807) (ht1 : -9223372036854775808 ≤ two) (ht2 : two ≤ 9223372036854775807) (hcs : cs.length ≤ 9223372036854775807) (hA : AtI w a cs) (Z : Tb w) :
    Calls Tryd.prog 3 #[.int .i64 ht, .slice a cs.length ca, .int .i64 one, .int .i64 two] w fun e w' => e = .returned (.bool true) ∧ Below w.heap.size w w' := by
  have i0 := known11_any w Z
  have HZ := hid Z
  have hT := Z.lt
  have j1 := fun w' (hb : Below w.heap.size w w') => filled11_any ht cs a ca w' h1 h2 hcs (hA.below hb (Nat.le_refl _)) (Z.below hb Z.lt)
  obtain ⟨L, hL⟩ : ∃ L, nums cs 300 = L := ⟨_, rfl⟩
  have hL3 : L.length ≤ 300 := by rw [← hL]; exact nums_most cs 300
  rw [hL] at j1
  generalize cs.length = nc at *
  clear hA Z hL
  go_enter Tryd.func3, Tryd.ntmps3
  go_wp2_with (first
    | (go_at_call 6; refine i0.mono ?_; rintro r w1 ⟨rfl, b1⟩; have B1 := hid b1; clear b1 i0)
    | (go_at_call 7; fail))
  refine (j1 _ B1.out).mono ?_
  rintro r w2 ⟨q, h, F, rfl, _, t2, _, b2⟩
  have B2 := hid (B1.out.trans (b2.mono B1.out.size))
  have T2 := hid t2
  have iS := tSizeL T2.out
  obtain ⟨N, hN⟩ : ∃ N, L.length = N := ⟨_, rfl⟩
  have HN := hid hN
  rw [hN] at iS hL3
  clear j1 b2 t2 B1 hN
  by_cases hN0 : N = 0
  · subst hN0
    go_wp2_with (go_at_call 8; refine iS.mono ?_; rintro r w3 ⟨rfl, h0⟩; have h0 := h0.symm; subst h0)
    go_ret
    exact ⟨rfl, B2.out⟩
  · have n0 : ((N : Int) == 0) = false := by simp; omega
    have n0' : ¬ (N : Int) = 0 := by omega
    obtain ⟨p1, hp1, hp1'⟩ := pk_nat11 one N (by omega)
    have k1 := pick_any one (N : Int) ho1 ho2 (by omega) (by omega) w2
    rw [hp1.out] at k1
    obtain ⟨n, hn⟩ : ∃ n : Nat, n = p1 + 1 := ⟨_, rfl⟩
    have hnw : IntKind.i64.wrap (1 + (p1 : Int)) = (n : Int) := by rw [IntKind.wrap_i64]; omega
    obtain ⟨m, hm, hmn⟩ := pk_nat11 two n (by omega)
    have k2 := pick_any two (n : Int) ht1 ht2 (by omega) (by omega) w2
    rw [hm.out] at k2
    obtain ⟨m1, hm1⟩ : ∃ m1 : Nat, m1 = m + 1 := ⟨_, rfl⟩
    have hmw : IntKind.i64.wrap ((m : Int) + 1) = (m1 : Int) := by rw [IntKind.wrap_i64]; omega
    have hnL : n ≤ L.length := by rw [HN.out]; omega
    have j3 := inc11_sp T2.out (HZ.out.below B2.out hT) n m hmn hnL
    have j4 := fun w' => path8_any (n : Int) (m : Int) w'
    have eE : pathE (n : Int) (m : Int) = 0 := by unfold pathE; rw [if_pos ⟨by omega, by omega⟩, if_pos ⟨by omega, by omega⟩]
    have eL : pathL (n : Int) (m : Int) = Tree.pthF n 0 n m := by unfold pathL; rw [if_pos eE, Int.toNat_natCast, Int.toNat_natCast]
    rw [eE, eL] at j4
    have j5 := fun w' (hb : Below w2.heap.size w2 w') => con11_sp (T2.out.below hb) (HZ.out.below (B2.out.trans (hb.mono B2.out.size)) hT) m1 n (by omega) (by omega) hnL
    have j6 := fun w' => proof8_any (m1 : Int) (n : Int) w'
    have eE2 : proofE (m1 : Int) (n : Int) = 0 := by unfold proofE; rw [if_pos ⟨by omega, by omega, by omega⟩]
    have eL2 : proofL (m1 : Int) (n : Int) = Tree.prfF n 0 n m1 := by unfold proofL; rw [if_pos eE2, Int.toNat_natCast, Int.toNat_natCast]
    rw [eE2, eL2] at j6
    have BS : Hid (∀ s ∈ Tree.pthF n 0 n m, s.1 ≤ s.2 ∧ s.2 ≤ L.length) := fun s hs => by have := pth_in n 0 n m s hs; omega
    have BU : Hid (∀ s ∈ Tree.prfF n 0 n m1, s.1 ≤ s.2 ∧ s.2 ≤ L.length) := fun s hs => by have := prf_in n 0 n m1 (by omega) (by omega) (by omega) s hs; omega
    have qS := pthF_short n 0 n m
    have qU := prfF_short n 0 n m1
    generalize Tree.pthF n 0 n m = S at *
    generalize Tree.prfF n 0 n m1 = U at *
    obtain ⟨nS, hnS⟩ : ∃ nS, S.length = nS := ⟨_, rfl⟩
    obtain ⟨nU, hnU⟩ : ∃ nU, U.length = nU := ⟨_, rfl⟩
    have eS := hsh_len L S
    have eU := hsh_len L U
    rw [hnS] at eS qS
    rw [hnU] at eU qU
    have HnS := hid hnS
    have HnU := hid hnU
    have zS : ((nS : Int) != (nS : Int)) = false := by simp
    have zU : ((nU : Int) != (nU : Int)) = false := by simp
    clear eE eL eE2 eL2 hp1 hm hp1' hn hm1 hmn hnL hnS hnU ho1 ho2 ht1 ht2 h1 h2
    go_wp2_with (first
      | (go_at_call 8; refine iS.mono ?_; rintro r w3 ⟨rfl, h0⟩; have h0 := h0.symm; subst h0)
      | (go_at_call 9; (first | (with_reducible refine k1.mono ?_) | (with_reducible refine k2.mono ?_)); rintro r w3 ⟨rfl, h0⟩; have h0 := h0.symm; subst h0)
      | (go_at_call 10; fail))
    refine j3.mono ?_
    rintro r w3 ⟨g3, rfl, r3, n3, b3⟩
    rw [eS]
    have B3 := hid b3
    have R3 := hid r3
    clear j3 r3 n3 b3
    go_wp2_with (go_at_call 11; fail)
    refine (j4 _).mono ?_
    rintro r w4 ⟨b4, vs, rfl, o4, f4⟩
    have B4 := hid (B3.out.trans (b4.mono B3.out.size))
    have R4 := hid (R3.out.below b4 R3.out.lt)
    have O4 := hid o4
    obtain ⟨as', cs', es, _, _⟩ := o4.shape
    subst es
    rw [HnS.out]
    clear j4 b4 f4 o4 R3 B3
    go_wp2_with (go_at_call 12; fail)
    refine (j5 _ B4.out).mono ?_
    rintro r w5 ⟨g5, rfl, r5, n5, b5⟩
    rw [eU]
    have B5 := hid (B4.out.trans (b5.mono B4.out.size))
    have R5 := hid r5
    have R4' := hid (R4.out.below b5 R4.out.lt)
    have O4' := hid (O4.out.below b5)
    clear j5 r5 n5 b5 R4 O4 B4
    go_wp2_with (go_at_call 13; fail)
    refine (j6 _).mono ?_
    rintro r w6 ⟨b6, vu, rfl, o6, f6⟩
    have B6 := hid (B5.out.trans (b6.mono B5.out.size))
    have RU := hid (R5.out.below b6 R5.out.lt)
    have RS := hid (R4'.out.below b6 R4'.out.lt)
    have OS := hid (O4'.out.below b6)
    have OU := hid o6
    obtain ⟨au, cu, eu, _, _⟩ := o6.shape
    subst eu
    rw [HnU.out]
    have T6 := hid (T2.out.below B6.out)
    have BB := hid (B2.out.trans (B6.out.mono B2.out.size))
    have Z6 := hid (HZ.out.below BB.out hT)
    clear j6 b6 f6 o6 R5 R4' O4' B5 B6 T2 B2 HZ iS k1 k2 eS eU
    go_wp2
    go_loopw [21, 22, 23] (fun i _ _ w' => ∃ k : Nat, k ≤ nS ∧ i = .int .i64 (k : Int) ∧ Hid (Below w6.heap.size w6 w')) (fun i _ _ _ => nS - (intOf i).toNat)
    case atStart => exact ⟨0, by omega, rfl, Below.refl _ _⟩
    case round =>
      obtain ⟨k, hk, rfl, hB⟩ := hrel
      by_cases hkn : k < nS
      · have b0 : (k : Int) < (nS : Int) := by omega
        have j0 : (0 : Int) ≤ (k : Int) := by omega
        have hkS : k < S.length := by rw [HnS.out]; exact hkn
        obtain ⟨g, hg', hg, c0, c1⟩ := OwnP.at11 (OS.out.below hB.out) (List.getElem?_eq_getElem hkS)
        subst hg'
        have hs := BS.out S[k] (List.getElem_mem hkS)
        have HX : Hid (tPartO L (S[k].1 : Int) (S[k].2 : Int) = (Tree.root (Til.sg L S[k].1 S[k].2), 0)) := tPartO_nat hs.1 hs.2
        have i1 := tPart_any (T6.out.below hB.out) (S[k].1 : Int) (S[k].2 : Int) (Z6.out.below hB.out Z6.out.lt) HX
        have hcell : (hsh L S)[k]? = some (Tree.root (Til.sg L S[k].1 S[k].2)) := by unfold hsh; rw [List.getElem?_map, List.getElem?_eq_getElem hkS]; rfl
        have d0 := (RS.out.below hB.out RS.out.lt).cell hcell
        have lg : g3 < wr.heap.size := block_lt_of_cell d0
        generalize (S[k].1 : Int) = x0 at *
        generalize (S[k].2 : Int) = x1 at *
        generalize Tree.root (Til.sg L S[k].1 S[k].2) = r at *
        have hrr : ((ByteArray.mk r.toArray).toList != (ByteArray.mk r.toArray).toList) = false := by simp
        clear hs HX hcell
        rw [show sv r = .string ⟨r.toArray⟩ from rfl] at d0 i1
        go_wp2_with (go_at_call 14; refine i1.mono ?_; rintro e w2 ⟨rfl, b2⟩; have B2 := hid b2; have d2 := (b2.cell (p := ⟨g3, k, none⟩) lg).trans d0; clear b2)
        exact ⟨⟨k + 1, by omega, by go_num, hid (hB.out.trans (B2.out.mono hB.out.size))⟩, by simp [intOf]; omega⟩
      · obtain rfl : k = nS := by omega
        have b0 : ¬ (k : Int) < (k : Int) := by omega
        go_wp2
        obtain ⟨wM, hwM⟩ : ∃ wM, wr = wM := ⟨_, rfl⟩
        rw [hwM] at hB ⊢
        have HM := hB
        have T6 := hid (T6.out.below HM.out)
        have Z6 := hid (Z6.out.below HM.out Z6.out.lt)
        have OU := hid (OU.out.below HM.out)
        have RU := hid (RU.out.below HM.out RU.out.lt)
        clear hwM hB RS OS BS
        go_loopw [24, 25, 26] (fun i _ _ w' => ∃ k : Nat, k ≤ nU ∧ i = .int .i64 (k : Int) ∧ Hid (Below wM.heap.size wM w')) (fun i _ _ _ => nU - (intOf i).toNat)
        case atStart => exact ⟨0, by omega, rfl, Below.refl _ _⟩
        case round =>
          obtain ⟨k, hk, rfl, hB⟩ := hrel
          by_cases hkn : k < nU
          · have b0 : (k : Int) < (nU : Int) := by omega
            have j0 : (0 : Int) ≤ (k : Int) := by omega
            have hkS : k < U.length := by rw [HnU.out]; exact hkn
            obtain ⟨g, hg', hg, c0, c1⟩ := OwnP.at11 (OU.out.below hB.out) (List.getElem?_eq_getElem hkS)
            subst hg'
            have hs := BU.out U[k] (List.getElem_mem hkS)
            have HX : Hid (tPartO L (U[k].1 : Int) (U[k].2 : Int) = (Tree.root (Til.sg L U[k].1 U[k].2), 0)) := tPartO_nat hs.1 hs.2
            have i1 := tPart_any (T6.out.below hB.out) (U[k].1 : Int) (U[k].2 : Int) (Z6.out.below hB.out Z6.out.lt) HX
            have hcell : (hsh L U)[k]? = some (Tree.root (Til.sg L U[k].1 U[k].2)) := by unfold hsh; rw [List.getElem?_map, List.getElem?_eq_getElem hkS]; rfl
            have d0 := (RU.out.below hB.out RU.out.lt).cell hcell
            have lg : g5 < wr.heap.size := block_lt_of_cell d0
            generalize (U[k].1 : Int) = x0 at *
            generalize (U[k].2 : Int) = x1 at *
            generalize Tree.root (Til.sg L U[k].1 U[k].2) = r at *
            have hrr : ((ByteArray.mk r.toArray).toList != (ByteArray.mk r.toArray).toList) = false := by simp
            clear hs HX hcell
            rw [show sv r = .string ⟨r.toArray⟩ from rfl] at d0 i1
            go_wp2_with (go_at_call 14; refine i1.mono ?_; rintro e w2 ⟨rfl, b2⟩; have B2 := hid b2; have d2 := (b2.cell (p := ⟨g5, k, none⟩) lg).trans d0; clear b2)
            exact ⟨⟨k + 1, by omega, by go_num, hid (hB.out.trans (B2.out.mono hB.out.size))⟩, by simp [intOf]; omega⟩
          · obtain rfl : k = nU := by omega
            have b0 : ¬ (k : Int) < (k : Int) := by omega
            go_wp2
            go_ret
            exact ⟨rfl, (BB.out.trans (HM.out.mono BB.out.size)).trans (hB.out.mono (Nat.le_trans BB.out.size HM.out.size))⟩
end Go.Proofs.YtkiibcfjjplkaaaDoor

namespace Go.Proofs.YtkiibcfjjplkaaaDoor
open Go.ChangeShapes Go.WideShapes Go.ChangeAt Go.RowKit
theorem gDB : Tryd.prog.globalNamed "math/bits.deBruijn64tab" = some 1 := by kernel_rfl
theorem gDBType : (Tryd.prog.globals[1]?).map (·.type) = some 116 := by kernel_rfl
theorem cells64b : Tryd.prog.cellsOf 116 = 64 := by kernel_rfl
theorem cells1b : Tryd.prog.cellsOf 5 = 1 := by kernel_rfl
def four : List (String × DataW Unit) := [("math/bits.deBruijn32tab", Rows.laid_math_bits_deBruijn32tab), ("math/bits.deBruijn64tab", Rows.laid_math_bits_deBruijn64tab), ("scrivener/digest.start", Rows.laid_scrivener_digest_start), ("scrivener/digest.rounds", Rows.laid_scrivener_digest_rounds)]
theorem tb_of {W : World} (h : laidMet Tryd.prog four W) : Tb W := by
  have h1 := laidMet.tail h
  have h2 : Lib.TabIs Tryd.prog W "math/bits.deBruijn64tab" .u8 (Lib.deBruijn64tab.map Int.ofNat) :=
    Lib.tabIs_of_head gDB gDBType Tryd.underlying116 Tryd.underlying5 cells1b cells64b (show laidMet Tryd.prog (("math/bits.deBruijn64tab", Lib.tabData .u8 (Lib.deBruijn64tab.map Int.ofNat)) :: _) W from h1)
  refine ⟨tabs_of (laidMet.tail h1), fun j hj => ?_⟩
  have := h2.cell gDB j (by rw [List.length_map]; exact hj)
  rw [this]
  simp [List.getD_eq_getElem?_getD]
  rw [List.getElem?_eq_getElem (show j < Lib.deBruijn64tab.length from hj)]; simp
/-- A WORLD FOR THE WITNESS: all four tables laid. -/
noncomputable def laidWorld5 (os : Os) : World :=
  { laidWorld os with
    heap := ((laidWorld os).heap.modify 0 (fillObj (Lib.deBruijn32tab.map fun n => Value.int .u8 (Int.ofNat n)).toArray)).modify 1 (fillObj (Lib.deBruijn64tab.map fun n => Value.int .u8 (Int.ofNat n)).toArray) }
end Go.Proofs.YtkiibcfjjplkaaaDoor
