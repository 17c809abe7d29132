import Derived.Test.YtkamjpjmdibfgaaPkKP11
import Derived.Test.YtkamjpjmdibfgaaPkKA1
/- Layer 15, the law: pick, known -/
namespace Go.Proofs.Ytkamjpjmdibfgaa
open Go.RowKit Go.Maps
namespace Kc
set_option maxHeartbeats 400000 in
theorem pick15_any (c n : Int) (hc1 : -9223372036854775808 ≤ c) (hc2 : c ≤ 9223372036854775807) (hn : 0 < n) (hn2 : n ≤ 9223372036854775807) (w : World) :
    Calls Try.prog 7 #[.int .i64 c, .int .i64 n] w fun e w' => e = .returned (.int .i64 (pk c n)) ∧ w' = w := by
  have hp0 := pk_nonneg c n hn
  have hp1 := pk_lt c n hn
  have hn0 : ¬ n = 0 := by omega
  by_cases h : c < 0
  · have e1 : IntKind.i64.wrap (c + 1) = c + 1 := by rw [IntKind.wrap_i64]; omega
    have e2 : IntKind.i64.wrap (-(c + 1)) = -(c + 1) := by rw [IntKind.wrap_i64]; omega
    have e3 : Int.tmod (-(c + 1)) n = pk c n := by rw [Int.tmod_eq_emod_of_nonneg (by omega), pk, if_pos h]
    have e4 : IntKind.i64.wrap (pk c n) = pk c n := wrap_small _ (by omega) (by omega)
    go_enter Try.func7, Try.ntmps7
    go_wp2
    go_ret
    exact ⟨rfl, rfl⟩
  · have e3 : Int.tmod c n = pk c n := by rw [Int.tmod_eq_emod_of_nonneg (by omega), pk, if_neg h]
    have e4 : IntKind.i64.wrap (pk c n) = pk c n := wrap_small _ (by omega) (by omega)
    go_enter Try.func7, Try.ntmps7
    go_wp2
    go_ret
    exact ⟨rfl, rfl⟩
set_option maxRecDepth 100000 in
set_option maxHeartbeats 4000000 in
theorem known15_any (w : World) : Calls Try.prog 4 #[] w fun r w' => r = .returned (.bool true) ∧ Below w.heap.size w w' := by
  have i1 := new_ok 10 (by omega) w
  obtain ⟨q, hq⟩ : ∃ q, w.heap.size = q := ⟨_, rfl⟩
  have HQ := hid hq
  rw [hq] at i1 ⊢
  clear hq
  go_enter Try.func4, Try.ntmps4
  go_upto_region 4 with (go_at_call 5; refine i1.mono ?_; rintro r w1 ⟨rfl, C1, B1⟩)
  have S1 : Cs w w1 q none 10 0 [] 0 0 0 := by
    have := Cs.new (w0 := w) (w := w) (Below.refl _ _) (by rw [HQ.out]; exact C1) (by rw [HQ.out]; exact B1)
    rwa [HQ.out] at this
  have i2 := put_ok' S1.ch (by omega) [97] [49, 50, 51] (by decide) (by decide) (by decide)
  clear C1 B1 i1
  go_upto_region 5 with (go_at_call 10; refine i2.mono ?_; rintro r w2 ⟨rfl, b1, g1, o1, P2, E2⟩)
  have S2 := S1.op P2
  have e2 : putL 10 [97] [49, 50, 51] [] b1 = [⟨b1, [97], [49, 50, 51], 0⟩] := rfl
  obtain rfl : o1 = 0 := E2
  rw [e2] at S2
  clear P2 S1 i2
  have i3 := put_ok' S2.ch (by omega) [98] [49, 50, 51, 52, 53] (by decide) (by decide) (by show _ ≤ 10; exact (by decide : 6 ≤ 10))
  go_upto_region 6 with (go_at_call 10; refine i3.mono ?_; rintro r w3 ⟨rfl, b2, g2, o2, P3, E3⟩)
  have S3 := S2.op P3
  have e3 : putL 10 [98] [49, 50, 51, 52, 53] [⟨b1, [97], [49, 50, 51], 0⟩] b2 = [⟨b2, [98], [49, 50, 51, 52, 53], 0⟩, ⟨b1, [97], [49, 50, 51], 0⟩] := rfl
  obtain rfl : o2 = 0 := by
    have : o2 + 1 = 0 + 1 := E3
    omega
  rw [e3] at S3
  clear P3 E3 S2 i3
  have i4 := get_some' S3.ch (by omega) [97] (by decide) (e := ⟨b1, [97], [49, 50, 51], 0⟩) rfl
  go_upto_region 7 with (go_at_call 11; refine i4.mono ?_; rintro r w4 ⟨rfl, P4⟩)
  have S4 := S3.op P4
  have e4 : (⟨b1, [97], [49, 50, 51], 0⟩ : En) :: wo [97] [⟨b2, [98], [49, 50, 51, 52, 53], 0⟩, ⟨b1, [97], [49, 50, 51], 0⟩] = [⟨b1, [97], [49, 50, 51], 0⟩, ⟨b2, [98], [49, 50, 51, 52, 53], 0⟩] := rfl
  rw [e4] at S4
  clear P4 S3 i4
  have i5 := put_ok' S4.ch (by omega) [99] [49] (by decide) (by decide) (by show _ ≤ 10; exact (by decide : 2 ≤ 10))
  go_upto_region 8 with (go_at_call 10; refine i5.mono ?_; rintro r w5 ⟨rfl, b3, g3, o3, P5, E5⟩)
  have S5 := S4.op P5
  have e5 : putL 10 [99] [49] [⟨b1, [97], [49, 50, 51], 0⟩, ⟨b2, [98], [49, 50, 51, 52, 53], 0⟩] b3 = [⟨b3, [99], [49], 0⟩, ⟨b1, [97], [49, 50, 51], 0⟩] := rfl
  obtain rfl : o3 = 1 := by
    have : o3 + 1 = 0 + 2 := E5
    omega
  rw [e5] at S5
  clear P5 E5 S4 i5
  have i6 := get_none' S5.ch (by omega) [98] (by decide) rfl
  go_upto_region 9 with (go_at_call 11; refine i6.mono ?_; rintro r w6 ⟨rfl, P6⟩)
  have S6 := S5.op P6
  clear P6 S5 i6
  have i7 := tally_any S6.ch
  have HS6 := hid S6
  clear S6
  have e7 : tal [(⟨b3, [99], [49], 0⟩ : En), ⟨b1, [97], [49, 50, 51], 0⟩].length (tot [⟨b3, [99], [49], 0⟩, ⟨b1, [97], [49, 50, 51], 0⟩]) (pnd [⟨b3, [99], [49], 0⟩, ⟨b1, [97], [49, 50, 51], 0⟩]) (0 + 1) (0 + 1) 1 = .agg #[.int .i64 2, .int .i64 6, .int .i64 0, .int .i64 1, .int .i64 1, .int .i64 1] := rfl
  rw [e7] at i7
  go_wp2_with (go_at_call 12; refine i7.mono ?_; rintro r w7 ⟨rfl, b7⟩)
  go_ret
  have b := (HS6.out.below b7).bl
  have hz := b.size
  have hq := HQ.out
  rw [hq] at b
  exact ⟨rfl, b.alloc (by omega) _⟩
end Kc
end Go.Proofs.Ytkamjpjmdibfgaa

/- Layer 15, mathematics: the greater cache has all that the lesser one has -/
namespace Go.Proofs.Ytkamjpjmdibfgaa
namespace Kc
def ks (L : List En) : List (List UInt8) := L.map En.k
/-- nothing is pinned, and a key tells its value -/
def kv (j : Nat) : List UInt8 := List.replicate j 0
def kk (j : Nat) : List UInt8 := [UInt8.ofNat (97 + j)]
def Nv (e : En) : Prop := e.p = 0 ∧ ∃ j, j < 12 ∧ e.k = kk j ∧ e.v = kv j
def An (L : List En) : Prop := ∀ e ∈ L, Nv e
theorem kk_inj {i j : Nat} (hi : i < 12) (hj : j < 12) (h : kk i = kk j) : i = j := by
  unfold kk at h
  have h1 := List.head_eq_of_cons_eq h
  have h2 := congrArg UInt8.toNat h1
  rw [UInt8.toNat_ofNat', UInt8.toNat_ofNat'] at h2
  omega
theorem Nv.val {e : En} (h : Nv e) {j : Nat} (hj : j < 12) (hk : e.k = kk j) : e.v = kv j := by
  obtain ⟨_, i, hi, h1, h2⟩ := h
  have := kk_inj hi hj (h1.symm.trans hk)
  rw [h2, this]
theorem Nv.same {e x : En} (h : Nv e) (h' : Nv x) (hk : e.k = x.k) : e.n = x.n := by
  obtain ⟨_, j, hj, h1, h2⟩ := h'
  have := h.val hj (hk.trans h1)
  unfold En.n
  rw [hk, this, h2]
theorem tot_same : ∀ {L M : List En}, An L → An M → ks L = ks M → tot L = tot M
  | [], [], _, _, _ => rfl
  | [], x :: M, _, _, h => by cases h
  | e :: L, [], _, _, h => by cases h
  | e :: L, x :: M, h1, h2, h => by
    unfold ks at h
    rw [List.map_cons, List.map_cons] at h
    injection h with h3 h4
    rw [tot_cons, tot_cons, (h1 e (List.mem_cons_self ..)).same (h2 x (List.mem_cons_self ..)) h3, tot_same (fun y hy => h1 y (List.mem_cons_of_mem _ hy)) (fun y hy => h2 y (List.mem_cons_of_mem _ hy)) h4]
theorem evr_pre (B n : Nat) : ∀ (m : Nat) (X : List En), X.length = m → (∀ e ∈ X, e.p = 0) → (∃ Z, X = evr B n (tot X) X ++ Z) ∧ (∀ P Q, X = P ++ Q → tot P + n ≤ B → ∃ Q', evr B n (tot X) X = P ++ Q')
  | 0, X, hm, hp => by
    obtain rfl := List.length_eq_zero_iff.1 hm
    refine ⟨⟨[], rfl⟩, fun P Q h _ => ?_⟩
    obtain ⟨rfl, rfl⟩ := List.append_eq_nil_iff.1 h.symm
    exact ⟨[], rfl⟩
  | m + 1, X, hm, hp => by
    by_cases hf : tot X + n ≤ B
    · rw [evr_fit hf]
      exact ⟨⟨[], by simp⟩, fun P Q h _ => ⟨Q, h⟩⟩
    · rcases List.eq_nil_or_concat X with rfl | ⟨X', x, rfl⟩
      · cases hm
      · rw [List.concat_eq_append] at *
        have h0 : x.p = 0 := hp x (by simp)
        rw [evr_out hf h0]
        have e1 : tot (X' ++ [x]) - x.n = tot X' := by simp
        rw [e1]
        obtain ⟨⟨Z, hZ⟩, h2⟩ := evr_pre B n m X' (by simpa using hm) (fun e he => hp e (by simp [he]))
        refine ⟨⟨Z ++ [x], by rw [← List.append_assoc, ← hZ]⟩, fun P Q h hP => ?_⟩
        rcases List.eq_nil_or_concat Q with rfl | ⟨Q', y, rfl⟩
        · rw [List.append_nil] at h
          rw [h] at hf
          exact absurd hP hf
        · rw [List.concat_eq_append, ← List.append_assoc] at h
          exact h2 P Q' (List.append_inj_left' h rfl) hP
theorem room_pre {B n : Nat} {L : List En} (hp : ∀ e ∈ L, e.p = 0) : ∃ Z, L = room B n L ++ Z := (evr_pre B n _ L rfl hp).1
theorem room_max {B n : Nat} {P Q : List En} (hp : ∀ e ∈ P ++ Q, e.p = 0) (h : tot P + n ≤ B) : ∃ Q', room B n (P ++ Q) = P ++ Q' := (evr_pre B n _ (P ++ Q) rfl hp).2 P Q rfl h
theorem An.sub {L M : List En} (h : An L) (hs : M.Sublist L) : An M := fun e he => h e (hs.mem he)
theorem An.pins {L : List En} (h : An L) : ∀ e ∈ L, e.p = 0 := fun e he => (h e he).1
theorem An.pnd {L : List En} (h : An L) : pnd L = 0 := by
  induction L with
  | nil => rfl
  | cons e L ih =>
    rw [pnd_cons, ih fun x hx => h x (List.mem_cons_of_mem _ hx), En.q, if_pos (h e (List.mem_cons_self ..)).1]
theorem ks_wo (k : List UInt8) (L : List En) : ks (wo k L) = (ks L).erase k := by
  induction L with
  | nil => rfl
  | cons e L ih =>
    unfold wo ks
    by_cases c : e.k = k
    · rw [if_pos c, List.map_cons, c, List.erase_cons_head]
    · rw [if_neg c, List.map_cons, List.map_cons, List.erase_cons_tail (by simpa using c)]
      exact congrArg _ ih
theorem fnd_ks {k : List UInt8} {L : List En} : (fnd k L).isSome = true ↔ k ∈ ks L := by
  cases c : fnd k L with
  | none =>
    simp only [Option.isSome_none, Bool.false_eq_true, false_iff]
    intro h
    obtain ⟨e, he, hk⟩ := List.mem_map.1 h
    exact (fnd_none c).1 e he hk
  | some e =>
    simp only [Option.isSome_some, true_iff]
    obtain ⟨h1, h2⟩ := fnd_mem c
    exact List.mem_map.2 ⟨e, h1, h2⟩
/-- the keys of the lesser one stand first in the greater one -/
def Nst (L M : List En) : Prop := ∃ Z, ks M = ks L ++ Z
theorem Nst.there {L M : List En} (h : Nst L M) {k : List UInt8} {e : En} (hf : fnd k L = some e) : ∃ x, fnd k M = some x := by
  obtain ⟨Z, hZ⟩ := h
  have : (fnd k M).isSome = true := fnd_ks.2 (by rw [hZ]; exact List.mem_append_left _ (fnd_ks.1 (by rw [hf]; rfl)))
  exact Option.isSome_iff_exists.1 this
theorem Nst.both {L M : List En} (h : Nst L M) {k : List UInt8} {e x : En} (hf : fnd k L = some e) (hx : fnd k M = some x) : Nst (e :: wo k L) (x :: wo k M) := by
  obtain ⟨Z, hZ⟩ := h
  refine ⟨Z, ?_⟩
  have h1 := (fnd_mem hf).2
  have h2 := (fnd_mem hx).2
  show x.k :: ks (wo k M) = e.k :: (ks (wo k L) ++ Z)
  rw [h1, h2, ks_wo, ks_wo, hZ, List.erase_append_left _ (fnd_ks.1 (by rw [hf]; rfl))]
theorem ks_append (X Y : List En) : ks (X ++ Y) = ks X ++ ks Y := List.map_append
theorem ks_room {B n : Nat} {L : List En} (h : An L) : ∃ Z, ks L = ks (room B n L) ++ Z := by
  obtain ⟨Z, hZ⟩ := room_pre (B := B) (n := n) h.pins
  exact ⟨ks Z, by rw [← ks_append, ← hZ]⟩
theorem Nst.one {L M : List En} (h : Nst L M) (hA : An L) {k : List UInt8} {x : En} (hf : fnd k L = none) (hx : fnd k M = some x) (B n b : Nat) (v : List UInt8) (p : Nat) : Nst (⟨b, k, v, p⟩ :: room B n L) (x :: wo k M) := by
  obtain ⟨Z, hZ⟩ := h
  obtain ⟨Y, hY⟩ := ks_room (B := B) (n := n) hA
  have h2 := (fnd_mem hx).2
  have hn : k ∉ ks L := fun hm => by
    have := fnd_ks.2 hm
    rw [hf] at this
    cases this
  refine ⟨Y ++ Z.erase k, ?_⟩
  show x.k :: ks (wo k M) = k :: (ks (room B n L) ++ (Y ++ Z.erase k))
  rw [h2, ks_wo, hZ, List.erase_append_right _ hn, hY, List.append_assoc]
theorem Nst.none {L M : List En} (h : Nst L M) (hA : An L) (hM : An M) {B C n : Nat} (hB : B ≤ C) (hn : n ≤ B) (k v v' : List UInt8) (b b' p p' : Nat) : Nst (⟨b, k, v, p⟩ :: room B n L) (⟨b', k, v', p'⟩ :: room C n M) := by
  obtain ⟨Z, hZ⟩ := h
  obtain ⟨Y, hY⟩ := room_pre (B := B) (n := n) hA.pins
  have hfit : tot (room B n L) + n ≤ B := room_fits (by rw [hA.pnd]; omega)
  obtain ⟨P, hP⟩ : ∃ P, room B n L = P := ⟨_, rfl⟩
  rw [hP] at hY hfit ⊢
  have hM2 : M = M.take P.length ++ M.drop P.length := (List.take_append_drop _ _).symm
  have hk : ks (M.take P.length) = ks P := by
    unfold ks at hZ ⊢
    rw [← List.map_take.symm, hZ, hY]
    simp
  have ht : tot (M.take P.length) = tot P := tot_same (hM.sub (List.take_sublist _ _)) (hA.sub (by rw [hY]; exact List.sublist_append_left _ _)) hk
  obtain ⟨Q, hQ⟩ := room_max (B := C) (n := n) (P := M.take P.length) (Q := M.drop P.length) (by rw [← hM2]; exact hM.pins) (by omega)
  rw [← hM2] at hQ
  refine ⟨ks Q, ?_⟩
  show k :: ks (room C n M) = k :: (ks P ++ ks Q)
  rw [hQ, ks_append, hk]
end Kc
end Go.Proofs.Ytkamjpjmdibfgaa
