import Derived.Test.YtdbbemcddhgbcaaGreatDoorPpND5
import Derived.Test.YtdbbemcddhgbcaaGreatDoorPpX7
/- Layer 22, the law: a name that may be, of a raw text -/
namespace Go.Proofs.YtdbbemcddhgbcaaGreatDoor
open Go.RowKit Go.Shelf
namespace Nt
def signs22 : List UInt8 := [97, 98, 99, 100, 101, 102, 103, 104, 105, 106, 107, 108, 109, 110, 111, 112, 113, 114, 115, 116, 117, 118, 119, 120, 121, 122, 48, 49, 50, 51, 52, 53, 54, 55, 56, 57, 46, 45, 47]
theorem signs22_ok : ∀ b ∈ signs22, sgB b.toNat = true := by decide
theorem nmB_of {bs : List UInt8} (h : ∀ b ∈ bs, sgB b.toNat = true) (h0 : 0 < bs.length) (h1 : bs.length ≤ 32) : nmB bs = true := by
  unfold nmB
  rw [Bool.and_eq_true, Bool.and_eq_true, List.all_eq_true]
  exact ⟨⟨h, decide_eq_true h0⟩, decide_eq_true h1⟩
set_option maxRecDepth 100000 in
set_option maxHeartbeats 4000000 in
theorem name22_nm (s : ByteArray) (hs : s.size ≤ 9223372036854775807) (w : World) :
    Calls Tryz.prog 21 #[.string s] w fun q w' => (∃ N : ByteArray, q = .returned (.string N) ∧ N.size ≤ 32 ∧ nmB N.data.toList = true) ∧ Below w.heap.size w w' := by
  obtain ⟨n, hn⟩ : ∃ n, s.size = n := ⟨_, rfl⟩
  have B0 := hid (Below.refl w.heap.size w)
  go_enter Tryz.func21, Tryz.ntmps21
  go_wp2
  go_loopw [3, 4] (fun v i w' => ∃ (k : Nat) (a : Option Addr) (cap : Nat) (bs : List UInt8), k ≤ n ∧ k ≤ 32 ∧ i = .int .i64 (k : Int) ∧ v = .slice a k cap ∧ Hid (bs.length = k) ∧ Hid (∀ b ∈ bs, sgB b.toNat = true) ∧ Hid (OwnB w' w.heap.size (.slice a k cap) bs) ∧ Hid (Below w.heap.size w w')) (fun _ i _ => 32 - (intOf i).toNat)
  case atStart => exact ⟨0, none, 0, [], by omega, by omega, rfl, rfl, rfl, (fun b hb => by cases hb), .inl ⟨rfl, rfl⟩, B0⟩
  case round =>
    clear B0
    obtain ⟨k, a, cap, bs, hk, hk2, rfl, rfl, hl, hC, hO, hB⟩ := hrel
    by_cases h1 : k < n
    · have q1 : (k : Int) < (n : Int) := by omega
      by_cases h2 : k < 32
      · have q2 : (k : Int) < 32 := by omega
        have q3 : (0 : Int) ≤ (k : Int) := by omega
        have q4 : k < s.size := by omega
        obtain ⟨x, ex, lx, ix, jx⟩ := index_any s (k : Int) k rfl q4
        obtain ⟨y, ey, ly, iy, jy⟩ := index_any ⟨signs22.toArray⟩ ((x : Int) % 39) (x % 39) (by omega) (by show x % 39 < 39; omega)
        have hC2 : Hid (∀ b ∈ bs ++ [UInt8.ofNat y], sgB b.toNat = true) := hid fun b hb => by
          rcases List.mem_append.1 hb with hb | hb
          · exact hC.out b hb
          · obtain rfl := List.mem_singleton.1 hb
            have e1 := jy (show x % 39 < 39 by omega)
            have e2 : (UInt8.ofNat y).toNat = y := by rw [UInt8.toNat_ofNat']; exact Nat.mod_eq_of_lt ly
            rw [e2, ← e1]
            exact signs22_ok _ (List.getElem_mem (l := signs22) (show x % 39 < 39 by omega))
        unfold signs22 at jy
        obtain ⟨v2, w2, hc, hown2, hg2, _⟩ := append_new wr w.heap.size _ _ [UInt8.ofNat y] 1 #[.int .u8 (y : Int)] (by simp [bv]; omega) rfl hO.out (by have := hl.out; omega) hB.out.size (by omega)
        have hl2 : (bv (bs ++ [UInt8.ofNat y])).length = k + 1 := by rw [bv_length, List.length_append, hl.out]; rfl
        obtain ⟨a2, cap2, rfl⟩ := hown2.shapeS (by omega) _ hl2
        have Hl2 := hid (show (bs ++ [UInt8.ofNat y]).length = k + 1 by rw [List.length_append, hl.out]; rfl)
        have Hown2 := hid hown2
        have Hb2 := hid (hB.out.trans (Below.ofGrown hg2 hO.out.ge hB.out.size))
        clear hown2 hl2 hg2 hO hB hl iy ix ey ex ly q4
        go_wp2_with (at_builtin; go_must (refine Lib.wpList_append_run _ rfl _ _ 43 43 rfl _ _ rfl rfl _ _ hc ?_))
        exact ⟨⟨k + 1, _, cap2, _, by omega, by omega, by go_num, rfl, Hl2, hC2, Hown2, Hb2⟩, by simp [intOf]; omega⟩
      · have q2 : ¬ (k : Int) < 32 := by omega
        obtain rfl : k = 32 := by omega
        have hcv := conv_own hO.out (by intro h; injection h with _ h; cases h)
        have hz : (⟨bs.toArray⟩ : ByteArray).size ≤ 32 := by show bs.toArray.size ≤ 32; rw [List.size_toArray, hl.out]; exact Nat.le_refl _
        have hnm := hid (nmB_of hC.out (by rw [hl.out]; omega) (by rw [hl.out]; omega))
        go_wp2
        go_ret
        exact ⟨⟨_, rfl, hz, hnm.out⟩, hB.out⟩
    · have q1 : ¬ (k : Int) < (n : Int) := by omega
      by_cases h0 : k = 0
      · subst h0
        obtain ⟨v2, w2, hc, hown2, hg2, _⟩ := append_new wr w.heap.size _ _ [97] 1 #[.int .u8 97] (by simp [bv]) rfl hO.out (by have := hl.out; omega) hB.out.size (by omega)
        have hl2 : (bv (bs ++ [97])).length = 1 := by rw [bv_length, List.length_append, hl.out]; rfl
        obtain ⟨a2, cap2, rfl⟩ := hown2.shapeS (by omega) _ hl2
        have hcv := conv_own hown2 (by intro h; injection h with h; cases h)
        have hz : (⟨(bs ++ [97]).toArray⟩ : ByteArray).size ≤ 32 := by show (bs ++ [97]).toArray.size ≤ 32; rw [List.size_toArray, List.length_append, hl.out]; decide
        have Hb2 := hid (hB.out.trans (Below.ofGrown hg2 hO.out.ge hB.out.size))
        have hnm : Hid (nmB (bs ++ [97]) = true) := hid (by
          have : bs = [] := List.length_eq_zero_iff.1 hl.out
          subst this
          decide)
        clear hown2 hl2 hg2 hO hB hl
        go_wp2_with (at_builtin; go_must (refine Lib.wpList_append_run _ rfl _ _ 43 43 rfl _ _ rfl rfl _ _ hc ?_))
        go_ret
        exact ⟨⟨_, rfl, hz, hnm.out⟩, Hb2.out⟩
      · have q2 : ¬ (k : Int) = 0 := by omega
        have hcv := conv_own hO.out (by intro h; injection h with _ h; exact h0 h)
        have hz : (⟨bs.toArray⟩ : ByteArray).size ≤ 32 := by show bs.toArray.size ≤ 32; rw [List.size_toArray, hl.out]; exact hk2
        have hnm := hid (nmB_of hC.out (by rw [hl.out]; omega) (by rw [hl.out]; omega))
        go_wp2
        go_ret
        exact ⟨⟨_, rfl, hz, hnm.out⟩, hB.out⟩
theorem name22_any (s : ByteArray) (hs : s.size ≤ 9223372036854775807) (w : World) :
    Calls Tryz.prog 21 #[.string s] w fun q w' => (∃ N : ByteArray, q = .returned (.string N) ∧ N.size ≤ 32) ∧ Below w.heap.size w w' :=
  (name22_nm s hs w).mono fun _ _ ⟨⟨N, e, h, _⟩, b⟩ => ⟨⟨N, e, h⟩, b⟩
end Nt
end Go.Proofs.YtdbbemcddhgbcaaGreatDoor

/- Layer 22, the law: a hash; lists of signatures put to one another -/
namespace Go.Proofs.YtdbbemcddhgbcaaGreatDoor
open Go.RowKit Go.Shelf
namespace Nt
set_option maxRecDepth 100000 in
theorem hash22_any (s : ByteArray) (hs : s.size ≤ 140737488355000) (w : World) : Calls Tryz.prog 22 #[.string s] w fun r w' => (∃ D : ByteArray, r = .returned (.string D) ∧ D.size = 32) ∧ Below w.heap.size w w' := by
  have i1 := fun w' => rsum_any s hs w'
  obtain ⟨D, hD⟩ : ∃ D : ByteArray, Hid (sv (Sha.sha s.data.toList) = .string D) := ⟨_, rfl⟩
  have hz : D.size = 32 := by
    have h := hD.out
    unfold sv at h
    injection h with h
    rw [← h, show (ByteArray.mk (Sha.sha s.data.toList).toArray).size = (Sha.sha s.data.toList).length from List.size_toArray, Sha.sha_length]
  rw [hD.out] at i1
  go_enter Tryz.func22, Tryz.ntmps22
  go_wp2_with (go_at_call 40; refine (i1 _).mono ?_; rintro e w' ⟨rfl, hw⟩)
  go_ret
  exact ⟨⟨_, rfl, hz⟩, hw⟩
theorem append_sgs0 (w : World) (x : Value) (hs : Src Tryz.prog 2 24 x 0 [] w) :
    (Builtin.append_ #[24, 24] 24 #[.slice none 0 0, x]).run Tryz.prog w = .ok (.slice none 0 0) w := by
  obtain ⟨i0, hi, _, hz1, _⟩ := info_parts infoSg
  have hc := hs.cells
  rw [← hz1] at hc
  simp [Builtin.append_, run_underlying Tryz.underlying24, sizeOf, typeInfo, hi, hs.len, hc]
theorem srcF {w : World} {a : Option Addr} {M : List Sg} (hM : AtF w a M) (cap : Nat) : Src Tryz.prog 2 24 (.slice a M.length cap) M.length (sgs M) w := by
  cases a with
  | none =>
    have : M = [] := by
      cases M with
      | nil => rfl
      | cons q l => obtain ⟨p, e, _⟩ := hM 0 _ rfl; cases e
    subst this
    exact Src.ofNil _ Tryz.underlying24 cap
  | some p => exact Src.ofSlice _ Tryz.underlying24 p M.length cap (sgs M) (sgs_len M) (fun j u hu => by
      obtain ⟨p', e, _, h⟩ := hM j u hu
      obtain rfl := Option.some.inj e
      exact h) (fun u hu => sgs_one hu)
/-- append(l, m...) -/
theorem append_sgs (w : World) (v : Value) (l M : List Sg) (a : Option Addr) (cap : Nat) (hown : Wz.OwnM 2 w v l.length (sgs l)) (hM : AtF w a M) (hb : l.length + M.length ≤ 4398046511000) :
    ∃ v' w', (Builtin.append_ #[24, 24] 24 #[v, .slice a M.length cap]).run Tryz.prog w = .ok v' w' ∧ Wz.OwnM 2 w' v' (l ++ M).length (sgs (l ++ M)) ∧ Wz.Grow w w' v v' := by
  obtain ⟨i0, hi, hz0, hz1, hz2⟩ := info_parts infoSg
  have hsrc := srcF hM cap
  by_cases hn : v = .slice none 0 0 ∧ M.length = 0
  · obtain ⟨rfl, h0⟩ := hn
    obtain rfl : M = [] := List.length_eq_zero_iff.1 h0
    refine ⟨_, w, append_sgs0 w _ hsrc, by simpa using hown, ⟨rfl, rfl, rfl, Nat.le_refl _, fun _ _ _ => rfl, .inl rfl⟩⟩
  · obtain ⟨v', w', h1, h2, h3⟩ := Wz.run_append_M (P := Tryz.prog) w 24 24 24 32 i0 (.agg #[.string ⟨#[]⟩, .string ⟨#[]⟩]) Tryz.underlying24 hi hz0 hz1 rfl v l.length (sgs l) hown _ M.length (sgs M) hsrc
      (by rw [hz2]; omega) (by rw [maxLen]; omega) (fun e => by
        by_cases h0 : M.length = 0
        · exact absurd ⟨e, h0⟩ hn
        · omega)
    rw [← sgs_app, ← List.length_append] at h2
    exact ⟨v', w', h1, h2, h3⟩
theorem grow_below {w0 w w' : World} {v v' : Value} (h : Wz.Grow w w' v v') (hb : Below w0.heap.size w0 w) (hv : ∀ k, v.ownBlock = some k → w0.heap.size ≤ k) : Below w0.heap.size w0 w' ∧ ∀ k, v'.ownBlock = some k → w0.heap.size ≤ k := by
  refine ⟨hb.trans ⟨h.os, h.tape, h.output, h.size, fun k hk => h.old k (Nat.lt_of_lt_of_le hk hb.size) fun e => by have := hv k e; omega⟩, fun k hk => ?_⟩
  rcases h.alt with e | ⟨e, _⟩
  · exact hv k (by rw [← e]; exact hk)
  · exact Nat.le_trans hb.size (e k hk)
/-- a list with one more between -/
theorem ins_run (w6 : World) (L : List Sg) (k : Nat) (X Y : ByteArray) (hk : k ≤ L.length) (hl : L.length ≤ 1000) (a1 : Option Addr) (c1 : Nat) (h1 : AtF w6 a1 (L.take k)) (a2 : Option Addr) (c2 : Nat) (h2 : AtF w6 a2 (L.drop k)) :
    ∃ (b1 : Option Addr) (d1 : Nat) (w7 : World) (b2 : Option Addr) (d2 : Nat) (w8 : World) (b3 : Option Addr) (d3 : Nat) (w9 : World),
      (Builtin.append_ #[24, 24] 24 #[.slice none 0 0, .slice a1 k c1]).run Tryz.prog w6 = .ok (.slice b1 k d1) w7 ∧
      (Builtin.append_ #[24, 24] 24 #[.slice b1 k d1, .slice (some ⟨w7.heap.size, 0, none⟩) 1 1]).run Tryz.prog (w7.alloc (.cells #[.string X, .string Y] 32)) = .ok (.slice b2 (k + 1) d2) w8 ∧
      (Builtin.append_ #[24, 24] 24 #[.slice b2 (k + 1) d2, .slice a2 (L.length - k) c2]).run Tryz.prog w8 = .ok (.slice b3 (L.length + 1) d3) w9 ∧
      Below w6.heap.size w6 w7 ∧ Below w6.heap.size w6 w8 ∧ Below w6.heap.size w6 w9 ∧
      Wz.OwnM 2 w9 (.slice b3 (L.length + 1) d3) (L.length + 1) (sgs (L.take k ++ [(X, Y)] ++ L.drop k)) ∧ ∀ q, (Value.slice b3 (L.length + 1) d3).ownBlock = some q → w6.heap.size ≤ q := by
  have lt : (L.take k).length = k := by rw [List.length_take]; omega
  have ld : (L.drop k).length = L.length - k := List.length_drop
  obtain ⟨v1, w7, r1, o1, g1⟩ := append_sgs w6 (.slice none 0 0) [] (L.take k) a1 c1 (.inl ⟨rfl, rfl, rfl⟩) h1 (by rw [lt]; simp; omega)
  rw [List.nil_append, lt] at o1
  rw [lt] at r1
  obtain ⟨B1, f1⟩ := grow_below g1 (Below.refl _ _) (fun k hk => by cases hk)
  obtain ⟨b1, d1, rfl, -, -⟩ := o1.shape
  obtain ⟨v2, w8, r2, o2, g2⟩ := append_sg w7 _ (L.take k) X Y (by rw [lt]; exact o1) (by rw [lt]; omega)
  rw [lt] at o2
  obtain ⟨B2, f2⟩ := grow_below g2 B1 f1
  obtain ⟨b2, d2, rfl, -, -⟩ := o2.shape
  obtain ⟨v3, w9, r3, o3, g3⟩ := append_sgs w8 _ (L.take k ++ [(X, Y)]) (L.drop k) a2 c2 (by rw [List.length_append, lt]; exact o2) (h2.below B2) (by rw [List.length_append, lt, ld, List.length_singleton]; omega)
  have e3 : (L.take k ++ [(X, Y)] ++ L.drop k).length = L.length + 1 := by rw [List.length_append, List.length_append, lt, ld, List.length_singleton]; omega
  rw [e3] at o3
  rw [ld] at r3
  obtain ⟨B3, f3⟩ := grow_below g3 B2 f2
  obtain ⟨b3, d3, rfl, -, -⟩ := o3.shape
  exact ⟨b1, d1, w7, b2, d2, w8, b3, d3, w9, r1, r2, r3, B1, B2, B3, o3, f3⟩
end Nt
end Go.Proofs.YtdbbemcddhgbcaaGreatDoor

/- Layer 22: a signature put where its name belongs -/
namespace Go.Proofs.YtdbbemcddhgbcaaGreatDoor
open Go.RowKit Go.Shelf
namespace Nt
theorem empty22 : ByteArray.empty.toList = [] := by first | decide | kernel_rfl | simp [ByteArray.toList, ByteArray.toList.loop]
theorem less_total : ∀ (x y : List UInt8), Op.bytesLess x y = false → (x == y) = false → Op.bytesLess y x = true
  | [], [], _, h => by simp at h
  | _ :: _, [], _, _ => by simp [Op.bytesLess]
  | [], _ :: _, h, _ => by simp [Op.bytesLess] at h
  | a :: x, b :: y, h1, h2 => by
    have ih := less_total x y
    rw [Op.bytesLess] at h1 ⊢
    by_cases hab : a = b
    · subst hab
      simp at h1 h2 ⊢
      exact ih h1 (by simpa using h2)
    · have hne : b ≠ a := fun e => hab e.symm
      simp [hab, hne] at h1 ⊢
      have hx : a.toNat ≠ b.toNat := fun e => hab (UInt8.toNat_inj.1 e)
      have : ¬ a.toNat < b.toNat := by
        intro e
        have h9 : a < b := UInt8.lt_iff_toNat_lt.2 e
        first
          | exact absurd h9 (by simpa using h1)
          | exact absurd h9 (UInt8.not_lt.2 h1)
      exact UInt8.lt_iff_toNat_lt.2 (by omega)
theorem ltN_total {a b : ByteArray} (h : Op.bytesLess a.toList b.toList = false) (he : (a.toList == b.toList) = false) : ltN b a = true := less_total _ _ h he
theorem okJ_of {S : List Sg} (h : allOk S = true) {j : Nat} (hj : j < S.length) : okJ S j = true := by
  unfold allOk at h
  exact List.all_eq_true.1 h j (List.mem_range.2 hj)
theorem okJ_iff {S : List Sg} {j : Nat} {x : Sg} (hx : S[j]? = some x) : okJ S j = true ↔ sgnB x = true ∧ (j = 0 ∨ ∃ y, S[j - 1]? = some y ∧ ltN y.1 x.1 = true) := by
  unfold okJ
  rw [hx]
  simp only [Bool.and_eq_true, Bool.or_eq_true, decide_eq_true_eq]
  constructor
  · rintro ⟨h1, h2 | h2⟩
    · exact ⟨h1, .inl h2⟩
    · by_cases hj : j = 0
      · exact ⟨h1, .inl hj⟩
      · have hlt := (List.getElem?_eq_some_iff.1 hx).1
        obtain ⟨y, hy⟩ : ∃ y, S[j - 1]? = some y := ⟨_, List.getElem?_eq_getElem (by omega)⟩
        rw [List.getD_eq_getElem?_getD, hy] at h2
        exact ⟨h1, .inr ⟨y, hy, h2⟩⟩
  · rintro ⟨h1, h2 | ⟨y, hy, h2⟩⟩
    · exact ⟨h1, .inl h2⟩
    · refine ⟨h1, .inr ?_⟩
      rw [List.getD_eq_getElem?_getD, hy]
      exact h2
theorem ins_at {L : List Sg} {k : Nat} (z : Sg) (hk : k ≤ L.length) (i : Nat) : (L.take k ++ [z] ++ L.drop k)[i]? = if i < k then L[i]? else if i = k then some z else L[i - 1]? := by
  have hl : (L.take k).length = k := by rw [List.length_take]; omega
  rw [List.append_assoc]
  split
  · rename_i h
    rw [List.getElem?_append_left (by omega), List.getElem?_take, if_pos h]
  · rename_i h
    rw [List.getElem?_append_right (by omega), hl]
    split
    · rename_i h2
      subst h2
      rw [Nat.sub_self]; rfl
    · rename_i h2
      obtain ⟨d, rfl⟩ : ∃ d, i = k + 1 + d := ⟨i - (k + 1), by omega⟩
      rw [show k + 1 + d - k = d + 1 by omega, List.cons_append, List.getElem?_cons_succ, List.nil_append, List.getElem?_drop, show k + d = k + 1 + d - 1 by omega]
theorem ins_ok {L : List Sg} {k : Nat} {X Y : ByteArray} (h : allOk L = true) (hX : nmB X.data.toList = true) (hY : Y.size ≤ 6000 ∧ 0 < Y.size) (h1 : ∀ i x, i < k → L[i]? = some x → ltN x.1 X = true) (h2 : ∀ x, L[k]? = some x → ltN X x.1 = true) (hk : k ≤ L.length) : allOk (L.take k ++ [(X, Y)] ++ L.drop k) = true := by
  have hs : sgnB (X, Y) = true := by unfold sgnB; rw [hX]; simp; omega
  refine allOk_of fun i hi => ?_
  have hlen : (L.take k ++ [(X, Y)] ++ L.drop k).length = L.length + 1 := by rw [List.length_append, List.length_append, List.length_take, List.length_drop, List.length_singleton]; omega
  rw [hlen] at hi
  by_cases c1 : i < k
  · obtain ⟨x, hx⟩ : ∃ x, L[i]? = some x := ⟨_, List.getElem?_eq_getElem (by omega)⟩
    obtain ⟨e1, e2⟩ := (okJ_iff hx).1 (okJ_of h (by omega))
    refine (okJ_iff (x := x) (by rw [ins_at _ hk, if_pos c1]; exact hx)).2 ⟨e1, ?_⟩
    rcases e2 with e2 | ⟨y, hy, e3⟩
    · exact .inl e2
    · exact .inr ⟨y, by rw [ins_at _ hk, if_pos (by omega)]; exact hy, e3⟩
  · by_cases c2 : i = k
    · subst c2
      refine (okJ_iff (x := (X, Y)) (by rw [ins_at _ hk, if_neg c1, if_pos rfl])).2 ⟨hs, ?_⟩
      by_cases c3 : i = 0
      · exact .inl c3
      · obtain ⟨y, hy⟩ : ∃ y, L[i - 1]? = some y := ⟨_, List.getElem?_eq_getElem (by omega)⟩
        exact .inr ⟨y, by rw [ins_at _ hk, if_pos (by omega)]; exact hy, h1 _ _ (by omega) hy⟩
    · obtain ⟨x, hx⟩ : ∃ x, L[i - 1]? = some x := ⟨_, List.getElem?_eq_getElem (by omega)⟩
      obtain ⟨e1, e2⟩ := (okJ_iff hx).1 (okJ_of h (by omega))
      refine (okJ_iff (x := x) (by rw [ins_at _ hk, if_neg c1, if_neg c2]; exact hx)).2 ⟨e1, .inr ?_⟩
      by_cases c3 : i - 1 = k
      · refine ⟨(X, Y), by rw [ins_at _ hk, if_neg (by omega), if_pos c3], h2 x (by rw [← c3]; exact hx)⟩
      · rcases e2 with e2 | ⟨y, hy, e3⟩
        · omega
        · exact ⟨y, by rw [ins_at _ hk, if_neg (by omega), if_neg c3]; exact hy, e3⟩
end Nt
end Go.Proofs.YtdbbemcddhgbcaaGreatDoor
