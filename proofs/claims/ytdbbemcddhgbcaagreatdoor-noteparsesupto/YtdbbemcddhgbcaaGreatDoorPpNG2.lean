import Derived.Test.YtdbbemcddhgbcaaGreatDoorPpNE2
import Derived.Test.YtdbbemcddhgbcaaGreatDoorPpNA1
import Derived.Test.YtdbbemcddhgbcaaGreatDoorPpX7
import Derived.Test.YtdbbemcddhgbcaaGreatDoorPpND1
import Derived.Lib.AtoiErrMem
import Derived.Test.YtdbbemcddhgbcaaGreatDoorPpT4
import Derived.Test.YtdbbemcddhgbcaaGreatDoorPpX1
/- Layer 22: sizes and signatures' lines, in the program -/
namespace Go.Proofs.YtdbbemcddhgbcaaGreatDoor
open Go.RowKit Go.Shelf
namespace Nt
/-- the size that a line is -/
def szB (l : ByteArray) : Option Int := match Lib.atoiAll l.data.toList with
  | .ok v => if (0 ≤ v ∧ v ≤ 1099511627776) ∧ iT v = l then some v else none
  | _ => none
/-- what sizeOf tells of a line -/
def SzP (l : ByteArray) (v : Int) (b : Bool) : Prop := match szB l with
  | some z => v = z ∧ b = true
  | none => b = false
theorem SzP.yes {l : ByteArray} {z : Int} (h : szB l = some z) : SzP l z true := by unfold SzP; rw [h]; exact ⟨rfl, rfl⟩
theorem SzP.no {l : ByteArray} {z : Int} (h : szB l = none) : SzP l z false := by unfold SzP; rw [h]
theorem SzP.of {l : ByteArray} {z : Int} {b : Bool} (h : SzP l z b) : (szB l = some z ∧ b = true) ∨ (szB l = none ∧ b = false) := by
  unfold SzP at h
  split at h
  · rename_i e; exact .inl ⟨by rw [e, h.1], h.2⟩
  · rename_i e; exact .inr ⟨e, h⟩
def SzQ (l : ByteArray) (q : Ending) : Prop := ∃ v b, q = .returned (.tuple #[.int .i64 v, .bool b]) ∧ SzP l v b
theorem ba_ne {a b : ByteArray} (h : a ≠ b) : (a.toList == b.toList) = false := beq_false_of_ne fun e => h (Go.WideShapes.bytes_inj (by rw [← ByteArray.toList_eq, ← ByteArray.toList_eq, e]))
set_option maxRecDepth 100000 in
set_option maxHeartbeats 4000000 in
theorem sizeOf_any {E : Es} {w : World} (h : Nw w E) (l : ByteArray) (hl : l.size ≤ 140737488355328) : Calls Tryz.prog 80 #[.string l] w fun q w' => SzQ l q ∧ Below w.heap.size w w' := by
  have H := hid h
  cases ha : Lib.atoiAll l.data.toList with
  | ok v =>
    have i1 := Tryz.strconv_Atoi_ok l (by omega) v ha w
    by_cases v0 : 0 ≤ v
    · by_cases v1 : v ≤ 1099511627776
      · have i2 := fun w' (bb : Below w.heap.size w w') => itoa_any (H.out.below bb) v (by omega) (by omega)
        by_cases ht : iT v = l
        · have e : szB l = some v := by unfold szB; rw [ha]; exact if_pos ⟨⟨v0, v1⟩, ht⟩
          have HE := hid (SzP.yes e)
          subst ht
          clear e ha h
          go_enter Tryz.func80, Tryz.ntmps80
          go_wp2_with (first
            | (go_at_call 95; (refine i1.mono ?_); rintro q w1 ⟨rfl, b1⟩; (have B1 : Below w.heap.size w w1 := (by rcases b1 with rfl | ⟨t, rfl⟩; exact Below.refl _ _; exact Lib.bytesWorld_below _ _ _)); clear b1)
            | (go_at_call 53; (refine (i2 w1 B1).mono ?_); rintro q w2 ⟨rfl, b2⟩))
          go_ret2
          exact ⟨⟨_, _, rfl, HE.out⟩, B1.trans (b2.mono B1.size)⟩
        · have e : szB l = none := by unfold szB; rw [ha]; exact if_neg fun h => ht h.2
          have HE := hid (SzP.no (z := v) e)
          have ht' := ba_ne ht
          clear e ha h
          go_enter Tryz.func80, Tryz.ntmps80
          go_wp2_with (first
            | (go_at_call 95; (refine i1.mono ?_); rintro q w1 ⟨rfl, b1⟩; (have B1 : Below w.heap.size w w1 := (by rcases b1 with rfl | ⟨t, rfl⟩; exact Below.refl _ _; exact Lib.bytesWorld_below _ _ _)); clear b1)
            | (go_at_call 53; (refine (i2 w1 B1).mono ?_); rintro q w2 ⟨rfl, b2⟩))
          go_ret2
          exact ⟨⟨_, _, rfl, HE.out⟩, B1.trans (b2.mono B1.size)⟩
      · have e : szB l = none := by unfold szB; rw [ha]; exact if_neg fun h => v1 h.1.2
        have HE := hid (SzP.no (z := v) e)
        clear e ha h
        go_enter Tryz.func80, Tryz.ntmps80
        go_wp2_with (go_at_call 95; (refine i1.mono ?_); rintro q w1 ⟨rfl, b1⟩; (have B1 : Below w.heap.size w w1 := (by rcases b1 with rfl | ⟨t, rfl⟩; exact Below.refl _ _; exact Lib.bytesWorld_below _ _ _)); clear b1)
        go_ret2
        exact ⟨⟨_, _, rfl, HE.out⟩, B1⟩
    · have e : szB l = none := by unfold szB; rw [ha]; exact if_neg fun h => v0 h.1.1
      have HE := hid (SzP.no (z := v) e)
      clear e ha h
      go_enter Tryz.func80, Tryz.ntmps80
      go_wp2_with (go_at_call 95; (refine i1.mono ?_); rintro q w1 ⟨rfl, b1⟩; (have B1 : Below w.heap.size w w1 := (by rcases b1 with rfl | ⟨t, rfl⟩; exact Below.refl _ _; exact Lib.bytesWorld_below _ _ _)); clear b1)
      go_ret2
      exact ⟨⟨_, _, rfl, HE.out⟩, B1⟩
  | «syntax» =>
    obtain ⟨ev, e1, e2⟩ := h.vs
    have i1 := Tryz.strconv_Atoi_syntax l (by omega) ha ev w e1 e2
    have e : szB l = none := by unfold szB; rw [ha]
    have HE := hid fun z => SzP.no (z := z) e
    clear e ha h e1 e2
    go_enter Tryz.func80, Tryz.ntmps80
    go_wp2_with (go_at_call 95; (refine i1.mono ?_); rintro q w1 ⟨N, rfl, h2, h3, b1⟩)
    go_ret2
    exact ⟨⟨_, _, rfl, HE.out _⟩, b1⟩
  | range =>
    obtain ⟨ev, e1, e2⟩ := h.vr
    have i1 := Tryz.strconv_Atoi_range l (by omega) ha ev w e1 e2
    have e : szB l = none := by unfold szB; rw [ha]
    have HE := hid fun z => SzP.no (z := z) e
    clear e ha h e1 e2
    go_enter Tryz.func80, Tryz.ntmps80
    go_wp2_with (go_at_call 95; (refine i1.mono ?_); rintro q w1 ⟨N, rfl, h2, h3, b1⟩)
    go_ret2
    exact ⟨⟨_, _, rfl, HE.out _⟩, b1⟩
end Nt
end Go.Proofs.YtdbbemcddhgbcaaGreatDoor

/- Layer 22: numbers as texts, there and back (nothing of the program's functions) -/
namespace Go.Proofs.YtdbbemcddhgbcaaGreatDoor
open Go.RowKit Go.Shelf
namespace Nt
/-- a digit -/
def dgB (b : UInt8) : Bool := decide (48 ≤ b.toNat ∧ b.toNat ≤ 57)
/-- what digits tell -/
def vlD (l : List UInt8) : Nat := l.foldl (fun a b => 10 * a + (b.toNat - 48)) 0
theorem vlD_snoc (l : List UInt8) (b : UInt8) : vlD (l ++ [b]) = 10 * vlD l + (b.toNat - 48) := by unfold vlD; rw [List.foldl_append]; rfl
theorem dec_last (u : Nat) : (UInt8.ofNat (48 + u % 10)).toNat = 48 + u % 10 := by rw [UInt8.toNat_ofNat']; omega
theorem dec_val : ∀ u : Nat, vlD (Lib.decDigits u) = u ∧ (∀ b ∈ Lib.decDigits u, dgB b = true) ∧ Lib.decDigits u ≠ []
  | u => by
    have hl := dec_last u
    have hd : dgB (UInt8.ofNat (48 + u % 10)) = true := by unfold dgB; rw [hl]; exact decide_eq_true (by omega)
    rw [dec_step]
    by_cases h : u / 10 = 0
    · have e : dgs (u / 10) = [] := by unfold dgs; rw [if_pos h]
      rw [e, List.nil_append]
      refine ⟨?_, fun b hb => ?_, by simp⟩
      · show vlD ([] ++ [_]) = u
        rw [vlD_snoc, hl]
        show 10 * 0 + _ = u
        omega
      · rw [List.mem_singleton] at hb; subst hb; exact hd
    · have e : dgs (u / 10) = Lib.decDigits (u / 10) := by unfold dgs; rw [if_neg h]
      have ih := dec_val (u / 10)
      rw [e]
      refine ⟨?_, fun b hb => ?_, by simp⟩
      · rw [vlD_snoc, ih.1, hl]; omega
      · rcases List.mem_append.1 hb with hb | hb
        · exact ih.2.1 b hb
        · rw [List.mem_singleton] at hb; subst hb; exact hd
termination_by u => u
decreasing_by omega
theorem dec_len : ∀ (k u : Nat), u < 10 ^ (k + 1) → (Lib.decDigits u).length ≤ k + 1
  | 0, u, h => by
    rw [Lib.decDigits, dif_pos (by simpa using h)]
    exact Nat.le_refl _
  | k + 1, u, h => by
    rw [dec_step, List.length_append, List.length_singleton]
    unfold dgs
    split
    · simp
    · have := dec_len k (u / 10) (by rw [Nat.pow_succ] at h; omega)
      omega
theorem parse_snoc : ∀ (l : List UInt8) (acc a : Nat) (c : UInt8), Lib.parseUint10 acc l = .ok a → dgB c = true → a < 1844674407370955161 → Lib.parseUint10 acc (l ++ [c]) = .ok (a * 10 + (c.toNat - 48))
  | [], acc, a, c, h, hc, ha => by
    unfold Lib.parseUint10 at h
    injection h with h
    subst h
    have hc := of_decide_eq_true hc
    show Lib.parseUint10 acc [c] = _
    unfold Lib.parseUint10
    rw [if_pos hc, if_neg (by omega), if_neg (by omega)]
    rfl
  | x :: l, acc, a, c, h, hc, ha => by
    unfold Lib.parseUint10 at h
    rw [List.cons_append]
    unfold Lib.parseUint10
    split at h
    · rename_i h1
      split at h
      · cases h
      · rename_i h2
        split at h
        · cases h
        · rename_i h3
          rw [if_pos h1, if_neg h2, if_neg h3]
          exact parse_snoc l _ a c h hc ha
    · cases h
theorem parse_dec : ∀ u : Nat, u < 1000000000000000000 → Lib.parseUint10 0 (Lib.decDigits u) = .ok u
  | u => fun hu => by
    have hl := dec_last u
    have hd : dgB (UInt8.ofNat (48 + u % 10)) = true := by unfold dgB; rw [hl]; exact decide_eq_true (by omega)
    rw [dec_step]
    by_cases h : u / 10 = 0
    · have e : dgs (u / 10) = [] := by unfold dgs; rw [if_pos h]
      rw [e, parse_snoc [] 0 0 _ rfl hd (by omega), hl]
      congr 1
      omega
    · have e : dgs (u / 10) = Lib.decDigits (u / 10) := by unfold dgs; rw [if_neg h]
      rw [e, parse_snoc _ 0 (u / 10) _ (parse_dec (u / 10) (by omega)) hd (by omega), hl]
      congr 1
      omega
termination_by u => u
decreasing_by omega
theorem iT_dec (v : Nat) : (iT (v : Int)).data.toList = Lib.decDigits v := by
  unfold iT Lib.itoa
  rw [if_neg (by omega)]
  simp
theorem atoi_iT (v : Nat) (hv : v ≤ 1099511627776) : Lib.atoiAll (iT (v : Int)).data.toList = .ok (v : Int) := by
  rw [iT_dec]
  obtain ⟨_, h2, h3⟩ := dec_val v
  have hp := parse_dec v (by omega)
  cases hl : Lib.decDigits v with
  | nil => exact absurd hl h3
  | cons c r =>
    rw [hl] at h2 hp
    have hc := of_decide_eq_true (h2 c List.mem_cons_self)
    unfold Lib.atoiAll
    simp only
    rw [if_neg (by omega)]
    unfold Lib.parseMag
    rw [if_neg (by simp), hp]
    simp only
    have h45 : ¬ c.toNat = 45 := by omega
    rw [if_neg (by omega), if_neg (fun e => h45 e.1), if_neg h45]
theorem szB_iff (l : ByteArray) (v : Int) : szB l = some v ↔ (0 ≤ v ∧ v ≤ 1099511627776) ∧ iT v = l := by
  unfold szB
  constructor
  · intro h
    split at h
    · split at h
      · rename_i h1
        obtain rfl := Option.some.inj h
        exact h1
      · cases h
    · cases h
  · rintro ⟨h1, rfl⟩
    obtain ⟨n, rfl⟩ : ∃ n : Nat, v = (n : Int) := ⟨v.toNat, by omega⟩
    rw [atoi_iT n (by omega)]
    exact if_pos ⟨h1, rfl⟩
end Nt
end Go.Proofs.YtdbbemcddhgbcaaGreatDoor

/- Layer 22: the document's number -/
namespace Go.Proofs.YtdbbemcddhgbcaaGreatDoor
open Go.RowKit Go.Shelf
namespace Nt
/-- all ahead of a place are digits -/
def OkD (s : ByteArray) (k : Nat) : Prop := ∀ b ∈ s.data.toList.take k, dgB b = true
theorem take_next (s : ByteArray) (k : Nat) (h : k < s.size) : s.data.toList.take (k + 1) = s.data.toList.take k ++ [s[k]'h] := by
  rw [List.take_add_one, getL s k h]
  rfl
theorem OkD.next {s : ByteArray} {k : Nat} (h : OkD s k) (hk : k < s.size) (hb : dgB (s[k]'hk) = true) : OkD s (k + 1) := fun b hb' => by
  rw [take_next s k hk] at hb'
  rcases List.mem_append.1 hb' with h1 | h1
  · exact h b h1
  · rw [List.mem_singleton] at h1; subst h1; exact hb
theorem vl_fold : ∀ (l : List UInt8) (a : Nat), (∀ b ∈ l, dgB b = true) → l.foldl (fun a b => 10 * a + (b.toNat - 48)) a < (a + 1) * 10 ^ l.length
  | [], a, _ => by simp
  | b :: l, a, h => by
    have h1 := vl_fold l (10 * a + (b.toNat - 48)) fun x hx => h x (List.mem_cons_of_mem _ hx)
    have h2 := of_decide_eq_true (h b List.mem_cons_self)
    rw [List.foldl_cons, List.length_cons, Nat.pow_succ]
    refine Nat.lt_of_lt_of_le h1 ?_
    rw [Nat.mul_comm (10 ^ l.length) 10, ← Nat.mul_assoc]
    exact Nat.mul_le_mul_right _ (by omega)
theorem vl_lt (l : List UInt8) (h : ∀ b ∈ l, dgB b = true) : vlD l < 10 ^ l.length := by
  have := vl_fold l 0 h
  simpa [vlD] using this
/-- nothing but digits tells a size -/
theorem szB_none_sign {s : ByteArray} {k : Nat} (hk : k < s.size) (hb : dgB (s[k]'hk) = false) : szB s = none := by
  cases h : szB s with
  | none => rfl
  | some v =>
    obtain ⟨h1, h2⟩ := (szB_iff s v).1 h
    obtain ⟨n, rfl⟩ : ∃ n : Nat, v = (n : Int) := ⟨v.toNat, by omega⟩
    have := (dec_val n).2.1 (s[k]'hk) (by rw [← iT_dec, h2]; exact List.mem_of_getElem? (getL s k hk))
    rw [hb] at this; cases this
theorem szB_none_len {s : ByteArray} (h : s.size = 0 ∨ 13 < s.size) : szB s = none := by
  cases h' : szB s with
  | none => rfl
  | some v =>
    obtain ⟨h1, h2⟩ := (szB_iff s v).1 h'
    obtain ⟨n, rfl⟩ : ∃ n : Nat, v = (n : Int) := ⟨v.toNat, by omega⟩
    have e := iT_dec n
    rw [h2] at e
    have hl := dec_len 12 n (by omega)
    have hn := (dec_val n).2.2
    rw [← e, dlen] at hl
    rcases h with h | h
    · exact absurd (by rw [← e]; exact List.length_eq_zero_iff.1 (by rw [dlen]; exact h)) hn
    · omega
theorem szB_digits {s : ByteArray} : szB s = if ((vlD s.data.toList : Int) ≤ 1099511627776) ∧ iT (vlD s.data.toList : Int) = s then some (vlD s.data.toList : Int) else none := by
  split
  · rename_i h
    exact (szB_iff s _).2 ⟨⟨by omega, h.1⟩, h.2⟩
  · rename_i h
    cases h' : szB s with
    | none => rfl
    | some v =>
      obtain ⟨h1, h2⟩ := (szB_iff s v).1 h'
      obtain ⟨n, rfl⟩ : ∃ n : Nat, v = (n : Int) := ⟨v.toNat, by omega⟩
      have e := iT_dec n
      rw [h2] at e
      have : vlD s.data.toList = n := by rw [e]; exact (dec_val n).1
      rw [this] at h
      exact absurd ⟨h1.2, h2⟩ h
set_option maxRecDepth 100000 in
set_option maxHeartbeats 4000000 in
theorem rnumber_any (s : ByteArray) (w : World) : Calls Tryz.prog 66 #[.string s] w fun q w' => SzQ s q ∧ Below w.heap.size w w' := by
  by_cases hz : s.size = 0 ∨ 13 < s.size
  · have HE := hid fun z => SzP.no (z := z) (szB_none_len hz)
    have e0 : (⟨#[]⟩ : ByteArray).toList = [] := by simp [ByteArray.toList_eq]
    rcases hz with hz | hz
    · obtain rfl : s = ⟨#[]⟩ := by
        apply Go.WideShapes.bytes_inj
        have := dlen s
        rw [hz] at this
        rw [List.length_eq_zero_iff.1 this]
      clear hz
      go_enter Tryz.func66, Tryz.ntmps66
      go_wp2
      go_ret2
      exact ⟨⟨_, _, rfl, HE.out _⟩, Below.refl _ _⟩
    · have hb := ba_ne (a := s) (b := ⟨#[]⟩) (fun e => by rw [e] at hz; exact absurd hz (by decide))
      rw [e0] at hb
      have hz' : (13 : Int) < (s.size : Int) := by omega
      clear hz
      go_enter Tryz.func66, Tryz.ntmps66
      go_wp2
      go_ret2
      exact ⟨⟨_, _, rfl, HE.out _⟩, Below.refl _ _⟩
  · have e0 : (⟨#[]⟩ : ByteArray).toList = [] := by simp [ByteArray.toList_eq]
    have hb := ba_ne (a := s) (b := ⟨#[]⟩) (fun e => hz (by rw [e]; exact .inl rfl))
    rw [e0] at hb
    have hz' : ¬ (13 : Int) < (s.size : Int) := by omega
    have HL := hid (show s.size ≤ 13 by omega)
    clear hz e0
    go_enter Tryz.func66, Tryz.ntmps66
    go_wp2
    go_loopw [4, 5] (fun n i wr => ∃ pos : Nat, pos ≤ s.size ∧ i = .int .i64 (pos : Int) ∧ n = .int .i64 (vlD (s.data.toList.take pos) : Int) ∧ wr = w ∧ Hid (OkD s pos)) (fun _ i _ => s.size - (intOf i).toNat)
    case atStart => exact ⟨0, by omega, rfl, rfl, rfl, fun b hb => by simp at hb⟩
    case round =>
      obtain ⟨pos, hps, rfl, rfl, rfl, hok⟩ := hrel
      have hv : vlD (s.data.toList.take pos) < 10 ^ 13 := Nat.lt_of_lt_of_le (vl_lt _ hok.out) (Nat.pow_le_pow_right (by omega) (by rw [List.length_take]; have := HL.out; omega))
      by_cases hp : pos < s.size
      · have hp' : (pos : Int) < (s.size : Int) := by omega
        obtain ⟨c, hc0, hlt, hix, hcc⟩ := index_any s (pos : Int) pos rfl hp
        have h3 := hid (hcc hp)
        have hn := hid (take_next s pos hp)
        obtain ⟨V, hV⟩ : ∃ V, vlD (s.data.toList.take pos) = V := ⟨_, rfl⟩
        rw [hV] at hv ⊢
        have HV := hid hV
        clear hc0 hcc hV hb
        by_cases hd : 48 ≤ c ∧ c ≤ 57
        · have hd1 : ¬ (c : Int) < 48 := by omega
          have hd2 : ¬ (57 : Int) < (c : Int) := by omega
          have t1 : IntKind.u8.wrap ((c : Int) - 48) = ((c - 48 : Nat) : Int) := by rw [IntKind.wrap_u8']; omega
          have nx : Hid (OkD s (pos + 1)) := hok.out.next hp (by unfold dgB; rw [h3.out]; exact decide_eq_true hd)
          have nv : Hid (vlD (s.data.toList.take (pos + 1)) = 10 * V + (c - 48)) := by
            unfold Hid
            rw [hn.out, vlD_snoc, HV.out, h3.out]
          have HD := hid hd
          clear hd
          go_wp2
          have hn9 : vlD (s.data.toList.take (pos + 1)) = 10 * V + (c - 48) := nv.out
          exact ⟨⟨pos + 1, hp, by go_num, by rw [hn9]; go_num, trivial, nx⟩, by simp [intOf]; omega⟩
        · have HD := hid hd
          have HZ := hid fun z => SzP.no (z := z) (szB_none_sign hp (by unfold dgB; rw [h3.out]; exact decide_eq_false hd))
          by_cases hd1 : c < 48
          · have hd1' : (c : Int) < 48 := by omega
            clear hd
            go_wp2
            go_ret2
            exact ⟨⟨_, _, rfl, HZ.out _⟩, Below.refl _ _⟩
          · have hd1' : ¬ (c : Int) < 48 := by omega
            have hd2' : (57 : Int) < (c : Int) := by omega
            clear hd
            go_wp2
            go_ret2
            exact ⟨⟨_, _, rfl, HZ.out _⟩, Below.refl _ _⟩
      · obtain rfl : pos = s.size := by omega
        have ht : s.data.toList.take s.size = s.data.toList := List.take_of_length_le (by rw [dlen]; exact Nat.le_refl _)
        rw [ht] at hv ⊢
        have hZ := szB_digits (s := s)
        obtain ⟨V, hV⟩ : ∃ V, vlD s.data.toList = V := ⟨_, rfl⟩
        rw [hV] at hv hZ ⊢
        have HZ := hid hZ
        clear hZ hV ht
        have hp' : ¬ (s.size : Int) < (s.size : Int) := by omega
        clear hb
        by_cases h1 : V ≤ 1099511627776
        · have h1' : (V : Int) ≤ 1099511627776 := by omega
          have i1 := fun w => rdigits_any V (by omega) w
          by_cases h2 : iT (V : Int) = s
          · have HE := hid (SzP.yes (HZ.out.trans (if_pos ⟨h1', h2⟩)))
            have ht : ((iT (V : Int)).toList == s.toList) = true := by rw [h2]; exact beq_self_eq_true _
            clear h2 HZ
            go_wp2_with (go_at_call 44; (refine (i1 _).mono ?_); rintro q w1 ⟨rfl, rfl⟩)
            go_ret2
            exact ⟨⟨_, _, rfl, HE.out⟩, Below.refl _ _⟩
          · have HE := hid (SzP.no (z := (V : Int)) (HZ.out.trans (if_neg fun h => h2 h.2)))
            have ht := ba_ne h2
            clear h2 HZ
            go_wp2_with (go_at_call 44; (refine (i1 _).mono ?_); rintro q w1 ⟨rfl, rfl⟩)
            go_ret2
            exact ⟨⟨_, _, rfl, HE.out⟩, Below.refl _ _⟩
        · have h1' : ¬ (V : Int) ≤ 1099511627776 := by omega
          have HE := hid (SzP.no (z := (V : Int)) (HZ.out.trans (if_neg fun h => h1' h.1)))
          clear HZ
          go_wp2
          go_ret2
          exact ⟨⟨_, _, rfl, HE.out⟩, Below.refl _ _⟩
end Nt
end Go.Proofs.YtdbbemcddhgbcaaGreatDoor
