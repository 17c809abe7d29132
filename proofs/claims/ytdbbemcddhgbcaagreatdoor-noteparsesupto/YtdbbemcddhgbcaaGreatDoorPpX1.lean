import Derived.Test.YtdbbemcddhgbcaaGreatDoorPpNA1
import Derived.BigRegion
namespace Go.Proofs.YtdbbemcddhgbcaaGreatDoor
open Go.RowKit

/-- make([]byte, 0, c) -/
theorem make_B (w : World) (c : Nat) (hc : c ≤ 281474976710656) :
    ∃ w', (Instr.makeSlice 43 (.int .i64 0) (.int .i64 (c : Int))).run Tryz.prog w = .ok (.slice (some ⟨w.heap.size, 0, none⟩) 0 c) w' ∧ OwnB w' w.heap.size (.slice (some ⟨w.heap.size, 0, none⟩) 0 c) [] ∧ Below w.heap.size w w' := by
  obtain ⟨i0, hi, hz0, hz1, hz2⟩ := info_parts info5'
  obtain ⟨w', h1, h2, h3⟩ := run_make_own (P := Tryz.prog) w w.heap.size 43 5 i0 (.int .u8 0) 1 Tryz.underlying43 hi hz0 hz1 .i64 .i64 c (by rw [hz2]; omega) (by rw [maxLen]; omega) (Nat.le_refl _)
  refine ⟨w', h1, ?_, Below.ofGrown (v := .slice none 0 0) h3 (fun k hk => by cases hk) (Nat.le_refl _)⟩
  rcases h2.2 with ⟨h, _⟩ | ⟨g, cap, cur, hv, hg, hh, _, hm, hs, _⟩
  · cases h
  · injection hv with e1 e2 e3
    injection e1 with e1
    injection e1 with e1
    subst e1 e3
    exact .inr ⟨_, _, rfl, Nat.le_refl _, by simp [bv], hm, fun j v hj => by simp [bv] at hj, there_of_row hh 0 _ (by rw [hs]; omega), lt_of_heap hh⟩

theorem Own.shapeS {w : World} {base : Nat} {v : Value} {cs : List Value} (h : Own w base v cs) (hp : 0 < cs.length) (n : Nat) (hn : cs.length = n) : ∃ a cap, v = .slice (some a) n cap := by
  subst hn
  rcases h with ⟨rfl, rfl⟩ | ⟨g, cap, rfl, _⟩
  · simp at hp
  · exact ⟨⟨g, 0, none⟩, cap, rfl⟩
/-- an index into a constant text -/
theorem index_tab (tab : List UInt8) (i : Int) (k : Nat) (hi : i = (k : Int)) (h : k < tab.length) (x : Nat) (hx : (tab.getD k 0).toNat = x) (kd : IntKind) (w : World) :
    (Instr.index 9 (.string ⟨tab.toArray⟩) (.int kd i)).run Tryz.prog w = .ok (.int .u8 (x : Int)) w := by
  subst hi hx
  rw [run_index_string w 9 _ kd (k : Int) Tryz.underlying9]
  have hs : k < (ByteArray.mk tab.toArray).size := by rw [sv_size]; exact h
  have e : (ByteArray.mk tab.toArray)[k] = tab[k] := rfl
  rw [dif_pos ⟨by omega, by omega⟩]
  simp [h, e]
theorem index_any (s : ByteArray) (i : Int) (k : Nat) (hi : i = (k : Int)) (h : k < s.size) :
    ∃ x : Nat, Hid (x = (s.data.toList.getD k 0).toNat) ∧ x < 256 ∧ (∀ w, (Instr.index 9 (.string s) (.int .i64 i)).run Tryz.prog w = .ok (.int .u8 (x : Int)) w) ∧ ∀ (h : k < s.size), (s[k]'h).toNat = x := by
  have e : (s.data.toList.getD k 0).toNat = (s[k]'h).toNat := by
    rw [List.getD_eq_getElem?_getD, List.getElem?_eq_getElem (by rw [data_length]; exact h)]; rfl
  refine ⟨_, rfl, UInt8.toNat_lt _, fun w => ?_, fun _ => e.symm⟩
  subst hi
  rw [run_index_string w 9 s .i64 (k : Int) Tryz.underlying9, e]
  simp [h]

end Go.Proofs.YtdbbemcddhgbcaaGreatDoor

namespace Go.Proofs.YtdbbemcddhgbcaaGreatDoor
open Go.RowKit

end Go.Proofs.YtdbbemcddhgbcaaGreatDoor

/- THE PLAIN MATHEMATICS OF LAYER 1's TEXTS: Base64. -/
namespace Go.Proofs.YtdbbemcddhgbcaaGreatDoor.Tx
open Go

def tab : List UInt8 := [65, 66, 67, 68, 69, 70, 71, 72, 73, 74, 75, 76, 77, 78, 79, 80, 81, 82, 83, 84, 85, 86, 87, 88, 89, 90,
  97, 98, 99, 100, 101, 102, 103, 104, 105, 106, 107, 108, 109, 110, 111, 112, 113, 114, 115, 116, 117, 118, 119, 120, 121, 122,
  48, 49, 50, 51, 52, 53, 54, 55, 56, 57, 43, 47]
theorem tab_length : tab.length = 64 := by decide +kernel
def sgn (n : Nat) : UInt8 := tab.getD n 0
/-- the 24 bits of one to three bytes -/
def word3 (g : List UInt8) : Nat := (g.getD 0 0).toNat * 65536 + (g.getD 1 0).toNat * 256 + (g.getD 2 0).toNat
def wk (g : List UInt8) : Nat → Nat
  | 0 => 0
  | k + 1 => wk g k * 256 + (g.getD k 0).toNat
theorem wk_three (g : List UInt8) : wk g 3 = word3 g := by simp only [wk, word3]; omega
theorem wk_lt (g : List UInt8) : ∀ k, wk g k < 256 ^ k
  | 0 => by simp [wk]
  | k + 1 => by
    have := wk_lt g k
    have hb := UInt8.toNat_lt (g.getD k 0)
    rw [wk, Nat.pow_succ]; omega
def signs (n : Nat) : List UInt8 := [sgn (n / 2 ^ 18 % 64), sgn (n / 2 ^ 12 % 64), sgn (n / 2 ^ 6 % 64), sgn (n % 64)]
theorem signs_at (n k : Nat) (hk : k < 4) : (signs n).getD k 0 = sgn (n / 2 ^ (18 - 6 * k) % 64) := by
  match k, hk with
  | 0, _ => rfl
  | 1, _ => rfl
  | 2, _ => rfl
  | 3, _ => simp [signs]
theorem signs_take (n k : Nat) (hk : k < 4) : (signs n).take (k + 1) = (signs n).take k ++ [sgn (n / 2 ^ (18 - 6 * k) % 64)] := by
  rw [List.take_succ_eq_append_getElem (by simpa [signs] using hk), ← signs_at n k hk, List.getD_eq_getElem?_getD, List.getElem?_eq_getElem (by simpa [signs] using hk)]
  rfl
/-- a group's four signs -/
def grp (g : List UInt8) : List UInt8 := (signs (word3 g)).take (g.length + 1) ++ List.replicate (3 - g.length) 61
def b64 : List UInt8 → List UInt8
  | [] => []
  | [a] => grp [a]
  | [a, b] => grp [a, b]
  | a :: b :: c :: l => grp [a, b, c] ++ b64 l
theorem grp_length (g : List UInt8) (h1 : 1 ≤ g.length) (h3 : g.length ≤ 3) : (grp g).length = 4 := by simp [grp, signs]; omega
theorem b64_three (l : List UInt8) (h : 3 ≤ l.length) : b64 l = grp (l.take 3) ++ b64 (l.drop 3) := by
  match l, h with
  | a :: b :: c :: l, _ => simp [b64]
theorem b64_last (l : List UInt8) (h1 : 1 ≤ l.length) (h : l.length < 3) : b64 l = grp l := by
  match l, h1, h with
  | [a], _, _ => rfl
  | [a, b], _, _ => rfl
theorem b64_length : ∀ l : List UInt8, (b64 l).length = (l.length + 2) / 3 * 4
  | [] => rfl
  | [a] => by rw [b64, grp_length _ (by simp) (by simp)]; simp
  | [a, b] => by rw [b64, grp_length _ (by simp) (by simp)]; simp
  | a :: b :: c :: l => by
    rw [b64, List.length_append, grp_length _ (by simp) (by simp), b64_length l]
    simp only [List.length_cons]; omega

/-- what a sign stands for -/
def val (c : Nat) : Option Nat :=
  if 65 ≤ c ∧ c ≤ 90 then some (c - 65) else if 97 ≤ c ∧ c ≤ 122 then some (c - 71) else if 48 ≤ c ∧ c ≤ 57 then some (c + 4) else if c = 43 then some 62 else if c = 47 then some 63 else none
theorem val_lt {c x : Nat} (h : val c = some x) : x < 64 := by
  unfold val at h
  repeat (split at h; · injection h; omega)
  cases h
theorem val_sgn : ∀ n, n < 64 → val (sgn n).toNat = some n := by decide +kernel
theorem sgn_ne : ∀ n, n < 64 → sgn n ≠ 61 := by decide +kernel
theorem sgn_val_all : ∀ c, c < 256 → ∀ x, val c = some x → sgn x = UInt8.ofNat c := by
  intro c hc x h
  have h2 : (List.range 256).all (fun c => match val c with | some x => sgn x == UInt8.ofNat c | none => true) = true := by decide +kernel
  have := List.all_eq_true.1 h2 c (by simpa using hc)
  rw [h] at this
  simpa using this
theorem sgn_val {c : UInt8} {x : Nat} (h : val c.toNat = some x) : sgn x = c := by
  have := sgn_val_all c.toNat (UInt8.toNat_lt c) x h
  rwa [UInt8.ofNat_toNat] at this
theorem val_61 : val 61 = none := by decide
end Go.Proofs.YtdbbemcddhgbcaaGreatDoor.Tx

namespace Go.Proofs.YtdbbemcddhgbcaaGreatDoor
open Go.RowKit

theorem or_add (a x : Nat) (ha : a < 65536) (hx : x < 256) : bits .or .u32 ((a : Int) * 256) (x : Int) = ((a * 256 + x : Nat) : Int) := by
  rw [show (a : Int) * 256 = ((a * 256 : Nat) : Int) from by omega, u32_or_nat _ _ (by omega) (by omega), nat_join 8 (a * 256) x (by omega) (by omega)]

theorem tab_at (i : Int) (k : Nat) (hi : i = (k : Int)) (hk : k < 64) : ∀ (h : i.toNat < (ByteArray.mk Tx.tab.toArray).size), ((ByteArray.mk Tx.tab.toArray)[i.toNat]'h).toNat = (Tx.sgn k).toNat := by
  subst hi
  intro h
  have h2 : k < Tx.tab.length := by rw [Tx.tab_length]; exact hk
  rw [Tx.sgn, List.getD_eq_getElem?_getD, List.getElem?_eq_getElem h2]
  rfl
theorem and63 (a : Nat) (ha : a < 4294967296) : bits .and .u32 (a : Int) 63 = ((a % 64 : Nat) : Int) := by
  rw [show (63 : Int) = ((63 : Nat) : Int) from rfl, u32_and_nat _ _ ha (by omega), nat_mask6]

set_option maxRecDepth 100000 in
set_option maxHeartbeats 1000000 in
theorem appendGroup_any (base : Nat) (v : Value) (bs : List UInt8) (g : ByteArray) (h1 : 1 ≤ g.size) (h3 : g.size ≤ 3) (w : World) (hown : OwnB w base v bs) (hlen : bs.length ≤ 140737488355000) (hbase : base ≤ w.heap.size) :
    Calls Tryz.prog 77 #[v, .string g] w fun e w' => ∃ v', e = .returned v' ∧ OwnB w' base v' (bs ++ Tx.grp g.data.toList) ∧ Below base w w' := by
  have Hown := hid hown
  clear hown
  have h1' : (1 : Int) ≤ (g.size : Int) := by omega
  have h3' : (g.size : Int) ≤ 3 := by omega
  go_enter Tryz.func77, Tryz.ntmps77
  go_wp2
  go_loop [5, 8] (fun n i => ∃ k : Nat, k ≤ 3 ∧ i = .int .i64 k ∧ n = .int .u32 (Tx.wk g.data.toList k : Nat)) (fun _ i => 3 - (intOf i).toNat)
  case atStart => exact ⟨0, by omega, rfl, rfl⟩
  case round =>
    obtain ⟨k, hk, rfl, rfl⟩ := hrel
    by_cases hlt : k < 3
    · have b0 : (k : Int) < 3 := by omega
      have lw : Tx.wk g.data.toList k < 65536 := by
        have := Tx.wk_lt g.data.toList k
        have h2 : 256 ^ k ≤ 256 ^ 2 := Nat.pow_le_pow_right (by decide) (by omega)
        omega
      have hwk := hid (show Tx.wk g.data.toList (k + 1) = Tx.wk g.data.toList k * 256 + (g.data.toList.getD k 0).toNat from rfl)
      by_cases hin : k < g.size
      · have hin' : (k : Int) < (g.size : Int) := by omega
        obtain ⟨x, ex, lx, _, jx⟩ := index_any g (k : Int) k rfl hin
        have hor := or_add (Tx.wk g.data.toList k) x lw lx
        rw [← ex.out] at hwk
        generalize Tx.wk g.data.toList k = a at *
        go_wp2
        exact ⟨⟨k + 1, by omega, by go_num, val_int (by rw [hwk.out]; omega)⟩, by simp [intOf]; omega⟩
      · have hin' : ¬ (k : Int) < (g.size : Int) := by omega
        have hz : (g.data.toList.getD k 0).toNat = 0 := by rw [List.getD_eq_getElem?_getD, List.getElem?_eq_none (by rw [data_length]; omega)]; rfl
        rw [hz] at hwk
        generalize Tx.wk g.data.toList k = a at *
        go_wp2
        exact ⟨⟨k + 1, by omega, by go_num, val_int (by rw [hwk.out]; omega)⟩, by simp [intOf]; omega⟩
    · obtain rfl : k = 3 := by omega
      have Hn := hid (Tx.wk_three g.data.toList)
      have ln : Tx.wk g.data.toList 3 < 16777216 := Tx.wk_lt g.data.toList 3
      generalize Tx.wk g.data.toList 3 = n at *
      generalize hm : g.size = m at *
      go_wp2
      go_loopw [0, 27] (fun v i w' => ∃ k : Nat, k ≤ m + 1 ∧ i = .int .i64 k ∧ OwnB w' base v (bs ++ (Tx.signs n).take k) ∧ Below base w w') (fun _ i _ => m + 1 - (intOf i).toNat)
      case atStart => exact ⟨0, by omega, rfl, by simpa using Hown.out, Below.refl _ _⟩
      case round =>
        obtain ⟨k, hk, rfl, hown, hb⟩ := hrel
        by_cases hlt : k < m + 1
        · have b0 : (k : Int) < (m : Int) + 1 := by omega
          have b1 : (k : Int) ≤ 3 := by omega
          have ediv : (n : Int) / 2 ^ (18 - 6 * k) = ((n / 2 ^ (18 - 6 * k) : Nat) : Int) := by rw [Int.natCast_ediv, Int.natCast_pow]; rfl
          have ldiv : n / 2 ^ (18 - 6 * k) < 4294967296 := Nat.lt_of_le_of_lt (Nat.div_le_self _ _) (by omega)
          have hand : bits .and .u32 ((n : Int) / 2 ^ (18 - 6 * k)) 63 = (n : Int) / 2 ^ (18 - 6 * k) % 64 := by rw [ediv, and63 _ ldiv]; omega
          have htab := tab_at ((n : Int) / 2 ^ (18 - 6 * k) % 64) (n / 2 ^ (18 - 6 * k) % 64) (by rw [ediv]; omega) (by omega)
          have c0 : (0 : Int) ≤ (n : Int) / 2 ^ (18 - 6 * k) % 64 := by omega
          have c1 : (n : Int) / 2 ^ (18 - 6 * k) % 64 < 64 := by omega
          simp only [Tx.tab] at htab
          obtain ⟨v2, w2, hc, hown2, hg2, _⟩ := append_new wr base u0 _ [Tx.sgn (n / 2 ^ (18 - 6 * k) % 64)] 1 #[.int .u8 (Tx.sgn (n / 2 ^ (18 - 6 * k) % 64)).toNat] rfl rfl hown (by simp [Tx.signs]; omega) (by have := hb.size; omega) (by omega)
          rw [List.append_assoc, ← Tx.signs_take n k (by omega)] at hown2
          have Hown2 := hid hown2
          have Hb2 := hid (hb.trans (Below.ofGrown hg2 hown.ge (by have := hb.size; omega)))
          clear hown2 hg2 hown hb ediv ldiv
          generalize (Tx.sgn (n / 2 ^ (18 - 6 * k) % 64)).toNat = q at *
          go_wp2_with (at_builtin; go_must (refine Lib.wpList_append_run _ rfl _ _ 43 43 rfl _ _ rfl rfl _ _ hc ?_))
          exact ⟨⟨k + 1, by omega, by go_num, Hown2.out, Hb2.out⟩, by simp [intOf]; omega⟩
        · obtain rfl : k = m + 1 := by omega
          have hbs := hb.size
          have Hown3 := hid hown
          have Hb := hid hb
          have hne : u0 = .slice none 0 0 → False := fun h => by
            rcases hown with ⟨_, h2⟩ | ⟨g', cap', h2, _⟩
            · have := congrArg List.length h2
              simp [Tx.signs] at this
            · rw [h] at h2; cases h2
          have hgr : Hid (Tx.grp g.data.toList = (Tx.signs n).take (m + 1) ++ List.replicate (3 - m) 61) := by
            show _ = _
            rw [Tx.grp, ← Hn.out, data_length, hm]
          have hll : (bs ++ (Tx.signs n).take (m + 1)).length ≤ 140737488355100 := by simp [Tx.signs]; omega
          have hm1 : m = 1 ∨ m = 2 ∨ m = 3 := by omega
          clear hb
          rcases hm1 with rfl | rfl | rfl
          · obtain ⟨v3, w3, hc3, hown3, hg3, _⟩ := append_str wr base u0 _ (ByteArray.extract ⟨#[61, 61]⟩ 0 2) hown (by have : (ByteArray.extract ⟨#[61, 61]⟩ 0 2).size = 2 := rfl; omega) (by omega) (fun h => (hne h).elim)
            have Hown4 := hid hown3
            have Hb4 := hid (Hb.out.trans (Below.ofGrown hg3 hown.ge (by omega)))
            clear hown3 hg3 hown
            go_wp2_with (at_builtin; go_must (refine Lib.wpList_append_run _ rfl _ _ 43 9 rfl _ _ rfl rfl _ _ hc3 ?_))
            go_ret
            refine ⟨_, rfl, ?_, Hb4.out⟩
            have := Hown4.out
            rwa [List.append_assoc, show (ByteArray.extract ⟨#[61, 61]⟩ 0 2).data.toList = List.replicate (3 - 1) 61 from by decide +kernel, ← hgr.out] at this
          · obtain ⟨v3, w3, hc3, hown3, hg3, _⟩ := append_str wr base u0 _ (ByteArray.extract ⟨#[61, 61]⟩ 0 1) hown (by have : (ByteArray.extract ⟨#[61, 61]⟩ 0 1).size = 1 := rfl; omega) (by omega) (fun h => (hne h).elim)
            have Hown4 := hid hown3
            have Hb4 := hid (Hb.out.trans (Below.ofGrown hg3 hown.ge (by omega)))
            clear hown3 hg3 hown
            go_wp2_with (at_builtin; go_must (refine Lib.wpList_append_run _ rfl _ _ 43 9 rfl _ _ rfl rfl _ _ hc3 ?_))
            go_ret
            refine ⟨_, rfl, ?_, Hb4.out⟩
            have := Hown4.out
            rwa [List.append_assoc, show (ByteArray.extract ⟨#[61, 61]⟩ 0 1).data.toList = List.replicate (3 - 2) 61 from by decide +kernel, ← hgr.out] at this
          · obtain ⟨v3, w3, hc3, hown3, hg3, _⟩ := append_str wr base u0 _ (ByteArray.extract ⟨#[61, 61]⟩ 0 0) hown (by have : (ByteArray.extract ⟨#[61, 61]⟩ 0 0).size = 0 := rfl; omega) (by omega) (fun h => (hne h).elim)
            have Hown4 := hid hown3
            have Hb4 := hid (Hb.out.trans (Below.ofGrown hg3 hown.ge (by omega)))
            clear hown3 hg3 hown
            go_wp2_with (at_builtin; go_must (refine Lib.wpList_append_run _ rfl _ _ 43 9 rfl _ _ rfl rfl _ _ hc3 ?_))
            go_ret
            refine ⟨_, rfl, ?_, Hb4.out⟩
            have := Hown4.out
            rwa [List.append_assoc, show (ByteArray.extract ⟨#[61, 61]⟩ 0 0).data.toList = List.replicate (3 - 3) 61 from by decide +kernel, ← hgr.out] at this
end Go.Proofs.YtdbbemcddhgbcaaGreatDoor

namespace Go.Proofs.YtdbbemcddhgbcaaGreatDoor
open Go.RowKit

theorem take_data (r : ByteArray) (k : Nat) : (r.extract 0 k).data.toList = r.data.toList.take k := by
  rw [Lib.extract_data]; simp
theorem take_size (r : ByteArray) (k : Nat) (h : k ≤ r.size) : (r.extract 0 k).size = k := by
  rw [← data_length, take_data, List.length_take, data_length]; omega
theorem drop_size (r : ByteArray) (k : Nat) : (r.extract k r.size).size = r.size - k := by
  rw [← data_length, drop_rest, List.length_drop, data_length]
theorem Own.ne {w : World} {base : Nat} {v : Value} {cs : List Value} (h : Own w base v cs) (hp : 0 < cs.length) : v ≠ .slice none 0 0 := by
  rcases h with ⟨_, rfl⟩ | ⟨g, cap, rfl, _⟩
  · simp at hp
  · intro h; injection h with h; cases h

set_option maxRecDepth 100000 in
set_option maxHeartbeats 1000000 in
theorem base64_any (s : ByteArray) (hs : s.size ≤ 70368744177664) (w : World) :
    Calls Tryz.prog 54 #[.string s] w fun e w' => e = .returned (sv (Tx.b64 s.data.toList)) ∧ Below w.heap.size w w' := by
  obtain ⟨w0, hmk, hown0, hb0⟩ := make_B w ((s.size + 3 - 1) / 3 * 4) (by omega)
  have e2 : (((s.size + 3 - 1) / 3 * 4 : Nat) : Int) = ((s.size : Int) + 3 - 1) / 3 * 4 := by omega
  rw [e2] at hmk
  have Hown0 := hid hown0
  have Hb0 := hid hb0
  clear hown0 hb0 e2
  have hs' : (s.size : Int) ≤ 70368744177664 := by omega
  have Hl := hid (Tx.b64_length s.data.toList)
  go_enter Tryz.func54, Tryz.ntmps54
  go_wp2
  go_loopw [0, 3] (fun sv' v w' => ∃ (r : ByteArray) (acc : List UInt8), sv' = .string r ∧ r.size ≤ s.size ∧ Hid (Tx.b64 s.data.toList = acc ++ Tx.b64 r.data.toList) ∧ Hid (v ≠ .slice none 0 0) ∧ OwnB w' w.heap.size v acc ∧ Below w.heap.size w w') (fun sv' _ _ => strLen sv')
  case atStart => exact ⟨s, [], rfl, Nat.le_refl _, rfl, (by intro h; injection h with h; cases h), Hown0.out, Hb0.out⟩
  case round =>
    obtain ⟨r, acc, rfl, hr, hacc, hne, hown, hb⟩ := hrel
    have hl : acc.length ≤ 140737488355000 := by
      have := congrArg List.length hacc.out
      rw [Hl.out, data_length, List.length_append] at this
      omega
    have Hown := hid hown
    have Hb := hid hb
    have hbs := hb.size
    clear hown hb
    by_cases h3 : 3 ≤ r.size
    · have h3' : (3 : Int) ≤ (r.size : Int) := by omega
      have ts := take_size r 3 h3
      have ds := drop_size r 3
      go_wp2_with (go_at_call 77; go_must (refine (appendGroup_any w.heap.size u3 acc (r.extract 0 3) (by omega) (by omega) _ Hown.out hl hbs).mono ?_; rintro e w1 ⟨v1, rfl, hown1, hb1⟩))
      refine ⟨⟨_, acc ++ Tx.grp (r.extract 0 3).data.toList, rfl, by omega, ?_, hid (hown1.ne (by simp [Tx.grp, Tx.signs]; omega)), hown1, Hb.out.trans hb1⟩, by simp [strLen]; omega⟩
      show _ = _
      rw [hacc.out, take_data, drop_rest, List.append_assoc, ← Tx.b64_three _ (by rw [data_length]; exact h3)]
    · have h3' : ¬ (3 : Int) ≤ (r.size : Int) := by omega
      by_cases h0 : 0 < r.size
      · have h0' : (0 : Int) < (r.size : Int) := by omega
        go_wp2_with (go_at_call 77; go_must (refine (appendGroup_any w.heap.size u3 acc r (by omega) (by omega) _ Hown.out hl hbs).mono ?_; rintro e w1 ⟨v1, rfl, hown1, hb1⟩; have hcv := conv_own hown1 (hown1.ne (by simp [Tx.grp, Tx.signs]; omega))))
        go_ret
        refine ⟨?_, Hb.out.trans hb1⟩
        show Ending.returned (sv (acc ++ Tx.grp r.data.toList)) = _
        rw [hacc.out, Tx.b64_last _ (by rw [data_length]; omega) (by rw [data_length]; omega)]
      · have h0' : ¬ (0 : Int) < (r.size : Int) := by omega
        have hcv := conv_own Hown.out hne.out
        go_wp2
        go_ret
        refine ⟨?_, Hb.out⟩
        have hz : r.data.toList = [] := List.length_eq_zero_iff.1 (by rw [data_length]; omega)
        show Ending.returned (sv acc) = _
        rw [hacc.out, hz, Tx.b64, List.append_nil]
end Go.Proofs.YtdbbemcddhgbcaaGreatDoor

namespace Go.Proofs.YtdbbemcddhgbcaaGreatDoor
open Go.RowKit

set_option maxHeartbeats 400000 in
theorem baseValue_up (n : Nat) (h1 : 65 ≤ n) (h2 : n ≤ 90) (w : World) :
    Calls Tryz.prog 119 #[.int .u8 (n : Int)] w fun e w' => e = .returned (.tuple #[.int .u32 ((n : Int) - 65), .bool true]) ∧ w' = w := by
  have g1 : (65 : Int) ≤ (n : Int) := by omega
  have g2 : (n : Int) ≤ 90 := by omega
  go_enter Tryz.func119, Tryz.ntmps119
  go_wp2
  go_ret2
  exact ⟨rfl, rfl⟩
set_option maxHeartbeats 400000 in
theorem baseValue_low (n : Nat) (h1 : 97 ≤ n) (h2 : n ≤ 122) (w : World) :
    Calls Tryz.prog 119 #[.int .u8 (n : Int)] w fun e w' => e = .returned (.tuple #[.int .u32 ((n : Int) - 97 + 26), .bool true]) ∧ w' = w := by
  have g1 : (97 : Int) ≤ (n : Int) := by omega
  have g2 : (n : Int) ≤ 122 := by omega
  have g3 : ¬ (n : Int) ≤ 90 := by omega
  have g4 : (65 : Int) ≤ (n : Int) := by omega
  go_enter Tryz.func119, Tryz.ntmps119
  go_wp2
  go_ret2
  exact ⟨rfl, rfl⟩
set_option maxHeartbeats 400000 in
theorem baseValue_dig (n : Nat) (h1 : 48 ≤ n) (h2 : n ≤ 57) (w : World) :
    Calls Tryz.prog 119 #[.int .u8 (n : Int)] w fun e w' => e = .returned (.tuple #[.int .u32 ((n : Int) - 48 + 52), .bool true]) ∧ w' = w := by
  have g1 : (48 : Int) ≤ (n : Int) := by omega
  have g2 : (n : Int) ≤ 57 := by omega
  have g3 : ¬ (65 : Int) ≤ (n : Int) := by omega
  have g4 : ¬ (97 : Int) ≤ (n : Int) := by omega
  go_enter Tryz.func119, Tryz.ntmps119
  go_wp2
  go_ret2
  exact ⟨rfl, rfl⟩
set_option maxHeartbeats 400000 in
theorem baseValue_plus (w : World) :
    Calls Tryz.prog 119 #[.int .u8 43] w fun e w' => e = .returned (.tuple #[.int .u32 62, .bool true]) ∧ w' = w := by
  go_enter Tryz.func119, Tryz.ntmps119
  go_wp2
  go_ret2
  exact ⟨rfl, rfl⟩
set_option maxHeartbeats 400000 in
theorem baseValue_slash (w : World) :
    Calls Tryz.prog 119 #[.int .u8 47] w fun e w' => e = .returned (.tuple #[.int .u32 63, .bool true]) ∧ w' = w := by
  go_enter Tryz.func119, Tryz.ntmps119
  go_wp2
  go_ret2
  exact ⟨rfl, rfl⟩
set_option maxHeartbeats 1000000 in
theorem baseValue_no (n : Nat) (h1 : ¬ (65 ≤ n ∧ n ≤ 90)) (h2 : ¬ (97 ≤ n ∧ n ≤ 122)) (h3 : ¬ (48 ≤ n ∧ n ≤ 57)) (h4 : n ≠ 43) (h5 : n ≠ 47) (w : World) :
    Calls Tryz.prog 119 #[.int .u8 (n : Int)] w fun e w' => e = .returned (.tuple #[.int .u32 0, .bool false]) ∧ w' = w := by
  have e1 : ((n : Int) == 43) = false := by simp; omega
  have e2 : ((n : Int) == 47) = false := by simp; omega
  have c1 : ¬ (65 : Int) ≤ (n : Int) ∨ ¬ (n : Int) ≤ 90 := by omega
  have c2 : ¬ (97 : Int) ≤ (n : Int) ∨ ¬ (n : Int) ≤ 122 := by omega
  have c3 : ¬ (48 : Int) ≤ (n : Int) ∨ ¬ (n : Int) ≤ 57 := by omega
  clear h1 h2 h3 h4 h5
  go_enter Tryz.func119, Tryz.ntmps119
  rcases c1 with g1 | g1 <;> rcases c2 with g2 | g2 <;> rcases c3 with g3 | g3
  all_goals try omega
  all_goals go_wp2
  all_goals try omega
  all_goals go_ret2
  all_goals exact ⟨rfl, rfl⟩
theorem baseValue_any (n : Nat) (w : World) :
    Calls Tryz.prog 119 #[.int .u8 (n : Int)] w fun e w' => ∃ (x : Nat) (b : Bool), e = .returned (.tuple #[.int .u32 (x : Int), .bool b]) ∧ w' = w ∧ x < 64 ∧ Hid ((b = true → Tx.val n = some x) ∧ (b = false → Tx.val n = none)) := by
  by_cases h1 : 65 ≤ n ∧ n ≤ 90
  · refine (baseValue_up n h1.1 h1.2 w).mono ?_
    rintro e w' ⟨rfl, rfl⟩
    exact ⟨n - 65, true, by rw [show ((n - 65 : Nat) : Int) = (n : Int) - 65 from by omega], rfl, by omega, hid ⟨(fun _ => by rw [Tx.val, if_pos h1]), (fun h => by cases h)⟩⟩
  by_cases h2 : 97 ≤ n ∧ n ≤ 122
  · refine (baseValue_low n h2.1 h2.2 w).mono ?_
    rintro e w' ⟨rfl, rfl⟩
    exact ⟨n - 71, true, by rw [show ((n - 71 : Nat) : Int) = (n : Int) - 97 + 26 from by omega], rfl, by omega, hid ⟨(fun _ => by rw [Tx.val, if_neg h1, if_pos h2]), (fun h => by cases h)⟩⟩
  by_cases h3 : 48 ≤ n ∧ n ≤ 57
  · refine (baseValue_dig n h3.1 h3.2 w).mono ?_
    rintro e w' ⟨rfl, rfl⟩
    exact ⟨n + 4, true, by rw [show ((n + 4 : Nat) : Int) = (n : Int) - 48 + 52 from by omega], rfl, by omega, hid ⟨(fun _ => by rw [Tx.val, if_neg h1, if_neg h2, if_pos h3]), (fun h => by cases h)⟩⟩
  by_cases h4 : n = 43
  · subst h4
    refine (baseValue_plus w).mono ?_
    rintro e w' ⟨rfl, rfl⟩
    exact ⟨62, true, rfl, rfl, by omega, hid ⟨(fun _ => rfl), (fun h => by cases h)⟩⟩
  by_cases h5 : n = 47
  · subst h5
    refine (baseValue_slash w).mono ?_
    rintro e w' ⟨rfl, rfl⟩
    exact ⟨63, true, rfl, rfl, by omega, hid ⟨(fun _ => rfl), (fun h => by cases h)⟩⟩
  · refine (baseValue_no n h1 h2 h3 h4 h5 w).mono ?_
    rintro e w' ⟨rfl, rfl⟩
    exact ⟨0, false, rfl, rfl, by omega, hid ⟨(fun h => by cases h), (fun _ => by rw [Tx.val, if_neg h1, if_neg h2, if_neg h3, if_neg h4, if_neg h5])⟩⟩
end Go.Proofs.YtdbbemcddhgbcaaGreatDoor
