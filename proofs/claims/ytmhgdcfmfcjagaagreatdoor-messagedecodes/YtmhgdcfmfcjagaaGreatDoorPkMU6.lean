import Derived.Test.YtmhgdcfmfcjagaaGreatDoorPkMU4
import Derived.Test.YtmhgdcfmfcjagaaGreatDoorPkMT6
import Derived.Test.YtmhgdcfmfcjagaaGreatDoorPkMU1
namespace Go.Proofs.YtmhgdcfmfcjagaaGreatDoor
open Go.RowKit Cod
namespace Msg

abbrev rp0 : Value := .agg #[.int .i64 0, .int .i64 0, .int .i64 0, .int .i64 0, .string ⟨#[]⟩, .slice none 0 0, .slice none 0 0, .slice none 0 0]
/-- a request that was taken: where its lists lie -/
def GotR (w : World) (lo : Nat) (x : Part) (l : List Part) (ul ue ua : Value) : Prop :=
  Slc w ul x.hs ∧ Nw lo w.heap.size ul ∧ Slc w ue x.ent ∧ Nw lo w.heap.size ue ∧ Ps w lo w.heap.size ua l ∧ x.n = l.length
def DOkR (q : PR) (r : List UInt8) (w : World) (e : Ending) (w' : World) : Prop :=
  if (decide (q.2.1.done = 0) && !q.2.2) = true then ∃ ul ue ua, e = .returned (.tuple #[rpV q.1.1 ul ue ua, sv r, .int .i64 0]) ∧ GotR w' w.heap.size q.1.1 q.1.2 ul ue ua
  else e = .returned (.tuple #[rp0, sv [], .int .i64 173])
/-- what Decode answers -/
def DPostR (K : Nat) (s : List UInt8) (w : World) (e : Ending) (w' : World) : Prop :=
  Below w.heap.size w w' ∧ match rdText s 1048576 with
  | .bad k => e = .returned (.tuple #[rp0, sv [], .int .i64 (unfr k)])
  | .good p r => DOkR (tReply K (⟨p, 0, 0⟩, false)) r w e w'
set_option maxRecDepth 100000 in
set_option maxHeartbeats 4000000 in
theorem decodeR_bad (K : Nat) (hK : K ≤ 12) (s : ByteArray) (w : World) (hs : s.size ≤ maxLen) (k : Nat) (hR : rdText s.data.toList 1048576 = .bad k) :
    Calls Tryz.prog 24 #[.int .i64 (K : Int), .string s] w (DPostR K s.data.toList w) := by
  have hwi : wi (K : Int) 0 12 = true := wi_iff.2 ⟨by omega, by omega⟩
  have i1 := unframeM_any s (w.alloc (.cells #[.int .i64 0, .int .i64 0, .int .i64 0, .int .i64 0, .string ⟨#[]⟩, .slice none 0 0, .slice none 0 0, .slice none 0 0] 45)) hs
  rw [hR] at i1
  have i1 : Calls Tryz.prog 49 #[.string s] (w.alloc (.cells #[.int .i64 0, .int .i64 0, .int .i64 0, .int .i64 0, .string ⟨#[]⟩, .slice none 0 0, .slice none 0 0, .slice none 0 0] 45)) fun e w' => e = .returned (.tuple #[sv [], sv [], .int .i64 (unfr k)]) ∧ Below (w.alloc (.cells #[.int .i64 0, .int .i64 0, .int .i64 0, .int .i64 0, .string ⟨#[]⟩, .slice none 0 0, .slice none 0 0, .slice none 0 0] 45)).heap.size (w.alloc (.cells #[.int .i64 0, .int .i64 0, .int .i64 0, .int .i64 0, .string ⟨#[]⟩, .slice none 0 0, .slice none 0 0, .slice none 0 0] 45)) w' := i1
  have hne := unfr_ne k
  unfold DPostR
  rw [hR]
  show Calls _ _ _ _ fun e w' => Below w.heap.size w w' ∧ e = .returned (.tuple #[rp0, sv [], .int .i64 (unfr k)])
  generalize unfr k = z at *
  have hb : (z == 0) = false := by simp [hne]
  clear hR
  have z1 := size_alloc w (.cells #[.int .i64 0, .int .i64 0, .int .i64 0, .int .i64 0, .string ⟨#[]⟩, .slice none 0 0, .slice none 0 0, .slice none 0 0] 45)
  have r0 := hid (heap_alloc_new w (.cells #[.int .i64 0, .int .i64 0, .int .i64 0, .int .i64 0, .string ⟨#[]⟩, .slice none 0 0, .slice none 0 0, .slice none 0 0] 45))
  have b0 := hid ((Below.refl w.heap.size w).alloc (Nat.le_refl _) (.cells #[.int .i64 0, .int .i64 0, .int .i64 0, .int .i64 0, .string ⟨#[]⟩, .slice none 0 0, .slice none 0 0, .slice none 0 0] 45))
  go_enter Tryz.func24, Tryz.ntmps24
  go_wp2_with (first
    | (go_at_call 28; refine (within_any _ _ _ _).mono ?_; rw [hwi]; rintro e w' ⟨rfl, hw'⟩; rw [hw']; clear hw' w')
    | (go_at_call 49; refine i1.mono ?_; rintro e w1 ⟨rfl, h1⟩; have R1 := hid ((h1.block _ (by omega)).trans r0.out); have B1 := hid (b0.out.trans (h1.mono b0.out.size)); clear h1)
    | ((with_reducible show wpList _ _ _ (Oper.mk _ (Op.store 45 _ _) _ _ _ _ :: _) _ _); go_must (refine wpList_store_row rfl 45 _ _ rfl w.heap.size _ rfl rfl 45 _ R1.out (sizeRp' _ _ _ _ _ _ _ _) rfl (oneRp _ _ _ _ _ _ _ _ _ _ _ _ _ _) ?_)))
  refine bodyPost_ret (results_row_tmp2 rfl _ _ w.heap.size 45 _ (0, 0) _ rfl (setRow_heap _ _ _ _ _ _ R1.out) Tryz.underlying45 rfl sizeRp) rfl ?_
  exact ⟨Below.setRow B1.out (Nat.le_refl _) _, rfl⟩
set_option maxRecDepth 100000 in
set_option maxHeartbeats 4000000 in
theorem decodeR_good (K : Nat) (hK : K ≤ 12) (s : ByteArray) (w : World) (T : Lay w) (hs : s.size ≤ maxLen) (p r : List UInt8) (hR : rdText s.data.toList 1048576 = .good p r) :
    Calls Tryz.prog 24 #[.int .i64 (K : Int), .string s] w (DPostR K s.data.toList w) := by
  have hwi : wi (K : Int) 0 12 = true := wi_iff.2 ⟨by omega, by omega⟩
  have i1 := unframeM_any s (w.alloc (.cells #[.int .i64 0, .int .i64 0, .int .i64 0, .int .i64 0, .string ⟨#[]⟩, .slice none 0 0, .slice none 0 0, .slice none 0 0] 45)) hs
  rw [hR] at i1
  have i1 : Calls Tryz.prog 49 #[.string s] (w.alloc (.cells #[.int .i64 0, .int .i64 0, .int .i64 0, .int .i64 0, .string ⟨#[]⟩, .slice none 0 0, .slice none 0 0, .slice none 0 0] 45)) fun e w' => e = .returned (.tuple #[.string ⟨p.toArray⟩, .string ⟨r.toArray⟩, .int .i64 0]) ∧ Below (w.alloc (.cells #[.int .i64 0, .int .i64 0, .int .i64 0, .int .i64 0, .string ⟨#[]⟩, .slice none 0 0, .slice none 0 0, .slice none 0 0] 45)).heap.size (w.alloc (.cells #[.int .i64 0, .int .i64 0, .int .i64 0, .int .i64 0, .string ⟨#[]⟩, .slice none 0 0, .slice none 0 0, .slice none 0 0] 45)) w' := i1
  have hpl : p.length ≤ 1048576 := by have := (text_back hR).2.2.1; omega
  unfold DPostR
  rw [hR]
  have hT := T.lt
  have HT := hid T
  have HP := hid hpl
  clear hR T hpl
  have z1 := size_alloc w (.cells #[.int .i64 0, .int .i64 0, .int .i64 0, .int .i64 0, .string ⟨#[]⟩, .slice none 0 0, .slice none 0 0, .slice none 0 0] 45)
  have r0 := hid (heap_alloc_new w (.cells #[.int .i64 0, .int .i64 0, .int .i64 0, .int .i64 0, .string ⟨#[]⟩, .slice none 0 0, .slice none 0 0, .slice none 0 0] 45))
  have b0 := hid ((Below.refl w.heap.size w).alloc (Nat.le_refl _) (.cells #[.int .i64 0, .int .i64 0, .int .i64 0, .int .i64 0, .string ⟨#[]⟩, .slice none 0 0, .slice none 0 0, .slice none 0 0] 45))
  obtain ⟨q, hq⟩ : ∃ q, Hid (tReply K (⟨p, 0, 0⟩, false) = q) := ⟨_, rfl⟩
  show Calls _ _ _ _ fun e w' => Below w.heap.size w w' ∧ DOkR (tReply K (⟨p, 0, 0⟩, false)) r w e w'
  rw [hq.out]
  go_enter Tryz.func24, Tryz.ntmps24
  go_wp2_with (first
    | (go_at_call 28; refine (within_any _ _ _ _).mono ?_; rw [hwi]; rintro e w' ⟨rfl, hw'⟩; rw [hw']; clear hw' w')
    | (go_at_call 49; refine i1.mono ?_; rintro e w1 ⟨rfl, h1⟩; have R1 := hid ((h1.block _ (by omega)).trans r0.out); have B1 := hid (b0.out.trans (h1.mono b0.out.size)); have lt1 : w.heap.size < w1.heap.size := (by have := h1.size; omega); clear h1)
    | (go_at_call 50; fail))
  go_at_call 50
  refine (newReader_any ⟨p.toArray⟩ (by rw [sv_size]; have := HP.out; unfold maxLen; omega) w1).mono ?_
  rintro e w2 ⟨rfl, n1, n2, n3⟩
  rw [sv_data] at n1
  have hTk : Tk (w2.alloc (.cells #[.pointer (some ⟨w1.heap.size, 0, none⟩), .bool false] 86)) w1.heap.size w2.heap.size (⟨p, 0, 0⟩, false) :=
    ⟨heap_alloc_new _ _, n1.below ((Below.refl _ _).alloc (Nat.le_refl _) _), by omega, by have := HP.out; show p.length ≤ _; omega⟩
  have i2 := replyT_any hTk K hK
  rw [hq.out] at i2
  have b3 := (Below.refl w2.heap.size w2).alloc (Nat.le_refl _) (.cells #[.pointer (some ⟨w1.heap.size, 0, none⟩), .bool false] 86)
  have z3 := size_alloc w2 (.cells #[.pointer (some ⟨w1.heap.size, 0, none⟩), .bool false] 86)
  have R3 := hid ((b3.block _ (by omega)).trans ((n2.block _ (by omega)).trans R1.out))
  have B3 := hid ((B1.out.trans (n2.mono (by omega))).trans (b3.mono (by omega)))
  have L3 : w.heap.size < w2.heap.size := by omega
  have L1 : 1 ≤ w2.heap.size := by omega
  clear n1 n2 n3 hTk b3 R1 B1 z3
  go_wp2_with (go_at_call 58; fail)
  go_at_call 58
  refine i2.mono ?_
  rintro e w4 ⟨ul, ue, ua, rfl, g1, g2, g3, g4, g5, g6, g7, g8⟩
  obtain ⟨p1, n1, e1, _⟩ := id g1
  obtain ⟨p2, n2, e2, _⟩ := id g3
  obtain ⟨p3, n3, e3⟩ := g5.shape
  subst e1 e2 e3
  obtain ⟨W3, hW3⟩ : ∃ W3, Hid (w2.alloc (.cells #[.pointer (some ⟨w1.heap.size, 0, none⟩), .bool false] 86) = W3) := ⟨_, rfl⟩
  have z3 : w2.heap.size < W3.heap.size := by rw [← hW3.out, size_alloc]; omega
  rw [hW3.out] at g2 g4 g5 g8 R3 B3
  obtain ⟨cs, hcs⟩ : ∃ cs, Hid (#[Value.int .i64 q.1.1.status, .int .i64 q.1.1.size, .int .i64 q.1.1.a, .int .i64 q.1.1.b, .string ⟨q.1.1.root.toArray⟩, .slice p1 q.1.1.hs.length n1, .slice p2 q.1.1.ent.length n2, .slice p3 q.1.2.length n3] = cs) := ⟨_, rfl⟩
  have b5 := (Below.refl w4.heap.size w4).alloc (Nat.le_refl _) (.cells cs 45)
  have z5 := size_alloc w4 (.cells cs 45)
  have k4 := g8.size
  have b4 : Below w.heap.size w w4 := B3.out.trans (g8.below (by omega) (fun k hk e => by rcases e with e | e <;> omega))
  have r4 : w4.heap[w.heap.size]? = some (.cells #[.int .i64 0, .int .i64 0, .int .i64 0, .int .i64 0, .string ⟨#[]⟩, .slice none 0 0, .slice none 0 0, .slice none 0 0] 45 (0, 0)) := (g8.block _ (by omega) (fun e => by rcases e with e | e <;> omega)).trans R3.out
  have i3 := wholeT_any (g7.below b5) (HT.out.below (b4.trans (b5.mono (by omega))) hT)
  have r5 := heap_alloc_new w4 (.cells cs 45)
  have G : Hid (∀ w6, Below (w4.alloc (.cells cs 45)).heap.size (w4.alloc (.cells cs 45)) w6 → Below w.heap.size w w6 ∧ w6.heap[w.heap.size]? = some (.cells #[.int .i64 0, .int .i64 0, .int .i64 0, .int .i64 0, .string ⟨#[]⟩, .slice none 0 0, .slice none 0 0, .slice none 0 0] 45 (0, 0)) ∧ w6.heap[w4.heap.size]? = some (.cells cs 45 (0, 0)) ∧
      GotR (w6.setRow w.heap.size cs) w.heap.size q.1.1 q.1.2 (.slice p1 q.1.1.hs.length n1) (.slice p2 q.1.1.ent.length n2) (.slice p3 q.1.2.length n3)) := fun w6 h6 => by
    have b46 : Below w4.heap.size w4 w6 := b5.trans (h6.mono (by omega))
    refine ⟨b4.trans (b46.mono (by omega)), (b46.block _ (by omega)).trans r4, (h6.block _ (by omega)).trans r5, ?_⟩
    have k1 : Keep (fun k => k = w.heap.size) w4 (w6.setRow w.heap.size cs) := (Keep.ofBelow b46 : Keep (fun k => k = w.heap.size) w4 w6).trans (T := fun k => k = w.heap.size) ⟨rfl, rfl, rfl, by rw [setRow_size]; exact Nat.le_refl _, fun k _ hk => setRow_other w6 _ k _ hk⟩ (fun _ _ e => e)
    have hS : ∀ k, W3.heap.size ≤ k → k < w4.heap.size → ¬ k = w.heap.size := fun k k1 _ e => by omega
    exact ⟨g2.slc g1 k1 hS, g2.mono (by omega) k1.size, g4.slc g3 k1 hS, g4.mono (by omega) k1.size, (g5.keep k1 hS).mono (by omega) k1.size, g6⟩
  rw [← hcs.out] at i3
  rw [rpV, show sv q.1.1.root = .string ⟨q.1.1.root.toArray⟩ from rfl]
  clear g1 g2 g3 g4 g5 g6 g7 g8 b4 b5 r4 r5 R3 B3 i1 i2
  cases hok : (decide (q.2.1.done = 0) && !q.2.2) with
  | true =>
    rw [hok] at i3
    have HO := hid hok
    clear hok
    go_wp2_with (go_at_call 52; fail)
    go_at_call 52
    refine i3.mono ?_
    rintro e w6 ⟨rfl, h6⟩
    obtain ⟨j1, j2, j3, j4⟩ := G.out w6 (by rw [← hcs.out]; exact h6)
    have y0 : w6.cell? ⟨w4.heap.size, 0, none⟩ = some (.int .i64 q.1.1.status) := (by rw [cell_of_row _ _ _ _ _ _ j3, ← hcs.out]; rfl)
    have y1 : w6.cell? ⟨w4.heap.size, 1, none⟩ = some (.int .i64 q.1.1.size) := (by rw [cell_of_row _ _ _ _ _ _ j3, ← hcs.out]; rfl)
    have y2 : w6.cell? ⟨w4.heap.size, 2, none⟩ = some (.int .i64 q.1.1.a) := (by rw [cell_of_row _ _ _ _ _ _ j3, ← hcs.out]; rfl)
    have y3 : w6.cell? ⟨w4.heap.size, 3, none⟩ = some (.int .i64 q.1.1.b) := (by rw [cell_of_row _ _ _ _ _ _ j3, ← hcs.out]; rfl)
    have y4 : w6.cell? ⟨w4.heap.size, 4, none⟩ = some (.string ⟨q.1.1.root.toArray⟩) := (by rw [cell_of_row _ _ _ _ _ _ j3, ← hcs.out]; rfl)
    have y5 : w6.cell? ⟨w4.heap.size, 5, none⟩ = some (.slice p1 q.1.1.hs.length n1) := (by rw [cell_of_row _ _ _ _ _ _ j3, ← hcs.out]; rfl)
    have y6 : w6.cell? ⟨w4.heap.size, 6, none⟩ = some (.slice p2 q.1.1.ent.length n2) := (by rw [cell_of_row _ _ _ _ _ _ j3, ← hcs.out]; rfl)
    have y7 : w6.cell? ⟨w4.heap.size, 7, none⟩ = some (.slice p3 q.1.2.length n3) := (by rw [cell_of_row _ _ _ _ _ _ j3, ← hcs.out]; rfl)
    have J1 := hid j1
    have J2 := hid j2
    have J4 := hid j4
    clear h6 j1 j2 j3 j4
    go_wp2_with ((with_reducible show wpList _ _ _ (Oper.mk _ (Op.store 45 _ _) _ _ _ _ :: _) _ _); go_must (refine wpList_store_row rfl 45 _ _ rfl w.heap.size _ rfl rfl 45 _ J2.out (sizeRp' _ _ _ _ _ _ _ _) rfl (oneRp _ _ _ _ _ _ _ _ _ _ _ _ _ _) ?_))
    refine bodyPost_ret (results_row_tmp2 rfl _ _ w.heap.size 45 _ (0, 0) _ rfl (setRow_heap _ _ _ _ _ _ J2.out) Tryz.underlying45 rfl sizeRp) rfl ?_
    refine ⟨Below.setRow J1.out (Nat.le_refl _) _, ?_⟩
    unfold DOkR
    rw [if_pos HO.out]
    refine ⟨_, _, _, rfl, ?_⟩
    rw [hcs.out]
    exact J4.out
  | false =>
    rw [hok] at i3
    have HO := hid hok
    clear hok
    go_wp2_with (go_at_call 52; fail)
    go_at_call 52
    refine i3.mono ?_
    rintro e w6 ⟨rfl, h6⟩
    obtain ⟨j1, j2, j3, j4⟩ := G.out w6 (by rw [← hcs.out]; exact h6)
    have J1 := hid j1
    have J2 := hid j2
    clear h6 j1 j2 j3 j4
    go_wp2_with ((with_reducible show wpList _ _ _ (Oper.mk _ (Op.store 45 _ _) _ _ _ _ :: _) _ _); go_must (refine wpList_store_row rfl 45 _ _ rfl w.heap.size _ rfl rfl 45 _ J2.out (sizeRp' _ _ _ _ _ _ _ _) rfl (oneRp _ _ _ _ _ _ _ _ _ _ _ _ _ _) ?_))
    refine bodyPost_ret (results_row_tmp2 rfl _ _ w.heap.size 45 _ (0, 0) _ rfl (setRow_heap _ _ _ _ _ _ J2.out) Tryz.underlying45 rfl sizeRp) rfl ?_
    refine ⟨Below.setRow J1.out (Nat.le_refl _) _, ?_⟩
    unfold DOkR
    rw [if_neg (by rw [HO.out]; exact Bool.false_ne_true)]
    rfl
theorem decodeR_any (K : Nat) (hK : K ≤ 12) (s : ByteArray) (w : World) (T : Lay w) (hs : s.size ≤ maxLen) : Calls Tryz.prog 24 #[.int .i64 (K : Int), .string s] w (DPostR K s.data.toList w) := by
  cases hR : rdText s.data.toList 1048576 with
  | bad k => exact decodeR_bad K hK s w hs k hR
  | good p r => exact decodeR_good K hK s w T hs p r hR
end Msg
end Go.Proofs.YtmhgdcfmfcjagaaGreatDoor

namespace Go.Proofs.YtmhgdcfmfcjagaaGreatDoor
open Go.RowKit Cod
namespace Msg

theorem val_or {α : Type} (st : RS) (d : α) (x : Rd α) : st.val d x = d ∨ ∃ v r, x = .good v r ∧ st.val d x = v := by
  by_cases he : st.err = 0
  · cases x with
    | bad e => exact .inl (by rw [RS.val, if_pos he])
    | good v r => exact .inr ⟨v, r, rfl, by rw [RS.val, if_pos he]⟩
  · exact .inl (val_bad he)
theorem sz_top (s : TS) : (tSize s).1 ≤ 4611686018427387904 := by
  rcases val_or s.1 0 (rdNum s.1.rest) with h | ⟨v, r, h, e⟩
  · show s.1.val 0 (rdNum s.1.rest) ≤ _
    rw [h]; omega
  · show s.1.val 0 (rdNum s.1.rest) ≤ _
    have := (num_back h).2
    rw [top] at this
    rw [e]; exact this
theorem mk_top (lo hi : Int) (s : TS) : (tMark lo hi s).1 ≤ 255 := by
  rcases val_or s.1 0 (rdByte s.1.rest) with h | ⟨v, r, h, e⟩
  · show s.1.val 0 (rdByte s.1.rest) ≤ _
    rw [h]; omega
  · show s.1.val 0 (rdByte s.1.rest) ≤ _
    rw [e]; exact (byte_back h).2
theorem rl_mark (lo hi : Int) (s : TS) : (tMark lo hi s).2.1.rest.length ≤ s.1.rest.length := step_len pf_byte.le
theorem rl_size (s : TS) : (tSize s).2.1.rest.length ≤ s.1.rest.length := step_len pf_num.le
theorem rl_sizes (m : Int) (s : TS) : (tSizes m s).2.1.rest.length ≤ s.1.rest.length := step_len (pf_rising m).le
theorem rl_texts (a m k : Int) (s : TS) : (tTexts a m k s).2.1.rest.length ≤ s.1.rest.length := step_len (pf_texts m k).le
theorem rl_hashes (s : TS) : (tHashes s).2.1.rest.length ≤ s.1.rest.length := step_len (pf_hashes 32768).le
theorem rl_root (s : TS) : (tRoot s).2.1.rest.length ≤ s.1.rest.length := step_len (pf_raw 32).le
theorem rl_count (s : TS) : (tCount s).2.1.rest.length ≤ s.1.rest.length := step_len pf_num.le
def LFit (l : List Int) : Prop := (∀ c ∈ l, -9223372036854775808 ≤ c ∧ c ≤ 9223372036854775807) ∧ l.length ≤ maxLen ∧ (wrRising (l.map Int.toNat)).length ≤ 68719476736
def EFit (l : List (List UInt8)) : Prop := l.length ≤ maxLen ∧ (wrTexts l).length ≤ 68719476736
def HFit (l : List (List UInt8)) : Prop := l.length ≤ maxLen ∧ (wrHashes l).length ≤ 68719476736
theorem digs0 : (digs 0).length = 1 := by rw [digs_small (by omega)]; rfl
theorem LFit.nil : LFit [] := ⟨fun c hc => (by cases hc), by simp, by show (digs 0 ++ []).length ≤ _; rw [List.append_nil, digs0]; omega⟩
theorem EFit.nil : EFit [] := ⟨by simp, by show (digs 0 ++ []).length ≤ _; rw [List.append_nil, digs0]; omega⟩
theorem HFit.nil : HFit [] := ⟨by simp, by show (digs 0 ++ []).length ≤ _; rw [List.append_nil, digs0]; omega⟩
theorem rises_top : ∀ (L : List Nat) (a : Nat), Rises a L → ∀ n ∈ L, n ≤ 4611686018427387904
  | [], _, _, n, hn => by cases hn
  | b :: L, a, h, n, hn => by
    obtain ⟨_, g2, g3⟩ := h
    rw [top] at g2
    rcases List.mem_cons.1 hn with rfl | hn
    · exact g2
    · exact rises_top L _ g3 n hn
theorem lfit (m : Int) (hm : m ≤ 256) (s : TS) (hr : s.1.rest.length ≤ 68719476000) : LFit (ints (tSizes m s).1) := by
  rcases val_or s.1 [] (rdRising s.1.rest m) with h | ⟨v, r, h, e⟩
  · have : (tSizes m s).1 = [] := h
    rw [this]; exact LFit.nil
  · have : (tSizes m s).1 = v := e
    rw [this]
    obtain ⟨h1, h2, h3, _, h5⟩ := rising_back h
    refine ⟨fun c hc => ?_, by rw [ints_len]; unfold maxLen; omega, ?_⟩
    · obtain ⟨n, hn, rfl⟩ := List.mem_map.1 hc
      have := rises_top v 0 h5 n hn
      show -9223372036854775808 ≤ (n : Int) ∧ (n : Int) ≤ 9223372036854775807
      omega
    · rw [ints_toNat]
      have := congrArg List.length h1
      rw [List.length_append] at this
      omega
theorem efit (a m k : Int) (hm : m ≤ 4096) (s : TS) (hr : s.1.rest.length ≤ 68719476000) : EFit (tTexts a m k s).1 := by
  rcases val_or s.1 [] (rdTexts s.1.rest m k) with h | ⟨v, r, h, e⟩
  · have : (tTexts a m k s).1 = [] := h
    rw [this]; exact EFit.nil
  · have : (tTexts a m k s).1 = v := e
    rw [this]
    obtain ⟨h1, h2, h3, _⟩ := texts_back h
    refine ⟨by unfold maxLen; omega, ?_⟩
    have := congrArg List.length h1
    rw [List.length_append] at this
    omega
theorem hfit (s : TS) (hr : s.1.rest.length ≤ 68719476000) : HFit (tHashes s).1 := by
  rcases val_or s.1 [] (rdHashes s.1.rest 32768) with h | ⟨v, r, h, e⟩
  · have : (tHashes s).1 = [] := h
    rw [this]; exact HFit.nil
  · have : (tHashes s).1 = v := e
    rw [this]
    obtain ⟨h1, h2, h3, _⟩ := hashes_back h
    refine ⟨by unfold maxLen; omega, ?_⟩
    have := congrArg List.length h1
    rw [List.length_append] at this
    omega
def Nt (n : Int) : Prop := 0 ≤ n ∧ n ≤ 4611686018427387904
theorem nt_size (s : TS) : Nt ((tSize s).1 : Int) := ⟨by omega, by have := sz_top s; omega⟩
theorem nt0 : Nt 0 := ⟨by omega, by omega⟩
theorem nt_nat {k : Nat} (h : k ≤ 255) : Nt (k : Int) := ⟨by omega, by omega⟩
theorem fit_of {x : Ask} (h1 : Nt x.kind) (h2 : Nt x.a) (h3 : Nt x.b) (h4 : Nt x.size) (hl : LFit x.list) (he : EFit x.ent) : Fit x :=
  ⟨⟨by have := h1.1; omega, by have := h1.2; omega⟩, ⟨by have := h2.1; omega, by have := h2.2; omega⟩, ⟨by have := h3.1; omega, by have := h3.2; omega⟩, ⟨by have := h4.1; omega, by have := h4.2; omega⟩, hl.1, hl.2.1, he.1⟩
theorem fit_flds (da : TS → List Ask × TS) (k : Nat) (hk : k ≤ 255) (s : TS) (hr : s.1.rest.length ≤ 68719476000) : Fit (tFlds da (flds k) ((Ask.of (k : Int), []), s)).1.1 := by
  have hk' := nt_nat hk
  match k with
  | 0 => exact fit_of hk' nt0 nt0 nt0 LFit.nil EFit.nil
  | 1 => exact fit_of hk' nt0 nt0 nt0 LFit.nil (efit 1 32 4096 (by omega) s hr)
  | 2 => exact fit_of hk' nt0 nt0 nt0 LFit.nil EFit.nil
  | 3 => exact fit_of hk' nt0 nt0 (nt_size s) LFit.nil EFit.nil
  | 4 => exact fit_of hk' (nt_size s) nt0 (nt_size _) LFit.nil EFit.nil
  | 5 => exact fit_of hk' (nt_size s) nt0 (nt_size _) LFit.nil EFit.nil
  | 6 => exact fit_of hk' nt0 nt0 (nt_size s) (lfit 256 (by omega) (tSize s).2 (Nat.le_trans (rl_size s) hr)) EFit.nil
  | 7 => exact fit_of hk' nt0 nt0 nt0 (lfit 64 (by omega) s hr) EFit.nil
  | 8 => exact fit_of hk' (nt_size s) (nt_size _) (nt_size _) LFit.nil EFit.nil
  | 9 => exact fit_of hk' (nt_size s) (nt_size _) (nt_size _) LFit.nil EFit.nil
  | 10 => exact fit_of hk' (nt_size s) nt0 nt0 LFit.nil EFit.nil
  | 11 => exact fit_of hk' (nt_size s) nt0 nt0 LFit.nil EFit.nil
  | 12 => exact fit_of hk' nt0 nt0 nt0 LFit.nil EFit.nil
  | n + 13 => exact fit_of hk' nt0 nt0 nt0 LFit.nil EFit.nil
theorem rl_flds (k : Nat) (s : TS) : (tFlds (fun s => ([], s)) (flds k) ((Ask.of (k : Int), []), s)).2.1.rest.length ≤ s.1.rest.length := by
  match k with
  | 0 => exact Nat.le_refl _
  | 1 => exact rl_texts 1 32 4096 s
  | 2 => exact Nat.le_refl _
  | 3 => exact rl_size s
  | 4 => exact Nat.le_trans (rl_size _) (rl_size s)
  | 5 => exact Nat.le_trans (rl_size _) (rl_size s)
  | 6 => exact Nat.le_trans (rl_sizes 256 _) (rl_size s)
  | 7 => exact rl_sizes 64 s
  | 8 => exact Nat.le_trans (rl_size _) (Nat.le_trans (rl_size _) (rl_size s))
  | 9 => exact Nat.le_trans (rl_size _) (Nat.le_trans (rl_size _) (rl_size s))
  | 10 => exact rl_size s
  | 11 => exact rl_size s
  | 12 => exact Nat.le_refl _
  | n + 13 => exact Nat.le_refl _
theorem rl_ask (s : TS) : (tAsk s).2.1.rest.length ≤ s.1.rest.length := by
  show (tReq (fun s => ([], s)) 3 7 s).2.1.rest.length ≤ _
  rw [tReq]
  split
  · exact Nat.le_trans (rl_flds _ _) (rl_mark 3 7 s)
  · exact rl_mark 3 7 s
theorem gd_req (da : TS → List Ask × TS) (db : List Ask → LS → LS) (hd : ∀ s, Sim s (da s).2 (db (da s).1)) (lo hi : Int) (s : TS) (hr : s.1.rest.length ≤ 68719476000) (h2 : (tReq da lo hi s).2.2 = false) : Gd (tReq da lo hi s).1.1 lo hi := by
  by_cases hw : wi ((tMark lo hi s).1 : Int) lo hi = true
  · obtain ⟨_, g2, g3⟩ := sim_flds da db hd (tMark lo hi s).1 (tMark lo hi s).2
    have he : tReq da lo hi s = tFlds da (flds (tMark lo hi s).1) ((Ask.of ((tMark lo hi s).1 : Int), []), (tMark lo hi s).2) := if_pos hw
    rw [he]
    refine ⟨fit_flds da _ (mk_top lo hi s) _ (Nat.le_trans (rl_mark lo hi s) hr), by rw [g3]; exact hw, ?_⟩
    rw [g3, Int.toNat_natCast]
    exact g2
  · rw [tReq, if_neg hw] at h2
    exact absurd (mark_ok h2) hw
theorem many_gd : ∀ (n : Nat) (l : List Ask) (s : TS), s.1.rest.length ≤ 68719476000 → (tMany n l s).2.1.err = 0 → (tMany n l s).2.2 = false → (∀ x ∈ l, Gd x 3 7) → ∀ x ∈ (tMany n l s).1, Gd x 3 7
  | 0, l, s, _, _, _, h => h
  | n + 1, l, s, hr, e1, e2, h => by
    rw [tMany] at e1 e2 ⊢
    obtain ⟨l', _, hS⟩ := sim_many n (l ++ [(tAsk s).1]) (tAsk s).2
    obtain ⟨a1, a2, _⟩ := hS e1 e2
    refine many_gd n _ _ (Nat.le_trans (rl_ask s) hr) e1 e2 fun x hx => ?_
    rcases List.mem_append.1 hx with hx | hx
    · exact h x hx
    · rw [List.mem_singleton] at hx
      subst hx
      exact gd_req (fun s => ([], s)) (fun _ => id) (fun s => Sim.refl s) 3 7 s hr a2
theorem done_err {st : RS} (h : st.done = 0) : st.err = 0 := by
  by_cases he : st.err = 0
  · exact he
  · rw [RS.done, if_neg he] at h; exact h
theorem request_gd (s : TS) (hr : s.1.rest.length ≤ 68719476000) (h : (tRequest s).2.1.err = 0) (k : (tRequest s).2.2 = false) :
    Gd (tRequest s).1.1 1 12 ∧ ((tRequest s).1.1.kind = 12 → wi ((tRequest s).1.2.length : Int) 1 64 = true ∧ ∀ x ∈ (tRequest s).1.2, Gd x 3 7) := by
  refine ⟨gd_req tAsks lAsks sim_asks 1 12 s hr k, fun h12 => ?_⟩
  by_cases hw : wi ((tMark 1 12 s).1 : Int) 1 12 = true
  · obtain ⟨_, _, g3⟩ := sim_flds tAsks lAsks sim_asks (tMark 1 12 s).1 (tMark 1 12 s).2
    have he : tRequest s = tFlds tAsks (flds (tMark 1 12 s).1) ((Ask.of ((tMark 1 12 s).1 : Int), []), (tMark 1 12 s).2) := if_pos hw
    rw [he] at h12 h k ⊢
    rw [g3] at h12
    have hm : (tMark 1 12 s).1 = 12 := by omega
    rw [hm] at h k ⊢
    have e1 : (tAsks (tMark 1 12 s).2).2.1.err = 0 := h
    have e2 : (tAsks (tMark 1 12 s).2).2.2 = false := k
    show wi ((tAsks (tMark 1 12 s).2).1.length : Int) 1 64 = true ∧ ∀ x ∈ (tAsks (tMark 1 12 s).2).1, Gd x 3 7
    generalize hs1 : (tMark 1 12 s).2 = s1 at *
    obtain ⟨l', _, hS⟩ := sim_many (tCount s1).1 [] (tCount s1).2
    obtain ⟨_, b2, _⟩ := hS e1 e2
    have hl := tMany_len (tCount s1).1 [] (tCount s1).2
    have hr1 : s1.1.rest.length ≤ 68719476000 := by rw [← hs1]; exact Nat.le_trans (rl_mark 1 12 s) hr
    refine ⟨?_, many_gd _ _ _ (Nat.le_trans (rl_count s1) hr1) e1 e2 (fun x hx => by cases hx)⟩
    have := (sim_count s1).2 b2
    rw [tAsks, hl, List.length_nil, Nat.zero_add]; exact this
  · rw [tRequest, tReq, if_neg hw] at k
    exact absurd (mark_ok k) hw
theorem pfit_of {x : Part} (h2 : Nt x.size) (h3 : Nt x.a) (hh : HFit x.hs) (he : EFit x.ent) : PFit x :=
  ⟨⟨by have := h2.1; omega, by have := h2.2; omega⟩, ⟨by have := h3.1; omega, by have := h3.2; omega⟩, hh.1, he.1⟩
theorem pfit_frs (dp : TS → List Part × TS) (k : Nat) (s : TS) (hr : s.1.rest.length ≤ 68719476000) : PFit (tFrs dp (rflds k) ((Part.of 0, []), s)).1.1 := by
  match k with
  | 0 => exact pfit_of nt0 nt0 HFit.nil EFit.nil
  | 1 => exact pfit_of (nt_size s) (nt_size _) HFit.nil EFit.nil
  | 2 => exact pfit_of (nt_size s) nt0 HFit.nil EFit.nil
  | 3 => exact pfit_of nt0 nt0 HFit.nil EFit.nil
  | 4 => exact pfit_of nt0 nt0 (hfit s hr) EFit.nil
  | 5 => exact pfit_of nt0 nt0 (hfit s hr) EFit.nil
  | 6 => exact pfit_of nt0 nt0 (hfit s hr) EFit.nil
  | 7 => exact pfit_of nt0 nt0 (hfit s hr) EFit.nil
  | 8 => exact pfit_of nt0 nt0 (hfit _ (Nat.le_trans (rl_texts 0 4096 1000 s) hr)) (efit 0 4096 1000 (by omega) s hr)
  | 9 => exact pfit_of nt0 (nt_size s) HFit.nil EFit.nil
  | 10 => exact pfit_of nt0 (nt_size s) (hfit _ (Nat.le_trans (rl_texts 0 4096 1000 _) (Nat.le_trans (rl_mark 0 1 _) (Nat.le_trans (rl_size s) hr)))) (efit 0 4096 1000 (by omega) _ (Nat.le_trans (rl_mark 0 1 _) (Nat.le_trans (rl_size s) hr)))
  | 11 => exact pfit_of nt0 nt0 HFit.nil EFit.nil
  | 12 => exact pfit_of nt0 nt0 HFit.nil EFit.nil
  | n + 13 => exact pfit_of nt0 nt0 HFit.nil EFit.nil
theorem pfit_form (s : TS) (hr : s.1.rest.length ≤ 68719476000) : PFit (tForm s).1.1 ∧ (tForm s).2.1.rest.length ≤ s.1.rest.length := by
  have h1 := rl_mark 0 1 s
  rw [tForm]
  split
  · split
    · exact ⟨pfit_of nt0 nt0 (hfit _ (Nat.le_trans h1 hr)) EFit.nil, Nat.le_trans (rl_hashes _) h1⟩
    · exact ⟨pfit_of nt0 nt0 HFit.nil EFit.nil, Nat.le_trans (rl_root _) h1⟩
  · exact ⟨pfit_of nt0 nt0 HFit.nil EFit.nil, h1⟩
theorem rl_part (s : TS) (hr : s.1.rest.length ≤ 68719476000) : (tPart s).2.1.rest.length ≤ s.1.rest.length := by
  have h1 := rl_mark 0 8 s
  show (tTail 0 tForm s).2.1.rest.length ≤ _
  rw [tTail]
  split
  · exact Nat.le_trans (pfit_form _ (Nat.le_trans h1 hr)).2 h1
  · exact h1
theorem gp_part (s : TS) (hr : s.1.rest.length ≤ 68719476000) (e1 : (tPart s).2.1.err = 0) (e2 : (tPart s).2.2 = false) : Gp (tPart s).1 := by
  have h1 := rl_mark 0 8 s
  by_cases hd : isDn ((tMark 0 8 s).1 : Int) 0 = true
  · have he : tTail 0 tForm s = tForm (tMark 0 8 s).2 := if_pos hd
    have f1 : (tForm (tMark 0 8 s).2).2.1.err = 0 := by rw [← he]; exact e1
    have f2 : (tForm (tMark 0 8 s).2).2.2 = false := by rw [← he]; exact e2
    obtain ⟨g1, g2⟩ := (sim_form (tMark 0 8 s).2).2 f1 f2
    have hx : (tPart s).1 = (tForm (tMark 0 8 s).2).1.1 := by rw [← he]; rfl
    rw [hx]
    exact ⟨(pfit_form _ (Nat.le_trans h1 hr)).1, by rw [g1]; rfl, fun _ => g2, fun h => absurd g1 h⟩
  · have he : tTail 0 tForm s = ((Part.of ((tMark 0 8 s).1 : Int), []), (tMark 0 8 s).2) := if_neg hd
    have hw : wi ((tMark 0 8 s).1 : Int) 0 8 = true := mark_ok (by
      have : (tTail 0 tForm s).2.2 = false := e2
      rw [he] at this; exact this)
    have hx : (tPart s).1 = Part.of ((tMark 0 8 s).1 : Int) := by show (tTail 0 tForm s).1.1 = _; rw [he]
    rw [hx]
    refine ⟨pfit_of nt0 nt0 HFit.nil EFit.nil, hw, fun h => ?_, fun _ => rfl⟩
    have h : ((tMark 0 8 s).1 : Int) = 0 := h
    exact absurd (by rw [isDn, hw, Bool.true_and]; exact decide_eq_true h) hd
theorem many_gp : ∀ (n : Nat) (l : List Part) (s : TS), s.1.rest.length ≤ 68719476000 → (tManyP n l s).2.1.err = 0 → (tManyP n l s).2.2 = false → (∀ x ∈ l, Gp x) → ∀ x ∈ (tManyP n l s).1, Gp x
  | 0, l, s, _, _, _, h => h
  | n + 1, l, s, hr, e1, e2, h => by
    rw [tManyP] at e1 e2 ⊢
    obtain ⟨l', _, hS⟩ := sim_manyP n (l ++ [(tPart s).1]) (tPart s).2
    obtain ⟨a1, a2, _⟩ := hS e1 e2
    refine many_gp n _ _ (Nat.le_trans (rl_part s hr) hr) e1 e2 fun x hx => ?_
    rcases List.mem_append.1 hx with hx | hx
    · exact h x hx
    · rw [List.mem_singleton] at hx
      subst hx
      exact gp_part s hr a1 a2
theorem parts_gp (s1 : TS) (hr1 : s1.1.rest.length ≤ 68719476000) (e1 : (tParts s1).2.1.err = 0) (e2 : (tParts s1).2.2 = false) : wi ((tParts s1).1.length : Int) 1 64 = true ∧ ∀ x ∈ (tParts s1).1, Gp x := by
  obtain ⟨l', _, hS⟩ := sim_manyP (tCount s1).1 [] (tCount s1).2
  obtain ⟨_, b2, _⟩ := hS e1 e2
  have hl := tManyP_len (tCount s1).1 [] (tCount s1).2
  refine ⟨?_, many_gp _ _ _ (Nat.le_trans (rl_count s1) hr1) e1 e2 (fun x hx => by cases hx)⟩
  have := (sim_count s1).2 b2
  rw [tParts, hl, List.length_nil, Nat.zero_add]; exact this
theorem reply_gr (K : Nat) (s : TS) (hr : s.1.rest.length ≤ 68719476000) (h : (tReply K s).2.1.err = 0) (k : (tReply K s).2.2 = false) :
    Gr K (tReply K s).1.1 ∧ (K = 12 → (tReply K s).1.1.status = 0 → wi ((tReply K s).1.2.length : Int) 1 64 = true ∧ ∀ x ∈ (tReply K s).1.2, Gp x) := by
  by_cases hw : wi ((tMark (K : Int) (K : Int) s).1 : Int) (K : Int) (K : Int) = true
  · have he : tReply K s = tTail (leastOf (K : Int)) (fun s => tFrs tParts (rflds K) ((Part.of 0, []), s)) (tMark (K : Int) (K : Int) s).2 := if_pos hw
    rw [he] at h k ⊢
    have hr1 : (tMark (K : Int) (K : Int) s).2.1.rest.length ≤ 68719476000 := Nat.le_trans (rl_mark _ _ s) hr
    generalize (tMark (K : Int) (K : Int) s).2 = s1 at *
    have h1 := rl_mark (leastOf (K : Int)) 8 s1
    by_cases hd : isDn ((tMark (leastOf (K : Int)) 8 s1).1 : Int) (leastOf (K : Int)) = true
    · have he2 : tTail (leastOf (K : Int)) (fun s => tFrs tParts (rflds K) ((Part.of 0, []), s)) s1 = tFrs tParts (rflds K) ((Part.of 0, []), (tMark (leastOf (K : Int)) 8 s1).2) := if_pos hd
      rw [he2] at h k ⊢
      have hl0 : wi 0 (leastOf (K : Int)) 8 = true := by
        rw [isDn, Bool.and_eq_true, decide_eq_true_eq] at hd
        rw [← hd.2]; exact hd.1
      obtain ⟨g1, g2⟩ := (sim_frs K (tMark (leastOf (K : Int)) 8 s1).2).2 h k
      refine ⟨⟨pfit_frs tParts K _ (Nat.le_trans h1 hr1), by rw [g1]; exact hl0, fun _ => g2, fun e => absurd g1 e⟩, fun h12 _ => ?_⟩
      subst h12
      exact parts_gp (tMark (leastOf ((12 : Nat) : Int)) 8 s1).2 (Nat.le_trans h1 hr1) h k
    · have he2 : tTail (leastOf (K : Int)) (fun s => tFrs tParts (rflds K) ((Part.of 0, []), s)) s1 = ((Part.of ((tMark (leastOf (K : Int)) 8 s1).1 : Int), []), (tMark (leastOf (K : Int)) 8 s1).2) := if_neg hd
      rw [he2] at h k ⊢
      have hw2 := mark_ok k
      have hne : ¬ (Part.of ((tMark (leastOf (K : Int)) 8 s1).1 : Int)).status = 0 := fun e => by
        have e : ((tMark (leastOf (K : Int)) 8 s1).1 : Int) = 0 := e
        exact hd (by rw [isDn, hw2, Bool.true_and]; exact decide_eq_true e)
      exact ⟨⟨pfit_of nt0 nt0 HFit.nil EFit.nil, hw2, fun e => absurd e hne, fun _ => rfl⟩, fun _ e => absurd e hne⟩
  · rw [tReply, if_neg hw] at k
    exact absurd (mark_ok k) hw
end Msg
end Go.Proofs.YtmhgdcfmfcjagaaGreatDoor
