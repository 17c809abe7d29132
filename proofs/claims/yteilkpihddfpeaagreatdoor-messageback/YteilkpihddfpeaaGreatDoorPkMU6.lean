import Derived.Test.YteilkpihddfpeaaGreatDoorPkMT7
import Derived.Test.YteilkpihddfpeaaGreatDoorPkMT8
namespace Go.Proofs.YteilkpihddfpeaaGreatDoor
open Go.RowKit Cod
namespace Msg

abbrev rp0 : Value := .agg #[.int .i64 0, .int .i64 0, .int .i64 0, .int .i64 0, .string ⟨#[]⟩, .slice none 0 0, .slice none 0 0, .slice none 0 0]
/-- a request that was taken: where its lists lie -/
def GotR (w : World) (lo : Nat) (x : Part) (l : List Part) (ul ue ua : Value) : Prop :=
  Slc w ul x.hs ∧ Nw lo w.heap.size ul ∧ Slc w ue x.ent ∧ Nw lo w.heap.size ue ∧ Ps w lo w.heap.size ua l ∧ x.n = l.length
def DOkR (q : PR) (r : List UInt8) (w : World) (e : Ending) (w' : World) : Prop :=
  if (decide (q.2.1.done = 0) && !q.2.2) = true then ∃ ul ue ua, e = .returned (.tuple #[rpV q.1.1 ul ue ua, sv r, .int .i64 0]) ∧ GotR w' w.heap.size q.1.1 q.1.2 ul ue ua
  else e = .returned (.tuple #[rp0, sv [], .int .i64 173])
/-- what Decode answers -/
def DPostR (K : Nat) (s : List UInt8) (w : World) (e : Ending) (w' : World) : Prop :=
  Below w.heap.size w w' ∧ match rdText s 1048576 with
  | .bad k => e = .returned (.tuple #[rp0, sv [], .int .i64 (unfr k)])
  | .good p r => DOkR (tReply K (⟨p, 0, 0⟩, false)) r w e w'
set_option maxRecDepth 100000 in
set_option maxHeartbeats 4000000 in
theorem decodeR_bad (K : Nat) (hK : K ≤ 12) (s : ByteArray) (w : World) (hs : s.size ≤ maxLen) (k : Nat) (hR : rdText s.data.toList 1048576 = .bad k) :
    Calls Tryz.prog 7 #[.int .i64 (K : Int), .string s] w (DPostR K s.data.toList w) := by
  have hwi : wi (K : Int) 0 12 = true := wi_iff.2 ⟨by omega, by omega⟩
  have i1 := unframeM_any s (w.alloc (.cells #[.int .i64 0, .int .i64 0, .int .i64 0, .int .i64 0, .string ⟨#[]⟩, .slice none 0 0, .slice none 0 0, .slice none 0 0] 26)) hs
  rw [hR] at i1
  have i1 : Calls Tryz.prog 19 #[.string s] (w.alloc (.cells #[.int .i64 0, .int .i64 0, .int .i64 0, .int .i64 0, .string ⟨#[]⟩, .slice none 0 0, .slice none 0 0, .slice none 0 0] 26)) fun e w' => e = .returned (.tuple #[sv [], sv [], .int .i64 (unfr k)]) ∧ Below (w.alloc (.cells #[.int .i64 0, .int .i64 0, .int .i64 0, .int .i64 0, .string ⟨#[]⟩, .slice none 0 0, .slice none 0 0, .slice none 0 0] 26)).heap.size (w.alloc (.cells #[.int .i64 0, .int .i64 0, .int .i64 0, .int .i64 0, .string ⟨#[]⟩, .slice none 0 0, .slice none 0 0, .slice none 0 0] 26)) w' := i1
  have hne := unfr_ne k
  unfold DPostR
  rw [hR]
  show Calls _ _ _ _ fun e w' => Below w.heap.size w w' ∧ e = .returned (.tuple #[rp0, sv [], .int .i64 (unfr k)])
  generalize unfr k = z at *
  have hb : (z == 0) = false := by simp [hne]
  clear hR
  have z1 := size_alloc w (.cells #[.int .i64 0, .int .i64 0, .int .i64 0, .int .i64 0, .string ⟨#[]⟩, .slice none 0 0, .slice none 0 0, .slice none 0 0] 26)
  have r0 := hid (heap_alloc_new w (.cells #[.int .i64 0, .int .i64 0, .int .i64 0, .int .i64 0, .string ⟨#[]⟩, .slice none 0 0, .slice none 0 0, .slice none 0 0] 26))
  have b0 := hid ((Below.refl w.heap.size w).alloc (Nat.le_refl _) (.cells #[.int .i64 0, .int .i64 0, .int .i64 0, .int .i64 0, .string ⟨#[]⟩, .slice none 0 0, .slice none 0 0, .slice none 0 0] 26))
  go_enter Tryz.func7, Tryz.ntmps7
  go_wp2_with (first
    | (go_at_call 15; refine (within_any _ _ _ _).mono ?_; rw [hwi]; rintro e w' ⟨rfl, hw'⟩; rw [hw']; clear hw' w')
    | (go_at_call 19; refine i1.mono ?_; rintro e w1 ⟨rfl, h1⟩; have R1 := hid ((h1.block _ (by omega)).trans r0.out); have B1 := hid (b0.out.trans (h1.mono b0.out.size)); clear h1)
    | ((with_reducible show wpList _ _ _ (Oper.mk _ (Op.store 26 _ _) _ _ _ _ :: _) _ _); go_must (refine wpList_store_row rfl 26 _ _ rfl w.heap.size _ rfl rfl 26 _ R1.out (sizeRp' _ _ _ _ _ _ _ _) rfl (oneRp _ _ _ _ _ _ _ _ _ _ _ _ _ _) ?_)))
  refine bodyPost_ret (results_row_tmp2 rfl _ _ w.heap.size 26 _ (0, 0) _ rfl (setRow_heap _ _ _ _ _ _ R1.out) Tryz.underlying26 rfl sizeRp) rfl ?_
  exact ⟨Below.setRow B1.out (Nat.le_refl _) _, rfl⟩
set_option maxRecDepth 100000 in
set_option maxHeartbeats 4000000 in
theorem decodeR_good (K : Nat) (hK : K ≤ 12) (s : ByteArray) (w : World) (T : Lay w) (hs : s.size ≤ maxLen) (p r : List UInt8) (hR : rdText s.data.toList 1048576 = .good p r) :
    Calls Tryz.prog 7 #[.int .i64 (K : Int), .string s] w (DPostR K s.data.toList w) := by
  have hwi : wi (K : Int) 0 12 = true := wi_iff.2 ⟨by omega, by omega⟩
  have i1 := unframeM_any s (w.alloc (.cells #[.int .i64 0, .int .i64 0, .int .i64 0, .int .i64 0, .string ⟨#[]⟩, .slice none 0 0, .slice none 0 0, .slice none 0 0] 26)) hs
  rw [hR] at i1
  have i1 : Calls Tryz.prog 19 #[.string s] (w.alloc (.cells #[.int .i64 0, .int .i64 0, .int .i64 0, .int .i64 0, .string ⟨#[]⟩, .slice none 0 0, .slice none 0 0, .slice none 0 0] 26)) fun e w' => e = .returned (.tuple #[.string ⟨p.toArray⟩, .string ⟨r.toArray⟩, .int .i64 0]) ∧ Below (w.alloc (.cells #[.int .i64 0, .int .i64 0, .int .i64 0, .int .i64 0, .string ⟨#[]⟩, .slice none 0 0, .slice none 0 0, .slice none 0 0] 26)).heap.size (w.alloc (.cells #[.int .i64 0, .int .i64 0, .int .i64 0, .int .i64 0, .string ⟨#[]⟩, .slice none 0 0, .slice none 0 0, .slice none 0 0] 26)) w' := i1
  have hpl : p.length ≤ 1048576 := by have := (text_back hR).2.2.1; omega
  unfold DPostR
  rw [hR]
  have hT := T.lt
  have HT := hid T
  have HP := hid hpl
  clear hR T hpl
  have z1 := size_alloc w (.cells #[.int .i64 0, .int .i64 0, .int .i64 0, .int .i64 0, .string ⟨#[]⟩, .slice none 0 0, .slice none 0 0, .slice none 0 0] 26)
  have r0 := hid (heap_alloc_new w (.cells #[.int .i64 0, .int .i64 0, .int .i64 0, .int .i64 0, .string ⟨#[]⟩, .slice none 0 0, .slice none 0 0, .slice none 0 0] 26))
  have b0 := hid ((Below.refl w.heap.size w).alloc (Nat.le_refl _) (.cells #[.int .i64 0, .int .i64 0, .int .i64 0, .int .i64 0, .string ⟨#[]⟩, .slice none 0 0, .slice none 0 0, .slice none 0 0] 26))
  obtain ⟨q, hq⟩ : ∃ q, Hid (tReply K (⟨p, 0, 0⟩, false) = q) := ⟨_, rfl⟩
  show Calls _ _ _ _ fun e w' => Below w.heap.size w w' ∧ DOkR (tReply K (⟨p, 0, 0⟩, false)) r w e w'
  rw [hq.out]
  go_enter Tryz.func7, Tryz.ntmps7
  go_wp2_with (first
    | (go_at_call 15; refine (within_any _ _ _ _).mono ?_; rw [hwi]; rintro e w' ⟨rfl, hw'⟩; rw [hw']; clear hw' w')
    | (go_at_call 19; refine i1.mono ?_; rintro e w1 ⟨rfl, h1⟩; have R1 := hid ((h1.block _ (by omega)).trans r0.out); have B1 := hid (b0.out.trans (h1.mono b0.out.size)); have lt1 : w.heap.size < w1.heap.size := (by have := h1.size; omega); clear h1)
    | (go_at_call 20; fail))
  go_at_call 20
  refine (newReader_any ⟨p.toArray⟩ (by rw [sv_size]; have := HP.out; unfold maxLen; omega) w1).mono ?_
  rintro e w2 ⟨rfl, n1, n2, n3⟩
  rw [sv_data] at n1
  have hTk : Tk (w2.alloc (.cells #[.pointer (some ⟨w1.heap.size, 0, none⟩), .bool false] 58)) w1.heap.size w2.heap.size (⟨p, 0, 0⟩, false) :=
    ⟨heap_alloc_new _ _, n1.below ((Below.refl _ _).alloc (Nat.le_refl _) _), by omega, by have := HP.out; show p.length ≤ _; omega⟩
  have i2 := replyT_any hTk K hK
  rw [hq.out] at i2
  have b3 := (Below.refl w2.heap.size w2).alloc (Nat.le_refl _) (.cells #[.pointer (some ⟨w1.heap.size, 0, none⟩), .bool false] 58)
  have z3 := size_alloc w2 (.cells #[.pointer (some ⟨w1.heap.size, 0, none⟩), .bool false] 58)
  have R3 := hid ((b3.block _ (by omega)).trans ((n2.block _ (by omega)).trans R1.out))
  have B3 := hid ((B1.out.trans (n2.mono (by omega))).trans (b3.mono (by omega)))
  have L3 : w.heap.size < w2.heap.size := by omega
  have L1 : 1 ≤ w2.heap.size := by omega
  clear n1 n2 n3 hTk b3 R1 B1 z3
  go_wp2_with (go_at_call 21; fail)
  go_at_call 21
  refine i2.mono ?_
  rintro e w4 ⟨ul, ue, ua, rfl, g1, g2, g3, g4, g5, g6, g7, g8⟩
  obtain ⟨p1, n1, e1, _⟩ := id g1
  obtain ⟨p2, n2, e2, _⟩ := id g3
  obtain ⟨p3, n3, e3⟩ := g5.shape
  subst e1 e2 e3
  obtain ⟨W3, hW3⟩ : ∃ W3, Hid (w2.alloc (.cells #[.pointer (some ⟨w1.heap.size, 0, none⟩), .bool false] 58) = W3) := ⟨_, rfl⟩
  have z3 : w2.heap.size < W3.heap.size := by rw [← hW3.out, size_alloc]; omega
  rw [hW3.out] at g2 g4 g5 g8 R3 B3
  obtain ⟨cs, hcs⟩ : ∃ cs, Hid (#[Value.int .i64 q.1.1.status, .int .i64 q.1.1.size, .int .i64 q.1.1.a, .int .i64 q.1.1.b, .string ⟨q.1.1.root.toArray⟩, .slice p1 q.1.1.hs.length n1, .slice p2 q.1.1.ent.length n2, .slice p3 q.1.2.length n3] = cs) := ⟨_, rfl⟩
  have b5 := (Below.refl w4.heap.size w4).alloc (Nat.le_refl _) (.cells cs 26)
  have z5 := size_alloc w4 (.cells cs 26)
  have k4 := g8.size
  have b4 : Below w.heap.size w w4 := B3.out.trans (g8.below (by omega) (fun k hk e => by rcases e with e | e <;> omega))
  have r4 : w4.heap[w.heap.size]? = some (.cells #[.int .i64 0, .int .i64 0, .int .i64 0, .int .i64 0, .string ⟨#[]⟩, .slice none 0 0, .slice none 0 0, .slice none 0 0] 26 (0, 0)) := (g8.block _ (by omega) (fun e => by rcases e with e | e <;> omega)).trans R3.out
  have i3 := wholeT_any (g7.below b5) (HT.out.below (b4.trans (b5.mono (by omega))) hT)
  have r5 := heap_alloc_new w4 (.cells cs 26)
  have G : Hid (∀ w6, Below (w4.alloc (.cells cs 26)).heap.size (w4.alloc (.cells cs 26)) w6 → Below w.heap.size w w6 ∧ w6.heap[w.heap.size]? = some (.cells #[.int .i64 0, .int .i64 0, .int .i64 0, .int .i64 0, .string ⟨#[]⟩, .slice none 0 0, .slice none 0 0, .slice none 0 0] 26 (0, 0)) ∧ w6.heap[w4.heap.size]? = some (.cells cs 26 (0, 0)) ∧
      GotR (w6.setRow w.heap.size cs) w.heap.size q.1.1 q.1.2 (.slice p1 q.1.1.hs.length n1) (.slice p2 q.1.1.ent.length n2) (.slice p3 q.1.2.length n3)) := fun w6 h6 => by
    have b46 : Below w4.heap.size w4 w6 := b5.trans (h6.mono (by omega))
    refine ⟨b4.trans (b46.mono (by omega)), (b46.block _ (by omega)).trans r4, (h6.block _ (by omega)).trans r5, ?_⟩
    have k1 : Keep (fun k => k = w.heap.size) w4 (w6.setRow w.heap.size cs) := (Keep.ofBelow b46 : Keep (fun k => k = w.heap.size) w4 w6).trans (T := fun k => k = w.heap.size) ⟨rfl, rfl, rfl, by rw [setRow_size]; exact Nat.le_refl _, fun k _ hk => setRow_other w6 _ k _ hk⟩ (fun _ _ e => e)
    have hS : ∀ k, W3.heap.size ≤ k → k < w4.heap.size → ¬ k = w.heap.size := fun k k1 _ e => by omega
    exact ⟨g2.slc g1 k1 hS, g2.mono (by omega) k1.size, g4.slc g3 k1 hS, g4.mono (by omega) k1.size, (g5.keep k1 hS).mono (by omega) k1.size, g6⟩
  rw [← hcs.out] at i3
  rw [rpV, show sv q.1.1.root = .string ⟨q.1.1.root.toArray⟩ from rfl]
  clear g1 g2 g3 g4 g5 g6 g7 g8 b4 b5 r4 r5 R3 B3 i1 i2
  cases hok : (decide (q.2.1.done = 0) && !q.2.2) with
  | true =>
    rw [hok] at i3
    have HO := hid hok
    clear hok
    go_wp2_with (go_at_call 22; fail)
    go_at_call 22
    refine i3.mono ?_
    rintro e w6 ⟨rfl, h6⟩
    obtain ⟨j1, j2, j3, j4⟩ := G.out w6 (by rw [← hcs.out]; exact h6)
    have y0 : w6.cell? ⟨w4.heap.size, 0, none⟩ = some (.int .i64 q.1.1.status) := (by rw [cell_of_row _ _ _ _ _ _ j3, ← hcs.out]; rfl)
    have y1 : w6.cell? ⟨w4.heap.size, 1, none⟩ = some (.int .i64 q.1.1.size) := (by rw [cell_of_row _ _ _ _ _ _ j3, ← hcs.out]; rfl)
    have y2 : w6.cell? ⟨w4.heap.size, 2, none⟩ = some (.int .i64 q.1.1.a) := (by rw [cell_of_row _ _ _ _ _ _ j3, ← hcs.out]; rfl)
    have y3 : w6.cell? ⟨w4.heap.size, 3, none⟩ = some (.int .i64 q.1.1.b) := (by rw [cell_of_row _ _ _ _ _ _ j3, ← hcs.out]; rfl)
    have y4 : w6.cell? ⟨w4.heap.size, 4, none⟩ = some (.string ⟨q.1.1.root.toArray⟩) := (by rw [cell_of_row _ _ _ _ _ _ j3, ← hcs.out]; rfl)
    have y5 : w6.cell? ⟨w4.heap.size, 5, none⟩ = some (.slice p1 q.1.1.hs.length n1) := (by rw [cell_of_row _ _ _ _ _ _ j3, ← hcs.out]; rfl)
    have y6 : w6.cell? ⟨w4.heap.size, 6, none⟩ = some (.slice p2 q.1.1.ent.length n2) := (by rw [cell_of_row _ _ _ _ _ _ j3, ← hcs.out]; rfl)
    have y7 : w6.cell? ⟨w4.heap.size, 7, none⟩ = some (.slice p3 q.1.2.length n3) := (by rw [cell_of_row _ _ _ _ _ _ j3, ← hcs.out]; rfl)
    have J1 := hid j1
    have J2 := hid j2
    have J4 := hid j4
    clear h6 j1 j2 j3 j4
    go_wp2_with ((with_reducible show wpList _ _ _ (Oper.mk _ (Op.store 26 _ _) _ _ _ _ :: _) _ _); go_must (refine wpList_store_row rfl 26 _ _ rfl w.heap.size _ rfl rfl 26 _ J2.out (sizeRp' _ _ _ _ _ _ _ _) rfl (oneRp _ _ _ _ _ _ _ _ _ _ _ _ _ _) ?_))
    refine bodyPost_ret (results_row_tmp2 rfl _ _ w.heap.size 26 _ (0, 0) _ rfl (setRow_heap _ _ _ _ _ _ J2.out) Tryz.underlying26 rfl sizeRp) rfl ?_
    refine ⟨Below.setRow J1.out (Nat.le_refl _) _, ?_⟩
    unfold DOkR
    rw [if_pos HO.out]
    refine ⟨_, _, _, rfl, ?_⟩
    rw [hcs.out]
    exact J4.out
  | false =>
    rw [hok] at i3
    have HO := hid hok
    clear hok
    go_wp2_with (go_at_call 22; fail)
    go_at_call 22
    refine i3.mono ?_
    rintro e w6 ⟨rfl, h6⟩
    obtain ⟨j1, j2, j3, j4⟩ := G.out w6 (by rw [← hcs.out]; exact h6)
    have J1 := hid j1
    have J2 := hid j2
    clear h6 j1 j2 j3 j4
    go_wp2_with ((with_reducible show wpList _ _ _ (Oper.mk _ (Op.store 26 _ _) _ _ _ _ :: _) _ _); go_must (refine wpList_store_row rfl 26 _ _ rfl w.heap.size _ rfl rfl 26 _ J2.out (sizeRp' _ _ _ _ _ _ _ _) rfl (oneRp _ _ _ _ _ _ _ _ _ _ _ _ _ _) ?_))
    refine bodyPost_ret (results_row_tmp2 rfl _ _ w.heap.size 26 _ (0, 0) _ rfl (setRow_heap _ _ _ _ _ _ J2.out) Tryz.underlying26 rfl sizeRp) rfl ?_
    refine ⟨Below.setRow J1.out (Nat.le_refl _) _, ?_⟩
    unfold DOkR
    rw [if_neg (by rw [HO.out]; exact Bool.false_ne_true)]
    rfl
theorem decodeR_any (K : Nat) (hK : K ≤ 12) (s : ByteArray) (w : World) (T : Lay w) (hs : s.size ≤ maxLen) : Calls Tryz.prog 7 #[.int .i64 (K : Int), .string s] w (DPostR K s.data.toList w) := by
  cases hR : rdText s.data.toList 1048576 with
  | bad k => exact decodeR_bad K hK s w hs k hR
  | good p r => exact decodeR_good K hK s w T hs p r hR
end Msg
end Go.Proofs.YteilkpihddfpeaaGreatDoor
