import Derived.Test.YtipcpdoejkoadaaDoorY8
namespace Go.Proofs.YtipcpdoejkoadaaDoor
open Go.RowKit Cod

set_option maxRecDepth 100000 in
set_option maxHeartbeats 4000000 in
theorem step1 (B WB XB : Nat) (hB : 1 ≤ B) (v : Value) (ws : WSt) (S : List UInt8) (E : Int) (o kp : Bool) (n m : Int) (s : ByteArray) (lv tv : Value) (w : World) (hL : Lay w) (T : Twin w B WB XB v ws S E) (hS : S.length ≤ 100000000000) :
    Calls Tryd.prog 37 #[pV WB XB, oV o kp 1 n m s lv tv] w (SPost w B WB XB v S) := by
  have D0 := hid (Way.start T hL #[.bool o, .bool kp, .int .i64 1, .int .i64 n, .int .i64 m, .string s, lv, tv])
  obtain ⟨p0a, p1a, o1a, o2a, o3a, o4a, o5a, o6a, o7a⟩ := D0.out.bx.cells
  clear T hL
  go_enter Tryd.func37, Tryd.ntmps37
  go_wp2_with (go_at_call 16; fail)
  go_at_call 16
  refine (wByte_any B WB _ _ n _ D0.out.tw.wri D0.out.tw.sz (D0.out.tw.len (by omega))).mono ?_
  rintro z w2h ⟨rfl, vb, g1, g2, g3⟩
  have Xb := hid (D0.out.tw.mid g2 g1)
  have bb := D0.out.half g2
  have G1b := hid g1
  have G2b := hid g2
  have G3b := hid g3
  obtain ⟨p0b, p1b, o1b, o2b, o3b, o4b, o5b, o6b, o7b⟩ := bb.cells
  clear g1 g2 g3 bb
  go_wp2_with (go_at_call 73; fail)
  go_at_call 73
  refine (xByte_any XB S E n _ Xb.out (by omega)).mono ?_
  intro z w2 hp
  have D1 := hid (D0.out.both hB G1b.out G2b.out G3b.out hp)
  obtain ⟨rfl, _, _⟩ := hp
  obtain ⟨p0bx, p1bx, o1bx, o2bx, o3bx, o4bx, o5bx, o6bx, o7bx⟩ := D1.out.bx.cells
  obtain ⟨tb, htb⟩ : ∃ tb, Hid (sv (if (if byteErr n = 0 then E else fstE E (byteErr n)) = 0 then (if byteErr n = 0 then S ++ [UInt8.ofNat n.toNat] else S) else []) = .string tb) := ⟨_, rfl⟩
  obtain ⟨ee, hee⟩ : ∃ ee : Int, Hid ((if byteErr n = 0 then E else fstE E (byteErr n)) = ee) := ⟨_, rfl⟩
  have yt : (tb.toList == tb.toList) = true := by simp
  have ye : (ee == ee) = true := by simp
  go_wp2_with (go_at_call 31; fail)
  go_at_call 31
  refine (wDone_any B WB _ _ w2 D1.out.lay D1.out.tw.wri).mono ?_
  rw [← rel_text D1.out.tw.rel, ← D1.out.tw.rel.1, htb.out, hee.out]
  rintro z we ⟨rfl, q1⟩
  have De := hid (D1.out.below q1)
  obtain ⟨p0e, p1e, o1e, o2e, o3e, o4e, o5e, o6e, o7e⟩ := De.out.bx.cells
  clear q1
  go_wp2_with (go_at_call 38; fail)
  go_at_call 38
  refine (xDone_any XB _ _ we De.out.tw.rw).mono ?_
  rw [htb.out, hee.out]
  rintro z wf ⟨rfl, q2⟩
  have Df := hid (De.out.below q2)
  clear q2
  go_wp2
  go_ret
  exact Df.out.post (Nat.le_trans (put_len _ _ _) (by simp))

set_option maxRecDepth 100000 in
set_option maxHeartbeats 4000000 in
theorem step2 (B WB XB : Nat) (hB : 1 ≤ B) (v : Value) (ws : WSt) (S : List UInt8) (E : Int) (o kp : Bool) (n m : Int) (s : ByteArray) (lv tv : Value) (hn1 : -9223372036854775808 ≤ n) (hn2 : n ≤ 9223372036854775807) (hd : (digs n.toNat).length ≤ 10) (w : World) (hL : Lay w) (T : Twin w B WB XB v ws S E) (hS : S.length ≤ 100000000000) :
    Calls Tryd.prog 37 #[pV WB XB, oV o kp 2 n m s lv tv] w (SPost w B WB XB v S) := by
  have D0 := hid (Way.start T hL #[.bool o, .bool kp, .int .i64 2, .int .i64 n, .int .i64 m, .string s, lv, tv])
  obtain ⟨p0a, p1a, o1a, o2a, o3a, o4a, o5a, o6a, o7a⟩ := D0.out.bx.cells
  clear T hL
  go_enter Tryd.func37, Tryd.ntmps37
  go_wp2_with (go_at_call 18; fail)
  go_at_call 18
  refine (wNum_any B WB _ _ n hn1 hn2 _ D0.out.tw.wri D0.out.tw.sz (D0.out.tw.len (by omega))).mono ?_
  rintro z w2h ⟨rfl, vb, g1, g2, g3⟩
  have Xb := hid (D0.out.tw.mid g2 g1)
  have bb := D0.out.half g2
  have G1b := hid g1
  have G2b := hid g2
  have G3b := hid g3
  obtain ⟨p0b, p1b, o1b, o2b, o3b, o4b, o5b, o6b, o7b⟩ := bb.cells
  clear g1 g2 g3 bb
  go_wp2_with (go_at_call 74; fail)
  go_at_call 74
  refine (xNum_any XB S E n hn1 hn2 _ Xb.out (by omega)).mono ?_
  intro z w2 hp
  have D1 := hid (D0.out.both hB G1b.out G2b.out G3b.out hp)
  obtain ⟨rfl, _, _⟩ := hp
  obtain ⟨p0bx, p1bx, o1bx, o2bx, o3bx, o4bx, o5bx, o6bx, o7bx⟩ := D1.out.bx.cells
  obtain ⟨tb, htb⟩ : ∃ tb, Hid (sv (if (if numErr n = 0 then E else fstE E (numErr n)) = 0 then (if numErr n = 0 then S ++ digs n.toNat else S) else []) = .string tb) := ⟨_, rfl⟩
  obtain ⟨ee, hee⟩ : ∃ ee : Int, Hid ((if numErr n = 0 then E else fstE E (numErr n)) = ee) := ⟨_, rfl⟩
  have yt : (tb.toList == tb.toList) = true := by simp
  have ye : (ee == ee) = true := by simp
  go_wp2_with (go_at_call 31; fail)
  go_at_call 31
  refine (wDone_any B WB _ _ w2 D1.out.lay D1.out.tw.wri).mono ?_
  rw [← rel_text D1.out.tw.rel, ← D1.out.tw.rel.1, htb.out, hee.out]
  rintro z we ⟨rfl, q1⟩
  have De := hid (D1.out.below q1)
  obtain ⟨p0e, p1e, o1e, o2e, o3e, o4e, o5e, o6e, o7e⟩ := De.out.bx.cells
  clear q1
  go_wp2_with (go_at_call 38; fail)
  go_at_call 38
  refine (xDone_any XB _ _ we De.out.tw.rw).mono ?_
  rw [htb.out, hee.out]
  rintro z wf ⟨rfl, q2⟩
  have Df := hid (De.out.below q2)
  clear q2
  go_wp2
  go_ret
  exact Df.out.post (Nat.le_trans (put_len _ _ _) (by omega))

set_option maxRecDepth 100000 in
set_option maxHeartbeats 4000000 in
theorem step4 (B WB XB : Nat) (hB : 1 ≤ B) (v : Value) (ws : WSt) (S : List UInt8) (E : Int) (o kp : Bool) (n m : Int) (s : ByteArray) (lv tv : Value) (hs : s.size ≤ 2000000) (w : World) (hL : Lay w) (T : Twin w B WB XB v ws S E) (hS : S.length ≤ 100000000000) :
    Calls Tryd.prog 37 #[pV WB XB, oV o kp 4 n m s lv tv] w (SPost w B WB XB v S) := by
  have D0 := hid (Way.start T hL #[.bool o, .bool kp, .int .i64 4, .int .i64 n, .int .i64 m, .string s, lv, tv])
  obtain ⟨p0a, p1a, o1a, o2a, o3a, o4a, o5a, o6a, o7a⟩ := D0.out.bx.cells
  clear T hL
  go_enter Tryd.func37, Tryd.ntmps37
  go_wp2_with (go_at_call 22; fail)
  go_at_call 22
  refine (wText_any B WB _ _ s n _ (by omega) D0.out.tw.wri D0.out.tw.sz (D0.out.tw.len (by have := digs_len9 (n := s.size) (by omega); rw [wrText, List.length_append, data_length]; omega))).mono ?_
  rintro z w2h ⟨rfl, vb, g1, g2, g3⟩
  have Xb := hid (D0.out.tw.mid g2 g1)
  have bb := D0.out.half g2
  have G1b := hid g1
  have G2b := hid g2
  have G3b := hid g3
  obtain ⟨p0b, p1b, o1b, o2b, o3b, o4b, o5b, o6b, o7b⟩ := bb.cells
  clear g1 g2 g3 bb
  go_wp2_with (go_at_call 78; fail)
  go_at_call 78
  refine (xText_any XB S E s n _ Xb.out (by omega) (by omega)).mono ?_
  intro z w2 hp
  have D1 := hid (D0.out.both hB G1b.out G2b.out G3b.out hp)
  obtain ⟨rfl, _, _⟩ := hp
  obtain ⟨p0bx, p1bx, o1bx, o2bx, o3bx, o4bx, o5bx, o6bx, o7bx⟩ := D1.out.bx.cells
  obtain ⟨tb, htb⟩ : ∃ tb, Hid (sv (if (if textErr s.size n = 0 then E else fstE E (textErr s.size n)) = 0 then (if textErr s.size n = 0 then S ++ wrText s.data.toList else S) else []) = .string tb) := ⟨_, rfl⟩
  obtain ⟨ee, hee⟩ : ∃ ee : Int, Hid ((if textErr s.size n = 0 then E else fstE E (textErr s.size n)) = ee) := ⟨_, rfl⟩
  have yt : (tb.toList == tb.toList) = true := by simp
  have ye : (ee == ee) = true := by simp
  go_wp2_with (go_at_call 31; fail)
  go_at_call 31
  refine (wDone_any B WB _ _ w2 D1.out.lay D1.out.tw.wri).mono ?_
  rw [← rel_text D1.out.tw.rel, ← D1.out.tw.rel.1, htb.out, hee.out]
  rintro z we ⟨rfl, q1⟩
  have De := hid (D1.out.below q1)
  obtain ⟨p0e, p1e, o1e, o2e, o3e, o4e, o5e, o6e, o7e⟩ := De.out.bx.cells
  clear q1
  go_wp2_with (go_at_call 38; fail)
  go_at_call 38
  refine (xDone_any XB _ _ we De.out.tw.rw).mono ?_
  rw [htb.out, hee.out]
  rintro z wf ⟨rfl, q2⟩
  have Df := hid (De.out.below q2)
  clear q2
  go_wp2
  go_ret
  exact Df.out.post (Nat.le_trans (put_len _ _ _) (by have := digs_len9 (n := s.size) (by omega); rw [wrText, List.length_append, data_length]; omega))

set_option maxRecDepth 100000 in
set_option maxHeartbeats 4000000 in
theorem step7 (B WB XB : Nat) (hB : 1 ≤ B) (v : Value) (ws : WSt) (S : List UInt8) (E : Int) (o kp : Bool) (n m : Int) (s : ByteArray) (lv tv : Value) (hs : s.size ≤ 2000000) (w : World) (hL : Lay w) (T : Twin w B WB XB v ws S E) (hS : S.length ≤ 100000000000) :
    Calls Tryd.prog 37 #[pV WB XB, oV o kp 7 n m s lv tv] w (SPost w B WB XB v S) := by
  have D0 := hid (Way.start T hL #[.bool o, .bool kp, .int .i64 7, .int .i64 n, .int .i64 m, .string s, lv, tv])
  obtain ⟨p0a, p1a, o1a, o2a, o3a, o4a, o5a, o6a, o7a⟩ := D0.out.bx.cells
  clear T hL
  go_enter Tryd.func37, Tryd.ntmps37
  go_wp2_with (go_at_call 28; fail)
  go_at_call 28
  refine (wRaw_any B WB _ _ s _ D0.out.tw.wri D0.out.tw.sz (D0.out.tw.len (by omega))).mono ?_
  rintro z w2h ⟨rfl, vb, g1, g2, g3⟩
  have Xb := hid (D0.out.tw.mid g2 g1)
  have bb := D0.out.half g2
  have G1b := hid g1
  have G2b := hid g2
  have G3b := hid g3
  obtain ⟨p0b, p1b, o1b, o2b, o3b, o4b, o5b, o6b, o7b⟩ := bb.cells
  clear g1 g2 g3 bb
  go_wp2_with (go_at_call 83; fail)
  go_at_call 83
  refine (xRaw_any XB S E s _ Xb.out (by omega)).mono ?_
  intro z w2 hp
  have D1 := hid (D0.out.both hB G1b.out G2b.out G3b.out hp)
  obtain ⟨rfl, _, _⟩ := hp
  obtain ⟨p0bx, p1bx, o1bx, o2bx, o3bx, o4bx, o5bx, o6bx, o7bx⟩ := D1.out.bx.cells
  obtain ⟨tb, htb⟩ : ∃ tb, Hid (sv (if (if (0 : Int) = 0 then E else fstE E 0) = 0 then (if (0 : Int) = 0 then S ++ s.data.toList else S) else []) = .string tb) := ⟨_, rfl⟩
  obtain ⟨ee, hee⟩ : ∃ ee : Int, Hid ((if (0 : Int) = 0 then E else fstE E 0) = ee) := ⟨_, rfl⟩
  have yt : (tb.toList == tb.toList) = true := by simp
  have ye : (ee == ee) = true := by simp
  go_wp2_with (go_at_call 31; fail)
  go_at_call 31
  refine (wDone_any B WB _ _ w2 D1.out.lay D1.out.tw.wri).mono ?_
  rw [← rel_text D1.out.tw.rel, ← D1.out.tw.rel.1, htb.out, hee.out]
  rintro z we ⟨rfl, q1⟩
  have De := hid (D1.out.below q1)
  obtain ⟨p0e, p1e, o1e, o2e, o3e, o4e, o5e, o6e, o7e⟩ := De.out.bx.cells
  clear q1
  go_wp2_with (go_at_call 38; fail)
  go_at_call 38
  refine (xDone_any XB _ _ we De.out.tw.rw).mono ?_
  rw [htb.out, hee.out]
  rintro z wf ⟨rfl, q2⟩
  have Df := hid (De.out.below q2)
  clear q2
  go_wp2
  go_ret
  exact Df.out.post (by rw [if_pos trivial, List.length_append, data_length]; omega)
end Go.Proofs.YtipcpdoejkoadaaDoor
