import Derived.Test.YtmhgdcfmfcjagaaGreatDoorPkA1
import Derived.Test.YtmhgdcfmfcjagaaGreatDoorPkD1
namespace Go.Proofs.YtmhgdcfmfcjagaaGreatDoor
open Go.RowKit Cod
structure Keep (S : Nat → Prop) (w w' : World) : Prop where
  os : w'.os = w.os
  tape : w'.tape = w.tape
  output : w'.output = w.output
  size : w.heap.size ≤ w'.heap.size
  block : ∀ k, k < w.heap.size → ¬ S k → w'.heap[k]? = w.heap[k]?
theorem Keep.refl (S : Nat → Prop) (w : World) : Keep S w w := ⟨rfl, rfl, rfl, Nat.le_refl _, fun _ _ _ => rfl⟩
theorem Keep.trans {S T : Nat → Prop} {w w1 w2 : World} (h : Keep S w w1) (k : Keep T w1 w2) (hT : ∀ j, j < w.heap.size → T j → S j) : Keep S w w2 :=
  ⟨k.os.trans h.os, k.tape.trans h.tape, k.output.trans h.output, Nat.le_trans h.size k.size, fun i hi hb => (k.block i (Nat.lt_of_lt_of_le hi h.size) (fun e => hb (hT i hi e))).trans (h.block i hi hb)⟩
theorem Keep.mono {S T : Nat → Prop} {w w' : World} (h : Keep S w w') (hT : ∀ j, j < w.heap.size → S j → T j) : Keep T w w' := ⟨h.os, h.tape, h.output, h.size, fun k hk hb => h.block k hk fun e => hb (hT k hk e)⟩
theorem Keep.below {S : Nat → Prop} {B : Nat} {w w' : World} (h : Keep S w w') (hB : B ≤ w.heap.size) (hS : ∀ k, k < B → ¬ S k) : Below B w w' :=
  ⟨h.os, h.tape, h.output, h.size, fun k hk => h.block k (by omega) (hS k hk)⟩
theorem Keep.ofBelow {S : Nat → Prop} {w w' : World} (h : Below w.heap.size w w') : Keep S w w' := ⟨h.os, h.tape, h.output, h.size, fun k hk _ => h.block k hk⟩
theorem Keep.ofBut {S : Nat → Prop} {b : Nat} {w w' : World} (h : But b w w') (hb : S b) : Keep S w w' := ⟨h.os, h.tape, h.output, h.size, fun k hk hs => h.block k hk fun e => hs (e ▸ hb)⟩
theorem Keep.ofGrown {S : Nat → Prop} {w w' : World} {row : Option Nat} (h : w.grownBy w' row) (hr : ∀ k, row = some k → S k) : Keep S w w' :=
  ⟨h.os, h.tape, h.output, h.size, fun k hk hs => h.block k hk fun e => hs (hr k e.symm)⟩
theorem Keep.setCell {S : Nat → Prop} {w w' : World} (h : Keep S w w') (b o : Nat) (v : Value) (hb : S b) : Keep S w (w'.setCell ⟨b, o, none⟩ v) :=
  h.trans (T := S) (Keep.ofBut ((But.refl b w').setCell o v) hb) (fun _ _ h => h)
theorem Keep.drew {S : Nat → Prop} {w w' : World} (h : Keep S w w') : Keep S w w'.drew := ⟨h.os, h.tape, h.output, h.size, h.block⟩
theorem Own.keep {S : Nat → Prop} {w w' : World} {base : Nat} {v : Value} {cs : List Value} (h : Own w base v cs) (hb : Keep S w w') (hne : ∀ k, v.ownBlock = some k → ¬ S k) : Own w' base v cs := by
  refine h.kept hb.size fun g hg => hb.block g ?_ (hne g hg)
  rcases h with ⟨rfl, _⟩ | ⟨g', cap, rfl, h1, h2, h3, h4, h5, h6⟩
  · cases hg
  · cases hg; exact h6
theorem Own.lt {w : World} {base : Nat} {v : Value} {cs : List Value} (h : Own w base v cs) : ∀ k, v.ownBlock = some k → k < w.heap.size := by
  rcases h with ⟨rfl, _⟩ | ⟨g', cap, rfl, h1, h2, h3, h4, h5, h6⟩
  · intro k hk; cases hk
  · intro k hk; cases hk; exact h6
theorem Own.len {w : World} {base : Nat} {v : Value} {cs : List Value} (h : Own w base v cs) : cs.length ≤ maxLen := by
  rcases h with ⟨rfl, rfl⟩ | ⟨g', cap, rfl, h1, h2, h3, h4, h5, h6⟩
  · simp
  · omega
def OwnS (v : Value) : Nat → Prop := fun k => v.ownBlock = some k
def From (w : World) (v v' : Value) : Prop := ∀ k, v'.ownBlock = some k → v.ownBlock = some k ∨ w.heap.size ≤ k
theorem From.refl (w : World) (v : Value) : From w v v := fun _ h => .inl h
theorem From.trans {w w1 : World} {v v1 v2 : Value} (h : From w v v1) (k : From w1 v1 v2) (hs : w.heap.size ≤ w1.heap.size) : From w v v2 := fun i hi => by
  rcases k i hi with h1 | h1
  · exact h i h1
  · exact .inr (by omega)
theorem Keep.own_trans {w w1 w2 : World} {v v1 : Value} (h : Keep (OwnS v) w w1) (k : Keep (OwnS v1) w1 w2) (hf : From w v v1) : Keep (OwnS v) w w2 :=
  h.trans k fun j hj e => by
    rcases hf j e with h1 | h1
    · exact h1
    · omega
theorem u8_or (n : Nat) : bits .or .u8 ((n : Int) % 256) 128 = ((n % 128 + 128 : Nat) : Int) := by
  have key : ∀ m : Fin 256, bits .or .u8 ((m.val : Nat) : Int) 128 = ((m.val % 128 + 128 : Nat) : Int) := by decide +kernel
  have := key ⟨n % 256, by omega⟩
  simp only at this
  rw [show ((n : Int) % 256) = ((n % 256 : Nat) : Int) from by omega, this]
  omega
theorem app1 (w : World) (base : Nat) (v : Value) (bs : List UInt8) (x : UInt8) (z : Int) (hz : z = (x.toNat : Int)) (hown : OwnB w base v bs) (hlen : bs.length + 1 ≤ 140737488355328) (hbase : base ≤ w.heap.size) :
    ∃ v' w', (Builtin.append_ #[91, 91] 91 #[v, .slice (some ⟨w.heap.size, 0, none⟩) 1 1]).run Tryz.prog (w.alloc (.cells #[.int .u8 z] 5)) = .ok v' w' ∧ OwnB w' base v' (bs ++ [x]) ∧ Keep (OwnS v) w w' ∧ From w v v' := by
  subst hz
  obtain ⟨v', w', h1, h2, h3, h4⟩ := append_new w base v bs [x] 1 #[.int .u8 (x.toNat : Int)] rfl rfl hown hlen hbase (by omega)
  refine ⟨v', w', h1, h2, Keep.ofGrown h3 (fun k hk => hk), fun k hk => ?_⟩
  rcases h4 with h4 | h4
  · exact .inl (h4 ▸ hk)
  · rw [h4] at hk; cases hk; exact .inr (by omega)
theorem append_nil_nil (w : World) (s : ByteArray) (hs : s.size = 0) : (Builtin.append_ #[91, 9] 91 #[.slice none 0 0, .string s]).run Tryz.prog w = .ok (.slice none 0 0) w := by
  obtain rfl : s = ⟨#[]⟩ := by
    cases s with
    | mk d => congr 1; exact Array.eq_empty_of_size_eq_zero hs
  kernel_rfl
theorem appS (w : World) (base : Nat) (v : Value) (bs : List UInt8) (s : ByteArray) (hown : OwnB w base v bs) (hlen : bs.length + s.size ≤ 140737488355328) (hbase : base ≤ w.heap.size) :
    ∃ v' w', (Builtin.append_ #[91, 9] 91 #[v, .string s]).run Tryz.prog w = .ok v' w' ∧ OwnB w' base v' (bs ++ s.data.toList) ∧ Keep (OwnS v) w w' ∧ From w v v' := by
  by_cases hn : v = .slice none 0 0 ∧ s.size = 0
  · obtain ⟨rfl, hs⟩ := hn
    have hbs : bs = [] := by
      rcases hown with ⟨_, h⟩ | ⟨g, cap, h, _⟩
      · simpa [bv] using h
      · cases h
    have hd : s.data.toList = [] := List.length_eq_zero_iff.1 (by rw [data_length]; exact hs)
    refine ⟨_, _, append_nil_nil w s hs, ?_, Keep.refl _ _, From.refl _ _⟩
    rw [hbs, hd]
    exact .inl ⟨rfl, rfl⟩
  · obtain ⟨v', w', h1, h2, h3, h4⟩ := append_str w base v bs s hown hlen hbase (fun h => by
      rcases Nat.eq_zero_or_pos s.size with h0 | h0
      · exact absurd ⟨h, h0⟩ hn
      · exact h0)
    refine ⟨v', w', h1, h2, Keep.ofGrown h3 (fun k hk => hk), fun k hk => ?_⟩
    rcases h4 with h4 | h4
    · exact .inl (h4 ▸ hk)
    · rw [h4] at hk; cases hk; exact .inr (by omega)
set_option maxRecDepth 100000 in
set_option maxHeartbeats 400000 in
theorem appendNum_any (base : Nat) (v : Value) (bs : List UInt8) (n : Nat) (w : World) (hn : n ≤ 9223372036854775807) (hown : OwnB w base v bs) (hlen : bs.length + (digs n).length ≤ 140737488355328) (hbase : base ≤ w.heap.size) :
    Calls Tryz.prog 116 #[v, .int .i64 (n : Int)] w fun e w' => ∃ v', e = .returned v' ∧ OwnB w' base v' (bs ++ digs n) ∧ Keep (OwnS v) w w' ∧ From w v v' := by
  obtain ⟨a0, c0, hv⟩ := hown.shape
  subst hv
  generalize hvv : Value.slice a0 (bv bs).length c0 = v at *
  have Hv := hid hvv
  clear hvv
  go_enter Tryz.func116, Tryz.ntmps116
  go_wp2
  go_loopw [0, 1] (fun o i w' => ∃ (m : Nat) (bs' : List UInt8), i = .int .i64 (m : Int) ∧ m ≤ 9223372036854775807 ∧ Hid (bs' ++ digs m = bs ++ digs n) ∧ Hid (OwnB w' base o bs') ∧ Hid (Keep (OwnS v) w w') ∧ Hid (From w v o)) (fun _ i _ => (intOf i).toNat)
  case atStart => exact ⟨n, bs, rfl, hn, rfl, hown, Keep.refl _ _, From.refl _ _⟩
  case round =>
    obtain ⟨m, bs', rfl, hm, hd, ho, hk, hf⟩ := hrel
    have hbs := Nat.le_trans hbase hk.out.size
    have hll : bs'.length + (digs m).length ≤ 140737488355328 := by
      have := congrArg List.length hd.out
      simp only [List.length_append] at this
      omega
    have hp := digs_pos m
    by_cases hlt : m < 128
    · have b1 : (m : Int) < 128 := by omega
      obtain ⟨v2, w2, hc, h2, h3, h4⟩ := app1 wr base _ bs' (UInt8.ofNat m) (m : Int) (by simp; omega) ho.out (by omega) hbs
      have H2 := hid h2
      have H3 := hid (hk.out.own_trans h3 hf.out)
      have H4 := hid (hf.out.trans h4 hk.out.size)
      clear h2 h3 h4
      go_wp2_with (at_builtin; go_must (refine Lib.wpList_append_run _ rfl _ _ 91 91 rfl _ _ rfl rfl _ _ hc ?_))
      go_ret
      refine ⟨_, rfl, ?_, H3.out, H4.out⟩
      rw [← hd.out, digs_small hlt]; exact H2.out
    · have b1 : (128 : Int) ≤ (m : Int) := by omega
      have eo := u8_or m
      have eu : (UInt8.ofNat (m % 128 + 128)).toNat = m % 128 + 128 := by simp; omega
      obtain ⟨v2, w2, hc, h2, h3, h4⟩ := app1 wr base _ bs' (UInt8.ofNat (m % 128 + 128)) ((m % 128 + 128 : Nat) : Int) (by rw [eu]) ho.out (by omega) hbs
      have H2 := hid h2
      have H3 := hid (hk.out.own_trans h3 hf.out)
      have H4 := hid (hf.out.trans h4 hk.out.size)
      have HD : Hid ((bs' ++ [UInt8.ofNat (m % 128 + 128)]) ++ digs (m / 128) = bs ++ digs n) := by
        show _ = _
        rw [List.append_assoc, List.singleton_append, ← digs_great hlt, hd.out]
      clear h2 h3 h4 eu
      generalize ((m % 128 + 128 : Nat) : Int) = q at *
      go_wp2_with (at_builtin; go_must (refine Lib.wpList_append_run _ rfl _ _ 91 91 rfl _ _ rfl rfl _ _ hc ?_))
      exact ⟨⟨m / 128, _, by go_num, by omega, HD.out, H2.out, H3.out, H4.out⟩, by simp [intOf]; omega⟩
end Go.Proofs.YtmhgdcfmfcjagaaGreatDoor

namespace Go.Proofs.YtmhgdcfmfcjagaaGreatDoor
open Go.RowKit Cod
inductive WSt where
  | ok (bs : List UInt8)
  | bad (e : Int)
def WSt.put (st : WSt) (e : Int) (l : List UInt8) : WSt :=
  match st with
  | .bad f => .bad f
  | .ok bs => if e = 0 then .ok (bs ++ l) else .bad e
def flt (e k : Int) : Value := .iface 137 (.agg #[.int .i64 e, .int .i64 k])
def Wri (w : World) (base b : Nat) (v : Value) (st : WSt) : Prop :=
  base ≤ b ∧ match st with
  | .ok bs => w.heap[b]? = some (.cells #[v, .nilIface] 95 (0, 0)) ∧ OwnB w base v bs ∧ v.ownBlock ≠ some b
  | .bad e => w.heap[b]? = some (.cells #[v, flt e 0] 95 (0, 0)) ∧ v = .slice none 0 0 ∧ e ≠ 0
def WS (b : Nat) (v : Value) : Nat → Prop := fun k => k = b ∨ v.ownBlock = some k
theorem Wri.lt {w : World} {base b : Nat} {v : Value} {st : WSt} (h : Wri w base b v st) : b < w.heap.size := by
  cases st with
  | ok bs => exact lt_of_heap h.2.1
  | bad e => exact lt_of_heap h.2.1
theorem Wri.in {w : World} {base b : Nat} {v : Value} {st : WSt} (h : Wri w base b v st) : ∀ k, WS b v k → base ≤ k ∧ k < w.heap.size := by
  have hl := h.lt
  cases st with
  | ok bs =>
    intro k hk
    rcases hk with rfl | hk
    · exact ⟨h.1, hl⟩
    · exact ⟨h.2.2.1.ge k hk, h.2.2.1.lt k hk⟩
  | bad e =>
    intro k hk
    rcases hk with rfl | hk
    · exact ⟨h.1, hl⟩
    · obtain ⟨_, _, rfl, _⟩ := h; cases hk
theorem Wri.keep {S : Nat → Prop} {w w' : World} {base b : Nat} {v : Value} {st : WSt} (h : Wri w base b v st) (hb : Keep S w w') (hne : ∀ k, WS b v k → ¬ S k) : Wri w' base b v st := by
  have hl := h.lt
  cases st with
  | ok bs => exact ⟨h.1, (hb.block b hl (hne b (.inl rfl))).trans h.2.1, h.2.2.1.keep hb (fun k hk => hne k (.inr hk)), h.2.2.2⟩
  | bad e => exact ⟨h.1, (hb.block b hl (hne b (.inl rfl))).trans h.2.1, h.2.2⟩
theorem Wri.below {w w' : World} {base b : Nat} {v : Value} {st : WSt} (h : Wri w base b v st) (hb : Below w.heap.size w w') : Wri w' base b v st :=
  h.keep (S := fun _ => False) (Keep.ofBelow hb) (fun _ _ h => h)
theorem row2_set0 {w : World} {b : Nat} {x y z : Value} {t : TypeId} (h : w.heap[b]? = some (.cells #[x, y] t (0, 0))) : (w.setCell ⟨b, 0, none⟩ z).heap[b]? = some (.cells #[z, y] t (0, 0)) := by
  rw [heap_setCell_same _ _ _ _ _ _ h]; rfl
theorem row2_set1 {w : World} {b : Nat} {x y z : Value} {t : TypeId} (h : w.heap[b]? = some (.cells #[x, y] t (0, 0))) : (w.setCell ⟨b, 1, none⟩ z).heap[b]? = some (.cells #[x, z] t (0, 0)) := by
  rw [heap_setCell_same _ _ _ _ _ _ h]; rfl
set_option maxRecDepth 100000 in
set_option maxHeartbeats 400000 in
theorem takes_bad {base b : Nat} {v : Value} {f e : Int} (w : World) (h : Wri w base b v (.bad f)) :
    Calls Tryz.prog 160 #[.pointer (some ⟨b, 0, none⟩), .int .i64 e] w fun r w' => r = .returned (.bool false) ∧ w' = w := by
  have c1 : w.cell? ⟨b, 1, none⟩ = some (.iface 137 (.agg #[.int .i64 f, .int .i64 0])) := by rw [cell_of_row _ _ _ _ _ _ h.2.1]; rfl
  clear h
  go_enter Tryz.func160, Tryz.ntmps160
  go_wp2
  go_ret
  exact ⟨rfl, rfl⟩
set_option maxRecDepth 100000 in
set_option maxHeartbeats 400000 in
theorem takes_yes {base b : Nat} {v : Value} {bs : List UInt8} {e : Int} (w : World) (h : Wri w base b v (.ok bs)) (he : e = 0) :
    Calls Tryz.prog 160 #[.pointer (some ⟨b, 0, none⟩), .int .i64 e] w fun r w' => r = .returned (.bool true) ∧ w' = w := by
  subst he
  have c1 : w.cell? ⟨b, 1, none⟩ = some .nilIface := by rw [cell_of_row _ _ _ _ _ _ h.2.1]; rfl
  clear h
  go_enter Tryz.func160, Tryz.ntmps160
  go_wp2
  go_ret
  exact ⟨rfl, rfl⟩
set_option maxRecDepth 100000 in
set_option maxHeartbeats 400000 in
theorem takes_no {base b : Nat} {v : Value} {bs : List UInt8} {e : Int} (w : World) (h : Wri w base b v (.ok bs)) (he : e ≠ 0) :
    Calls Tryz.prog 160 #[.pointer (some ⟨b, 0, none⟩), .int .i64 e] w fun r w' => r = .returned (.bool false) ∧ Wri w' base b (.slice none 0 0) (.bad e) ∧ But b w w' := by
  have c0 : w.cell? ⟨b, 0, none⟩ = some v := by rw [cell_of_row _ _ _ _ _ _ h.2.1]; rfl
  have c1 : w.cell? ⟨b, 1, none⟩ = some .nilIface := by rw [cell_of_row _ _ _ _ _ _ h.2.1]; rfl
  have f0 : w.frozen? ⟨b, 0, none⟩ = false := frozen_of_row _ _ _ _ _ h.2.1
  have f1 : w.frozen? ⟨b, 1, none⟩ = false := frozen_of_row _ _ _ _ _ h.2.1
  have H := hid h
  clear h
  go_enter Tryz.func160, Tryz.ntmps160
  go_wp2
  go_ret
  refine ⟨rfl, ⟨H.out.1, ?_, rfl, he⟩, ((But.refl b w).setCell 0 _).setCell 1 _⟩
  exact row2_set1 (row2_set0 H.out.2.1)
def byteErr (n : Int) : Int := if n < 0 ∨ 255 < n then 20 else 0
def numErr (n : Int) : Int := if n < 0 ∨ 4611686018427387904 < n then 20 else 0
def textErr (k : Nat) (most : Int) : Int := if most < 0 then 1 else if most < (k : Int) then 22 else 0
set_option maxRecDepth 100000 in
theorem byteFault_any (n : Int) (w : World) : Calls Tryz.prog 161 #[.int .i64 n] w fun r w' => r = .returned (.int .i64 (byteErr n)) ∧ w' = w := by
  by_cases h : n < 0 ∨ 255 < n
  · rw [byteErr, if_pos h]
    rcases h with h | h
    · go_enter Tryz.func161, Tryz.ntmps161
      go_wp2
      go_ret
      exact ⟨rfl, rfl⟩
    · have h0 : ¬ n < 0 := by omega
      go_enter Tryz.func161, Tryz.ntmps161
      go_wp2
      go_ret
      exact ⟨rfl, rfl⟩
  · rw [byteErr, if_neg h]
    have h0 : ¬ n < 0 := by omega
    have h1 : ¬ 255 < n := by omega
    go_enter Tryz.func161, Tryz.ntmps161
    go_wp2
    go_ret
    exact ⟨rfl, rfl⟩
set_option maxRecDepth 100000 in
theorem isNumber_any (n : Int) (h1 : -9223372036854775808 ≤ n) (h2 : n ≤ 9223372036854775807) (w : World) : Calls Tryz.prog 130 #[.int .i64 n] w fun r w' => r = .returned (.bool (decide (0 ≤ n ∧ n ≤ 4611686018427387904))) ∧ w' = w := by
  by_cases h : n < 0
  · have e : decide (0 ≤ n ∧ n ≤ 4611686018427387904) = false := decide_eq_false (by omega)
    rw [e]
    go_enter Tryz.func130, Tryz.ntmps130
    go_wp2
    go_ret
    exact ⟨rfl, rfl⟩
  · have hu : IntKind.u64.wrap n = n := by rw [IntKind.wrap_u64]; omega
    have hge : 0 ≤ n := by omega
    by_cases h3 : n ≤ 4611686018427387904
    · have e : decide (0 ≤ n ∧ n ≤ 4611686018427387904) = true := decide_eq_true (by omega)
      rw [e]
      go_enter Tryz.func130, Tryz.ntmps130
      go_wp2
      go_ret
      exact ⟨rfl, rfl⟩
    · have e : decide (0 ≤ n ∧ n ≤ 4611686018427387904) = false := decide_eq_false (by omega)
      rw [e]
      go_enter Tryz.func130, Tryz.ntmps130
      go_wp2
      go_ret
      exact ⟨rfl, rfl⟩
set_option maxRecDepth 100000 in
theorem numFault_any (n : Int) (h1 : -9223372036854775808 ≤ n) (h2 : n ≤ 9223372036854775807) (w : World) : Calls Tryz.prog 168 #[.int .i64 n] w fun r w' => r = .returned (.int .i64 (numErr n)) ∧ w' = w := by
  by_cases h : n < 0 ∨ 4611686018427387904 < n
  · rw [numErr, if_pos h]
    have e : decide (0 ≤ n ∧ n ≤ 4611686018427387904) = false := decide_eq_false (by omega)
    go_enter Tryz.func168, Tryz.ntmps168
    go_wp2_with (go_at_call 130; refine (isNumber_any n h1 h2 _).mono ?_; rw [e]; rintro e w' ⟨rfl, hw'⟩; rw [hw']; clear hw' w')
    go_ret
    exact ⟨rfl, rfl⟩
  · rw [numErr, if_neg h]
    have e : decide (0 ≤ n ∧ n ≤ 4611686018427387904) = true := decide_eq_true (by omega)
    go_enter Tryz.func168, Tryz.ntmps168
    go_wp2_with (go_at_call 130; refine (isNumber_any n h1 h2 _).mono ?_; rw [e]; rintro e w' ⟨rfl, hw'⟩; rw [hw']; clear hw' w')
    go_ret
    exact ⟨rfl, rfl⟩
set_option maxRecDepth 100000 in
theorem textFault_any (s : ByteArray) (most : Int) (w : World) : Calls Tryz.prog 94 #[.string s, .int .i64 most] w fun r w' => r = .returned (.int .i64 (textErr s.size most)) ∧ w' = w := by
  by_cases h : most < 0
  · rw [textErr, if_pos h]
    go_enter Tryz.func94, Tryz.ntmps94
    go_wp2
    go_ret
    exact ⟨rfl, rfl⟩
  · rw [textErr, if_neg h]
    by_cases h3 : most < (s.size : Int)
    · rw [if_pos h3]
      go_enter Tryz.func94, Tryz.ntmps94
      go_wp2
      go_ret
      exact ⟨rfl, rfl⟩
    · rw [if_neg h3]
      go_enter Tryz.func94, Tryz.ntmps94
      go_wp2
      go_ret
      exact ⟨rfl, rfl⟩
end Go.Proofs.YtmhgdcfmfcjagaaGreatDoor

namespace Go.Proofs.YtmhgdcfmfcjagaaGreatDoor
open Go.RowKit Cod
theorem i64_small (n : Nat) (h : n < 9223372036854775808) : IntKind.i64.wrap (n : Int) = (n : Int) := by rw [IntKind.wrap_i64]; omega
theorem i64_or_nat (a b : Nat) (ha : a < 9223372036854775808) (hb : b < 9223372036854775808) : bits .or .i64 (a : Int) (b : Int) = ((a ||| b : Nat) : Int) := by
  have hx : a ||| b < 2 ^ 63 := Nat.or_lt_two_pow (by omega) (by omega)
  show IntKind.i64.wrap ((BitVec.ofInt 64 (a : Int) ||| BitVec.ofInt 64 (b : Int)).toNat : Int) = _
  rw [BitVec.toNat_or, ofInt_u64 a (by omega), ofInt_u64 b (by omega)]
  exact i64_small _ hx
theorem u8_and (x : Nat) (h : x < 256) : bits .and .u8 (x : Int) 127 = ((x % 128 : Nat) : Int) := by
  have key : ∀ m : Fin 256, bits .and .u8 ((m.val : Nat) : Int) 127 = ((m.val % 128 : Nat) : Int) := by decide +kernel
  exact key ⟨x, h⟩
theorem pow7 (k : Nat) : 2 ^ (7 * k) = 128 ^ k := by rw [Nat.pow_mul]
theorem pow128_le {k : Nat} (h : k ≤ 8) : 128 ^ k ≤ 72057594037927936 := by
  have := Nat.pow_le_pow_right (show 0 < 128 by omega) h
  have e : 128 ^ 8 = 72057594037927936 := by decide
  omega
theorem or_dig (acc y k : Nat) (hk : k ≤ 8) (ha : acc < 128 ^ k) (hy : y < 128) : bits .or .i64 (acc : Int) ((y : Int) * 2 ^ (7 * k)) = ((acc + y * 128 ^ k : Nat) : Int) := by
  have hp := pow128_le hk
  have e : (y : Int) * 2 ^ (7 * k) = ((y * 128 ^ k : Nat) : Int) := by rw [Int.natCast_mul, ← pow7]; rfl
  have hm : y * 128 ^ k ≤ 127 * 72057594037927936 := Nat.mul_le_mul (by omega) hp
  rw [e, i64_or_nat _ _ (by omega) (by omega)]
  congr 1
  rw [← pow7] at ha ⊢
  rw [Nat.or_comm, Nat.mul_comm y, ← Nat.two_pow_add_eq_or_of_lt ha, Nat.add_comm]
theorem dig_lt (acc y k : Nat) (hk : k ≤ 8) (ha : acc < 128 ^ k) (hy : y < 128) : acc + y * 128 ^ k < 128 ^ (k + 1) ∧ acc + y * 128 ^ k ≤ 9223372036854775807 := by
  have hp := pow128_le hk
  have h2 : y * 128 ^ k ≤ 127 * 128 ^ k := Nat.mul_le_mul_right _ (by omega)
  rw [Nat.pow_succ]
  omega
def tupN : Rd Nat → Value
  | .bad e => .tuple #[.int .i64 0, sv [], .int .i64 (e : Int)]
  | .good n r => .tuple #[.int .i64 (n : Int), sv r, .int .i64 0]
def tupS : Rd (List UInt8) → Value
  | .bad e => .tuple #[sv [], sv [], .int .i64 (e : Int)]
  | .good t r => .tuple #[sv t, sv r, .int .i64 0]
theorem sv_of (b : ByteArray) : sv b.data.toList = .string b := by
  cases b with
  | mk d => simp [sv]
theorem sv_drop (s : ByteArray) (k : Nat) : sv (s.data.toList.drop k) = .string (s.extract k s.size) := by
  rw [← sv_of, Lib.extract_data, List.take_of_length_le (by rw [List.length_drop, data_length]; omega)]
theorem sv_take (s : ByteArray) (k : Nat) : sv (s.data.toList.take k) = .string (s.extract 0 k) := by
  rw [← sv_of, Lib.extract_data, List.drop_zero]; rfl
set_option maxRecDepth 100000 in
set_option maxHeartbeats 1000000 in
theorem numAt_any (s : ByteArray) (w : World) (hs : s.size ≤ maxLen) :
    Calls Tryz.prog 129 #[.string s] w fun r w' => r = .returned (tupN (rdNum s.data.toList)) ∧ Below w.heap.size w w' := by
  unfold maxLen at hs
  obtain ⟨R, hR⟩ : ∃ R, Hid (rdNum s.data.toList = R) := ⟨_, rfl⟩
  rw [hR.out]
  go_enter Tryz.func129, Tryz.ntmps129
  go_wp2
  go_loopw [5, 8] (fun n i w' => ∃ (k acc : Nat), k ≤ 9 ∧ k ≤ s.size ∧ i = .int .i64 k ∧ n = .int .i64 (acc : Int) ∧ Hid (acc < 128 ^ k) ∧ Hid (rdDig (s.data.toList.drop k) k acc = R) ∧ w' = w) (fun _ i _ => 9 - (intOf i).toNat)
  case atStart => exact ⟨0, 0, by omega, by omega, rfl, rfl, by show 0 < 1; omega, hR.out, rfl⟩
  case round =>
    obtain ⟨k, acc, hk, hks, rfl, rfl, ha, hr, rfl⟩ := hrel
    by_cases hk9 : k < 9
    · have b0 : (k : Int) < 9 := by omega
      by_cases hlt : k < s.size
      · have b1 : (k : Int) < (s.size : Int) := by omega
        have b2 : ((k : Int) == (s.size : Int)) = false := by simp; omega
        obtain ⟨x, hx, hx2, hi, hi2⟩ := index_any s (k : Int) k rfl hlt
        obtain ⟨z, hz⟩ : ∃ z : Nat, Hid (x % 128 * 128 ^ k = z) := ⟨_, rfl⟩
        obtain ⟨n2, hn2⟩ : ∃ n2 : Nat, Hid (acc + z = n2) := ⟨_, rfl⟩
        have hz63 : z < 9223372036854775808 := by
          have hp := pow128_le (show k ≤ 8 by omega)
          have hm : x % 128 * 128 ^ k ≤ 127 * 72057594037927936 := Nat.mul_le_mul (by omega) hp
          rw [← hz.out]; omega
        obtain ⟨y, hy⟩ : ∃ y : Nat, Hid (x % 128 = y) := ⟨_, rfl⟩
        have hy2 : y < 128 := by rw [← hy.out]; omega
        have h0 : bits .and .u8 (x : Int) 127 = (y : Int) := by rw [u8_and x hx2, hy.out]
        have h1 : wrap64 ((y : Int) * 2 ^ (7 * k)) = (z : Int) := by
          have e2 : (y : Int) * 2 ^ (7 * k) = (z : Int) := by
            rw [← hz.out, hy.out, Int.natCast_mul, ← pow7]; rfl
          rw [e2]
          unfold wrap64
          omega
        have h3 : bits .or .i64 (acc : Int) (z : Int) = (n2 : Int) := by
          have e := or_dig acc (x % 128) k (by omega) ha.out (by omega)
          rw [← hn2.out, ← hz.out, ← e]
          congr 1
          rw [Int.natCast_mul, ← pow7]; rfl
        have t1 : (7 * (k : Int)).toNat = 7 * k := by omega
        obtain ⟨hl1, hl2⟩ := dig_lt acc (x % 128) k (by omega) ha.out (by omega)
        have hHl := hid hl1
        rw [hz.out, hn2.out] at hl2
        clear hl1
        have hcons : s.data.toList.drop k = UInt8.ofNat x :: s.data.toList.drop (k + 1) := by
          have hk' : k < s.data.toList.length := by rw [data_length]; exact hlt
          rw [List.drop_eq_getElem_cons hk']
          congr 1
          rw [hx.out, List.getD_eq_getElem?_getD, List.getElem?_eq_getElem hk']
          simp
        have hxu : (UInt8.ofNat x).toNat = x := by simp; omega
        have hr2 := hr.out
        rw [hcons, rdDig, if_neg (by omega), hxu] at hr2
        have HI2 := hid hi2
        clear hi2
        by_cases hge : 128 ≤ x
        · rw [if_pos hge, hz.out, hn2.out] at hr2
          have HR2 := hid hr2
          have b3 : (128 : Int) ≤ (x : Int) := by omega
          clear hr2 hxu hcons
          go_wp2
          exact ⟨⟨k + 1, n2, by omega, by omega, by go_num, rfl, by show _ < _; rw [← hn2.out, ← hz.out]; exact hHl.out, HR2, trivial⟩, by simp [intOf]; omega⟩
        · rw [if_neg hge] at hr2
          have b3 : ¬ (128 : Int) ≤ (x : Int) := by omega
          by_cases h0 : x = 0 ∧ 0 < k
          · rw [if_pos h0] at hr2
            subst hr2
            have b4 : ((x : Int) == 0) = true := by simp; omega
            have b5 : (0 : Int) < (k : Int) := by omega
            clear hxu hcons
            go_wp2
            go_ret3
            exact ⟨rfl, Below.refl _ _⟩
          · rw [if_neg h0] at hr2
            have ez : x * 128 ^ k = z := by rw [← hz.out, Nat.mod_eq_of_lt (by omega)]
            rw [ez, hn2.out] at hr2
            by_cases ht : top < n2
            · rw [if_pos ht] at hr2
              subst hr2
              have e : decide (0 ≤ (n2 : Int) ∧ (n2 : Int) ≤ 4611686018427387904) = false := decide_eq_false (by rw [top] at ht; omega)
              clear hxu hcons ez ht
              by_cases hx0 : x = 0
              · exfalso
                have hk0 : k = 0 := by omega
                subst hk0 hx0
                have h5 := ha.out
                have h6 := hz.out
                have h7 := hn2.out
                have h8 := of_decide_eq_false e
                simp at h5 h6
                omega
              · have b4 : ((x : Int) == 0) = false := by simp; omega
                go_wp2_with (go_at_call 130; refine (isNumber_any (n2 : Int) (by omega) (by omega) _).mono ?_; rw [e]; rintro e w' ⟨rfl, hw'⟩; rw [hw']; clear hw' w')
                go_ret3
                exact ⟨rfl, Below.refl _ _⟩
            · rw [if_neg ht] at hr2
              subst hr2
              have e : decide (0 ≤ (n2 : Int) ∧ (n2 : Int) ≤ 4611686018427387904) = true := decide_eq_true (by rw [top] at ht; omega)
              clear hxu hcons ez ht
              by_cases hx0 : x = 0
              · have hk0 : k = 0 := by omega
                subst hk0 hx0
                have h5 := ha.out
                have h6 := hz.out
                have h7 := hn2.out
                simp at h5 h6
                obtain rfl : z = 0 := by omega
                obtain rfl : n2 = 0 := by omega
                subst h5
                have g0 : bits .and .u8 0 127 = 0 := by decide +kernel
                have g1 : bits .or .i64 0 0 = 0 := by decide +kernel
                have g2 : wrap64 0 = 0 := by unfold wrap64; omega
                have hs0 := HI2.out hlt
                clear h0 h1 h3 h6 h7 hn2 hz t1 hl2
                go_wp2_with (go_at_call 130; fail)
                go_at_call 130
                refine (isNumber_any 0 (by omega) (by omega) _).mono ?_
                rw [show decide ((0 : Int) ≤ 0 ∧ (0 : Int) ≤ 4611686018427387904) = true from rfl]
                rintro e w' ⟨rfl, hw'⟩; rw [hw']; clear hw' w'
                go_wp2
                go_quiet (fail)
                go_wp2
                go_ret3
                exact ⟨by rw [tupN, sv_drop]; rfl, below_drewN (Below.refl _ _) _⟩
              · have b4 : ((x : Int) == 0) = false := by simp; omega
                go_wp2_with (go_at_call 130; refine (isNumber_any (n2 : Int) (by omega) (by omega) _).mono ?_; rw [e]; rintro e w' ⟨rfl, hw'⟩; rw [hw']; clear hw' w')
                go_quiet (fail)
                go_wp2
                go_ret3
                exact ⟨by rw [tupN, sv_drop]; rfl, below_drewN (Below.refl _ _) _⟩
      · have e1 : k = s.size := by omega
        have b1 : ((k : Int) == (s.size : Int)) = true := by simp; omega
        have hb : R = .bad 21 := by
          rw [← hr.out, e1, ← data_length, List.drop_length, rdDig, if_neg (by rw [data_length]; omega)]
        subst hb
        go_wp2
        go_ret3
        exact ⟨rfl, Below.refl _ _⟩
    · have e1 : k = 9 := by omega
      subst e1
      have hb : R = .bad 20 := by
        rw [← hr.out]
        cases s.data.toList.drop 9 with
        | nil => rw [rdDig, if_pos rfl]
        | cons b r => rw [rdDig, if_pos rfl]
      subst hb
      go_wp2
      go_ret3
      exact ⟨rfl, Below.refl _ _⟩
end Go.Proofs.YtmhgdcfmfcjagaaGreatDoor

namespace Go.Proofs.YtmhgdcfmfcjagaaGreatDoor
open Go.RowKit Cod
namespace Cod
def NZ {α : Type} (x : Rd α) : Prop := ∀ e, x = .bad e → 0 < e
theorem NZ.bind {α β : Type} {x : Rd α} {k : α → List UInt8 → Rd β} (h : NZ x) (hk : ∀ v r, NZ (k v r)) : NZ (x.bind k) := by
  cases x with
  | bad e => intro f hf; exact h f (by rw [Rd.bind_bad] at hf; injection hf with hf; rw [hf])
  | good v r => exact hk v r
theorem NZ.good {α : Type} (v : α) (r : List UInt8) : NZ (Rd.good v r) := fun e h => by cases h
theorem NZ.bad {α : Type} {e : Nat} (h : 0 < e) : NZ (Rd.bad e : Rd α) := fun f hf => by injection hf with hf; omega
theorem NZ.ite {α : Type} {c : Prop} [Decidable c] {x y : Rd α} (hx : NZ x) (hy : NZ y) : NZ (if c then x else y) := by split <;> assumption
theorem nz_dig : ∀ (s : List UInt8) (i acc : Nat), NZ (rdDig s i acc)
  | [], i, acc => NZ.ite (NZ.bad (by omega)) (NZ.bad (by omega))
  | b :: r, i, acc => NZ.ite (NZ.bad (by omega)) (NZ.ite (nz_dig r _ _) (NZ.ite (NZ.bad (by omega)) (NZ.ite (NZ.bad (by omega)) (NZ.good _ _))))
theorem nz_num (s : List UInt8) : NZ (rdNum s) := nz_dig s 0 0
theorem nz_byte (s : List UInt8) : NZ (rdByte s) := by cases s <;> first | exact NZ.bad (by omega) | exact NZ.good _ _
theorem nz_many (s : List UInt8) (m : Int) : NZ (rdMany s m) := NZ.ite (NZ.bad (by omega)) (NZ.bind (nz_num s) fun _ _ => NZ.ite (NZ.bad (by omega)) (NZ.good _ _))
theorem nz_raw (s : List UInt8) (n : Int) : NZ (rdRaw s n) := NZ.ite (NZ.bad (by omega)) (NZ.ite (NZ.bad (by omega)) (NZ.good _ _))
theorem nz_text (s : List UInt8) (m : Int) : NZ (rdText s m) := NZ.bind (nz_many s m) fun _ _ => nz_raw _ _
theorem nz_textsN (m : Int) : ∀ n l s, NZ (rdTextsN m n l s)
  | 0, _, _ => NZ.good _ _
  | n + 1, _, s => NZ.bind (nz_text s m) fun _ _ => nz_textsN m n _ _
theorem nz_texts (s : List UInt8) (many m : Int) : NZ (rdTexts s many m) := NZ.ite (NZ.bad (by omega)) (NZ.bind (nz_many s many) fun _ _ => nz_textsN m _ _ _)
theorem nz_riseN : ∀ n a l s, NZ (rdRiseN n a l s)
  | 0, _, _, _ => NZ.good _ _
  | n + 1, _, _, s => NZ.bind (nz_num s) fun _ _ => NZ.ite (NZ.bad (by omega)) (nz_riseN n _ _ _)
theorem nz_rising (s : List UInt8) (many : Int) : NZ (rdRising s many) := NZ.bind (nz_many s many) fun _ _ => nz_riseN _ _ _ _
theorem nz_hashN : ∀ n l s, NZ (rdHashN n l s)
  | 0, _, _ => NZ.good _ _
  | n + 1, _, _ => nz_hashN n _ _
theorem nz_hashes (s : List UInt8) (many : Int) : NZ (rdHashes s many) := NZ.bind (nz_many s many) fun _ _ => NZ.ite (NZ.bad (by omega)) (nz_hashN _ _ _)
end Cod
theorem numAt_sv (l : List UInt8) (w : World) (hs : l.length ≤ maxLen) :
    Calls Tryz.prog 129 #[sv l] w fun r w' => r = .returned (tupN (rdNum l)) ∧ Below w.heap.size w w' := by
  have := numAt_any ⟨l.toArray⟩ w (by rw [sv_size]; exact hs)
  rwa [sv_data] at this
theorem isEmpty_data (s : ByteArray) : s.toList.isEmpty = decide (s.size = 0) := by
  have h := data_length s
  rw [ByteArray.toList_eq]
  cases hd : s.data.toList with
  | nil => rw [hd] at h; simp at h; simp [← h]
  | cons a r =>
    have hz : ¬ s.size = 0 := by rw [hd, List.length_cons] at h; omega
    rw [decide_eq_false hz]; rfl
set_option maxRecDepth 100000 in
set_option maxHeartbeats 1000000 in
theorem byteAt_any (s : ByteArray) (w : World) (hs : s.size ≤ maxLen) :
    Calls Tryz.prog 186 #[.string s] w fun r w' => r = .returned (tupN (rdByte s.data.toList)) ∧ Below w.heap.size w w' := by
  unfold maxLen at hs
  have he := isEmpty_data s
  by_cases h0 : s.size = 0
  · rw [decide_eq_true h0] at he
    have : s.data.toList = [] := List.length_eq_zero_iff.1 (by rw [data_length]; exact h0)
    rw [this]
    go_enter Tryz.func186, Tryz.ntmps186
    go_wp2
    go_ret3
    exact ⟨rfl, Below.refl _ _⟩
  · rw [decide_eq_false h0] at he
    obtain ⟨x, hx, hx2, hi, hi2⟩ := index_any s 0 0 rfl (by omega)
    have hs0 := hi2 (by omega)
    have hp : (0 : Int) < (s.size : Int) := by omega
    have hp1 : (1 : Int) ≤ (s.size : Int) := by omega
    have hcons : s.data.toList = UInt8.ofNat x :: s.data.toList.drop 1 := by
      have hk' : 0 < s.data.toList.length := by rw [data_length]; omega
      have := List.drop_eq_getElem_cons hk'
      rw [List.drop_zero] at this
      rw [hx.out, List.getD_eq_getElem?_getD, List.getElem?_eq_getElem hk']
      simpa using this
    have hxu : (UInt8.ofNat x).toNat = x := by simp; omega
    have hr : rdByte s.data.toList = .good x (s.data.toList.drop 1) := by
      conv => lhs; rw [hcons]
      rw [rdByte, hxu]
    rw [hr, tupN, sv_drop]
    clear hr hxu hcons hi2
    go_enter Tryz.func186, Tryz.ntmps186
    go_wp2
    go_quiet (fail)
    go_wp2
    go_ret3
    exact ⟨rfl, below_drewN (Below.refl _ _) _⟩
set_option maxRecDepth 100000 in
set_option maxHeartbeats 1000000 in
theorem manyAt_any (s : ByteArray) (most : Int) (w : World) (hs : s.size ≤ maxLen) :
    Calls Tryz.prog 124 #[.string s, .int .i64 most] w fun r w' => r = .returned (tupN (rdMany s.data.toList most)) ∧ Below w.heap.size w w' := by
  rw [rdMany]
  by_cases h : most < 0
  · rw [if_pos h]
    go_enter Tryz.func124, Tryz.ntmps124
    go_wp2
    go_ret3
    exact ⟨rfl, Below.refl _ _⟩
  rw [if_neg h]
  have hN := numAt_any s w hs
  have hnz := nz_num s.data.toList
  cases hR : rdNum s.data.toList with
  | bad e =>
    rw [hR] at hN
    simp only [tupN] at hN
    have he := hnz e hR
    have he' : ((e : Int) == 0) = false := by simp; omega
    clear hR hnz
    rw [Rd.bind_bad]
    go_enter Tryz.func124, Tryz.ntmps124
    go_wp2_with (go_at_call 129; refine hN.mono ?_; rintro x w1 ⟨rfl, h1⟩; have H1 := hid h1; clear h1)
    go_ret3
    exact ⟨rfl, H1.out⟩
  | good n r =>
    rw [hR] at hN
    simp only [tupN] at hN
    clear hR hnz
    rw [Rd.bind_good]
    by_cases hm : most < (n : Int)
    · rw [if_pos hm]
      go_enter Tryz.func124, Tryz.ntmps124
      go_wp2_with (go_at_call 129; refine hN.mono ?_; rintro x w1 ⟨rfl, h1⟩; have H1 := hid h1; clear h1)
      go_ret3
      exact ⟨rfl, H1.out⟩
    · rw [if_neg hm]
      go_enter Tryz.func124, Tryz.ntmps124
      go_wp2_with (go_at_call 129; refine hN.mono ?_; rintro x w1 ⟨rfl, h1⟩; have H1 := hid h1; clear h1)
      go_ret3
      exact ⟨rfl, H1.out⟩
set_option maxRecDepth 100000 in
set_option maxHeartbeats 1000000 in
theorem rawAt_any (s : ByteArray) (n : Int) (w : World) :
    Calls Tryz.prog 125 #[.string s, .int .i64 n] w fun r w' => r = .returned (tupS (rdRaw s.data.toList n)) ∧ Below w.heap.size w w' := by
  rw [rdRaw]
  by_cases h : n < 0
  · rw [if_pos h]
    go_enter Tryz.func125, Tryz.ntmps125
    go_wp2
    go_ret3
    exact ⟨rfl, Below.refl _ _⟩
  rw [if_neg h, data_length]
  by_cases h2 : (s.size : Int) < n
  · rw [if_pos h2]
    go_enter Tryz.func125, Tryz.ntmps125
    go_wp2
    go_ret3
    exact ⟨rfl, Below.refl _ _⟩
  rw [if_neg h2]
  obtain ⟨m, rfl⟩ := Int.eq_ofNat_of_zero_le (show 0 ≤ n by omega)
  rw [Int.toNat_natCast, tupS, sv_drop, sv_take]
  have b0 : (m : Int) ≤ (s.size : Int) := by omega
  go_enter Tryz.func125, Tryz.ntmps125
  go_wp2
  go_quiet (fail)
  go_wp2
  go_ret3
  exact ⟨rfl, below_drewN (Below.refl _ _) _⟩
theorem rawAt_sv (l : List UInt8) (n : Int) (w : World) :
    Calls Tryz.prog 125 #[sv l, .int .i64 n] w fun r w' => r = .returned (tupS (rdRaw l n)) ∧ Below w.heap.size w w' := by
  have := rawAt_any ⟨l.toArray⟩ n w
  rwa [sv_data] at this
set_option maxRecDepth 100000 in
set_option maxHeartbeats 1000000 in
theorem textAt_any (s : ByteArray) (most : Int) (w : World) (hs : s.size ≤ maxLen) :
    Calls Tryz.prog 104 #[.string s, .int .i64 most] w fun r w' => r = .returned (tupS (rdText s.data.toList most)) ∧ Below w.heap.size w w' := by
  rw [rdText]
  have hN := manyAt_any s most w hs
  have hnz := nz_many s.data.toList most
  cases hR : rdMany s.data.toList most with
  | bad e =>
    rw [hR] at hN
    simp only [tupN] at hN
    have he := hnz e hR
    have he' : ((e : Int) == 0) = false := by simp; omega
    clear hR hnz
    rw [Rd.bind_bad]
    go_enter Tryz.func104, Tryz.ntmps104
    go_wp2_with (go_at_call 124; refine hN.mono ?_; rintro x w1 ⟨rfl, h1⟩; have H1 := hid h1; clear h1)
    go_ret3
    exact ⟨rfl, H1.out⟩
  | good n r =>
    rw [hR] at hN
    simp only [tupN] at hN
    clear hR hnz
    rw [Rd.bind_good]
    have hraw := fun w => rawAt_sv r (n : Int) w
    have HRaw := hid hraw
    clear hraw
    obtain ⟨X, hX⟩ : ∃ X, Hid (rdRaw r (n : Int) = X) := ⟨_, rfl⟩
    rw [hX.out]
    go_enter Tryz.func104, Tryz.ntmps104
    go_wp2_with (first
      | (go_at_call 124; refine hN.mono ?_; rintro x w1 ⟨rfl, h1⟩; have H1 := hid h1; clear h1)
      | (go_at_call 125; fail))
    go_at_call 125
    refine (HRaw.out _).mono ?_
    rw [hX.out]
    rintro x w2 ⟨rfl, h2⟩
    have H2 := hid (H1.out.trans (h2.mono H1.out.size))
    clear h2
    cases X with
    | bad e =>
      rw [tupS]
      go_wp2
      go_ret3
      exact ⟨rfl, H2.out⟩
    | good t r' =>
      rw [tupS]
      go_wp2
      go_ret3
      exact ⟨rfl, H2.out⟩
theorem textAt_sv (l : List UInt8) (most : Int) (w : World) (hs : l.length ≤ maxLen) :
    Calls Tryz.prog 104 #[sv l, .int .i64 most] w fun r w' => r = .returned (tupS (rdText l most)) ∧ Below w.heap.size w w' := by
  have := textAt_any ⟨l.toArray⟩ most w (by rw [sv_size]; exact hs)
  rwa [sv_data] at this
end Go.Proofs.YtmhgdcfmfcjagaaGreatDoor
