import Derived.Test.YteilkpihddfpeaaGreatDoorPkA1
import Derived.Test.YteilkpihddfpeaaGreatDoorPkD1
namespace Go.Proofs.YteilkpihddfpeaaGreatDoor
open Go.RowKit Cod

/-- everything outside S is as it was -/
structure Keep (S : Nat → Prop) (w w' : World) : Prop where
  os : w'.os = w.os
  tape : w'.tape = w.tape
  output : w'.output = w.output
  size : w.heap.size ≤ w'.heap.size
  block : ∀ k, k < w.heap.size → ¬ S k → w'.heap[k]? = w.heap[k]?
theorem Keep.refl (S : Nat → Prop) (w : World) : Keep S w w := ⟨rfl, rfl, rfl, Nat.le_refl _, fun _ _ _ => rfl⟩
theorem Keep.trans {S T : Nat → Prop} {w w1 w2 : World} (h : Keep S w w1) (k : Keep T w1 w2) (hT : ∀ j, j < w.heap.size → T j → S j) : Keep S w w2 :=
  ⟨k.os.trans h.os, k.tape.trans h.tape, k.output.trans h.output, Nat.le_trans h.size k.size, fun i hi hb => (k.block i (Nat.lt_of_lt_of_le hi h.size) (fun e => hb (hT i hi e))).trans (h.block i hi hb)⟩
theorem Keep.mono {S T : Nat → Prop} {w w' : World} (h : Keep S w w') (hT : ∀ j, j < w.heap.size → S j → T j) : Keep T w w' := ⟨h.os, h.tape, h.output, h.size, fun k hk hb => h.block k hk fun e => hb (hT k hk e)⟩
theorem Keep.below {S : Nat → Prop} {B : Nat} {w w' : World} (h : Keep S w w') (hB : B ≤ w.heap.size) (hS : ∀ k, k < B → ¬ S k) : Below B w w' :=
  ⟨h.os, h.tape, h.output, h.size, fun k hk => h.block k (by omega) (hS k hk)⟩
theorem Keep.ofBelow {S : Nat → Prop} {w w' : World} (h : Below w.heap.size w w') : Keep S w w' := ⟨h.os, h.tape, h.output, h.size, fun k hk _ => h.block k hk⟩
theorem Keep.ofBut {S : Nat → Prop} {b : Nat} {w w' : World} (h : But b w w') (hb : S b) : Keep S w w' := ⟨h.os, h.tape, h.output, h.size, fun k hk hs => h.block k hk fun e => hs (e ▸ hb)⟩
theorem Keep.ofGrown {S : Nat → Prop} {w w' : World} {row : Option Nat} (h : w.grownBy w' row) (hr : ∀ k, row = some k → S k) : Keep S w w' :=
  ⟨h.os, h.tape, h.output, h.size, fun k hk hs => h.block k hk fun e => hs (hr k e.symm)⟩
theorem Keep.setCell {S : Nat → Prop} {w w' : World} (h : Keep S w w') (b o : Nat) (v : Value) (hb : S b) : Keep S w (w'.setCell ⟨b, o, none⟩ v) :=
  h.trans (T := S) (Keep.ofBut ((But.refl b w').setCell o v) hb) (fun _ _ h => h)
theorem Keep.drew {S : Nat → Prop} {w w' : World} (h : Keep S w w') : Keep S w w'.drew := ⟨h.os, h.tape, h.output, h.size, h.block⟩
theorem Keep.drewN {S : Nat → Prop} {w w' : World} (h : Keep S w w') (n : Nat) : Keep S w (w'.drewN n) := ⟨h.os, h.tape, h.output, h.size, h.block⟩
theorem Own.keep {S : Nat → Prop} {w w' : World} {base : Nat} {v : Value} {cs : List Value} (h : Own w base v cs) (hb : Keep S w w') (hne : ∀ k, v.ownBlock = some k → ¬ S k) : Own w' base v cs := by
  refine h.kept hb.size fun g hg => hb.block g ?_ (hne g hg)
  rcases h with ⟨rfl, _⟩ | ⟨g', cap, rfl, h1, h2, h3, h4, h5, h6⟩
  · cases hg
  · cases hg; exact h6
theorem Own.lt {w : World} {base : Nat} {v : Value} {cs : List Value} (h : Own w base v cs) : ∀ k, v.ownBlock = some k → k < w.heap.size := by
  rcases h with ⟨rfl, _⟩ | ⟨g', cap, rfl, h1, h2, h3, h4, h5, h6⟩
  · intro k hk; cases hk
  · intro k hk; cases hk; exact h6
theorem Own.len {w : World} {base : Nat} {v : Value} {cs : List Value} (h : Own w base v cs) : cs.length ≤ maxLen := by
  rcases h with ⟨rfl, rfl⟩ | ⟨g', cap, rfl, h1, h2, h3, h4, h5, h6⟩
  · simp
  · omega
/-- the blocks that a slice owns -/
def OwnS (v : Value) : Nat → Prop := fun k => v.ownBlock = some k
/-- v' lies where v did, or in new memory -/
def From (w : World) (v v' : Value) : Prop := ∀ k, v'.ownBlock = some k → v.ownBlock = some k ∨ w.heap.size ≤ k
theorem From.refl (w : World) (v : Value) : From w v v := fun _ h => .inl h
theorem From.trans {w w1 : World} {v v1 v2 : Value} (h : From w v v1) (k : From w1 v1 v2) (hs : w.heap.size ≤ w1.heap.size) : From w v v2 := fun i hi => by
  rcases k i hi with h1 | h1
  · exact h i h1
  · exact .inr (by omega)
theorem Keep.own_trans {w w1 w2 : World} {v v1 : Value} (h : Keep (OwnS v) w w1) (k : Keep (OwnS v1) w1 w2) (hf : From w v v1) : Keep (OwnS v) w w2 :=
  h.trans k fun j hj e => by
    rcases hf j e with h1 | h1
    · exact h1
    · omega

theorem u8_or (n : Nat) : bits .or .u8 ((n : Int) % 256) 128 = ((n % 128 + 128 : Nat) : Int) := by
  have key : ∀ m : Fin 256, bits .or .u8 ((m.val : Nat) : Int) 128 = ((m.val % 128 + 128 : Nat) : Int) := by decide +kernel
  have := key ⟨n % 256, by omega⟩
  simp only at this
  rw [show ((n : Int) % 256) = ((n % 256 : Nat) : Int) from by omega, this]
  omega

/-- append(out, x) -/
theorem app1 (w : World) (base : Nat) (v : Value) (bs : List UInt8) (x : UInt8) (z : Int) (hz : z = (x.toNat : Int)) (hown : OwnB w base v bs) (hlen : bs.length + 1 ≤ 140737488355328) (hbase : base ≤ w.heap.size) :
    ∃ v' w', (Builtin.append_ #[64, 64] 64 #[v, .slice (some ⟨w.heap.size, 0, none⟩) 1 1]).run Tryz.prog (w.alloc (.cells #[.int .u8 z] 5)) = .ok v' w' ∧ OwnB w' base v' (bs ++ [x]) ∧ Keep (OwnS v) w w' ∧ From w v v' := by
  subst hz
  obtain ⟨v', w', h1, h2, h3, h4⟩ := append_new w base v bs [x] 1 #[.int .u8 (x.toNat : Int)] rfl rfl hown hlen hbase (by omega)
  refine ⟨v', w', h1, h2, Keep.ofGrown h3 (fun k hk => hk), fun k hk => ?_⟩
  rcases h4 with h4 | h4
  · exact .inl (h4 ▸ hk)
  · rw [h4] at hk; cases hk; exact .inr (by omega)
theorem append_nil_nil (w : World) (s : ByteArray) (hs : s.size = 0) : (Builtin.append_ #[64, 9] 64 #[.slice none 0 0, .string s]).run Tryz.prog w = .ok (.slice none 0 0) w := by
  obtain rfl : s = ⟨#[]⟩ := by
    cases s with
    | mk d => congr 1; exact Array.eq_empty_of_size_eq_zero hs
  kernel_rfl
/-- append(out, s...) -/
theorem appS (w : World) (base : Nat) (v : Value) (bs : List UInt8) (s : ByteArray) (hown : OwnB w base v bs) (hlen : bs.length + s.size ≤ 140737488355328) (hbase : base ≤ w.heap.size) :
    ∃ v' w', (Builtin.append_ #[64, 9] 64 #[v, .string s]).run Tryz.prog w = .ok v' w' ∧ OwnB w' base v' (bs ++ s.data.toList) ∧ Keep (OwnS v) w w' ∧ From w v v' := by
  by_cases hn : v = .slice none 0 0 ∧ s.size = 0
  · obtain ⟨rfl, hs⟩ := hn
    have hbs : bs = [] := by
      rcases hown with ⟨_, h⟩ | ⟨g, cap, h, _⟩
      · simpa [bv] using h
      · cases h
    have hd : s.data.toList = [] := List.length_eq_zero_iff.1 (by rw [data_length]; exact hs)
    refine ⟨_, _, append_nil_nil w s hs, ?_, Keep.refl _ _, From.refl _ _⟩
    rw [hbs, hd]
    exact .inl ⟨rfl, rfl⟩
  · obtain ⟨v', w', h1, h2, h3, h4⟩ := append_str w base v bs s hown hlen hbase (fun h => by
      rcases Nat.eq_zero_or_pos s.size with h0 | h0
      · exact absurd ⟨h, h0⟩ hn
      · exact h0)
    refine ⟨v', w', h1, h2, Keep.ofGrown h3 (fun k hk => hk), fun k hk => ?_⟩
    rcases h4 with h4 | h4
    · exact .inl (h4 ▸ hk)
    · rw [h4] at hk; cases hk; exact .inr (by omega)

set_option maxRecDepth 100000 in
set_option maxHeartbeats 400000 in
theorem appendNum_any (base : Nat) (v : Value) (bs : List UInt8) (n : Nat) (w : World) (hn : n ≤ 9223372036854775807) (hown : OwnB w base v bs) (hlen : bs.length + (digs n).length ≤ 140737488355328) (hbase : base ≤ w.heap.size) :
    Calls Tryz.prog 39 #[v, .int .i64 (n : Int)] w fun e w' => ∃ v', e = .returned v' ∧ OwnB w' base v' (bs ++ digs n) ∧ Keep (OwnS v) w w' ∧ From w v v' := by
  obtain ⟨a0, c0, hv⟩ := hown.shape
  subst hv
  generalize hvv : Value.slice a0 (bv bs).length c0 = v at *
  have Hv := hid hvv
  clear hvv
  go_enter Tryz.func39, Tryz.ntmps39
  go_wp2
  go_loopw [0, 1] (fun o i w' => ∃ (m : Nat) (bs' : List UInt8), i = .int .i64 (m : Int) ∧ m ≤ 9223372036854775807 ∧ Hid (bs' ++ digs m = bs ++ digs n) ∧ Hid (OwnB w' base o bs') ∧ Hid (Keep (OwnS v) w w') ∧ Hid (From w v o)) (fun _ i _ => (intOf i).toNat)
  case atStart => exact ⟨n, bs, rfl, hn, rfl, hown, Keep.refl _ _, From.refl _ _⟩
  case round =>
    obtain ⟨m, bs', rfl, hm, hd, ho, hk, hf⟩ := hrel
    have hbs := Nat.le_trans hbase hk.out.size
    have hll : bs'.length + (digs m).length ≤ 140737488355328 := by
      have := congrArg List.length hd.out
      simp only [List.length_append] at this
      omega
    have hp := digs_pos m
    by_cases hlt : m < 128
    · have b1 : (m : Int) < 128 := by omega
      obtain ⟨v2, w2, hc, h2, h3, h4⟩ := app1 wr base _ bs' (UInt8.ofNat m) (m : Int) (by simp; omega) ho.out (by omega) hbs
      have H2 := hid h2
      have H3 := hid (hk.out.own_trans h3 hf.out)
      have H4 := hid (hf.out.trans h4 hk.out.size)
      clear h2 h3 h4
      go_wp2_with (at_builtin; go_must (refine Lib.wpList_append_run _ rfl _ _ 64 64 rfl _ _ rfl rfl _ _ hc ?_))
      go_ret
      refine ⟨_, rfl, ?_, H3.out, H4.out⟩
      rw [← hd.out, digs_small hlt]; exact H2.out
    · have b1 : (128 : Int) ≤ (m : Int) := by omega
      have eo := u8_or m
      have eu : (UInt8.ofNat (m % 128 + 128)).toNat = m % 128 + 128 := by simp; omega
      obtain ⟨v2, w2, hc, h2, h3, h4⟩ := app1 wr base _ bs' (UInt8.ofNat (m % 128 + 128)) ((m % 128 + 128 : Nat) : Int) (by rw [eu]) ho.out (by omega) hbs
      have H2 := hid h2
      have H3 := hid (hk.out.own_trans h3 hf.out)
      have H4 := hid (hf.out.trans h4 hk.out.size)
      have HD : Hid ((bs' ++ [UInt8.ofNat (m % 128 + 128)]) ++ digs (m / 128) = bs ++ digs n) := by
        show _ = _
        rw [List.append_assoc, List.singleton_append, ← digs_great hlt, hd.out]
      clear h2 h3 h4 eu
      generalize ((m % 128 + 128 : Nat) : Int) = q at *
      go_wp2_with (at_builtin; go_must (refine Lib.wpList_append_run _ rfl _ _ 64 64 rfl _ _ rfl rfl _ _ hc ?_))
      exact ⟨⟨m / 128, _, by go_num, by omega, HD.out, H2.out, H3.out, H4.out⟩, by simp [intOf]; omega⟩
end Go.Proofs.YteilkpihddfpeaaGreatDoor

namespace Go.Proofs.YteilkpihddfpeaaGreatDoor
open Go.RowKit Cod

/-- a Writer: its bytes, or what was wrong first -/
inductive WSt where
  | ok (bs : List UInt8)
  | bad (e : Int)
def WSt.put (st : WSt) (e : Int) (l : List UInt8) : WSt :=
  match st with
  | .bad f => .bad f
  | .ok bs => if e = 0 then .ok (bs ++ l) else .bad e
/-- a fault as an error -/
def flt (e k : Int) : Value := .iface 98 (.agg #[.int .i64 e, .int .i64 k])
/-- a Writer lies in block b, its bytes in v -/
def Wri (w : World) (base b : Nat) (v : Value) (st : WSt) : Prop :=
  base ≤ b ∧ match st with
  | .ok bs => w.heap[b]? = some (.cells #[v, .nilIface] 71 (0, 0)) ∧ OwnB w base v bs ∧ v.ownBlock ≠ some b
  | .bad e => w.heap[b]? = some (.cells #[v, flt e 0] 71 (0, 0)) ∧ v = .slice none 0 0 ∧ e ≠ 0
/-- its blocks -/
def WS (b : Nat) (v : Value) : Nat → Prop := fun k => k = b ∨ v.ownBlock = some k

theorem Wri.lt {w : World} {base b : Nat} {v : Value} {st : WSt} (h : Wri w base b v st) : b < w.heap.size := by
  cases st with
  | ok bs => exact lt_of_heap h.2.1
  | bad e => exact lt_of_heap h.2.1
theorem Wri.in {w : World} {base b : Nat} {v : Value} {st : WSt} (h : Wri w base b v st) : ∀ k, WS b v k → base ≤ k ∧ k < w.heap.size := by
  have hl := h.lt
  cases st with
  | ok bs =>
    intro k hk
    rcases hk with rfl | hk
    · exact ⟨h.1, hl⟩
    · exact ⟨h.2.2.1.ge k hk, h.2.2.1.lt k hk⟩
  | bad e =>
    intro k hk
    rcases hk with rfl | hk
    · exact ⟨h.1, hl⟩
    · obtain ⟨_, _, rfl, _⟩ := h; cases hk
theorem Wri.keep {S : Nat → Prop} {w w' : World} {base b : Nat} {v : Value} {st : WSt} (h : Wri w base b v st) (hb : Keep S w w') (hne : ∀ k, WS b v k → ¬ S k) : Wri w' base b v st := by
  have hl := h.lt
  cases st with
  | ok bs => exact ⟨h.1, (hb.block b hl (hne b (.inl rfl))).trans h.2.1, h.2.2.1.keep hb (fun k hk => hne k (.inr hk)), h.2.2.2⟩
  | bad e => exact ⟨h.1, (hb.block b hl (hne b (.inl rfl))).trans h.2.1, h.2.2⟩
theorem Wri.below {w w' : World} {base b : Nat} {v : Value} {st : WSt} (h : Wri w base b v st) (hb : Below w.heap.size w w') : Wri w' base b v st :=
  h.keep (S := fun _ => False) (Keep.ofBelow hb) (fun _ _ h => h)
theorem row2_set0 {w : World} {b : Nat} {x y z : Value} {t : TypeId} (h : w.heap[b]? = some (.cells #[x, y] t (0, 0))) : (w.setCell ⟨b, 0, none⟩ z).heap[b]? = some (.cells #[z, y] t (0, 0)) := by
  rw [heap_setCell_same _ _ _ _ _ _ h]; rfl
theorem row2_set1 {w : World} {b : Nat} {x y z : Value} {t : TypeId} (h : w.heap[b]? = some (.cells #[x, y] t (0, 0))) : (w.setCell ⟨b, 1, none⟩ z).heap[b]? = some (.cells #[x, z] t (0, 0)) := by
  rw [heap_setCell_same _ _ _ _ _ _ h]; rfl

set_option maxRecDepth 100000 in
set_option maxHeartbeats 400000 in
theorem takes_bad {base b : Nat} {v : Value} {f e : Int} (w : World) (h : Wri w base b v (.bad f)) :
    Calls Tryz.prog 96 #[.pointer (some ⟨b, 0, none⟩), .int .i64 e] w fun r w' => r = .returned (.bool false) ∧ w' = w := by
  have c1 : w.cell? ⟨b, 1, none⟩ = some (.iface 98 (.agg #[.int .i64 f, .int .i64 0])) := by rw [cell_of_row _ _ _ _ _ _ h.2.1]; rfl
  clear h
  go_enter Tryz.func96, Tryz.ntmps96
  go_wp2
  go_ret
  exact ⟨rfl, rfl⟩
set_option maxRecDepth 100000 in
set_option maxHeartbeats 400000 in
theorem takes_yes {base b : Nat} {v : Value} {bs : List UInt8} {e : Int} (w : World) (h : Wri w base b v (.ok bs)) (he : e = 0) :
    Calls Tryz.prog 96 #[.pointer (some ⟨b, 0, none⟩), .int .i64 e] w fun r w' => r = .returned (.bool true) ∧ w' = w := by
  subst he
  have c1 : w.cell? ⟨b, 1, none⟩ = some .nilIface := by rw [cell_of_row _ _ _ _ _ _ h.2.1]; rfl
  clear h
  go_enter Tryz.func96, Tryz.ntmps96
  go_wp2
  go_ret
  exact ⟨rfl, rfl⟩
set_option maxRecDepth 100000 in
set_option maxHeartbeats 400000 in
theorem takes_no {base b : Nat} {v : Value} {bs : List UInt8} {e : Int} (w : World) (h : Wri w base b v (.ok bs)) (he : e ≠ 0) :
    Calls Tryz.prog 96 #[.pointer (some ⟨b, 0, none⟩), .int .i64 e] w fun r w' => r = .returned (.bool false) ∧ Wri w' base b (.slice none 0 0) (.bad e) ∧ But b w w' := by
  have c0 : w.cell? ⟨b, 0, none⟩ = some v := by rw [cell_of_row _ _ _ _ _ _ h.2.1]; rfl
  have c1 : w.cell? ⟨b, 1, none⟩ = some .nilIface := by rw [cell_of_row _ _ _ _ _ _ h.2.1]; rfl
  have f0 : w.frozen? ⟨b, 0, none⟩ = false := frozen_of_row _ _ _ _ _ h.2.1
  have f1 : w.frozen? ⟨b, 1, none⟩ = false := frozen_of_row _ _ _ _ _ h.2.1
  have H := hid h
  clear h
  go_enter Tryz.func96, Tryz.ntmps96
  go_wp2
  go_ret
  refine ⟨rfl, ⟨H.out.1, ?_, rfl, he⟩, ((But.refl b w).setCell 0 _).setCell 1 _⟩
  exact row2_set1 (row2_set0 H.out.2.1)

theorem i64_nonneg {n : Int} (h : 0 ≤ n) : n = (n.toNat : Int) := by omega
def byteErr (n : Int) : Int := if n < 0 ∨ 255 < n then 20 else 0
def numErr (n : Int) : Int := if n < 0 ∨ 4611686018427387904 < n then 20 else 0
def textErr (k : Nat) (most : Int) : Int := if most < 0 then 1 else if most < (k : Int) then 22 else 0
set_option maxRecDepth 100000 in
theorem byteFault_any (n : Int) (w : World) : Calls Tryz.prog 97 #[.int .i64 n] w fun r w' => r = .returned (.int .i64 (byteErr n)) ∧ w' = w := by
  by_cases h : n < 0 ∨ 255 < n
  · rw [byteErr, if_pos h]
    rcases h with h | h
    · go_enter Tryz.func97, Tryz.ntmps97
      go_wp2
      go_ret
      exact ⟨rfl, rfl⟩
    · have h0 : ¬ n < 0 := by omega
      go_enter Tryz.func97, Tryz.ntmps97
      go_wp2
      go_ret
      exact ⟨rfl, rfl⟩
  · rw [byteErr, if_neg h]
    have h0 : ¬ n < 0 := by omega
    have h1 : ¬ 255 < n := by omega
    go_enter Tryz.func97, Tryz.ntmps97
    go_wp2
    go_ret
    exact ⟨rfl, rfl⟩
set_option maxRecDepth 100000 in
theorem isNumber_any (n : Int) (h1 : -9223372036854775808 ≤ n) (h2 : n ≤ 9223372036854775807) (w : World) : Calls Tryz.prog 63 #[.int .i64 n] w fun r w' => r = .returned (.bool (decide (0 ≤ n ∧ n ≤ 4611686018427387904))) ∧ w' = w := by
  by_cases h : n < 0
  · have e : decide (0 ≤ n ∧ n ≤ 4611686018427387904) = false := decide_eq_false (by omega)
    rw [e]
    go_enter Tryz.func63, Tryz.ntmps63
    go_wp2
    go_ret
    exact ⟨rfl, rfl⟩
  · have hu : IntKind.u64.wrap n = n := by rw [IntKind.wrap_u64]; omega
    have hge : 0 ≤ n := by omega
    by_cases h3 : n ≤ 4611686018427387904
    · have e : decide (0 ≤ n ∧ n ≤ 4611686018427387904) = true := decide_eq_true (by omega)
      rw [e]
      go_enter Tryz.func63, Tryz.ntmps63
      go_wp2
      go_ret
      exact ⟨rfl, rfl⟩
    · have e : decide (0 ≤ n ∧ n ≤ 4611686018427387904) = false := decide_eq_false (by omega)
      rw [e]
      go_enter Tryz.func63, Tryz.ntmps63
      go_wp2
      go_ret
      exact ⟨rfl, rfl⟩
set_option maxRecDepth 100000 in
theorem numFault_any (n : Int) (h1 : -9223372036854775808 ≤ n) (h2 : n ≤ 9223372036854775807) (w : World) : Calls Tryz.prog 104 #[.int .i64 n] w fun r w' => r = .returned (.int .i64 (numErr n)) ∧ w' = w := by
  by_cases h : n < 0 ∨ 4611686018427387904 < n
  · rw [numErr, if_pos h]
    have e : decide (0 ≤ n ∧ n ≤ 4611686018427387904) = false := decide_eq_false (by omega)
    go_enter Tryz.func104, Tryz.ntmps104
    go_wp2_with (go_at_call 63; refine (isNumber_any n h1 h2 _).mono ?_; rw [e]; rintro e w' ⟨rfl, hw'⟩; rw [hw']; clear hw' w')
    go_ret
    exact ⟨rfl, rfl⟩
  · rw [numErr, if_neg h]
    have e : decide (0 ≤ n ∧ n ≤ 4611686018427387904) = true := decide_eq_true (by omega)
    go_enter Tryz.func104, Tryz.ntmps104
    go_wp2_with (go_at_call 63; refine (isNumber_any n h1 h2 _).mono ?_; rw [e]; rintro e w' ⟨rfl, hw'⟩; rw [hw']; clear hw' w')
    go_ret
    exact ⟨rfl, rfl⟩
set_option maxRecDepth 100000 in
theorem textFault_any (s : ByteArray) (most : Int) (w : World) : Calls Tryz.prog 26 #[.string s, .int .i64 most] w fun r w' => r = .returned (.int .i64 (textErr s.size most)) ∧ w' = w := by
  by_cases h : most < 0
  · rw [textErr, if_pos h]
    go_enter Tryz.func26, Tryz.ntmps26
    go_wp2
    go_ret
    exact ⟨rfl, rfl⟩
  · rw [textErr, if_neg h]
    by_cases h3 : most < (s.size : Int)
    · rw [if_pos h3]
      go_enter Tryz.func26, Tryz.ntmps26
      go_wp2
      go_ret
      exact ⟨rfl, rfl⟩
    · rw [if_neg h3]
      go_enter Tryz.func26, Tryz.ntmps26
      go_wp2
      go_ret
      exact ⟨rfl, rfl⟩
end Go.Proofs.YteilkpihddfpeaaGreatDoor
