import Derived.Test.YtmhgdcfmfcjagaaGreatDoorPkME8
import Derived.Deep.Slices
import Derived.Test.YtmhgdcfmfcjagaaGreatDoorPkMW10
import Derived.Test.YtmhgdcfmfcjagaaGreatDoorPkMW2
namespace Go.Proofs.YtmhgdcfmfcjagaaGreatDoor
open Go.RowKit Cod
namespace Msg

theorem ws_text (p : List UInt8) : (WSt.ok p).text = p := rfl
set_option maxRecDepth 100000 in
set_option maxHeartbeats 1000000 in
theorem frame_yes {w : World} {base b c : Nat} {v : Value} {p : List UInt8} (h : Ly w base b c v (.ok p, false)) (T : Lay w) (hp : p.length ≤ 1048576) :
    Calls Tryz.prog 31 #[.pointer (some ⟨c, 0, none⟩)] w fun e w' => e = .returned (.tuple #[sv (wrText p), .int .i64 0]) ∧ Below w.heap.size w w' := by
  have c0 := h.c0
  have i1 := wDone_any base b v (.ok p) w T h.wri
  rw [show (WSt.ok p).text = p from rfl, show (WSt.ok p).err = 0 from rfl, show sv p = .string ⟨p.toArray⟩ from rfl] at i1
  have HY := hid h
  clear h T
  go_enter Tryz.func31, Tryz.ntmps31
  go_wp2_with (first
    | (go_at_call 62; refine i1.mono ?_; rintro e w1 ⟨rfl, h1⟩; have d1 := (HY.out.below h1).c1; have i2 := frame_any ⟨p.toArray⟩ w1; rw [if_neg (by rw [sv_size]; omega), sv_data] at i2; have H1 := hid h1; clear h1)
    | (go_at_call 63; refine i2.mono ?_; rintro e w2 ⟨rfl, h2⟩; have H2 := hid (H1.out.trans (h2.mono H1.out.size)); clear h2))
  go_ret2
  exact ⟨rfl, H2.out⟩
theorem Ak.mono {w : World} {base base' : Nat} {x : Ask} {ul ue ua : Value} (h : Ak w base x ul ue ua) (hb : base ≤ base') : Ak w base' x ul ue ua :=
  ⟨fun y n c e h0 => Nat.lt_of_lt_of_le (h.l1 y n c e h0) hb, fun y n c e h0 => Nat.lt_of_lt_of_le (h.l2 y n c e h0) hb, h.s1, h.s2, h.s3⟩
theorem Ak.bl {w w' : World} {base : Nat} {x : Ask} {ul ue ua : Value} (h : Ak w base x ul ue ua) (hb : Below base w w') : Ak w' base x ul ue ua := ⟨h.l1, h.l2, h.l1.slcI h.s1 hb, h.l2.slc h.s2 hb, h.s3⟩
theorem El.monoX {w : World} {lo hi hi' g j : Nat} {x : Ask} (h : El w lo hi g j x) (hb : hi ≤ hi') : El w lo hi' g j x := by
  obtain ⟨ul, ue, ua, c0, c1, c2, c3, c4, c5, c6, n1, n2, s1, s2, s3⟩ := h
  exact ⟨ul, ue, ua, c0, c1, c2, c3, c4, c5, c6, n1.mono (Nat.le_refl _) hb, n2.mono (Nat.le_refl _) hb, s1, s2, s3⟩
theorem As.monoX {w : World} {lo hi hi' : Nat} {u : Value} {l : List Ask} (h : As w lo hi u l) (hb : hi ≤ hi') : As w lo hi' u l := by
  rcases h with h | ⟨g, cap, rfl, h1, h2, h3, h4⟩
  · exact .inl h
  · exact .inr ⟨g, cap, rfl, h1, by omega, h3, fun j x hx => (h4 j x hx).monoX hb⟩
/-- what was taken whole, and may be handed to Encode -/
structure Rq (w : World) (x : Ask) (l : List Ask) (ul ue ua : Value) : Prop where
  ak : Ak w w.heap.size x ul ue ua
  gd : Gd x 1 12
  ls : x.kind = 12 → As w 0 w.heap.size ua l ∧ x.n = l.length ∧ wi (l.length : Int) 1 64 = true ∧ ∀ x ∈ l, Gd x 3 7
set_option maxRecDepth 100000 in
set_option maxHeartbeats 2000000 in
theorem encode_yes {w : World} {x : Ask} {l : List Ask} {ul ue ua : Value} {p : List UInt8} (T : Lay w) (h : Rq w x l ul ue ua) (hq : lRequest x l (.ok [], false) = (.ok p, false)) (hp : p.length ≤ 1048576) :
    Calls Tryz.prog 9 #[akV x ul ue ua] w fun e w' => e = .returned (.tuple #[sv (wrText p), .int .i64 0]) ∧ Below w.heap.size w w' := by
  obtain ⟨p1, q1, rfl, _⟩ := id h.ak.s1
  obtain ⟨p2, q2, rfl, _⟩ := id h.ak.s2
  obtain ⟨p3, q3, rfl⟩ := id h.ak.s3
  have hT := T.lt
  have H := hid h
  have HT := hid T
  have HQ := hid hq
  have hw := h.gd.wi
  clear h T hq
  rw [akV]
  go_enter Tryz.func9, Tryz.ntmps9
  go_wp2_with (first
    | (go_at_call 28; refine (within_any _ _ _ _).mono ?_; rw [hw]; rintro e w' ⟨rfl, hw'⟩; rw [hw']; clear hw' w')
    | (go_at_call 29; fail))
  obtain ⟨w1, hw1⟩ : ∃ w1, Hid (w.alloc (.cells #[.int .i64 x.kind, .int .i64 x.a, .int .i64 x.b, .int .i64 x.size, .slice p1 x.list.length q1, .slice p2 x.ent.length q2, .slice p3 x.n q3] 26) = w1) := ⟨_, rfl⟩
  have b1 : Below w.heap.size w w1 := by rw [← hw1.out]; exact (Below.refl _ _).alloc (Nat.le_refl _) _
  have r1 : w1.heap[w.heap.size]? = some (.cells #[.int .i64 x.kind, .int .i64 x.a, .int .i64 x.b, .int .i64 x.size, .slice p1 x.list.length q1, .slice p2 x.ent.length q2, .slice p3 x.n q3] 26 (0, 0)) := by rw [← hw1.out]; exact heap_alloc_new _ _
  have z1 : w1.heap.size = w.heap.size + 1 := by rw [← hw1.out]; exact size_alloc _ _
  rw [hw1.out]
  go_at_call 29
  refine (newWriter_any w1).mono ?_
  rintro e w2 ⟨rfl, n1, n2, n3⟩
  obtain ⟨w3, hw3⟩ : ∃ w3, Hid (w2.alloc (.cells #[.pointer (some ⟨w1.heap.size, 0, none⟩), .bool false] 63) = w3) := ⟨_, rfl⟩
  have b3 : Below w2.heap.size w2 w3 := by rw [← hw3.out]; exact (Below.refl _ _).alloc (Nat.le_refl _) _
  have hr3 : w3.heap[w2.heap.size]? = some (.cells #[.pointer (some ⟨w1.heap.size, 0, none⟩), .bool false] 63 (0, 0)) := by rw [← hw3.out]; exact heap_alloc_new _ _
  have bb : Below w.heap.size w w3 := b1.trans ((n2.mono (by omega)).trans (b3.mono (by have := n2.size; omega)))
  have hY : Ly w3 w1.heap.size w1.heap.size w2.heap.size (.slice none 0 0) (.ok [], false) := ⟨hr3, n1.below b3, by omega, fun e => (by cases e), n2.size⟩
  have r3 : w2.heap[w.heap.size]? = some (.cells #[.int .i64 x.kind, .int .i64 x.a, .int .i64 x.b, .int .i64 x.size, .slice p1 x.list.length q1, .slice p2 x.ent.length q2, .slice p3 x.n q3] 26 (0, 0)) := (n2.block _ (by omega)).trans r1
  have c0 : w2.cell? ⟨w.heap.size, 0, none⟩ = some (.int .i64 x.kind) := by rw [cell_of_row _ _ _ _ _ _ r3]; rfl
  have c1 : w2.cell? ⟨w.heap.size, 1, none⟩ = some (.int .i64 x.a) := by rw [cell_of_row _ _ _ _ _ _ r3]; rfl
  have c2 : w2.cell? ⟨w.heap.size, 2, none⟩ = some (.int .i64 x.b) := by rw [cell_of_row _ _ _ _ _ _ r3]; rfl
  have c3 : w2.cell? ⟨w.heap.size, 3, none⟩ = some (.int .i64 x.size) := by rw [cell_of_row _ _ _ _ _ _ r3]; rfl
  have c4 : w2.cell? ⟨w.heap.size, 4, none⟩ = some (.slice p1 x.list.length q1) := by rw [cell_of_row _ _ _ _ _ _ r3]; rfl
  have c5 : w2.cell? ⟨w.heap.size, 5, none⟩ = some (.slice p2 x.ent.length q2) := by rw [cell_of_row _ _ _ _ _ _ r3]; rfl
  have c6 : w2.cell? ⟨w.heap.size, 6, none⟩ = some (.slice p3 x.n q3) := by rw [cell_of_row _ _ _ _ _ _ r3]; rfl
  have hm0 : Sm (WSt.ok [], false) 1000000000000 := fun bs e => by injection e with e; subst e; simp
  have i1 := request_yes (l := l) hY ((H.out.ak.bl bb).mono (by omega : w.heap.size ≤ w1.heap.size)) H.out.gd hm0 (fun e => by
    obtain ⟨a1, a2, a3, a4⟩ := H.out.ls e
    exact ⟨(a1.bl bb).monoX (by omega), a2, a3, a4⟩)
  rw [HQ.out, akV] at i1
  have HY := hid hY
  have BB := hid bb
  have hz3 : w1.heap.size < w3.heap.size := by have := n2.size; have := b3.size; omega
  have HT3 : Hid (Lay w3) := HT.out.below bb hT
  have hT1 : 1 ≤ w1.heap.size := by omega
  have hle : w.heap.size ≤ w1.heap.size := by omega
  have hlt2 : w.heap.size < w2.heap.size := by have := n2.size; omega
  have hne2 : ¬ w.heap.size = w2.heap.size := by omega
  clear n1 n2 n3 b1 b3 r1 z1 r3 hr3 hY bb hm0
  rw [← hw3.out] at i1
  go_wp2_with (first
    | (go_at_call 30; refine i1.mono ?_; rintro e w5 ⟨rfl, hlo⟩; rw [hw3.out] at hlo; obtain ⟨v', y1, y2, y3⟩ := hlo; have bl5 := Lo.bl HY.out y2; have i2 := frame_yes y1 (HT3.out.below bl5 hT1) hp; have B5 := hid (BB.out.trans (bl5.mono hle)); clear y1 y2 y3 bl5)
    | (go_at_call 31; refine i2.mono ?_; rintro e w6 ⟨rfl, h6⟩; have B6 := hid (B5.out.trans (h6.mono B5.out.size)); clear h6))
  go_ret2
  exact ⟨rfl, B6.out⟩
end Msg
end Go.Proofs.YtmhgdcfmfcjagaaGreatDoor

namespace Go.Proofs.YtmhgdcfmfcjagaaGreatDoor
open Go.RowKit Cod
namespace Msg

/-- what is wrong has a name -/
def Nzs (s : LS) : Prop := ∀ e, s.1 = .bad e → e ≠ 0
def NzL (L : LS → LS) : Prop := ∀ s, Nzs s → Nzs (L s)
theorem NzL.id : NzL id := fun _ h => h
theorem NzL.comp {L1 L2 : LS → LS} (h1 : NzL L1) (h2 : NzL L2) : NzL (fun s => L2 (L1 s)) := fun s h => h2 _ (h1 s h)
theorem nz_lif (ok : Bool) (e : Int) (l : List UInt8) : NzL (lif ok e l) := fun s h f hf => by
  rw [lif] at hf
  split at hf
  · have hf : s.1.put e l = .bad f := hf
    cases hs : s.1 with
    | bad g =>
      rw [hs, WSt.put] at hf
      injection hf with hf
      exact hf ▸ h g hs
    | ok bs =>
      rw [hs, WSt.put] at hf
      split at hf
      · cases hf
      · rename_i he
        injection hf with hf
        exact hf ▸ he
  · exact h f hf
theorem nz_fold {α : Type} (F : α → LS → LS) (hF : ∀ a, NzL (F a)) : ∀ l : List α, NzL (fun s => l.foldl (fun s a => F a s) s)
  | [] => NzL.id
  | a :: l => fun s h => nz_fold F hF l (F a s) (hF a s h)
theorem nz_nil : Nzs (.ok [], false) := fun e h => by cases h
/-- what frame answers -/
def frO (s : LS) : Value :=
  if s.1.err = 0 ∧ s.2 = false then (if 1048576 < s.1.text.length then .tuple #[sv [], .int .i64 174] else .tuple #[sv (wrText s.1.text), .int .i64 0]) else .tuple #[sv [], .int .i64 171]
theorem ws_some {s : LS} (h : Nzs s) (he : s.1.err = 0 ∧ s.2 = false) : ∃ p, s = (.ok p, false) := by
  obtain ⟨st, q⟩ := s
  obtain ⟨h1, h2⟩ := he
  have h2 : q = false := h2
  subst h2
  cases st with
  | ok p => exact ⟨p, rfl⟩
  | bad e => exact absurd h1 (h e rfl)
set_option maxRecDepth 100000 in
set_option maxHeartbeats 1000000 in
theorem frame_long {w : World} {base b c : Nat} {v : Value} {p : List UInt8} (h : Ly w base b c v (.ok p, false)) (T : Lay w) (hp : 1048576 < p.length) :
    Calls Tryz.prog 31 #[.pointer (some ⟨c, 0, none⟩)] w fun e w' => e = .returned (.tuple #[sv [], .int .i64 174]) ∧ Below w.heap.size w w' := by
  have c0 := h.c0
  have i1 := wDone_any base b v (.ok p) w T h.wri
  rw [show (WSt.ok p).text = p from rfl, show (WSt.ok p).err = 0 from rfl, show sv p = .string ⟨p.toArray⟩ from rfl] at i1
  have HY := hid h
  clear h T
  go_enter Tryz.func31, Tryz.ntmps31
  go_wp2_with (first
    | (go_at_call 62; refine i1.mono ?_; rintro e w1 ⟨rfl, h1⟩; have d1 := (HY.out.below h1).c1; have i2 := frame_any ⟨p.toArray⟩ w1; rw [if_pos (by rw [sv_size]; omega)] at i2; have H1 := hid h1; clear h1)
    | (go_at_call 63; refine i2.mono ?_; rintro e w2 ⟨rfl, h2⟩; have H2 := hid (H1.out.trans (h2.mono H1.out.size)); clear h2))
  go_ret2
  exact ⟨rfl, H2.out⟩
set_option maxRecDepth 100000 in
set_option maxHeartbeats 1000000 in
theorem frame_bad {w : World} {base b c : Nat} {v : Value} {s : LS} (h : Ly w base b c v s) (T : Lay w) (hs : ¬ s.1.err = 0) :
    Calls Tryz.prog 31 #[.pointer (some ⟨c, 0, none⟩)] w fun e w' => e = .returned (.tuple #[sv [], .int .i64 171]) ∧ Below w.heap.size w w' := by
  have c0 := h.c0
  have i1 := wDone_any base b v s.1 w T h.wri
  rw [show sv s.1.text = .string ⟨s.1.text.toArray⟩ from rfl] at i1
  generalize s.1.err = z at *
  generalize s.1.text = t at *
  have hb : (z == 0) = false := by simp [hs]
  clear h T
  go_enter Tryz.func31, Tryz.ntmps31
  go_wp2_with (first
    | (go_at_call 62; refine i1.mono ?_; rintro e w1 ⟨rfl, h1⟩; have H1 := hid h1; clear h1))
  go_ret2
  exact ⟨rfl, H1.out⟩
set_option maxRecDepth 100000 in
set_option maxHeartbeats 1000000 in
theorem frame_wrong {w : World} {base b c : Nat} {v : Value} {s : LS} (h : Ly w base b c v s) (T : Lay w) (hs : s.1.err = 0) (hq : s.2 = true) :
    Calls Tryz.prog 31 #[.pointer (some ⟨c, 0, none⟩)] w fun e w' => e = .returned (.tuple #[sv [], .int .i64 171]) ∧ Below w.heap.size w w' := by
  have c0 := h.c0
  have i1 := wDone_any base b v s.1 w T h.wri
  rw [show sv s.1.text = .string ⟨s.1.text.toArray⟩ from rfl, hs] at i1
  have HY := hid h
  have HQ := hid hq
  generalize s.1.text = t at i1
  clear h T hs hq
  go_enter Tryz.func31, Tryz.ntmps31
  go_wp2_with (first
    | (go_at_call 62; refine i1.mono ?_; rintro e w1 ⟨rfl, h1⟩; have d1 := (HY.out.below h1).c1; rw [HQ.out] at d1; have H1 := hid h1; clear h1))
  go_ret2
  exact ⟨rfl, H1.out⟩
theorem frameL_any {w : World} {base b c : Nat} {v : Value} {s : LS} (h : Ly w base b c v s) (T : Lay w) (hz : Nzs s) :
    Calls Tryz.prog 31 #[.pointer (some ⟨c, 0, none⟩)] w fun e w' => e = .returned (frO s) ∧ Below w.heap.size w w' := by
  by_cases hg : s.1.err = 0 ∧ s.2 = false
  · obtain ⟨p, rfl⟩ := ws_some hz hg
    rw [frO, if_pos hg]
    show Calls _ _ _ _ fun e w' => e = .returned (if 1048576 < p.length then .tuple #[sv [], .int .i64 174] else .tuple #[sv (wrText p), .int .i64 0]) ∧ _
    by_cases hp : 1048576 < p.length
    · rw [if_pos hp]; exact frame_long h T hp
    · rw [if_neg hp]; exact frame_yes h T (by omega)
  · rw [frO, if_neg hg]
    by_cases he : s.1.err = 0
    · exact frame_wrong h T he (by
        cases hq : s.2 with
        | true => rfl
        | false => exact absurd ⟨he, hq⟩ hg)
    · exact frame_bad h T he
theorem str_eta17 {l : List UInt8} {b : ByteArray} (h : sv l = .string b) : b.data.toList = l ∧ b.size = l.length := by
  unfold sv at h
  injection h with h
  rw [← h]
  exact ⟨sv_data l, sv_size l⟩
theorem app_data17 (a b : ByteArray) : (a ++ b).data.toList = a.data.toList ++ b.data.toList := by
  cases a; cases b
  rw [ByteArray.mk_append_mk]
theorem below_drewN17 {B : Nat} {a w : World} (h : Below B a w) (n : Nat) : Below B a (w.drewN n) := ⟨h.os, h.tape, h.output, h.size, h.block⟩
set_option maxRecDepth 100000 in
set_option maxHeartbeats 800000 in
theorem sameTexts_yes (l : List (List UInt8)) (ua ub : Value) (w : World) (ha : Slc w ua l) (hb : Slc w ub l) (hll : l.length ≤ maxLen) :
    Calls Tryz.prog 39 #[ua, ub] w fun e w' => e = .returned (.bool true) ∧ Below w.heap.size w w' := by
  obtain ⟨a, ca, rfl, ha⟩ := ha
  obtain ⟨d, cd, rfl, hd⟩ := hb
  unfold maxLen at hll
  have Ha := hid ha
  have Hd := hid hd
  clear ha hd
  go_enter Tryz.func39, Tryz.ntmps39
  go_wp2
  go_loopw [5] (fun i w' => ∃ k : Nat, k ≤ l.length ∧ i = .int .i64 k ∧ Hid (Below w.heap.size w w')) (fun i _ => l.length - (intOf i).toNat)
  case atStart => exact ⟨0, by omega, rfl, hid (Below.refl _ _)⟩
  case round =>
    obtain ⟨k, hk, rfl, hw'⟩ := hrel
    by_cases hlt : k < l.length
    · have b0 : (k : Int) < (l.length : Int) := by omega
      obtain ⟨x, rfl, xb, hx⟩ := Ha.out k l[k] (List.getElem?_eq_getElem hlt)
      rw [← hw'.out.cell (p := x.add k) (by rw [add_block]; exact xb)] at hx
      clear xb
      obtain ⟨y, rfl, yb, hy⟩ := Hd.out k l[k] (List.getElem?_eq_getElem hlt)
      rw [← hw'.out.cell (p := y.add k) (by rw [add_block]; exact yb)] at hy
      clear yb
      rw [sv] at hx hy
      generalize ByteArray.mk (l[k]).toArray = p at *
      have y1 : (p.toList == p.toList) = true := by simp
      have y2 : (p.toList != p.toList) = false := by simp
      go_wp2
      go_quiet (fail)
      go_wp2
      exact ⟨⟨k + 1, by omega, by go_num, hid (below_drewN17 hw'.out _)⟩, by simp [intOf]; omega⟩
    · have b0 : ¬ (k : Int) < (l.length : Int) := by omega
      go_wp2
      go_ret
      exact ⟨rfl, hw'.out⟩
theorem add_at (g o n : Nat) : (⟨g, o, none⟩ : Addr).add n = ⟨g, o + n, none⟩ := by
  unfold Addr.add
  split
  · simp_all
  · rfl
theorem SlcI.bl17 {w w' : World} {v : Value} {ps : List Int} (h : SlcI w v ps) (hb : Below w.heap.size w w') : SlcI w' v ps := by
  obtain ⟨a, cap, rfl, h⟩ := h
  refine ⟨a, cap, rfl, fun j p hp => ?_⟩
  obtain ⟨x, rfl, hx, hc⟩ := h j p hp
  exact ⟨x, rfl, Nat.lt_of_lt_of_le hx hb.size, (hb.cell (p := x.add j) (by rw [add_block]; exact hx)).trans hc⟩
end Msg
end Go.Proofs.YtmhgdcfmfcjagaaGreatDoor

namespace Go.Proofs.YtmhgdcfmfcjagaaGreatDoor
open Go.RowKit Cod
namespace Msg

theorem req_mk {x : Ask} {da : LS → LS} {lo up : Int} {S out : List UInt8} (h1 : wi x.kind lo up = true) (h2 : whole x (setFs x (flds x.kind.toNat) (Ask.of x.kind)) = true) (h3 : lFlds x da (flds x.kind.toNat) (lMark x.kind lo up (.ok S, false)) = (.ok out, false)) : lReq x da lo up (.ok S, false) = (.ok out, false) := by
  rw [lReq, if_pos h1, h2, h3]
  rfl
theorem rtE_iff (y : Ask) (S : List UInt8) : (rtE y && decide (3 ≤ y.kind ∧ y.kind ≤ 7)) = true ↔ ∃ out, lAsk y (.ok S, false) = (.ok out, false) := by
  constructor
  · intro h
    rw [Bool.and_eq_true, decide_eq_true_eq, rtE, Bool.and_eq_true] at h
    obtain ⟨⟨h1, _⟩, h2, h3⟩ := h
    obtain ⟨a1, a2⟩ := (rtF_iff (by omega) (by omega)).1 h1
    have hw : wi y.kind 3 7 = true := wi_iff.2 ⟨h2, h3⟩
    obtain ⟨out, ho⟩ := (fs_iff y id Abs.id (flds y.kind.toNat) (no_asks hw) (S ++ [UInt8.ofNat y.kind.toNat])).2 a2
    exact ⟨out, req_mk hw a1 (by rw [mark_eq hw (by omega) (by omega)]; exact ho)⟩
  · rintro ⟨out, ho⟩
    have ho : lReq y id 3 7 (.ok S, false) = (.ok out, false) := ho
    obtain ⟨h1, h2, h3⟩ := req_ok ho
    have hk := wi_iff.1 h1
    rw [mark_eq h1 (by omega) (by omega)] at h3
    have a2 := (fs_iff y id Abs.id (flds y.kind.toNat) (no_asks h1) _).1 ⟨out, h3⟩
    have hF := (rtF_iff (by omega) (by omega)).2 ⟨h2, a2⟩
    rw [rtE, hF, Bool.true_and, Bool.and_eq_true]
    refine ⟨?_, decide_eq_true hk⟩
    rw [Bool.not_eq_true', decide_eq_false_iff_not]
    intro h
    unfold fw at h
    repeat' split at h
    all_goals first | omega | simp at h
theorem asks_iff : ∀ (l : List Ask) (S : List UInt8), rtA l = true ↔ ∃ out, l.foldl (fun s x => lAsk x s) (.ok S, false) = (.ok out, false)
  | [], S => ⟨fun _ => ⟨S, rfl⟩, fun _ => rfl⟩
  | y :: l, S => by
    constructor
    · intro h
      have h : ((rtE y && decide (3 ≤ y.kind ∧ y.kind ≤ 7)) && rtA l) = true := h
      rw [Bool.and_eq_true] at h
      obtain ⟨m, hm⟩ := (rtE_iff y S).1 h.1
      obtain ⟨out, ho⟩ := (asks_iff l m).1 h.2
      refine ⟨out, ?_⟩
      show l.foldl (fun s x => lAsk x s) (lAsk y (.ok S, false)) = _
      rw [hm]
      exact ho
    · rintro ⟨out, ho⟩
      have ho : l.foldl (fun s x => lAsk x s) (lAsk y (.ok S, false)) = (.ok out, false) := ho
      obtain ⟨m, hm⟩ := (abs_asks l).mid ho
      rw [hm] at ho
      show ((rtE y && decide (3 ≤ y.kind ∧ y.kind ≤ 7)) && rtA l) = true
      rw [Bool.and_eq_true]
      exact ⟨(rtE_iff y S).2 ⟨m, hm⟩, (asks_iff l m).2 ⟨out, ho⟩⟩
/-- the document's right -/
def docR (x : Ask) (l : List Ask) : Bool := if fw x.kind = [103] then rtM x l else rtE x
theorem fw_g {k : Int} : fw k = [103] ↔ k = 12 := by
  constructor
  · intro h
    unfold fw at h
    repeat' split at h
    all_goals first | omega | simp at h
  · rintro rfl
    rfl
theorem fw_nil {k : Int} : fw k = [] ↔ ¬ wi k 1 12 = true := by
  rw [wi_iff]
  constructor
  · intro h
    unfold fw at h
    repeat' split at h
    all_goals first | omega | simp at h
  · intro h
    unfold fw
    rw [if_neg (by omega), if_neg (by omega), if_neg (by omega), if_neg (by omega), if_neg (by omega), if_neg (by omega), if_neg (by omega), if_neg (by omega), if_neg (by omega)]
theorem flds_noasks {k : Int} (hw : wi k 1 12 = true) (h : k ≠ 12) : ∀ g ∈ flds k.toNat, g ≠ .asks := by
  have hk := wi_iff.1 hw
  obtain ⟨n, rfl⟩ := Int.eq_ofNat_of_zero_le (show 0 ≤ k by omega)
  rw [Int.toNat_natCast]
  have a1 : 1 ≤ n := by omega
  have a2 : n ≤ 11 := by omega
  match n, a1, a2 with
  | 1, _, _ | 2, _, _ | 3, _, _ | 4, _, _ | 5, _, _ | 6, _, _ | 7, _, _ | 8, _, _ | 9, _, _ | 10, _, _ | 11, _, _ => simp [flds]
theorem right_iff (x : Ask) (l : List Ask) : docR x l = true ↔ ∃ p, lRequest x l (.ok [], false) = (.ok p, false) := by
  by_cases hw : wi x.kind 1 12 = true
  · have hk := wi_iff.1 hw
    by_cases h12 : x.kind = 12
    · rw [docR, if_pos (fw_g.2 h12), rtM, Bool.and_eq_true, Bool.and_eq_true, decide_eq_true_eq, rtF_iff hk.1 hk.2]
      have hfl : flds x.kind.toNat = [.asks] := by rw [h12]; rfl
      constructor
      · rintro ⟨⟨h1, _⟩, h2, h3⟩
        obtain ⟨out, ho⟩ := (asks_iff l ([] ++ [UInt8.ofNat x.kind.toNat] ++ digs (l.length : Int).toNat)).1 h3
        refine ⟨out, req_mk hw h1 ?_⟩
        rw [mark_eq hw (by omega) (by omega), hfl]
        show lAsks l _ = _
        rw [lAsks, if_pos (wi_iff.2 h2), lNum, lif, if_pos rfl, numErr, if_neg (by omega)]
        exact ho
      · rintro ⟨p, hp⟩
        obtain ⟨_, h2, h3⟩ := req_ok hp
        rw [mark_eq hw (by omega) (by omega), hfl] at h3
        have h3 : lAsks l (.ok ([] ++ [UInt8.ofNat x.kind.toNat]), false) = (.ok p, false) := h3
        rw [lAsks] at h3
        split at h3
        · rename_i hl
          obtain ⟨m, hm⟩ := (abs_asks l).mid h3
          rw [hm] at h3
          exact ⟨⟨h2, fun g hg => by rw [hfl, List.mem_singleton] at hg; subst hg; rfl⟩, wi_iff.1 hl, (asks_iff l m).2 ⟨p, h3⟩⟩
        · cases (Prod.mk.inj h3).2
    · rw [docR, if_neg (fun h => h12 (fw_g.1 h)), rtE, Bool.and_eq_true, rtF_iff hk.1 hk.2]
      have hne : (!decide (fw x.kind = [103])) = true := by rw [Bool.not_eq_true', decide_eq_false_iff_not]; exact fun h => h12 (fw_g.1 h)
      constructor
      · rintro ⟨⟨h1, h2⟩, _⟩
        obtain ⟨out, ho⟩ := (fs_iff x (lAsks l) (abs_lAsks l) _ (flds_noasks hw h12) ([] ++ [UInt8.ofNat x.kind.toNat])).2 h2
        exact ⟨out, req_mk hw h1 (by rw [mark_eq hw (by omega) (by omega)]; exact ho)⟩
      · rintro ⟨p, hp⟩
        obtain ⟨_, h2, h3⟩ := req_ok hp
        rw [mark_eq hw (by omega) (by omega)] at h3
        exact ⟨⟨h2, (fs_iff x (lAsks l) (abs_lAsks l) _ (flds_noasks hw h12) _).1 ⟨p, h3⟩⟩, hne⟩
  · have hf := fw_nil.2 hw
    constructor
    · intro h
      rw [docR, hf, if_neg (by simp), rtE, rtF, hf] at h
      simp at h
    · rintro ⟨p, hp⟩
      exact absurd (req_ok hp).1 hw
end Msg
end Go.Proofs.YtmhgdcfmfcjagaaGreatDoor

namespace Go.Proofs.YtmhgdcfmfcjagaaGreatDoor
open Go.RowKit Cod
namespace Msg

/-- HOW LONG a request's payload is -/
theorem rising_len {l : List Int} {many : Int} (hl : ∀ c ∈ l, -9223372036854775808 ≤ c ∧ c ≤ 9223372036854775807) (h : arSz l many = true) (hm : many ≤ 256) : (wrRising (l.map Int.toNat)).length ≤ 2569 := by
  rw [arSz, Bool.and_eq_true] at h
  have hw := (wi_iff.1 h.1).2
  have h9 : (digs (l.map Int.toNat).length).length ≤ 9 := digs_len9 (by rw [List.length_map]; omega)
  have := wrRise_len (l.map Int.toNat) 0 (fun n hn => by
    obtain ⟨c, hc, rfl⟩ := List.mem_map.1 hn
    have := (hl c hc).2
    omega)
  rw [List.length_map] at this
  rw [wrRising, List.length_append]
  omega
theorem texts_len {ps : List (List UInt8)} (h : textsErr ps 32 4096 = 0) : (wrTexts ps).length ≤ 131369 := by
  rw [textsErr] at h
  split at h
  · cases h
  split at h
  · cases h
  split at h
  · rename_i a1 a2 a3
    have hn : ps.length ≤ 32 := by omega
    have h9 : (digs ps.length).length ≤ 9 := digs_len9 (by omega)
    have key : ∀ qs : List (List UInt8), (∀ p ∈ qs, p.length ≤ 4096) → ((qs.map wrText).flatten).length ≤ qs.length * 4105 := fun qs => by
      induction qs with
      | nil => intro _; simp
      | cons q qs ih =>
        intro h
        have h1 := ih (fun p hp => h p (by simp [hp]))
        have h2 : q.length ≤ 4096 := h q (by simp)
        have h3 : (digs q.length).length ≤ 9 := digs_len9 (by omega)
        rw [List.map_cons, List.flatten_cons, List.length_append, wrText, List.length_append, List.length_cons]
        omega
    have := key ps (fun p hp => by have := a3 p hp; omega)
    rw [wrTexts, List.length_append]
    omega
  · cases h
theorem sm_fqB {x : Ask} (hf : Fit x) (da : LS → LS) (g : Fq) (h1 : g ≠ .asks) (h2 : g ≠ .entries) {s : LS} {m : Nat} (hs : Sm s m) : Sm (lFq x da g s) (m + 2569) := by
  have h9 : ∀ n : Int, isSz n = true → (digs n.toNat).length ≤ 9 := fun n hn => digs_len9 (by rw [isSz, wi_iff] at hn; omega)
  have hz : ∀ n : Int, Sm (lSize n s) (m + 2569) := fun n => hs.lif_if (n := 2569) fun e _ => Nat.le_trans (h9 n e) (by omega)
  cases g with
  | a => exact hz _
  | b => exact hz _
  | size => exact hz _
  | indices => exact hs.lif_if fun e _ => rising_len (many := 256) hf.li e (by decide)
  | heads => exact hs.lif_if fun e _ => rising_len (many := 64) hf.li e (by decide)
  | asks => exact absurd rfl h1
  | entries => exact absurd rfl h2
theorem sm_fs (x : Ask) (da : LS → LS) (K : Nat) : ∀ (fs : List Fq) (_ : ∀ g ∈ fs, ∀ s m, Sm s m → Sm (lFq x da g s) (m + K)) {s : LS} {m : Nat}, Sm s m → Sm (lFlds x da fs s) (m + fs.length * K)
  | [], _, s, m, hs => by simpa [lFlds] using hs
  | g :: fs, h, s, m, hs => by
    have := sm_fs x da K fs (fun g hg => h g (by simp [hg])) (h g (by simp) s m hs)
    show Sm (lFlds x da fs (lFq x da g s)) _
    exact this.mono (by rw [List.length_cons, Nat.add_mul]; omega)
theorem flds_plain (n : Nat) (h1 : n ≠ 1) (h2 : n ≠ 12) : ∀ g ∈ flds n, g ≠ .asks ∧ g ≠ .entries := by
  match n, h1, h2 with
  | 0, _, _ | 2, _, _ | 3, _, _ | 4, _, _ | 5, _, _ | 6, _, _ | 7, _, _ | 8, _, _ | 9, _, _ | 10, _, _ | 11, _, _ => intro g hg; simp [flds] at hg <;> (try rcases hg with rfl | rfl | rfl) <;> (try rcases hg with rfl | rfl) <;> (try subst hg) <;> exact ⟨by simp, by simp⟩
  | n + 13, _, _ => intro g hg; simp [flds] at hg
theorem sm_plain {x : Ask} (hf : Fit x) (da : LS → LS) (h1 : x.kind.toNat ≠ 1) (h2 : x.kind.toNat ≠ 12) {s : LS} {m : Nat} (hs : Sm s m) : Sm (lFlds x da (flds x.kind.toNat) s) (m + 7707) := by
  have := sm_fs x da 2569 (flds x.kind.toNat) (fun g hg s m hs => sm_fqB hf da g (flds_plain _ h1 h2 g hg).1 (flds_plain _ h1 h2 g hg).2 hs) hs
  have h3 := flds_len x.kind.toNat
  exact this.mono (by have : (flds x.kind.toNat).length * 2569 ≤ 3 * 2569 := Nat.mul_le_mul_right _ h3; omega)
theorem sm_askB {x : Ask} (hf : Fit x) {s : LS} {m : Nat} (hs : Sm s m) : Sm (lAsk x s) (m + 7708) := by
  show Sm (lReq x id 3 7 s) _
  rw [lReq]
  split
  · rename_i hw
    have hk := wi_iff.1 hw
    have h1 : Sm (lMark x.kind 3 7 s) (m + 1) := hs.lif _ _ _
    have := sm_plain hf id (by omega) (by omega) h1
    exact fun bs e => (this.mono (by omega)) bs e
  · exact fun bs e => (hs.mono (by omega)) bs e
theorem sm_asksB : ∀ (l : List Ask) {s : LS} {m : Nat}, (∀ x ∈ l, Fit x) → Sm s m → Sm (l.foldl (fun s x => lAsk x s) s) (m + l.length * 7708)
  | [], s, m, _, hs => by simpa using hs
  | x :: l, s, m, h, hs => by
    have := sm_asksB l (s := lAsk x s) (m := m + 7708) (fun y hy => h y (by simp [hy])) (sm_askB (h x (by simp)) hs)
    rw [List.foldl_cons, List.length_cons]
    exact this.mono (by rw [Nat.add_mul]; omega)
theorem req_len {x : Ask} {l : List Ask} (hf : Fit x) (hl : ∀ y ∈ l, Fit y) {p : List UInt8} (h : lRequest x l (.ok [], false) = (.ok p, false)) : p.length ≤ 1000000 := by
  have h0 : Sm (WSt.ok [], false) 0 := fun bs e => by injection e with e; subst e; simp
  have h1 : Sm (lMark x.kind 1 12 (.ok [], false)) 1 := (h0.lif _ _ _).mono (by simp)
  have hr : lReq x (lAsks l) 1 12 (.ok [], false) = (.ok p, false) := h
  rw [lReq] at hr
  split at hr
  · rename_i hw
    have hk := wi_iff.1 hw
    have key : ∀ m, Sm (lFlds x (lAsks l) (flds x.kind.toNat) (lMark x.kind 1 12 (.ok [], false))) m → p.length ≤ m := fun m hm => hm p (Prod.mk.inj hr).1
    by_cases a1 : x.kind.toNat = 1
    · rw [a1] at key
      have : Sm (lTexts x.ent 1 32 4096 (lMark x.kind 1 12 (.ok [], false))) (1 + 131369) := h1.lif_if fun _ e => texts_len e
      exact key 1000000 (this.mono (by omega))
    · by_cases a2 : x.kind.toNat = 12
      · rw [a2] at key
        have : Sm (lAsks l (lMark x.kind 1 12 (.ok [], false))) 1000000 := by
          rw [lAsks]
          split
          · rename_i h3
            have hle := (wi_iff.1 h3).2
            have h9 : (digs (l.length : Int).toNat).length ≤ 9 := digs_len9 (by omega)
            have h5 : Sm (lNum (l.length : Int) (lMark x.kind 1 12 (.ok [], false))) (1 + 9) := (h1.lif _ _ _).mono (by omega)
            have := sm_asksB l hl h5
            exact this.mono (by have : l.length ≤ 64 := (by omega); have := Nat.mul_le_mul_right 7708 this; omega)
          · exact fun bs e => (h1.mono (by omega)) bs e
        exact key 1000000 this
      · exact key 1000000 ((sm_plain hf (lAsks l) a1 a2 h1).mono (by omega))
  · cases (Prod.mk.inj hr).2
end Msg
end Go.Proofs.YtmhgdcfmfcjagaaGreatDoor

namespace Go.Proofs.YtmhgdcfmfcjagaaGreatDoor
open Go.RowKit Cod
namespace Msg

theorem nz_fq (x : Ask) (db : LS → LS) (hd : NzL db) (g : Fq) : NzL (lFq x db g) := by
  cases g with
  | asks => exact hd
  | a => exact nz_lif _ _ _
  | b => exact nz_lif _ _ _
  | size => exact nz_lif _ _ _
  | indices => exact nz_lif _ _ _
  | heads => exact nz_lif _ _ _
  | entries => exact nz_lif _ _ _
theorem nz_flds (x : Ask) (db : LS → LS) (hd : NzL db) (fs : List Fq) : NzL (lFlds x db fs) := nz_fold (fun g s => lFq x db g s) (fun g => nz_fq x db hd g) fs
theorem nz_req (x : Ask) (db : LS → LS) (hd : NzL db) (lo hi : Int) : NzL (lReq x db lo hi) := fun s h f hf => by
  rw [lReq] at hf
  split at hf
  · exact nz_flds x db hd _ _ (nz_lif _ _ _ s h) f hf
  · exact h f hf
theorem nz_asks (l : List Ask) : NzL (lAsks l) := fun s h f hf => by
  rw [lAsks] at hf
  split at hf
  · exact nz_fold (fun x s => lAsk x s) (fun x => nz_req x id NzL.id 3 7) l _ (nz_lif _ _ _ s h) f hf
  · exact h f hf
theorem nz_request (x : Ask) (l : List Ask) : NzL (lRequest x l) := nz_req x (lAsks l) (nz_asks l) 1 12
end Msg
end Go.Proofs.YtmhgdcfmfcjagaaGreatDoor
