import Derived.Test.YtmhgdcfmfcjagaaGreatDoorPkMW10
import Derived.Test.YtmhgdcfmfcjagaaGreatDoorPkMW7
import Derived.Laws.ResultCell
namespace Go.Proofs.YtmhgdcfmfcjagaaGreatDoor
open Go.RowKit Cod
namespace Msg
theorem Ra.tk' {w w2 : World} {B b c d : Nat} {p : PT} {tl te ta : Value} (h : Ra w B b c d p tl te ta) (hk : Keep (BC b c) w w2) {s : TS} (ht : Tk w2 b c s) : Ra w2 B b c d (p.1, s) tl te ta :=
  ⟨ht, h.row2 hk, h.db, h.dc, h.hb, h.hc, h.hd, (h.o1 hk).1, (h.o1 hk).2, (h.o2 hk).1, (h.o2 hk).2, h.o3 hk, h.sn, h.o4 hk⟩
theorem Ra.below {w w2 : World} {B b c d : Nat} {p : PT} {tl te ta : Value} (h : Ra w B b c d p tl te ta) (hb : Below w.heap.size w w2) : Ra w2 B b c d p tl te ta :=
  h.tk' (Keep.ofBelow hb) (h.tk.below hb)
theorem bc_d {w w2 : World} {b c d : Nat} (h : Keep (BC b c) w w2) : Keep (DSet b c d) w w2 := h.mono fun k _ e => by
  rcases e with e | e
  · exact .inl e
  · exact .inr (.inl e)
theorem RPost.step {w w1 w2 : World} {B b c d : Nat} {p : PT} (k : Keep (DSet b c d) w w1) (h : RPost w1 B b c d p w2) : RPost w B b c d p w2 := by
  obtain ⟨tl, te, ta, h1, h2⟩ := h
  exact ⟨tl, te, ta, h1, k.trans h2 fun _ _ e => e⟩
def RC (B b c d : Nat) (da : TS → List Ask × TS) (g : Fq) : Prop :=
  ∀ (w : World) (p : PT) (tl te ta : Value), Ra w B b c d p tl te ta → B ≤ w.heap.size →
    Calls Tryz.prog (fnum g) #[.pointer (some ⟨d, 0, none⟩)] w fun e w' => e = .returned (.tuple #[]) ∧ RPost w B b c d (tFq da g p) w'
theorem rc_six {B b c d : Nat} {da : TS → List Ask × TS} (g : Fq) (hg : g ≠ .asks) : RC B b c d da g := fun w p tl te ta h hB => by
  cases g with
  | a => exact r_a h hB da
  | b => exact r_b h hB da
  | size => exact r_size h hB da
  | indices => exact r_indices h hB da
  | heads => exact r_heads h hB da
  | asks => exact absurd rfl hg
  | entries => exact r_entries h hB da
theorem tFlds_snoc (da : TS → List Ask × TS) (fs : List Fq) (k : Nat) (hk : k < fs.length) (p : PT) : tFlds da (fs.take (k + 1)) p = tFq da fs[k] (tFlds da (fs.take k) p) := by
  rw [tFlds, List.take_add_one, List.getElem?_eq_getElem hk, List.foldl_append]; rfl
structure Tl (w4 w' : World) (B b c d g : Nat) (k : Nat) (fs : List Fq) (p : PT) (da : TS → List Ask × TS) : Prop where
  q : RPost w4 B b c d (tFlds da (fs.take k) p) w'
  row : w'.heap[g]? = some (.cells (fs.map fv).toArray 135 (0, 0))
  gB : B ≤ g
  sz : B ≤ w'.heap.size
theorem Tl.next {w4 w' w3 : World} {B b c d g : Nat} {k : Nat} {fs : List Fq} {p : PT} {da : TS → List Ask × TS} (h : Tl w4 w' B b c d g k fs p da) (hk : k < fs.length) (hb : b < B) (hc : c < B) (hd : d < B)
    (q : RPost w' B b c d (tFq da fs[k] (tFlds da (fs.take k) p)) w3) : Tl w4 w3 B b c d g (k + 1) fs p da := by
  obtain ⟨t1, t2, t3, h1, h2⟩ := h.q
  have q0 := q
  obtain ⟨u1, u2, u3, g1, g2⟩ := q
  have := h.gB
  refine ⟨?_, (g2.block g (lt_of_heap h.row) fun e => ?_).trans h.row, h.gB, Nat.le_trans h.sz g2.size⟩
  · rw [tFlds_snoc da fs k hk]; exact RPost.step h2 q0
  · rcases e with e | e | e <;> omega
theorem Tl.cell {w4 w' : World} {B b c d g : Nat} {k : Nat} {fs : List Fq} {p : PT} {da : TS → List Ask × TS} (h : Tl w4 w' B b c d g k fs p da) (hk : k < fs.length) : w'.cell? ⟨g, k, none⟩ = some (fv fs[k]) := by
  rw [cell_of_row _ _ _ _ _ _ h.row]
  simp [List.getElem?_eq_getElem hk]
theorem Ask.of_putT (c : Nat) (k : Int) : (aqArr (tak c) Ask.zero (.slice none 0 0) (.slice none 0 0) (.slice none 0 0) Ask.zero (.slice none 0 0) (.slice none 0 0) (.slice none 0 0)).setIfInBounds 8 (.int .i64 k) = aqArr (tak c) Ask.zero (.slice none 0 0) (.slice none 0 0) (.slice none 0 0) (Ask.of k) (.slice none 0 0) (.slice none 0 0) (.slice none 0 0) := rfl
theorem nilI (w : World) : SlcI w (.slice none 0 0) [] := ⟨none, 0, rfl, fun j c hc => by simp at hc⟩
theorem nilT (w : World) : Slc w (.slice none 0 0) [] := ⟨none, 0, rfl, fun j c hc => by simp at hc⟩
set_option maxRecDepth 100000 in
set_option maxHeartbeats 4000000 in
theorem payT_no {w : World} {B b c d : Nat} {s : TS} (h : Ra w B b c d ((Ask.zero, []), s) (.slice none 0 0) (.slice none 0 0) (.slice none 0 0)) (hB : B ≤ w.heap.size) (lo hi : Int) (hw : wi ((tMark lo hi s).1 : Int) lo hi = false) (da : TS → List Ask × TS) :
    Calls Tryz.prog 59 #[.pointer (some ⟨d, 0, none⟩), .int .i64 lo, .int .i64 hi] w fun e w' => e = .returned (.tuple #[]) ∧ RPost w B b c d (tReq da lo hi s) w' := by
  have c0 : w.cell? ⟨d, 0, none⟩ = some (tak c) := by rw [cell_of_row _ _ _ _ _ _ h.row]; rfl
  have c4 : w.cell? ⟨d, 1, none⟩ = some (.int .i64 0) := by rw [cell_of_row _ _ _ _ _ _ h.row]; rfl
  have i1 := takeMark_any 0 lo hi w.drew h.tk.drew
  rw [hw] at i1
  rw [tak] at c0
  have mm := m_taking_mark ⟨c, 0, none⟩
  have HQ := hid h
  have HB := hid hB
  have hT : tReq da lo hi s = ((Ask.zero, []), (tMark lo hi s).2) := by rw [tReq, if_neg (by rw [hw]; exact Bool.false_ne_true)]
  rw [hT]
  clear h hB hw hT
  generalize tMark lo hi s = q at *
  go_enter Tryz.func59, Tryz.ntmps59
  go_wp2
  go_region_held3 (fun w' => w'.cell? ⟨d, 0, none⟩ = some (.iface 127 (.pointer (some ⟨c, 0, none⟩))) ∧ w'.cell? ⟨d, 1, none⟩ = some (.int .i64 0)) (first | exact ⟨c0, c4⟩ | exact S2) (first | (go_at_call 176; (with_reducible refine i1.mono ?_); rintro e w2 ⟨rfl, ht, hk⟩; have hk := Keep.drew' hk; have hrow := HQ.out.row2 hk; have g0 : w2.frozen? ⟨d, 8, none⟩ = false := frozen_of_row _ _ _ _ _ hrow; have e0 : w2.cell? ⟨d, 8, none⟩ = some (.int .i64 0) := (by rw [cell_of_row _ _ _ _ _ _ hrow]; rfl); have S2 : w2.cell? ⟨d, 0, none⟩ = some (tak c) ∧ w2.cell? ⟨d, 1, none⟩ = some (.int .i64 0) := ⟨by rw [cell_of_row _ _ _ _ _ _ hrow]; rfl, by rw [cell_of_row _ _ _ _ _ _ hrow]; rfl⟩; rw [tak] at S2; have HK := hid hk; have HT := hid ht; clear hk ht hrow))
  clear S2
  go_wp2
  refine bodyPost_ret (results_none rfl _ _ _) rfl ?_
  exact ⟨rfl, _, _, _, HQ.out.tk' HK.out HT.out, bc_d HK.out⟩
set_option maxRecDepth 100000 in
set_option maxHeartbeats 4000000 in
theorem payT_yes {w : World} {B b c d : Nat} {s : TS} (h : Ra w B b c d ((Ask.zero, []), s) (.slice none 0 0) (.slice none 0 0) (.slice none 0 0)) (hB : B ≤ w.heap.size) (lo hi : Int) (hw : wi ((tMark lo hi s).1 : Int) lo hi = true) (h1 : 1 ≤ lo) (h2 : hi ≤ 12) (da : TS → List Ask × TS) (hA : ∀ g ∈ flds (tMark lo hi s).1, RC B b c d da g) :
    Calls Tryz.prog 59 #[.pointer (some ⟨d, 0, none⟩), .int .i64 lo, .int .i64 hi] w fun e w' => e = .returned (.tuple #[]) ∧ RPost w B b c d (tReq da lo hi s) w' := by
  have c0 : w.cell? ⟨d, 0, none⟩ = some (tak c) := by rw [cell_of_row _ _ _ _ _ _ h.row]; rfl
  have c4 : w.cell? ⟨d, 1, none⟩ = some (.int .i64 0) := by rw [cell_of_row _ _ _ _ _ _ h.row]; rfl
  have i1 := takeMark_any 0 lo hi w.drew h.tk.drew
  rw [hw] at i1
  rw [tak] at c0
  have mm := m_taking_mark ⟨c, 0, none⟩
  have HQ := hid h
  have HB := hid hB
  have hk := wi_iff.1 hw
  have hT : tReq da lo hi s = tFlds da (flds (tMark lo hi s).1) ((Ask.of ((tMark lo hi s).1 : Int), []), (tMark lo hi s).2) := by rw [tReq, if_pos hw]
  rw [hT]
  obtain ⟨K, hK⟩ : ∃ K : Nat, (tMark lo hi s).1 = K := ⟨_, rfl⟩
  obtain ⟨q, hq⟩ : ∃ q, (tMark lo hi s).2 = q := ⟨_, rfl⟩
  rw [hK] at i1 hA hk hT ⊢
  rw [hq] at i1 ⊢
  have hK1 : 1 ≤ K := by omega
  have hK2 : K ≤ 12 := by omega
  obtain ⟨fs, hfs⟩ : ∃ fs, Hid (flds K = fs) := ⟨_, rfl⟩
  have hl3 := flds_len K
  rw [hfs.out] at hA hl3 ⊢
  have HA := hid hA
  have hbB := h.hb
  have hcB := h.hc
  have hdB := h.hd
  clear h hB hw hT hA hk h1 h2 hK hq
  go_enter Tryz.func59, Tryz.ntmps59
  go_wp2
  go_region_held3 (fun w' => w'.cell? ⟨d, 0, none⟩ = some (.iface 127 (.pointer (some ⟨c, 0, none⟩))) ∧ w'.cell? ⟨d, 1, none⟩ = some (.int .i64 0)) (first | exact ⟨c0, c4⟩ | exact S2) (first | (go_at_call 176; (with_reducible refine i1.mono ?_); rintro e w2 ⟨rfl, ht, hk⟩; have hk := Keep.drew' hk; have hrow := HQ.out.row2 hk; have g0 : w2.frozen? ⟨d, 8, none⟩ = false := frozen_of_row _ _ _ _ _ hrow; have e0 : w2.cell? ⟨d, 8, none⟩ = some (.int .i64 0) := (by rw [cell_of_row _ _ _ _ _ _ hrow]; rfl); have S2 : w2.cell? ⟨d, 0, none⟩ = some (tak c) ∧ w2.cell? ⟨d, 1, none⟩ = some (.int .i64 0) := ⟨by rw [cell_of_row _ _ _ _ _ _ hrow]; rfl, by rw [cell_of_row _ _ _ _ _ _ hrow]; rfl⟩; rw [tak] at S2; have HK := hid hk; have HT := hid ht; clear hk ht hrow))
  obtain ⟨tl, te, ta, q1, q2⟩ := HQ.out.put HK.out ((Ask.of (K : Int), []), q) HT.out 8 (.int .i64 (K : Int)) _ _ _ (Ask.of_putT c (K : Int)) ⟨nilI _, Nw.nil _ _⟩ ⟨nilT _, Nw.nil _ _⟩ (.inl ⟨rfl, rfl⟩) rfl (RaO.nil _ _ _ rfl rfl rfl)
  have i2 := requestFields_any K hK1 hK2 (w2.setCell ⟨d, 8, none⟩ (.int .i64 (K : Int)))
  unfold FsPost at i2
  rw [hfs.out] at i2
  have hB3 : B ≤ (w2.setCell ⟨d, 8, none⟩ (.int .i64 (K : Int))).heap.size := by rw [World.size_setCell]; exact Nat.le_trans HB.out HK.out.size
  have Q1 := hid q1
  have Q2 := hid q2
  clear q1 q2 S2
  generalize hw3 : w2.setCell ⟨d, 8, none⟩ (.int .i64 (K : Int)) = w3 at *
  go_wp2_with (go_at_call 92; fail)
  go_at_call 92
  refine i2.mono ?_
  rintro e w4 ⟨g, rfl, hg1, hg2, hg3⟩
  have F0 : Hid (Tl w4 w4 B b c d g 0 fs ((Ask.of (K : Int), []), q) da) := ⟨⟨tl, te, ta, Q1.out.below hg3, Keep.refl _ _⟩, hg2, by omega, Nat.le_trans hB3 hg3.size⟩
  have K4 : Hid (Keep (DSet b c d) w w4) := Q2.out.trans (T := fun _ => False) (Keep.ofBelow hg3) (fun _ _ e => e.elim)
  clear hg1 hg2 hg3 i1 i2 c0 c4 e0 g0
  go_wp2
  go_loopw [37] (fun i w' => ∃ k : Nat, k ≤ fs.length ∧ i = .int .i64 k ∧ Hid (Tl w4 w' B b c d g k fs ((Ask.of (K : Int), []), q) da)) (fun i _ => fs.length - (intOf i).toNat)
  case atStart => exact ⟨0, by omega, rfl, F0⟩
  case round =>
    obtain ⟨k, hk, rfl, hF⟩ := hrel
    by_cases hlt : k < fs.length
    · have hlt' : (k : Int) < (fs.length : Int) := by omega
      have hc := hF.out.cell hlt
      obtain ⟨tl', te', ta', q1, q2⟩ := hF.out.q
      have iF := HA.out fs[k] (List.getElem_mem hlt) wr _ tl' te' ta' q1 hF.out.sz
      have N := hid (fun p => Tl.next (w3 := p) hF.out hlt hbB hcB hdB)
      rw [fv] at hc
      clear q1 q2
      generalize fs[k] = gg at *
      cases gg with
      | a =>
        rw [show fnum .a = 107 from rfl] at hc iF
        go_wp2_with (go_at_call 107; refine iF.mono ?_; rintro e w5 ⟨rfl, p⟩; have N1 := hid (N.out _ p); clear p)
        exact ⟨⟨k + 1, by omega, by go_num, N1⟩, by simp [intOf]; omega⟩
      | b =>
        rw [show fnum .b = 110 from rfl] at hc iF
        go_wp2_with (go_at_call 110; refine iF.mono ?_; rintro e w5 ⟨rfl, p⟩; have N1 := hid (N.out _ p); clear p)
        exact ⟨⟨k + 1, by omega, by go_num, N1⟩, by simp [intOf]; omega⟩
      | size =>
        rw [show fnum .size = 106 from rfl] at hc iF
        go_wp2_with (go_at_call 106; refine iF.mono ?_; rintro e w5 ⟨rfl, p⟩; have N1 := hid (N.out _ p); clear p)
        exact ⟨⟨k + 1, by omega, by go_num, N1⟩, by simp [intOf]; omega⟩
      | indices =>
        rw [show fnum .indices = 108 from rfl] at hc iF
        go_wp2_with (go_at_call 108; refine iF.mono ?_; rintro e w5 ⟨rfl, p⟩; have N1 := hid (N.out _ p); clear p)
        exact ⟨⟨k + 1, by omega, by go_num, N1⟩, by simp [intOf]; omega⟩
      | heads =>
        rw [show fnum .heads = 109 from rfl] at hc iF
        go_wp2_with (go_at_call 109; refine iF.mono ?_; rintro e w5 ⟨rfl, p⟩; have N1 := hid (N.out _ p); clear p)
        exact ⟨⟨k + 1, by omega, by go_num, N1⟩, by simp [intOf]; omega⟩
      | asks =>
        rw [show fnum .asks = 111 from rfl] at hc iF
        go_wp2_with (go_at_call 111; refine iF.mono ?_; rintro e w5 ⟨rfl, p⟩; have N1 := hid (N.out _ p); clear p)
        exact ⟨⟨k + 1, by omega, by go_num, N1⟩, by simp [intOf]; omega⟩
      | entries =>
        rw [show fnum .entries = 105 from rfl] at hc iF
        go_wp2_with (go_at_call 105; refine iF.mono ?_; rintro e w5 ⟨rfl, p⟩; have N1 := hid (N.out _ p); clear p)
        exact ⟨⟨k + 1, by omega, by go_num, N1⟩, by simp [intOf]; omega⟩
    · obtain rfl : k = fs.length := by omega
      go_wp2
      go_end0
      refine ⟨rfl, ?_⟩
      have q1 := hF.out.q
      rw [List.take_length] at q1
      exact RPost.step K4.out q1
end Msg
end Go.Proofs.YtmhgdcfmfcjagaaGreatDoor

namespace Go.Proofs.YtmhgdcfmfcjagaaGreatDoor
open Go.RowKit Cod
namespace Msg
theorem payT_any {w : World} {B b c d : Nat} {s : TS} (h : Ra w B b c d ((Ask.zero, []), s) (.slice none 0 0) (.slice none 0 0) (.slice none 0 0)) (hB : B ≤ w.heap.size) (lo hi : Int) (h1 : 1 ≤ lo) (h2 : hi ≤ 12) (da : TS → List Ask × TS) (hA : wi ((tMark lo hi s).1 : Int) lo hi = true → ∀ g ∈ flds (tMark lo hi s).1, RC B b c d da g) :
    Calls Tryz.prog 59 #[.pointer (some ⟨d, 0, none⟩), .int .i64 lo, .int .i64 hi] w fun e w' => e = .returned (.tuple #[]) ∧ RPost w B b c d (tReq da lo hi s) w' := by
  cases hw : wi ((tMark lo hi s).1 : Int) lo hi with
  | false => exact payT_no h hB lo hi hw da
  | true => exact payT_yes h hB lo hi hw h1 h2 da (hA hw)
theorem sizeRq : (Tryz.prog.info? 26).map (·.size) = some 7 := by kernel_rfl
theorem sizeRq' (a b c d e f g : Value) : (Tryz.prog.info? 26).map (·.size) = some #[a, b, c, d, e, f, g].size := sizeRq
theorem oneRq (b1 b2 b3 b4 : Int) (a1 a2 a3 : Option Addr) (n1 n2 n3 c1 c2 c3 : Nat) : (#[Value.int .i64 b1, .int .i64 b2, .int .i64 b3, .int .i64 b4, .slice a1 n1 c1, .slice a2 n2 c2, .slice a3 n3 c3].all (·.oneCell')) = true := all_oneCell_toArray (cs := [Value.int .i64 b1, .int .i64 b2, .int .i64 b3, .int .i64 b4, .slice a1 n1 c1, .slice a2 n2 c2, .slice a3 n3 c3]) fun v hv => by
  simp only [List.mem_cons, List.not_mem_nil, or_false] at hv
  rcases hv with rfl | rfl | rfl | rfl | rfl | rfl | rfl <;> rfl
theorem El.lower {w : World} {lo lo' hi g j : Nat} {x : Ask} (h : El w lo hi g j x) (hb : lo' ≤ lo) : El w lo' hi g j x := by
  obtain ⟨ul, ue, ua, c0, c1, c2, c3, c4, c5, c6, n1, n2, s1, s2, s3⟩ := h
  exact ⟨ul, ue, ua, c0, c1, c2, c3, c4, c5, c6, n1.mono hb (Nat.le_refl _), n2.mono hb (Nat.le_refl _), s1, s2, s3⟩
theorem As.lower {w : World} {lo lo' hi : Nat} {u : Value} {l : List Ask} (h : As w lo hi u l) (hb : lo' ≤ lo) : As w lo' hi u l := by
  rcases h with h | ⟨g, cap, rfl, h1, h2, h3, h4⟩
  · exact .inl h
  · exact .inr ⟨g, cap, rfl, by omega, h2, h3, fun j x hx => (h4 j x hx).lower hb⟩
def QPost (w : World) (b c : Nat) (p : PT) (e : Ending) (w' : World) : Prop :=
  ∃ ul ue ua, e = .returned (akV p.1.1 ul ue ua) ∧ SlcI w' ul p.1.1.list ∧ Nw w.heap.size w'.heap.size ul ∧ Slc w' ue p.1.1.ent ∧ Nw w.heap.size w'.heap.size ue ∧ As w' w.heap.size w'.heap.size ua p.1.2 ∧ p.1.1.n = p.1.2.length ∧ Tk w' b c p.2 ∧ Keep (BC b c) w w' ∧ RaO w' w.heap.size p.1 ul ue ua
set_option maxRecDepth 100000 in
set_option maxHeartbeats 4000000 in
theorem reqT_any {w : World} {b c : Nat} {s : TS} (h : Tk w b c s) (lo hi : Int) (h1 : 1 ≤ lo) (h2 : hi ≤ 12) (da : TS → List Ask × TS) (hA : ∀ B d, wi ((tMark lo hi s).1 : Int) lo hi = true → ∀ g ∈ flds (tMark lo hi s).1, RC B b c d da g) :
    Calls Tryz.prog 51 #[.pointer (some ⟨c, 0, none⟩), .int .i64 lo, .int .i64 hi] w (QPost w b c (tReq da lo hi s)) := by
  obtain ⟨o1, ho1⟩ : ∃ o1, Hid (Obj.cells #[.int .i64 0, .int .i64 0, .int .i64 0, .int .i64 0, .slice none 0 0, .slice none 0 0, .slice none 0 0] 26 = o1) := ⟨_, rfl⟩
  obtain ⟨o2, ho2⟩ : ∃ o2, Hid (Obj.cells (aqArr (tak c) Ask.zero (.slice none 0 0) (.slice none 0 0) (.slice none 0 0) Ask.zero (.slice none 0 0) (.slice none 0 0) (.slice none 0 0)) 100 = o2) := ⟨_, rfl⟩
  have z1 := size_alloc w o1
  have z2 := size_alloc (w.alloc o1) o2
  have bW : Below w.heap.size w ((w.alloc o1).alloc o2) := ((Below.refl _ _).alloc (Nat.le_refl _) _).alloc (by omega) _
  have hcl := h.lt
  have hbl := h.rd.lt
  have hQ : Ra ((w.alloc o1).alloc o2) (w.heap.size + 2) b c (w.heap.size + 1) ((Ask.zero, []), s) (.slice none 0 0) (.slice none 0 0) (.slice none 0 0) :=
    ⟨h.below bW, by rw [← ho2.out]; exact heap_alloc_at _ _ _ z1, by omega, by omega, by omega, by omega, by omega, nilI _, Nw.nil _ _, nilT _, Nw.nil _ _, .inl ⟨rfl, rfl⟩, rfl, RaO.nil _ _ _ rfl rfl rfl⟩
  have i1 := payT_any hQ (by omega) lo hi h1 h2 da (hA _ _)
  have r0 : ((w.alloc o1).alloc o2).heap[w.heap.size]? = some (.cells #[.int .i64 0, .int .i64 0, .int .i64 0, .int .i64 0, .slice none 0 0, .slice none 0 0, .slice none 0 0] 26 (0, 0)) := by
    rw [alloc_lt (by omega), ← ho1.out]; exact heap_alloc_new _ _
  have R0 := hid r0
  have BW := hid bW
  have HZ : Hid (((w.alloc o1).alloc o2).heap.size = w.heap.size + 2) := by show _ = _; omega
  rw [← ho1.out, ← ho2.out] at i1 R0 BW HZ
  simp only [tak, aqArr, Ask.zero] at i1
  generalize tReq da lo hi s = p at *
  clear h hQ hA bW h1 h2 z1 z2 r0
  go_enter Tryz.func51, Tryz.ntmps51
  go_wp2_with (go_at_call 59; fail)
  go_at_call 59
  refine i1.mono ?_
  rintro e w2 ⟨rfl, tl, te, ta, q1, q2⟩
  simp only [tak, aqArr, Ask.zero] at R0 BW HZ
  have r2 := (q2.block w.heap.size (by have := HZ.out; omega) (fun e => by rcases e with e | e | e <;> omega)).trans R0.out
  obtain ⟨p1, n1, rfl, _⟩ := id q1.s1
  obtain ⟨p2, n2, rfl, _⟩ := id q1.s2
  obtain ⟨p3, n3, rfl⟩ := q1.s3.shape
  have d0 : w2.cell? ⟨w.heap.size + 1, 8, none⟩ = some (.int .i64 p.1.1.kind) := by rw [cell_of_row _ _ _ _ _ _ q1.row]; rfl
  have d1 : w2.cell? ⟨w.heap.size + 1, 9, none⟩ = some (.int .i64 p.1.1.a) := by rw [cell_of_row _ _ _ _ _ _ q1.row]; rfl
  have d2 : w2.cell? ⟨w.heap.size + 1, 10, none⟩ = some (.int .i64 p.1.1.b) := by rw [cell_of_row _ _ _ _ _ _ q1.row]; rfl
  have d3 : w2.cell? ⟨w.heap.size + 1, 11, none⟩ = some (.int .i64 p.1.1.size) := by rw [cell_of_row _ _ _ _ _ _ q1.row]; rfl
  have d4 : w2.cell? ⟨w.heap.size + 1, 12, none⟩ = some (.slice p1 p.1.1.list.length n1) := by rw [cell_of_row _ _ _ _ _ _ q1.row]; rfl
  have d5 : w2.cell? ⟨w.heap.size + 1, 13, none⟩ = some (.slice p2 p.1.1.ent.length n2) := by rw [cell_of_row _ _ _ _ _ _ q1.row]; rfl
  have d6 : w2.cell? ⟨w.heap.size + 1, 14, none⟩ = some (.slice p3 p.1.2.length n3) := by rw [cell_of_row _ _ _ _ _ _ q1.row]; rfl
  have Q1 := hid q1
  have Q2 := hid q2
  have R2 := hid r2
  clear q1 q2 r2
  go_wp2_with ((with_reducible show wpList _ _ _ (Oper.mk _ (Op.store 26 _ _) _ _ _ _ :: _) _ _); go_must (refine wpList_store_row rfl 26 _ _ rfl w.heap.size _ rfl rfl 26 _ R2.out (sizeRq' _ _ _ _ _ _ _) rfl (oneRq _ _ _ _ _ _ _ _ _ _ _ _ _) ?_))
  refine bodyPost_ret (results_cell_row rfl _ _ w.heap.size 26 _ (0, 0) _ rfl (setRow_heap _ _ _ _ _ _ R2.out) Tryz.underlying26 rfl sizeRq) rfl ?_
  generalize hcs : #[Value.int .i64 p.1.1.kind, .int .i64 p.1.1.a, .int .i64 p.1.1.b, .int .i64 p.1.1.size, .slice p1 p.1.1.list.length n1, .slice p2 p.1.1.ent.length n2, .slice p3 p.1.2.length n3] = cs
  have k1 : Keep (fun k => k = w.heap.size) w2 (w2.setRow w.heap.size cs) := ⟨rfl, rfl, rfl, by rw [setRow_size]; exact Nat.le_refl _, fun k _ hk => setRow_other w2 _ k _ hk⟩
  have hS : ∀ k, w.heap.size + 2 ≤ k → k < w2.heap.size → ¬ k = w.heap.size := fun k k1 _ e => by omega
  have hle : w2.heap.size ≤ (w2.setRow w.heap.size cs).heap.size := k1.size
  refine ⟨.slice p1 p.1.1.list.length n1, .slice p2 p.1.1.ent.length n2, .slice p3 p.1.2.length n3, by rw [akV, hcs], Q1.out.n1.slcI Q1.out.s1 k1 hS, Q1.out.n1.mono (by omega) hle, Q1.out.n2.slc Q1.out.s2 k1 hS, Q1.out.n2.mono (by omega) hle, ((Q1.out.s3.keep k1 hS).mono' hle).lower (by omega), Q1.out.sn, Q1.out.tk.keep k1 (by omega) (by omega), ?_, (Q1.out.ow.keep k1 hS).lower (by omega)⟩
  refine ((Keep.ofBelow BW.out : Keep (BC b c) w _).trans Q2.out fun j hj e => ?_).trans k1 fun j hj e => ?_
  · rcases e with e | e | e
    · exact .inl e
    · exact .inr e
    · omega
  · omega
end Msg
end Go.Proofs.YtmhgdcfmfcjagaaGreatDoor

namespace Go.Proofs.YtmhgdcfmfcjagaaGreatDoor
open Go.RowKit Cod
namespace Msg
set_option maxRecDepth 100000 in
set_option maxHeartbeats 400000 in
theorem count_any {b c : Nat} {s : TS} (w : World) (h : Tk w b c s) :
    Calls Tryz.prog 174 #[.pointer (some ⟨c, 0, none⟩)] w fun e w' => e = .returned (.int .i64 ((tCount s).1 : Int)) ∧ Tk w' b c (tCount s).2 ∧ Keep (BC b c) w w' := by
  have c0 := h.c0
  have i1 := rNum_any b s.1 w h.rd
  have e1 : (tCount s).1 = if wi ((s.1.val 0 (rdNum s.1.rest) : Nat) : Int) 1 64 = true then s.1.val 0 (rdNum s.1.rest) else 0 := rfl
  have e2 : (tCount s).2 = (s.1.step (rdNum s.1.rest), s.2 || !wi ((s.1.val 0 (rdNum s.1.rest) : Nat) : Int) 1 64) := rfl
  rw [e1, e2]
  generalize s.1.val 0 (rdNum s.1.rest) = n at *
  have H := hid h
  clear h e1 e2
  cases hw : wi (n : Int) 1 64 with
  | false =>
    rw [if_neg (by exact Bool.false_ne_true)]
    go_enter Tryz.func174, Tryz.ntmps174
    go_wp2_with (first
      | (go_at_call 182; refine i1.mono ?_; rintro e w1 ⟨rfl, h1, h2⟩; have hT := H.out.read h1 h2 (pf_num.le); have i2 := within_any (n : Int) 1 64 w1; rw [hw] at i2; have i3 := finds_any false w1 hT; have H2 := hid h2; clear h1 h2 hT)
      | (go_at_call 28; refine i2.mono ?_; rintro e w' ⟨rfl, hw'⟩; rw [hw']; clear hw' w')
      | (go_at_call 183; refine i3.mono ?_; rintro e w2 ⟨rfl, h3, h4⟩; have H3 := hid h3; have H4 := hid (bc_both H2.out h4); clear h3 h4))
    go_ret
    exact ⟨rfl, H3.out, H4.out⟩
  | true =>
    rw [if_pos rfl]
    go_enter Tryz.func174, Tryz.ntmps174
    go_wp2_with (first
      | (go_at_call 182; refine i1.mono ?_; rintro e w1 ⟨rfl, h1, h2⟩; have hT := hid (H.out.read h1 h2 (pf_num.le)); have i2 := within_any (n : Int) 1 64 w1; rw [hw] at i2; have H2 := hid h2; clear h1 h2)
      | (go_at_call 28; refine i2.mono ?_; rintro e w' ⟨rfl, hw'⟩; rw [hw']; clear hw' w'))
    go_ret
    refine ⟨rfl, ?_, Keep.ofBut H2.out (.inl rfl)⟩
    rw [Bool.not_true, Bool.or_false]
    exact hT.out
structure EmI (w : World) (lo : Nat) (v : Value) (m : Em) : Prop where
  s1 : SlcI w m.l m.x.list
  s2 : Slc w m.e m.x.ent
  s3 : ∃ p q, m.a = .slice p m.x.n q
  n1 : Nw lo w.heap.size m.l
  n2 : Nw lo w.heap.size m.e
  a1 : Apart m.l (OwnS v)
  a2 : Apart m.e (OwnS v)
structure Gl (w : World) (lo : Nat) (v : Value) (E : List Em) : Prop where
  own : OwnM 7 w v E.length (emcs E)
  ge : ∀ k, v.ownBlock = some k → lo ≤ k
  el : ∀ m ∈ E, EmI w lo v m
theorem Gl.nil (w : World) (lo : Nat) : Gl w lo (.slice none 0 0) [] := ⟨OwnM.nil 7 w, fun k hk => (by cases hk), fun m hm => (by cases hm)⟩
theorem Gl.keep {S : Nat → Prop} {w w' : World} {lo : Nat} {v : Value} {E : List Em} (h : Gl w lo v E) (hb : Keep S w w') (hS : ∀ k, lo ≤ k → ¬ S k) : Gl w' lo v E :=
  ⟨h.own.keep hb (fun k hk => hS k (h.ge k hk)), h.ge, fun m hm => by
    have g := h.el m hm
    exact ⟨g.n1.slcI g.s1 hb (fun k k1 _ => hS k k1), g.n2.slc g.s2 hb (fun k k1 _ => hS k k1), g.s3, g.n1.mono (Nat.le_refl _) hb.size, g.n2.mono (Nat.le_refl _) hb.size, g.a1, g.a2⟩⟩
theorem Gl.as {w : World} {lo : Nat} {v : Value} {E : List Em} (h : Gl w lo v E) : As w lo w.heap.size v (E.map (·.x)) := by
  have h0 := h.own
  rcases h.own with ⟨rfl, hE, _⟩ | ⟨g, cap, rfl, h1, h2, h3, h4, h5, h6⟩
  · have : E = [] := List.length_eq_zero_iff.1 hE
    subst this
    exact .inl ⟨rfl, rfl⟩
  · refine .inr ⟨g, cap, by rw [List.length_map], h.ge g rfl, h6, h6, fun j x hx => ?_⟩
    rw [List.getElem?_map] at hx
    cases hm : E[j]? with
    | none => rw [hm] at hx; cases hx
    | some m =>
      rw [hm] at hx
      obtain rfl := Option.some.inj hx
      have gm := h.el m (List.mem_of_getElem? hm)
      have key : ∀ i u, i < 7 → (emc m)[i]? = some u → w.cell? ⟨g, j * 7 + i, none⟩ = some u := fun i u hi hu => by
        have := h4 (j * 7 + i) u (by rw [emcs_at E j m i hm hi]; exact hu)
        rwa [Nat.zero_add] at this
      exact ⟨m.l, m.e, m.a, key 0 _ (by omega) rfl, key 1 _ (by omega) rfl, key 2 _ (by omega) rfl, key 3 _ (by omega) rfl, key 4 _ (by omega) rfl, key 5 _ (by omega) rfl, key 6 _ (by omega) rfl, gm.n1, gm.n2, gm.s1, gm.s2, gm.s3⟩
theorem infoRq : (Tryz.prog.info? 26).map (fun i => (i.zero, i.size, i.bytes)) = some (some (.agg #[.int .i64 0, .int .i64 0, .int .i64 0, .int .i64 0, .slice none 0 0, .slice none 0 0, .slice none 0 0]), 7, 104) := by kernel_rfl
theorem Gl.push {w : World} {lo : Nat} {v : Value} {E : List Em} (h : Gl w lo v E) (hlo : lo ≤ w.heap.size) (hE : E.length ≤ 2000000) (m : Em) (hm : SlcI w m.l m.x.list ∧ Slc w m.e m.x.ent ∧ (∃ p q, m.a = .slice p m.x.n q) ∧ Nw lo w.heap.size m.l ∧ Nw lo w.heap.size m.e) (ha1 : Apart m.l (OwnS v)) (ha2 : Apart m.e (OwnS v)) :
    ∃ v' w', (Builtin.append_ #[24, 24] 24 #[v, .slice (some ⟨w.heap.size, 0, none⟩) 1 1]).run Tryz.prog (w.alloc (.cells (emc m).toArray 26)) = .ok v' w' ∧ Gl w' lo v' (E ++ [m]) ∧ Keep (OwnS v) w w' := by
  obtain ⟨p1, q1, e1, _⟩ := id hm.1
  obtain ⟨p2, q2, e2, _⟩ := id hm.2.1
  obtain ⟨p3, q3, e3⟩ := id hm.2.2.1
  obtain ⟨v', w', r1, r2, r3⟩ := append_oneM 24 26 (.agg #[.int .i64 0, .int .i64 0, .int .i64 0, .int .i64 0, .slice none 0 0, .slice none 0 0, .slice none 0 0]) 104 (by omega) (by kernel_rfl) infoRq rfl w v E.length (emcs E) (emc m) rfl (fun u hu => by
    simp only [emc, List.mem_cons, List.not_mem_nil, or_false] at hu
    rcases hu with rfl | rfl | rfl | rfl | rfl | rfl | rfl
    · rfl
    · rfl
    · rfl
    · rfl
    · rw [e1]; rfl
    · rw [e2]; rfl
    · rw [e3]; rfl) h.own hE
  have kp : Keep (OwnS v) w w' := r3.keepG
  have hlt := h.own.lt
  -- lists stay
  have keepI : ∀ (u : Value) (ps : List Int), SlcI w u ps → Apart u (OwnS v) → SlcI w' u ps := fun u ps hs ha => hs.keep kp ha
  have keepT : ∀ (u : Value) (ps : List (List UInt8)), Slc w u ps → Apart u (OwnS v) → Slc w' u ps := fun u ps hs ha => hs.keep kp ha
  have apv : ∀ u, Nw lo w.heap.size u → Apart u (OwnS v) → Apart u (OwnS v') := fun u hn ha x n c e h0 hk => by
    rcases r3.alt with g | ⟨g, _⟩
    · exact ha x n c e h0 (by show v.ownBlock = _; rw [← g]; exact hk)
    · have := g _ hk
      have := (hn x n c e).2
      omega
  refine ⟨v', w', r1, ⟨by rw [List.length_append, emcs_snoc]; exact r2, fun k hk => ?_, fun m' hm' => ?_⟩, kp⟩
  · rcases r3.alt with g | ⟨g, _⟩
    · exact h.ge k (by rw [← g]; exact hk)
    · have := g k hk; omega
  · rcases List.mem_append.1 hm' with hm' | hm'
    · have g := h.el m' hm'
      exact ⟨keepI _ _ g.s1 g.a1, keepT _ _ g.s2 g.a2, g.s3, g.n1.mono (Nat.le_refl _) kp.size, g.n2.mono (Nat.le_refl _) kp.size, apv _ g.n1 g.a1, apv _ g.n2 g.a2⟩
    · rw [List.mem_singleton] at hm'
      subst hm'
      exact ⟨keepI _ _ hm.1 ha1, keepT _ _ hm.2.1 ha2, hm.2.2.1, hm.2.2.2.1.mono (Nat.le_refl _) kp.size, hm.2.2.2.2.mono (Nat.le_refl _) kp.size, apv _ hm.2.2.2.1 ha1, apv _ hm.2.2.2.2 ha2⟩
structure GlO (w : World) (lo : Nat) (v : Value) (E : List Em) : Prop where
  z : E = [] → v = .slice none 0 0
  el : ∀ m ∈ E, EmO w lo m
  nd : (bks (v :: ems E)).Nodup
theorem GlO.nil (w : World) (lo : Nat) : GlO w lo (.slice none 0 0) [] := ⟨fun _ => rfl, fun m hm => (by cases hm), (List.nodup_nil : ([] : List Nat).Nodup)⟩
theorem GlO.keep {S : Nat → Prop} {w w' : World} {lo : Nat} {v : Value} {E : List Em} (h : GlO w lo v E) (hb : Keep S w w') (hS : ∀ k, lo ≤ k → ¬ S k) : GlO w' lo v E :=
  ⟨h.z, fun m hm => (h.el m hm).keep hb (fun k hk _ => hS k hk), h.nd⟩
theorem Gl.aso {w : World} {lo : Nat} {v : Value} {E : List Em} (h : Gl w lo v E) (g : GlO w lo v E) : AsO w lo v (E.map (·.x)) E :=
  ⟨h.own, h.ge, g.el, rfl, fun e => g.z (by simpa using e), g.nd⟩
theorem GlO.push {w : World} {lo W : Nat} {v : Value} {E : List Em} (h : GlO w lo v E) (ho : OwnM 7 w v E.length (emcs E)) (hE : E.length ≤ 2000000) (m : Em) (hm : EmO w lo m) (hd : ∀ k, m.l.ownBlock = some k → m.e.ownBlock ≠ some k)
    (hW : ∀ k, k ∈ bks (v :: ems E) → k < W) (h1 : ∀ k, m.l.ownBlock = some k → W ≤ k) (h2 : ∀ k, m.e.ownBlock = some k → W ≤ k) :
    ∃ v' w', (Builtin.append_ #[24, 24] 24 #[v, .slice (some ⟨w.heap.size, 0, none⟩) 1 1]).run Tryz.prog (w.alloc (.cells (emc m).toArray 26)) = .ok v' w' ∧ GlO w' lo v' (E ++ [m]) := by
  obtain ⟨p1, q1, e1⟩ := hm.o1.shape
  obtain ⟨p2, q2, e2⟩ := hm.o2.shape
  have e3 := hm.o3
  obtain ⟨v', w', r1, r2, r3⟩ := append_oneM 24 26 (.agg #[.int .i64 0, .int .i64 0, .int .i64 0, .int .i64 0, .slice none 0 0, .slice none 0 0, .slice none 0 0]) 104 (by omega) (by kernel_rfl) infoRq rfl w v E.length (emcs E) (emc m) rfl (fun u hu => by
    simp only [emc, List.mem_cons, List.not_mem_nil, or_false] at hu
    rcases hu with rfl | rfl | rfl | rfl | rfl | rfl | rfl
    · rfl
    · rfl
    · rfl
    · rfl
    · rw [e1]; rfl
    · rw [e2]; rfl
    · rw [e3]; rfl) ho hE
  have nd0 : (bks ((v :: ems E) ++ [m.l, m.e])).Nodup := by
    refine nd_app h.nd ?_ (fun k hk hk2 => ?_)
    · refine nd_cons.2 ⟨?_, fun k hk hk2 => ?_⟩
      · cases hq : m.e.ownBlock with
        | none => rw [bks_none hq]; exact List.nodup_nil
        | some j => rw [bks_some hq]; simp
      · obtain ⟨u, hu, hb⟩ := mem_bks.1 hk2
        rw [List.mem_singleton] at hu
        subst hu
        exact hd k hk hb
    · have g := hW k hk
      obtain ⟨u, hu, hb⟩ := mem_bks.1 hk2
      simp only [List.mem_cons, List.not_mem_nil, or_false] at hu
      rcases hu with rfl | rfl
      · have := h1 k hb; omega
      · have := h2 k hb; omega
  rw [List.cons_append, ← ems_snoc] at nd0
  have lt : ∀ k, k ∈ bks (ems (E ++ [m])) → k < w.heap.size := fun k hk => by
    obtain ⟨u, hu, hb⟩ := mem_bks.1 hk
    obtain ⟨m', hm', hu⟩ := mem_ems.1 hu
    have hO : EmO w lo m' := by
      rcases List.mem_append.1 hm' with hm' | hm'
      · exact h.el m' hm'
      · rw [List.mem_singleton] at hm'; subst hm'; exact hm
    rcases hu with rfl | rfl
    · exact own_lt hO.o1 k hb
    · exact own_lt hO.o2 k hb
  obtain ⟨n1, n2⟩ := nd_cons.1 nd0
  have st : ∀ m', m' ∈ E ++ [m] → EmO w lo m' → EmO w' lo m' := fun m' hm' g => by
    have nb : ∀ u, u = m'.l ∨ u = m'.e → ∀ k, u.ownBlock = some k → v.ownBlock ≠ some k := fun u hu k hk hv => n2 k hv (mem_bks.2 ⟨u, mem_ems.2 ⟨m', hm', hu⟩, hk⟩)
    exact ⟨g.o1.kept r3.size (fun k hk => r3.old k (own_lt g.o1 k hk) (nb _ (.inl rfl) k hk)), g.o2.kept r3.size (fun k hk => r3.old k (own_lt g.o2 k hk) (nb _ (.inr rfl) k hk)), g.o3⟩
  refine ⟨v', w', r1, ⟨fun e => by simp at e, fun m' hm' => ?_, ?_⟩⟩
  · refine st m' hm' ?_
    rcases List.mem_append.1 hm' with hm' | hm'
    · exact h.el m' hm'
    · rw [List.mem_singleton] at hm'; subst hm'; exact hm
  · refine nd_cons.2 ⟨n1, fun k hk hm2 => ?_⟩
    rcases r3.alt with g | ⟨g, _⟩
    · exact n2 k (by rw [← g]; exact hk) hm2
    · have := g k hk
      have := lt k hm2
      omega
end Msg
end Go.Proofs.YtmhgdcfmfcjagaaGreatDoor
