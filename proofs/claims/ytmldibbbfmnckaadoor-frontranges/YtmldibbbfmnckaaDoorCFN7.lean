import Derived.Test.YtmldibbbfmnckaaDoorCFN6
import Derived.Laws.ResultCell
import Derived.Test.YtmldibbbfmnckaaDoorCO28
import Derived.Test.YtmldibbbfmnckaaDoorCFN3
namespace Go.Proofs.YtmldibbbfmnckaaDoor
open Go.RowKit
theorem results_row_tmp {P : Program} {fn : Func} {p u : Tmp} {ty : TypeId} (h : fn.results = #[.cell p ty, .tmp u]) (tmps : Array Value) (w : World) (g : Nat) (t : TypeId) (cs : Array Value) (fr : Nat × Nat) (d : TypeDesc)
    (hp : tmps.getD p undef = .pointer (some ⟨g, 0, none⟩)) (hg : w.heap[g]? = some (.cells cs t fr))
    (hu : P.underlying ty = some d) (hd : (match d with | .struct _ | .array _ _ => true | _ => false) = true) (hi : (P.info? ty).map (·.size) = some cs.size) :
    (results fn tmps).run P w = .ok (.tuple #[.agg cs, tmps.getD u undef]) w := by
  rw [results_cell_tmp h, hp]
  simp [asAddr, run_loadVar_row w g t ty cs fr d hg hu hd hi, Result.andThen]
/-- nothing: beside an error -/
abbrev rng0 : Value := .agg #[.int .i64 0, .int .i64 0, .slice none 0 0]
/-- F3 -/
def cmpE (from_ : Int) (l : List (List UInt8)) : Int := if 0 ≤ from_ ∧ from_ ≤ 1099511627776 ∧ l.length ≤ 4096 then (if from_ + (l.length : Int) ≤ 1099511627776 then (if hsB l = true then 0 else 52) else 53) else 1
/-- what a call that makes a range answers: an error, or a range whose list is its own -/
def RgP (w : World) (c b e : Int) (H : List (List UInt8)) (r : Ending) (w' : World) : Prop :=
  Below w.heap.size w w' ∧ if c = 0 then ∃ v, r = .returned (.tuple #[rng b e v, .int .i64 0]) ∧ Own w' w.heap.size v (svs H) else r = .returned (.tuple #[rng0, .int .i64 c])
theorem RgP.bad {w w' : World} {c b e : Int} {H : List (List UInt8)} (hc : c ≠ 0) (hb : Below w.heap.size w w') : RgP w c b e H (.returned (.tuple #[rng0, .int .i64 c])) w' := by
  unfold RgP
  rw [if_neg hc]
  exact ⟨hb, rfl⟩
theorem RgP.ok {w w' : World} {b e : Int} {H : List (List UInt8)} {v : Value} (ho : Own w' w.heap.size v (svs H)) (hb : Below w.heap.size w w') : RgP w 0 b e H (.returned (.tuple #[rng b e v, .int .i64 0])) w' := by
  unfold RgP
  rw [if_pos rfl]
  exact ⟨hb, v, rfl, ho⟩
theorem Keep.toBelow {S : Nat → Prop} {w w' : World} {B : Nat} (h : Keep S w w') (hB : B ≤ w.heap.size) (hS : ∀ k, S k → B ≤ k) : Below B w w' :=
  ⟨h.os, h.tape, h.output, h.size, fun k hk => h.block k (by omega) fun e => by have := hS k e; omega⟩
theorem oneRg (b e : Int) (a : Option Addr) (n c : Nat) : (#[Value.int .i64 b, Value.int .i64 e, Value.slice a n c].all (·.oneCell')) = true := all_oneCell_toArray (cs := [Value.int .i64 b, Value.int .i64 e, Value.slice a n c]) fun v hv => by
  simp only [List.mem_cons, List.not_mem_nil, or_false] at hv
  rcases hv with rfl | rfl | rfl <;> rfl
theorem Own.from {w : World} {b0 B : Nat} {v : Value} {cs : List Value} (h : Own w b0 v cs) (hB : ∀ k, v.ownBlock = some k → B ≤ k) : Own w B v cs := by
  rcases h with h | ⟨g, cap, rfl, h1, h2⟩
  · exact .inl h
  · exact .inr ⟨g, cap, rfl, hB g rfl, h2⟩
/-- a list and a span, while the one grows with the other -/
structure Cj (w0 w' : World) (O : Nat → Prop) (q s a e : Nat) (v : Value) (H : List (List UInt8)) : Prop where
  nl : Nl w' q #[v] 73 v H
  sp : Sp w' s a e
  own : ∀ k, v.ownBlock = some k → O k
  keep : Keep (fun k => k = q ∨ k = s ∨ O k) w0 w'
/-- what the blocks are like -/
structure Co (w0 : World) (O : Nat → Prop) (q s : Nat) : Prop where
  up : ∀ k, w0.heap.size ≤ k → O k
  nq : ¬ O q
  ns : ¬ O s
  ne : q ≠ s
  tl : ∀ k, O k → 4 ≤ k
  tq : 4 ≤ q
  ts : 4 ≤ s
  tabs : Tabs w0
theorem Cj.tabs {w0 w' : World} {O : Nat → Prop} {q s a e : Nat} {v : Value} {H : List (List UInt8)} (h : Cj w0 w' O q s a e v H) (c : Co w0 O q s) : Tabs w' := by
  have ht := c.tabs.lt
  have h1 := c.tq
  have h2 := c.ts
  exact c.tabs.below (B := 4) (h.keep.toBelow ht fun k hk => by
    rcases hk with e | e | e
    · omega
    · omega
    · exact c.tl k e) (Nat.le_refl _)
theorem Cj.taken {w0 w1 w2 : World} {O : Nat → Prop} {q s a e e' : Nat} {v v' : Value} {H H' : List (List UInt8)} (h : Cj w0 w1 O q s a e v H) (c : Co w0 O q s) (hn : Nl w2 q #[v'] 73 v' H') (hk : Keep (Fp q v) w1 w2) (hv : ∀ j, v'.ownBlock = some j → v.ownBlock = some j ∨ w1.heap.size ≤ j) :
    Sp w2 s a e ∧ Cj w0 (w2.setCell ⟨s, 1, none⟩ (.int .i64 (e' : Int))) O q s a e' v' H' := by
  have hsv : ∀ k, Fp q v k → k ≠ s := fun k hk e => by
    rcases hk with hk | hk
    · exact c.ne (hk.symm.trans e)
    · exact c.ns (e ▸ h.own k hk)
  have hs2 : Sp w2 s a e := (hk.block s (lt_of_heap h.sp) fun e => hsv s e rfl).trans h.sp
  have hO : ∀ k, v'.ownBlock = some k → O k := fun k hk' => by
    rcases hv k hk' with e | e
    · exact h.own k e
    · exact c.up k (Nat.le_trans h.keep.size e)
  have kset := Keep.ofSet (S := fun k => k = s) w2 s 1 (.int .i64 (e' : Int)) rfl
  refine ⟨hs2, ⟨hn.keep kset fun k hk' e => ?_, hs2.set1 e', hO, ?_⟩⟩
  · rcases hk' with hk' | hk'
    · exact c.ne (hk'.symm.trans e)
    · exact c.ns (e ▸ hO k hk')
  · refine (h.keep.trans hk fun k hk0 e => ?_).trans kset fun k _ e => .inr (.inl e)
    rcases e with e | e
    · exact .inl e
    · exact .inr (.inr (h.own k e))
theorem lh_take {l : List (List UInt8)} {j : Nat} (h : j < l.length) : l.take j ++ [l[j]] = l.take (j + 1) := by rw [List.take_append_getElem]
set_option maxRecDepth 100000 in
set_option maxHeartbeats 4000000 in
theorem Compact_any (fr : Int) (l : List (List UInt8)) (a : Option Addr) (cap : Nat) (w : World) (h1 : -9223372036854775808 ≤ fr) (h2 : fr ≤ 9223372036854775807) (hl : l.length ≤ 9223372036854775807) (hA : At w a l) (T : Tabs w) :
    Calls Tryd.prog 9 #[.int .i64 fr, .slice a l.length cap] w (RgP w (cmpE fr l) fr (fr + l.length) (Cut.cmp l fr.toNat)) := by
  have BZ := hid ((Below.refl w.heap.size w).alloc (Nat.le_refl _) (.cells #[Value.int .i64 0, .int .i64 0, .slice none 0 0] 28))
  have RZ := hid (heap_alloc_new w (.cells #[Value.int .i64 0, .int .i64 0, .slice none 0 0] 28))
  by_cases c1 : 0 ≤ fr ∧ fr ≤ 1099511627776
  · have i1 := isPlace_is fr true (by simpa using c1)
    by_cases c2 : l.length ≤ 4096
    · have d2 : ¬ (4096 : Int) < (l.length : Int) := by omega
      by_cases c3 : fr + (l.length : Int) ≤ 1099511627776
      · have d3 : ¬ (1099511627776 : Int) < fr + (l.length : Int) := by omega
        by_cases c4 : hsB l = true
        · have e0 : cmpE fr l = 0 := by unfold cmpE; rw [if_pos ⟨c1.1, c1.2, c2⟩, if_pos c3, if_pos c4]
          rw [e0]
          have i2 := fun w' hA' => areHashes_is l true c4 a cap w' hl hA'
          obtain ⟨b, rfl⟩ := Int.eq_ofNat_of_zero_le c1.1
          rw [Int.toNat_natCast]
          have HA := hid hA
          have HT := hid T
          have hT := T.lt
          have C4 := hid c4
          obtain ⟨n, hn⟩ : ∃ n : Nat, Hid (l.length = n) := ⟨_, rfl⟩
          rw [hn.out] at i2 hl c2 c3 d2 d3 ⊢
          clear e0 hA T c4 h1 h2
          go_enter Tryd.func9, Tryd.ntmps9
          go_wp2_with (first
            | (go_at_call 35; refine (i1 _).mono ?_; rintro r w1 ⟨rfl, rfl⟩)
            | (go_at_call 36; refine (i2 _ (HA.out.below BZ.out (Nat.le_refl _))).mono ?_; rintro r w2 ⟨rfl, rfl⟩))
          have w0e : ∃ w0, ((w.alloc (.cells #[Value.int .i64 0, .int .i64 0, .slice none 0 0] 28)).alloc (.cells #[Value.slice none 0 0] 73)).alloc (.cells #[Value.int .i64 (b : Int), Value.int .i64 (b : Int)] 75) = w0 := ⟨_, rfl⟩
          obtain ⟨w0, hw0⟩ := w0e
          obtain ⟨r0, r1, r2, r3⟩ := alloc3 w (.cells #[Value.int .i64 0, .int .i64 0, .slice none 0 0] 28) (.cells #[Value.slice none 0 0] 73) (.cells #[Value.int .i64 (b : Int), Value.int .i64 (b : Int)] 75)
          have B0 := below_alloc3 w (.cells #[Value.int .i64 0, .int .i64 0, .slice none 0 0] 28) (.cells #[Value.slice none 0 0] 73) (.cells #[Value.int .i64 (b : Int), Value.int .i64 (b : Int)] 75)
          rw [hw0] at r0 r1 r2 r3 B0 ⊢
          have hc : Hid (Co w0 (fun k => w0.heap.size ≤ k) (w.heap.size + 1) (w.heap.size + 1 + 1)) := ⟨fun _ h => h, by omega, by omega, by omega, fun k hk => by omega, by omega, by omega, HT.out.below B0 hT⟩
          have hc0 : Hid (Cj w0 w0 (fun k => w0.heap.size ≤ k) (w.heap.size + 1) (w.heap.size + 1 + 1) b (b + 0) (.slice none 0 0) (Cut.cmp (l.take 0) b)) := by
            refine ⟨⟨r1, rfl, ?_, fun e => by cases e⟩, r2, fun _ hk => (by cases hk), Keep.refl _ _⟩
            rw [List.take_zero, Cut.cmp_nil]
            exact Own.nil _ _
          have HR0 := hid r0
          have HB0 := hid B0
          have hsz0 := hid r3
          clear r0 r1 r2 B0 hw0 BZ RZ i1 i2 d2 d3
          go_loopw [37] (fun i w' => ∃ (j : Nat) (v : Value), i = .int .i64 (j : Int) ∧ j ≤ n ∧ Hid (Cj w0 w' (fun k => w0.heap.size ≤ k) (w.heap.size + 1) (w.heap.size + 1 + 1) b (b + j) v (Cut.cmp (l.take j) b))) (fun i _ => n - (intOf i).toNat)
          case atStart => exact ⟨0, _, rfl, by omega, hc0⟩
          case round =>
            clear hc0
            obtain ⟨j, v, rfl, hj, hC⟩ := hrel
            have s0 := hC.out.sp.c0
            have s1 := hC.out.sp.c1
            have f1 := hC.out.sp.f1
            by_cases hjn : j < n
            · have q0 : (j : Int) < (n : Int) := by omega
              have A5 := HA.out.below (HB0.out.trans (hC.out.keep.toBelow (B := w.heap.size) HB0.out.size (fun k hk => by rcases hk with e | e | e <;> omega))) (Nat.le_refl _)
              obtain ⟨y, rfl⟩ := A5.pos (by have := hn.out; omega)
              obtain ⟨x, hx, hcell⟩ := A5.cell j (by have := hn.out; omega)
              have i3 := take_any (w.heap.size + 1) b (b + j) 0 _ _ _ _ x.data.toList _ hC.out.nl (hC.out.tabs hc.out) (by omega) (fun k hk => hc.out.tl k (hC.out.own k hk)) (by have : (2 : Nat) ^ 0 = 1 := rfl; omega) (by omega) (Nat.mod_one _) (by rw [Cut.cmp_length, List.length_take, hn.out, Nat.min_eq_left hj])
              have e3 : Cut.takeH b (b + j) (2 ^ 0) x.data.toList (Cut.cmp (l.take j) b) = Cut.cmp (l.take (j + 1)) b := by
                have hlj : (l.take j).length = j := by rw [List.length_take, hn.out, Nat.min_eq_left hj]
                have := Cut.cmp_snoc (L := l.take j) (a := b) (x := x.data.toList) (by rw [hlj]; omega)
                rw [hlj] at this
                rw [show (2 : Nat) ^ 0 = 1 from rfl, this, hx.out, List.take_append_getElem]
              rw [e3, show sv x.data.toList = .string x from by cases x; rfl] at i3
              clear A5 hx e3
              go_wp2_with (first
                | ((with_reducible show wpList _ _ _ (Oper.mk _ (Op.load 75 _) _ _ _ _ :: _) _ _); go_must (refine wpList_load_row rfl 75 _ rfl (w.heap.size + 1 + 1) rfl 75 _ (0, 0) _ hC.out.sp.row Tryd.underlying75 rfl (sizeSp' _ _) ?_))
                | (go_at_call 37; refine i3.mono ?_; rintro r w2 ⟨rfl, v', hL2, hK2, hv2⟩; obtain ⟨S2, C2⟩ := hC.out.taken (e' := b + j + 1) hc.out hL2 hK2 hv2; have t1 := S2.c1; have g1 := S2.f1))
              exact ⟨⟨j + 1, v', by go_num, by omega, C2⟩, by simp [intOf]; omega⟩
            · obtain rfl : j = n := by omega
              have q0 : ¬ (j : Int) < (j : Int) := by omega
              have hl0 := hC.out.nl.c0
              obtain ⟨va, vn, vc, rfl⟩ := own_sl hC.out.nl.own
              have HR5 : wr.heap[w.heap.size]? = some (.cells #[Value.int .i64 0, .int .i64 0, .slice none 0 0] 28 (0, 0)) := (hC.out.keep.block w.heap.size (by have := hsz0.out; omega) (fun e => by have := hsz0.out; rcases e with e | e | e <;> omega)).trans HR0.out
              have hlt : l.take j = l := by rw [← hn.out, List.take_length]
              have hsz := hsz0.out
              go_wp2_with ((with_reducible show wpList _ _ _ (Oper.mk _ (Op.store 28 _ _) _ _ _ _ :: _) _ _); go_must (refine wpList_store_row rfl 28 _ _ rfl w.heap.size _ rfl rfl 28 _ HR5 (sizeRg' _ _ _) rfl (oneRg _ _ _ _ _) ?_))
              refine bodyPost_ret (results_row_tmp rfl _ _ w.heap.size 28 _ (0, 0) _ rfl (setRow_heap _ _ _ _ _ _ HR5) Tryd.underlying28 rfl sizeRg) rfl ?_
              have ho := hC.out.nl.own
              rw [hlt] at ho
              refine RgP.ok ?_ ?_
              · have k1 : Keep (fun k => k = w.heap.size) wr (wr.setRow w.heap.size #[.int .i64 (b : Int), .int .i64 ((b + j : Nat) : Int), .slice va vn vc]) := ⟨rfl, rfl, rfl, by rw [setRow_size]; exact Nat.le_refl _, fun k _ hk => setRow_other wr _ k _ hk⟩
                refine (ho.from (B := w.heap.size) fun k hk => ?_).keep k1 fun k hk e => ?_
                · have : w0.heap.size ≤ k := hC.out.own k hk
                  omega
                · have : w0.heap.size ≤ k := hC.out.own k hk
                  omega
              · refine Below.setRow (HB0.out.trans (hC.out.keep.toBelow (B := w.heap.size) HB0.out.size (fun k hk => ?_))) (Nat.le_refl _) _
                rcases hk with e | e | e
                · omega
                · omega
                · have : w0.heap.size ≤ k := e
                  omega
        · have e0 : cmpE fr l = 52 := by unfold cmpE; rw [if_pos ⟨c1.1, c1.2, c2⟩, if_pos c3, if_neg c4]
          rw [e0]
          have i2 := fun w' hA' => areHashes_is l false (by simpa using c4) a cap w' hl hA'
          have HA := hid hA
          generalize l.length = n at *
          clear e0 hA T c4
          go_enter Tryd.func9, Tryd.ntmps9
          go_wp2_with (first
            | (go_at_call 35; refine (i1 _).mono ?_; rintro r w1 ⟨rfl, rfl⟩)
            | (go_at_call 36; refine (i2 _ (HA.out.below BZ.out (Nat.le_refl _))).mono ?_; rintro r w2 ⟨rfl, rfl⟩))
          refine bodyPost_ret (results_row_tmp rfl _ _ w.heap.size 28 _ (0, 0) _ rfl RZ.out Tryd.underlying28 rfl sizeRg) rfl ?_
          exact RgP.bad (by omega) BZ.out
      · have d3 : (1099511627776 : Int) < fr + (l.length : Int) := by omega
        have e0 : cmpE fr l = 53 := by unfold cmpE; rw [if_pos ⟨c1.1, c1.2, c2⟩, if_neg c3]
        rw [e0]
        generalize l.length = n at *
        clear e0 hA T
        go_enter Tryd.func9, Tryd.ntmps9
        go_wp2_with (go_at_call 35; refine (i1 _).mono ?_; rintro r w1 ⟨rfl, rfl⟩)
        refine bodyPost_ret (results_row_tmp rfl _ _ w.heap.size 28 _ (0, 0) _ rfl RZ.out Tryd.underlying28 rfl sizeRg) rfl ?_
        exact RgP.bad (by omega) BZ.out
    · have d2 : (4096 : Int) < (l.length : Int) := by omega
      have e0 : cmpE fr l = 1 := by unfold cmpE; rw [if_neg (fun h => c2 h.2.2)]
      rw [e0]
      generalize l.length = n at *
      clear e0 hA T
      go_enter Tryd.func9, Tryd.ntmps9
      go_wp2_with (go_at_call 35; refine (i1 _).mono ?_; rintro r w1 ⟨rfl, rfl⟩)
      refine bodyPost_ret (results_row_tmp rfl _ _ w.heap.size 28 _ (0, 0) _ rfl RZ.out Tryd.underlying28 rfl sizeRg) rfl ?_
      exact RgP.bad (by omega) BZ.out
  · have i1 := isPlace_is fr false (by simpa using c1)
    have e0 : cmpE fr l = 1 := by unfold cmpE; rw [if_neg (fun h => c1 ⟨h.1, h.2.1⟩)]
    rw [e0]
    generalize l.length = n at *
    clear e0 hA T
    go_enter Tryd.func9, Tryd.ntmps9
    go_wp2_with (go_at_call 35; refine (i1 _).mono ?_; rintro r w1 ⟨rfl, rfl⟩)
    refine bodyPost_ret (results_row_tmp rfl _ _ w.heap.size 28 _ (0, 0) _ rfl RZ.out Tryd.underlying28 rfl sizeRg) rfl ?_
    exact RgP.bad (by omega) BZ.out
end Go.Proofs.YtmldibbbfmnckaaDoor

namespace Go.Proofs.YtmldibbbfmnckaaDoor
open Go.RowKit
/-- F5 -/
def rootO (b e : Int) (H : List (List UInt8)) : List UInt8 × Int := if rgt b e H.length = true ∧ b = 0 then (if hsB H = true then (Cut.fold H, 0) else ([], 52)) else ([], 50)
theorem svE5 : sv [] = .string ⟨#[]⟩ := rfl
set_option maxRecDepth 100000 in
set_option maxHeartbeats 4000000 in
theorem RootOf5_any (b e : Int) (H : List (List UInt8)) (a : Option Addr) (k : Nat) (w : World) (hl : H.length ≤ 9223372036854775807) (hA : At w a H) (Z : Tb w) :
    Calls Tryd.prog 15 #[rng b e (.slice a H.length k)] w fun r w' => r = .returned (.tuple #[sv (rootO b e H).1, .int .i64 (rootO b e H).2]) ∧ Below w.heap.size w w' := by
  obtain ⟨n, hm⟩ : ∃ n, Hid (H.length = n) := ⟨_, rfl⟩
  rw [hm.out] at hl ⊢
  have R0 := hid (Rg.new w b e (.slice a n k))
  have B0 := hid ((Below.refl w.heap.size w).alloc (Nat.le_refl _) (.cells #[Value.int .i64 b, .int .i64 e, .slice a n k] 28))
  have Z0 := hid (Z.below B0.out Z.lt)
  have A0 := hid (hA.below B0.out (Nat.le_refl _))
  have i1 := isRight_any b e a n k _ Z0.out
  have hT := Z.lt
  obtain ⟨O, hO⟩ : ∃ O, Hid (rootO b e H = O) := ⟨_, rfl⟩
  rw [hO.out]
  have hN : Hid (n ≤ 8796093021952 ∨ rgt b e n = false) := by
    unfold Hid
    cases h : rgt b e n with
    | false => exact .inr rfl
    | true =>
      unfold rgt at h
      simp only [decide_eq_true_eq] at h
      have := Cut.cut_len (a := b.toNat) (b := e.toNat) (by omega) (by omega)
      left; omega
  clear hA Z
  cases hr : rgt b e n with
  | false =>
    rw [hr] at i1
    have e0 := hid (show O = ([], 50) by rw [← hO.out]; unfold rootO; rw [hm.out, if_neg (by rw [hr]; simp)])
    rw [e0.out]
    clear hr hO A0 hN
    go_enter Tryd.func15, Tryd.ntmps15
    go_wp2_with (go_at_call 38; refine i1.mono ?_; rintro r w1 ⟨rfl, hw1⟩)
    go_ret2
    exact ⟨rfl, B0.out.trans (hw1.mono B0.out.size)⟩
  | true =>
    rw [hr] at i1
    have hn : n ≤ 8796093021952 := by
      rcases hN.out with h | h
      · exact h
      · rw [hr] at h; cases h
    by_cases hb : b = 0
    · subst hb
      cases hs : hsB H with
      | false =>
        have e0 := hid (show O = ([], 52) by rw [← hO.out]; unfold rootO; rw [hm.out, if_pos ⟨hr, rfl⟩, if_neg (by rw [hs]; simp)])
        rw [e0.out]
        have i2 := fun w' hA => areHashes_is H false hs a k w' (by rw [hm.out]; exact hl) hA
        rw [hm.out] at i2
        clear hr hO hN hs
        go_enter Tryd.func15, Tryd.ntmps15
        go_wp2_with (first
          | (go_at_call 38; refine i1.mono ?_; rintro r w1 ⟨rfl, hw1⟩; have R1 := R0.out.below hw1; have p0 := R1.c0; have p2 := R1.c2; have A1 := A0.out.below hw1 (Nat.le_refl _))
          | (go_at_call 36; refine (i2 _ A1).mono ?_; rintro r w2 ⟨rfl, rfl⟩))
        go_ret2
        exact ⟨rfl, B0.out.trans (hw1.mono B0.out.size)⟩
      | true =>
        have e0 := hid (show O = (Cut.fold H, 0) by rw [← hO.out]; unfold rootO; rw [hm.out, if_pos ⟨hr, rfl⟩, if_pos hs])
        rw [e0.out]
        have i2 := fun w' hA => areHashes_is H true hs a k w' (by rw [hm.out]; exact hl) hA
        have i3 := fun w' hA T => froot_any H a k w' (by rw [hm.out]; exact hn) hA T
        rw [hm.out] at i2 i3
        clear hr hO hN hs hn e0
        generalize Cut.fold H = F at *
        go_enter Tryd.func15, Tryd.ntmps15
        go_wp2_with (first
          | (go_at_call 38; refine i1.mono ?_; rintro r w1 ⟨rfl, hw1⟩; have R1 := R0.out.below hw1; have p0 := R1.c0; have p2 := R1.c2; have A1 := A0.out.below hw1 (Nat.le_refl _); have T1 := (Z0.out.below hw1 Z0.out.lt).t)
          | (go_at_call 36; refine (i2 _ A1).mono ?_; rintro r w2 ⟨rfl, rfl⟩)
          | (go_at_call 45; refine (i3 _ A1 T1).mono ?_; rintro r w3 ⟨rfl, hw3⟩))
        go_ret2
        exact ⟨rfl, (B0.out.trans (hw1.mono B0.out.size)).trans (hw3.mono (Nat.le_trans B0.out.size hw1.size))⟩
    · have e0 := hid (show O = ([], 50) by rw [← hO.out]; unfold rootO; rw [if_neg (fun h => hb h.2)])
      rw [e0.out]
      have d1 : (b != 0) = true := by simpa using hb
      clear hr hO A0 hN hn
      go_enter Tryd.func15, Tryd.ntmps15
      go_wp2_with (go_at_call 38; refine i1.mono ?_; rintro r w1 ⟨rfl, hw1⟩; have R1 := R0.out.below hw1; have p0 := R1.c0)
      go_ret2
      exact ⟨rfl, B0.out.trans (hw1.mono B0.out.size)⟩
end Go.Proofs.YtmldibbbfmnckaaDoor

namespace Go.Proofs.YtmldibbbfmnckaaDoor
open Go.RowKit
def spare : List UInt8 := [115, 112, 97, 114, 101]
theorem spare_sv : sv spare = .string ⟨#[115, 112, 97, 114, 101]⟩ := rfl
def behind (j : Nat) : List (List UInt8) := List.replicate j spare ++ List.replicate (8 - j) []
theorem behind_len (j : Nat) (h : j ≤ 8) : (behind j).length = 8 := by simp [behind]; omega
theorem behind_set : ∀ j : Fin 8, (behind j.val).set j.val spare = behind (j.val + 1) := by decide
theorem behind_get : ∀ j : Fin 8, (behind 8)[j.val]? = some spare := by decide
theorem behind_step (ps : List (List UInt8)) (j : Nat) (h : j < 8) : (ps ++ behind j).set (ps.length + j) spare = ps ++ behind (j + 1) := by
  rw [List.set_append_right _ _ (by omega), show ps.length + j - ps.length = j from by omega, behind_set ⟨j, h⟩]
set_option maxRecDepth 100000 in
set_option maxHeartbeats 1000000 in
theorem lent_any (ps : List (List UInt8)) (a : Option Addr) (cap : Nat) (w : World) (hn : ps.length ≤ 8796093021952) (hA : At w a ps) :
    Calls Tryd.prog 24 #[.slice a ps.length cap] w fun e w' => e = .returned (.slice (some ⟨w.heap.size, 0, none⟩) (ps.length + 8) (ps.length + 8)) ∧ Row w' w.heap.size (ps ++ behind 8) ∧ Below w.heap.size w w' := by
  have hmk := make_texts w (ps.length + 8) (by omega)
  have e8 : ((ps.length + 8 : Nat) : Int) = (ps.length : Int) + 8 := by omega
  rw [e8] at hmk
  have R1 : Row (w.alloc (.cells (svs (List.replicate (ps.length + 8) [])).toArray 9)) w.heap.size (List.replicate ps.length [] ++ List.replicate 8 []) := by
    rw [List.replicate_append_replicate]; exact heap_alloc_new w _
  have hb1 := (Below.refl w.heap.size w).alloc (Nat.le_refl _) (.cells (svs (List.replicate (ps.length + 8) [])).toArray 9)
  obtain ⟨w2, hcp, hR2, hb2⟩ := copy_texts _ w.heap.size a cap ps (List.replicate 8 []) (hA.below hb1 (Nat.le_refl _)) R1 (ps.length + 8) (ps.length + 8) (by simp)
  have B2 : Below w.heap.size w w2 := hb1.trans (hb2.below (Nat.le_refl _) (by rw [size_alloc]; omega))
  have HR2 := hid hR2
  have HB2 := hid B2
  clear hR2 B2 R1 hb2 hb1 hA
  generalize w.alloc (.cells (svs (List.replicate (ps.length + 8) [])).toArray 9) = w1 at *
  obtain ⟨n, hpn⟩ : ∃ n, ps.length = n := ⟨_, rfl⟩
  rw [hpn] at hmk hcp hn ⊢
  go_enter Tryd.func24, Tryd.ntmps24
  go_wp2
  clear hcp hmk
  go_loopw [4] (fun i w' => ∃ j : Nat, j ≤ 8 ∧ i = .int .i64 ((n : Int) + (j : Int)) ∧ Hid (Row w' w.heap.size (ps ++ behind j)) ∧ Hid (Below w.heap.size w w')) (fun i _ => n + 8 - (intOf i).toNat)
  case atStart => exact ⟨0, by omega, by simp, HR2, HB2⟩
  case round =>
    clear HR2 HB2
    obtain ⟨j, hj, rfl, hR, hB⟩ := hrel
    by_cases hlt : j < 8
    · have b0 : (n : Int) + (j : Int) < (n : Int) + 8 := by omega
      have b1 : (0 : Int) ≤ (n : Int) + (j : Int) := by omega
      have t1 : ((n : Int) + (j : Int)).toNat = n + j := by omega
      have hl : (ps ++ behind j).length = n + 8 := by rw [List.length_append, behind_len j (by omega), hpn]
      have cp := hR.out.cell (List.getElem?_eq_getElem (show n + j < (ps ++ behind j).length by omega))
      have fz := hR.out.free (show n + j < (ps ++ behind j).length by omega)
      have R' := hR.out.set (n + j) spare
      rw [← hpn, behind_step ps j hlt, hpn] at R'
      have B' := hid (hB.out.setCell (p := ⟨w.heap.size, n + j, none⟩) (Nat.le_refl _) (sv spare))
      rw [spare_sv] at R' B'
      have R'' := hid R'
      clear R' hR hB
      go_wp2
      exact ⟨⟨j + 1, by omega, by rw [show (n : Int) + (j : Int) + 1 = (n : Int) + ((j + 1 : Nat) : Int) from by omega], R'', B'⟩, by simp [intOf]; omega⟩
    · obtain rfl : j = 8 := by omega
      have b0 : ¬ (n : Int) + ((8 : Nat) : Int) < (n : Int) + 8 := by omega
      go_wp2
      go_ret
      exact ⟨rfl, hR.out, hB.out⟩
set_option maxRecDepth 100000 in
set_option maxHeartbeats 1000000 in
theorem kept_yes (ps : List (List UInt8)) (H : Nat) (a : Option Addr) (cap : Nat) (w : World) (hn : ps.length ≤ 8796093021952) (hR : Row w H (ps ++ behind 8)) (hA : At w a ps) :
    Calls Tryd.prog 30 #[.slice (some ⟨H, 0, none⟩) (ps.length + 8) (ps.length + 8), .slice a ps.length cap] w fun e w' => e = .returned (.bool true) ∧ Below w.heap.size w w' ∧ w'.heap = w.heap := by
  have hA1 : At w (some ⟨H, 0, none⟩) ps := by
    have := hR.at.take ps.length
    rwa [List.take_left] at this
  have cS := same_yes ps (some ⟨H, 0, none⟩) a (ps.length + 8) cap w hA1 hA (by omega)
  have HR := hid hR
  obtain ⟨n, hpn⟩ : ∃ n, ps.length = n := ⟨_, rfl⟩
  rw [hpn] at cS hn ⊢
  clear hA hA1 hR
  have hnn : (n : Int) ≤ (n : Int) + 8 := by omega
  go_enter Tryd.func30, Tryd.ntmps30
  go_wp2
  go_loopw [5] (fun i w' => ∃ j : Nat, j ≤ 8 ∧ i = .int .i64 ((n : Int) + (j : Int)) ∧ w' = w) (fun i _ => n + 8 - (intOf i).toNat)
  case atStart => exact ⟨0, by omega, by simp, rfl⟩
  case round =>
    obtain ⟨j, hj, rfl, rfl⟩ := hrel
    by_cases hlt : j < 8
    · have b0 : (n : Int) + (j : Int) < (n : Int) + 8 := by omega
      have b1 : (0 : Int) ≤ (n : Int) + (j : Int) := by omega
      have t1 : ((n : Int) + (j : Int)).toNat = n + j := by omega
      have cp := HR.out.cell (j := n + j) (p := spare) (by
        rw [List.getElem?_append_right (by omega), hpn, show n + j - n = j from by omega]
        exact behind_get ⟨j, hlt⟩)
      rw [spare_sv] at cp
      go_wp2
      exact ⟨⟨j + 1, by omega, by rw [show (n : Int) + (j : Int) + 1 = (n : Int) + ((j + 1 : Nat) : Int) from by omega], trivial⟩, by simp [intOf]; omega⟩
    · obtain rfl : j = 8 := by omega
      have b0 : ¬ (n : Int) + ((8 : Nat) : Int) < (n : Int) + 8 := by omega
      go_wp2_with (go_at_call 16; refine cS.mono ?_; rintro e w9 ⟨rfl, hw9, hh9⟩)
      go_ret
      exact ⟨rfl, hw9, hh9⟩
end Go.Proofs.YtmldibbbfmnckaaDoor

namespace Go.Proofs.YtmldibbbfmnckaaDoor
open Go.RowKit
/-- what stands where there is no error -/
def sel (c x : Int) : Int := if c = 0 then x else 0
def selL (c : Int) (H : List (List UInt8)) : List (List UInt8) := if c = 0 then H else []
theorem RgP.some5 {w w' : World} {c b e : Int} {H : List (List UInt8)} {r : Ending} (h : RgP w c b e H r w') : ∃ v, r = .returned (.tuple #[rng (sel c b) (sel c e) v, .int .i64 c]) ∧ Own w' w.heap.size v (svs (selL c H)) ∧ Below w.heap.size w w' := by
  obtain ⟨hb, h⟩ := h
  unfold sel selL
  by_cases hc : c = 0
  · subst hc
    rw [if_pos rfl] at h
    obtain ⟨v, h1, h2⟩ := h
    simp only [if_pos]
    exact ⟨v, h1, h2, hb⟩
  · rw [if_neg hc] at h
    simp only [if_neg hc]
    exact ⟨.slice none 0 0, h, Own.nil _ _, hb⟩
set_option maxRecDepth 100000 in
set_option maxHeartbeats 2000000 in
theorem sameRange_yes (b e : Int) (H : List (List UInt8)) (a1 a2 : Option Addr) (k1 k2 : Nat) (w : World) (hl : H.length ≤ 9223372036854775807) (h1 : At w a1 H) (h2 : At w a2 H) :
    Calls Tryd.prog 11 #[rng b e (.slice a1 H.length k1), rng b e (.slice a2 H.length k2)] w fun r w' => r = .returned (.bool true) ∧ Below w.heap.size w w' := by
  obtain ⟨w0, hw0⟩ : ∃ w0, (w.alloc (.cells #[Value.int .i64 b, .int .i64 e, .slice a1 H.length k1] 28)).alloc (.cells #[Value.int .i64 b, .int .i64 e, .slice a2 H.length k2] 28) = w0 := ⟨_, rfl⟩
  have z1 := size_alloc w (.cells #[Value.int .i64 b, .int .i64 e, .slice a1 H.length k1] 28)
  have r1 := heap_alloc_new w (.cells #[Value.int .i64 b, .int .i64 e, .slice a1 H.length k1] 28)
  have bb := (Below.refl (w.heap.size + 1) (w.alloc (.cells #[Value.int .i64 b, .int .i64 e, .slice a1 H.length k1] 28))).alloc (by omega) (.cells #[Value.int .i64 b, .int .i64 e, .slice a2 H.length k2] 28)
  have r2 := heap_alloc_at (w.alloc (.cells #[Value.int .i64 b, .int .i64 e, .slice a1 H.length k1] 28)) (.cells #[Value.int .i64 b, .int .i64 e, .slice a2 H.length k2] 28) (w.heap.size + 1) z1
  have b1 := (Below.refl w.heap.size w).alloc (Nat.le_refl _) (.cells #[Value.int .i64 b, .int .i64 e, .slice a1 H.length k1] 28)
  have b2 := b1.trans (bb.mono (show w.heap.size ≤ w.heap.size + 1 by omega))
  have r1' := (bb.block w.heap.size (by omega)).trans r1
  rw [hw0] at r1' r2 b2
  have RA : Rg w0 w.heap.size b e (.slice a1 H.length k1) := r1'
  have RB : Rg w0 (w.heap.size + 1) b e (.slice a2 H.length k2) := r2
  have HB := hid b2
  have i1 := same_yes H a1 a2 k1 k2 w0 (h1.below b2 (Nat.le_refl _)) (h2.below b2 (Nat.le_refl _)) hl
  have HRA := hid RA
  have HRB := hid RB
  have y1 : (b == b) = true := by simp
  have y2 : (e == e) = true := by simp
  have HW0 := hid hw0
  clear z1 r1 r2 b1 b2 bb r1' h1 h2 hw0 RA RB
  generalize H.length = n at *
  go_enter Tryd.func11, Tryd.ntmps11
  go_wp2_with (go_at_call 16; fail)
  rw [HW0.out]
  refine i1.mono ?_
  rintro r w1 ⟨rfl, hw1, _⟩
  have RA1 := HRA.out.below hw1
  have RB1 := HRB.out.below hw1
  have p0 := RA1.c0
  have p1 := RA1.c1
  have q0 := RB1.c0
  have q1 := RB1.c1
  go_wp2
  go_ret
  exact ⟨rfl, HB.out.trans (hw1.mono HB.out.size)⟩
/-- the first k places turned round -/
def tv (ps X : List (List UInt8)) (k : Nat) : List (List UInt8) := ps.reverse.take k ++ X.drop k
theorem tv_len {ps X : List (List UInt8)} {k : Nat} (h : X.length = ps.length) (hk : k ≤ ps.length) : (tv ps X k).length = X.length := by
  unfold tv; rw [List.length_append, List.length_take, List.length_drop, List.length_reverse]; omega
theorem tv_step {ps X Y : List (List UInt8)} {k : Nat} {p : List UInt8} (h : X.length = ps.length) (hk : k < ps.length) (hp : ps[ps.length - 1 - k]? = some p) : (tv ps X k ++ Y).set k p = tv ps X (k + 1) ++ Y := by
  have hr : ps.reverse[k]? = some p := by rw [List.getElem?_reverse hk]; exact hp
  have hl : (ps.reverse.take k).length = k := by rw [List.length_take, List.length_reverse]; omega
  have hd : X.drop k = X[k]'(by omega) :: X.drop (k + 1) := List.drop_eq_getElem_cons _
  unfold tv
  rw [hd, List.append_assoc, List.set_append, if_neg (by omega), hl, Nat.sub_self, List.cons_append, List.set_cons_zero, List.take_add_one, hr]
  simp
theorem tv_all {ps X : List (List UInt8)} (h : X.length = ps.length) : tv ps X ps.length = ps.reverse := by
  unfold tv
  rw [List.drop_eq_nil_of_le (by omega), List.append_nil, List.take_of_length_le (by rw [List.length_reverse]; exact Nat.le_refl _)]
theorem At.but {w w' : World} {a : Option Addr} {l : List (List UInt8)} {g : Nat} (h : At w a l) (hb : But g w w') (hne : ∀ x, a = some x → x.block ≠ g) : At w' a l := fun j p hp => by
  obtain ⟨x, rfl, hx, hc⟩ := h j p hp
  refine ⟨x, rfl, Nat.lt_of_lt_of_le hx hb.size, ?_⟩
  rw [← hc]
  exact World.cell?_of_block (w := w) (by rw [addr_block]; exact hb.block x.block hx (hne x rfl))
theorem setCell_but5 (w : World) (g k : Nat) (v : Value) : But g w (w.setCell ⟨g, k, none⟩ v) :=
  ⟨rfl, rfl, rfl, by simp [World.setCell], fun j _ hj => Below.heap_setCell w _ v j hj⟩
set_option maxRecDepth 100000 in
set_option maxHeartbeats 2000000 in
theorem turned5_any (ps X Y : List (List UInt8)) (g m c : Nat) (a : Option Addr) (cap : Nat) (w : World) (hR : Row w g (X ++ Y)) (hX : X.length = ps.length) (hm : ps.length ≤ m) (hm2 : m ≤ 9223372036854775807) (hA : At w a ps) (hne : ∀ x, a = some x → 0 < ps.length → x.block ≠ g) :
    Calls Tryd.prog 31 #[.slice (some ⟨g, 0, none⟩) m c, .slice a ps.length cap] w fun r w' => r = .returned (.tuple #[]) ∧ Row w' g (ps.reverse ++ Y) ∧ But g w w' := by
  obtain ⟨n, hn⟩ : ∃ n, Hid (ps.length = n) := ⟨_, rfl⟩
  rw [hn.out] at hm ⊢
  have HA := hid hA
  have HX := hid hX
  have R0 : Hid (Row w g (tv ps X 0 ++ Y)) := by unfold tv; rw [List.take_zero, List.nil_append, List.drop_zero]; exact hR
  clear hA hX hR
  go_enter Tryd.func31, Tryd.ntmps31
  go_wp2
  go_loopw [4] (fun i w' => ∃ k : Nat, i = .int .i64 (k : Int) ∧ k ≤ n ∧ Hid (Row w' g (tv ps X k ++ Y)) ∧ Hid (But g w w')) (fun i _ => n - (intOf i).toNat)
  case atStart => exact ⟨0, rfl, by omega, R0, But.refl _ _⟩
  case round =>
    clear R0
    obtain ⟨k, rfl, hk, hR, hB⟩ := hrel
    by_cases hkn : k < n
    · have c0 : (k : Int) < (n : Int) := by omega
      obtain ⟨u, hu⟩ : ∃ u : Nat, Hid (ps.length - 1 - k = u) := ⟨_, rfl⟩
      have e1 := hn.out
      have e2 := hu.out
      obtain ⟨p, hp⟩ : ∃ p, ps[u]? = some p := ⟨_, List.getElem?_eq_getElem (by omega)⟩
      obtain ⟨y, rfl, _, hcell⟩ := (HA.out.but hB.out (fun x hx => hne x hx (by omega))) u p hp
      have m1 : (n : Int) - 1 - (k : Int) = (u : Int) := by omega
      have m2 : (u : Int) < (n : Int) := by omega
      have m3 : (k : Int) < (m : Int) := by omega
      have hlen : k < (tv ps X k ++ Y).length := by rw [List.length_append, tv_len HX.out (by omega)]; have := HX.out; omega
      have t0 := hR.out.cell (List.getElem?_eq_getElem hlen)
      have f0 := hR.out.free hlen
      have R' := hR.out.set k p
      rw [tv_step HX.out (by omega) (by rw [e2]; exact hp)] at R'
      rw [svS p] at hcell R'
      have HR' := hid R'
      have HB' := hid (hB.out.trans (setCell_but5 wr g k (.string ⟨p.toArray⟩)))
      generalize (tv ps X k ++ Y)[k] = z at *
      clear R' hp hlen e1 e2 hR hB
      go_wp2
      exact ⟨⟨k + 1, by go_num, by omega, HR', HB'⟩, by simp [intOf]; omega⟩
    · obtain rfl : k = n := by omega
      have c0 : ¬ (k : Int) < (k : Int) := by omega
      have hR2 := hR.out
      rw [← hn.out, tv_all HX.out] at hR2
      have HR2 := hid hR2
      clear hR2
      go_wp2
      go_end0
      exact ⟨rfl, HR2.out, hB.out⟩
end Go.Proofs.YtmldibbbfmnckaaDoor
