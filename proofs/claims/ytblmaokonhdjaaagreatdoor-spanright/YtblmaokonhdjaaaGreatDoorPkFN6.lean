import Derived.Test.YtblmaokonhdjaaaGreatDoorPkFN3
import Derived.Laws.ResultCell
namespace Go.Proofs.YtblmaokonhdjaaaGreatDoor
open Go.RowKit
theorem Row.own {w : World} {g : Nat} {L : List (List UInt8)} (h : Row w g L) (hl : L.length ≤ 8796093021952) : Own w 0 (.slice (some ⟨g, 0, none⟩) L.length L.length) (svs L) := by
  refine .inr ⟨g, L.length, by rw [svs_length], Nat.zero_le _, by rw [svs_length]; exact Nat.le_refl _, by rw [maxLen]; omega, rangeAt_of_list h (fun j v hv => by rw [Nat.zero_add]; exact hv), there_of_row h 0 _ (by simp [svs]), h.lt⟩
/-- blocks of F alone were touched; F' has what is new besides -/
structure Mov (F : Nat → Prop) (w w' : World) (F' : Nat → Prop) : Prop where
  keep : Keep F w w'
  new : ∀ k, F' k → F k ∨ w.heap.size ≤ k
/-- F1: what Load answers beside an edge -/
def ldE (n : Int) (l : List (List UInt8)) : Int := if 0 ≤ n ∧ n ≤ 1099511627776 then (if l.length = (Cut.cut 0 n.toNat).length then (if hsB l = true then 0 else 52) else 50) else 1
end Go.Proofs.YtblmaokonhdjaaaGreatDoor

namespace Go.Proofs.YtblmaokonhdjaaaGreatDoor
open Go.RowKit
theorem results_row_tmp {P : Program} {fn : Func} {p u : Tmp} {ty : TypeId} (h : fn.results = #[.cell p ty, .tmp u]) (tmps : Array Value) (w : World) (g : Nat) (t : TypeId) (cs : Array Value) (fr : Nat × Nat) (d : TypeDesc)
    (hp : tmps.getD p undef = .pointer (some ⟨g, 0, none⟩)) (hg : w.heap[g]? = some (.cells cs t fr))
    (hu : P.underlying ty = some d) (hd : (match d with | .struct _ | .array _ _ => true | _ => false) = true) (hi : (P.info? ty).map (·.size) = some cs.size) :
    (results fn tmps).run P w = .ok (.tuple #[.agg cs, tmps.getD u undef]) w := by
  rw [results_cell_tmp h, hp]
  simp [asAddr, run_loadVar_row w g t ty cs fr d hg hu hd hi, Result.andThen]
/-- nothing: beside an error -/
abbrev rng0 : Value := .agg #[.int .i64 0, .int .i64 0, .slice none 0 0]
/-- F3 -/
def cmpE (from_ : Int) (l : List (List UInt8)) : Int := if 0 ≤ from_ ∧ from_ ≤ 1099511627776 ∧ l.length ≤ 4096 then (if from_ + (l.length : Int) ≤ 1099511627776 then (if hsB l = true then 0 else 52) else 53) else 1
/-- what a call that makes a range answers: an error, or a range whose list is its own -/
def RgP (w : World) (c b e : Int) (H : List (List UInt8)) (r : Ending) (w' : World) : Prop :=
  Below w.heap.size w w' ∧ if c = 0 then ∃ v, r = .returned (.tuple #[rng b e v, .int .i64 0]) ∧ Own w' w.heap.size v (svs H) else r = .returned (.tuple #[rng0, .int .i64 c])
theorem RgP.bad {w w' : World} {c b e : Int} {H : List (List UInt8)} (hc : c ≠ 0) (hb : Below w.heap.size w w') : RgP w c b e H (.returned (.tuple #[rng0, .int .i64 c])) w' := by
  unfold RgP
  rw [if_neg hc]
  exact ⟨hb, rfl⟩
theorem RgP.ok {w w' : World} {b e : Int} {H : List (List UInt8)} {v : Value} (ho : Own w' w.heap.size v (svs H)) (hb : Below w.heap.size w w') : RgP w 0 b e H (.returned (.tuple #[rng b e v, .int .i64 0])) w' := by
  unfold RgP
  rw [if_pos rfl]
  exact ⟨hb, v, rfl, ho⟩
theorem Keep.toBelow {S : Nat → Prop} {w w' : World} {B : Nat} (h : Keep S w w') (hB : B ≤ w.heap.size) (hS : ∀ k, S k → B ≤ k) : Below B w w' :=
  ⟨h.os, h.tape, h.output, h.size, fun k hk => h.block k (by omega) fun e => by have := hS k e; omega⟩
theorem oneRg (b e : Int) (a : Option Addr) (n c : Nat) : (#[Value.int .i64 b, Value.int .i64 e, Value.slice a n c].all (·.oneCell')) = true := all_oneCell_toArray (cs := [Value.int .i64 b, Value.int .i64 e, Value.slice a n c]) fun v hv => by
  simp only [List.mem_cons, List.not_mem_nil, or_false] at hv
  rcases hv with rfl | rfl | rfl <;> rfl
theorem Own.from {w : World} {b0 B : Nat} {v : Value} {cs : List Value} (h : Own w b0 v cs) (hB : ∀ k, v.ownBlock = some k → B ≤ k) : Own w B v cs := by
  rcases h with h | ⟨g, cap, rfl, h1, h2⟩
  · exact .inl h
  · exact .inr ⟨g, cap, rfl, hB g rfl, h2⟩
/-- a list and a span, while the one grows with the other -/
structure Cj (w0 w' : World) (O : Nat → Prop) (q s a e : Nat) (v : Value) (H : List (List UInt8)) : Prop where
  nl : Nl w' q #[v] 166 v H
  sp : Sp w' s a e
  own : ∀ k, v.ownBlock = some k → O k
  keep : Keep (fun k => k = q ∨ k = s ∨ O k) w0 w'
/-- what the blocks are like -/
structure Co (w0 : World) (O : Nat → Prop) (q s : Nat) : Prop where
  up : ∀ k, w0.heap.size ≤ k → O k
  nq : ¬ O q
  ns : ¬ O s
  ne : q ≠ s
  tl : ∀ k, O k → 5 ≤ k
  tq : 5 ≤ q
  ts : 5 ≤ s
  tabs : Tabs w0
theorem Cj.tabs {w0 w' : World} {O : Nat → Prop} {q s a e : Nat} {v : Value} {H : List (List UInt8)} (h : Cj w0 w' O q s a e v H) (c : Co w0 O q s) : Tabs w' := by
  have ht := c.tabs.lt
  have h1 := c.tq
  have h2 := c.ts
  exact c.tabs.below (B := 5) (h.keep.toBelow ht fun k hk => by
    rcases hk with e | e | e
    · omega
    · omega
    · exact c.tl k e) (Nat.le_refl _)
theorem Cj.taken {w0 w1 w2 : World} {O : Nat → Prop} {q s a e e' : Nat} {v v' : Value} {H H' : List (List UInt8)} (h : Cj w0 w1 O q s a e v H) (c : Co w0 O q s) (hn : Nl w2 q #[v'] 166 v' H') (hk : Keep (Fp q v) w1 w2) (hv : ∀ j, v'.ownBlock = some j → v.ownBlock = some j ∨ w1.heap.size ≤ j) :
    Sp w2 s a e ∧ Cj w0 (w2.setCell ⟨s, 1, none⟩ (.int .i64 (e' : Int))) O q s a e' v' H' := by
  have hsv : ∀ k, Fp q v k → k ≠ s := fun k hk e => by
    rcases hk with hk | hk
    · exact c.ne (hk.symm.trans e)
    · exact c.ns (e ▸ h.own k hk)
  have hs2 : Sp w2 s a e := (hk.block s (lt_of_heap h.sp) fun e => hsv s e rfl).trans h.sp
  have hO : ∀ k, v'.ownBlock = some k → O k := fun k hk' => by
    rcases hv k hk' with e | e
    · exact h.own k e
    · exact c.up k (Nat.le_trans h.keep.size e)
  have kset := Keep.ofSet (S := fun k => k = s) w2 s 1 (.int .i64 (e' : Int)) rfl
  refine ⟨hs2, ⟨hn.keep kset fun k hk' e => ?_, hs2.set1 e', hO, ?_⟩⟩
  · rcases hk' with hk' | hk'
    · exact c.ne (hk'.symm.trans e)
    · exact c.ns (e ▸ hO k hk')
  · refine (h.keep.trans hk fun k hk0 e => ?_).trans kset fun k _ e => .inr (.inl e)
    rcases e with e | e
    · exact .inl e
    · exact .inr (.inr (h.own k e))
theorem lh_take {l : List (List UInt8)} {j : Nat} (h : j < l.length) : l.take j ++ [l[j]] = l.take (j + 1) := by rw [List.take_append_getElem]
set_option maxRecDepth 100000 in
set_option maxHeartbeats 4000000 in
theorem Compact_any (fr : Int) (l : List (List UInt8)) (a : Option Addr) (cap : Nat) (w : World) (h1 : -9223372036854775808 ≤ fr) (h2 : fr ≤ 9223372036854775807) (hl : l.length ≤ 9223372036854775807) (hA : At w a l) (T : Tabs w) :
    Calls Tryz.prog 56 #[.int .i64 fr, .slice a l.length cap] w (RgP w (cmpE fr l) fr (fr + l.length) (Cut.cmp l fr.toNat)) := by
  have BZ := hid ((Below.refl w.heap.size w).alloc (Nat.le_refl _) (.cells #[Value.int .i64 0, .int .i64 0, .slice none 0 0] 114))
  have RZ := hid (heap_alloc_new w (.cells #[Value.int .i64 0, .int .i64 0, .slice none 0 0] 114))
  by_cases c1 : 0 ≤ fr ∧ fr ≤ 1099511627776
  · have i1 := isPlace_is fr true (by simpa using c1)
    by_cases c2 : l.length ≤ 4096
    · have d2 : ¬ (4096 : Int) < (l.length : Int) := by omega
      by_cases c3 : fr + (l.length : Int) ≤ 1099511627776
      · have d3 : ¬ (1099511627776 : Int) < fr + (l.length : Int) := by omega
        by_cases c4 : hsB l = true
        · have e0 : cmpE fr l = 0 := by unfold cmpE; rw [if_pos ⟨c1.1, c1.2, c2⟩, if_pos c3, if_pos c4]
          rw [e0]
          have i2 := fun w' hA' => areHashes_is l true c4 a cap w' hl hA'
          obtain ⟨b, rfl⟩ := Int.eq_ofNat_of_zero_le c1.1
          rw [Int.toNat_natCast]
          have HA := hid hA
          have HT := hid T
          have hT := T.lt
          have C4 := hid c4
          obtain ⟨n, hn⟩ : ∃ n : Nat, Hid (l.length = n) := ⟨_, rfl⟩
          rw [hn.out] at i2 hl c2 c3 d2 d3 ⊢
          clear e0 hA T c4 h1 h2
          go_enter Tryz.func56, Tryz.ntmps56
          go_wp2_with (first
            | (go_at_call 94; refine (i1 _).mono ?_; rintro r w1 ⟨rfl, rfl⟩)
            | (go_at_call 95; refine (i2 _ (HA.out.below BZ.out (Nat.le_refl _))).mono ?_; rintro r w2 ⟨rfl, rfl⟩))
          have w0e : ∃ w0, ((w.alloc (.cells #[Value.int .i64 0, .int .i64 0, .slice none 0 0] 114)).alloc (.cells #[Value.slice none 0 0] 166)).alloc (.cells #[Value.int .i64 (b : Int), Value.int .i64 (b : Int)] 50) = w0 := ⟨_, rfl⟩
          obtain ⟨w0, hw0⟩ := w0e
          obtain ⟨r0, r1, r2, r3⟩ := alloc3 w (.cells #[Value.int .i64 0, .int .i64 0, .slice none 0 0] 114) (.cells #[Value.slice none 0 0] 166) (.cells #[Value.int .i64 (b : Int), Value.int .i64 (b : Int)] 50)
          have B0 := below_alloc3 w (.cells #[Value.int .i64 0, .int .i64 0, .slice none 0 0] 114) (.cells #[Value.slice none 0 0] 166) (.cells #[Value.int .i64 (b : Int), Value.int .i64 (b : Int)] 50)
          rw [hw0] at r0 r1 r2 r3 B0 ⊢
          have hc : Hid (Co w0 (fun k => w0.heap.size ≤ k) (w.heap.size + 1) (w.heap.size + 1 + 1)) := ⟨fun _ h => h, by omega, by omega, by omega, fun k hk => by omega, by omega, by omega, HT.out.below B0 hT⟩
          have hc0 : Hid (Cj w0 w0 (fun k => w0.heap.size ≤ k) (w.heap.size + 1) (w.heap.size + 1 + 1) b (b + 0) (.slice none 0 0) (Cut.cmp (l.take 0) b)) := by
            refine ⟨⟨r1, rfl, ?_, fun e => by cases e⟩, r2, fun _ hk => (by cases hk), Keep.refl _ _⟩
            rw [List.take_zero, Cut.cmp_nil]
            exact Own.nil _ _
          have HR0 := hid r0
          have HB0 := hid B0
          have hsz0 := hid r3
          clear r0 r1 r2 B0 hw0 BZ RZ i1 i2 d2 d3
          go_loopw [37] (fun i w' => ∃ (j : Nat) (v : Value), i = .int .i64 (j : Int) ∧ j ≤ n ∧ Hid (Cj w0 w' (fun k => w0.heap.size ≤ k) (w.heap.size + 1) (w.heap.size + 1 + 1) b (b + j) v (Cut.cmp (l.take j) b))) (fun i _ => n - (intOf i).toNat)
          case atStart => exact ⟨0, _, rfl, by omega, hc0⟩
          case round =>
            clear hc0
            obtain ⟨j, v, rfl, hj, hC⟩ := hrel
            have s0 := hC.out.sp.c0
            have s1 := hC.out.sp.c1
            have f1 := hC.out.sp.f1
            by_cases hjn : j < n
            · have q0 : (j : Int) < (n : Int) := by omega
              have A5 := HA.out.below (HB0.out.trans (hC.out.keep.toBelow (B := w.heap.size) HB0.out.size (fun k hk => by rcases hk with e | e | e <;> omega))) (Nat.le_refl _)
              obtain ⟨y, rfl⟩ := A5.pos (by have := hn.out; omega)
              obtain ⟨x, hx, hcell⟩ := A5.cell j (by have := hn.out; omega)
              have i3 := take_any (w.heap.size + 1) b (b + j) 0 _ _ _ _ x.data.toList _ hC.out.nl (hC.out.tabs hc.out) (by omega) (fun k hk => hc.out.tl k (hC.out.own k hk)) (by have : (2 : Nat) ^ 0 = 1 := rfl; omega) (by omega) (Nat.mod_one _) (by rw [Cut.cmp_length, List.length_take, hn.out, Nat.min_eq_left hj])
              have e3 : Cut.takeH b (b + j) (2 ^ 0) x.data.toList (Cut.cmp (l.take j) b) = Cut.cmp (l.take (j + 1)) b := by
                have hlj : (l.take j).length = j := by rw [List.length_take, hn.out, Nat.min_eq_left hj]
                have := Cut.cmp_snoc (L := l.take j) (a := b) (x := x.data.toList) (by rw [hlj]; omega)
                rw [hlj] at this
                rw [show (2 : Nat) ^ 0 = 1 from rfl, this, hx.out, List.take_append_getElem]
              rw [e3, show sv x.data.toList = .string x from by cases x; rfl] at i3
              clear A5 hx e3
              go_wp2_with (first
                | ((with_reducible show wpList _ _ _ (Oper.mk _ (Op.load 50 _) _ _ _ _ :: _) _ _); go_must (refine wpList_load_row rfl 50 _ rfl (w.heap.size + 1 + 1) rfl 50 _ (0, 0) _ hC.out.sp.row Tryz.underlying50 rfl (sizeSp' _ _) ?_))
                | (go_at_call 96; refine i3.mono ?_; rintro r w2 ⟨rfl, v', hL2, hK2, hv2⟩; obtain ⟨S2, C2⟩ := hC.out.taken (e' := b + j + 1) hc.out hL2 hK2 hv2; have t1 := S2.c1; have g1 := S2.f1))
              exact ⟨⟨j + 1, v', by go_num, by omega, C2⟩, by simp [intOf]; omega⟩
            · obtain rfl : j = n := by omega
              have q0 : ¬ (j : Int) < (j : Int) := by omega
              have hl0 := hC.out.nl.c0
              obtain ⟨va, vn, vc, rfl⟩ := own_sl hC.out.nl.own
              have HR5 : wr.heap[w.heap.size]? = some (.cells #[Value.int .i64 0, .int .i64 0, .slice none 0 0] 114 (0, 0)) := (hC.out.keep.block w.heap.size (by have := hsz0.out; omega) (fun e => by have := hsz0.out; rcases e with e | e | e <;> omega)).trans HR0.out
              have hlt : l.take j = l := by rw [← hn.out, List.take_length]
              have hsz := hsz0.out
              go_wp2_with ((with_reducible show wpList _ _ _ (Oper.mk _ (Op.store 114 _ _) _ _ _ _ :: _) _ _); go_must (refine wpList_store_row rfl 114 _ _ rfl w.heap.size _ rfl rfl 114 _ HR5 (sizeRg' _ _ _) rfl (oneRg _ _ _ _ _) ?_))
              refine bodyPost_ret (results_row_tmp rfl _ _ w.heap.size 114 _ (0, 0) _ rfl (setRow_heap _ _ _ _ _ _ HR5) Tryz.underlying114 rfl sizeRg) rfl ?_
              have ho := hC.out.nl.own
              rw [hlt] at ho
              refine RgP.ok ?_ ?_
              · have k1 : Keep (fun k => k = w.heap.size) wr (wr.setRow w.heap.size #[.int .i64 (b : Int), .int .i64 ((b + j : Nat) : Int), .slice va vn vc]) := ⟨rfl, rfl, rfl, by rw [setRow_size]; exact Nat.le_refl _, fun k _ hk => setRow_other wr _ k _ hk⟩
                refine (ho.from (B := w.heap.size) fun k hk => ?_).keep k1 fun k hk e => ?_
                · have : w0.heap.size ≤ k := hC.out.own k hk
                  omega
                · have : w0.heap.size ≤ k := hC.out.own k hk
                  omega
              · refine Below.setRow (HB0.out.trans (hC.out.keep.toBelow (B := w.heap.size) HB0.out.size (fun k hk => ?_))) (Nat.le_refl _) _
                rcases hk with e | e | e
                · omega
                · omega
                · have : w0.heap.size ≤ k := e
                  omega
        · have e0 : cmpE fr l = 52 := by unfold cmpE; rw [if_pos ⟨c1.1, c1.2, c2⟩, if_pos c3, if_neg c4]
          rw [e0]
          have i2 := fun w' hA' => areHashes_is l false (by simpa using c4) a cap w' hl hA'
          have HA := hid hA
          generalize l.length = n at *
          clear e0 hA T c4
          go_enter Tryz.func56, Tryz.ntmps56
          go_wp2_with (first
            | (go_at_call 94; refine (i1 _).mono ?_; rintro r w1 ⟨rfl, rfl⟩)
            | (go_at_call 95; refine (i2 _ (HA.out.below BZ.out (Nat.le_refl _))).mono ?_; rintro r w2 ⟨rfl, rfl⟩))
          refine bodyPost_ret (results_row_tmp rfl _ _ w.heap.size 114 _ (0, 0) _ rfl RZ.out Tryz.underlying114 rfl sizeRg) rfl ?_
          exact RgP.bad (by omega) BZ.out
      · have d3 : (1099511627776 : Int) < fr + (l.length : Int) := by omega
        have e0 : cmpE fr l = 53 := by unfold cmpE; rw [if_pos ⟨c1.1, c1.2, c2⟩, if_neg c3]
        rw [e0]
        generalize l.length = n at *
        clear e0 hA T
        go_enter Tryz.func56, Tryz.ntmps56
        go_wp2_with (go_at_call 94; refine (i1 _).mono ?_; rintro r w1 ⟨rfl, rfl⟩)
        refine bodyPost_ret (results_row_tmp rfl _ _ w.heap.size 114 _ (0, 0) _ rfl RZ.out Tryz.underlying114 rfl sizeRg) rfl ?_
        exact RgP.bad (by omega) BZ.out
    · have d2 : (4096 : Int) < (l.length : Int) := by omega
      have e0 : cmpE fr l = 1 := by unfold cmpE; rw [if_neg (fun h => c2 h.2.2)]
      rw [e0]
      generalize l.length = n at *
      clear e0 hA T
      go_enter Tryz.func56, Tryz.ntmps56
      go_wp2_with (go_at_call 94; refine (i1 _).mono ?_; rintro r w1 ⟨rfl, rfl⟩)
      refine bodyPost_ret (results_row_tmp rfl _ _ w.heap.size 114 _ (0, 0) _ rfl RZ.out Tryz.underlying114 rfl sizeRg) rfl ?_
      exact RgP.bad (by omega) BZ.out
  · have i1 := isPlace_is fr false (by simpa using c1)
    have e0 : cmpE fr l = 1 := by unfold cmpE; rw [if_neg (fun h => c1 ⟨h.1, h.2.1⟩)]
    rw [e0]
    generalize l.length = n at *
    clear e0 hA T
    go_enter Tryz.func56, Tryz.ntmps56
    go_wp2_with (go_at_call 94; refine (i1 _).mono ?_; rintro r w1 ⟨rfl, rfl⟩)
    refine bodyPost_ret (results_row_tmp rfl _ _ w.heap.size 114 _ (0, 0) _ rfl RZ.out Tryz.underlying114 rfl sizeRg) rfl ?_
    exact RgP.bad (by omega) BZ.out
end Go.Proofs.YtblmaokonhdjaaaGreatDoor
