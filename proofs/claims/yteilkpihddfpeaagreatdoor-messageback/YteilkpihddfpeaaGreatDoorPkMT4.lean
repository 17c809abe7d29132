import Derived.Test.YteilkpihddfpeaaGreatDoorPkMV8
import Derived.Test.YteilkpihddfpeaaGreatDoorPkMG0
import Derived.Laws.ResultCell
namespace Go.Proofs.YteilkpihddfpeaaGreatDoor
open Go.RowKit Cod
namespace Msg

theorem payT_any {w : World} {B b c d : Nat} {s : TS} (h : Ra w B b c d ((Ask.zero, []), s) (.slice none 0 0) (.slice none 0 0) (.slice none 0 0)) (hB : B ≤ w.heap.size) (lo hi : Int) (h1 : 1 ≤ lo) (h2 : hi ≤ 12) (da : TS → List Ask × TS) (hA : wi ((tMark lo hi s).1 : Int) lo hi = true → ∀ g ∈ flds (tMark lo hi s).1, RC B b c d da g) :
    Calls Tryz.prog 35 #[.pointer (some ⟨d, 0, none⟩), .int .i64 lo, .int .i64 hi] w fun e w' => e = .returned (.tuple #[]) ∧ RPost w B b c d (tReq da lo hi s) w' := by
  cases hw : wi ((tMark lo hi s).1 : Int) lo hi with
  | false => exact payT_no h hB lo hi hw da
  | true => exact payT_yes h hB lo hi hw h1 h2 da (hA hw)
theorem sizeRq : (Tryz.prog.info? 40).map (·.size) = some 7 := by kernel_rfl
theorem sizeRq' (a b c d e f g : Value) : (Tryz.prog.info? 40).map (·.size) = some #[a, b, c, d, e, f, g].size := sizeRq
theorem oneRq (b1 b2 b3 b4 : Int) (a1 a2 a3 : Option Addr) (n1 n2 n3 c1 c2 c3 : Nat) : (#[Value.int .i64 b1, .int .i64 b2, .int .i64 b3, .int .i64 b4, .slice a1 n1 c1, .slice a2 n2 c2, .slice a3 n3 c3].all (·.oneCell')) = true := all_oneCell_toArray (cs := [Value.int .i64 b1, .int .i64 b2, .int .i64 b3, .int .i64 b4, .slice a1 n1 c1, .slice a2 n2 c2, .slice a3 n3 c3]) fun v hv => by
  simp only [List.mem_cons, List.not_mem_nil, or_false] at hv
  rcases hv with rfl | rfl | rfl | rfl | rfl | rfl | rfl <;> rfl
theorem El.lower {w : World} {lo lo' hi g j : Nat} {x : Ask} (h : El w lo hi g j x) (hb : lo' ≤ lo) : El w lo' hi g j x := by
  obtain ⟨ul, ue, ua, c0, c1, c2, c3, c4, c5, c6, n1, n2, s1, s2, s3⟩ := h
  exact ⟨ul, ue, ua, c0, c1, c2, c3, c4, c5, c6, n1.mono hb (Nat.le_refl _), n2.mono hb (Nat.le_refl _), s1, s2, s3⟩
theorem As.lower {w : World} {lo lo' hi : Nat} {u : Value} {l : List Ask} (h : As w lo hi u l) (hb : lo' ≤ lo) : As w lo' hi u l := by
  rcases h with h | ⟨g, cap, rfl, h1, h2, h3, h4⟩
  · exact .inl h
  · exact .inr ⟨g, cap, rfl, by omega, h2, h3, fun j x hx => (h4 j x hx).lower hb⟩
/-- what taking a request answers -/
def QPost (w : World) (b c : Nat) (p : PT) (e : Ending) (w' : World) : Prop :=
  ∃ ul ue ua, e = .returned (akV p.1.1 ul ue ua) ∧ SlcI w' ul p.1.1.list ∧ Nw w.heap.size w'.heap.size ul ∧ Slc w' ue p.1.1.ent ∧ Nw w.heap.size w'.heap.size ue ∧ As w' w.heap.size w'.heap.size ua p.1.2 ∧ p.1.1.n = p.1.2.length ∧ Tk w' b c p.2 ∧ Keep (BC b c) w w'
set_option maxRecDepth 100000 in
set_option maxHeartbeats 4000000 in
theorem reqT_any {w : World} {b c : Nat} {s : TS} (h : Tk w b c s) (lo hi : Int) (h1 : 1 ≤ lo) (h2 : hi ≤ 12) (da : TS → List Ask × TS) (hA : ∀ B d, wi ((tMark lo hi s).1 : Int) lo hi = true → ∀ g ∈ flds (tMark lo hi s).1, RC B b c d da g) :
    Calls Tryz.prog 28 #[.pointer (some ⟨c, 0, none⟩), .int .i64 lo, .int .i64 hi] w (QPost w b c (tReq da lo hi s)) := by
  obtain ⟨o1, ho1⟩ : ∃ o1, Hid (Obj.cells #[.int .i64 0, .int .i64 0, .int .i64 0, .int .i64 0, .slice none 0 0, .slice none 0 0, .slice none 0 0] 40 = o1) := ⟨_, rfl⟩
  obtain ⟨o2, ho2⟩ : ∃ o2, Hid (Obj.cells (aqArr (tak c) Ask.zero (.slice none 0 0) (.slice none 0 0) (.slice none 0 0) Ask.zero (.slice none 0 0) (.slice none 0 0) (.slice none 0 0)) 85 = o2) := ⟨_, rfl⟩
  have z1 := size_alloc w o1
  have z2 := size_alloc (w.alloc o1) o2
  have bW : Below w.heap.size w ((w.alloc o1).alloc o2) := ((Below.refl _ _).alloc (Nat.le_refl _) _).alloc (by omega) _
  have hcl := h.lt
  have hbl := h.rd.lt
  have hQ : Ra ((w.alloc o1).alloc o2) (w.heap.size + 2) b c (w.heap.size + 1) ((Ask.zero, []), s) (.slice none 0 0) (.slice none 0 0) (.slice none 0 0) :=
    ⟨h.below bW, by rw [← ho2.out]; exact heap_alloc_at _ _ _ z1, by omega, by omega, by omega, by omega, by omega, nilI _, Nw.nil _ _, nilT _, Nw.nil _ _, .inl ⟨rfl, rfl⟩, rfl⟩
  have i1 := payT_any hQ (by omega) lo hi h1 h2 da (hA _ _)
  have r0 : ((w.alloc o1).alloc o2).heap[w.heap.size]? = some (.cells #[.int .i64 0, .int .i64 0, .int .i64 0, .int .i64 0, .slice none 0 0, .slice none 0 0, .slice none 0 0] 40 (0, 0)) := by
    rw [alloc_lt (by omega), ← ho1.out]; exact heap_alloc_new _ _
  have R0 := hid r0
  have BW := hid bW
  have HZ : Hid (((w.alloc o1).alloc o2).heap.size = w.heap.size + 2) := by show _ = _; omega
  rw [← ho1.out, ← ho2.out] at i1 R0 BW HZ
  simp only [tak, aqArr, Ask.zero] at i1
  generalize tReq da lo hi s = p at *
  clear h hQ hA bW h1 h2 z1 z2 r0
  go_enter Tryz.func28, Tryz.ntmps28
  go_wp2_with (go_at_call 35; fail)
  go_at_call 35
  refine i1.mono ?_
  rintro e w2 ⟨rfl, tl, te, ta, q1, q2⟩
  simp only [tak, aqArr, Ask.zero] at R0 BW HZ
  have r2 := (q2.block w.heap.size (by have := HZ.out; omega) (fun e => by rcases e with e | e | e <;> omega)).trans R0.out
  obtain ⟨p1, n1, rfl, _⟩ := id q1.s1
  obtain ⟨p2, n2, rfl, _⟩ := id q1.s2
  obtain ⟨p3, n3, rfl⟩ := q1.s3.shape
  have d0 : w2.cell? ⟨w.heap.size + 1, 8, none⟩ = some (.int .i64 p.1.1.kind) := by rw [cell_of_row _ _ _ _ _ _ q1.row]; rfl
  have d1 : w2.cell? ⟨w.heap.size + 1, 9, none⟩ = some (.int .i64 p.1.1.a) := by rw [cell_of_row _ _ _ _ _ _ q1.row]; rfl
  have d2 : w2.cell? ⟨w.heap.size + 1, 10, none⟩ = some (.int .i64 p.1.1.b) := by rw [cell_of_row _ _ _ _ _ _ q1.row]; rfl
  have d3 : w2.cell? ⟨w.heap.size + 1, 11, none⟩ = some (.int .i64 p.1.1.size) := by rw [cell_of_row _ _ _ _ _ _ q1.row]; rfl
  have d4 : w2.cell? ⟨w.heap.size + 1, 12, none⟩ = some (.slice p1 p.1.1.list.length n1) := by rw [cell_of_row _ _ _ _ _ _ q1.row]; rfl
  have d5 : w2.cell? ⟨w.heap.size + 1, 13, none⟩ = some (.slice p2 p.1.1.ent.length n2) := by rw [cell_of_row _ _ _ _ _ _ q1.row]; rfl
  have d6 : w2.cell? ⟨w.heap.size + 1, 14, none⟩ = some (.slice p3 p.1.2.length n3) := by rw [cell_of_row _ _ _ _ _ _ q1.row]; rfl
  have Q1 := hid q1
  have Q2 := hid q2
  have R2 := hid r2
  clear q1 q2 r2
  go_wp2_with ((with_reducible show wpList _ _ _ (Oper.mk _ (Op.store 40 _ _) _ _ _ _ :: _) _ _); go_must (refine wpList_store_row rfl 40 _ _ rfl w.heap.size _ rfl rfl 40 _ R2.out (sizeRq' _ _ _ _ _ _ _) rfl (oneRq _ _ _ _ _ _ _ _ _ _ _ _ _) ?_))
  refine bodyPost_ret (results_cell_row rfl _ _ w.heap.size 40 _ (0, 0) _ rfl (setRow_heap _ _ _ _ _ _ R2.out) Tryz.underlying40 rfl sizeRq) rfl ?_
  generalize hcs : #[Value.int .i64 p.1.1.kind, .int .i64 p.1.1.a, .int .i64 p.1.1.b, .int .i64 p.1.1.size, .slice p1 p.1.1.list.length n1, .slice p2 p.1.1.ent.length n2, .slice p3 p.1.2.length n3] = cs
  have k1 : Keep (fun k => k = w.heap.size) w2 (w2.setRow w.heap.size cs) := ⟨rfl, rfl, rfl, by rw [setRow_size]; exact Nat.le_refl _, fun k _ hk => setRow_other w2 _ k _ hk⟩
  have hS : ∀ k, w.heap.size + 2 ≤ k → k < w2.heap.size → ¬ k = w.heap.size := fun k k1 _ e => by omega
  have hle : w2.heap.size ≤ (w2.setRow w.heap.size cs).heap.size := k1.size
  refine ⟨.slice p1 p.1.1.list.length n1, .slice p2 p.1.1.ent.length n2, .slice p3 p.1.2.length n3, by rw [akV, hcs], Q1.out.n1.slcI Q1.out.s1 k1 hS, Q1.out.n1.mono (by omega) hle, Q1.out.n2.slc Q1.out.s2 k1 hS, Q1.out.n2.mono (by omega) hle, ((Q1.out.s3.keep k1 hS).mono' hle).lower (by omega), Q1.out.sn, Q1.out.tk.keep k1 (by omega) (by omega), ?_⟩
  refine ((Keep.ofBelow BW.out : Keep (BC b c) w _).trans Q2.out fun j hj e => ?_).trans k1 fun j hj e => ?_
  · rcases e with e | e | e
    · exact .inl e
    · exact .inr e
    · omega
  · omega
end Msg
end Go.Proofs.YteilkpihddfpeaaGreatDoor

namespace Go.Proofs.YteilkpihddfpeaaGreatDoor
open Go.RowKit Cod
namespace Msg

set_option maxRecDepth 100000 in
set_option maxHeartbeats 400000 in
theorem count_any {b c : Nat} {s : TS} (w : World) (h : Tk w b c s) :
    Calls Tryz.prog 110 #[.pointer (some ⟨c, 0, none⟩)] w fun e w' => e = .returned (.int .i64 ((tCount s).1 : Int)) ∧ Tk w' b c (tCount s).2 ∧ Keep (BC b c) w w' := by
  have c0 := h.c0
  have i1 := rNum_any b s.1 w h.rd
  have e1 : (tCount s).1 = if wi ((s.1.val 0 (rdNum s.1.rest) : Nat) : Int) 1 64 = true then s.1.val 0 (rdNum s.1.rest) else 0 := rfl
  have e2 : (tCount s).2 = (s.1.step (rdNum s.1.rest), s.2 || !wi ((s.1.val 0 (rdNum s.1.rest) : Nat) : Int) 1 64) := rfl
  rw [e1, e2]
  generalize s.1.val 0 (rdNum s.1.rest) = n at *
  have H := hid h
  clear h e1 e2
  cases hw : wi (n : Int) 1 64 with
  | false =>
    rw [if_neg (by exact Bool.false_ne_true)]
    go_enter Tryz.func110, Tryz.ntmps110
    go_wp2_with (first
      | (go_at_call 118; refine i1.mono ?_; rintro e w1 ⟨rfl, h1, h2⟩; have hT := H.out.read h1 h2 (pf_num.le); have i2 := within_any (n : Int) 1 64 w1; rw [hw] at i2; have i3 := finds_any false w1 hT; have H2 := hid h2; clear h1 h2 hT)
      | (go_at_call 15; refine i2.mono ?_; rintro e w' ⟨rfl, hw'⟩; rw [hw']; clear hw' w')
      | (go_at_call 119; refine i3.mono ?_; rintro e w2 ⟨rfl, h3, h4⟩; have H3 := hid h3; have H4 := hid (bc_both H2.out h4); clear h3 h4))
    go_ret
    exact ⟨rfl, H3.out, H4.out⟩
  | true =>
    rw [if_pos rfl]
    go_enter Tryz.func110, Tryz.ntmps110
    go_wp2_with (first
      | (go_at_call 118; refine i1.mono ?_; rintro e w1 ⟨rfl, h1, h2⟩; have hT := hid (H.out.read h1 h2 (pf_num.le)); have i2 := within_any (n : Int) 1 64 w1; rw [hw] at i2; have H2 := hid h2; clear h1 h2)
      | (go_at_call 15; refine i2.mono ?_; rintro e w' ⟨rfl, hw'⟩; rw [hw']; clear hw' w'))
    go_ret
    refine ⟨rfl, ?_, Keep.ofBut H2.out (.inl rfl)⟩
    rw [Bool.not_true, Bool.or_false]
    exact hT.out
/-- an element of the list while it is made -/
structure Em where
  x : Ask
  l : Value
  e : Value
  a : Value
def emc (m : Em) : List Value := [.int .i64 m.x.kind, .int .i64 m.x.a, .int .i64 m.x.b, .int .i64 m.x.size, m.l, m.e, m.a]
def emcs (E : List Em) : List Value := (E.map emc).flatten
theorem emcs_len : ∀ E : List Em, (emcs E).length = E.length * 7
  | [] => rfl
  | m :: E => by rw [emcs, List.map_cons, List.flatten_cons, List.length_append, ← emcs, emcs_len E, List.length_cons, Nat.add_mul]; simp [emc]; omega
theorem emcs_at : ∀ (E : List Em) (j : Nat) (m : Em) (i : Nat), E[j]? = some m → i < 7 → (emcs E)[j * 7 + i]? = (emc m)[i]?
  | [], j, m, i, h, _ => by simp at h
  | n :: E, 0, m, i, h, hi => by
    obtain rfl := Option.some.inj (by simpa using h)
    rw [emcs, List.map_cons, List.flatten_cons, List.getElem?_append_left (by simp [emc]; omega)]
    simp
  | n :: E, j + 1, m, i, h, hi => by
    rw [emcs, List.map_cons, List.flatten_cons, List.getElem?_append_right (by simp [emc]; omega), ← emcs]
    rw [show (j + 1) * 7 + i - (emc n).length = j * 7 + i from by simp [emc]; omega]
    exact emcs_at E j m i (by simpa using h) hi
theorem emcs_snoc (E : List Em) (m : Em) : emcs (E ++ [m]) = emcs E ++ emc m := by simp [emcs]
/-- what stands in it -/
structure EmI (w : World) (lo : Nat) (v : Value) (m : Em) : Prop where
  s1 : SlcI w m.l m.x.list
  s2 : Slc w m.e m.x.ent
  s3 : ∃ p q, m.a = .slice p m.x.n q
  n1 : Nw lo w.heap.size m.l
  n2 : Nw lo w.heap.size m.e
  a1 : Apart m.l (OwnS v)
  a2 : Apart m.e (OwnS v)
structure Gl (w : World) (lo : Nat) (v : Value) (E : List Em) : Prop where
  own : OwnM 7 w v E.length (emcs E)
  ge : ∀ k, v.ownBlock = some k → lo ≤ k
  el : ∀ m ∈ E, EmI w lo v m
theorem Gl.nil (w : World) (lo : Nat) : Gl w lo (.slice none 0 0) [] := ⟨OwnM.nil 7 w, fun k hk => (by cases hk), fun m hm => (by cases hm)⟩
theorem Gl.keep {S : Nat → Prop} {w w' : World} {lo : Nat} {v : Value} {E : List Em} (h : Gl w lo v E) (hb : Keep S w w') (hS : ∀ k, lo ≤ k → ¬ S k) : Gl w' lo v E :=
  ⟨h.own.keep hb (fun k hk => hS k (h.ge k hk)), h.ge, fun m hm => by
    have g := h.el m hm
    exact ⟨g.n1.slcI g.s1 hb (fun k k1 _ => hS k k1), g.n2.slc g.s2 hb (fun k k1 _ => hS k k1), g.s3, g.n1.mono (Nat.le_refl _) hb.size, g.n2.mono (Nat.le_refl _) hb.size, g.a1, g.a2⟩⟩
theorem Gl.as {w : World} {lo : Nat} {v : Value} {E : List Em} (h : Gl w lo v E) : As w lo w.heap.size v (E.map (·.x)) := by
  have h0 := h.own
  rcases h.own with ⟨rfl, hE, _⟩ | ⟨g, cap, rfl, h1, h2, h3, h4, h5, h6⟩
  · have : E = [] := List.length_eq_zero_iff.1 hE
    subst this
    exact .inl ⟨rfl, rfl⟩
  · refine .inr ⟨g, cap, by rw [List.length_map], h.ge g rfl, h6, h6, fun j x hx => ?_⟩
    rw [List.getElem?_map] at hx
    cases hm : E[j]? with
    | none => rw [hm] at hx; cases hx
    | some m =>
      rw [hm] at hx
      obtain rfl := Option.some.inj hx
      have gm := h.el m (List.mem_of_getElem? hm)
      have key : ∀ i u, i < 7 → (emc m)[i]? = some u → w.cell? ⟨g, j * 7 + i, none⟩ = some u := fun i u hi hu => by
        have := h4 (j * 7 + i) u (by rw [emcs_at E j m i hm hi]; exact hu)
        rwa [Nat.zero_add] at this
      exact ⟨m.l, m.e, m.a, key 0 _ (by omega) rfl, key 1 _ (by omega) rfl, key 2 _ (by omega) rfl, key 3 _ (by omega) rfl, key 4 _ (by omega) rfl, key 5 _ (by omega) rfl, key 6 _ (by omega) rfl, gm.n1, gm.n2, gm.s1, gm.s2, gm.s3⟩
theorem infoRq : (Tryz.prog.info? 40).map (fun i => (i.zero, i.size, i.bytes)) = some (some (.agg #[.int .i64 0, .int .i64 0, .int .i64 0, .int .i64 0, .slice none 0 0, .slice none 0 0, .slice none 0 0]), 7, 104) := by kernel_rfl
/-- append of one -/
theorem Gl.push {w : World} {lo : Nat} {v : Value} {E : List Em} (h : Gl w lo v E) (hlo : lo ≤ w.heap.size) (hE : E.length ≤ 2000000) (m : Em) (hm : SlcI w m.l m.x.list ∧ Slc w m.e m.x.ent ∧ (∃ p q, m.a = .slice p m.x.n q) ∧ Nw lo w.heap.size m.l ∧ Nw lo w.heap.size m.e) (ha1 : Apart m.l (OwnS v)) (ha2 : Apart m.e (OwnS v)) :
    ∃ v' w', (Builtin.append_ #[36, 36] 36 #[v, .slice (some ⟨w.heap.size, 0, none⟩) 1 1]).run Tryz.prog (w.alloc (.cells (emc m).toArray 40)) = .ok v' w' ∧ Gl w' lo v' (E ++ [m]) ∧ Keep (OwnS v) w w' := by
  obtain ⟨p1, q1, e1, _⟩ := id hm.1
  obtain ⟨p2, q2, e2, _⟩ := id hm.2.1
  obtain ⟨p3, q3, e3⟩ := id hm.2.2.1
  obtain ⟨v', w', r1, r2, r3⟩ := append_oneM 36 40 (.agg #[.int .i64 0, .int .i64 0, .int .i64 0, .int .i64 0, .slice none 0 0, .slice none 0 0, .slice none 0 0]) 104 (by omega) (by kernel_rfl) infoRq rfl w v E.length (emcs E) (emc m) rfl (fun u hu => by
    simp only [emc, List.mem_cons, List.not_mem_nil, or_false] at hu
    rcases hu with rfl | rfl | rfl | rfl | rfl | rfl | rfl
    · rfl
    · rfl
    · rfl
    · rfl
    · rw [e1]; rfl
    · rw [e2]; rfl
    · rw [e3]; rfl) h.own hE
  have kp : Keep (OwnS v) w w' := r3.keepG
  have hlt := h.own.lt
  -- lists stay
  have keepI : ∀ (u : Value) (ps : List Int), SlcI w u ps → Apart u (OwnS v) → SlcI w' u ps := fun u ps hs ha => hs.keep kp ha
  have keepT : ∀ (u : Value) (ps : List (List UInt8)), Slc w u ps → Apart u (OwnS v) → Slc w' u ps := fun u ps hs ha => hs.keep kp ha
  have apv : ∀ u, Nw lo w.heap.size u → Apart u (OwnS v) → Apart u (OwnS v') := fun u hn ha x n c e h0 hk => by
    rcases r3.alt with g | ⟨g, _⟩
    · exact ha x n c e h0 (by show v.ownBlock = _; rw [← g]; exact hk)
    · have := g _ hk
      have := (hn x n c e).2
      omega
  refine ⟨v', w', r1, ⟨by rw [List.length_append, emcs_snoc]; exact r2, fun k hk => ?_, fun m' hm' => ?_⟩, kp⟩
  · rcases r3.alt with g | ⟨g, _⟩
    · exact h.ge k (by rw [← g]; exact hk)
    · have := g k hk; omega
  · rcases List.mem_append.1 hm' with hm' | hm'
    · have g := h.el m' hm'
      exact ⟨keepI _ _ g.s1 g.a1, keepT _ _ g.s2 g.a2, g.s3, g.n1.mono (Nat.le_refl _) kp.size, g.n2.mono (Nat.le_refl _) kp.size, apv _ g.n1 g.a1, apv _ g.n2 g.a2⟩
    · rw [List.mem_singleton] at hm'
      subst hm'
      exact ⟨keepI _ _ hm.1 ha1, keepT _ _ hm.2.1 ha2, hm.2.2.1, hm.2.2.2.1.mono (Nat.le_refl _) kp.size, hm.2.2.2.2.mono (Nat.le_refl _) kp.size, apv _ hm.2.2.2.1 ha1, apv _ hm.2.2.2.2 ha2⟩
end Msg
end Go.Proofs.YteilkpihddfpeaaGreatDoor
