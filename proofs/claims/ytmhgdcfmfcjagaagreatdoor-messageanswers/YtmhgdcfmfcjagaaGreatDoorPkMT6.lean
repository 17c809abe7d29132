import Derived.Test.YtmhgdcfmfcjagaaGreatDoorPkMT3
namespace Go.Proofs.YtmhgdcfmfcjagaaGreatDoor
open Go.RowKit Cod
namespace Msg
theorem askT_any {w : World} {b c : Nat} {s : TS} (h : Tk w b c s) :
    Calls Tryz.prog 51 #[.pointer (some ⟨c, 0, none⟩), .int .i64 3, .int .i64 7] w (QPost w b c (tReq (fun s => ([], s)) 3 7 s)) :=
  reqT_any h 3 7 (by omega) (by omega) (fun s => ([], s)) (fun _ _ hw g hg => rc_six g (by
    have := no_asks hw g
    rw [Int.toNat_natCast] at this
    exact this hg))
theorem tMany_max : ∀ (s : TS), (tCount s).1 ≤ 64 := fun s => by
  show (if wi _ 1 64 = true then _ else 0) ≤ 64
  split
  · rename_i hw
    have := (wi_iff.1 hw).2
    omega
  · omega
theorem tFlds_nil : ∀ (fs : List Fq) (p : PT), p.1.2 = [] → (tFlds (fun s => ([], s)) fs p).1.2 = []
  | [], _, h => h
  | g :: fs, p, h => by
    rw [tFlds, List.foldl_cons]
    refine tFlds_nil fs _ ?_
    cases g <;> first | exact h | rfl
theorem tReq_nil (lo hi : Int) (s : TS) : (tReq (fun s => ([], s)) lo hi s).1.2 = [] := by
  rw [tReq]
  split
  · exact tFlds_nil _ _ rfl
  · rfl
structure Ml (w wr : World) (b c n : Nat) (R : List Ask × TS) (v : Value) (k : Nat) (E : List Em) (s : TS) : Prop where
  tk : Tk wr b c s
  kp : Keep (BC b c) w wr
  gl : Gl wr w.heap.size v E
  go : GlO wr w.heap.size v E
  ln : E.length = k
  eq : tMany (n - k) (E.map (·.x)) s = R
theorem Ml.size {w wr : World} {b c n : Nat} {R : List Ask × TS} {v : Value} {k : Nat} {E : List Em} {s : TS} (h : Ml w wr b c n R v k E s) : w.heap.size ≤ wr.heap.size := h.kp.size
set_option maxRecDepth 100000 in
set_option maxHeartbeats 4000000 in
theorem takeAsks_any {b c : Nat} {s : TS} (z : Value) (w : World) (h : Tk w b c s) :
    Calls Tryz.prog 173 #[.pointer (some ⟨c, 0, none⟩), z] w fun e w' => TkL w b c (tAsks s).2 e w' fun v => As w' w.heap.size w'.heap.size v (tAsks s).1 ∧ ∃ E, AsO w' w.heap.size v (tAsks s).1 E := by
  have i1 := count_any w h
  have hmx := tMany_max s
  have e1 : tAsks s = tMany (tCount s).1 [] (tCount s).2 := rfl
  rw [e1]
  generalize (tCount s).1 = n at *
  generalize (tCount s).2 = s1 at *
  have hbl := h.rd.lt
  have hcl := h.lt
  clear h e1
  obtain ⟨R, hR⟩ : ∃ R, Hid (tMany n [] s1 = R) := ⟨_, rfl⟩
  rw [hR.out]
  go_enter Tryz.func173, Tryz.ntmps173
  go_wp2_with (go_at_call 174; refine i1.mono ?_; rintro e w1 ⟨rfl, h1, h2⟩; have H1 := hid h1; have H2 := hid h2; clear h1 h2)
  go_loopw [5, 8] (fun l i w' => ∃ (k : Nat) (E : List Em) (s' : TS), k ≤ n ∧ i = .int .i64 k ∧ Hid (Ml w w' b c n R l k E s')) (fun _ i _ => n - (intOf i).toNat)
  case atStart => exact ⟨0, [], s1, by omega, rfl, ⟨H1.out, H2.out, Gl.nil _ _, GlO.nil _ _, rfl, hR.out⟩⟩
  case round =>
    obtain ⟨k, E, s', hk, rfl, hM⟩ := hrel
    by_cases hlt : k < n
    · have hlt' : (k : Int) < (n : Int) := by omega
      have i2 := askT_any hM.out.tk
      go_wp2_with (go_at_call 51; fail)
      go_at_call 51
      refine i2.mono ?_
      rintro e w2 ⟨ul, ue, ua, rfl, g1, g2, g3, g4, g5, g6, g7, g8, g9⟩
      have g0 := tReq_nil 3 7 s'
      obtain ⟨x, hx⟩ : ∃ x, Hid ((tAsk s').1 = x) := ⟨_, rfl⟩
      obtain ⟨s2, hs2⟩ : ∃ s2, Hid ((tAsk s').2 = s2) := ⟨_, rfl⟩
      have hx' : (tReq (fun s => ([], s)) 3 7 s').1.1 = x := hx.out
      have hs' : (tReq (fun s => ([], s)) 3 7 s').2 = s2 := hs2.out
      have hshape : ∃ p q, ua = .slice p x.n q := by
        obtain ⟨p, q, e⟩ := g5.shape
        exact ⟨p, q, by rw [e, ← g6, hx']⟩
      rw [hx'] at g1 g3 ⊢
      rw [hs'] at g7
      obtain ⟨E9, o1, o2, o3, o4⟩ := g9
      rw [hx'] at o1 o2
      have hEm : EmO w2 wr.heap.size ⟨x, ul, ue, ua⟩ := ⟨o1, o2, o3.z g0⟩
      have hD : ∀ k, ul.ownBlock = some k → ue.ownBlock ≠ some k := fun k hk hk2 => (nd_cons.1 o4).2 k hk (mem_bks.2 ⟨ue, by simp, hk2⟩)
      clear g5 g6 hx' hs' o1 o2 o3 o4 g0
      have hsz := hM.out.size
      have hGl := hM.out.gl.keep g8 (fun j hj e => by rcases e with e | e <;> omega)
      have hGo := hM.out.go.keep g8 (fun j hj e => by rcases e with e | e <;> omega)
      have hIn := (hM.out.gl.aso hM.out.go).in
      have hvl := hM.out.gl.own.lt
      have hvg := hM.out.gl.ge
      have hln := hM.out.ln
      have ap : ∀ u, Nw wr.heap.size w2.heap.size u → Apart u (OwnS u5) := fun u hn y m cc e _ hk => by
        have := hvl _ hk
        have := (hn y m cc e).1
        omega
      obtain ⟨v', w3, r1, r2, r3⟩ := hGl.push (Nat.le_trans hsz g8.size) (by omega) ⟨x, ul, ue, ua⟩ ⟨g1, g3, hshape, g2.mono hsz (Nat.le_refl _), g4.mono hsz (Nat.le_refl _)⟩ (ap ul g2) (ap ue g4)
      obtain ⟨v9, w9, r9, r8⟩ := hGo.push (W := wr.heap.size) hGl.own (by omega) ⟨x, ul, ue, ua⟩ (hEm.lower hsz) hD (fun k hk => (hIn k hk).2) (fun k hk => hEm.o1.ge k hk) (fun k hk => hEm.o2.ge k hk)
      rw [r1] at r9
      obtain ⟨rfl, rfl⟩ : v' = v9 ∧ w3 = w9 := by injection r9 with a b; exact ⟨a, b⟩
      clear r9
      have hc : (Builtin.append_ #[24, 24] 24 #[u5, .slice (some ⟨w2.heap.size, 0, none⟩) 1 1]).run Tryz.prog (w2.alloc (.cells #[.int .i64 x.kind, .int .i64 x.a, .int .i64 x.b, .int .i64 x.size, ul, ue, ua] 26)) = .ok v' w3 := r1
      have N : Hid (Ml w w3 b c n R v' (k + 1) (E ++ [⟨x, ul, ue, ua⟩]) s2) := by
        refine ⟨g7.keep r3 (fun e => by have := hvg _ e; omega) (fun e => by have := hvg _ e; omega), (hM.out.kp.trans (T := BC b c) g8 (fun _ _ e => e)).trans r3 (fun j hj e => by have := hvg _ e; omega), r2, r8, by rw [List.length_append, hln]; rfl, ?_⟩
        have := hM.out.eq
        rw [show n - k = (n - (k + 1)) + 1 from by omega, tMany, hx.out, hs2.out] at this
        rw [List.map_append]; exact this
      obtain ⟨p1, q1, e1, _⟩ := id g1
      obtain ⟨p2, q2, e2, _⟩ := id g3
      obtain ⟨p3, q3, e3⟩ := id hshape
      subst e1 e2 e3
      rw [akV]
      clear g1 g2 g3 g4 g7 g8 r1 r2 r3 r8 hshape hGl hGo hIn hEm hD hvl hvg ap i2
      go_wp2_with (at_builtin; go_must (refine Lib.wpList_append_run _ rfl _ _ 24 24 rfl _ _ rfl rfl _ _ hc ?_))
      exact ⟨⟨k + 1, _, s2, by omega, by go_num, N⟩, by simp [intOf]; omega⟩
    · obtain rfl : k = n := by omega
      have hE := hM.out.eq
      rw [Nat.sub_self, tMany] at hE
      obtain ⟨p, q, hu, _, _⟩ := hM.out.gl.own.shape
      subst hu
      subst hE
      go_wp2
      go_ret
      exact ⟨_, rfl, ⟨hM.out.gl.as, _, hM.out.gl.aso hM.out.go⟩, fun y m cc e => (by
        have ha := hM.out.gl
        cases e
        exact ⟨ha.ge _ rfl, ha.own.lt _ rfl⟩), hM.out.tk, hM.out.kp⟩
end Msg
end Go.Proofs.YtmhgdcfmfcjagaaGreatDoor

namespace Go.Proofs.YtmhgdcfmfcjagaaGreatDoor
open Go.RowKit Cod
namespace Msg
set_option maxRecDepth 100000 in
set_option maxHeartbeats 2000000 in
theorem r_asks {w : World} {B b c d : Nat} {p : PT} {tl te ta : Value} (h : Ra w B b c d p tl te ta) (hB : B ≤ w.heap.size) :
    Calls Tryz.prog 111 #[.pointer (some ⟨d, 0, none⟩)] w fun e w' => e = .returned (.tuple #[]) ∧ RPost w B b c d (tFq tAsks .asks p) w' := by
  have c0 : w.cell? ⟨d, 0, none⟩ = some (tak c) := by rw [cell_of_row _ _ _ _ _ _ h.row]; rfl
  have c4 : w.cell? ⟨d, 7, none⟩ = some (.slice none 0 0) := by rw [cell_of_row _ _ _ _ _ _ h.row]; rfl
  have i1 := takeAsks_any (.slice none 0 0) w.drew h.tk.drew
  rw [tak] at c0
  have mm := m_taking_asks ⟨c, 0, none⟩
  have HQ := hid h
  have HB := hid hB
  clear h hB
  go_enter Tryz.func111, Tryz.ntmps111
  go_region_held3 (fun w' => w'.cell? ⟨d, 0, none⟩ = some (.iface 127 (.pointer (some ⟨c, 0, none⟩))) ∧ w'.cell? ⟨d, 7, none⟩ = some (.slice none 0 0)) (first | exact ⟨c0, c4⟩ | exact S2 | exact S3) (first | (go_at_call 173; (with_reducible refine i1.mono ?_); rintro e w2 ⟨v, rfl, ⟨hq, ho⟩, hn, ht, hk⟩; obtain ⟨p1, q1, rfl⟩ := hq.shape; have HO := hid ho; clear ho; have HV := hid (hq.lower HB.out); clear hq hn; have hk := Keep.drew' hk; have hrow := HQ.out.row2 hk; have g0 : w2.frozen? ⟨d, 14, none⟩ = false := frozen_of_row _ _ _ _ _ hrow; have e0 : w2.cell? ⟨d, 14, none⟩ = some ta := (by rw [cell_of_row _ _ _ _ _ _ hrow]; rfl); have S2 : w2.cell? ⟨d, 0, none⟩ = some (tak c) ∧ w2.cell? ⟨d, 7, none⟩ = some (.slice none 0 0) := ⟨by rw [cell_of_row _ _ _ _ _ _ hrow]; rfl, by rw [cell_of_row _ _ _ _ _ _ hrow]; rfl⟩; have hrow3 := row_set 14 (.slice p1 (tAsks p.2).1.length q1) hrow rfl; have S3 : (w2.setCell ⟨d, 14, none⟩ (.slice p1 (tAsks p.2).1.length q1)).cell? ⟨d, 0, none⟩ = some (tak c) ∧ (w2.setCell ⟨d, 14, none⟩ (.slice p1 (tAsks p.2).1.length q1)).cell? ⟨d, 7, none⟩ = some (.slice none 0 0) := ⟨by rw [cell_of_row _ _ _ _ _ _ hrow3]; rfl, by rw [cell_of_row _ _ _ _ _ _ hrow3]; rfl⟩; rw [tak] at S2 S3; have HK := hid hk; have HT := hid ht; clear hk ht hrow hrow3))
  go_end0
  exact ⟨rfl, HQ.out.put HK.out (tFq tAsks .asks p) HT.out 14 _ _ _ _ rfl (HQ.out.o1 HK.out) (HQ.out.o2 HK.out) HV.out rfl (by
    obtain ⟨E, hE⟩ := HO.out
    exact HQ.out.ow.setA HK.out (fun _ k1 _ => Ra.nS HQ.out.hb HQ.out.hc k1) HB.out hE rfl rfl rfl)⟩
theorem requestT_any {w : World} {b c : Nat} {s : TS} (h : Tk w b c s) :
    Calls Tryz.prog 51 #[.pointer (some ⟨c, 0, none⟩), .int .i64 1, .int .i64 12] w (QPost w b c (tRequest s)) :=
  reqT_any h 1 12 (by omega) (by omega) tAsks (fun B d _ g _ => by
    by_cases hg : g = .asks
    · subst hg
      exact fun w p tl te ta h hB => r_asks h hB
    · exact rc_six g hg)
set_option maxRecDepth 100000 in
set_option maxHeartbeats 1000000 in
theorem wholeT_any {w : World} {b c : Nat} {s : TS} (h : Tk w b c s) (T : Lay w) :
    Calls Tryz.prog 52 #[.pointer (some ⟨c, 0, none⟩)] w fun e w' => e = .returned (.bool (decide (s.1.done = 0) && !s.2)) ∧ Below w.heap.size w w' := by
  have c0 := h.c0
  have i1 := rDone_any b s.1 w T h.rd
  have H := hid h
  obtain ⟨st, q⟩ := s
  clear h T
  have i1 : Calls Tryz.prog 87 #[.pointer (some ⟨b, 0, none⟩)] w fun r w' => r = .returned (.tuple #[.int .i64 st.done, .int .i64 (st.taken : Int)]) ∧ Below w.heap.size w w' := i1
  show Calls _ _ _ _ fun e w' => e = .returned (.bool (decide (st.done = 0) && !q)) ∧ _
  generalize st.done = dn at *
  by_cases hd : dn = 0
  · subst hd
    cases q <;>
    · go_enter Tryz.func52, Tryz.ntmps52
      go_wp2_with (go_at_call 87; refine i1.mono ?_; rintro e w1 ⟨rfl, h1⟩; have d1 := (H.out.below h1).c1; have H1 := hid h1; clear h1)
      go_ret
      exact ⟨rfl, H1.out⟩
  · have hd' : decide (dn = 0) = false := decide_eq_false hd
    rw [hd', Bool.false_and]
    have hb : (dn == 0) = false := by simp [hd]
    clear hd'
    go_enter Tryz.func52, Tryz.ntmps52
    go_wp2_with (go_at_call 87; refine i1.mono ?_; rintro e w1 ⟨rfl, h1⟩; have H1 := hid h1; clear h1)
    go_ret
    exact ⟨rfl, H1.out⟩
def unfr (e : Nat) : Int := if e = 21 then 172 else if e = 22 then 174 else 173
theorem unfr_ne (e : Nat) : unfr e ≠ 0 := by unfold unfr; split <;> (try split) <;> omega
set_option maxRecDepth 100000 in
set_option maxHeartbeats 1000000 in
theorem unframeM_any (s : ByteArray) (w : World) (hs : s.size ≤ maxLen) :
    Calls Tryz.prog 49 #[.string s] w fun e w' => (match rdText s.data.toList 1048576 with
      | .good p r => e = .returned (.tuple #[sv p, sv r, .int .i64 0])
      | .bad k => e = .returned (.tuple #[sv [], sv [], .int .i64 (unfr k)])) ∧ Below w.heap.size w w' := by
  have i1 := unframe_any s w hs
  have hz := nz_text s.data.toList 1048576
  cases hR : rdText s.data.toList 1048576 with
  | good p r =>
    rw [hR] at i1
    simp only [tupS] at i1
    rw [show sv p = .string ⟨p.toArray⟩ from rfl, show sv r = .string ⟨r.toArray⟩ from rfl] at i1
    clear hR hz
    go_enter Tryz.func49, Tryz.ntmps49
    go_wp2_with (go_at_call 86; refine i1.mono ?_; rintro e w1 ⟨rfl, h1⟩; have H1 := hid h1; clear h1)
    go_ret3
    exact ⟨rfl, H1.out⟩
  | bad k =>
    have hk := hz k hR
    rw [hR] at i1
    simp only [tupS] at i1
    clear hR hz
    have b0 : ((k : Int) == 0) = false := by simp; omega
    by_cases h21 : k = 21
    · subst h21
      go_enter Tryz.func49, Tryz.ntmps49
      go_wp2_with (go_at_call 86; refine i1.mono ?_; rintro e w1 ⟨rfl, h1⟩; have H1 := hid h1; clear h1)
      go_ret3
      exact ⟨rfl, H1.out⟩
    by_cases h22 : k = 22
    · subst h22
      go_enter Tryz.func49, Tryz.ntmps49
      go_wp2_with (go_at_call 86; refine i1.mono ?_; rintro e w1 ⟨rfl, h1⟩; have H1 := hid h1; clear h1)
      go_ret3
      exact ⟨rfl, H1.out⟩
    have b1 : ((k : Int) == 21) = false := by simp; omega
    have b2 : ((k : Int) == 22) = false := by simp; omega
    have hu : unfr k = 173 := by rw [unfr, if_neg h21, if_neg h22]
    show Calls _ _ _ _ fun e w' => e = .returned (.tuple #[sv [], sv [], .int .i64 (unfr k)]) ∧ _
    rw [hu]
    clear h21 h22 hu hk
    go_enter Tryz.func49, Tryz.ntmps49
    go_wp2_with (go_at_call 86; refine i1.mono ?_; rintro e w1 ⟨rfl, h1⟩; have H1 := hid h1; clear h1)
    go_ret3
    exact ⟨rfl, H1.out⟩
end Msg
end Go.Proofs.YtmhgdcfmfcjagaaGreatDoor

namespace Go.Proofs.YtmhgdcfmfcjagaaGreatDoor
open Go.RowKit Cod
namespace Msg
theorem results_row_tmp2 {P : Program} {fn : Func} {p u u2 : Tmp} {ty : TypeId} (h : fn.results = #[.cell p ty, .tmp u, .tmp u2]) (tmps : Array Value) (w : World) (g : Nat) (t : TypeId) (cs : Array Value) (fr : Nat × Nat) (d : TypeDesc)
    (hp : tmps.getD p undef = .pointer (some ⟨g, 0, none⟩)) (hg : w.heap[g]? = some (.cells cs t fr))
    (hu : P.underlying ty = some d) (hd : (match d with | .struct _ | .array _ _ => true | _ => false) = true) (hi : (P.info? ty).map (·.size) = some cs.size) :
    (results fn tmps).run P w = .ok (.tuple #[.agg cs, tmps.getD u undef, tmps.getD u2 undef]) w := by
  have hp' : tmps[p]?.getD undef = .pointer (some ⟨g, 0, none⟩) := by simpa using hp
  simp [results, h, hp', asAddr, run_loadVar_row w g t ty cs fr d hg hu hd hi, Result.andThen]
abbrev rq0 : Value := .agg #[.int .i64 0, .int .i64 0, .int .i64 0, .int .i64 0, .slice none 0 0, .slice none 0 0, .slice none 0 0]
def Got (w : World) (lo : Nat) (x : Ask) (l : List Ask) (ul ue ua : Value) : Prop :=
  SlcI w ul x.list ∧ Nw lo w.heap.size ul ∧ Slc w ue x.ent ∧ Nw lo w.heap.size ue ∧ As w lo w.heap.size ua l ∧ x.n = l.length
def DOk (q : PT) (r : List UInt8) (w : World) (e : Ending) (w' : World) : Prop :=
  if (decide (q.2.1.done = 0) && !q.2.2) = true then ∃ ul ue ua, e = .returned (.tuple #[akV q.1.1 ul ue ua, sv r, .int .i64 0]) ∧ Got w' w.heap.size q.1.1 q.1.2 ul ue ua
  else e = .returned (.tuple #[rq0, sv [], .int .i64 173])
def DPost (s : List UInt8) (w : World) (e : Ending) (w' : World) : Prop :=
  Below w.heap.size w w' ∧ match rdText s 1048576 with
  | .bad k => e = .returned (.tuple #[rq0, sv [], .int .i64 (unfr k)])
  | .good p r => DOk (tRequest (⟨p, 0, 0⟩, false)) r w e w'
def Owd (w w' : World) (e : Ending) : Prop := ∃ x l ul ue ua rest er, e = .returned (.tuple #[akV x ul ue ua, rest, er]) ∧ RaO w' w.heap.size (x, l) ul ue ua
theorem owd_zero (w w' : World) (rest er : Value) : Owd w w' (.returned (.tuple #[rq0, rest, er])) := ⟨Ask.zero, [], _, _, _, _, _, rfl, RaO.nil _ _ _ rfl rfl rfl⟩
set_option maxRecDepth 100000 in
set_option maxHeartbeats 4000000 in
theorem decode_bad (s : ByteArray) (w : World) (hs : s.size ≤ maxLen) (k : Nat) (hR : rdText s.data.toList 1048576 = .bad k) :
    Calls Tryz.prog 20 #[.string s] w (fun e w' => DPost s.data.toList w e w' ∧ Owd w w' e) := by
  have i1 := unframeM_any s (w.alloc (.cells #[.int .i64 0, .int .i64 0, .int .i64 0, .int .i64 0, .slice none 0 0, .slice none 0 0, .slice none 0 0] 26)) hs
  rw [hR] at i1
  have i1 : Calls Tryz.prog 49 #[.string s] (w.alloc (.cells #[.int .i64 0, .int .i64 0, .int .i64 0, .int .i64 0, .slice none 0 0, .slice none 0 0, .slice none 0 0] 26)) fun e w' => e = .returned (.tuple #[sv [], sv [], .int .i64 (unfr k)]) ∧ Below (w.alloc (.cells #[.int .i64 0, .int .i64 0, .int .i64 0, .int .i64 0, .slice none 0 0, .slice none 0 0, .slice none 0 0] 26)).heap.size (w.alloc (.cells #[.int .i64 0, .int .i64 0, .int .i64 0, .int .i64 0, .slice none 0 0, .slice none 0 0, .slice none 0 0] 26)) w' := i1
  have hne := unfr_ne k
  unfold DPost
  rw [hR]
  show Calls _ _ _ _ fun e w' => (Below w.heap.size w w' ∧ e = .returned (.tuple #[rq0, sv [], .int .i64 (unfr k)])) ∧ Owd w w' e
  generalize unfr k = z at *
  have hb : (z == 0) = false := by simp [hne]
  clear hR
  have z1 := size_alloc w (.cells #[.int .i64 0, .int .i64 0, .int .i64 0, .int .i64 0, .slice none 0 0, .slice none 0 0, .slice none 0 0] 26)
  have r0 := hid (heap_alloc_new w (.cells #[.int .i64 0, .int .i64 0, .int .i64 0, .int .i64 0, .slice none 0 0, .slice none 0 0, .slice none 0 0] 26))
  have b0 := hid ((Below.refl w.heap.size w).alloc (Nat.le_refl _) (.cells #[.int .i64 0, .int .i64 0, .int .i64 0, .int .i64 0, .slice none 0 0, .slice none 0 0, .slice none 0 0] 26))
  go_enter Tryz.func20, Tryz.ntmps20
  go_wp2_with (first
    | (go_at_call 49; refine i1.mono ?_; rintro e w1 ⟨rfl, h1⟩; have R1 := hid ((h1.block _ (by omega)).trans r0.out); have B1 := hid (b0.out.trans (h1.mono b0.out.size)); clear h1)
    | ((with_reducible show wpList _ _ _ (Oper.mk _ (Op.store 26 _ _) _ _ _ _ :: _) _ _); go_must (refine wpList_store_row rfl 26 _ _ rfl w.heap.size _ rfl rfl 26 _ R1.out (sizeRq' _ _ _ _ _ _ _) rfl (oneRq _ _ _ _ _ _ _ _ _ _ _ _ _) ?_)))
  refine bodyPost_ret (results_row_tmp2 rfl _ _ w.heap.size 26 _ (0, 0) _ rfl (setRow_heap _ _ _ _ _ _ R1.out) Tryz.underlying26 rfl sizeRq) rfl ?_
  exact ⟨⟨Below.setRow B1.out (Nat.le_refl _) _, rfl⟩, owd_zero _ _ _ _⟩
set_option maxRecDepth 100000 in
set_option maxHeartbeats 4000000 in
theorem decode_good (s : ByteArray) (w : World) (T : Lay w) (hs : s.size ≤ maxLen) (p r : List UInt8) (hR : rdText s.data.toList 1048576 = .good p r) :
    Calls Tryz.prog 20 #[.string s] w (fun e w' => DPost s.data.toList w e w' ∧ Owd w w' e) := by
  have i1 := unframeM_any s (w.alloc (.cells #[.int .i64 0, .int .i64 0, .int .i64 0, .int .i64 0, .slice none 0 0, .slice none 0 0, .slice none 0 0] 26)) hs
  rw [hR] at i1
  have i1 : Calls Tryz.prog 49 #[.string s] (w.alloc (.cells #[.int .i64 0, .int .i64 0, .int .i64 0, .int .i64 0, .slice none 0 0, .slice none 0 0, .slice none 0 0] 26)) fun e w' => e = .returned (.tuple #[.string ⟨p.toArray⟩, .string ⟨r.toArray⟩, .int .i64 0]) ∧ Below (w.alloc (.cells #[.int .i64 0, .int .i64 0, .int .i64 0, .int .i64 0, .slice none 0 0, .slice none 0 0, .slice none 0 0] 26)).heap.size (w.alloc (.cells #[.int .i64 0, .int .i64 0, .int .i64 0, .int .i64 0, .slice none 0 0, .slice none 0 0, .slice none 0 0] 26)) w' := i1
  have hpl : p.length ≤ 1048576 := by have := (text_back hR).2.2.1; omega
  unfold DPost
  rw [hR]
  have hT := T.lt
  have HT := hid T
  have HP := hid hpl
  clear hR T hpl
  have z1 := size_alloc w (.cells #[.int .i64 0, .int .i64 0, .int .i64 0, .int .i64 0, .slice none 0 0, .slice none 0 0, .slice none 0 0] 26)
  have r0 := hid (heap_alloc_new w (.cells #[.int .i64 0, .int .i64 0, .int .i64 0, .int .i64 0, .slice none 0 0, .slice none 0 0, .slice none 0 0] 26))
  have b0 := hid ((Below.refl w.heap.size w).alloc (Nat.le_refl _) (.cells #[.int .i64 0, .int .i64 0, .int .i64 0, .int .i64 0, .slice none 0 0, .slice none 0 0, .slice none 0 0] 26))
  obtain ⟨q, hq⟩ : ∃ q, Hid (tRequest (⟨p, 0, 0⟩, false) = q) := ⟨_, rfl⟩
  show Calls _ _ _ _ fun e w' => (Below w.heap.size w w' ∧ DOk (tRequest (⟨p, 0, 0⟩, false)) r w e w') ∧ Owd w w' e
  rw [hq.out]
  go_enter Tryz.func20, Tryz.ntmps20
  go_wp2_with (first
    | (go_at_call 49; refine i1.mono ?_; rintro e w1 ⟨rfl, h1⟩; have R1 := hid ((h1.block _ (by omega)).trans r0.out); have B1 := hid (b0.out.trans (h1.mono b0.out.size)); have lt1 : w.heap.size < w1.heap.size := (by have := h1.size; omega); clear h1)
    | (go_at_call 50; fail))
  go_at_call 50
  refine (newReader_any ⟨p.toArray⟩ (by rw [sv_size]; have := HP.out; unfold maxLen; omega) w1).mono ?_
  rintro e w2 ⟨rfl, n1, n2, n3⟩
  rw [sv_data] at n1
  have hTk : Tk (w2.alloc (.cells #[.pointer (some ⟨w1.heap.size, 0, none⟩), .bool false] 86)) w1.heap.size w2.heap.size (⟨p, 0, 0⟩, false) :=
    ⟨heap_alloc_new _ _, n1.below ((Below.refl _ _).alloc (Nat.le_refl _) _), by omega, by have := HP.out; show p.length ≤ _; omega⟩
  have i2 := requestT_any hTk
  rw [hq.out] at i2
  have b3 := (Below.refl w2.heap.size w2).alloc (Nat.le_refl _) (.cells #[.pointer (some ⟨w1.heap.size, 0, none⟩), .bool false] 86)
  have z3 := size_alloc w2 (.cells #[.pointer (some ⟨w1.heap.size, 0, none⟩), .bool false] 86)
  have R3 := hid ((b3.block _ (by omega)).trans ((n2.block _ (by omega)).trans R1.out))
  have B3 := hid ((B1.out.trans (n2.mono (by omega))).trans (b3.mono (by omega)))
  have L3 : w.heap.size < w2.heap.size := by omega
  have L1 : 1 ≤ w2.heap.size := by omega
  clear n1 n2 n3 hTk b3 R1 B1 z3
  go_wp2_with (go_at_call 51; fail)
  go_at_call 51
  refine i2.mono ?_
  rintro e w4 ⟨ul, ue, ua, rfl, g1, g2, g3, g4, g5, g6, g7, g8, g9⟩
  obtain ⟨p1, n1, e1, _⟩ := id g1
  obtain ⟨p2, n2, e2, _⟩ := id g3
  obtain ⟨p3, n3, e3⟩ := g5.shape
  subst e1 e2 e3
  obtain ⟨W3, hW3⟩ : ∃ W3, Hid (w2.alloc (.cells #[.pointer (some ⟨w1.heap.size, 0, none⟩), .bool false] 86) = W3) := ⟨_, rfl⟩
  have z3 : w2.heap.size < W3.heap.size := by rw [← hW3.out, size_alloc]; omega
  rw [hW3.out] at g2 g4 g5 g8 g9 R3 B3
  obtain ⟨cs, hcs⟩ : ∃ cs, Hid (#[Value.int .i64 q.1.1.kind, .int .i64 q.1.1.a, .int .i64 q.1.1.b, .int .i64 q.1.1.size, .slice p1 q.1.1.list.length n1, .slice p2 q.1.1.ent.length n2, .slice p3 q.1.2.length n3] = cs) := ⟨_, rfl⟩
  have b5 := (Below.refl w4.heap.size w4).alloc (Nat.le_refl _) (.cells cs 26)
  have z5 := size_alloc w4 (.cells cs 26)
  have k4 := g8.size
  have b4 : Below w.heap.size w w4 := B3.out.trans (g8.below (by omega) (fun k hk e => by rcases e with e | e <;> omega))
  have r4 : w4.heap[w.heap.size]? = some (.cells #[.int .i64 0, .int .i64 0, .int .i64 0, .int .i64 0, .slice none 0 0, .slice none 0 0, .slice none 0 0] 26 (0, 0)) := (g8.block _ (by omega) (fun e => by rcases e with e | e <;> omega)).trans R3.out
  have i3 := wholeT_any (g7.below b5) (HT.out.below (b4.trans (b5.mono (by omega))) hT)
  have r5 := heap_alloc_new w4 (.cells cs 26)
  have G : Hid (∀ w6, Below (w4.alloc (.cells cs 26)).heap.size (w4.alloc (.cells cs 26)) w6 → Below w.heap.size w w6 ∧ w6.heap[w.heap.size]? = some (.cells #[.int .i64 0, .int .i64 0, .int .i64 0, .int .i64 0, .slice none 0 0, .slice none 0 0, .slice none 0 0] 26 (0, 0)) ∧ w6.heap[w4.heap.size]? = some (.cells cs 26 (0, 0)) ∧
      Got (w6.setRow w.heap.size cs) w.heap.size q.1.1 q.1.2 (.slice p1 q.1.1.list.length n1) (.slice p2 q.1.1.ent.length n2) (.slice p3 q.1.2.length n3) ∧ RaO (w6.setRow w.heap.size cs) w.heap.size q.1 (.slice p1 q.1.1.list.length n1) (.slice p2 q.1.1.ent.length n2) (.slice p3 q.1.2.length n3)) := fun w6 h6 => by
    have b46 : Below w4.heap.size w4 w6 := b5.trans (h6.mono (by omega))
    refine ⟨b4.trans (b46.mono (by omega)), (b46.block _ (by omega)).trans r4, (h6.block _ (by omega)).trans r5, ?_⟩
    have k1 : Keep (fun k => k = w.heap.size) w4 (w6.setRow w.heap.size cs) := (Keep.ofBelow b46 : Keep (fun k => k = w.heap.size) w4 w6).trans (T := fun k => k = w.heap.size) ⟨rfl, rfl, rfl, by rw [setRow_size]; exact Nat.le_refl _, fun k _ hk => setRow_other w6 _ k _ hk⟩ (fun _ _ e => e)
    have hS : ∀ k, W3.heap.size ≤ k → k < w4.heap.size → ¬ k = w.heap.size := fun k k1 _ e => by omega
    exact ⟨⟨g2.slcI g1 k1 hS, g2.mono (by omega) k1.size, g4.slc g3 k1 hS, g4.mono (by omega) k1.size, ((g5.keep k1 hS).mono' k1.size).lower (by omega), g6⟩, (g9.keep k1 hS).lower (by omega)⟩
  rw [← hcs.out] at i3
  rw [akV]
  clear g1 g2 g3 g4 g5 g6 g7 g8 g9 b4 b5 r4 r5 R3 B3 i1 i2
  cases hok : (decide (q.2.1.done = 0) && !q.2.2) with
  | true =>
    rw [hok] at i3
    have HO := hid hok
    clear hok
    go_wp2_with (go_at_call 52; fail)
    go_at_call 52
    refine i3.mono ?_
    rintro e w6 ⟨rfl, h6⟩
    obtain ⟨j1, j2, j3, j4⟩ := G.out w6 (by rw [← hcs.out]; exact h6)
    have y0 : w6.cell? ⟨w4.heap.size, 0, none⟩ = some (.int .i64 q.1.1.kind) := (by rw [cell_of_row _ _ _ _ _ _ j3, ← hcs.out]; rfl)
    have y1 : w6.cell? ⟨w4.heap.size, 1, none⟩ = some (.int .i64 q.1.1.a) := (by rw [cell_of_row _ _ _ _ _ _ j3, ← hcs.out]; rfl)
    have y2 : w6.cell? ⟨w4.heap.size, 2, none⟩ = some (.int .i64 q.1.1.b) := (by rw [cell_of_row _ _ _ _ _ _ j3, ← hcs.out]; rfl)
    have y3 : w6.cell? ⟨w4.heap.size, 3, none⟩ = some (.int .i64 q.1.1.size) := (by rw [cell_of_row _ _ _ _ _ _ j3, ← hcs.out]; rfl)
    have y4 : w6.cell? ⟨w4.heap.size, 4, none⟩ = some (.slice p1 q.1.1.list.length n1) := (by rw [cell_of_row _ _ _ _ _ _ j3, ← hcs.out]; rfl)
    have y5 : w6.cell? ⟨w4.heap.size, 5, none⟩ = some (.slice p2 q.1.1.ent.length n2) := (by rw [cell_of_row _ _ _ _ _ _ j3, ← hcs.out]; rfl)
    have y6 : w6.cell? ⟨w4.heap.size, 6, none⟩ = some (.slice p3 q.1.2.length n3) := (by rw [cell_of_row _ _ _ _ _ _ j3, ← hcs.out]; rfl)
    have J1 := hid j1
    have J2 := hid j2
    have J4 := hid j4
    clear h6 j1 j2 j3 j4
    go_wp2_with ((with_reducible show wpList _ _ _ (Oper.mk _ (Op.store 26 _ _) _ _ _ _ :: _) _ _); go_must (refine wpList_store_row rfl 26 _ _ rfl w.heap.size _ rfl rfl 26 _ J2.out (sizeRq' _ _ _ _ _ _ _) rfl (oneRq _ _ _ _ _ _ _ _ _ _ _ _ _) ?_))
    refine bodyPost_ret (results_row_tmp2 rfl _ _ w.heap.size 26 _ (0, 0) _ rfl (setRow_heap _ _ _ _ _ _ J2.out) Tryz.underlying26 rfl sizeRq) rfl ?_
    refine ⟨⟨Below.setRow J1.out (Nat.le_refl _) _, ?_⟩, ?_⟩
    · unfold DOk
      rw [if_pos HO.out]
      refine ⟨_, _, _, rfl, ?_⟩
      rw [hcs.out]
      exact J4.out.1
    · refine ⟨q.1.1, q.1.2, _, _, _, _, _, rfl, ?_⟩
      rw [hcs.out]
      exact J4.out.2
  | false =>
    rw [hok] at i3
    have HO := hid hok
    clear hok
    go_wp2_with (go_at_call 52; fail)
    go_at_call 52
    refine i3.mono ?_
    rintro e w6 ⟨rfl, h6⟩
    obtain ⟨j1, j2, j3, j4⟩ := G.out w6 (by rw [← hcs.out]; exact h6)
    have J1 := hid j1
    have J2 := hid j2
    clear h6 j1 j2 j3 j4
    go_wp2_with ((with_reducible show wpList _ _ _ (Oper.mk _ (Op.store 26 _ _) _ _ _ _ :: _) _ _); go_must (refine wpList_store_row rfl 26 _ _ rfl w.heap.size _ rfl rfl 26 _ J2.out (sizeRq' _ _ _ _ _ _ _) rfl (oneRq _ _ _ _ _ _ _ _ _ _ _ _ _) ?_))
    refine bodyPost_ret (results_row_tmp2 rfl _ _ w.heap.size 26 _ (0, 0) _ rfl (setRow_heap _ _ _ _ _ _ J2.out) Tryz.underlying26 rfl sizeRq) rfl ?_
    refine ⟨⟨Below.setRow J1.out (Nat.le_refl _) _, ?_⟩, owd_zero _ _ _ _⟩
    unfold DOk
    rw [if_neg (by rw [HO.out]; exact Bool.false_ne_true)]
    rfl
theorem decode_own (s : ByteArray) (w : World) (T : Lay w) (hs : s.size ≤ maxLen) : Calls Tryz.prog 20 #[.string s] w (fun e w' => DPost s.data.toList w e w' ∧ Owd w w' e) := by
  cases hR : rdText s.data.toList 1048576 with
  | bad k => exact decode_bad s w hs k hR
  | good p r => exact decode_good s w T hs p r hR
theorem decode_any (s : ByteArray) (w : World) (T : Lay w) (hs : s.size ≤ maxLen) : Calls Tryz.prog 20 #[.string s] w (DPost s.data.toList w) :=
  (decode_own s w T hs).mono fun _ _ h => h.1
end Msg
end Go.Proofs.YtmhgdcfmfcjagaaGreatDoor
