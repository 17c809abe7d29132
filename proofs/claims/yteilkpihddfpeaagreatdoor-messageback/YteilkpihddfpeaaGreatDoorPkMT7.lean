import Derived.Test.YteilkpihddfpeaaGreatDoorPkMU3
import Derived.Test.YteilkpihddfpeaaGreatDoorPkMU4
namespace Go.Proofs.YteilkpihddfpeaaGreatDoor
open Go.RowKit Cod
namespace Msg

set_option maxRecDepth 100000 in
set_option maxHeartbeats 2000000 in
theorem r_asks {w : World} {B b c d : Nat} {p : PT} {tl te ta : Value} (h : Ra w B b c d p tl te ta) (hB : B ≤ w.heap.size) :
    Calls Tryz.prog 62 #[.pointer (some ⟨d, 0, none⟩)] w fun e w' => e = .returned (.tuple #[]) ∧ RPost w B b c d (tFq tAsks .asks p) w' := by
  have c0 : w.cell? ⟨d, 0, none⟩ = some (tak c) := by rw [cell_of_row _ _ _ _ _ _ h.row]; rfl
  have c4 : w.cell? ⟨d, 7, none⟩ = some (.slice none 0 0) := by rw [cell_of_row _ _ _ _ _ _ h.row]; rfl
  have i1 := takeAsks_any (.slice none 0 0) w.drew h.tk.drew
  rw [tak] at c0
  have mm := m_taking_asks ⟨c, 0, none⟩
  have HQ := hid h
  have HB := hid hB
  clear h hB
  go_enter Tryz.func62, Tryz.ntmps62
  go_region_held3 (fun w' => w'.cell? ⟨d, 0, none⟩ = some (.iface 81 (.pointer (some ⟨c, 0, none⟩))) ∧ w'.cell? ⟨d, 7, none⟩ = some (.slice none 0 0)) (first | exact ⟨c0, c4⟩ | exact S2 | exact S3) (first | (go_at_call 109; (with_reducible refine i1.mono ?_); rintro e w2 ⟨v, rfl, hq, hn, ht, hk⟩; obtain ⟨p1, q1, rfl⟩ := hq.shape; have HV := hid (hq.lower HB.out); clear hq hn; have hk := Keep.drew' hk; have hrow := HQ.out.row2 hk; have g0 : w2.frozen? ⟨d, 14, none⟩ = false := frozen_of_row _ _ _ _ _ hrow; have e0 : w2.cell? ⟨d, 14, none⟩ = some ta := (by rw [cell_of_row _ _ _ _ _ _ hrow]; rfl); have S2 : w2.cell? ⟨d, 0, none⟩ = some (tak c) ∧ w2.cell? ⟨d, 7, none⟩ = some (.slice none 0 0) := ⟨by rw [cell_of_row _ _ _ _ _ _ hrow]; rfl, by rw [cell_of_row _ _ _ _ _ _ hrow]; rfl⟩; have hrow3 := row_set 14 (.slice p1 (tAsks p.2).1.length q1) hrow rfl; have S3 : (w2.setCell ⟨d, 14, none⟩ (.slice p1 (tAsks p.2).1.length q1)).cell? ⟨d, 0, none⟩ = some (tak c) ∧ (w2.setCell ⟨d, 14, none⟩ (.slice p1 (tAsks p.2).1.length q1)).cell? ⟨d, 7, none⟩ = some (.slice none 0 0) := ⟨by rw [cell_of_row _ _ _ _ _ _ hrow3]; rfl, by rw [cell_of_row _ _ _ _ _ _ hrow3]; rfl⟩; rw [tak] at S2 S3; have HK := hid hk; have HT := hid ht; clear hk ht hrow hrow3))
  go_end0
  exact ⟨rfl, HQ.out.put HK.out (tFq tAsks .asks p) HT.out 14 _ _ _ _ rfl (HQ.out.o1 HK.out) (HQ.out.o2 HK.out) HV.out rfl⟩
theorem requestT_any {w : World} {b c : Nat} {s : TS} (h : Tk w b c s) :
    Calls Tryz.prog 28 #[.pointer (some ⟨c, 0, none⟩), .int .i64 1, .int .i64 12] w (QPost w b c (tRequest s)) :=
  reqT_any h 1 12 (by omega) (by omega) tAsks (fun B d _ g _ => by
    by_cases hg : g = .asks
    · subst hg
      exact fun w p tl te ta h hB => r_asks h hB
    · exact rc_six g hg)
set_option maxRecDepth 100000 in
set_option maxHeartbeats 1000000 in
theorem wholeT_any {w : World} {b c : Nat} {s : TS} (h : Tk w b c s) (T : Lay w) :
    Calls Tryz.prog 22 #[.pointer (some ⟨c, 0, none⟩)] w fun e w' => e = .returned (.bool (decide (s.1.done = 0) && !s.2)) ∧ Below w.heap.size w w' := by
  have c0 := h.c0
  have i1 := rDone_any b s.1 w T h.rd
  have H := hid h
  obtain ⟨st, q⟩ := s
  clear h T
  have i1 : Calls Tryz.prog 34 #[.pointer (some ⟨b, 0, none⟩)] w fun r w' => r = .returned (.tuple #[.int .i64 st.done, .int .i64 (st.taken : Int)]) ∧ Below w.heap.size w w' := i1
  show Calls _ _ _ _ fun e w' => e = .returned (.bool (decide (st.done = 0) && !q)) ∧ _
  generalize st.done = dn at *
  by_cases hd : dn = 0
  · subst hd
    cases q <;>
    · go_enter Tryz.func22, Tryz.ntmps22
      go_wp2_with (go_at_call 34; refine i1.mono ?_; rintro e w1 ⟨rfl, h1⟩; have d1 := (H.out.below h1).c1; have H1 := hid h1; clear h1)
      go_ret
      exact ⟨rfl, H1.out⟩
  · have hd' : decide (dn = 0) = false := decide_eq_false hd
    rw [hd', Bool.false_and]
    have hb : (dn == 0) = false := by simp [hd]
    clear hd'
    go_enter Tryz.func22, Tryz.ntmps22
    go_wp2_with (go_at_call 34; refine i1.mono ?_; rintro e w1 ⟨rfl, h1⟩; have H1 := hid h1; clear h1)
    go_ret
    exact ⟨rfl, H1.out⟩
def unfr (e : Nat) : Int := if e = 21 then 172 else if e = 22 then 174 else 173
theorem unfr_ne (e : Nat) : unfr e ≠ 0 := by unfold unfr; split <;> (try split) <;> omega
set_option maxRecDepth 100000 in
set_option maxHeartbeats 1000000 in
theorem unframeM_any (s : ByteArray) (w : World) (hs : s.size ≤ maxLen) :
    Calls Tryz.prog 19 #[.string s] w fun e w' => (match rdText s.data.toList 1048576 with
      | .good p r => e = .returned (.tuple #[sv p, sv r, .int .i64 0])
      | .bad k => e = .returned (.tuple #[sv [], sv [], .int .i64 (unfr k)])) ∧ Below w.heap.size w w' := by
  have i1 := unframe_any s w hs
  have hz := nz_text s.data.toList 1048576
  cases hR : rdText s.data.toList 1048576 with
  | good p r =>
    rw [hR] at i1
    simp only [tupS] at i1
    rw [show sv p = .string ⟨p.toArray⟩ from rfl, show sv r = .string ⟨r.toArray⟩ from rfl] at i1
    clear hR hz
    go_enter Tryz.func19, Tryz.ntmps19
    go_wp2_with (go_at_call 11; refine i1.mono ?_; rintro e w1 ⟨rfl, h1⟩; have H1 := hid h1; clear h1)
    go_ret3
    exact ⟨rfl, H1.out⟩
  | bad k =>
    have hk := hz k hR
    rw [hR] at i1
    simp only [tupS] at i1
    clear hR hz
    have b0 : ((k : Int) == 0) = false := by simp; omega
    by_cases h21 : k = 21
    · subst h21
      go_enter Tryz.func19, Tryz.ntmps19
      go_wp2_with (go_at_call 11; refine i1.mono ?_; rintro e w1 ⟨rfl, h1⟩; have H1 := hid h1; clear h1)
      go_ret3
      exact ⟨rfl, H1.out⟩
    by_cases h22 : k = 22
    · subst h22
      go_enter Tryz.func19, Tryz.ntmps19
      go_wp2_with (go_at_call 11; refine i1.mono ?_; rintro e w1 ⟨rfl, h1⟩; have H1 := hid h1; clear h1)
      go_ret3
      exact ⟨rfl, H1.out⟩
    have b1 : ((k : Int) == 21) = false := by simp; omega
    have b2 : ((k : Int) == 22) = false := by simp; omega
    have hu : unfr k = 173 := by rw [unfr, if_neg h21, if_neg h22]
    show Calls _ _ _ _ fun e w' => e = .returned (.tuple #[sv [], sv [], .int .i64 (unfr k)]) ∧ _
    rw [hu]
    clear h21 h22 hu hk
    go_enter Tryz.func19, Tryz.ntmps19
    go_wp2_with (go_at_call 11; refine i1.mono ?_; rintro e w1 ⟨rfl, h1⟩; have H1 := hid h1; clear h1)
    go_ret3
    exact ⟨rfl, H1.out⟩
end Msg
end Go.Proofs.YteilkpihddfpeaaGreatDoor

namespace Go.Proofs.YteilkpihddfpeaaGreatDoor
open Go.RowKit Cod
namespace Msg

set_option maxRecDepth 100000 in
set_option maxHeartbeats 2000000 in
theorem u_parts {w : World} {B b c d : Nat} {p : PR} {th te tp : Value} (h : Ua w B b c d p th te tp) (hB : B ≤ w.heap.size) :
    Calls Tryz.prog 48 #[.pointer (some ⟨d, 0, none⟩)] w fun e w' => e = .returned (.tuple #[]) ∧ UPost w B b c d (tFr tParts .parts p) w' := by
  have c0 : w.cell? ⟨d, 0, none⟩ = some (tak c) := by rw [cell_of_row _ _ _ _ _ _ h.row]; rfl
  have c4 : w.cell? ⟨d, 8, none⟩ = some (.slice none 0 0) := by rw [cell_of_row _ _ _ _ _ _ h.row]; rfl
  have i1 := takeParts_any (.slice none 0 0) w.drew h.tk.drew
  rw [tak] at c0
  have mm := m_taking_parts ⟨c, 0, none⟩
  have HQ := hid h
  have HB := hid hB
  clear h hB
  go_enter Tryz.func48, Tryz.ntmps48
  go_region_held3 (fun w' => w'.cell? ⟨d, 0, none⟩ = some (.iface 81 (.pointer (some ⟨c, 0, none⟩))) ∧ w'.cell? ⟨d, 8, none⟩ = some (.slice none 0 0)) (first | exact ⟨c0, c4⟩ | exact S2 | exact S3) (first | (go_at_call 113; (with_reducible refine i1.mono ?_); rintro e w2 ⟨v, rfl, hq, hn, ht, hk⟩; obtain ⟨p1, q1, rfl⟩ := hq.shape; have HV := hid (hq.mono HB.out (Nat.le_refl _)); clear hq hn; have hk := Keep.drew' hk; have hrow := HQ.out.row2 hk; have g0 : w2.frozen? ⟨d, 16, none⟩ = false := frozen_of_row _ _ _ _ _ hrow; have e0 : w2.cell? ⟨d, 16, none⟩ = some tp := (by rw [cell_of_row _ _ _ _ _ _ hrow]; rfl); have S2 : w2.cell? ⟨d, 0, none⟩ = some (tak c) ∧ w2.cell? ⟨d, 8, none⟩ = some (.slice none 0 0) := ⟨by rw [cell_of_row _ _ _ _ _ _ hrow]; rfl, by rw [cell_of_row _ _ _ _ _ _ hrow]; rfl⟩; have hrow3 := row_set 16 (.slice p1 (tParts p.2).1.length q1) hrow rfl; have S3 : (w2.setCell ⟨d, 16, none⟩ (.slice p1 (tParts p.2).1.length q1)).cell? ⟨d, 0, none⟩ = some (tak c) ∧ (w2.setCell ⟨d, 16, none⟩ (.slice p1 (tParts p.2).1.length q1)).cell? ⟨d, 8, none⟩ = some (.slice none 0 0) := ⟨by rw [cell_of_row _ _ _ _ _ _ hrow3]; rfl, by rw [cell_of_row _ _ _ _ _ _ hrow3]; rfl⟩; rw [tak] at S2 S3; have HK := hid hk; have HT := hid ht; clear hk ht hrow hrow3))
  go_end0
  exact ⟨rfl, HQ.out.put HK.out (tFr tParts .parts p) HT.out 16 _ _ _ _ rfl (HQ.out.o1 HK.out) (HQ.out.o2 HK.out) HV.out rfl⟩
theorem sizeRp : (Tryz.prog.info? 26).map (·.size) = some 8 := by kernel_rfl
theorem sizeRp' (a b c d e f g h : Value) : (Tryz.prog.info? 26).map (·.size) = some #[a, b, c, d, e, f, g, h].size := sizeRp
theorem oneRp (b1 b2 b3 b4 : Int) (r : ByteArray) (a1 a2 a3 : Option Addr) (n1 n2 n3 c1 c2 c3 : Nat) : (#[Value.int .i64 b1, .int .i64 b2, .int .i64 b3, .int .i64 b4, .string r, .slice a1 n1 c1, .slice a2 n2 c2, .slice a3 n3 c3].all (·.oneCell')) = true := all_oneCell_toArray (cs := [Value.int .i64 b1, .int .i64 b2, .int .i64 b3, .int .i64 b4, .string r, .slice a1 n1 c1, .slice a2 n2 c2, .slice a3 n3 c3]) fun v hv => by
  simp only [List.mem_cons, List.not_mem_nil, or_false] at hv
  rcases hv with rfl | rfl | rfl | rfl | rfl | rfl | rfl | rfl <;> rfl
/-- what taking a reply answers -/
def PPost (w : World) (b c : Nat) (p : PR) (e : Ending) (w' : World) : Prop :=
  ∃ uh ue up, e = .returned (rpV p.1.1 uh ue up) ∧ Slc w' uh p.1.1.hs ∧ Nw w.heap.size w'.heap.size uh ∧ Slc w' ue p.1.1.ent ∧ Nw w.heap.size w'.heap.size ue ∧ Ps w' w.heap.size w'.heap.size up p.1.2 ∧ p.1.1.n = p.1.2.length ∧ Tk w' b c p.2 ∧ Keep (BC b c) w w'
set_option maxRecDepth 100000 in
set_option maxHeartbeats 4000000 in
theorem replyT_any {w : World} {b c : Nat} {s : TS} (h : Tk w b c s) (K : Nat) (hK : K ≤ 12) :
    Calls Tryz.prog 21 #[.pointer (some ⟨c, 0, none⟩), .int .i64 (K : Int)] w (PPost w b c (tReply K s)) := by
  obtain ⟨o1, ho1⟩ : ∃ o1, Hid (Obj.cells #[.int .i64 0, .int .i64 0, .int .i64 0, .int .i64 0, .string ⟨#[]⟩, .slice none 0 0, .slice none 0 0, .slice none 0 0] 26 = o1) := ⟨_, rfl⟩
  obtain ⟨o2, ho2⟩ : ∃ o2, Hid (Obj.cells (rpArr (tak c) Part.zero (.slice none 0 0) (.slice none 0 0) (.slice none 0 0) Part.zero (.slice none 0 0) (.slice none 0 0) (.slice none 0 0)) 76 = o2) := ⟨_, rfl⟩
  have z1 := size_alloc w o1
  have z2 := size_alloc (w.alloc o1) o2
  have bW : Below w.heap.size w ((w.alloc o1).alloc o2) := ((Below.refl _ _).alloc (Nat.le_refl _) _).alloc (by omega) _
  have hcl := h.lt
  have hbl := h.rd.lt
  have hQ : Ua ((w.alloc o1).alloc o2) (w.heap.size + 2) b c (w.heap.size + 1) ((Part.zero, []), s) (.slice none 0 0) (.slice none 0 0) (.slice none 0 0) :=
    ua_new (d := w.heap.size + 1) h bW (by rw [← ho2.out]; exact heap_alloc_at _ _ _ z1) (by omega)
  have i1 := payU_any hQ (by omega) K hK (fun g _ => by
    by_cases hg : g = .parts
    · subst hg
      exact fun w p th te tp h hB => u_parts h hB
    · exact uc_six g hg)
  have r0 : ((w.alloc o1).alloc o2).heap[w.heap.size]? = some (.cells #[.int .i64 0, .int .i64 0, .int .i64 0, .int .i64 0, .string ⟨#[]⟩, .slice none 0 0, .slice none 0 0, .slice none 0 0] 26 (0, 0)) := by
    rw [alloc_lt (by omega), ← ho1.out]; exact heap_alloc_new _ _
  have R0 := hid r0
  have BW := hid bW
  have HZ : Hid (((w.alloc o1).alloc o2).heap.size = w.heap.size + 2) := by show _ = _; omega
  rw [← ho1.out, ← ho2.out] at i1 R0 BW HZ
  simp only [tak, rpArr, Part.zero, sv] at i1
  generalize tReply K s = p at *
  clear h hQ bW z1 z2 r0 hK
  go_enter Tryz.func21, Tryz.ntmps21
  go_wp2_with (go_at_call 30; fail)
  go_at_call 30
  refine i1.mono ?_
  rintro e w2 ⟨rfl, th, te, tp, q1, q2⟩
  simp only [tak, rpArr, Part.zero, sv] at R0 BW HZ
  have r2 := (q2.block w.heap.size (by have := HZ.out; omega) (fun e => by rcases e with e | e | e <;> omega)).trans R0.out
  obtain ⟨p1, n1, rfl, _⟩ := id q1.s1
  obtain ⟨p2, n2, rfl, _⟩ := id q1.s2
  obtain ⟨p3, n3, rfl⟩ := q1.s3.shape
  have d0 : w2.cell? ⟨w.heap.size + 1, 9, none⟩ = some (.int .i64 p.1.1.status) := by rw [cell_of_row _ _ _ _ _ _ q1.row]; rfl
  have d1 : w2.cell? ⟨w.heap.size + 1, 10, none⟩ = some (.int .i64 p.1.1.size) := by rw [cell_of_row _ _ _ _ _ _ q1.row]; rfl
  have d2 : w2.cell? ⟨w.heap.size + 1, 11, none⟩ = some (.int .i64 p.1.1.a) := by rw [cell_of_row _ _ _ _ _ _ q1.row]; rfl
  have d3 : w2.cell? ⟨w.heap.size + 1, 12, none⟩ = some (.int .i64 p.1.1.b) := by rw [cell_of_row _ _ _ _ _ _ q1.row]; rfl
  have d4 : w2.cell? ⟨w.heap.size + 1, 13, none⟩ = some (.string ⟨p.1.1.root.toArray⟩) := by rw [cell_of_row _ _ _ _ _ _ q1.row]; rfl
  have d5 : w2.cell? ⟨w.heap.size + 1, 14, none⟩ = some (.slice p1 p.1.1.hs.length n1) := by rw [cell_of_row _ _ _ _ _ _ q1.row]; rfl
  have d6 : w2.cell? ⟨w.heap.size + 1, 15, none⟩ = some (.slice p2 p.1.1.ent.length n2) := by rw [cell_of_row _ _ _ _ _ _ q1.row]; rfl
  have d7 : w2.cell? ⟨w.heap.size + 1, 16, none⟩ = some (.slice p3 p.1.2.length n3) := by rw [cell_of_row _ _ _ _ _ _ q1.row]; rfl
  have Q1 := hid q1
  have Q2 := hid q2
  have R2 := hid r2
  clear q1 q2 r2
  go_wp2_with ((with_reducible show wpList _ _ _ (Oper.mk _ (Op.store 26 _ _) _ _ _ _ :: _) _ _); go_must (refine wpList_store_row rfl 26 _ _ rfl w.heap.size _ rfl rfl 26 _ R2.out (sizeRp' _ _ _ _ _ _ _ _) rfl (oneRp _ _ _ _ _ _ _ _ _ _ _ _ _ _) ?_))
  refine bodyPost_ret (results_cell_row rfl _ _ w.heap.size 26 _ (0, 0) _ rfl (setRow_heap _ _ _ _ _ _ R2.out) Tryz.underlying26 rfl sizeRp) rfl ?_
  generalize hcs : #[Value.int .i64 p.1.1.status, .int .i64 p.1.1.size, .int .i64 p.1.1.a, .int .i64 p.1.1.b, .string ⟨p.1.1.root.toArray⟩, .slice p1 p.1.1.hs.length n1, .slice p2 p.1.1.ent.length n2, .slice p3 p.1.2.length n3] = cs
  have k1 : Keep (fun k => k = w.heap.size) w2 (w2.setRow w.heap.size cs) := ⟨rfl, rfl, rfl, by rw [setRow_size]; exact Nat.le_refl _, fun k _ hk => setRow_other w2 _ k _ hk⟩
  have hS : ∀ k, w.heap.size + 2 ≤ k → k < w2.heap.size → ¬ k = w.heap.size := fun k k1 _ e => by omega
  have hle : w2.heap.size ≤ (w2.setRow w.heap.size cs).heap.size := k1.size
  refine ⟨.slice p1 p.1.1.hs.length n1, .slice p2 p.1.1.ent.length n2, .slice p3 p.1.2.length n3, by rw [rpV, ← hcs]; rfl, Q1.out.n1.slc Q1.out.s1 k1 hS, Q1.out.n1.mono (by omega) hle, Q1.out.n2.slc Q1.out.s2 k1 hS, Q1.out.n2.mono (by omega) hle, (Q1.out.s3.keep k1 hS).mono (by omega) hle, Q1.out.sn, Q1.out.tk.keep k1 (by omega) (by omega), ?_⟩
  refine ((Keep.ofBelow BW.out : Keep (BC b c) w _).trans Q2.out fun j hj e => ?_).trans k1 fun j hj e => ?_
  · rcases e with e | e | e
    · exact .inl e
    · exact .inr e
    · omega
  · omega
end Msg
end Go.Proofs.YteilkpihddfpeaaGreatDoor
