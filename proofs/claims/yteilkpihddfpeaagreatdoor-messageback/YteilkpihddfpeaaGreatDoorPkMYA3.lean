import Derived.Test.YteilkpihddfpeaaGreatDoorPkMWA1
import Derived.Test.YteilkpihddfpeaaGreatDoorPkMYA1
import Derived.Test.YteilkpihddfpeaaGreatDoorPkMX1
import Derived.Test.YteilkpihddfpeaaGreatDoorPkMZ1
import Derived.Deep.RegionHeld3
namespace Go.Proofs.YteilkpihddfpeaaGreatDoor
open Go.RowKit Cod
namespace Msg

/-- HOW LONG a request's payload is -/
theorem rising_len {l : List Int} {many : Int} (hl : ∀ c ∈ l, -9223372036854775808 ≤ c ∧ c ≤ 9223372036854775807) (h : arSz l many = true) (hm : many ≤ 256) : (wrRising (l.map Int.toNat)).length ≤ 2569 := by
  rw [arSz, Bool.and_eq_true] at h
  have hw := (wi_iff.1 h.1).2
  have h9 : (digs (l.map Int.toNat).length).length ≤ 9 := digs_len9 (by rw [List.length_map]; omega)
  have := wrRise_len (l.map Int.toNat) 0 (fun n hn => by
    obtain ⟨c, hc, rfl⟩ := List.mem_map.1 hn
    have := (hl c hc).2
    omega)
  rw [List.length_map] at this
  rw [wrRising, List.length_append]
  omega
theorem texts_len {ps : List (List UInt8)} (h : textsErr ps 32 4096 = 0) : (wrTexts ps).length ≤ 131369 := by
  rw [textsErr] at h
  split at h
  · cases h
  split at h
  · cases h
  split at h
  · rename_i a1 a2 a3
    have hn : ps.length ≤ 32 := by omega
    have h9 : (digs ps.length).length ≤ 9 := digs_len9 (by omega)
    have key : ∀ qs : List (List UInt8), (∀ p ∈ qs, p.length ≤ 4096) → ((qs.map wrText).flatten).length ≤ qs.length * 4105 := fun qs => by
      induction qs with
      | nil => intro _; simp
      | cons q qs ih =>
        intro h
        have h1 := ih (fun p hp => h p (by simp [hp]))
        have h2 : q.length ≤ 4096 := h q (by simp)
        have h3 : (digs q.length).length ≤ 9 := digs_len9 (by omega)
        rw [List.map_cons, List.flatten_cons, List.length_append, wrText, List.length_append, List.length_cons]
        omega
    have := key ps (fun p hp => by have := a3 p hp; omega)
    rw [wrTexts, List.length_append]
    omega
  · cases h
theorem sm_fqB {x : Ask} (hf : Fit x) (da : LS → LS) (g : Fq) (h1 : g ≠ .asks) (h2 : g ≠ .entries) {s : LS} {m : Nat} (hs : Sm s m) : Sm (lFq x da g s) (m + 2569) := by
  have h9 : ∀ n : Int, isSz n = true → (digs n.toNat).length ≤ 9 := fun n hn => digs_len9 (by rw [isSz, wi_iff] at hn; omega)
  have hz : ∀ n : Int, Sm (lSize n s) (m + 2569) := fun n => hs.lif_if (n := 2569) fun e _ => Nat.le_trans (h9 n e) (by omega)
  cases g with
  | a => exact hz _
  | b => exact hz _
  | size => exact hz _
  | indices => exact hs.lif_if fun e _ => rising_len (many := 256) hf.li e (by decide)
  | heads => exact hs.lif_if fun e _ => rising_len (many := 64) hf.li e (by decide)
  | asks => exact absurd rfl h1
  | entries => exact absurd rfl h2
theorem sm_fs (x : Ask) (da : LS → LS) (K : Nat) : ∀ (fs : List Fq) (_ : ∀ g ∈ fs, ∀ s m, Sm s m → Sm (lFq x da g s) (m + K)) {s : LS} {m : Nat}, Sm s m → Sm (lFlds x da fs s) (m + fs.length * K)
  | [], _, s, m, hs => by simpa [lFlds] using hs
  | g :: fs, h, s, m, hs => by
    have := sm_fs x da K fs (fun g hg => h g (by simp [hg])) (h g (by simp) s m hs)
    show Sm (lFlds x da fs (lFq x da g s)) _
    exact this.mono (by rw [List.length_cons, Nat.add_mul]; omega)
theorem flds_plain (n : Nat) (h1 : n ≠ 1) (h2 : n ≠ 12) : ∀ g ∈ flds n, g ≠ .asks ∧ g ≠ .entries := by
  match n, h1, h2 with
  | 0, _, _ | 2, _, _ | 3, _, _ | 4, _, _ | 5, _, _ | 6, _, _ | 7, _, _ | 8, _, _ | 9, _, _ | 10, _, _ | 11, _, _ => intro g hg; simp [flds] at hg <;> (try rcases hg with rfl | rfl | rfl) <;> (try rcases hg with rfl | rfl) <;> (try subst hg) <;> exact ⟨by simp, by simp⟩
  | n + 13, _, _ => intro g hg; simp [flds] at hg
theorem sm_plain {x : Ask} (hf : Fit x) (da : LS → LS) (h1 : x.kind.toNat ≠ 1) (h2 : x.kind.toNat ≠ 12) {s : LS} {m : Nat} (hs : Sm s m) : Sm (lFlds x da (flds x.kind.toNat) s) (m + 7707) := by
  have := sm_fs x da 2569 (flds x.kind.toNat) (fun g hg s m hs => sm_fqB hf da g (flds_plain _ h1 h2 g hg).1 (flds_plain _ h1 h2 g hg).2 hs) hs
  have h3 := flds_len x.kind.toNat
  exact this.mono (by have : (flds x.kind.toNat).length * 2569 ≤ 3 * 2569 := Nat.mul_le_mul_right _ h3; omega)
theorem sm_askB {x : Ask} (hf : Fit x) {s : LS} {m : Nat} (hs : Sm s m) : Sm (lAsk x s) (m + 7708) := by
  show Sm (lReq x id 3 7 s) _
  rw [lReq]
  split
  · rename_i hw
    have hk := wi_iff.1 hw
    have h1 : Sm (lMark x.kind 3 7 s) (m + 1) := hs.lif _ _ _
    have := sm_plain hf id (by omega) (by omega) h1
    exact fun bs e => (this.mono (by omega)) bs e
  · exact fun bs e => (hs.mono (by omega)) bs e
theorem sm_asksB : ∀ (l : List Ask) {s : LS} {m : Nat}, (∀ x ∈ l, Fit x) → Sm s m → Sm (l.foldl (fun s x => lAsk x s) s) (m + l.length * 7708)
  | [], s, m, _, hs => by simpa using hs
  | x :: l, s, m, h, hs => by
    have := sm_asksB l (s := lAsk x s) (m := m + 7708) (fun y hy => h y (by simp [hy])) (sm_askB (h x (by simp)) hs)
    rw [List.foldl_cons, List.length_cons]
    exact this.mono (by rw [Nat.add_mul]; omega)
theorem req_len {x : Ask} {l : List Ask} (hf : Fit x) (hl : ∀ y ∈ l, Fit y) {p : List UInt8} (h : lRequest x l (.ok [], false) = (.ok p, false)) : p.length ≤ 1000000 := by
  have h0 : Sm (WSt.ok [], false) 0 := fun bs e => by injection e with e; subst e; simp
  have h1 : Sm (lMark x.kind 1 12 (.ok [], false)) 1 := (h0.lif _ _ _).mono (by simp)
  have hr : lReq x (lAsks l) 1 12 (.ok [], false) = (.ok p, false) := h
  rw [lReq] at hr
  split at hr
  · rename_i hw
    have hk := wi_iff.1 hw
    have key : ∀ m, Sm (lFlds x (lAsks l) (flds x.kind.toNat) (lMark x.kind 1 12 (.ok [], false))) m → p.length ≤ m := fun m hm => hm p (Prod.mk.inj hr).1
    by_cases a1 : x.kind.toNat = 1
    · rw [a1] at key
      have : Sm (lTexts x.ent 1 32 4096 (lMark x.kind 1 12 (.ok [], false))) (1 + 131369) := h1.lif_if fun _ e => texts_len e
      exact key 1000000 (this.mono (by omega))
    · by_cases a2 : x.kind.toNat = 12
      · rw [a2] at key
        have : Sm (lAsks l (lMark x.kind 1 12 (.ok [], false))) 1000000 := by
          rw [lAsks]
          split
          · rename_i h3
            have hle := (wi_iff.1 h3).2
            have h9 : (digs (l.length : Int).toNat).length ≤ 9 := digs_len9 (by omega)
            have h5 : Sm (lNum (l.length : Int) (lMark x.kind 1 12 (.ok [], false))) (1 + 9) := (h1.lif _ _ _).mono (by omega)
            have := sm_asksB l hl h5
            exact this.mono (by have : l.length ≤ 64 := (by omega); have := Nat.mul_le_mul_right 7708 this; omega)
          · exact fun bs e => (h1.mono (by omega)) bs e
        exact key 1000000 this
      · exact key 1000000 ((sm_plain hf (lAsks l) a1 a2 h1).mono (by omega))
  · cases (Prod.mk.inj hr).2
/-- WHAT COMES BACK -/
theorem lsFs_or (l : List Ask) : ∀ (fs : List Fq) (l0 : List Ask), lsFs l fs l0 = l ∨ lsFs l fs l0 = l0
  | [], l0 => .inr rfl
  | g :: fs, l0 => by
    have h := lsFs_or l fs (lsF l g l0)
    have hc : lsFs l (g :: fs) l0 = lsFs l fs (lsF l g l0) := rfl
    rw [hc]
    rcases h with h | h
    · exact .inl h
    · rw [h]
      cases g <;> first | exact .inl rfl | exact .inr rfl
theorem asks_flat : ∀ (l : List Ask) (acc out : List UInt8), l.foldl (fun s x => lAsk x s) (.ok acc, false) = (.ok out, false) → ∀ y ∈ l, y.n = 0
  | [], _, _, _, y, hy => by cases hy
  | x :: l, acc, out, h, y, hy => by
    have h : l.foldl (fun s x => lAsk x s) (lAsk x (.ok acc, false)) = (.ok out, false) := h
    obtain ⟨m, hm⟩ := (abs_asks l).mid h
    rw [hm] at h
    rcases List.mem_cons.1 hy with rfl | hy
    · have hm : lReq y id 3 7 (.ok acc, false) = (.ok m, false) := hm
      rw [lReq] at hm
      split at hm
      · rename_i hw
        have h2 := (Prod.mk.inj hm).2
        rw [Bool.or_eq_false_iff, Bool.not_eq_false'] at h2
        exact no_ls hw (whole_self' y y.kind.toNat h2.2)
      · cases (Prod.mk.inj hm).2
    · exact asks_flat l m out h y hy
theorem req_flat {x : Ask} {l : List Ask} (hn : x.n = l.length) {p : List UInt8} (h : lRequest x l (.ok [], false) = (.ok p, false)) :
    (∀ y ∈ l, y.n = 0) ∧ (∃ t, p = UInt8.ofNat x.kind.toNat :: t) ∧ 1 ≤ x.kind ∧ x.kind ≤ 12 := by
  have hr : lReq x (lAsks l) 1 12 (.ok [], false) = (.ok p, false) := h
  rw [lReq] at hr
  split at hr
  · rename_i hw
    have hk := wi_iff.1 hw
    have h2 := (Prod.mk.inj hr).2
    rw [Bool.or_eq_false_iff, Bool.not_eq_false'] at h2
    have hs := whole_self' x x.kind.toNat h2.2
    have h1 : lFlds x (lAsks l) (flds x.kind.toNat) (lMark x.kind 1 12 (.ok [], false)) = (.ok p, false) := Prod.ext (Prod.mk.inj hr).1 h2.1
    have hm : lMark x.kind 1 12 (.ok [], false) = (.ok [UInt8.ofNat x.kind.toNat], false) := by
      rw [lMark, lif, if_pos hw, byteErr, if_neg (by omega)]
      rfl
    rw [hm] at h1
    obtain ⟨bs, e1, _⟩ := flds_back x (lAsks l) tAsks l (abs_lAsks l) (asks_back l) hn (flds x.kind.toNat) _ p h1
    refine ⟨fun y hy => ?_, ⟨bs, e1⟩, hk.1, hk.2⟩
    by_cases h12 : x.kind = 12
    · have hfl : flds x.kind.toNat = [.asks] := by rw [h12]; rfl
      rw [hfl] at h1
      have h1 : lAsks l (.ok [UInt8.ofNat x.kind.toNat], false) = (.ok p, false) := h1
      rw [lAsks] at h1
      split at h1
      · obtain ⟨m, hm⟩ := (abs_asks l).mid h1
        rw [hm] at h1
        exact asks_flat l m p h1 y hy
      · cases (Prod.mk.inj h1).2
    · exfalso
      have hx : x.n = 0 := by
        rw [← hs]
        obtain ⟨n, hn2⟩ := Int.eq_ofNat_of_zero_le (show 0 ≤ x.kind by omega)
        rw [hn2, Int.toNat_natCast]
        have a1 : n ≠ 12 := by omega
        match n, a1 with
        | 0, _ | 1, _ | 2, _ | 3, _ | 4, _ | 5, _ | 6, _ | 7, _ | 8, _ | 9, _ | 10, _ | 11, _ => rfl
        | n + 13, _ => rfl
      rw [hx] at hn
      cases l with
      | nil => cases hy
      | cons a b => simp at hn
  · cases (Prod.mk.inj hr).2
/-- a request that was laid down as the payload p -/
structure BackQ (x : Ask) (l : List Ask) (p : List UInt8) : Prop where
  len : p.length ≤ 1000000
  hd : ∃ t, p = UInt8.ofNat x.kind.toNat :: t
  k1 : 1 ≤ x.kind
  k2 : x.kind ≤ 12
  back : ∀ (r : List UInt8) (s : ByteArray) w, Lay w → s.data.toList = wrText p ++ r → s.size ≤ maxLen → Calls Tryz.prog 13 #[.string s] w fun e w' => (∃ ul ue ua, e = .returned (.tuple #[akV x ul ue ua, sv r, .int .i64 0]) ∧ Got w' w.heap.size x l ul ue ua) ∧ Below w.heap.size w w'
  short : ∀ (c : Nat) (s : ByteArray), c < (wrText p).length → s.data.toList = (wrText p).take c → NoD s 172
  flat : ∀ y ∈ l, y.n = 0
theorem backq_of (x : Ask) (l : List Ask) (hf : Fit x) (hl : ∀ y ∈ l, Fit y) (hn : x.n = l.length) (p : List UInt8) (h : lRequest x l (.ok [], false) = (.ok p, false)) : BackQ x l p := by
  have hp := req_len hf hl h
  obtain ⟨hfl, hhd, hk1, hk2⟩ := req_flat hn h
  have hwl : (wrText p).length = (digs p.length).length + p.length := by rw [wrText, List.length_append]
  have hd : (digs p.length).length ≤ 9 := digs_len9 (by omega)
  have ht : ∀ b, rdText (wrText p ++ b) 1048576 = .good p b := fun b => text_there (by rw [top]; omega) (by omega) b
  have hT := req_there x l hn p h
  have hl' := lsFs_or l (flds x.kind.toNat) []
  generalize lsFs l (flds x.kind.toNat) [] = l' at *
  refine ⟨hp, hhd, hk1, hk2, fun r s w T hs hz => ?_, fun c s hc hs => ?_, hfl⟩
  · refine (decode_any s w T hz).mono ?_
    rintro e w' ⟨hb, hD⟩
    rw [hs, ht] at hD
    have hD : DOk (tRequest (⟨p, 0, 0⟩, false)) r w e w' := hD
    rw [hT, DOk, if_pos (by rfl)] at hD
    obtain ⟨ul, ue, ua, e1, e2⟩ := hD
    refine ⟨⟨ul, ue, ua, e1, ?_⟩, hb⟩
    have h6 : x.n = l'.length := e2.2.2.2.2.2
    rcases hl' with rfl | rfl
    · exact e2
    · have : l = [] := by
        cases l with
        | nil => rfl
        | cons a b => rw [h6] at hn; simp at hn
      rw [this]
      exact e2
  · intro w T
    have hz : s.size ≤ maxLen := by
      rw [← data_length, hs, List.length_take]
      unfold maxLen
      omega
    refine (decode_any s w T hz).mono ?_
    rintro e w' ⟨hb, hD⟩
    have hR : rdText s.data.toList 1048576 = .bad 21 := by
      rw [hs]
      refine (pf_text 1048576).short _ _ _ (ht []) _ ((wrText p).drop c) (List.take_append_drop _ _).symm (fun e => ?_)
      have := congrArg List.length e
      rw [List.length_drop, List.length_nil] at this
      omega
    rw [hR] at hD
    exact ⟨hD, hb⟩
theorem encq_cases (x : Ask) (l : List Ask) (hf : Fit x) (hl : ∀ y ∈ l, Fit y) (hn : x.n = l.length) : (∃ c, (c = 170 ∨ c = 171) ∧ encQ x l = .tuple #[sv [], .int .i64 c]) ∨ ∃ p, encQ x l = .tuple #[sv (wrText p), .int .i64 0] ∧ BackQ x l p := by
  rw [encQ]
  split
  · have hz := nz_request x l _ nz_nil
    rw [frO]
    split
    · rename_i hg
      obtain ⟨p, hp⟩ := ws_some hz hg
      have hlp := req_len hf hl hp
      rw [hp]
      exact .inr ⟨p, if_neg (by show ¬ 1048576 < p.length; omega), backq_of x l hf hl hn p hp⟩
    · exact .inl ⟨171, .inr rfl, rfl⟩
  · exact .inl ⟨170, .inl rfl, rfl⟩
end Msg
end Go.Proofs.YteilkpihddfpeaaGreatDoor

namespace Go.Proofs.YteilkpihddfpeaaGreatDoor
open Go.RowKit Cod
namespace Msg

/-- a request that was taken -/
structure It where
  x : Ask
  l : List Ask
  ul : Value
  ue : Value
  ua : Value
  p : List UInt8
def It.em (m : It) : Em := ⟨m.x, m.ul, m.ue, m.ua⟩
/-- the frames, one behind the other -/
def fms (E : List It) : List UInt8 := (E.map fun m => wrText m.p).flatten
theorem fms_snoc (E : List It) (m : It) : fms (E ++ [m]) = fms E ++ wrText m.p := by simp [fms]
theorem fms_drop (E : List It) (k : Nat) (h : k < E.length) : fms (E.drop k) = wrText E[k].p ++ fms (E.drop (k + 1)) := by
  simp only [fms]
  rw [List.drop_eq_getElem_cons h, List.map_cons, List.flatten_cons]
theorem fms_end (E : List It) : fms (E.drop E.length) = [] := by rw [List.drop_length]; rfl
structure Bk1 (w wr : World) (v : Value) (E : List It) : Prop where
  bl : Below w.heap.size w wr
  own : OwnM 7 wr v E.length (emcs (E.map It.em))
  ge : ∀ k, v.ownBlock = some k → w.heap.size ≤ k
  el : ∀ m ∈ E, Ra0 w m.x m.l m.ul m.ue m.ua ∧ m.l.length ≤ maxLen ∧ BackQ m.x m.l m.p
theorem Bk1.nil {w wr : World} (h : Below w.heap.size w wr) : Bk1 w wr (.slice none 0 0) [] := ⟨h, OwnM.nil 7 wr, fun k hk => (by cases hk), fun m hm => (by cases hm)⟩
theorem Bk1.up {w wr w' : World} {v : Value} {E : List It} (h : Bk1 w wr v E) (hb : Below wr.heap.size wr w') : Bk1 w w' v E :=
  ⟨h.bl.trans (hb.mono h.bl.size), h.own.below hb, h.ge, h.el⟩
theorem Ra0.bl {w w' : World} {x : Ask} {l : List Ask} {ul ue ua : Value} (h : Ra0 w x l ul ue ua) (hb : Below w.heap.size w w') : Ra0 w' x l ul ue ua :=
  ⟨(h.ak.bl hb).mono hb.size, h.ft, (h.ls.bl hb).mono hb.size, h.ln, h.lf⟩
theorem Bk1.push {w wr : World} {v : Value} {E : List It} (h : Bk1 w wr v E) (hE : E.length ≤ 2000000) (m : It) (hm : Ra0 w m.x m.l m.ul m.ue m.ua ∧ m.l.length ≤ maxLen ∧ BackQ m.x m.l m.p) :
    ∃ v' w', (Builtin.append_ #[36, 36] 36 #[v, .slice (some ⟨wr.heap.size, 0, none⟩) 1 1]).run Tryz.prog (wr.alloc (.cells #[.int .i64 m.x.kind, .int .i64 m.x.a, .int .i64 m.x.b, .int .i64 m.x.size, m.ul, m.ue, m.ua] 40)) = .ok v' w' ∧ Bk1 w w' v' (E ++ [m]) := by
  obtain ⟨p1, q1, e1, _⟩ := id hm.1.ak.s1
  obtain ⟨p2, q2, e2, _⟩ := id hm.1.ak.s2
  obtain ⟨p3, q3, e3⟩ := id hm.1.ak.s3
  obtain ⟨v', w', r1, r2, r3⟩ := append_oneM 36 40 (.agg #[.int .i64 0, .int .i64 0, .int .i64 0, .int .i64 0, .slice none 0 0, .slice none 0 0, .slice none 0 0]) 104 (by omega) (by kernel_rfl) infoRq rfl wr v E.length (emcs (E.map It.em)) (emc m.em) rfl (fun u hu => by
    simp only [emc, It.em, List.mem_cons, List.not_mem_nil, or_false] at hu
    rcases hu with rfl | rfl | rfl | rfl | rfl | rfl | rfl
    · rfl
    · rfl
    · rfl
    · rfl
    · rw [e1]; rfl
    · rw [e2]; rfl
    · rw [e3]; rfl) h.own hE
  refine ⟨v', w', r1, ⟨⟨?_, ?_, ?_, ?_, ?_⟩, ?_, fun k hk => ?_, fun m' hm' => ?_⟩⟩
  · exact r3.os.trans h.bl.os
  · exact r3.tape.trans h.bl.tape
  · exact r3.output.trans h.bl.output
  · exact Nat.le_trans h.bl.size r3.size
  · intro k hk
    exact (r3.old k (Nat.lt_of_lt_of_le hk h.bl.size) (fun e => by have := h.ge k e; omega)).trans (h.bl.block k hk)
  · rw [List.length_append, List.map_append, List.map_cons, List.map_nil, emcs_snoc]
    exact r2
  · rcases r3.alt with g | ⟨g, _⟩
    · exact h.ge k (by rw [← g]; exact hk)
    · have := g k hk
      have := h.bl.size
      omega
  · rcases List.mem_append.1 hm' with hm' | hm'
    · exact h.el m' hm'
    · rw [List.mem_singleton] at hm'
      subst hm'
      exact hm
theorem Bk1.cells {w wr : World} {a : Option Addr} {cap : Nat} {E : List It} (h : Bk1 w wr (.slice a E.length cap) E) {j : Nat} (hj : j < E.length) :
    ∃ g, a = some ⟨g, 0, none⟩ ∧ g < wr.heap.size ∧ wr.cell? ⟨g, j * 7, none⟩ = some (.int .i64 E[j].x.kind) ∧ wr.cell? ⟨g, j * 7 + 1, none⟩ = some (.int .i64 E[j].x.a) ∧ wr.cell? ⟨g, j * 7 + 2, none⟩ = some (.int .i64 E[j].x.b) ∧ wr.cell? ⟨g, j * 7 + 3, none⟩ = some (.int .i64 E[j].x.size) ∧
      wr.cell? ⟨g, j * 7 + 4, none⟩ = some E[j].ul ∧ wr.cell? ⟨g, j * 7 + 5, none⟩ = some E[j].ue ∧ wr.cell? ⟨g, j * 7 + 6, none⟩ = some E[j].ua := by
  rcases h.own with ⟨e, hE, _⟩ | ⟨g, cap', e, h1, h2, h3, h4, h5, h6⟩
  · omega
  · injection e with e1 e2 e3
    have hm : (E.map It.em)[j]? = some E[j].em := by rw [List.getElem?_map, List.getElem?_eq_getElem hj]; rfl
    have key : ∀ i u, i < 7 → (emc E[j].em)[i]? = some u → wr.cell? ⟨g, j * 7 + i, none⟩ = some u := fun i u hi hu => by
      have := h4 (j * 7 + i) u (by rw [emcs_at (E.map It.em) j _ i hm hi]; exact hu)
      rwa [Nat.zero_add] at this
    exact ⟨g, e1, h6, key 0 _ (by omega) rfl, key 1 _ (by omega) rfl, key 2 _ (by omega) rfl, key 3 _ (by omega) rfl, key 4 _ (by omega) rfl, key 5 _ (by omega) rfl, key 6 _ (by omega) rfl⟩
theorem first_byte {x : Ask} {P : ByteArray} {p t : List UInt8} (hP : P.data.toList = p) (hp : p = UInt8.ofNat x.kind.toNat :: t) (h1 : 1 ≤ x.kind) (h2 : x.kind ≤ 12) : (((P.data.toList.getD 0 0).toNat : Nat) : Int) = x.kind := by
  rw [hP, hp]
  show (((UInt8.ofNat x.kind.toNat).toNat : Nat) : Int) = _
  rw [UInt8.toNat_ofNat']
  omega
theorem arr_ext {a b : ByteArray} (h : a.data.toList = b.data.toList) : a = b := by
  cases a; cases b
  congr
  exact Array.toList_inj.1 h
set_option maxRecDepth 100000 in
set_option maxHeartbeats 16000000 in
theorem back17_any (v0 : Value) (L : List (Ask × List Ask)) (bh : ByteArray) (cut : Int) (hc1 : -9223372036854775808 ≤ cut) (hc2 : cut ≤ 9223372036854775807) (hbh : bh.size ≤ 4611686018427380000) (w : World) (T : Lay w) (hL : Lq w v0 L) (hLl : L.length ≤ maxLen) :
    Calls Tryz.prog 4 #[v0, .string bh, .int .i64 cut] w fun e w' => e = .returned (.bool true) ∧ Below w.heap.size w w' := by
  have hT := T.lt
  have i1 := known17_any w T
  have HT := hid T
  obtain ⟨a, cap, rfl, hL⟩ := hL
  have HL := hid hL
  unfold maxLen at hLl
  obtain ⟨N, hN⟩ : ∃ N, min L.length 12 = N := ⟨_, rfl⟩
  have yh : (bh.toList == bh.toList) = true := by simp
  clear hL T
  go_enter Tryz.func4, Tryz.ntmps4
  go_wp2_with (go_at_call 5; refine i1.mono ?_; rintro e w1 ⟨rfl, g1⟩; have B1 := hid g1; clear g1)
  go_loopw [8, 9, 10] (fun s all i w' => ∃ (k : Nat) (E : List It) (b : ByteArray) (pa : Option Addr) (pc : Nat), k ≤ N ∧ i = .int .i64 k ∧ s = .string b ∧ all = .slice pa E.length pc ∧ Hid (b.data.toList = fms E) ∧ Hid (b.size ≤ k * 1000009) ∧ E.length ≤ k ∧ Hid (Bk1 w w' (.slice pa E.length pc) E)) (fun _ _ i _ => N - (intOf i).toNat)
  case atStart => exact ⟨0, [], ⟨#[]⟩, none, 0, by omega, rfl, rfl, rfl, hid rfl, hid (Nat.le_refl _), Nat.le_refl _, hid (Bk1.nil B1.out)⟩
  case round =>
    obtain ⟨k, E, b, pa, pc, hk, rfl, rfl, rfl, hb, hbz, hEk, hB⟩ := hrel
    by_cases hlt : k < N
    · have hlq : k < L.length := by omega
      have b0 : (k : Int) < (L.length : Int) := by omega
      have b1 : (k : Int) < 12 := by omega
      obtain ⟨y, ul, ue, ua, hy, hyb, a0, a1, a2, a3, a4, a5, a6, hR, hRl⟩ := HL.out k _ (List.getElem?_eq_getElem hlq)
      subst hy
      have DS : Hid (∀ w', Below w.heap.size w w' → w'.cell? (y.add (k * 7)) = some (.int .i64 L[k].1.kind) ∧ w'.cell? ⟨(y.add (k * 7)).block, (y.add (k * 7)).off + 1, none⟩ = some (.int .i64 L[k].1.a) ∧ w'.cell? ⟨(y.add (k * 7)).block, (y.add (k * 7)).off + 2, none⟩ = some (.int .i64 L[k].1.b) ∧ w'.cell? ⟨(y.add (k * 7)).block, (y.add (k * 7)).off + 3, none⟩ = some (.int .i64 L[k].1.size) ∧ w'.cell? ⟨(y.add (k * 7)).block, (y.add (k * 7)).off + 4, none⟩ = some ul ∧ w'.cell? ⟨(y.add (k * 7)).block, (y.add (k * 7)).off + 5, none⟩ = some ue ∧ w'.cell? ⟨(y.add (k * 7)).block, (y.add (k * 7)).off + 6, none⟩ = some ua) := fun w' hb => by
        rw [← Go.Deep.add_add] at a1 a2 a3 a4 a5 a6
        have key : ∀ (p : Addr) v, p.block < w.heap.size → w.cell? p = some v → w'.cell? p = some v := fun p v h1 h2 => (hb.cell h1).trans h2
        have hyb' : (y.add (k * 7)).block < w.heap.size := by rw [add_block]; exact hyb
        exact ⟨key _ _ hyb' a0, key _ _ hyb' a1, key _ _ hyb' a2, key _ _ hyb' a3, key _ _ hyb' a4, key _ _ hyb' a5, key _ _ hyb' a6⟩
      have HR := hid hR
      obtain ⟨p1, q1, e1, _⟩ := id hR.ak.s1
      obtain ⟨p2, q2, e2, _⟩ := id hR.ak.s2
      obtain ⟨p3, q3, e3⟩ := id hR.ak.s3
      subst e1 e2 e3
      have i2 := encode_any (HT.out.below hB.out.bl hT) (hR.bl hB.out.bl)
      have hcs := encq_cases L[k].1 L[k].2 hR.ft hR.lf hR.ln
      obtain ⟨c0, c1, c2, c3, c4, c5, c6⟩ := DS.out wr hB.out.bl
      clear a0 a1 a2 a3 a4 a5 a6 hR
      generalize L[k].1 = x at *
      generalize L[k].2 = l at *
      rw [akV] at i2
      have HZ1 : Hid (b.size ≤ (k + 1) * 1000009) := Nat.le_trans hbz.out (Nat.mul_le_mul_right _ (Nat.le_succ k))
      have hb12 : b.size ≤ 12000108 := Nat.le_trans hbz.out (Nat.le_trans (Nat.mul_le_mul_right 1000009 (show k ≤ 12 by omega)) (by decide))
      rcases hcs with ⟨c, hc, he⟩ | ⟨p, he, hq⟩
      · rw [he, show sv [] = .string ⟨#[]⟩ from rfl] at i2
        rcases hc with rfl | rfl
        · go_wp2_with (go_at_call 10; refine i2.mono ?_; rintro e w2 ⟨rfl, g2⟩; have B2 := hid (hB.out.up g2); clear g2)
          exact ⟨⟨k + 1, E, b, pa, pc, by omega, by go_num, rfl, rfl, hb, HZ1, by omega, B2⟩, by simp [intOf]; omega⟩
        · go_wp2_with (go_at_call 10; refine i2.mono ?_; rintro e w2 ⟨rfl, g2⟩; have B2 := hid (hB.out.up g2); clear g2)
          exact ⟨⟨k + 1, E, b, pa, pc, by omega, by go_num, rfl, rfl, hb, HZ1, by omega, B2⟩, by simp [intOf]; omega⟩
      · obtain ⟨F, hF⟩ : ∃ F, Hid (sv (wrText p) = .string F) := ⟨_, hid rfl⟩
        obtain ⟨hFd, hFz⟩ := str_eta17 hF.out
        rw [he, hF.out] at i2
        have hd9 : (digs p.length).length ≤ 9 := digs_len9 (by have := hq.len; omega)
        have hd0 := digs_pos p.length
        have hwl : (wrText p).length = (digs p.length).length + p.length := by rw [wrText, List.length_append]
        have hpl := hq.len
        have hf0 : 0 < F.size := by omega
        have hf1 : F.size ≤ 1000009 := by omega
        obtain ⟨P, hP⟩ : ∃ P, Hid (sv p = .string P) := ⟨_, hid rfl⟩
        obtain ⟨hPd, hPz⟩ := str_eta17 hP.out
        obtain ⟨t, ht⟩ := hq.hd
        have hp0 : 0 < P.size := by rw [hPz, ht]; simp
        have ne : P.toList.isEmpty = false := by rw [isEmpty_data, decide_eq_false (by omega)]
        have hrt := text_there (t := p) (most := 1048576) (by rw [top]; omega) (by omega) []
        rw [List.append_nil] at hrt
        have i3 := fun w => unframe_any F w (by unfold maxLen; omega)
        rw [hFd, hrt, tupS, hP.out, show sv [] = .string ⟨#[]⟩ from rfl] at i3
        have i4 := fun w => frame_any P w
        simp only [if_neg (show ¬ 1048576 < P.size by omega)] at i4
        rw [hPd, hF.out] at i4
        obtain ⟨xb, hx, hx2, hi, hi2⟩ := index_any P 0 0 rfl hp0
        have hxk : (xb : Int) = x.kind := by rw [hx.out]; exact first_byte hPd ht hq.k1 hq.k2
        have hxw : IntKind.i64.wrap (xb : Int) = (xb : Int) := by rw [IntKind.wrap_i64]; omega
        have nk : (x.kind != x.kind) = false := by simp
        have yF : (F.toList != F.toList) = false := by simp
        have yF2 : (F.toList == F.toList) = true := by simp
        have hpk := pk_nonneg cut (F.size : Int) (by omega)
        have hpk2 := pk_lt cut (F.size : Int) (by omega)
        obtain ⟨c, hcv⟩ : ∃ c : Nat, Hid (pk cut (F.size : Int) = (c : Int)) := ⟨(pk cut (F.size : Int)).toNat, by show _ = _; omega⟩
        have hc3 : c < F.size := by have := hcv.out; omega
        have i5 := fun w => pick17_any cut (F.size : Int) hc1 hc2 (by omega) (by omega) w
        rw [hcv.out] at i5
        obtain ⟨Z, hZ⟩ : ∃ Z, F.extract 0 c = Z := ⟨_, rfl⟩
        have hZd : Z.data.toList = (wrText p).take c := by rw [← hZ, Lib.extract_data, List.drop_zero, Nat.sub_zero, hFd]
        have HZ := hid (hq.short c Z (by omega) hZd)
        have b3 : (c : Int) ≤ (F.size : Int) := by omega
        have hc3' : c ≤ F.size := by omega
        have hbf : b.size + F.size ≤ 9223372036854775807 := by omega
        have hbf' : (b.size : Int) + (F.size : Int) ≤ 9223372036854775807 := by omega
        have HD : Hid ((b ++ F).data.toList = fms (E ++ [⟨x, l, .slice p1 x.list.length q1, .slice p2 x.ent.length q2, .slice p3 x.n q3, p⟩])) := by
          show _ = _
          rw [app_data17, hb.out, hFd, fms_snoc]
        have HZs : Hid ((b ++ F).size ≤ (k + 1) * 1000009) := by
          show _ ≤ _
          have e : (b ++ F).size = b.size + F.size := by rw [← data_length, app_data17, List.length_append, data_length, data_length]
          rw [e, Nat.add_mul, Nat.one_mul]
          exact Nat.add_le_add hbz.out hf1
        have HQ := hid hq
        have I3 := hid i3
        have I4 := hid i4
        clear hFd hFz hd9 hd0 hwl hpl hPd hPz ht hrt i3 i4 hx hpk hpk2 hcv hZd hq he hf1 hP
        rw [hxk] at hi hxw
        go_wp2_with (first
          | (go_at_call 10; refine i2.mono ?_; rintro e w2 ⟨rfl, g2⟩; have B2 := hid (hB.out.up g2); clear g2)
          | (go_at_call 11; refine (I3.out _).mono ?_; rintro e w3 ⟨rfl, g3⟩; have B3 := hid (B2.out.up g3); clear g3)
          | (go_at_call 12; refine (I4.out _).mono ?_; rintro e w4 ⟨rfl, g4⟩; have B4 := hid (B3.out.up g4); obtain ⟨d0, _⟩ := DS.out w4 B4.out.bl; clear g4))
        go_quiet (fail)
        have B5 := hid (B4.out.up (below_drewN17 (Below.refl w4.heap.size w4) nq))
        clear d0
        have I6 : Hid (∀ w6, Below (w4.drewN nq).heap.size (w4.drewN nq) w6 → ∃ pa' pc' w7, (Builtin.append_ #[36, 36] 36 #[.slice pa E.length pc, .slice (some ⟨w6.heap.size + 1, 0, none⟩) 1 1]).run Tryz.prog ((w6.alloc (.cells #[.int .i64 0, .int .i64 0, .int .i64 0, .int .i64 0, .slice none 0 0, .slice none 0 0, .slice none 0 0] 40)).alloc (.cells #[.int .i64 x.kind, .int .i64 x.a, .int .i64 x.b, .int .i64 x.size, .slice p1 x.list.length q1, .slice p2 x.ent.length q2, .slice p3 x.n q3] 40)) = .ok (.slice pa' (E ++ [(It.mk x l (.slice p1 x.list.length q1) (.slice p2 x.ent.length q2) (.slice p3 x.n q3) p)]).length pc') w7 ∧ Bk1 w w7 (.slice pa' (E ++ [(It.mk x l (.slice p1 x.list.length q1) (.slice p2 x.ent.length q2) (.slice p3 x.n q3) p)]).length pc') (E ++ [(It.mk x l (.slice p1 x.list.length q1) (.slice p2 x.ent.length q2) (.slice p3 x.n q3) p)]) ∧ Below w.heap.size w (w6.alloc (.cells #[.int .i64 0, .int .i64 0, .int .i64 0, .int .i64 0, .slice none 0 0, .slice none 0 0, .slice none 0 0] 40))) := fun w6 g6 => by
          have b6 := (B5.out.up g6).up ((Below.refl w6.heap.size w6).alloc (Nat.le_refl _) (.cells #[.int .i64 0, .int .i64 0, .int .i64 0, .int .i64 0, .slice none 0 0, .slice none 0 0, .slice none 0 0] 40))
          obtain ⟨v', w7, r1, r2⟩ := b6.push (by omega) (It.mk x l (.slice p1 x.list.length q1) (.slice p2 x.ent.length q2) (.slice p3 x.n q3) p) ⟨HR.out, hRl, HQ.out⟩
          obtain ⟨pa', pc', hv, _⟩ := r2.own.shape
          subst hv
          rw [size_alloc w6 (.cells #[.int .i64 0, .int .i64 0, .int .i64 0, .int .i64 0, .slice none 0 0, .slice none 0 0, .slice none 0 0] 40)] at r1
          exact ⟨pa', pc', w7, r1, r2, b6.bl⟩
        go_wp2_with (first
          | (go_at_call 9; refine (i5 _).mono ?_; rintro y1 w' ⟨rfl, hw'⟩; rw [hw']; clear hw' w')
          | (go_at_call 13; fail))
        go_at_call 13
        refine (HZ.out _ (HT.out.below B5.out.bl hT)).mono ?_
        rintro e w6 ⟨rfl, g6⟩
        obtain ⟨pa', pc', w7, hc, r2, b6⟩ := I6.out w6 g6
        obtain ⟨d0, d1, d2, d3, d4, d5, d6⟩ := DS.out _ b6
        have R2 := hid r2
        clear g6 r2 b6 c0 c1 c2 c3 c4 c5 c6
        go_wp2_with (at_builtin; go_must (refine Lib.wpList_append_run _ rfl _ _ 36 36 rfl _ _ rfl rfl _ _ hc ?_))
        exact ⟨⟨k + 1, E ++ [(It.mk x l (.slice p1 x.list.length q1) (.slice p2 x.ent.length q2) (.slice p3 x.n q3) p)], b ++ F, pa', pc', by omega, by go_num, rfl, by rw [List.length_append]; rfl, HD, HZs, by rw [List.length_append]; simp; omega, R2⟩, by simp [intOf]; omega⟩
    · obtain rfl : k = N := by omega
      have hb12 : b.size ≤ 12000108 := Nat.le_trans hbz.out (Nat.le_trans (Nat.mul_le_mul_right 1000009 (show k ≤ 12 by omega)) (by decide))
      have hbb : b.size + bh.size ≤ 9223372036854775807 := by omega
      have hbb' : (b.size : Int) + (bh.size : Int) ≤ 9223372036854775807 := by omega
      have H0 : Hid ((b ++ bh).data.toList = fms (E.drop 0) ++ bh.data.toList) := by
        show _ = _
        rw [app_data17, hb.out, List.drop_zero]
      have H0z : Hid ((b ++ bh).size ≤ 4611686018439380108) := by
        show _ ≤ _
        have e : (b ++ bh).size = b.size + bh.size := by rw [← data_length, app_data17, List.length_append, data_length, data_length]
        rw [e]
        omega
      by_cases he2 : ¬ (k : Int) < (L.length : Int)
      · go_wp2
        go_loopw [8, 22] (fun s i w' => ∃ (j : Nat) (c : ByteArray), j ≤ E.length ∧ i = .int .i64 j ∧ s = .string c ∧ Hid (c.data.toList = fms (E.drop j) ++ bh.data.toList) ∧ c.size ≤ 4611686018439380108 ∧ Hid (Bk1 w w' (.slice pa E.length pc) E)) (fun _ i _ => E.length - (intOf i).toNat)
        case atStart => exact ⟨0, _, by omega, rfl, rfl, H0, H0z.out, hB⟩
        case round =>
          obtain ⟨j, c, hj, rfl, rfl, hcd, hcz, hB2⟩ := hrel
          by_cases hjk : j < E.length
          · have d0 : (j : Int) < (E.length : Int) := by omega
            obtain ⟨hm1, hm2, hm3⟩ := hB2.out.el E[j] (List.getElem_mem hjk)
            have hcd2 := hcd.out
            rw [fms_drop E j hjk, List.append_assoc] at hcd2
            obtain ⟨R, hR⟩ : ∃ R, Hid (sv (fms (E.drop (j + 1)) ++ bh.data.toList) = .string R) := ⟨_, hid rfl⟩
            obtain ⟨hRd, hRz⟩ := str_eta17 hR.out
            have i6 := hm3.back (fms (E.drop (j + 1)) ++ bh.data.toList) c wr (HT.out.below hB2.out.bl hT) hcd2 (by unfold maxLen; omega)
            rw [hR.out] at i6
            have hlt2 : R.size < c.size := by
              have := digs_pos E[j].p.length
              rw [hRz, ← data_length c, hcd2, wrText]
              simp only [List.length_append]
              omega
            have b5 : (R.size : Int) < (c.size : Int) := by omega
            have hRz2 : R.size ≤ 4611686018439380108 := by omega
            have HRd := hid hRd
            have CL : Hid (∀ w', Bk1 w w' (.slice pa E.length pc) E → ∃ g, pa = some ⟨g, 0, none⟩ ∧ g < w'.heap.size ∧ w'.cell? ⟨g, j * 7, none⟩ = some (.int .i64 E[j].x.kind) ∧ w'.cell? ⟨g, j * 7 + 1, none⟩ = some (.int .i64 E[j].x.a) ∧ w'.cell? ⟨g, j * 7 + 2, none⟩ = some (.int .i64 E[j].x.b) ∧ w'.cell? ⟨g, j * 7 + 3, none⟩ = some (.int .i64 E[j].x.size) ∧ w'.cell? ⟨g, j * 7 + 4, none⟩ = some E[j].ul ∧ w'.cell? ⟨g, j * 7 + 5, none⟩ = some E[j].ue ∧ w'.cell? ⟨g, j * 7 + 6, none⟩ = some E[j].ua) := fun w' h => h.cells hjk
            have HM3 := hid hm3
            have HM1 := hid hm1
            generalize E[j] = m at *
            obtain ⟨x, l, ul, ue, ua, p⟩ := m
            simp only at i6 HM3 HM1 CL hm1 hm2
            obtain ⟨p1, q1, e1, _⟩ := id hm1.ak.s1
            obtain ⟨p2, q2, e2, _⟩ := id hm1.ak.s2
            obtain ⟨p3, q3, e3⟩ := id hm1.ak.s3
            subst e1 e2 e3
            clear hcd2 hm1 hm3 hRd hRz
            go_wp2_with (go_at_call 13; fail)
            go_at_call 13
            refine i6.mono ?_
            rintro e w3 ⟨⟨vl, ve, va, rfl, hG⟩, g3⟩
            obtain ⟨s1, t1, e1, _⟩ := id hG.1
            obtain ⟨s2, t2, e2, _⟩ := id hG.2.2.1
            obtain ⟨s3, t3, e3⟩ := id hG.2.2.2.2.1.shape
            subst e1 e2 e3
            have hln := HM1.out.ln
            rw [← hln] at hG ⊢
            rw [akV]
            have b4 := (Below.refl w3.heap.size w3).alloc (Nat.le_refl _) (.cells (aqO x (.slice s1 x.list.length t1) (.slice s2 x.ent.length t2) (.slice s3 x.n t3)) 40)
            have r4 := heap_alloc_new w3 (.cells (aqO x (.slice s1 x.list.length t1) (.slice s2 x.ent.length t2) (.slice s3 x.n t3)) 40)
            have B4 := hid ((hB2.out.up g3).up b4)
            have z4 := size_alloc w3 (.cells (aqO x (.slice s1 x.list.length t1) (.slice s2 x.ent.length t2) (.slice s3 x.n t3)) 40)
            obtain ⟨k1, k2, k3, k4, k5, k6⟩ := hG.bl b4
            have Q1 := HM1.out.bl B4.out.bl
            have i7 := sameRequest_yes (w := (w3.alloc (.cells (aqO x (.slice s1 x.list.length t1) (.slice s2 x.ent.length t2) (.slice s3 x.n t3)) 40)).drew) (hi := (w3.alloc (.cells (aqO x (.slice s1 x.list.length t1) (.slice s2 x.ent.length t2) (.slice s3 x.n t3)) 40)).heap.size) (p3 := s3) (q3 := t3) (p4 := p3) (q4 := q3) hln (k5.aq.bl (Below.refl _ _).drew) (Q1.ls.bl (Below.refl _ _).drew) (Nat.le_refl _) (fun y hy => ⟨HM3.out.flat y hy, (HM1.out.lf y hy).ll, (HM1.out.lf y hy).el⟩) hm2 (SlcI.drew k1) (Slc.drew k3) (SlcI.drew Q1.ak.s1) (Slc.drew Q1.ak.s2) HM1.out.ft.ll HM1.out.ft.el
            obtain ⟨g, eg, hg, o0, o1, o2, o3, o4, o5, o6⟩ := CL.out _ B4.out
            subst eg
            have S0 : (w3.alloc (.cells (aqO x (.slice s1 x.list.length t1) (.slice s2 x.ent.length t2) (.slice s3 x.n t3)) 40)).cell? ⟨w3.heap.size, 0, none⟩ = some (.int .i64 x.kind) ∧ (w3.alloc (.cells (aqO x (.slice s1 x.list.length t1) (.slice s2 x.ent.length t2) (.slice s3 x.n t3)) 40)).cell? ⟨w3.heap.size, 1, none⟩ = some (.int .i64 x.a) ∧ (w3.alloc (.cells (aqO x (.slice s1 x.list.length t1) (.slice s2 x.ent.length t2) (.slice s3 x.n t3)) 40)).cell? ⟨w3.heap.size, 2, none⟩ = some (.int .i64 x.b) ∧ (w3.alloc (.cells (aqO x (.slice s1 x.list.length t1) (.slice s2 x.ent.length t2) (.slice s3 x.n t3)) 40)).cell? ⟨w3.heap.size, 3, none⟩ = some (.int .i64 x.size) ∧ (w3.alloc (.cells (aqO x (.slice s1 x.list.length t1) (.slice s2 x.ent.length t2) (.slice s3 x.n t3)) 40)).cell? ⟨w3.heap.size, 4, none⟩ = some (.slice s1 x.list.length t1) ∧ (w3.alloc (.cells (aqO x (.slice s1 x.list.length t1) (.slice s2 x.ent.length t2) (.slice s3 x.n t3)) 40)).cell? ⟨w3.heap.size, 5, none⟩ = some (.slice s2 x.ent.length t2) ∧ (w3.alloc (.cells (aqO x (.slice s1 x.list.length t1) (.slice s2 x.ent.length t2) (.slice s3 x.n t3)) 40)).cell? ⟨w3.heap.size, 6, none⟩ = some (.slice s3 x.n t3) ∧ (w3.alloc (.cells (aqO x (.slice s1 x.list.length t1) (.slice s2 x.ent.length t2) (.slice s3 x.n t3)) 40)).cell? ⟨g, j * 7, none⟩ = some (.int .i64 x.kind) ∧ (w3.alloc (.cells (aqO x (.slice s1 x.list.length t1) (.slice s2 x.ent.length t2) (.slice s3 x.n t3)) 40)).cell? ⟨g, j * 7 + 1, none⟩ = some (.int .i64 x.a) ∧ (w3.alloc (.cells (aqO x (.slice s1 x.list.length t1) (.slice s2 x.ent.length t2) (.slice s3 x.n t3)) 40)).cell? ⟨g, j * 7 + 2, none⟩ = some (.int .i64 x.b) ∧ (w3.alloc (.cells (aqO x (.slice s1 x.list.length t1) (.slice s2 x.ent.length t2) (.slice s3 x.n t3)) 40)).cell? ⟨g, j * 7 + 3, none⟩ = some (.int .i64 x.size) ∧ (w3.alloc (.cells (aqO x (.slice s1 x.list.length t1) (.slice s2 x.ent.length t2) (.slice s3 x.n t3)) 40)).cell? ⟨g, j * 7 + 4, none⟩ = some (.slice p1 x.list.length q1) ∧ (w3.alloc (.cells (aqO x (.slice s1 x.list.length t1) (.slice s2 x.ent.length t2) (.slice s3 x.n t3)) 40)).cell? ⟨g, j * 7 + 5, none⟩ = some (.slice p2 x.ent.length q2) ∧ (w3.alloc (.cells (aqO x (.slice s1 x.list.length t1) (.slice s2 x.ent.length t2) (.slice s3 x.n t3)) 40)).cell? ⟨g, j * 7 + 6, none⟩ = some (.slice p3 x.n q3) := ⟨by rw [cell_of_row _ _ _ _ _ _ r4]; rfl, by rw [cell_of_row _ _ _ _ _ _ r4]; rfl, by rw [cell_of_row _ _ _ _ _ _ r4]; rfl, by rw [cell_of_row _ _ _ _ _ _ r4]; rfl, by rw [cell_of_row _ _ _ _ _ _ r4]; rfl, by rw [cell_of_row _ _ _ _ _ _ r4]; rfl, by rw [cell_of_row _ _ _ _ _ _ r4]; rfl, o0, o1, o2, o3, o4, o5, o6⟩
            have SA : Hid (∀ w', Below (w3.alloc (.cells (aqO x (.slice s1 x.list.length t1) (.slice s2 x.ent.length t2) (.slice s3 x.n t3)) 40)).heap.size (w3.alloc (.cells (aqO x (.slice s1 x.list.length t1) (.slice s2 x.ent.length t2) (.slice s3 x.n t3)) 40)) w' → w'.cell? ⟨w3.heap.size, 0, none⟩ = some (.int .i64 x.kind) ∧ w'.cell? ⟨w3.heap.size, 1, none⟩ = some (.int .i64 x.a) ∧ w'.cell? ⟨w3.heap.size, 2, none⟩ = some (.int .i64 x.b) ∧ w'.cell? ⟨w3.heap.size, 3, none⟩ = some (.int .i64 x.size) ∧ w'.cell? ⟨w3.heap.size, 4, none⟩ = some (.slice s1 x.list.length t1) ∧ w'.cell? ⟨w3.heap.size, 5, none⟩ = some (.slice s2 x.ent.length t2) ∧ w'.cell? ⟨w3.heap.size, 6, none⟩ = some (.slice s3 x.n t3) ∧ w'.cell? ⟨g, j * 7, none⟩ = some (.int .i64 x.kind) ∧ w'.cell? ⟨g, j * 7 + 1, none⟩ = some (.int .i64 x.a) ∧ w'.cell? ⟨g, j * 7 + 2, none⟩ = some (.int .i64 x.b) ∧ w'.cell? ⟨g, j * 7 + 3, none⟩ = some (.int .i64 x.size) ∧ w'.cell? ⟨g, j * 7 + 4, none⟩ = some (.slice p1 x.list.length q1) ∧ w'.cell? ⟨g, j * 7 + 5, none⟩ = some (.slice p2 x.ent.length q2) ∧ w'.cell? ⟨g, j * 7 + 6, none⟩ = some (.slice p3 x.n q3)) := fun w' hb => by
              have key : ∀ (p : Addr) v, p.block < (w3.alloc (.cells (aqO x (.slice s1 x.list.length t1) (.slice s2 x.ent.length t2) (.slice s3 x.n t3)) 40)).heap.size → (w3.alloc (.cells (aqO x (.slice s1 x.list.length t1) (.slice s2 x.ent.length t2) (.slice s3 x.n t3)) 40)).cell? p = some v → w'.cell? p = some v := fun p v h1 h2 => (hb.cell h1).trans h2
              have hr : w3.heap.size < (w3.alloc (.cells (aqO x (.slice s1 x.list.length t1) (.slice s2 x.ent.length t2) (.slice s3 x.n t3)) 40)).heap.size := by omega
              obtain ⟨n0, n1, n2, n3, n4, n5, n6, n7, n8, n9, n10, n11, n12, n13⟩ := S0
              exact ⟨key _ _ hr n0, key _ _ hr n1, key _ _ hr n2, key _ _ hr n3, key _ _ hr n4, key _ _ hr n5, key _ _ hr n6, key _ _ hg n7, key _ _ hg n8, key _ _ hg n9, key _ _ hg n10, key _ _ hg n11, key _ _ hg n12, key _ _ hg n13⟩
            clear hG g3 b4 r4 k1 k2 k3 k4 k5 k6 Q1 i6 o0 o1 o2 o3 o4 o5 o6 hln z4
            go_wp2
            go_region_held3 (fun w' => w'.cell? ⟨w3.heap.size, 0, none⟩ = some (.int .i64 x.kind) ∧ w'.cell? ⟨w3.heap.size, 1, none⟩ = some (.int .i64 x.a) ∧ w'.cell? ⟨w3.heap.size, 2, none⟩ = some (.int .i64 x.b) ∧ w'.cell? ⟨w3.heap.size, 3, none⟩ = some (.int .i64 x.size) ∧ w'.cell? ⟨w3.heap.size, 4, none⟩ = some (.slice s1 x.list.length t1) ∧ w'.cell? ⟨w3.heap.size, 5, none⟩ = some (.slice s2 x.ent.length t2) ∧ w'.cell? ⟨w3.heap.size, 6, none⟩ = some (.slice s3 x.n t3) ∧ w'.cell? ⟨g, j * 7, none⟩ = some (.int .i64 x.kind) ∧ w'.cell? ⟨g, j * 7 + 1, none⟩ = some (.int .i64 x.a) ∧ w'.cell? ⟨g, j * 7 + 2, none⟩ = some (.int .i64 x.b) ∧ w'.cell? ⟨g, j * 7 + 3, none⟩ = some (.int .i64 x.size) ∧ w'.cell? ⟨g, j * 7 + 4, none⟩ = some (.slice p1 x.list.length q1) ∧ w'.cell? ⟨g, j * 7 + 5, none⟩ = some (.slice p2 x.ent.length q2) ∧ w'.cell? ⟨g, j * 7 + 6, none⟩ = some (.slice p3 x.n q3)) (first | exact S0 | exact S1) (first | (go_at_call 14; (with_reducible refine i7.mono ?_); rintro e w5 ⟨rfl, g5⟩; have S1 := SA.out w5 (((Below.refl _ _).drew).trans g5); have B5 := hid (B4.out.up (((Below.refl _ _).drew).trans g5)); clear g5))
            go_wp2
            exact ⟨⟨j + 1, R, by omega, by go_num, rfl, HRd, hRz2, B5⟩, by simp [intOf]; omega⟩
          · obtain rfl : j = E.length := by omega
            have hcb : c = bh := arr_ext (by rw [hcd.out, fms_end, List.nil_append])
            subst hcb
            go_wp2
            go_ret
            exact ⟨rfl, hB2.out.bl⟩
      · have b2 : (k : Int) < (L.length : Int) := by omega
        have b3 : ¬ (k : Int) < 12 := by omega
        clear he2
        go_wp2
        go_loopw [8, 22] (fun s i w' => ∃ (j : Nat) (c : ByteArray), j ≤ E.length ∧ i = .int .i64 j ∧ s = .string c ∧ Hid (c.data.toList = fms (E.drop j) ++ bh.data.toList) ∧ c.size ≤ 4611686018439380108 ∧ Hid (Bk1 w w' (.slice pa E.length pc) E)) (fun _ i _ => E.length - (intOf i).toNat)
        case atStart => exact ⟨0, _, by omega, rfl, rfl, H0, H0z.out, hB⟩
        case round =>
          obtain ⟨j, c, hj, rfl, rfl, hcd, hcz, hB2⟩ := hrel
          by_cases hjk : j < E.length
          · have d0 : (j : Int) < (E.length : Int) := by omega
            obtain ⟨hm1, hm2, hm3⟩ := hB2.out.el E[j] (List.getElem_mem hjk)
            have hcd2 := hcd.out
            rw [fms_drop E j hjk, List.append_assoc] at hcd2
            obtain ⟨R, hR⟩ : ∃ R, Hid (sv (fms (E.drop (j + 1)) ++ bh.data.toList) = .string R) := ⟨_, hid rfl⟩
            obtain ⟨hRd, hRz⟩ := str_eta17 hR.out
            have i6 := hm3.back (fms (E.drop (j + 1)) ++ bh.data.toList) c wr (HT.out.below hB2.out.bl hT) hcd2 (by unfold maxLen; omega)
            rw [hR.out] at i6
            have hlt2 : R.size < c.size := by
              have := digs_pos E[j].p.length
              rw [hRz, ← data_length c, hcd2, wrText]
              simp only [List.length_append]
              omega
            have b5 : (R.size : Int) < (c.size : Int) := by omega
            have hRz2 : R.size ≤ 4611686018439380108 := by omega
            have HRd := hid hRd
            have CL : Hid (∀ w', Bk1 w w' (.slice pa E.length pc) E → ∃ g, pa = some ⟨g, 0, none⟩ ∧ g < w'.heap.size ∧ w'.cell? ⟨g, j * 7, none⟩ = some (.int .i64 E[j].x.kind) ∧ w'.cell? ⟨g, j * 7 + 1, none⟩ = some (.int .i64 E[j].x.a) ∧ w'.cell? ⟨g, j * 7 + 2, none⟩ = some (.int .i64 E[j].x.b) ∧ w'.cell? ⟨g, j * 7 + 3, none⟩ = some (.int .i64 E[j].x.size) ∧ w'.cell? ⟨g, j * 7 + 4, none⟩ = some E[j].ul ∧ w'.cell? ⟨g, j * 7 + 5, none⟩ = some E[j].ue ∧ w'.cell? ⟨g, j * 7 + 6, none⟩ = some E[j].ua) := fun w' h => h.cells hjk
            have HM3 := hid hm3
            have HM1 := hid hm1
            generalize E[j] = m at *
            obtain ⟨x, l, ul, ue, ua, p⟩ := m
            simp only at i6 HM3 HM1 CL hm1 hm2
            obtain ⟨p1, q1, e1, _⟩ := id hm1.ak.s1
            obtain ⟨p2, q2, e2, _⟩ := id hm1.ak.s2
            obtain ⟨p3, q3, e3⟩ := id hm1.ak.s3
            subst e1 e2 e3
            clear hcd2 hm1 hm3 hRd hRz
            go_wp2_with (go_at_call 13; fail)
            go_at_call 13
            refine i6.mono ?_
            rintro e w3 ⟨⟨vl, ve, va, rfl, hG⟩, g3⟩
            obtain ⟨s1, t1, e1, _⟩ := id hG.1
            obtain ⟨s2, t2, e2, _⟩ := id hG.2.2.1
            obtain ⟨s3, t3, e3⟩ := id hG.2.2.2.2.1.shape
            subst e1 e2 e3
            have hln := HM1.out.ln
            rw [← hln] at hG ⊢
            rw [akV]
            have b4 := (Below.refl w3.heap.size w3).alloc (Nat.le_refl _) (.cells (aqO x (.slice s1 x.list.length t1) (.slice s2 x.ent.length t2) (.slice s3 x.n t3)) 40)
            have r4 := heap_alloc_new w3 (.cells (aqO x (.slice s1 x.list.length t1) (.slice s2 x.ent.length t2) (.slice s3 x.n t3)) 40)
            have B4 := hid ((hB2.out.up g3).up b4)
            have z4 := size_alloc w3 (.cells (aqO x (.slice s1 x.list.length t1) (.slice s2 x.ent.length t2) (.slice s3 x.n t3)) 40)
            obtain ⟨k1, k2, k3, k4, k5, k6⟩ := hG.bl b4
            have Q1 := HM1.out.bl B4.out.bl
            have i7 := sameRequest_yes (w := (w3.alloc (.cells (aqO x (.slice s1 x.list.length t1) (.slice s2 x.ent.length t2) (.slice s3 x.n t3)) 40)).drew) (hi := (w3.alloc (.cells (aqO x (.slice s1 x.list.length t1) (.slice s2 x.ent.length t2) (.slice s3 x.n t3)) 40)).heap.size) (p3 := s3) (q3 := t3) (p4 := p3) (q4 := q3) hln (k5.aq.bl (Below.refl _ _).drew) (Q1.ls.bl (Below.refl _ _).drew) (Nat.le_refl _) (fun y hy => ⟨HM3.out.flat y hy, (HM1.out.lf y hy).ll, (HM1.out.lf y hy).el⟩) hm2 (SlcI.drew k1) (Slc.drew k3) (SlcI.drew Q1.ak.s1) (Slc.drew Q1.ak.s2) HM1.out.ft.ll HM1.out.ft.el
            obtain ⟨g, eg, hg, o0, o1, o2, o3, o4, o5, o6⟩ := CL.out _ B4.out
            subst eg
            have S0 : (w3.alloc (.cells (aqO x (.slice s1 x.list.length t1) (.slice s2 x.ent.length t2) (.slice s3 x.n t3)) 40)).cell? ⟨w3.heap.size, 0, none⟩ = some (.int .i64 x.kind) ∧ (w3.alloc (.cells (aqO x (.slice s1 x.list.length t1) (.slice s2 x.ent.length t2) (.slice s3 x.n t3)) 40)).cell? ⟨w3.heap.size, 1, none⟩ = some (.int .i64 x.a) ∧ (w3.alloc (.cells (aqO x (.slice s1 x.list.length t1) (.slice s2 x.ent.length t2) (.slice s3 x.n t3)) 40)).cell? ⟨w3.heap.size, 2, none⟩ = some (.int .i64 x.b) ∧ (w3.alloc (.cells (aqO x (.slice s1 x.list.length t1) (.slice s2 x.ent.length t2) (.slice s3 x.n t3)) 40)).cell? ⟨w3.heap.size, 3, none⟩ = some (.int .i64 x.size) ∧ (w3.alloc (.cells (aqO x (.slice s1 x.list.length t1) (.slice s2 x.ent.length t2) (.slice s3 x.n t3)) 40)).cell? ⟨w3.heap.size, 4, none⟩ = some (.slice s1 x.list.length t1) ∧ (w3.alloc (.cells (aqO x (.slice s1 x.list.length t1) (.slice s2 x.ent.length t2) (.slice s3 x.n t3)) 40)).cell? ⟨w3.heap.size, 5, none⟩ = some (.slice s2 x.ent.length t2) ∧ (w3.alloc (.cells (aqO x (.slice s1 x.list.length t1) (.slice s2 x.ent.length t2) (.slice s3 x.n t3)) 40)).cell? ⟨w3.heap.size, 6, none⟩ = some (.slice s3 x.n t3) ∧ (w3.alloc (.cells (aqO x (.slice s1 x.list.length t1) (.slice s2 x.ent.length t2) (.slice s3 x.n t3)) 40)).cell? ⟨g, j * 7, none⟩ = some (.int .i64 x.kind) ∧ (w3.alloc (.cells (aqO x (.slice s1 x.list.length t1) (.slice s2 x.ent.length t2) (.slice s3 x.n t3)) 40)).cell? ⟨g, j * 7 + 1, none⟩ = some (.int .i64 x.a) ∧ (w3.alloc (.cells (aqO x (.slice s1 x.list.length t1) (.slice s2 x.ent.length t2) (.slice s3 x.n t3)) 40)).cell? ⟨g, j * 7 + 2, none⟩ = some (.int .i64 x.b) ∧ (w3.alloc (.cells (aqO x (.slice s1 x.list.length t1) (.slice s2 x.ent.length t2) (.slice s3 x.n t3)) 40)).cell? ⟨g, j * 7 + 3, none⟩ = some (.int .i64 x.size) ∧ (w3.alloc (.cells (aqO x (.slice s1 x.list.length t1) (.slice s2 x.ent.length t2) (.slice s3 x.n t3)) 40)).cell? ⟨g, j * 7 + 4, none⟩ = some (.slice p1 x.list.length q1) ∧ (w3.alloc (.cells (aqO x (.slice s1 x.list.length t1) (.slice s2 x.ent.length t2) (.slice s3 x.n t3)) 40)).cell? ⟨g, j * 7 + 5, none⟩ = some (.slice p2 x.ent.length q2) ∧ (w3.alloc (.cells (aqO x (.slice s1 x.list.length t1) (.slice s2 x.ent.length t2) (.slice s3 x.n t3)) 40)).cell? ⟨g, j * 7 + 6, none⟩ = some (.slice p3 x.n q3) := ⟨by rw [cell_of_row _ _ _ _ _ _ r4]; rfl, by rw [cell_of_row _ _ _ _ _ _ r4]; rfl, by rw [cell_of_row _ _ _ _ _ _ r4]; rfl, by rw [cell_of_row _ _ _ _ _ _ r4]; rfl, by rw [cell_of_row _ _ _ _ _ _ r4]; rfl, by rw [cell_of_row _ _ _ _ _ _ r4]; rfl, by rw [cell_of_row _ _ _ _ _ _ r4]; rfl, o0, o1, o2, o3, o4, o5, o6⟩
            have SA : Hid (∀ w', Below (w3.alloc (.cells (aqO x (.slice s1 x.list.length t1) (.slice s2 x.ent.length t2) (.slice s3 x.n t3)) 40)).heap.size (w3.alloc (.cells (aqO x (.slice s1 x.list.length t1) (.slice s2 x.ent.length t2) (.slice s3 x.n t3)) 40)) w' → w'.cell? ⟨w3.heap.size, 0, none⟩ = some (.int .i64 x.kind) ∧ w'.cell? ⟨w3.heap.size, 1, none⟩ = some (.int .i64 x.a) ∧ w'.cell? ⟨w3.heap.size, 2, none⟩ = some (.int .i64 x.b) ∧ w'.cell? ⟨w3.heap.size, 3, none⟩ = some (.int .i64 x.size) ∧ w'.cell? ⟨w3.heap.size, 4, none⟩ = some (.slice s1 x.list.length t1) ∧ w'.cell? ⟨w3.heap.size, 5, none⟩ = some (.slice s2 x.ent.length t2) ∧ w'.cell? ⟨w3.heap.size, 6, none⟩ = some (.slice s3 x.n t3) ∧ w'.cell? ⟨g, j * 7, none⟩ = some (.int .i64 x.kind) ∧ w'.cell? ⟨g, j * 7 + 1, none⟩ = some (.int .i64 x.a) ∧ w'.cell? ⟨g, j * 7 + 2, none⟩ = some (.int .i64 x.b) ∧ w'.cell? ⟨g, j * 7 + 3, none⟩ = some (.int .i64 x.size) ∧ w'.cell? ⟨g, j * 7 + 4, none⟩ = some (.slice p1 x.list.length q1) ∧ w'.cell? ⟨g, j * 7 + 5, none⟩ = some (.slice p2 x.ent.length q2) ∧ w'.cell? ⟨g, j * 7 + 6, none⟩ = some (.slice p3 x.n q3)) := fun w' hb => by
              have key : ∀ (p : Addr) v, p.block < (w3.alloc (.cells (aqO x (.slice s1 x.list.length t1) (.slice s2 x.ent.length t2) (.slice s3 x.n t3)) 40)).heap.size → (w3.alloc (.cells (aqO x (.slice s1 x.list.length t1) (.slice s2 x.ent.length t2) (.slice s3 x.n t3)) 40)).cell? p = some v → w'.cell? p = some v := fun p v h1 h2 => (hb.cell h1).trans h2
              have hr : w3.heap.size < (w3.alloc (.cells (aqO x (.slice s1 x.list.length t1) (.slice s2 x.ent.length t2) (.slice s3 x.n t3)) 40)).heap.size := by omega
              obtain ⟨n0, n1, n2, n3, n4, n5, n6, n7, n8, n9, n10, n11, n12, n13⟩ := S0
              exact ⟨key _ _ hr n0, key _ _ hr n1, key _ _ hr n2, key _ _ hr n3, key _ _ hr n4, key _ _ hr n5, key _ _ hr n6, key _ _ hg n7, key _ _ hg n8, key _ _ hg n9, key _ _ hg n10, key _ _ hg n11, key _ _ hg n12, key _ _ hg n13⟩
            clear hG g3 b4 r4 k1 k2 k3 k4 k5 k6 Q1 i6 o0 o1 o2 o3 o4 o5 o6 hln z4
            go_wp2
            go_region_held3 (fun w' => w'.cell? ⟨w3.heap.size, 0, none⟩ = some (.int .i64 x.kind) ∧ w'.cell? ⟨w3.heap.size, 1, none⟩ = some (.int .i64 x.a) ∧ w'.cell? ⟨w3.heap.size, 2, none⟩ = some (.int .i64 x.b) ∧ w'.cell? ⟨w3.heap.size, 3, none⟩ = some (.int .i64 x.size) ∧ w'.cell? ⟨w3.heap.size, 4, none⟩ = some (.slice s1 x.list.length t1) ∧ w'.cell? ⟨w3.heap.size, 5, none⟩ = some (.slice s2 x.ent.length t2) ∧ w'.cell? ⟨w3.heap.size, 6, none⟩ = some (.slice s3 x.n t3) ∧ w'.cell? ⟨g, j * 7, none⟩ = some (.int .i64 x.kind) ∧ w'.cell? ⟨g, j * 7 + 1, none⟩ = some (.int .i64 x.a) ∧ w'.cell? ⟨g, j * 7 + 2, none⟩ = some (.int .i64 x.b) ∧ w'.cell? ⟨g, j * 7 + 3, none⟩ = some (.int .i64 x.size) ∧ w'.cell? ⟨g, j * 7 + 4, none⟩ = some (.slice p1 x.list.length q1) ∧ w'.cell? ⟨g, j * 7 + 5, none⟩ = some (.slice p2 x.ent.length q2) ∧ w'.cell? ⟨g, j * 7 + 6, none⟩ = some (.slice p3 x.n q3)) (first | exact S0 | exact S1) (first | (go_at_call 14; (with_reducible refine i7.mono ?_); rintro e w5 ⟨rfl, g5⟩; have S1 := SA.out w5 (((Below.refl _ _).drew).trans g5); have B5 := hid (B4.out.up (((Below.refl _ _).drew).trans g5)); clear g5))
            go_wp2
            exact ⟨⟨j + 1, R, by omega, by go_num, rfl, HRd, hRz2, B5⟩, by simp [intOf]; omega⟩
          · obtain rfl : j = E.length := by omega
            have hcb : c = bh := arr_ext (by rw [hcd.out, fms_end, List.nil_append])
            subst hcb
            go_wp2
            go_ret
            exact ⟨rfl, hB2.out.bl⟩
end Msg
end Go.Proofs.YteilkpihddfpeaaGreatDoor
