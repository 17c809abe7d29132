import Derived.Test.YtmhgdcfmfcjagaaGreatDoorPkN6
namespace Go.Proofs.YtmhgdcfmfcjagaaGreatDoor
open Go.RowKit Cod
namespace Msg
structure Part where
  status : Int
  size : Int
  a : Int
  b : Int
  root : List UInt8
  hs : List (List UInt8)
  ent : List (List UInt8)
  n : Nat
def Part.zero : Part := ⟨0, 0, 0, 0, [], [], [], 0⟩
def Part.of (k : Int) : Part := ⟨k, 0, 0, 0, [], [], [], 0⟩
inductive Fr where
  | size | a | over | root | hashes | parts | entries
def rflds : Nat → List Fr
  | 1 => [.size, .a, .root]
  | 2 => [.size, .root]
  | 3 => [.root]
  | 4 => [.hashes]
  | 5 => [.hashes]
  | 6 => [.hashes]
  | 7 => [.hashes]
  | 8 => [.entries, .hashes]
  | 9 => [.a]
  | 10 => [.a, .over, .entries, .hashes]
  | 12 => [.parts]
  | _ => []
def setR (x : Part) : Fr → Part → Part
  | .size, t => ⟨t.status, x.size, t.a, t.b, t.root, t.hs, t.ent, t.n⟩
  | .a, t => ⟨t.status, t.size, x.a, t.b, t.root, t.hs, t.ent, t.n⟩
  | .over, t => ⟨t.status, t.size, t.a, (if wi x.b 0 1 = true then x.b else 0), t.root, t.hs, t.ent, t.n⟩
  | .root, t => ⟨t.status, t.size, t.a, t.b, x.root, t.hs, t.ent, t.n⟩
  | .hashes, t => ⟨t.status, t.size, t.a, t.b, t.root, x.hs, t.ent, t.n⟩
  | .parts, t => ⟨t.status, t.size, t.a, t.b, t.root, t.hs, t.ent, x.n⟩
  | .entries, t => ⟨t.status, t.size, t.a, t.b, t.root, t.hs, x.ent, t.n⟩
def wholeP (x t : Part) : Bool :=
  decide (x.status = t.status) && (decide (x.size = t.size) && (decide (x.a = t.a) && (decide (x.b = t.b) && (decide (x.root = t.root) && (decide (x.hs.length = t.hs.length) && (decide (x.ent.length = t.ent.length) && decide (x.n = t.n)))))))
theorem wholeP_self (x : Part) : wholeP x x = true := by simp [wholeP]
def lFr (x : Part) (dp : LS → LS) : Fr → LS → LS
  | .size => lSize x.size
  | .a => lSize x.a
  | .over => lMark x.b 0 1
  | .root => lRoot x.root
  | .hashes => lHashes x.hs
  | .parts => dp
  | .entries => lTexts x.ent 0 4096 1000
def lFrs (x : Part) (dp : LS → LS) (fs : List Fr) (s : LS) : LS := fs.foldl (fun s g => lFr x dp g s) s
def setRs (x : Part) (fs : List Fr) (t : Part) : Part := fs.foldl (fun t g => setR x g t) t
def stB (x : Int) (least : Int) : Int := if wi x least 8 = true then x else 0
def isDn (x : Int) (least : Int) : Bool := wi x least 8 && decide (x = 0)
def leastOf (kind : Int) : Int := if kind = 0 then 1 else 0
def lTail (x : Part) (least : Int) (L : LS → LS) (t : Part) (s : LS) : LS :=
  if isDn x.status least = true then
    ((L (lMark x.status least 8 s)).1, (L (lMark x.status least 8 s)).2 || !wholeP x t)
  else ((lMark x.status least 8 s).1, (lMark x.status least 8 s).2 || !wholeP x (Part.of (stB x.status least)))
def fm (x : Part) : Int := if x.root = [] then 0 else 1
def fmF (x : Part) : List Fr := if x.root = [] then [.hashes] else [.root]
def lPart (x : Part) : LS → LS := lTail x 0 (fun s => lFrs x id (fmF x) (lMark (fm x) 0 1 s)) (setRs x (fmF x) (Part.of 0))
def lParts (l : List Part) (s : LS) : LS :=
  if wi (l.length : Int) 1 64 = true then l.foldl (fun s x => lPart x s) (lNum (l.length : Int) s) else (s.1, true)
def lReply (kind : Int) (x : Part) (l : List Part) (s : LS) : LS :=
  lTail x (leastOf kind) (lFrs x (lParts l) (rflds kind.toNat)) (setRs x (rflds kind.toNat) (Part.of 0)) (lMark kind kind kind s)
abbrev PR := (Part × List Part) × TS
def tFr (dp : TS → List Part × TS) : Fr → PR → PR
  | .size, p => ((⟨p.1.1.status, ((tSize p.2).1 : Int), p.1.1.a, p.1.1.b, p.1.1.root, p.1.1.hs, p.1.1.ent, p.1.1.n⟩, p.1.2), (tSize p.2).2)
  | .a, p => ((⟨p.1.1.status, p.1.1.size, ((tSize p.2).1 : Int), p.1.1.b, p.1.1.root, p.1.1.hs, p.1.1.ent, p.1.1.n⟩, p.1.2), (tSize p.2).2)
  | .over, p => ((⟨p.1.1.status, p.1.1.size, p.1.1.a, ((tMark 0 1 p.2).1 : Int), p.1.1.root, p.1.1.hs, p.1.1.ent, p.1.1.n⟩, p.1.2), (tMark 0 1 p.2).2)
  | .root, p => ((⟨p.1.1.status, p.1.1.size, p.1.1.a, p.1.1.b, (tRoot p.2).1, p.1.1.hs, p.1.1.ent, p.1.1.n⟩, p.1.2), (tRoot p.2).2)
  | .hashes, p => ((⟨p.1.1.status, p.1.1.size, p.1.1.a, p.1.1.b, p.1.1.root, (tHashes p.2).1, p.1.1.ent, p.1.1.n⟩, p.1.2), (tHashes p.2).2)
  | .parts, p => ((⟨p.1.1.status, p.1.1.size, p.1.1.a, p.1.1.b, p.1.1.root, p.1.1.hs, p.1.1.ent, (dp p.2).1.length⟩, (dp p.2).1), (dp p.2).2)
  | .entries, p => ((⟨p.1.1.status, p.1.1.size, p.1.1.a, p.1.1.b, p.1.1.root, p.1.1.hs, (tTexts 0 4096 1000 p.2).1, p.1.1.n⟩, p.1.2), (tTexts 0 4096 1000 p.2).2)
def tFrs (dp : TS → List Part × TS) (fs : List Fr) (p : PR) : PR := fs.foldl (fun p g => tFr dp g p) p
def tTail (least : Int) (K : TS → PR) (s : TS) : PR :=
  if isDn ((tMark least 8 s).1 : Int) least = true then K (tMark least 8 s).2 else ((Part.of ((tMark least 8 s).1 : Int), []), (tMark least 8 s).2)
def tForm (s : TS) : PR :=
  if wi ((tMark 0 1 s).1 : Int) 0 1 = true then tFrs (fun s => ([], s)) (if (tMark 0 1 s).1 = 0 then [.hashes] else [.root]) ((Part.of 0, []), (tMark 0 1 s).2) else ((Part.of 0, []), (tMark 0 1 s).2)
def tPart (s : TS) : Part × TS := ((tTail 0 tForm s).1.1, (tTail 0 tForm s).2)
def tManyP : Nat → List Part → TS → List Part × TS
  | 0, l, s => (l, s)
  | n + 1, l, s => tManyP n (l ++ [(tPart s).1]) (tPart s).2
def tParts (s : TS) : List Part × TS := tManyP (tCount s).1 [] (tCount s).2
def tReply (kind : Nat) (s : TS) : PR :=
  if wi ((tMark (kind : Int) (kind : Int) s).1 : Int) (kind : Int) (kind : Int) = true then tTail (leastOf (kind : Int)) (fun s => tFrs tParts (rflds kind) ((Part.of 0, []), s)) (tMark (kind : Int) (kind : Int) s).2
  else ((Part.zero, []), (tMark (kind : Int) (kind : Int) s).2)
theorem wi_iff {n lo hi : Int} : wi n lo hi = true ↔ lo ≤ n ∧ n ≤ hi := by rw [wi, decide_eq_true_eq]
theorem sim_tail (least : Int) (K : TS → PR) (L : Part → List Part → LS → LS) (T : Part → Part) (s : TS)
    (hK : ∀ t, (K t).2.1.err = 0 → (K t).2.2 = false → (K t).1.1.status = 0 ∧ T (K t).1.1 = (K t).1.1)
    (hS : ∀ t, Sim t (K t).2 (L (K t).1.1 (K t).1.2)) :
    Sim s (tTail least K s).2 (lTail (tTail least K s).1.1 least (L (tTail least K s).1.1 (tTail least K s).1.2) (T (tTail least K s).1.1)) := by
  intro e1 e2
  have hm := sim_mark least 8 s
  by_cases hd : isDn ((tMark least 8 s).1 : Int) least = true
  · have he : tTail least K s = K (tMark least 8 s).2 := if_pos hd
    rw [he] at e1 e2 ⊢
    have hst : ((tMark least 8 s).1 : Int) = 0 := by
      rw [isDn, Bool.and_eq_true, decide_eq_true_eq] at hd; exact hd.2
    obtain ⟨k1, k2⟩ := hK _ e1 e2
    obtain ⟨a1, a2, bs, a3, a4⟩ := (hm.comp (hS (tMark least 8 s).2)) e1 e2
    refine ⟨a1, a2, bs, a3, fun acc => ?_⟩
    rw [lTail, k1, ← hst, if_pos hd, k2, wholeP_self, Bool.not_true, Bool.or_false]
    exact a4 acc
  · have he : tTail least K s = ((Part.of ((tMark least 8 s).1 : Int), []), (tMark least 8 s).2) := if_neg hd
    rw [he] at e1 e2 ⊢
    obtain ⟨a1, a2, bs, a3, a4⟩ := hm e1 e2
    have hw := mark_ok e2
    refine ⟨a1, a2, bs, a3, fun acc => ?_⟩
    have a4 := a4 acc
    show lTail (Part.of ((tMark least 8 s).1 : Int)) least _ _ _ = _
    rw [lTail, show (Part.of ((tMark least 8 s).1 : Int)).status = ((tMark least 8 s).1 : Int) from rfl, if_neg hd, stB, if_pos hw, wholeP_self, Bool.not_true, Bool.or_false]
    exact a4
theorem sim_form (t : TS) : Sim t (tForm t).2 (fun s => lFrs (tForm t).1.1 id (fmF (tForm t).1.1) (lMark (fm (tForm t).1.1) 0 1 s)) ∧
    ((tForm t).2.1.err = 0 → (tForm t).2.2 = false → (tForm t).1.1.status = 0 ∧ setRs (tForm t).1.1 (fmF (tForm t).1.1) (Part.of 0) = (tForm t).1.1) := by
  have hm := sim_mark 0 1 t
  by_cases hw : wi ((tMark 0 1 t).1 : Int) 0 1 = true
  · by_cases h0 : (tMark 0 1 t).1 = 0
    · have he : tForm t = tFr (fun s => ([], s)) .hashes ((Part.of 0, []), (tMark 0 1 t).2) := by
        rw [tForm, if_pos hw, if_pos h0]; rfl
      rw [he]
      refine ⟨?_, fun _ _ => ⟨rfl, rfl⟩⟩
      have hc := hm.comp (sim_hashes (tMark 0 1 t).2)
      rw [h0] at hc
      exact hc
    · have h1 : (tMark 0 1 t).1 = 1 := by rw [wi_iff] at hw; omega
      have he : tForm t = tFr (fun s => ([], s)) .root ((Part.of 0, []), (tMark 0 1 t).2) := by
        rw [tForm, if_pos hw, if_neg h0]; rfl
      rw [he]
      have hc := hm.comp (sim_root (tMark 0 1 t).2)
      have key : (tRoot (tMark 0 1 t).2).2.1.err = 0 → (tRoot (tMark 0 1 t).2).1 ≠ [] := fun e => by
        obtain ⟨_, v, r, h2, _, h4⟩ := step_good (nz_raw (tMark 0 1 t).2.1.rest 32) e
        have := (raw_back h2).2
        rw [show (tRoot (tMark 0 1 t).2).1 = v from h4 []]
        intro hv; rw [hv] at this; simp at this
      refine ⟨fun e1 e2 => ?_, fun e1 e2 => ?_⟩
      · have hk := key e1
        obtain ⟨a1, a2, bs, a3, a4⟩ := hc e1 e2
        refine ⟨a1, a2, bs, a3, fun acc => ?_⟩
        have a4 := a4 acc
        rw [h1] at a4
        have f1 : fm (tFr (fun s => ([], s)) .root ((Part.of 0, []), (tMark 0 1 t).2)).1.1 = 1 := if_neg hk
        have f2 : fmF (tFr (fun s => ([], s)) .root ((Part.of 0, []), (tMark 0 1 t).2)).1.1 = [.root] := if_neg hk
        rw [f1, f2]
        exact a4
      · have hk := key e1
        have f2 : fmF (tFr (fun s => ([], s)) .root ((Part.of 0, []), (tMark 0 1 t).2)).1.1 = [.root] := if_neg hk
        rw [f2]
        exact ⟨rfl, rfl⟩
  · have he : tForm t = ((Part.of 0, []), (tMark 0 1 t).2) := if_neg hw
    rw [he]
    exact ⟨fun _ e2 => absurd (mark_ok e2) hw, fun _ e2 => absurd (mark_ok e2) hw⟩
theorem sim_part (s : TS) : Sim s (tPart s).2 (lPart (tPart s).1) :=
  sim_tail 0 tForm (fun x _ s => lFrs x id (fmF x) (lMark (fm x) 0 1 s)) (fun x => setRs x (fmF x) (Part.of 0)) s (fun t e1 e2 => (sim_form t).2 e1 e2) (fun t => (sim_form t).1)
theorem tManyP_len : ∀ (n : Nat) (l : List Part) (s : TS), (tManyP n l s).1.length = l.length + n
  | 0, _, _ => rfl
  | n + 1, l, s => by rw [tManyP, tManyP_len n]; simp; omega
theorem sim_manyP : ∀ (n : Nat) (l : List Part) (s : TS), ∃ l', (tManyP n l s).1 = l ++ l' ∧ Sim s (tManyP n l s).2 (fun t => l'.foldl (fun s x => lPart x s) t)
  | 0, l, s => ⟨[], by simp [tManyP], Sim.refl s⟩
  | n + 1, l, s => by
    obtain ⟨l', h1, h2⟩ := sim_manyP n (l ++ [(tPart s).1]) (tPart s).2
    exact ⟨(tPart s).1 :: l', by rw [tManyP, h1, List.append_assoc]; rfl, (sim_part s).comp h2⟩
theorem sim_parts (s : TS) : Sim s (tParts s).2 (lParts (tParts s).1) := fun e1 e2 => by
  obtain ⟨l', h1, h2⟩ := sim_manyP (tCount s).1 [] (tCount s).2
  obtain ⟨c1, c2⟩ := sim_count s
  have hl := tManyP_len (tCount s).1 [] (tCount s).2
  obtain ⟨_, b2, _⟩ := h2 e1 e2
  have c2 := c2 b2
  rw [List.nil_append] at h1
  have hl' : (tParts s).1.length = (tCount s).1 := by rw [tParts, hl]; simp
  obtain ⟨a1, a2, bs, a3, a4⟩ := (c1.comp h2) e1 e2
  refine ⟨a1, a2, bs, a3, fun acc => ?_⟩
  rw [lParts, hl', if_pos c2, show (tParts s).1 = l' from h1]
  exact a4 acc
theorem over_ok {p : TS} (h : (tMark 0 1 p).2.2 = false) : (if wi ((tMark 0 1 p).1 : Int) 0 1 = true then ((tMark 0 1 p).1 : Int) else 0) = ((tMark 0 1 p).1 : Int) := if_pos (mark_ok h)
theorem sim_frs (k : Nat) (s : TS) :
    Sim s (tFrs tParts (rflds k) ((Part.of 0, []), s)).2 (lFrs (tFrs tParts (rflds k) ((Part.of 0, []), s)).1.1 (lParts (tFrs tParts (rflds k) ((Part.of 0, []), s)).1.2) (rflds k)) ∧
    ((tFrs tParts (rflds k) ((Part.of 0, []), s)).2.1.err = 0 → (tFrs tParts (rflds k) ((Part.of 0, []), s)).2.2 = false → (tFrs tParts (rflds k) ((Part.of 0, []), s)).1.1.status = 0 ∧
      setRs (tFrs tParts (rflds k) ((Part.of 0, []), s)).1.1 (rflds k) (Part.of 0) = (tFrs tParts (rflds k) ((Part.of 0, []), s)).1.1) := by
  match k with
  | 0 => exact ⟨Sim.refl _, fun _ _ => ⟨rfl, rfl⟩⟩
  | 1 => exact ⟨((sim_size s).comp (sim_size _)).comp (sim_root _), fun _ _ => ⟨rfl, rfl⟩⟩
  | 2 => exact ⟨(sim_size s).comp (sim_root _), fun _ _ => ⟨rfl, rfl⟩⟩
  | 3 => exact ⟨sim_root s, fun _ _ => ⟨rfl, rfl⟩⟩
  | 4 => exact ⟨sim_hashes s, fun _ _ => ⟨rfl, rfl⟩⟩
  | 5 => exact ⟨sim_hashes s, fun _ _ => ⟨rfl, rfl⟩⟩
  | 6 => exact ⟨sim_hashes s, fun _ _ => ⟨rfl, rfl⟩⟩
  | 7 => exact ⟨sim_hashes s, fun _ _ => ⟨rfl, rfl⟩⟩
  | 8 => exact ⟨(sim_texts 0 4096 1000 s).comp (sim_hashes _), fun _ _ => ⟨rfl, rfl⟩⟩
  | 9 => exact ⟨sim_size s, fun _ _ => ⟨rfl, rfl⟩⟩
  | 10 =>
    refine ⟨(((sim_size s).comp (sim_mark 0 1 _)).comp (sim_texts 0 4096 1000 _)).comp (sim_hashes _), fun e1 e2 => ⟨rfl, ?_⟩⟩
    obtain ⟨_, h2, _⟩ := ((sim_texts 0 4096 1000 (tMark 0 1 (tSize s).2).2).comp (sim_hashes _)) e1 e2
    have := over_ok h2
    show (⟨0, 0, _, (if wi ((tMark 0 1 (tSize s).2).1 : Int) 0 1 = true then ((tMark 0 1 (tSize s).2).1 : Int) else 0), [], _, _, 0⟩ : Part) = _
    rw [this]
    rfl
  | 11 => exact ⟨Sim.refl _, fun _ _ => ⟨rfl, rfl⟩⟩
  | 12 => exact ⟨sim_parts s, fun _ _ => ⟨rfl, rfl⟩⟩
  | n + 13 => exact ⟨Sim.refl _, fun _ _ => ⟨rfl, rfl⟩⟩
theorem sim_reply (kind : Nat) (s : TS) : Sim s (tReply kind s).2 (lReply (kind : Int) (tReply kind s).1.1 (tReply kind s).1.2) := by
  by_cases hw : wi ((tMark (kind : Int) (kind : Int) s).1 : Int) (kind : Int) (kind : Int) = true
  · have he : tReply kind s = tTail (leastOf (kind : Int)) (fun s => tFrs tParts (rflds kind) ((Part.of 0, []), s)) (tMark (kind : Int) (kind : Int) s).2 := if_pos hw
    rw [he]
    have hk : ((tMark (kind : Int) (kind : Int) s).1 : Int) = (kind : Int) := by rw [wi_iff] at hw; omega
    have hm := sim_mark (kind : Int) (kind : Int) s
    rw [hk] at hm
    have ht := sim_tail (leastOf (kind : Int)) (fun s => tFrs tParts (rflds kind) ((Part.of 0, []), s)) (fun x l s => lFrs x (lParts l) (rflds kind) s) (fun x => setRs x (rflds kind) (Part.of 0)) (tMark (kind : Int) (kind : Int) s).2 (fun t e1 e2 => (sim_frs kind t).2 e1 e2) (fun t => (sim_frs kind t).1)
    refine (hm.comp ht).cast fun t => ?_
    rw [lReply, Int.toNat_natCast]
  · intro e1 e2
    rw [tReply, if_neg hw] at e2
    exact absurd (mark_ok e2) hw
theorem reply_strict (kind : Nat) (p : List UInt8) (h : (tReply kind (⟨p, 0, 0⟩, false)).2.1.done = 0) (k : (tReply kind (⟨p, 0, 0⟩, false)).2.2 = false) :
    lReply (kind : Int) (tReply kind (⟨p, 0, 0⟩, false)).1.1 (tReply kind (⟨p, 0, 0⟩, false)).1.2 (.ok [], false) = (.ok p, false) := by
  have he : (tReply kind (⟨p, 0, 0⟩, false)).2.1.err = 0 := by
    by_cases he : (tReply kind (⟨p, 0, 0⟩, false)).2.1.err = 0
    · exact he
    · rw [RS.done, if_neg he] at h; exact h
  have hr : (tReply kind (⟨p, 0, 0⟩, false)).2.1.rest = [] := by
    rw [RS.done, if_pos he] at h
    by_cases h0 : (tReply kind (⟨p, 0, 0⟩, false)).2.1.rest.length = 0
    · exact List.length_eq_zero_iff.1 h0
    · rw [if_neg h0] at h; cases h
  obtain ⟨_, _, bs, a3, a4⟩ := sim_reply kind (⟨p, 0, 0⟩, false) he k
  rw [hr, List.append_nil] at a3
  have a3 : p = bs := a3
  rw [a4, List.nil_append, a3]
end Msg
end Go.Proofs.YtmhgdcfmfcjagaaGreatDoor

namespace Go.Proofs.YtmhgdcfmfcjagaaGreatDoor
open Go.RowKit Cod
namespace Msg
structure Ly (w : World) (base b c : Nat) (v : Value) (s : LS) : Prop where
  row : w.heap[c]? = some (.cells #[.pointer (some ⟨b, 0, none⟩), .bool s.2] 63 (0, 0))
  wri : Wri w base b v s.1
  ne : c ≠ b
  nv : v.ownBlock ≠ some c
  ge : base ≤ c
def LSet (b c : Nat) (v : Value) : Nat → Prop := fun k => k = c ∨ WS b v k
def Lo (w : World) (base b c : Nat) (v : Value) (s : LS) (w' : World) : Prop := ∃ v', Ly w' base b c v' s ∧ Keep (LSet b c v) w w' ∧ From w v v'
theorem Ly.lt {w : World} {base b c : Nat} {v : Value} {s : LS} (h : Ly w base b c v s) : c < w.heap.size := lt_of_heap h.row
theorem Ly.c0 {w : World} {base b c : Nat} {v : Value} {s : LS} (h : Ly w base b c v s) : w.cell? ⟨c, 0, none⟩ = some (.pointer (some ⟨b, 0, none⟩)) := by rw [cell_of_row _ _ _ _ _ _ h.row]; rfl
theorem Ly.c1 {w : World} {base b c : Nat} {v : Value} {s : LS} (h : Ly w base b c v s) : w.cell? ⟨c, 1, none⟩ = some (.bool s.2) := by rw [cell_of_row _ _ _ _ _ _ h.row]; rfl
theorem Ly.f1 {w : World} {base b c : Nat} {v : Value} {s : LS} (h : Ly w base b c v s) : w.frozen? ⟨c, 1, none⟩ = false := frozen_of_row _ _ _ _ _ h.row
theorem Lo.step {w w1 w2 : World} {base b c : Nat} {v v1 : Value} {s : LS} (k : Keep (LSet b c v) w w1) (f : From w v v1) (h : Lo w1 base b c v1 s w2) : Lo w base b c v s w2 := by
  obtain ⟨v2, h1, h2, h3⟩ := h
  refine ⟨v2, h1, k.trans h2 fun j hj e => ?_, f.trans h3 k.size⟩
  rcases e with e | e | e
  · exact .inl e
  · exact .inr (.inl e)
  · rcases f j e with g | g
    · exact .inr (.inr g)
    · omega
def Lw (base : Nat) (u : Value) : Prop := ∀ x n c, u = .slice (some x) n c → 0 < n → x.block < base
theorem Ly.below {w w' : World} {base b c : Nat} {v : Value} {s : LS} (h : Ly w base b c v s) (hb : Below w.heap.size w w') : Ly w' base b c v s :=
  ⟨(hb.block c h.lt).trans h.row, h.wri.below hb, h.ne, h.nv, h.ge⟩
theorem Ly.set {S : Nat → Prop} {w w' : World} {base b c : Nat} {v : Value} {s : LS} (h : Ly w base b c v s) (hb : Keep S w w') (hS : ∀ k, LSet b c v k → ¬ S k) : Ly w' base b c v s :=
  ⟨(hb.block c h.lt (hS c (.inl rfl))).trans h.row, h.wri.keep hb (fun k hk => hS k (.inr hk)), h.ne, h.nv, h.ge⟩
theorem Ly.mark {w w' : World} {base b c : Nat} {v : Value} {s : LS} (h : Ly w base b c v s) (q : Bool) (hr : w'.heap[c]? = some (.cells #[.pointer (some ⟨b, 0, none⟩), .bool q] 63 (0, 0))) (hb : But c w w') : Ly w' base b c v (s.1, q) :=
  ⟨hr, h.wri.keep (S := fun k => k = c) (Keep.ofBut hb rfl) (fun k hk e => by
    rcases hk with hk | hk
    · exact h.ne (e ▸ hk)
    · exact h.nv (e ▸ hk)), h.ne, h.nv, h.ge⟩
theorem Ly.wrote {w w' : World} {base b c : Nat} {v : Value} {s : LS} {st : WSt} {r : Ending} (h : Ly w base b c v s) (hp : WPost w base b v st r w') : r = .returned (.tuple #[]) ∧ Lo w base b c v (st, s.2) w' := by
  obtain ⟨hr, v', h1, h2, h3⟩ := hp
  have hl := h.lt
  refine ⟨hr, v', ⟨(h2.block c h.lt fun e => ?_).trans h.row, h1, h.ne, fun e => ?_, h.ge⟩, h2.mono fun _ _ e => .inr e, h3⟩
  · rcases e with e | e
    · exact h.ne e
    · exact h.nv e
  · rcases h3 c e with g | g
    · exact h.nv g
    · omega
theorem Ly.ge' {w : World} {base b c : Nat} {v : Value} {s : LS} (h : Ly w base b c v s) : ∀ k, LSet b c v k → base ≤ k ∧ k < w.heap.size := fun k hk => by
  rcases hk with rfl | hk
  · exact ⟨h.ge, h.lt⟩
  · exact h.wri.in k hk
theorem Ly.base {w : World} {base b c : Nat} {v : Value} {s : LS} (h : Ly w base b c v s) : base ≤ w.heap.size := Nat.le_of_lt (Nat.lt_of_le_of_lt h.ge h.lt)
theorem Lo.bl {w w' : World} {base b c : Nat} {v : Value} {s : LS} (h : Ly w base b c v s) (k : Keep (LSet b c v) w w') : Below base w w' :=
  k.below h.base fun j hj e => by have := (h.ge' j e).1; omega
theorem Lw.apart {w : World} {base b c : Nat} {v u : Value} {s : LS} (h : Lw base u) (hy : Ly w base b c v s) : Apart u (WS b v) := fun x n q e h0 hk => by
  have := h x n q e h0
  have := (hy.wri.in _ hk).1
  omega
theorem Lw.slc {w w' : World} {base : Nat} {u : Value} {ps : List (List UInt8)} (h : Lw base u) (hs : Slc w u ps) (hb : Below base w w') : Slc w' u ps :=
  hs.keep (S := fun k => base ≤ k) ⟨hb.os, hb.tape, hb.output, hb.size, fun k _ hk => hb.block k (by omega)⟩ (fun x n q e h0 hk => by have := h x n q e h0; omega)
theorem Lw.slcI {w w' : World} {base : Nat} {u : Value} {ps : List Int} (h : Lw base u) (hs : SlcI w u ps) (hb : Below base w w') : SlcI w' u ps :=
  hs.keep (S := fun k => base ≤ k) ⟨hb.os, hb.tape, hb.output, hb.size, fun k _ hk => hb.block k (by omega)⟩ (fun x n q e h0 hk => by have := h x n q e h0; omega)
set_option maxRecDepth 100000 in
theorem within_any (n lo hi : Int) (w : World) : Calls Tryz.prog 28 #[.int .i64 n, .int .i64 lo, .int .i64 hi] w fun e w' => e = .returned (.bool (wi n lo hi)) ∧ w' = w := by
  by_cases h1 : lo ≤ n
  · by_cases h2 : n ≤ hi
    · have e : wi n lo hi = true := decide_eq_true ⟨h1, h2⟩
      rw [e]
      go_enter Tryz.func28, Tryz.ntmps28
      go_wp2
      go_ret
      exact ⟨rfl, rfl⟩
    · have e : wi n lo hi = false := decide_eq_false (fun h => h2 h.2)
      rw [e]
      go_enter Tryz.func28, Tryz.ntmps28
      go_wp2
      go_ret
      exact ⟨rfl, rfl⟩
  · have e : wi n lo hi = false := decide_eq_false (fun h => h1 h.1)
    rw [e]
    go_enter Tryz.func28, Tryz.ntmps28
    go_wp2
    go_ret
    exact ⟨rfl, rfl⟩
set_option maxRecDepth 100000 in
theorem isSize_any (n : Int) (w : World) : Calls Tryz.prog 164 #[.int .i64 n] w fun e w' => e = .returned (.bool (isSz n)) ∧ w' = w := by
  go_enter Tryz.func164, Tryz.ntmps164
  go_wp2_with (go_at_call 28; refine (within_any _ _ _ _).mono ?_; rintro e w' ⟨rfl, hw'⟩; rw [hw']; clear hw' w')
  go_ret
  exact ⟨rfl, rfl⟩
set_option maxRecDepth 100000 in
set_option maxHeartbeats 400000 in
theorem takes_any {base b c : Nat} {v : Value} {s : LS} (ok : Bool) (w : World) (h : Ly w base b c v s) :
    Calls Tryz.prog 60 #[.pointer (some ⟨c, 0, none⟩), .bool ok] w fun e w' => e = .returned (.bool ok) ∧ Ly w' base b c v (s.1, s.2 || !ok) ∧ But c w w' := by
  have c1 := h.c1
  have f1 := h.f1
  have H := hid h
  obtain ⟨st, q⟩ := s
  clear h
  cases q <;> cases ok <;>
  · go_enter Tryz.func60, Tryz.ntmps60
    go_wp2
    go_ret
    exact ⟨rfl, H.out.mark _ (row2_set1 H.out.row) ((But.refl _ _).setCell _ _), (But.refl _ _).setCell _ _⟩
end Msg
end Go.Proofs.YtmhgdcfmfcjagaaGreatDoor

namespace Go.Proofs.YtmhgdcfmfcjagaaGreatDoor
open Go.RowKit Cod
namespace Msg
def Sm (s : LS) (m : Nat) : Prop := ∀ bs, s.1 = .ok bs → bs.length ≤ m
theorem Sm.mono {s : LS} {m k : Nat} (h : Sm s m) (hk : m ≤ k) : Sm s k := fun bs e => Nat.le_trans (h bs e) hk
theorem Sm.lif {s : LS} {m : Nat} (h : Sm s m) (ok : Bool) (e : Int) (l : List UInt8) : Sm (lif ok e l s) (m + l.length) := fun bs hb => by
  rw [Msg.lif] at hb
  split at hb
  · have hb : s.1.put e l = .ok bs := hb
    cases hs : s.1 with
    | bad f => rw [hs] at hb; cases hb
    | ok b0 =>
      have := h b0 hs
      rw [hs, WSt.put] at hb
      split at hb
      · injection hb with hb; subst hb; rw [List.length_append]; omega
      · cases hb
  · have := h bs hb; omega
theorem Lo.mk' {w w1 w2 : World} {base b c : Nat} {v : Value} {s1 : LS} {st : WSt} {r : Ending} (k : But c w w1) (h1 : Ly w1 base b c v s1) (p : WPost w1 base b v st r w2) : r = .returned (.tuple #[]) ∧ Lo w base b c v (st, s1.2) w2 := by
  obtain ⟨hr, hl⟩ := h1.wrote p
  exact ⟨hr, Lo.step (Keep.ofBut k (.inl rfl)) (From.refl _ _) hl⟩
theorem Lo.no {w w1 : World} {base b c : Nat} {v : Value} {s : LS} (k : But c w w1) (h1 : Ly w1 base b c v (s.1, s.2 || !false)) : Lo w base b c v (s.1, true) w1 := by
  rw [Bool.not_false, Bool.or_true] at h1
  exact ⟨v, h1, Keep.ofBut k (.inl rfl), From.refl _ _⟩
theorem Ly.yes {w1 : World} {base b c : Nat} {v : Value} {s : LS} (h1 : Ly w1 base b c v (s.1, s.2 || !true)) : Ly w1 base b c v s := by
  rw [Bool.not_true, Bool.or_false] at h1
  exact h1
theorem lif_no {ok : Bool} (h : ok = false) (e : Int) (l : List UInt8) (s : LS) : lif ok e l s = (s.1, true) := by rw [lif, h]; rfl
theorem lif_yes {ok : Bool} (h : ok = true) (e : Int) (l : List UInt8) (s : LS) : lif ok e l s = (s.1.put e l, s.2) := by rw [lif, if_pos h]
theorem But.bl' {w w1 : World} {base b c : Nat} {v : Value} {s : LS} (h : Ly w base b c v s) (k : But c w w1) : Below base w w1 := k.below h.ge h.base
set_option maxRecDepth 100000 in
set_option maxHeartbeats 400000 in
theorem layMark_any {base b c : Nat} {v : Value} {s : LS} (n lo hi : Int) (w : World) (h : Ly w base b c v s) (hm : Sm s 140737488355327) :
    Calls Tryz.prog 152 #[.pointer (some ⟨c, 0, none⟩), .int .i64 n, .int .i64 lo, .int .i64 hi] w fun e w' => e = .returned (.tuple #[.int .i64 (if wi n lo hi = true then n else 0), .bool (wi n lo hi)]) ∧ Lo w base b c v (lMark n lo hi s) w' := by
  have i1 := within_any n lo hi w
  have i2 := takes_any (wi n lo hi) w h
  cases hw : wi n lo hi with
  | false =>
    rw [hw] at i1 i2
    rw [lMark, lif_no hw]
    clear h hm
    go_enter Tryz.func152, Tryz.ntmps152
    go_wp2_with (first
      | (go_at_call 28; refine i1.mono ?_; rintro e w' ⟨rfl, hw'⟩; rw [hw']; clear hw' w')
      | (go_at_call 60; refine i2.mono ?_; rintro e w1 ⟨rfl, h1, h2⟩; have H1 := hid (Lo.no h2 h1); clear h1 h2))
    go_ret2
    exact ⟨rfl, H1.out⟩
  | true =>
    rw [hw] at i1 i2
    rw [lMark, lif_yes hw]
    have HM := hid hm
    clear h hm
    go_enter Tryz.func152, Tryz.ntmps152
    go_wp2_with (first
      | (go_at_call 28; refine i1.mono ?_; rintro e w' ⟨rfl, hw'⟩; rw [hw']; clear hw' w')
      | (go_at_call 60; refine i2.mono ?_; rintro e w1 ⟨rfl, h1, h2⟩; have h1 := h1.yes; have d0 := h1.c0; have i3 := wByte_any base b v s.1 n w1 h1.wri h1.base (fun bs e => by have := HM.out bs e; omega); have H1 := hid h1; have H2 := hid h2; clear h1 h2)
      | (go_at_call 148; refine i3.mono ?_; intro e w2 p; obtain ⟨hr, hl⟩ := Lo.mk' H2.out H1.out p; subst hr; have HL := hid hl; clear hl p))
    go_ret2
    exact ⟨rfl, HL.out⟩
set_option maxRecDepth 100000 in
set_option maxHeartbeats 400000 in
theorem laySize_any {base b c : Nat} {v : Value} {s : LS} (n : Int) (b1 : -9223372036854775808 ≤ n) (b2 : n ≤ 9223372036854775807) (w : World) (h : Ly w base b c v s) (hm : Sm s 140737488355319) :
    Calls Tryz.prog 155 #[.pointer (some ⟨c, 0, none⟩), .int .i64 n] w fun e w' => e = .returned (.int .i64 n) ∧ Lo w base b c v (lSize n s) w' := by
  have i1 := isSize_any n w
  have i2 := takes_any (isSz n) w h
  cases hw : isSz n with
  | false =>
    rw [hw] at i1 i2
    rw [lSize, lif_no hw]
    clear h hm
    go_enter Tryz.func155, Tryz.ntmps155
    go_wp2_with (first
      | (go_at_call 164; refine i1.mono ?_; rintro e w' ⟨rfl, hw'⟩; rw [hw']; clear hw' w')
      | (go_at_call 60; refine i2.mono ?_; rintro e w1 ⟨rfl, h1, h2⟩; have H1 := hid (Lo.no h2 h1); clear h1 h2))
    go_ret
    exact ⟨rfl, H1.out⟩
  | true =>
    rw [hw] at i1 i2
    rw [lSize, lif_yes hw]
    have HM := hid hm
    clear h hm
    go_enter Tryz.func155, Tryz.ntmps155
    go_wp2_with (first
      | (go_at_call 164; refine i1.mono ?_; rintro e w' ⟨rfl, hw'⟩; rw [hw']; clear hw' w')
      | (go_at_call 60; refine i2.mono ?_; rintro e w1 ⟨rfl, h1, h2⟩; have h1 := h1.yes; have d0 := h1.c0; have i3 := wNum_any base b v s.1 n b1 b2 w1 h1.wri h1.base (fun bs e => by have := HM.out bs e; omega); have H1 := hid h1; have H2 := hid h2; clear h1 h2)
      | (go_at_call 158; refine i3.mono ?_; intro e w2 p; obtain ⟨hr, hl⟩ := Lo.mk' H2.out H1.out p; subst hr; have HL := hid hl; clear hl p))
    go_ret
    exact ⟨rfl, HL.out⟩
set_option maxRecDepth 100000 in
set_option maxHeartbeats 400000 in
theorem layRoot_any {base b c : Nat} {v : Value} {s : LS} (t : ByteArray) (w : World) (h : Ly w base b c v s) (hm : Sm s 140737488355296) :
    Calls Tryz.prog 154 #[.pointer (some ⟨c, 0, none⟩), .string t] w fun e w' => e = .returned (.string t) ∧ Lo w base b c v (lRoot t.data.toList s) w' := by
  have hl := data_length t
  by_cases h32 : t.size = 32
  · have hw : decide (t.data.toList.length = 32) = true := decide_eq_true (by omega)
    have i2 := takes_any true w h
    have e1 : ((t.size : Int) == 32) = true := by simp; omega
    rw [lRoot, lif_yes hw]
    have HM := hid hm
    have H32 := hid h32
    clear h hm hl hw h32
    go_enter Tryz.func154, Tryz.ntmps154
    go_wp2_with (first
      | (go_at_call 60; refine i2.mono ?_; rintro e w1 ⟨rfl, h1, h2⟩; have h1 := h1.yes; have d0 := h1.c0; have i3 := wRaw_any base b v s.1 t w1 h1.wri h1.base (fun bs e => by have := HM.out bs e; have := H32.out; omega); have H1 := hid h1; have H2 := hid h2; clear h1 h2)
      | (go_at_call 163; refine i3.mono ?_; intro e w2 p; obtain ⟨hr, hl⟩ := Lo.mk' H2.out H1.out p; subst hr; have HL := hid hl; clear hl p))
    go_ret
    exact ⟨rfl, HL.out⟩
  · have hw : decide (t.data.toList.length = 32) = false := decide_eq_false (by omega)
    have i2 := takes_any false w h
    have e1 : ((t.size : Int) == 32) = false := by simp; omega
    rw [lRoot, lif_no hw]
    clear h hm hl hw h32
    go_enter Tryz.func154, Tryz.ntmps154
    go_wp2_with (go_at_call 60; refine i2.mono ?_; rintro e w1 ⟨rfl, h1, h2⟩; have H1 := hid (Lo.no h2 h1); clear h1 h2)
    go_ret
    exact ⟨rfl, H1.out⟩
end Msg
end Go.Proofs.YtmhgdcfmfcjagaaGreatDoor

namespace Go.Proofs.YtmhgdcfmfcjagaaGreatDoor
open Go.RowKit Cod
namespace Msg
set_option maxRecDepth 100000 in
set_option maxHeartbeats 400000 in
theorem areSizes_any (u : Value) (l : List Int) (many : Int) (hl : l.length ≤ maxLen) (w : World) (hs : SlcI w u l) :
    Calls Tryz.prog 165 #[u, .int .i64 many] w fun e w' => e = .returned (.bool (arSz l many)) ∧ w' = w := by
  unfold maxLen at hl
  obtain ⟨a, cap, rfl, hs⟩ := hs
  have i1 := within_any (l.length : Int) 1 many w
  cases hw : wi (l.length : Int) 1 many with
  | false =>
    rw [hw] at i1
    rw [arSz, hw, Bool.false_and]
    clear hs hw
    go_enter Tryz.func165, Tryz.ntmps165
    go_wp2_with (go_at_call 28; refine i1.mono ?_; rintro e w' ⟨rfl, hw'⟩; rw [hw']; clear hw' w')
    go_ret
    exact ⟨rfl, rfl⟩
  | true =>
    rw [hw] at i1
    have hp : 1 ≤ (l.length : Int) := (wi_iff.1 hw).1
    have hlt : l.length - 1 < l.length := by omega
    obtain ⟨x, hx, hxb, hc⟩ := hs (l.length - 1) _ (List.getElem?_eq_getElem hlt)
    subst hx
    have hg : l.getLast?.getD 0 = l[l.length - 1] := by rw [List.getLast?_eq_getElem?, List.getElem?_eq_getElem hlt]; rfl
    rw [arSz, hw, Bool.true_and, hg]
    have i2 := isSize_any l[l.length - 1] w
    generalize l[l.length - 1] = z at *
    obtain ⟨k, hk⟩ : ∃ k : Nat, l.length - 1 = k := ⟨_, rfl⟩
    have hk2 : (l.length : Int) - 1 = (k : Int) := by omega
    have hk3 : wrap64 ((l.length : Int) - 1) = (k : Int) := by rw [hk2]; unfold wrap64; omega
    have hk4 : (k : Int) < (l.length : Int) := by omega
    rw [hk] at hc
    clear hs hw hg hk2
    go_enter Tryz.func165, Tryz.ntmps165
    go_wp2_with (first
      | (go_at_call 28; refine i1.mono ?_; rintro e w' ⟨rfl, hw'⟩; rw [hw']; clear hw' w')
      | (go_at_call 164; refine i2.mono ?_; rintro e w' ⟨rfl, hw'⟩; rw [hw']; clear hw' w'))
    go_ret
    exact ⟨rfl, rfl⟩
end Msg
end Go.Proofs.YtmhgdcfmfcjagaaGreatDoor

namespace Go.Proofs.YtmhgdcfmfcjagaaGreatDoor
open Go.RowKit Cod
namespace Msg
-- sizes: the bound is asked only where they are laid down
set_option maxRecDepth 100000 in
set_option maxHeartbeats 400000 in
theorem laySizes_all {base b c : Nat} {v : Value} {s : LS} (u : Value) (l : List Int) (many : Int) (hb : ∀ c ∈ l, -9223372036854775808 ≤ c ∧ c ≤ 9223372036854775807) (hl : l.length ≤ maxLen) (w : World) (hs : SlcI w u l) (hu : Lw base u) (h : Ly w base b c v s) (hm : arSz l many = true → ∀ bs, s.1 = .ok bs → bs.length + (wrRising (l.map Int.toNat)).length ≤ 140737488355328) :
    Calls Tryz.prog 156 #[.pointer (some ⟨c, 0, none⟩), u, .int .i64 many] w fun e w' => e = .returned u ∧ Lo w base b c v (lSizes l many s) w' := by
  have i1 := areSizes_any u l many hl w hs
  have i2 := takes_any (arSz l many) w h
  obtain ⟨a, cap, hu1, hs1⟩ := hs
  subst hu1
  have hs : SlcI w (.slice a l.length cap) l := ⟨a, cap, rfl, hs1⟩
  clear hs1
  cases hw : arSz l many with
  | false =>
    rw [hw] at i1 i2
    rw [lSizes, lif_no hw]
    clear h hm hs
    go_enter Tryz.func156, Tryz.ntmps156
    go_wp2_with (first
      | (go_at_call 165; refine i1.mono ?_; rintro e w' ⟨rfl, hw'⟩; rw [hw']; clear hw' w')
      | (go_at_call 60; refine i2.mono ?_; rintro e w1 ⟨rfl, h1, h2⟩; have H1 := hid (Lo.no h2 h1); clear h1 h2))
    go_ret
    exact ⟨rfl, H1.out⟩
  | true =>
    rw [hw] at i1 i2
    rw [lSizes, lif_yes hw]
    have HM := hid (hm hw)
    have HS := hid hs
    have HU := hid hu
    have HY := hid h
    clear h hm hs hu hw
    go_enter Tryz.func156, Tryz.ntmps156
    go_wp2_with (first
      | (go_at_call 165; refine i1.mono ?_; rintro e w' ⟨rfl, hw'⟩; rw [hw']; clear hw' w')
      | (go_at_call 60; refine i2.mono ?_; rintro e w1 ⟨rfl, h1, h2⟩; have h1 := h1.yes; have d0 := h1.c0; have i3 := wRising_any base b v s.1 _ l hb hl w1 (HU.out.slcI HS.out (But.bl' HY.out h2)) (HU.out.apart h1) h1.wri h1.base HM.out; have H1 := hid h1; have H2 := hid h2; clear h1 h2)
      | (go_at_call 166; refine i3.mono ?_; intro e w2 p; obtain ⟨hr, hl⟩ := Lo.mk' H2.out H1.out p; subst hr; have HL := hid hl; clear hl p))
    go_ret
    exact ⟨rfl, HL.out⟩
end Msg
end Go.Proofs.YtmhgdcfmfcjagaaGreatDoor
