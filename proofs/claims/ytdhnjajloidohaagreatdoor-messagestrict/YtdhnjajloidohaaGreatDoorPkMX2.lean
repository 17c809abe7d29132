import Derived.Test.YtdhnjajloidohaaGreatDoorPkMX1
namespace Go.Proofs.YtdhnjajloidohaaGreatDoor
open Go.RowKit Cod
namespace Msg

/-- REPLIES -/
structure Part where
  status : Int
  size : Int
  a : Int
  b : Int
  root : List UInt8
  hs : List (List UInt8)
  ent : List (List UInt8)
  n : Nat
def Part.zero : Part := ⟨0, 0, 0, 0, [], [], [], 0⟩
def Part.of (k : Int) : Part := ⟨k, 0, 0, 0, [], [], [], 0⟩
inductive Fr where
  | size | a | over | root | hashes | parts | entries
def rflds : Nat → List Fr
  | 1 => [.size, .a, .root]
  | 2 => [.size, .root]
  | 3 => [.root]
  | 4 => [.hashes]
  | 5 => [.hashes]
  | 6 => [.hashes]
  | 7 => [.hashes]
  | 8 => [.entries, .hashes]
  | 9 => [.a]
  | 10 => [.a, .over, .entries, .hashes]
  | 12 => [.parts]
  | _ => []
def setR (x : Part) : Fr → Part → Part
  | .size, t => ⟨t.status, x.size, t.a, t.b, t.root, t.hs, t.ent, t.n⟩
  | .a, t => ⟨t.status, t.size, x.a, t.b, t.root, t.hs, t.ent, t.n⟩
  | .over, t => ⟨t.status, t.size, t.a, (if wi x.b 0 1 = true then x.b else 0), t.root, t.hs, t.ent, t.n⟩
  | .root, t => ⟨t.status, t.size, t.a, t.b, x.root, t.hs, t.ent, t.n⟩
  | .hashes, t => ⟨t.status, t.size, t.a, t.b, t.root, x.hs, t.ent, t.n⟩
  | .parts, t => ⟨t.status, t.size, t.a, t.b, t.root, t.hs, t.ent, x.n⟩
  | .entries, t => ⟨t.status, t.size, t.a, t.b, t.root, t.hs, x.ent, t.n⟩
def wholeP (x t : Part) : Bool :=
  decide (x.status = t.status) && (decide (x.size = t.size) && (decide (x.a = t.a) && (decide (x.b = t.b) && (decide (x.root = t.root) && (decide (x.hs.length = t.hs.length) && (decide (x.ent.length = t.ent.length) && decide (x.n = t.n)))))))
theorem wholeP_self (x : Part) : wholeP x x = true := by simp [wholeP]
def lFr (x : Part) (dp : LS → LS) : Fr → LS → LS
  | .size => lSize x.size
  | .a => lSize x.a
  | .over => lMark x.b 0 1
  | .root => lRoot x.root
  | .hashes => lHashes x.hs
  | .parts => dp
  | .entries => lTexts x.ent 0 4096 1000
def lFrs (x : Part) (dp : LS → LS) (fs : List Fr) (s : LS) : LS := fs.foldl (fun s g => lFr x dp g s) s
def setRs (x : Part) (fs : List Fr) (t : Part) : Part := fs.foldl (fun t g => setR x g t) t
/-- the Status that comes across -/
def stB (x : Int) (least : Int) : Int := if wi x least 8 = true then x else 0
def isDn (x : Int) (least : Int) : Bool := wi x least 8 && decide (x = 0)
def leastOf (kind : Int) : Int := if kind = 0 then 1 else 0
/-- fields behind the Status -/
def lTail (x : Part) (least : Int) (L : LS → LS) (t : Part) (s : LS) : LS :=
  if isDn x.status least = true then
    ((L (lMark x.status least 8 s)).1, (L (lMark x.status least 8 s)).2 || !wholeP x t)
  else ((lMark x.status least 8 s).1, (lMark x.status least 8 s).2 || !wholeP x (Part.of (stB x.status least)))
def fm (x : Part) : Int := if x.root = [] then 0 else 1
def fmF (x : Part) : List Fr := if x.root = [] then [.hashes] else [.root]
def lPart (x : Part) : LS → LS := lTail x 0 (fun s => lFrs x id (fmF x) (lMark (fm x) 0 1 s)) (setRs x (fmF x) (Part.of 0))
def lParts (l : List Part) (s : LS) : LS :=
  if wi (l.length : Int) 1 64 = true then l.foldl (fun s x => lPart x s) (lNum (l.length : Int) s) else (s.1, true)
def lReply (kind : Int) (x : Part) (l : List Part) (s : LS) : LS :=
  lTail x (leastOf kind) (lFrs x (lParts l) (rflds kind.toNat)) (setRs x (rflds kind.toNat) (Part.of 0)) (lMark kind kind kind s)

abbrev PR := (Part × List Part) × TS
def tFr (dp : TS → List Part × TS) : Fr → PR → PR
  | .size, p => ((⟨p.1.1.status, ((tSize p.2).1 : Int), p.1.1.a, p.1.1.b, p.1.1.root, p.1.1.hs, p.1.1.ent, p.1.1.n⟩, p.1.2), (tSize p.2).2)
  | .a, p => ((⟨p.1.1.status, p.1.1.size, ((tSize p.2).1 : Int), p.1.1.b, p.1.1.root, p.1.1.hs, p.1.1.ent, p.1.1.n⟩, p.1.2), (tSize p.2).2)
  | .over, p => ((⟨p.1.1.status, p.1.1.size, p.1.1.a, ((tMark 0 1 p.2).1 : Int), p.1.1.root, p.1.1.hs, p.1.1.ent, p.1.1.n⟩, p.1.2), (tMark 0 1 p.2).2)
  | .root, p => ((⟨p.1.1.status, p.1.1.size, p.1.1.a, p.1.1.b, (tRoot p.2).1, p.1.1.hs, p.1.1.ent, p.1.1.n⟩, p.1.2), (tRoot p.2).2)
  | .hashes, p => ((⟨p.1.1.status, p.1.1.size, p.1.1.a, p.1.1.b, p.1.1.root, (tHashes p.2).1, p.1.1.ent, p.1.1.n⟩, p.1.2), (tHashes p.2).2)
  | .parts, p => ((⟨p.1.1.status, p.1.1.size, p.1.1.a, p.1.1.b, p.1.1.root, p.1.1.hs, p.1.1.ent, (dp p.2).1.length⟩, (dp p.2).1), (dp p.2).2)
  | .entries, p => ((⟨p.1.1.status, p.1.1.size, p.1.1.a, p.1.1.b, p.1.1.root, p.1.1.hs, (tTexts 0 4096 1000 p.2).1, p.1.1.n⟩, p.1.2), (tTexts 0 4096 1000 p.2).2)
def tFrs (dp : TS → List Part × TS) (fs : List Fr) (p : PR) : PR := fs.foldl (fun p g => tFr dp g p) p
/-- behind the Status: if it is Done, K -/
def tTail (least : Int) (K : TS → PR) (s : TS) : PR :=
  if isDn ((tMark least 8 s).1 : Int) least = true then K (tMark least 8 s).2 else ((Part.of ((tMark least 8 s).1 : Int), []), (tMark least 8 s).2)
/-- a PART behind its Status -/
def tForm (s : TS) : PR :=
  if wi ((tMark 0 1 s).1 : Int) 0 1 = true then tFrs (fun s => ([], s)) (if (tMark 0 1 s).1 = 0 then [.hashes] else [.root]) ((Part.of 0, []), (tMark 0 1 s).2) else ((Part.of 0, []), (tMark 0 1 s).2)
def tPart (s : TS) : Part × TS := ((tTail 0 tForm s).1.1, (tTail 0 tForm s).2)
def tManyP : Nat → List Part → TS → List Part × TS
  | 0, l, s => (l, s)
  | n + 1, l, s => tManyP n (l ++ [(tPart s).1]) (tPart s).2
def tParts (s : TS) : List Part × TS := tManyP (tCount s).1 [] (tCount s).2
def tReply (kind : Nat) (s : TS) : PR :=
  if wi ((tMark (kind : Int) (kind : Int) s).1 : Int) (kind : Int) (kind : Int) = true then tTail (leastOf (kind : Int)) (fun s => tFrs tParts (rflds kind) ((Part.of 0, []), s)) (tMark (kind : Int) (kind : Int) s).2
  else ((Part.zero, []), (tMark (kind : Int) (kind : Int) s).2)

theorem wi_iff {n lo hi : Int} : wi n lo hi = true ↔ lo ≤ n ∧ n ≤ hi := by rw [wi, decide_eq_true_eq]
/-- if K's fields are laid down so, so is the whole -/
theorem sim_tail (least : Int) (K : TS → PR) (L : Part → List Part → LS → LS) (T : Part → Part) (s : TS)
    (hK : ∀ t, (K t).2.1.err = 0 → (K t).2.2 = false → (K t).1.1.status = 0 ∧ T (K t).1.1 = (K t).1.1)
    (hS : ∀ t, Sim t (K t).2 (L (K t).1.1 (K t).1.2)) :
    Sim s (tTail least K s).2 (lTail (tTail least K s).1.1 least (L (tTail least K s).1.1 (tTail least K s).1.2) (T (tTail least K s).1.1)) := by
  intro e1 e2
  have hm := sim_mark least 8 s
  by_cases hd : isDn ((tMark least 8 s).1 : Int) least = true
  · have he : tTail least K s = K (tMark least 8 s).2 := if_pos hd
    rw [he] at e1 e2 ⊢
    have hst : ((tMark least 8 s).1 : Int) = 0 := by
      rw [isDn, Bool.and_eq_true, decide_eq_true_eq] at hd; exact hd.2
    obtain ⟨k1, k2⟩ := hK _ e1 e2
    obtain ⟨a1, a2, bs, a3, a4⟩ := (hm.comp (hS (tMark least 8 s).2)) e1 e2
    refine ⟨a1, a2, bs, a3, fun acc => ?_⟩
    rw [lTail, k1, ← hst, if_pos hd, k2, wholeP_self, Bool.not_true, Bool.or_false]
    exact a4 acc
  · have he : tTail least K s = ((Part.of ((tMark least 8 s).1 : Int), []), (tMark least 8 s).2) := if_neg hd
    rw [he] at e1 e2 ⊢
    obtain ⟨a1, a2, bs, a3, a4⟩ := hm e1 e2
    have hw := mark_ok e2
    refine ⟨a1, a2, bs, a3, fun acc => ?_⟩
    have a4 := a4 acc
    show lTail (Part.of ((tMark least 8 s).1 : Int)) least _ _ _ = _
    rw [lTail, show (Part.of ((tMark least 8 s).1 : Int)).status = ((tMark least 8 s).1 : Int) from rfl, if_neg hd, stB, if_pos hw, wholeP_self, Bool.not_true, Bool.or_false]
    exact a4
theorem sim_form (t : TS) : Sim t (tForm t).2 (fun s => lFrs (tForm t).1.1 id (fmF (tForm t).1.1) (lMark (fm (tForm t).1.1) 0 1 s)) ∧
    ((tForm t).2.1.err = 0 → (tForm t).2.2 = false → (tForm t).1.1.status = 0 ∧ setRs (tForm t).1.1 (fmF (tForm t).1.1) (Part.of 0) = (tForm t).1.1) := by
  have hm := sim_mark 0 1 t
  by_cases hw : wi ((tMark 0 1 t).1 : Int) 0 1 = true
  · by_cases h0 : (tMark 0 1 t).1 = 0
    · have he : tForm t = tFr (fun s => ([], s)) .hashes ((Part.of 0, []), (tMark 0 1 t).2) := by
        rw [tForm, if_pos hw, if_pos h0]; rfl
      rw [he]
      refine ⟨?_, fun _ _ => ⟨rfl, rfl⟩⟩
      have hc := hm.comp (sim_hashes (tMark 0 1 t).2)
      rw [h0] at hc
      exact hc
    · have h1 : (tMark 0 1 t).1 = 1 := by rw [wi_iff] at hw; omega
      have he : tForm t = tFr (fun s => ([], s)) .root ((Part.of 0, []), (tMark 0 1 t).2) := by
        rw [tForm, if_pos hw, if_neg h0]; rfl
      rw [he]
      have hc := hm.comp (sim_root (tMark 0 1 t).2)
      have key : (tRoot (tMark 0 1 t).2).2.1.err = 0 → (tRoot (tMark 0 1 t).2).1 ≠ [] := fun e => by
        obtain ⟨_, v, r, h2, _, h4⟩ := step_good (nz_raw (tMark 0 1 t).2.1.rest 32) e
        have := (raw_back h2).2
        rw [show (tRoot (tMark 0 1 t).2).1 = v from h4 []]
        intro hv; rw [hv] at this; simp at this
      refine ⟨fun e1 e2 => ?_, fun e1 e2 => ?_⟩
      · have hk := key e1
        obtain ⟨a1, a2, bs, a3, a4⟩ := hc e1 e2
        refine ⟨a1, a2, bs, a3, fun acc => ?_⟩
        have a4 := a4 acc
        rw [h1] at a4
        have f1 : fm (tFr (fun s => ([], s)) .root ((Part.of 0, []), (tMark 0 1 t).2)).1.1 = 1 := if_neg hk
        have f2 : fmF (tFr (fun s => ([], s)) .root ((Part.of 0, []), (tMark 0 1 t).2)).1.1 = [.root] := if_neg hk
        rw [f1, f2]
        exact a4
      · have hk := key e1
        have f2 : fmF (tFr (fun s => ([], s)) .root ((Part.of 0, []), (tMark 0 1 t).2)).1.1 = [.root] := if_neg hk
        rw [f2]
        exact ⟨rfl, rfl⟩
  · have he : tForm t = ((Part.of 0, []), (tMark 0 1 t).2) := if_neg hw
    rw [he]
    exact ⟨fun _ e2 => absurd (mark_ok e2) hw, fun _ e2 => absurd (mark_ok e2) hw⟩
theorem sim_part (s : TS) : Sim s (tPart s).2 (lPart (tPart s).1) :=
  sim_tail 0 tForm (fun x _ s => lFrs x id (fmF x) (lMark (fm x) 0 1 s)) (fun x => setRs x (fmF x) (Part.of 0)) s (fun t e1 e2 => (sim_form t).2 e1 e2) (fun t => (sim_form t).1)
theorem tManyP_len : ∀ (n : Nat) (l : List Part) (s : TS), (tManyP n l s).1.length = l.length + n
  | 0, _, _ => rfl
  | n + 1, l, s => by rw [tManyP, tManyP_len n]; simp; omega
theorem sim_manyP : ∀ (n : Nat) (l : List Part) (s : TS), ∃ l', (tManyP n l s).1 = l ++ l' ∧ Sim s (tManyP n l s).2 (fun t => l'.foldl (fun s x => lPart x s) t)
  | 0, l, s => ⟨[], by simp [tManyP], Sim.refl s⟩
  | n + 1, l, s => by
    obtain ⟨l', h1, h2⟩ := sim_manyP n (l ++ [(tPart s).1]) (tPart s).2
    exact ⟨(tPart s).1 :: l', by rw [tManyP, h1, List.append_assoc]; rfl, (sim_part s).comp h2⟩
theorem sim_parts (s : TS) : Sim s (tParts s).2 (lParts (tParts s).1) := fun e1 e2 => by
  obtain ⟨l', h1, h2⟩ := sim_manyP (tCount s).1 [] (tCount s).2
  obtain ⟨c1, c2⟩ := sim_count s
  have hl := tManyP_len (tCount s).1 [] (tCount s).2
  obtain ⟨_, b2, _⟩ := h2 e1 e2
  have c2 := c2 b2
  rw [List.nil_append] at h1
  have hl' : (tParts s).1.length = (tCount s).1 := by rw [tParts, hl]; simp
  obtain ⟨a1, a2, bs, a3, a4⟩ := (c1.comp h2) e1 e2
  refine ⟨a1, a2, bs, a3, fun acc => ?_⟩
  rw [lParts, hl', if_pos c2, show (tParts s).1 = l' from h1]
  exact a4 acc
theorem over_ok {p : TS} (h : (tMark 0 1 p).2.2 = false) : (if wi ((tMark 0 1 p).1 : Int) 0 1 = true then ((tMark 0 1 p).1 : Int) else 0) = ((tMark 0 1 p).1 : Int) := if_pos (mark_ok h)
theorem sim_frs (k : Nat) (s : TS) :
    Sim s (tFrs tParts (rflds k) ((Part.of 0, []), s)).2 (lFrs (tFrs tParts (rflds k) ((Part.of 0, []), s)).1.1 (lParts (tFrs tParts (rflds k) ((Part.of 0, []), s)).1.2) (rflds k)) ∧
    ((tFrs tParts (rflds k) ((Part.of 0, []), s)).2.1.err = 0 → (tFrs tParts (rflds k) ((Part.of 0, []), s)).2.2 = false → (tFrs tParts (rflds k) ((Part.of 0, []), s)).1.1.status = 0 ∧
      setRs (tFrs tParts (rflds k) ((Part.of 0, []), s)).1.1 (rflds k) (Part.of 0) = (tFrs tParts (rflds k) ((Part.of 0, []), s)).1.1) := by
  match k with
  | 0 => exact ⟨Sim.refl _, fun _ _ => ⟨rfl, rfl⟩⟩
  | 1 => exact ⟨((sim_size s).comp (sim_size _)).comp (sim_root _), fun _ _ => ⟨rfl, rfl⟩⟩
  | 2 => exact ⟨(sim_size s).comp (sim_root _), fun _ _ => ⟨rfl, rfl⟩⟩
  | 3 => exact ⟨sim_root s, fun _ _ => ⟨rfl, rfl⟩⟩
  | 4 => exact ⟨sim_hashes s, fun _ _ => ⟨rfl, rfl⟩⟩
  | 5 => exact ⟨sim_hashes s, fun _ _ => ⟨rfl, rfl⟩⟩
  | 6 => exact ⟨sim_hashes s, fun _ _ => ⟨rfl, rfl⟩⟩
  | 7 => exact ⟨sim_hashes s, fun _ _ => ⟨rfl, rfl⟩⟩
  | 8 => exact ⟨(sim_texts 0 4096 1000 s).comp (sim_hashes _), fun _ _ => ⟨rfl, rfl⟩⟩
  | 9 => exact ⟨sim_size s, fun _ _ => ⟨rfl, rfl⟩⟩
  | 10 =>
    refine ⟨(((sim_size s).comp (sim_mark 0 1 _)).comp (sim_texts 0 4096 1000 _)).comp (sim_hashes _), fun e1 e2 => ⟨rfl, ?_⟩⟩
    obtain ⟨_, h2, _⟩ := ((sim_texts 0 4096 1000 (tMark 0 1 (tSize s).2).2).comp (sim_hashes _)) e1 e2
    have := over_ok h2
    show (⟨0, 0, _, (if wi ((tMark 0 1 (tSize s).2).1 : Int) 0 1 = true then ((tMark 0 1 (tSize s).2).1 : Int) else 0), [], _, _, 0⟩ : Part) = _
    rw [this]
    rfl
  | 11 => exact ⟨Sim.refl _, fun _ _ => ⟨rfl, rfl⟩⟩
  | 12 => exact ⟨sim_parts s, fun _ _ => ⟨rfl, rfl⟩⟩
  | n + 13 => exact ⟨Sim.refl _, fun _ _ => ⟨rfl, rfl⟩⟩
theorem sim_reply (kind : Nat) (s : TS) : Sim s (tReply kind s).2 (lReply (kind : Int) (tReply kind s).1.1 (tReply kind s).1.2) := by
  by_cases hw : wi ((tMark (kind : Int) (kind : Int) s).1 : Int) (kind : Int) (kind : Int) = true
  · have he : tReply kind s = tTail (leastOf (kind : Int)) (fun s => tFrs tParts (rflds kind) ((Part.of 0, []), s)) (tMark (kind : Int) (kind : Int) s).2 := if_pos hw
    rw [he]
    have hk : ((tMark (kind : Int) (kind : Int) s).1 : Int) = (kind : Int) := by rw [wi_iff] at hw; omega
    have hm := sim_mark (kind : Int) (kind : Int) s
    rw [hk] at hm
    have ht := sim_tail (leastOf (kind : Int)) (fun s => tFrs tParts (rflds kind) ((Part.of 0, []), s)) (fun x l s => lFrs x (lParts l) (rflds kind) s) (fun x => setRs x (rflds kind) (Part.of 0)) (tMark (kind : Int) (kind : Int) s).2 (fun t e1 e2 => (sim_frs kind t).2 e1 e2) (fun t => (sim_frs kind t).1)
    refine (hm.comp ht).cast fun t => ?_
    rw [lReply, Int.toNat_natCast]
  · intro e1 e2
    rw [tReply, if_neg hw] at e2
    exact absurd (mark_ok e2) hw
/-- THE REPLY: what was taken whole is laid down as it was -/
theorem reply_strict (kind : Nat) (p : List UInt8) (h : (tReply kind (⟨p, 0, 0⟩, false)).2.1.done = 0) (k : (tReply kind (⟨p, 0, 0⟩, false)).2.2 = false) :
    lReply (kind : Int) (tReply kind (⟨p, 0, 0⟩, false)).1.1 (tReply kind (⟨p, 0, 0⟩, false)).1.2 (.ok [], false) = (.ok p, false) := by
  have he : (tReply kind (⟨p, 0, 0⟩, false)).2.1.err = 0 := by
    by_cases he : (tReply kind (⟨p, 0, 0⟩, false)).2.1.err = 0
    · exact he
    · rw [RS.done, if_neg he] at h; exact h
  have hr : (tReply kind (⟨p, 0, 0⟩, false)).2.1.rest = [] := by
    rw [RS.done, if_pos he] at h
    by_cases h0 : (tReply kind (⟨p, 0, 0⟩, false)).2.1.rest.length = 0
    · exact List.length_eq_zero_iff.1 h0
    · rw [if_neg h0] at h; cases h
  obtain ⟨_, _, bs, a3, a4⟩ := sim_reply kind (⟨p, 0, 0⟩, false) he k
  rw [hr, List.append_nil] at a3
  have a3 : p = bs := a3
  rw [a4, List.nil_append, a3]
end Msg
end Go.Proofs.YtdhnjajloidohaaGreatDoor
