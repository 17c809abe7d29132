import Derived.Test.YteilkpihddfpeaaGreatDoorPkG5
import Derived.Test.YteilkpihddfpeaaGreatDoorPkN6
namespace Go.Proofs.YteilkpihddfpeaaGreatDoor
open Go.RowKit Cod
namespace Msg

/-- numbers as whole numbers -/
def ints (L : List Nat) : List Int := L.map Int.ofNat
theorem ints_len (L : List Nat) : (ints L).length = L.length := by rw [ints, List.length_map]
theorem ints_toNat (L : List Nat) : (ints L).map Int.toNat = L := by
  rw [ints, List.map_map]
  conv => rhs; rw [← List.map_id L]
  apply List.map_congr_left
  intro a _
  rfl
theorem rises_of : ∀ (L : List Nat) (least : Nat), Rises least L → risesB ((least : Int) - 1) (ints L) = true
  | [], _, _ => rfl
  | n :: L, least, h => by
    obtain ⟨h1, h2, h3⟩ := h
    have := rises_of L (n + 1) h3
    rw [top] at h2
    show (decide _ && risesB (n : Int) (ints L)) = true
    rw [show ((n + 1 : Nat) : Int) - 1 = (n : Int) from by omega] at this
    rw [this, Bool.and_true]
    exact decide_eq_true ⟨by simp, by simp; omega, by simp; omega⟩

/-- LAYING: what a call makes of the Writer and of the mark that something was wrong -/
abbrev LS := WSt × Bool
def lif (ok : Bool) (e : Int) (l : List UInt8) (s : LS) : LS := if ok = true then (s.1.put e l, s.2) else (s.1, true)
def wi (n lo hi : Int) : Bool := decide (lo ≤ n ∧ n ≤ hi)
def isSz (n : Int) : Bool := wi n 0 1099511627776
def lMark (n lo hi : Int) : LS → LS := lif (wi n lo hi) (byteErr n) [UInt8.ofNat n.toNat]
def lNum (n : Int) : LS → LS := lif true (numErr n) (digs n.toNat)
def lSize (n : Int) : LS → LS := lif (isSz n) (numErr n) (digs n.toNat)
def arSz (l : List Int) (many : Int) : Bool := wi (l.length : Int) 1 many && isSz (l.getLast?.getD 0)
def lSizes (l : List Int) (many : Int) : LS → LS := lif (arSz l many) (risingErr l) (wrRising (l.map Int.toNat))
def lTexts (l : List (List UInt8)) (least many most : Int) : LS → LS := lif (decide (least ≤ (l.length : Int))) (textsErr l many most) (wrTexts l)
def lHashes (l : List (List UInt8)) : LS → LS := lif true (hashesErr l 32768) (wrHashes l)
def lRoot (t : List UInt8) : LS → LS := lif (decide (t.length = 32)) 0 t

/-- TAKING: what a call makes of the Reader and of the mark -/
abbrev TS := RS × Bool
def tk {α : Type} (R : List UInt8 → Rd α) (ok : α → Bool) (d : α) (s : TS) : α × TS :=
  (s.1.val d (R s.1.rest), (s.1.step (R s.1.rest), s.2 || !ok (s.1.val d (R s.1.rest))))
/-- what is taken, if all is right, is laid down as the same bytes -/
def Sim (t t' : TS) (L : LS → LS) : Prop :=
  t'.1.err = 0 → t'.2 = false → t.1.err = 0 ∧ t.2 = false ∧ ∃ bs, t.1.rest = bs ++ t'.1.rest ∧ ∀ acc, L (.ok acc, false) = (.ok (acc ++ bs), false)
theorem Sim.refl (t : TS) : Sim t t id := fun h1 h2 => ⟨h1, h2, [], rfl, fun acc => by rw [List.append_nil]; rfl⟩
theorem Sim.comp {t t1 t2 : TS} {L1 L2 : LS → LS} (h : Sim t t1 L1) (k : Sim t1 t2 L2) : Sim t t2 (fun s => L2 (L1 s)) := fun e1 e2 => by
  obtain ⟨a1, a2, bs, a3, a4⟩ := k e1 e2
  obtain ⟨c1, c2, cs, c3, c4⟩ := h a1 a2
  exact ⟨c1, c2, cs ++ bs, by rw [c3, a3, List.append_assoc], fun acc => by show L2 (L1 _) = _; rw [c4, a4, List.append_assoc]⟩
theorem Sim.cast {t t' : TS} {L L' : LS → LS} (h : Sim t t' L) (e : ∀ s, L' s = L s) : Sim t t' L' := fun e1 e2 => by
  obtain ⟨a1, a2, bs, a3, a4⟩ := h e1 e2
  exact ⟨a1, a2, bs, a3, fun acc => by rw [e, a4]⟩
theorem step_good {α : Type} {st : RS} {x : Rd α} (hz : NZ x) (h : (st.step x).err = 0) : st.err = 0 ∧ ∃ v r, x = .good v r ∧ (st.step x).rest = r ∧ ∀ d, st.val d x = v := by
  by_cases he : st.err = 0
  · refine ⟨he, ?_⟩
    cases x with
    | bad e =>
      rw [RS.step, if_pos he] at h
      have := hz e rfl
      have h : (e : Int) = 0 := h
      omega
    | good v r => exact ⟨v, r, rfl, by rw [RS.step, if_pos he], fun d => by rw [RS.val, if_pos he]⟩
  · rw [step_bad he] at h; exact absurd h he
theorem sim_tk {α : Type} (R : List UInt8 → Rd α) (ok : α → Bool) (d : α) (s : TS) (hz : NZ (R s.1.rest)) (e : α → Int) (l : α → List UInt8)
    (hR : ∀ v r, R s.1.rest = .good v r → ok v = true → e v = 0 ∧ s.1.rest = l v ++ r) :
    Sim s (tk R ok d s).2 (lif (ok (tk R ok d s).1) (e (tk R ok d s).1) (l (tk R ok d s).1)) := fun e1 e2 => by
  obtain ⟨h1, v, r, h2, h3, h4⟩ := step_good hz e1
  have hv : (tk R ok d s).1 = v := h4 d
  have e2' : (s.2 || !ok (s.1.val d (R s.1.rest))) = false := e2
  rw [h4 d, Bool.or_eq_false_iff, Bool.not_eq_false'] at e2'
  obtain ⟨g1, g2⟩ := hR v r h2 e2'.2
  refine ⟨h1, e2'.1, l v, ?_, fun acc => ?_⟩
  · show s.1.rest = l v ++ (s.1.step (R s.1.rest)).rest
    rw [h3]; exact g2
  · rw [hv, lif, if_pos e2'.2]
    show ((WSt.ok acc).put (e v) (l v), false) = _
    rw [g1]; rfl
def tMark (lo hi : Int) (s : TS) : Nat × TS := tk rdByte (fun n => wi (n : Int) lo hi) 0 s
def tSize (s : TS) : Nat × TS := tk rdNum (fun n => isSz (n : Int)) 0 s
def tSizes (many : Int) (s : TS) : List Nat × TS := tk (fun b => rdRising b many) (fun l => arSz (ints l) many) [] s
def tTexts (least many most : Int) (s : TS) : List (List UInt8) × TS := tk (fun b => rdTexts b many most) (fun l => decide (least ≤ (l.length : Int))) [] s
def tHashes (s : TS) : List (List UInt8) × TS := tk (fun b => rdHashes b 32768) (fun _ => true) [] s
def tRoot (s : TS) : List UInt8 × TS := tk (fun b => rdRaw b 32) (fun _ => true) [] s
theorem sim_mark (lo hi : Int) (s : TS) : Sim s (tMark lo hi s).2 (lMark ((tMark lo hi s).1 : Int) lo hi) :=
  sim_tk rdByte (fun n => wi (n : Int) lo hi) 0 s (nz_byte _) (fun n => byteErr (n : Int)) (fun n => [UInt8.ofNat (n : Int).toNat]) fun v r h _ => by
    obtain ⟨h1, h2⟩ := byte_back h
    exact ⟨by rw [byteErr, if_neg (by omega)], by rw [Int.toNat_natCast]; exact h1⟩
theorem sim_size (s : TS) : Sim s (tSize s).2 (lSize ((tSize s).1 : Int)) :=
  sim_tk rdNum (fun n => isSz (n : Int)) 0 s (nz_num _) (fun n => numErr (n : Int)) (fun n => digs (n : Int).toNat) fun v r h _ => by
    obtain ⟨h1, h2⟩ := num_back h
    rw [top] at h2
    exact ⟨by rw [numErr, if_neg (by omega)], by rw [Int.toNat_natCast]; exact h1⟩
theorem sim_sizes (many : Int) (s : TS) : Sim s (tSizes many s).2 (lSizes (ints (tSizes many s).1) many) :=
  sim_tk (fun b => rdRising b many) (fun l => arSz (ints l) many) [] s (nz_rising _ _) (fun l => risingErr (ints l)) (fun l => wrRising ((ints l).map Int.toNat)) fun v r h _ => by
    obtain ⟨h1, h2, h3, _, h5⟩ := rising_back h
    rw [ints_toNat]
    exact ⟨by rw [risingErr, if_pos (by simpa using rises_of v 0 h5)], h1⟩
theorem sim_texts (least many most : Int) (s : TS) : Sim s (tTexts least many most s).2 (lTexts (tTexts least many most s).1 least many most) :=
  sim_tk (fun b => rdTexts b many most) (fun l => decide (least ≤ (l.length : Int))) [] s (nz_texts _ _ _) (fun l => textsErr l many most) (fun l => wrTexts l) fun v r h _ => by
    obtain ⟨h1, _, h3, h4, h5, h6⟩ := texts_back h
    exact ⟨by rw [textsErr, if_neg (by omega), if_neg (by omega), if_pos (fun p hp => (h6 p hp).2)], h1⟩
theorem sim_hashes (s : TS) : Sim s (tHashes s).2 (lHashes (tHashes s).1) :=
  sim_tk (fun b => rdHashes b 32768) (fun _ => true) [] s (nz_hashes _ _) (fun l => hashesErr l 32768) (fun l => wrHashes l) fun v r h _ => by
    obtain ⟨h1, _, h3, h4, h5⟩ := hashes_back h
    exact ⟨by rw [hashesErr, if_neg (by omega), if_neg (by omega), if_pos h5], h1⟩
theorem sim_root (s : TS) : Sim s (tRoot s).2 (lRoot (tRoot s).1) := fun e1 e2 => by
  have hN := nz_raw s.1.rest 32
  obtain ⟨h1, v, r, h2, h3, h4⟩ := step_good hN e1
  have hv : (tRoot s).1 = v := h4 []
  have e2' : (s.2 || !true) = false := e2
  rw [Bool.not_true, Bool.or_false] at e2'
  obtain ⟨g1, g2⟩ := raw_back h2
  refine ⟨h1, e2', v, ?_, fun acc => ?_⟩
  · show s.1.rest = v ++ (s.1.step (rdRaw s.1.rest 32)).rest
    rw [h3]; exact g1
  · rw [hv, lRoot, lif, if_pos (decide_eq_true (by omega))]
    rfl
theorem mark_ok {lo hi : Int} {s : TS} (h1 : (tMark lo hi s).2.2 = false) : wi ((tMark lo hi s).1 : Int) lo hi = true := by
  have : (s.2 || !wi ((tMark lo hi s).1 : Int) lo hi) = false := h1
  rw [Bool.or_eq_false_iff, Bool.not_eq_false'] at this
  exact this.2

/-- REQUESTS -/
structure Ask where
  kind : Int
  a : Int
  b : Int
  size : Int
  list : List Int
  ent : List (List UInt8)
  n : Nat
def Ask.zero : Ask := ⟨0, 0, 0, 0, [], [], 0⟩
def Ask.of (k : Int) : Ask := ⟨k, 0, 0, 0, [], [], 0⟩
inductive Fq where
  | a | b | size | indices | heads | asks | entries
def flds : Nat → List Fq
  | 1 => [.entries]
  | 3 => [.size]
  | 4 => [.a, .size]
  | 5 => [.a, .size]
  | 6 => [.size, .indices]
  | 7 => [.heads]
  | 8 => [.a, .b, .size]
  | 9 => [.a, .b, .size]
  | 10 => [.a]
  | 11 => [.a]
  | 12 => [.asks]
  | _ => []
def setF (x : Ask) : Fq → Ask → Ask
  | .a, t => ⟨t.kind, x.a, t.b, t.size, t.list, t.ent, t.n⟩
  | .b, t => ⟨t.kind, t.a, x.b, t.size, t.list, t.ent, t.n⟩
  | .size, t => ⟨t.kind, t.a, t.b, x.size, t.list, t.ent, t.n⟩
  | .indices, t => ⟨t.kind, t.a, t.b, t.size, x.list, t.ent, t.n⟩
  | .heads, t => ⟨t.kind, t.a, t.b, t.size, x.list, t.ent, t.n⟩
  | .asks, t => ⟨t.kind, t.a, t.b, t.size, t.list, t.ent, x.n⟩
  | .entries, t => ⟨t.kind, t.a, t.b, t.size, t.list, x.ent, t.n⟩
def whole (x t : Ask) : Bool :=
  decide (x.kind = t.kind) && (decide (x.a = t.a) && (decide (x.b = t.b) && (decide (x.size = t.size) && (decide (x.list.length = t.list.length) && (decide (x.ent.length = t.ent.length) && decide (x.n = t.n))))))
theorem whole_self (x : Ask) : whole x x = true := by simp [whole]
def lFq (x : Ask) (da : LS → LS) : Fq → LS → LS
  | .a => lSize x.a
  | .b => lSize x.b
  | .size => lSize x.size
  | .indices => lSizes x.list 256
  | .heads => lSizes x.list 64
  | .asks => da
  | .entries => lTexts x.ent 1 32 4096
def lFlds (x : Ask) (da : LS → LS) (fs : List Fq) (s : LS) : LS := fs.foldl (fun s g => lFq x da g s) s
def setFs (x : Ask) (fs : List Fq) (t : Ask) : Ask := fs.foldl (fun t g => setF x g t) t
def lReq (x : Ask) (da : LS → LS) (lo hi : Int) (s : LS) : LS :=
  if wi x.kind lo hi = true then
    ((lFlds x da (flds x.kind.toNat) (lMark x.kind lo hi s)).1, (lFlds x da (flds x.kind.toNat) (lMark x.kind lo hi s)).2 || !whole x (setFs x (flds x.kind.toNat) (Ask.of x.kind)))
  else (s.1, true)
def lAsk (x : Ask) : LS → LS := lReq x id 3 7
def lAsks (l : List Ask) (s : LS) : LS :=
  if wi (l.length : Int) 1 64 = true then l.foldl (fun s x => lAsk x s) (lNum (l.length : Int) s) else (s.1, true)
def lRequest (x : Ask) (l : List Ask) : LS → LS := lReq x (lAsks l) 1 12

abbrev PT := (Ask × List Ask) × TS
def tFq (da : TS → List Ask × TS) : Fq → PT → PT
  | .a, p => ((⟨p.1.1.kind, ((tSize p.2).1 : Int), p.1.1.b, p.1.1.size, p.1.1.list, p.1.1.ent, p.1.1.n⟩, p.1.2), (tSize p.2).2)
  | .b, p => ((⟨p.1.1.kind, p.1.1.a, ((tSize p.2).1 : Int), p.1.1.size, p.1.1.list, p.1.1.ent, p.1.1.n⟩, p.1.2), (tSize p.2).2)
  | .size, p => ((⟨p.1.1.kind, p.1.1.a, p.1.1.b, ((tSize p.2).1 : Int), p.1.1.list, p.1.1.ent, p.1.1.n⟩, p.1.2), (tSize p.2).2)
  | .indices, p => ((⟨p.1.1.kind, p.1.1.a, p.1.1.b, p.1.1.size, ints (tSizes 256 p.2).1, p.1.1.ent, p.1.1.n⟩, p.1.2), (tSizes 256 p.2).2)
  | .heads, p => ((⟨p.1.1.kind, p.1.1.a, p.1.1.b, p.1.1.size, ints (tSizes 64 p.2).1, p.1.1.ent, p.1.1.n⟩, p.1.2), (tSizes 64 p.2).2)
  | .asks, p => ((⟨p.1.1.kind, p.1.1.a, p.1.1.b, p.1.1.size, p.1.1.list, p.1.1.ent, (da p.2).1.length⟩, (da p.2).1), (da p.2).2)
  | .entries, p => ((⟨p.1.1.kind, p.1.1.a, p.1.1.b, p.1.1.size, p.1.1.list, (tTexts 1 32 4096 p.2).1, p.1.1.n⟩, p.1.2), (tTexts 1 32 4096 p.2).2)
def tFlds (da : TS → List Ask × TS) (fs : List Fq) (p : PT) : PT := fs.foldl (fun p g => tFq da g p) p
def tReq (da : TS → List Ask × TS) (lo hi : Int) (s : TS) : PT :=
  if wi ((tMark lo hi s).1 : Int) lo hi = true then tFlds da (flds (tMark lo hi s).1) ((Ask.of ((tMark lo hi s).1 : Int), []), (tMark lo hi s).2) else ((Ask.zero, []), (tMark lo hi s).2)
def tAsk (s : TS) : Ask × TS := ((tReq (fun s => ([], s)) 3 7 s).1.1, (tReq (fun s => ([], s)) 3 7 s).2)
def tMany : Nat → List Ask → TS → List Ask × TS
  | 0, l, s => (l, s)
  | n + 1, l, s => tMany n (l ++ [(tAsk s).1]) (tAsk s).2
def tCount (s : TS) : Nat × TS := ((if wi ((tk rdNum (fun n => wi (n : Int) 1 64) 0 s).1 : Int) 1 64 = true then (tk rdNum (fun n => wi (n : Int) 1 64) 0 s).1 else 0), (tk rdNum (fun n => wi (n : Int) 1 64) 0 s).2)
def tAsks (s : TS) : List Ask × TS := tMany (tCount s).1 [] (tCount s).2
def tRequest (s : TS) : PT := tReq tAsks 1 12 s

/-- the fields of a kind: what is taken is laid down so -/
theorem sim_flds (da : TS → List Ask × TS) (db : List Ask → LS → LS) (hd : ∀ s, Sim s (da s).2 (db (da s).1)) (k : Nat) (s : TS) :
    Sim s (tFlds da (flds k) ((Ask.of (k : Int), []), s)).2 (lFlds (tFlds da (flds k) ((Ask.of (k : Int), []), s)).1.1 (db (tFlds da (flds k) ((Ask.of (k : Int), []), s)).1.2) (flds k)) ∧
    setFs (tFlds da (flds k) ((Ask.of (k : Int), []), s)).1.1 (flds k) (Ask.of (k : Int)) = (tFlds da (flds k) ((Ask.of (k : Int), []), s)).1.1 ∧
    (tFlds da (flds k) ((Ask.of (k : Int), []), s)).1.1.kind = (k : Int) := by
  match k with
  | 0 => exact ⟨Sim.refl _, rfl, rfl⟩
  | 1 => exact ⟨sim_texts 1 32 4096 s, rfl, rfl⟩
  | 2 => exact ⟨Sim.refl _, rfl, rfl⟩
  | 3 => exact ⟨sim_size s, rfl, rfl⟩
  | 4 => exact ⟨(sim_size s).comp (sim_size _), rfl, rfl⟩
  | 5 => exact ⟨(sim_size s).comp (sim_size _), rfl, rfl⟩
  | 6 => exact ⟨(sim_size s).comp (sim_sizes 256 _), rfl, rfl⟩
  | 7 => exact ⟨sim_sizes 64 s, rfl, rfl⟩
  | 8 => exact ⟨((sim_size s).comp (sim_size _)).comp (sim_size _), rfl, rfl⟩
  | 9 => exact ⟨((sim_size s).comp (sim_size _)).comp (sim_size _), rfl, rfl⟩
  | 10 => exact ⟨sim_size s, rfl, rfl⟩
  | 11 => exact ⟨sim_size s, rfl, rfl⟩
  | 12 => exact ⟨hd s, rfl, rfl⟩
  | n + 13 => exact ⟨Sim.refl _, rfl, rfl⟩
theorem sim_req (da : TS → List Ask × TS) (db : List Ask → LS → LS) (hd : ∀ s, Sim s (da s).2 (db (da s).1)) (lo hi : Int) (s : TS) :
    Sim s (tReq da lo hi s).2 (lReq (tReq da lo hi s).1.1 (db (tReq da lo hi s).1.2) lo hi) := by
  by_cases hw : wi ((tMark lo hi s).1 : Int) lo hi = true
  · obtain ⟨h1, h2, h3⟩ := sim_flds da db hd (tMark lo hi s).1 (tMark lo hi s).2
    rw [tReq, if_pos hw]
    generalize hp : tFlds da (flds (tMark lo hi s).1) ((Ask.of ((tMark lo hi s).1 : Int), []), (tMark lo hi s).2) = p at h1 h2 h3
    have hm := sim_mark lo hi s
    refine ((hm.comp h1).cast fun t => ?_)
    rw [lReq, h3, if_pos hw, Int.toNat_natCast, h2, whole_self, Bool.not_true, Bool.or_false]
  · intro e1 e2
    rw [tReq, if_neg hw] at e2
    exact absurd (mark_ok e2) hw
theorem sim_ask (s : TS) : Sim s (tAsk s).2 (lAsk (tAsk s).1) := sim_req (fun s => ([], s)) (fun _ => id) (fun s => Sim.refl s) 3 7 s
theorem tMany_len : ∀ (n : Nat) (l : List Ask) (s : TS), (tMany n l s).1.length = l.length + n
  | 0, _, _ => rfl
  | n + 1, l, s => by rw [tMany, tMany_len n]; simp; omega
theorem sim_many : ∀ (n : Nat) (l : List Ask) (s : TS), ∃ l', (tMany n l s).1 = l ++ l' ∧ Sim s (tMany n l s).2 (fun t => l'.foldl (fun s x => lAsk x s) t)
  | 0, l, s => ⟨[], by simp [tMany], Sim.refl s⟩
  | n + 1, l, s => by
    obtain ⟨l', h1, h2⟩ := sim_many n (l ++ [(tAsk s).1]) (tAsk s).2
    exact ⟨(tAsk s).1 :: l', by rw [tMany, h1, List.append_assoc]; rfl, (sim_ask s).comp h2⟩
theorem sim_count (s : TS) : Sim s (tCount s).2 (lNum ((tCount s).1 : Int)) ∧ ((tCount s).2.2 = false → wi ((tCount s).1 : Int) 1 64 = true) := by
  have h := sim_tk rdNum (fun n => wi (n : Int) 1 64) 0 s (nz_num _) (fun n => numErr (n : Int)) (fun n => digs (n : Int).toNat) fun v r h _ => by
    obtain ⟨h1, h2⟩ := num_back h
    rw [top] at h2
    exact ⟨by rw [numErr, if_neg (by omega)], by rw [Int.toNat_natCast]; exact h1⟩
  have hw : (tCount s).2.2 = false → wi ((tk rdNum (fun n => wi (n : Int) 1 64) 0 s).1 : Int) 1 64 = true := fun e => by
    have : (s.2 || !wi ((tk rdNum (fun n => wi (n : Int) 1 64) 0 s).1 : Int) 1 64) = false := e
    rw [Bool.or_eq_false_iff, Bool.not_eq_false'] at this
    exact this.2
  refine ⟨fun e1 e2 => ?_, fun e => ?_⟩
  · have hw := hw e2
    obtain ⟨a1, a2, bs, a3, a4⟩ := h e1 e2
    refine ⟨a1, a2, bs, a3, fun acc => ?_⟩
    have := a4 acc
    rw [show (tCount s).1 = (tk rdNum (fun n => wi (n : Int) 1 64) 0 s).1 from if_pos hw]
    rw [lif, if_pos hw] at this
    rw [lNum, lif, if_pos rfl]; exact this
  · have hw := hw e
    rw [show (tCount s).1 = (tk rdNum (fun n => wi (n : Int) 1 64) 0 s).1 from if_pos hw]; exact hw
theorem sim_asks (s : TS) : Sim s (tAsks s).2 (lAsks (tAsks s).1) := fun e1 e2 => by
  obtain ⟨l', h1, h2⟩ := sim_many (tCount s).1 [] (tCount s).2
  obtain ⟨c1, c2⟩ := sim_count s
  have hl := tMany_len (tCount s).1 [] (tCount s).2
  obtain ⟨_, b2, _⟩ := h2 e1 e2
  have c2 := c2 b2
  rw [List.nil_append] at h1
  have hl' : (tAsks s).1.length = (tCount s).1 := by rw [tAsks, hl]; simp
  obtain ⟨a1, a2, bs, a3, a4⟩ := (c1.comp h2) e1 e2
  refine ⟨a1, a2, bs, a3, fun acc => ?_⟩
  rw [lAsks, hl', if_pos c2, show (tAsks s).1 = l' from h1]
  exact a4 acc
theorem sim_request (s : TS) : Sim s (tRequest s).2 (lRequest (tRequest s).1.1 (tRequest s).1.2) := sim_req tAsks lAsks sim_asks 1 12 s
theorem req_kind (s : TS) (k : (tRequest s).2.2 = false) : wi (tRequest s).1.1.kind 1 12 = true := by
  by_cases hw : wi ((tMark 1 12 s).1 : Int) 1 12 = true
  · obtain ⟨_, _, h3⟩ := sim_flds tAsks lAsks sim_asks (tMark 1 12 s).1 (tMark 1 12 s).2
    rw [tRequest, tReq, if_pos hw, h3]; exact hw
  · rw [tRequest, tReq, if_neg hw] at k
    exact absurd (mark_ok k) hw
/-- THE REQUEST: what was taken whole is laid down as it was -/
theorem req_strict (p : List UInt8) (h : (tRequest (⟨p, 0, 0⟩, false)).2.1.done = 0) (k : (tRequest (⟨p, 0, 0⟩, false)).2.2 = false) :
    lRequest (tRequest (⟨p, 0, 0⟩, false)).1.1 (tRequest (⟨p, 0, 0⟩, false)).1.2 (.ok [], false) = (.ok p, false) ∧ wi (tRequest (⟨p, 0, 0⟩, false)).1.1.kind 1 12 = true := by
  have he : (tRequest (⟨p, 0, 0⟩, false)).2.1.err = 0 := by
    by_cases he : (tRequest (⟨p, 0, 0⟩, false)).2.1.err = 0
    · exact he
    · rw [RS.done, if_neg he] at h; exact h
  have hr : (tRequest (⟨p, 0, 0⟩, false)).2.1.rest = [] := by
    rw [RS.done, if_pos he] at h
    by_cases h0 : (tRequest (⟨p, 0, 0⟩, false)).2.1.rest.length = 0
    · exact List.length_eq_zero_iff.1 h0
    · rw [if_neg h0] at h; cases h
  obtain ⟨_, _, bs, a3, a4⟩ := sim_request (⟨p, 0, 0⟩, false) he k
  rw [hr, List.append_nil] at a3
  have a3 : p = bs := a3
  exact ⟨by rw [a4, List.nil_append, a3], req_kind _ k⟩
end Msg
end Go.Proofs.YteilkpihddfpeaaGreatDoor

namespace Go.Proofs.YteilkpihddfpeaaGreatDoor
open Go.RowKit Cod
namespace Msg

/-- REPLIES -/
structure Part where
  status : Int
  size : Int
  a : Int
  b : Int
  root : List UInt8
  hs : List (List UInt8)
  ent : List (List UInt8)
  n : Nat
def Part.zero : Part := ⟨0, 0, 0, 0, [], [], [], 0⟩
def Part.of (k : Int) : Part := ⟨k, 0, 0, 0, [], [], [], 0⟩
inductive Fr where
  | size | a | over | root | hashes | parts | entries
def rflds : Nat → List Fr
  | 1 => [.size, .a, .root]
  | 2 => [.size, .root]
  | 3 => [.root]
  | 4 => [.hashes]
  | 5 => [.hashes]
  | 6 => [.hashes]
  | 7 => [.hashes]
  | 8 => [.entries, .hashes]
  | 9 => [.a]
  | 10 => [.a, .over, .entries, .hashes]
  | 12 => [.parts]
  | _ => []
def setR (x : Part) : Fr → Part → Part
  | .size, t => ⟨t.status, x.size, t.a, t.b, t.root, t.hs, t.ent, t.n⟩
  | .a, t => ⟨t.status, t.size, x.a, t.b, t.root, t.hs, t.ent, t.n⟩
  | .over, t => ⟨t.status, t.size, t.a, (if wi x.b 0 1 = true then x.b else 0), t.root, t.hs, t.ent, t.n⟩
  | .root, t => ⟨t.status, t.size, t.a, t.b, x.root, t.hs, t.ent, t.n⟩
  | .hashes, t => ⟨t.status, t.size, t.a, t.b, t.root, x.hs, t.ent, t.n⟩
  | .parts, t => ⟨t.status, t.size, t.a, t.b, t.root, t.hs, t.ent, x.n⟩
  | .entries, t => ⟨t.status, t.size, t.a, t.b, t.root, t.hs, x.ent, t.n⟩
def wholeP (x t : Part) : Bool :=
  decide (x.status = t.status) && (decide (x.size = t.size) && (decide (x.a = t.a) && (decide (x.b = t.b) && (decide (x.root = t.root) && (decide (x.hs.length = t.hs.length) && (decide (x.ent.length = t.ent.length) && decide (x.n = t.n)))))))
theorem wholeP_self (x : Part) : wholeP x x = true := by simp [wholeP]
def lFr (x : Part) (dp : LS → LS) : Fr → LS → LS
  | .size => lSize x.size
  | .a => lSize x.a
  | .over => lMark x.b 0 1
  | .root => lRoot x.root
  | .hashes => lHashes x.hs
  | .parts => dp
  | .entries => lTexts x.ent 0 4096 1000
def lFrs (x : Part) (dp : LS → LS) (fs : List Fr) (s : LS) : LS := fs.foldl (fun s g => lFr x dp g s) s
def setRs (x : Part) (fs : List Fr) (t : Part) : Part := fs.foldl (fun t g => setR x g t) t
/-- the Status that comes across -/
def stB (x : Int) (least : Int) : Int := if wi x least 8 = true then x else 0
def isDn (x : Int) (least : Int) : Bool := wi x least 8 && decide (x = 0)
def leastOf (kind : Int) : Int := if kind = 0 then 1 else 0
/-- fields behind the Status -/
def lTail (x : Part) (least : Int) (L : LS → LS) (t : Part) (s : LS) : LS :=
  if isDn x.status least = true then
    ((L (lMark x.status least 8 s)).1, (L (lMark x.status least 8 s)).2 || !wholeP x t)
  else ((lMark x.status least 8 s).1, (lMark x.status least 8 s).2 || !wholeP x (Part.of (stB x.status least)))
def fm (x : Part) : Int := if x.root = [] then 0 else 1
def fmF (x : Part) : List Fr := if x.root = [] then [.hashes] else [.root]
def lPart (x : Part) : LS → LS := lTail x 0 (fun s => lFrs x id (fmF x) (lMark (fm x) 0 1 s)) (setRs x (fmF x) (Part.of 0))
def lParts (l : List Part) (s : LS) : LS :=
  if wi (l.length : Int) 1 64 = true then l.foldl (fun s x => lPart x s) (lNum (l.length : Int) s) else (s.1, true)
def lReply (kind : Int) (x : Part) (l : List Part) (s : LS) : LS :=
  lTail x (leastOf kind) (lFrs x (lParts l) (rflds kind.toNat)) (setRs x (rflds kind.toNat) (Part.of 0)) (lMark kind kind kind s)

abbrev PR := (Part × List Part) × TS
def tFr (dp : TS → List Part × TS) : Fr → PR → PR
  | .size, p => ((⟨p.1.1.status, ((tSize p.2).1 : Int), p.1.1.a, p.1.1.b, p.1.1.root, p.1.1.hs, p.1.1.ent, p.1.1.n⟩, p.1.2), (tSize p.2).2)
  | .a, p => ((⟨p.1.1.status, p.1.1.size, ((tSize p.2).1 : Int), p.1.1.b, p.1.1.root, p.1.1.hs, p.1.1.ent, p.1.1.n⟩, p.1.2), (tSize p.2).2)
  | .over, p => ((⟨p.1.1.status, p.1.1.size, p.1.1.a, ((tMark 0 1 p.2).1 : Int), p.1.1.root, p.1.1.hs, p.1.1.ent, p.1.1.n⟩, p.1.2), (tMark 0 1 p.2).2)
  | .root, p => ((⟨p.1.1.status, p.1.1.size, p.1.1.a, p.1.1.b, (tRoot p.2).1, p.1.1.hs, p.1.1.ent, p.1.1.n⟩, p.1.2), (tRoot p.2).2)
  | .hashes, p => ((⟨p.1.1.status, p.1.1.size, p.1.1.a, p.1.1.b, p.1.1.root, (tHashes p.2).1, p.1.1.ent, p.1.1.n⟩, p.1.2), (tHashes p.2).2)
  | .parts, p => ((⟨p.1.1.status, p.1.1.size, p.1.1.a, p.1.1.b, p.1.1.root, p.1.1.hs, p.1.1.ent, (dp p.2).1.length⟩, (dp p.2).1), (dp p.2).2)
  | .entries, p => ((⟨p.1.1.status, p.1.1.size, p.1.1.a, p.1.1.b, p.1.1.root, p.1.1.hs, (tTexts 0 4096 1000 p.2).1, p.1.1.n⟩, p.1.2), (tTexts 0 4096 1000 p.2).2)
def tFrs (dp : TS → List Part × TS) (fs : List Fr) (p : PR) : PR := fs.foldl (fun p g => tFr dp g p) p
/-- behind the Status: if it is Done, K -/
def tTail (least : Int) (K : TS → PR) (s : TS) : PR :=
  if isDn ((tMark least 8 s).1 : Int) least = true then K (tMark least 8 s).2 else ((Part.of ((tMark least 8 s).1 : Int), []), (tMark least 8 s).2)
/-- a PART behind its Status -/
def tForm (s : TS) : PR :=
  if wi ((tMark 0 1 s).1 : Int) 0 1 = true then tFrs (fun s => ([], s)) (if (tMark 0 1 s).1 = 0 then [.hashes] else [.root]) ((Part.of 0, []), (tMark 0 1 s).2) else ((Part.of 0, []), (tMark 0 1 s).2)
def tPart (s : TS) : Part × TS := ((tTail 0 tForm s).1.1, (tTail 0 tForm s).2)
def tManyP : Nat → List Part → TS → List Part × TS
  | 0, l, s => (l, s)
  | n + 1, l, s => tManyP n (l ++ [(tPart s).1]) (tPart s).2
def tParts (s : TS) : List Part × TS := tManyP (tCount s).1 [] (tCount s).2
def tReply (kind : Nat) (s : TS) : PR :=
  if wi ((tMark (kind : Int) (kind : Int) s).1 : Int) (kind : Int) (kind : Int) = true then tTail (leastOf (kind : Int)) (fun s => tFrs tParts (rflds kind) ((Part.of 0, []), s)) (tMark (kind : Int) (kind : Int) s).2
  else ((Part.zero, []), (tMark (kind : Int) (kind : Int) s).2)

theorem wi_iff {n lo hi : Int} : wi n lo hi = true ↔ lo ≤ n ∧ n ≤ hi := by rw [wi, decide_eq_true_eq]
/-- if K's fields are laid down so, so is the whole -/
theorem sim_tail (least : Int) (K : TS → PR) (L : Part → List Part → LS → LS) (T : Part → Part) (s : TS)
    (hK : ∀ t, (K t).2.1.err = 0 → (K t).2.2 = false → (K t).1.1.status = 0 ∧ T (K t).1.1 = (K t).1.1)
    (hS : ∀ t, Sim t (K t).2 (L (K t).1.1 (K t).1.2)) :
    Sim s (tTail least K s).2 (lTail (tTail least K s).1.1 least (L (tTail least K s).1.1 (tTail least K s).1.2) (T (tTail least K s).1.1)) := by
  intro e1 e2
  have hm := sim_mark least 8 s
  by_cases hd : isDn ((tMark least 8 s).1 : Int) least = true
  · have he : tTail least K s = K (tMark least 8 s).2 := if_pos hd
    rw [he] at e1 e2 ⊢
    have hst : ((tMark least 8 s).1 : Int) = 0 := by
      rw [isDn, Bool.and_eq_true, decide_eq_true_eq] at hd; exact hd.2
    obtain ⟨k1, k2⟩ := hK _ e1 e2
    obtain ⟨a1, a2, bs, a3, a4⟩ := (hm.comp (hS (tMark least 8 s).2)) e1 e2
    refine ⟨a1, a2, bs, a3, fun acc => ?_⟩
    rw [lTail, k1, ← hst, if_pos hd, k2, wholeP_self, Bool.not_true, Bool.or_false]
    exact a4 acc
  · have he : tTail least K s = ((Part.of ((tMark least 8 s).1 : Int), []), (tMark least 8 s).2) := if_neg hd
    rw [he] at e1 e2 ⊢
    obtain ⟨a1, a2, bs, a3, a4⟩ := hm e1 e2
    have hw := mark_ok e2
    refine ⟨a1, a2, bs, a3, fun acc => ?_⟩
    have a4 := a4 acc
    show lTail (Part.of ((tMark least 8 s).1 : Int)) least _ _ _ = _
    rw [lTail, show (Part.of ((tMark least 8 s).1 : Int)).status = ((tMark least 8 s).1 : Int) from rfl, if_neg hd, stB, if_pos hw, wholeP_self, Bool.not_true, Bool.or_false]
    exact a4
theorem sim_form (t : TS) : Sim t (tForm t).2 (fun s => lFrs (tForm t).1.1 id (fmF (tForm t).1.1) (lMark (fm (tForm t).1.1) 0 1 s)) ∧
    ((tForm t).2.1.err = 0 → (tForm t).2.2 = false → (tForm t).1.1.status = 0 ∧ setRs (tForm t).1.1 (fmF (tForm t).1.1) (Part.of 0) = (tForm t).1.1) := by
  have hm := sim_mark 0 1 t
  by_cases hw : wi ((tMark 0 1 t).1 : Int) 0 1 = true
  · by_cases h0 : (tMark 0 1 t).1 = 0
    · have he : tForm t = tFr (fun s => ([], s)) .hashes ((Part.of 0, []), (tMark 0 1 t).2) := by
        rw [tForm, if_pos hw, if_pos h0]; rfl
      rw [he]
      refine ⟨?_, fun _ _ => ⟨rfl, rfl⟩⟩
      have hc := hm.comp (sim_hashes (tMark 0 1 t).2)
      rw [h0] at hc
      exact hc
    · have h1 : (tMark 0 1 t).1 = 1 := by rw [wi_iff] at hw; omega
      have he : tForm t = tFr (fun s => ([], s)) .root ((Part.of 0, []), (tMark 0 1 t).2) := by
        rw [tForm, if_pos hw, if_neg h0]; rfl
      rw [he]
      have hc := hm.comp (sim_root (tMark 0 1 t).2)
      have key : (tRoot (tMark 0 1 t).2).2.1.err = 0 → (tRoot (tMark 0 1 t).2).1 ≠ [] := fun e => by
        obtain ⟨_, v, r, h2, _, h4⟩ := step_good (nz_raw (tMark 0 1 t).2.1.rest 32) e
        have := (raw_back h2).2
        rw [show (tRoot (tMark 0 1 t).2).1 = v from h4 []]
        intro hv; rw [hv] at this; simp at this
      refine ⟨fun e1 e2 => ?_, fun e1 e2 => ?_⟩
      · have hk := key e1
        obtain ⟨a1, a2, bs, a3, a4⟩ := hc e1 e2
        refine ⟨a1, a2, bs, a3, fun acc => ?_⟩
        have a4 := a4 acc
        rw [h1] at a4
        have f1 : fm (tFr (fun s => ([], s)) .root ((Part.of 0, []), (tMark 0 1 t).2)).1.1 = 1 := if_neg hk
        have f2 : fmF (tFr (fun s => ([], s)) .root ((Part.of 0, []), (tMark 0 1 t).2)).1.1 = [.root] := if_neg hk
        rw [f1, f2]
        exact a4
      · have hk := key e1
        have f2 : fmF (tFr (fun s => ([], s)) .root ((Part.of 0, []), (tMark 0 1 t).2)).1.1 = [.root] := if_neg hk
        rw [f2]
        exact ⟨rfl, rfl⟩
  · have he : tForm t = ((Part.of 0, []), (tMark 0 1 t).2) := if_neg hw
    rw [he]
    exact ⟨fun _ e2 => absurd (mark_ok e2) hw, fun _ e2 => absurd (mark_ok e2) hw⟩
theorem sim_part (s : TS) : Sim s (tPart s).2 (lPart (tPart s).1) :=
  sim_tail 0 tForm (fun x _ s => lFrs x id (fmF x) (lMark (fm x) 0 1 s)) (fun x => setRs x (fmF x) (Part.of 0)) s (fun t e1 e2 => (sim_form t).2 e1 e2) (fun t => (sim_form t).1)
theorem tManyP_len : ∀ (n : Nat) (l : List Part) (s : TS), (tManyP n l s).1.length = l.length + n
  | 0, _, _ => rfl
  | n + 1, l, s => by rw [tManyP, tManyP_len n]; simp; omega
theorem sim_manyP : ∀ (n : Nat) (l : List Part) (s : TS), ∃ l', (tManyP n l s).1 = l ++ l' ∧ Sim s (tManyP n l s).2 (fun t => l'.foldl (fun s x => lPart x s) t)
  | 0, l, s => ⟨[], by simp [tManyP], Sim.refl s⟩
  | n + 1, l, s => by
    obtain ⟨l', h1, h2⟩ := sim_manyP n (l ++ [(tPart s).1]) (tPart s).2
    exact ⟨(tPart s).1 :: l', by rw [tManyP, h1, List.append_assoc]; rfl, (sim_part s).comp h2⟩
theorem sim_parts (s : TS) : Sim s (tParts s).2 (lParts (tParts s).1) := fun e1 e2 => by
  obtain ⟨l', h1, h2⟩ := sim_manyP (tCount s).1 [] (tCount s).2
  obtain ⟨c1, c2⟩ := sim_count s
  have hl := tManyP_len (tCount s).1 [] (tCount s).2
  obtain ⟨_, b2, _⟩ := h2 e1 e2
  have c2 := c2 b2
  rw [List.nil_append] at h1
  have hl' : (tParts s).1.length = (tCount s).1 := by rw [tParts, hl]; simp
  obtain ⟨a1, a2, bs, a3, a4⟩ := (c1.comp h2) e1 e2
  refine ⟨a1, a2, bs, a3, fun acc => ?_⟩
  rw [lParts, hl', if_pos c2, show (tParts s).1 = l' from h1]
  exact a4 acc
theorem over_ok {p : TS} (h : (tMark 0 1 p).2.2 = false) : (if wi ((tMark 0 1 p).1 : Int) 0 1 = true then ((tMark 0 1 p).1 : Int) else 0) = ((tMark 0 1 p).1 : Int) := if_pos (mark_ok h)
theorem sim_frs (k : Nat) (s : TS) :
    Sim s (tFrs tParts (rflds k) ((Part.of 0, []), s)).2 (lFrs (tFrs tParts (rflds k) ((Part.of 0, []), s)).1.1 (lParts (tFrs tParts (rflds k) ((Part.of 0, []), s)).1.2) (rflds k)) ∧
    ((tFrs tParts (rflds k) ((Part.of 0, []), s)).2.1.err = 0 → (tFrs tParts (rflds k) ((Part.of 0, []), s)).2.2 = false → (tFrs tParts (rflds k) ((Part.of 0, []), s)).1.1.status = 0 ∧
      setRs (tFrs tParts (rflds k) ((Part.of 0, []), s)).1.1 (rflds k) (Part.of 0) = (tFrs tParts (rflds k) ((Part.of 0, []), s)).1.1) := by
  match k with
  | 0 => exact ⟨Sim.refl _, fun _ _ => ⟨rfl, rfl⟩⟩
  | 1 => exact ⟨((sim_size s).comp (sim_size _)).comp (sim_root _), fun _ _ => ⟨rfl, rfl⟩⟩
  | 2 => exact ⟨(sim_size s).comp (sim_root _), fun _ _ => ⟨rfl, rfl⟩⟩
  | 3 => exact ⟨sim_root s, fun _ _ => ⟨rfl, rfl⟩⟩
  | 4 => exact ⟨sim_hashes s, fun _ _ => ⟨rfl, rfl⟩⟩
  | 5 => exact ⟨sim_hashes s, fun _ _ => ⟨rfl, rfl⟩⟩
  | 6 => exact ⟨sim_hashes s, fun _ _ => ⟨rfl, rfl⟩⟩
  | 7 => exact ⟨sim_hashes s, fun _ _ => ⟨rfl, rfl⟩⟩
  | 8 => exact ⟨(sim_texts 0 4096 1000 s).comp (sim_hashes _), fun _ _ => ⟨rfl, rfl⟩⟩
  | 9 => exact ⟨sim_size s, fun _ _ => ⟨rfl, rfl⟩⟩
  | 10 =>
    refine ⟨(((sim_size s).comp (sim_mark 0 1 _)).comp (sim_texts 0 4096 1000 _)).comp (sim_hashes _), fun e1 e2 => ⟨rfl, ?_⟩⟩
    obtain ⟨_, h2, _⟩ := ((sim_texts 0 4096 1000 (tMark 0 1 (tSize s).2).2).comp (sim_hashes _)) e1 e2
    have := over_ok h2
    show (⟨0, 0, _, (if wi ((tMark 0 1 (tSize s).2).1 : Int) 0 1 = true then ((tMark 0 1 (tSize s).2).1 : Int) else 0), [], _, _, 0⟩ : Part) = _
    rw [this]
    rfl
  | 11 => exact ⟨Sim.refl _, fun _ _ => ⟨rfl, rfl⟩⟩
  | 12 => exact ⟨sim_parts s, fun _ _ => ⟨rfl, rfl⟩⟩
  | n + 13 => exact ⟨Sim.refl _, fun _ _ => ⟨rfl, rfl⟩⟩
theorem sim_reply (kind : Nat) (s : TS) : Sim s (tReply kind s).2 (lReply (kind : Int) (tReply kind s).1.1 (tReply kind s).1.2) := by
  by_cases hw : wi ((tMark (kind : Int) (kind : Int) s).1 : Int) (kind : Int) (kind : Int) = true
  · have he : tReply kind s = tTail (leastOf (kind : Int)) (fun s => tFrs tParts (rflds kind) ((Part.of 0, []), s)) (tMark (kind : Int) (kind : Int) s).2 := if_pos hw
    rw [he]
    have hk : ((tMark (kind : Int) (kind : Int) s).1 : Int) = (kind : Int) := by rw [wi_iff] at hw; omega
    have hm := sim_mark (kind : Int) (kind : Int) s
    rw [hk] at hm
    have ht := sim_tail (leastOf (kind : Int)) (fun s => tFrs tParts (rflds kind) ((Part.of 0, []), s)) (fun x l s => lFrs x (lParts l) (rflds kind) s) (fun x => setRs x (rflds kind) (Part.of 0)) (tMark (kind : Int) (kind : Int) s).2 (fun t e1 e2 => (sim_frs kind t).2 e1 e2) (fun t => (sim_frs kind t).1)
    refine (hm.comp ht).cast fun t => ?_
    rw [lReply, Int.toNat_natCast]
  · intro e1 e2
    rw [tReply, if_neg hw] at e2
    exact absurd (mark_ok e2) hw
/-- THE REPLY: what was taken whole is laid down as it was -/
theorem reply_strict (kind : Nat) (p : List UInt8) (h : (tReply kind (⟨p, 0, 0⟩, false)).2.1.done = 0) (k : (tReply kind (⟨p, 0, 0⟩, false)).2.2 = false) :
    lReply (kind : Int) (tReply kind (⟨p, 0, 0⟩, false)).1.1 (tReply kind (⟨p, 0, 0⟩, false)).1.2 (.ok [], false) = (.ok p, false) := by
  have he : (tReply kind (⟨p, 0, 0⟩, false)).2.1.err = 0 := by
    by_cases he : (tReply kind (⟨p, 0, 0⟩, false)).2.1.err = 0
    · exact he
    · rw [RS.done, if_neg he] at h; exact h
  have hr : (tReply kind (⟨p, 0, 0⟩, false)).2.1.rest = [] := by
    rw [RS.done, if_pos he] at h
    by_cases h0 : (tReply kind (⟨p, 0, 0⟩, false)).2.1.rest.length = 0
    · exact List.length_eq_zero_iff.1 h0
    · rw [if_neg h0] at h; cases h
  obtain ⟨_, _, bs, a3, a4⟩ := sim_reply kind (⟨p, 0, 0⟩, false) he k
  rw [hr, List.append_nil] at a3
  have a3 : p = bs := a3
  rw [a4, List.nil_append, a3]
end Msg
end Go.Proofs.YteilkpihddfpeaaGreatDoor

namespace Go.Proofs.YteilkpihddfpeaaGreatDoor
open Go.RowKit Cod
namespace Msg

/-- what is wrong stays so -/
structure Abs (L : LS → LS) : Prop where
  bad : ∀ e q, ∃ f r, L (.bad e, q) = (.bad f, r)
  wr : ∀ s : LS, s.2 = true → (L s).2 = true
theorem Abs.mid {L : LS → LS} (h : Abs L) {s : LS} {out : List UInt8} (e : L s = (.ok out, false)) : ∃ m, s = (.ok m, false) := by
  obtain ⟨st, q⟩ := s
  cases q with
  | true =>
    have := h.wr (st, true) rfl
    rw [e] at this
    cases this
  | false =>
    cases st with
    | bad f =>
      obtain ⟨f', r, e'⟩ := h.bad f false
      rw [e] at e'
      cases e'
    | ok m => exact ⟨m, rfl⟩
theorem Abs.id : Abs id := ⟨fun e q => ⟨e, q, rfl⟩, fun _ h => h⟩
theorem Abs.comp {L1 L2 : LS → LS} (h1 : Abs L1) (h2 : Abs L2) : Abs (fun s => L2 (L1 s)) :=
  ⟨fun e q => by
    obtain ⟨f, r, e1⟩ := h1.bad e q
    obtain ⟨f2, r2, e2⟩ := h2.bad f r
    exact ⟨f2, r2, by rw [e1, e2]⟩, fun s h => h2.wr _ (h1.wr s h)⟩
theorem abs_lif (ok : Bool) (e : Int) (l : List UInt8) : Abs (lif ok e l) :=
  ⟨fun f q => by
    rw [lif]
    split
    · exact ⟨f, q, rfl⟩
    · exact ⟨f, true, rfl⟩, fun s h => by
    rw [lif]
    split
    · exact h
    · rfl⟩
/-- what is laid down, if all is right, is taken as it was, whatever stands behind it -/
def Bk {α : Type} (L : LS → LS) (R : TS → α × TS) (v : α) : Prop :=
  ∀ acc out, L (.ok acc, false) = (.ok out, false) → ∃ bs, out = acc ++ bs ∧ ∀ rest k, R (⟨bs ++ rest, k, 0⟩, false) = (v, (⟨rest, k + bs.length, 0⟩, false))
theorem lif_ok {ok : Bool} {e : Int} {l acc out : List UInt8} (h : lif ok e l (.ok acc, false) = (.ok out, false)) : ok = true ∧ e = 0 ∧ out = acc ++ l := by
  rw [lif] at h
  split at h
  · rename_i h1
    have h2 : (WSt.ok acc).put e l = .ok out := (Prod.mk.inj h).1
    rw [WSt.put] at h2
    split at h2
    · rename_i h3
      exact ⟨h1, h3, by injection h2 with h2; exact h2.symm⟩
    · cases h2
  · cases (Prod.mk.inj h).2
theorem bk_lif {α : Type} (R : List UInt8 → Rd α) (okf : α → Bool) (d v : α) (ok : Bool) (e : Int) (l : List UInt8) (hR : ok = true → e = 0 → okf v = true ∧ ∀ rest, R (l ++ rest) = .good v rest) : Bk (lif ok e l) (tk R okf d) v := fun acc out h => by
  obtain ⟨h1, h2, h3⟩ := lif_ok h
  obtain ⟨g1, g2⟩ := hR h1 h2
  refine ⟨l, h3, fun rest k => ?_⟩
  unfold tk
  simp only [g2, RS.val, RS.step, if_true, g1, Bool.not_true, Bool.or_false, List.length_append, Nat.add_sub_cancel]
theorem bk_mark (n lo hi : Int) : Bk (lMark n lo hi) (tMark lo hi) n.toNat := fun acc out h => by
  obtain ⟨h1, h2, h3⟩ := lif_ok h
  have hn : 0 ≤ n ∧ n ≤ 255 := by
    rw [byteErr] at h2
    split at h2
    · cases h2
    · omega
  exact bk_lif rdByte (fun m => wi (m : Int) lo hi) 0 n.toNat _ _ _ (fun _ _ => ⟨by rw [Int.toNat_of_nonneg hn.1]; exact h1, fun rest => by
    show Rd.good (UInt8.ofNat n.toNat).toNat rest = _
    congr 1
    simp; omega⟩) acc out h
theorem bk_size (n : Int) : Bk (lSize n) tSize n.toNat := fun acc out h => by
  obtain ⟨h1, h2, h3⟩ := lif_ok h
  have hn := h1
  rw [isSz, wi_iff] at hn
  exact bk_lif rdNum (fun m => isSz (m : Int)) 0 n.toNat _ _ _ (fun _ _ => ⟨by rw [Int.toNat_of_nonneg hn.1]; exact h1, fun rest => num_there (by rw [top]; omega) rest⟩) acc out h
theorem ints_of : ∀ (l : List Int) (last : Int), -1 ≤ last → risesB last l = true → ints (l.map Int.toNat) = l ∧ Rises (last + 1).toNat (l.map Int.toNat)
  | [], _, _, _ => ⟨rfl, trivial⟩
  | n :: l, last, hl, h => by
    rw [risesB, Bool.and_eq_true, decide_eq_true_eq] at h
    obtain ⟨⟨h1, h2, h3⟩, h4⟩ := h
    obtain ⟨g1, g2⟩ := ints_of l n (by omega) h4
    refine ⟨?_, by omega, by rw [top]; omega, ?_⟩
    · rw [List.map_cons, ints, List.map_cons, ← ints, g1]
      congr 1
      exact Int.toNat_of_nonneg h1
    · rwa [show (n + 1).toNat = n.toNat + 1 from by omega] at g2
theorem bk_sizes (l : List Int) (many : Int) (hm : many ≤ 4096) : ∀ acc out, lSizes l many (.ok acc, false) = (.ok out, false) → ints (l.map Int.toNat) = l ∧ ∃ bs, out = acc ++ bs ∧ ∀ rest k, tSizes many (⟨bs ++ rest, k, 0⟩, false) = (l.map Int.toNat, (⟨rest, k + bs.length, 0⟩, false)) := fun acc out h => by
  obtain ⟨h1, h2, h3⟩ := lif_ok h
  have hr : risesB (-1) l = true := by
    rw [risingErr] at h2
    split at h2
    · assumption
    · cases h2
  obtain ⟨g1, g2⟩ := ints_of l (-1) (by omega) hr
  have hl : wi (l.length : Int) 1 many = true := by
    rw [arSz, Bool.and_eq_true] at h1; exact h1.1
  have hl := (wi_iff.1 hl).2
  refine ⟨g1, bk_lif (fun b => rdRising b many) (fun l => arSz (ints l) many) [] (l.map Int.toNat) _ _ _ (fun _ _ => ⟨by rw [g1]; exact h1, fun rest => rising_there (by rw [List.length_map, top]; omega) (by rw [List.length_map]; exact hl) g2 rest⟩) acc out h⟩
theorem bk_texts (l : List (List UInt8)) (least many most : Int) (hm : many ≤ 4096) (ho : most ≤ 4096) : Bk (lTexts l least many most) (tTexts least many most) l := fun acc out h => by
  obtain ⟨h1, h2, h3⟩ := lif_ok h
  rw [textsErr] at h2
  split at h2
  · cases h2
  split at h2
  · cases h2
  split at h2
  · rename_i a1 a2 a3
    exact bk_lif (fun b => rdTexts b many most) (fun l => decide (least ≤ (l.length : Int))) [] l _ _ _ (fun _ _ => ⟨h1, fun rest => texts_there (by rw [top]; omega) (by omega) (by omega) (fun t ht => ⟨by have := a3 t ht; rw [top]; omega, a3 t ht⟩) rest⟩) acc out h
  · cases h2
theorem bk_hashes (l : List (List UInt8)) : Bk (lHashes l) tHashes l := fun acc out h => by
  obtain ⟨h1, h2, h3⟩ := lif_ok h
  rw [hashesErr] at h2
  split at h2
  · cases h2
  split at h2
  · cases h2
  split at h2
  · rename_i a1 a2 a3
    exact bk_lif (fun b => rdHashes b 32768) (fun _ => true) [] l _ _ _ (fun _ _ => ⟨rfl, fun rest => hashes_there (by rw [top]; omega) (by omega) a3 rest⟩) acc out h
  · cases h2
theorem bk_root (t : List UInt8) : Bk (lRoot t) tRoot t := fun acc out h => by
  obtain ⟨h1, h2, h3⟩ := lif_ok h
  have h32 : t.length = 32 := of_decide_eq_true h1
  exact bk_lif (fun b => rdRaw b 32) (fun _ => true) [] t _ _ _ (fun _ _ => ⟨rfl, fun rest => by have := raw_there t rest; rw [h32] at this; exact this⟩) acc out h
/-- REQUESTS -/
theorem Ask.ext' {x y : Ask} (h1 : x.kind = y.kind) (h2 : x.a = y.a) (h3 : x.b = y.b) (h4 : x.size = y.size) (h5 : x.list = y.list) (h6 : x.ent = y.ent) (h7 : x.n = y.n) : x = y := by
  cases x; cases y; simp_all
theorem whole_parts {x t : Ask} (h : whole x t = true) : x.kind = t.kind ∧ x.a = t.a ∧ x.b = t.b ∧ x.size = t.size ∧ x.list.length = t.list.length ∧ x.ent.length = t.ent.length ∧ x.n = t.n := by
  unfold whole at h
  rw [Bool.and_eq_true, Bool.and_eq_true, Bool.and_eq_true, Bool.and_eq_true, Bool.and_eq_true, Bool.and_eq_true] at h
  obtain ⟨h1, h2, h3, h4, h5, h6, h7⟩ := h
  exact ⟨of_decide_eq_true h1, of_decide_eq_true h2, of_decide_eq_true h3, of_decide_eq_true h4, of_decide_eq_true h5, of_decide_eq_true h6, of_decide_eq_true h7⟩
/-- what whole says: nothing stands in a field that the kind has not -/
theorem whole_self' (x : Ask) (k : Nat) (h : whole x (setFs x (flds k) (Ask.of x.kind)) = true) : setFs x (flds k) (Ask.of x.kind) = x := by
  obtain ⟨p1, p2, p3, p4, p5, p6, p7⟩ := whole_parts h
  match k with
  | 0 | 1 | 2 | 3 | 4 | 5 | 6 | 7 | 8 | 9 | 10 | 11 | 12 | n + 13 =>
    exact Ask.ext' rfl (by first | rfl | exact p2.symm) (by first | rfl | exact p3.symm) (by first | rfl | exact p4.symm) (by first | rfl | exact (List.length_eq_zero_iff.1 p5).symm) (by first | rfl | exact (List.length_eq_zero_iff.1 p6).symm) (by first | rfl | exact p7.symm)
/-- the asks, where the field is theirs -/
def lsF (l : List Ask) : Fq → List Ask → List Ask
  | .asks, _ => l
  | _, l0 => l0
def lsFs (l : List Ask) (fs : List Fq) (l0 : List Ask) : List Ask := fs.foldl (fun l0 g => lsF l g l0) l0
theorem abs_fq (x : Ask) (db : LS → LS) (hd : Abs db) (g : Fq) : Abs (lFq x db g) := by
  cases g with
  | a => exact abs_lif _ _ _
  | b => exact abs_lif _ _ _
  | size => exact abs_lif _ _ _
  | indices => exact abs_lif _ _ _
  | heads => exact abs_lif _ _ _
  | asks => exact hd
  | entries => exact abs_lif _ _ _
theorem abs_flds (x : Ask) (db : LS → LS) (hd : Abs db) : ∀ fs : List Fq, Abs (lFlds x db fs)
  | [] => Abs.id
  | g :: fs => (abs_fq x db hd g).comp (abs_flds x db hd fs)
/-- the asks come back -/
def BkA (db : LS → LS) (da : TS → List Ask × TS) (l : List Ask) : Prop := Bk db da l
theorem size_pos {n : Int} {acc out : List UInt8} (h : lSize n (.ok acc, false) = (.ok out, false)) : (n.toNat : Int) = n := by
  obtain ⟨h1, _, _⟩ := lif_ok h
  rw [isSz, wi_iff] at h1
  exact Int.toNat_of_nonneg h1.1
theorem fq_back (x : Ask) (db : LS → LS) (da : TS → List Ask × TS) (l : List Ask) (hb : BkA db da l) (hn : x.n = l.length) (g : Fq) (acc out : List UInt8) (h : lFq x db g (.ok acc, false) = (.ok out, false)) :
    ∃ bs, out = acc ++ bs ∧ ∀ t l0 rest k, tFq da g ((t, l0), (⟨bs ++ rest, k, 0⟩, false)) = ((setF x g t, lsF l g l0), (⟨rest, k + bs.length, 0⟩, false)) := by
  cases g with
  | a =>
    obtain ⟨bs, h1, h2⟩ := bk_size x.a acc out h
    exact ⟨bs, h1, fun t l0 rest k => by rw [tFq, h2, size_pos h]; rfl⟩
  | b =>
    obtain ⟨bs, h1, h2⟩ := bk_size x.b acc out h
    exact ⟨bs, h1, fun t l0 rest k => by rw [tFq, h2, size_pos h]; rfl⟩
  | size =>
    obtain ⟨bs, h1, h2⟩ := bk_size x.size acc out h
    exact ⟨bs, h1, fun t l0 rest k => by rw [tFq, h2, size_pos h]; rfl⟩
  | indices =>
    obtain ⟨e, bs, h1, h2⟩ := bk_sizes x.list 256 (by omega) acc out h
    exact ⟨bs, h1, fun t l0 rest k => by rw [tFq, h2, e]; rfl⟩
  | heads =>
    obtain ⟨e, bs, h1, h2⟩ := bk_sizes x.list 64 (by omega) acc out h
    exact ⟨bs, h1, fun t l0 rest k => by rw [tFq, h2, e]; rfl⟩
  | asks =>
    obtain ⟨bs, h1, h2⟩ := hb acc out h
    exact ⟨bs, h1, fun t l0 rest k => by rw [tFq, h2, ← hn]; rfl⟩
  | entries =>
    obtain ⟨bs, h1, h2⟩ := bk_texts x.ent 1 32 4096 (by omega) (by omega) acc out h
    exact ⟨bs, h1, fun t l0 rest k => by rw [tFq, h2]; rfl⟩
theorem flds_back (x : Ask) (db : LS → LS) (da : TS → List Ask × TS) (l : List Ask) (hd : Abs db) (hb : BkA db da l) (hn : x.n = l.length) : ∀ (fs : List Fq) (acc out : List UInt8), lFlds x db fs (.ok acc, false) = (.ok out, false) →
    ∃ bs, out = acc ++ bs ∧ ∀ t l0 rest k, tFlds da fs ((t, l0), (⟨bs ++ rest, k, 0⟩, false)) = ((setFs x fs t, lsFs l fs l0), (⟨rest, k + bs.length, 0⟩, false))
  | [], acc, out, h => by
    have h : acc = out := by
      have := (Prod.mk.inj h).1
      injection this
    exact ⟨[], by rw [← h, List.append_nil], fun t l0 rest k => rfl⟩
  | g :: fs, acc, out, h => by
    have h : lFlds x db fs (lFq x db g (.ok acc, false)) = (.ok out, false) := h
    obtain ⟨m, hm⟩ := (abs_flds x db hd fs).mid h
    rw [hm] at h
    obtain ⟨bs1, e1, g1⟩ := fq_back x db da l hb hn g acc m hm
    obtain ⟨bs2, e2, g2⟩ := flds_back x db da l hd hb hn fs m out h
    refine ⟨bs1 ++ bs2, by rw [e2, e1, List.append_assoc], fun t l0 rest k => ?_⟩
    show tFlds da fs (tFq da g ((t, l0), (⟨bs1 ++ bs2 ++ rest, k, 0⟩, false))) = _
    rw [List.append_assoc, g1, g2, List.length_append, Nat.add_assoc]
    rfl
theorem req_back (x : Ask) (db : LS → LS) (da : TS → List Ask × TS) (l : List Ask) (hd : Abs db) (hb : BkA db da l) (hn : x.n = l.length) (lo hi : Int) (acc out : List UInt8) (h : lReq x db lo hi (.ok acc, false) = (.ok out, false)) :
    setFs x (flds x.kind.toNat) (Ask.of x.kind) = x ∧ wi x.kind lo hi = true ∧ ∃ bs, out = acc ++ bs ∧ ∀ rest k, tReq da lo hi (⟨bs ++ rest, k, 0⟩, false) = ((x, lsFs l (flds x.kind.toNat) []), (⟨rest, k + bs.length, 0⟩, false)) := by
  rw [lReq] at h
  by_cases hw : wi x.kind lo hi = true
  · rw [if_pos hw] at h
    have h2 := (Prod.mk.inj h).2
    rw [Bool.or_eq_false_iff, Bool.not_eq_false'] at h2
    have h1 : lFlds x db (flds x.kind.toNat) (lMark x.kind lo hi (.ok acc, false)) = (.ok out, false) := Prod.ext (Prod.mk.inj h).1 h2.1
    have hs := whole_self' x x.kind.toNat h2.2
    obtain ⟨m, hm⟩ := (abs_flds x db hd _).mid h1
    rw [hm] at h1
    obtain ⟨bs1, e1, g1⟩ := bk_mark x.kind lo hi acc m hm
    obtain ⟨bs2, e2, g2⟩ := flds_back x db da l hd hb hn _ m out h1
    have hk : (x.kind.toNat : Int) = x.kind := by
      obtain ⟨_, a2, _⟩ := lif_ok hm
      refine Int.toNat_of_nonneg ?_
      rw [byteErr] at a2
      split at a2
      · cases a2
      · omega
    refine ⟨hs, hw, bs1 ++ bs2, by rw [e2, e1, List.append_assoc], fun rest k => ?_⟩
    rw [tReq, List.append_assoc, g1]
    rw [hk, if_pos hw, g2, hs, List.length_append, Nat.add_assoc]
  · rw [if_neg hw] at h
    cases (Prod.mk.inj h).2
theorem abs_req (x : Ask) (db : LS → LS) (hd : Abs db) (lo hi : Int) : Abs (lReq x db lo hi) := by
  have h0 := (abs_lif (wi x.kind lo hi) (byteErr x.kind) [UInt8.ofNat x.kind.toNat]).comp (abs_flds x db hd (flds x.kind.toNat))
  refine ⟨fun e q => ?_, fun s h => ?_⟩
  · rw [lReq]
    split
    · obtain ⟨f, r, e1⟩ := h0.bad e q
      refine ⟨f, r || !whole x (setFs x (flds x.kind.toNat) (Ask.of x.kind)), ?_⟩
      have e1 : lFlds x db (flds x.kind.toNat) (lMark x.kind lo hi (.bad e, q)) = (.bad f, r) := e1
      rw [e1]
    · exact ⟨e, true, rfl⟩
  · rw [lReq]
    split
    · have := h0.wr s h
      have this : (lFlds x db (flds x.kind.toNat) (lMark x.kind lo hi s)).2 = true := this
      show (_ || _) = true
      rw [this, Bool.true_or]
    · rfl
theorem abs_asks : ∀ l : List Ask, Abs (fun s => l.foldl (fun s x => lAsk x s) s)
  | [] => Abs.id
  | x :: l => (abs_req x id Abs.id 3 7).comp (abs_asks l)
/-- an ask of a group has no asks of its own -/
theorem no_ls {x : Ask} (hw : wi x.kind 3 7 = true) (hs : setFs x (flds x.kind.toNat) (Ask.of x.kind) = x) : x.n = 0 := by
  have hk := wi_iff.1 hw
  obtain ⟨n, hn⟩ := Int.eq_ofNat_of_zero_le (show 0 ≤ x.kind by omega)
  rw [← hs]
  rw [hn, Int.toNat_natCast]
  have h1 : 3 ≤ n := by omega
  have h2 : n ≤ 7 := by omega
  match n, h1, h2 with
  | 3, _, _ => rfl
  | 4, _, _ => rfl
  | 5, _, _ => rfl
  | 6, _, _ => rfl
  | 7, _, _ => rfl
theorem ask_back (x : Ask) (acc out : List UInt8) (h : lAsk x (.ok acc, false) = (.ok out, false)) : ∃ bs, out = acc ++ bs ∧ ∀ rest k, tAsk (⟨bs ++ rest, k, 0⟩, false) = (x, (⟨rest, k + bs.length, 0⟩, false)) := by
  by_cases hn : x.n = 0
  · obtain ⟨_, _, bs, h1, h2⟩ := req_back x id (fun s => ([], s)) [] Abs.id (fun acc out h => ⟨[], by have := (Prod.mk.inj h).1; injection this with this; rw [← this, List.append_nil], fun rest k => rfl⟩) hn 3 7 acc out h
    exact ⟨bs, h1, fun rest k => by rw [tAsk, h2]⟩
  · exfalso
    have h' : lReq x id 3 7 (.ok acc, false) = (.ok out, false) := h
    rw [lReq] at h'
    by_cases hw : wi x.kind 3 7 = true
    · rw [if_pos hw] at h'
      have h2 := (Prod.mk.inj h').2
      rw [Bool.or_eq_false_iff, Bool.not_eq_false'] at h2
      exact hn (no_ls hw (whole_self' x x.kind.toNat h2.2))
    · rw [if_neg hw] at h'
      cases (Prod.mk.inj h').2
theorem many_back : ∀ (l : List Ask) (acc out : List UInt8), l.foldl (fun s x => lAsk x s) (.ok acc, false) = (.ok out, false) → ∃ bs, out = acc ++ bs ∧ ∀ l0 rest k, tMany l.length l0 (⟨bs ++ rest, k, 0⟩, false) = (l0 ++ l, (⟨rest, k + bs.length, 0⟩, false))
  | [], acc, out, h => by
    have h : acc = out := by
      have := (Prod.mk.inj h).1
      injection this
    exact ⟨[], by rw [← h, List.append_nil], fun l0 rest k => by rw [List.length_nil, tMany, List.append_nil]; rfl⟩
  | x :: l, acc, out, h => by
    rw [List.foldl_cons] at h
    obtain ⟨m, hm⟩ := (abs_asks l).mid h
    rw [hm] at h
    obtain ⟨bs1, e1, g1⟩ := ask_back x acc m hm
    obtain ⟨bs2, e2, g2⟩ := many_back l m out h
    refine ⟨bs1 ++ bs2, by rw [e2, e1, List.append_assoc], fun l0 rest k => ?_⟩
    rw [List.length_cons, tMany, List.append_assoc, g1, g2, List.append_assoc, List.length_append, Nat.add_assoc]
    rfl
theorem asks_back (l : List Ask) : BkA (lAsks l) tAsks l := fun acc out h => by
  rw [lAsks] at h
  by_cases hw : wi (l.length : Int) 1 64 = true
  · rw [if_pos hw] at h
    obtain ⟨m, hm⟩ := (abs_asks l).mid h
    rw [hm] at h
    obtain ⟨_, _, e1⟩ := lif_ok hm
    obtain ⟨bs2, e2, g2⟩ := many_back l m out h
    have hle := wi_iff.1 hw
    refine ⟨digs (l.length : Int).toNat ++ bs2, by rw [e2, e1, List.append_assoc], fun rest k => ?_⟩
    have hc : ∀ rest k, tCount (⟨digs l.length ++ rest, k, 0⟩, false) = (l.length, (⟨rest, k + (digs l.length).length, 0⟩, false)) := fun rest k => by
      have ht : tk rdNum (fun n => wi (n : Int) 1 64) 0 (⟨digs l.length ++ rest, k, 0⟩, false) = (l.length, (⟨rest, k + (digs l.length).length, 0⟩, false)) := by
        unfold tk
        simp only [num_there (show l.length ≤ top by rw [top]; omega), RS.val, RS.step, if_true, hw, Bool.not_true, Bool.or_false, List.length_append, Nat.add_sub_cancel]
      rw [tCount, ht, if_pos hw]
    rw [Int.toNat_natCast, tAsks, List.append_assoc, hc, g2, List.nil_append, List.length_append, Nat.add_assoc]
  · rw [if_neg hw] at h
    cases (Prod.mk.inj h).2
theorem abs_lAsks (l : List Ask) : Abs (lAsks l) := by
  have h0 := (abs_lif true (numErr (l.length : Int)) (digs (l.length : Int).toNat)).comp (abs_asks l)
  refine ⟨fun e q => ?_, fun s h => ?_⟩
  · rw [lAsks]
    split
    · exact h0.bad e q
    · exact ⟨e, true, rfl⟩
  · rw [lAsks]
    split
    · exact h0.wr s h
    · rfl
/-- THE REQUEST: what was laid down whole is taken as it was -/
theorem req_there (x : Ask) (l : List Ask) (hn : x.n = l.length) (p : List UInt8) (h : lRequest x l (.ok [], false) = (.ok p, false)) :
    tRequest (⟨p, 0, 0⟩, false) = ((x, lsFs l (flds x.kind.toNat) []), (⟨[], p.length, 0⟩, false)) := by
  obtain ⟨_, _, bs, h1, h2⟩ := req_back x (lAsks l) tAsks l (abs_lAsks l) (asks_back l) hn 1 12 [] p h
  rw [List.nil_append] at h1
  subst h1
  have := h2 [] 0
  rw [List.append_nil, Nat.zero_add] at this
  exact this
end Msg
end Go.Proofs.YteilkpihddfpeaaGreatDoor

namespace Go.Proofs.YteilkpihddfpeaaGreatDoor
open Go.RowKit Cod
namespace Msg

theorem Part.ext' {x y : Part} (h1 : x.status = y.status) (h2 : x.size = y.size) (h3 : x.a = y.a) (h4 : x.b = y.b) (h0 : x.root = y.root) (h5 : x.hs = y.hs) (h6 : x.ent = y.ent) (h7 : x.n = y.n) : x = y := by
  cases x; cases y; simp_all
theorem wholeP_parts {x t : Part} (h : wholeP x t = true) : x.status = t.status ∧ x.size = t.size ∧ x.a = t.a ∧ x.b = t.b ∧ x.root = t.root ∧ x.hs.length = t.hs.length ∧ x.ent.length = t.ent.length ∧ x.n = t.n := by
  unfold wholeP at h
  rw [Bool.and_eq_true, Bool.and_eq_true, Bool.and_eq_true, Bool.and_eq_true, Bool.and_eq_true, Bool.and_eq_true, Bool.and_eq_true] at h
  obtain ⟨h1, h2, h3, h4, h0, h5, h6, h7⟩ := h
  exact ⟨of_decide_eq_true h1, of_decide_eq_true h2, of_decide_eq_true h3, of_decide_eq_true h4, of_decide_eq_true h0, of_decide_eq_true h5, of_decide_eq_true h6, of_decide_eq_true h7⟩
theorem wholeP_of {x : Part} {k : Int} (h : wholeP x (Part.of k) = true) : x = Part.of k := by
  obtain ⟨p1, p2, p3, p4, p0, p5, p6, p7⟩ := wholeP_parts h
  exact Part.ext' p1 p2 p3 p4 p0 (List.length_eq_zero_iff.1 p5) (List.length_eq_zero_iff.1 p6) p7
theorem wholeP_fs (x : Part) (fs : List Fr) (hf : fs = [.hashes] ∨ fs = [.root] ∨ ∃ k, fs = rflds k) (h : wholeP x (setRs x fs (Part.of 0)) = true) : setRs x fs (Part.of 0) = x := by
  obtain ⟨p1, p2, p3, p4, p0, p5, p6, p7⟩ := wholeP_parts h
  rcases hf with rfl | rfl | ⟨k, rfl⟩
  · exact Part.ext' p1.symm p2.symm p3.symm p4.symm p0.symm rfl (List.length_eq_zero_iff.1 p6).symm p7.symm
  · exact Part.ext' p1.symm p2.symm p3.symm p4.symm rfl (List.length_eq_zero_iff.1 p5).symm (List.length_eq_zero_iff.1 p6).symm p7.symm
  · match k with
    | 0 | 1 | 2 | 3 | 4 | 5 | 6 | 7 | 8 | 9 | 10 | 11 | 12 | n + 13 =>
      exact Part.ext' p1.symm p2.symm p3.symm p4.symm p0.symm (by first | rfl | exact (List.length_eq_zero_iff.1 p5).symm) (by first | rfl | exact (List.length_eq_zero_iff.1 p6).symm) p7.symm
def lsP (l : List Part) : Fr → List Part → List Part
  | .parts, _ => l
  | _, l0 => l0
def lsPs (l : List Part) (fs : List Fr) (l0 : List Part) : List Part := fs.foldl (fun l0 g => lsP l g l0) l0
theorem abs_fr (x : Part) (db : LS → LS) (hd : Abs db) (g : Fr) : Abs (lFr x db g) := by
  cases g with
  | size => exact abs_lif _ _ _
  | a => exact abs_lif _ _ _
  | over => exact abs_lif _ _ _
  | root => exact abs_lif _ _ _
  | hashes => exact abs_lif true _ _
  | parts => exact hd
  | entries => exact abs_lif (decide ((0:Int) ≤ (x.ent.length:Int))) _ _
theorem abs_frs (x : Part) (db : LS → LS) (hd : Abs db) : ∀ fs : List Fr, Abs (lFrs x db fs)
  | [] => Abs.id
  | g :: fs => (abs_fr x db hd g).comp (abs_frs x db hd fs)
theorem mark_pos {n lo hi : Int} {acc out : List UInt8} (h : lMark n lo hi (.ok acc, false) = (.ok out, false)) : (n.toNat : Int) = n ∧ wi n lo hi = true := by
  obtain ⟨h1, a2, _⟩ := lif_ok h
  refine ⟨Int.toNat_of_nonneg ?_, h1⟩
  rw [byteErr] at a2
  split at a2
  · cases a2
  · omega
theorem fr_back (x : Part) (db : LS → LS) (da : TS → List Part × TS) (l : List Part) (hb : Bk db da l) (hn : x.n = l.length) (g : Fr) (acc out : List UInt8) (h : lFr x db g (.ok acc, false) = (.ok out, false)) :
    ∃ bs, out = acc ++ bs ∧ ∀ t l0 rest k, tFr da g ((t, l0), (⟨bs ++ rest, k, 0⟩, false)) = ((setR x g t, lsP l g l0), (⟨rest, k + bs.length, 0⟩, false)) := by
  cases g with
  | size =>
    obtain ⟨bs, h1, h2⟩ := bk_size x.size acc out h
    exact ⟨bs, h1, fun t l0 rest k => by rw [tFr, h2, size_pos h]; rfl⟩
  | a =>
    obtain ⟨bs, h1, h2⟩ := bk_size x.a acc out h
    exact ⟨bs, h1, fun t l0 rest k => by rw [tFr, h2, size_pos h]; rfl⟩
  | over =>
    obtain ⟨bs, h1, h2⟩ := bk_mark x.b 0 1 acc out h
    obtain ⟨e1, e2⟩ := mark_pos h
    exact ⟨bs, h1, fun t l0 rest k => by rw [tFr, h2, e1, setR, if_pos e2]; rfl⟩
  | root =>
    obtain ⟨bs, h1, h2⟩ := bk_root x.root acc out h
    exact ⟨bs, h1, fun t l0 rest k => by rw [tFr, h2]; rfl⟩
  | hashes =>
    obtain ⟨bs, h1, h2⟩ := bk_hashes x.hs acc out h
    exact ⟨bs, h1, fun t l0 rest k => by rw [tFr, h2]; rfl⟩
  | parts =>
    obtain ⟨bs, h1, h2⟩ := hb acc out h
    exact ⟨bs, h1, fun t l0 rest k => by rw [tFr, h2, ← hn]; rfl⟩
  | entries =>
    obtain ⟨bs, h1, h2⟩ := bk_texts x.ent 0 4096 1000 (by omega) (by omega) acc out h
    exact ⟨bs, h1, fun t l0 rest k => by rw [tFr, h2]; rfl⟩
theorem frs_back (x : Part) (db : LS → LS) (da : TS → List Part × TS) (l : List Part) (hd : Abs db) (hb : Bk db da l) (hn : x.n = l.length) : ∀ (fs : List Fr) (acc out : List UInt8), lFrs x db fs (.ok acc, false) = (.ok out, false) →
    ∃ bs, out = acc ++ bs ∧ ∀ t l0 rest k, tFrs da fs ((t, l0), (⟨bs ++ rest, k, 0⟩, false)) = ((setRs x fs t, lsPs l fs l0), (⟨rest, k + bs.length, 0⟩, false))
  | [], acc, out, h => by
    have h : acc = out := by
      have := (Prod.mk.inj h).1
      injection this
    exact ⟨[], by rw [← h, List.append_nil], fun t l0 rest k => rfl⟩
  | g :: fs, acc, out, h => by
    have h : lFrs x db fs (lFr x db g (.ok acc, false)) = (.ok out, false) := h
    obtain ⟨m, hm⟩ := (abs_frs x db hd fs).mid h
    rw [hm] at h
    obtain ⟨bs1, e1, g1⟩ := fr_back x db da l hb hn g acc m hm
    obtain ⟨bs2, e2, g2⟩ := frs_back x db da l hd hb hn fs m out h
    refine ⟨bs1 ++ bs2, by rw [e2, e1, List.append_assoc], fun t l0 rest k => ?_⟩
    show tFrs da fs (tFr da g ((t, l0), (⟨bs1 ++ bs2 ++ rest, k, 0⟩, false))) = _
    rw [List.append_assoc, g1, g2, List.length_append, Nat.add_assoc]
    rfl
theorem abs_tail (x : Part) (least : Int) (L : LS → LS) (hL : Abs L) (t : Part) : Abs (lTail x least L t) := by
  have h1 := abs_lif (wi x.status least 8) (byteErr x.status) [UInt8.ofNat x.status.toNat]
  have h0 := h1.comp hL
  refine ⟨fun e q => ?_, fun s h => ?_⟩
  · rw [lTail]
    split
    · obtain ⟨f, r, e1⟩ := h0.bad e q
      have e1 : L (lMark x.status least 8 (.bad e, q)) = (.bad f, r) := e1
      exact ⟨f, _, by rw [e1]⟩
    · obtain ⟨f, r, e1⟩ := h1.bad e q
      have e1 : lMark x.status least 8 (.bad e, q) = (.bad f, r) := e1
      exact ⟨f, _, by rw [e1]⟩
  · rw [lTail]
    split
    · have this : (L (lMark x.status least 8 s)).2 = true := h0.wr s h
      show (_ || _) = true
      rw [this, Bool.true_or]
    · have this : (lMark x.status least 8 s).2 = true := h1.wr s h
      show (_ || _) = true
      rw [this, Bool.true_or]
/-- behind the Status: if K's fields come back, so does the whole -/
theorem tail_back (x : Part) (least : Int) (L : LS → LS) (hL : Abs L) (t : Part) (K : TS → PR) (l' : List Part) (acc out : List UInt8) (h : lTail x least L t (.ok acc, false) = (.ok out, false))
    (hK : x.status = 0 → wholeP x t = true → ∀ a o, L (.ok a, false) = (.ok o, false) → ∃ bs, o = a ++ bs ∧ ∀ rest k, K (⟨bs ++ rest, k, 0⟩, false) = ((x, l'), (⟨rest, k + bs.length, 0⟩, false))) :
    ∃ bs, out = acc ++ bs ∧ ∀ rest k, tTail least K (⟨bs ++ rest, k, 0⟩, false) = ((x, if x.status = 0 then l' else []), (⟨rest, k + bs.length, 0⟩, false)) := by
  rw [lTail] at h
  by_cases hd : isDn x.status least = true
  · rw [if_pos hd] at h
    have h2 := (Prod.mk.inj h).2
    rw [Bool.or_eq_false_iff, Bool.not_eq_false'] at h2
    have h1 : L (lMark x.status least 8 (.ok acc, false)) = (.ok out, false) := Prod.ext (Prod.mk.inj h).1 h2.1
    have h0 : x.status = 0 := by
      rw [isDn, Bool.and_eq_true, decide_eq_true_eq] at hd
      exact hd.2
    obtain ⟨m, hm⟩ := hL.mid h1
    rw [hm] at h1
    obtain ⟨bs1, e1, g1⟩ := bk_mark x.status least 8 acc m hm
    obtain ⟨bs2, e2, g2⟩ := hK h0 h2.2 m out h1
    obtain ⟨e3, _⟩ := mark_pos hm
    refine ⟨bs1 ++ bs2, by rw [e2, e1, List.append_assoc], fun rest k => ?_⟩
    rw [tTail, List.append_assoc, g1]
    rw [e3, if_pos hd, g2, if_pos h0, List.length_append, Nat.add_assoc]
  · rw [if_neg hd] at h
    have h2 := (Prod.mk.inj h).2
    rw [Bool.or_eq_false_iff, Bool.not_eq_false'] at h2
    have hm : lMark x.status least 8 (.ok acc, false) = (.ok out, false) := Prod.ext (Prod.mk.inj h).1 h2.1
    obtain ⟨bs1, e1, g1⟩ := bk_mark x.status least 8 acc out hm
    obtain ⟨e3, e4⟩ := mark_pos hm
    have hx := h2.2
    rw [stB, if_pos e4] at hx
    have hx := wholeP_of hx
    have h0 : ¬ x.status = 0 := fun e => hd (by rw [isDn, e4, Bool.true_and]; exact decide_eq_true e)
    refine ⟨bs1, e1, fun rest k => ?_⟩
    rw [tTail, g1, e3, if_neg hd, if_neg h0]
    show ((Part.of x.status, ([] : List Part)), _) = _
    rw [← hx]
theorem bk_nil : Bk (id : LS → LS) (fun s => (([] : List Part), s)) [] := fun acc out h => ⟨[], by
  have := (Prod.mk.inj h).1
  injection this with this
  rw [← this, List.append_nil], fun rest k => rfl⟩
theorem part_back (x : Part) (acc out : List UInt8) (h : lPart x (.ok acc, false) = (.ok out, false)) : ∃ bs, out = acc ++ bs ∧ ∀ rest k, tPart (⟨bs ++ rest, k, 0⟩, false) = (x, (⟨rest, k + bs.length, 0⟩, false)) := by
  have hL : Abs (fun s => lFrs x id (fmF x) (lMark (fm x) 0 1 s)) := (abs_lif _ _ _).comp (abs_frs x id Abs.id (fmF x))
  obtain ⟨bs, e, g⟩ := tail_back x 0 _ hL _ tForm [] acc out h (fun h0 hw a o h => by
    have hn : x.n = 0 := by
      have this := (wholeP_parts hw).2.2.2.2.2.2.2
      unfold fmF at this
      split at this <;> exact this
    have h : lFrs x id (fmF x) (lMark (fm x) 0 1 (.ok a, false)) = (.ok o, false) := h
    obtain ⟨m, hm⟩ := (abs_frs x id Abs.id (fmF x)).mid h
    rw [hm] at h
    obtain ⟨bs1, e1, g1⟩ := bk_mark (fm x) 0 1 a m hm
    obtain ⟨e3, e4⟩ := mark_pos hm
    obtain ⟨bs2, e2, g2⟩ := frs_back x id (fun s => ([], s)) [] Abs.id bk_nil hn (fmF x) m o h
    have ef : (if (fm x).toNat = 0 then [Fr.hashes] else [Fr.root]) = fmF x := by
      unfold fm fmF
      split <;> rfl
    have es := wholeP_fs x (fmF x) (by unfold fmF; split; · exact .inl rfl
                                       · exact .inr (.inl rfl)) hw
    have el : lsPs [] (fmF x) [] = [] := by
      unfold fmF
      split <;> rfl
    refine ⟨bs1 ++ bs2, by rw [e2, e1, List.append_assoc], fun rest k => ?_⟩
    rw [tForm, List.append_assoc, g1]
    rw [e3, if_pos e4, ef, g2, es, el, List.length_append, Nat.add_assoc])
  exact ⟨bs, e, fun rest k => by rw [tPart, g]⟩
theorem abs_part (x : Part) : Abs (lPart x) := abs_tail x 0 _ ((abs_lif _ _ _).comp (abs_frs x id Abs.id (fmF x))) _
theorem abs_partsl : ∀ l : List Part, Abs (fun s => l.foldl (fun s x => lPart x s) s)
  | [] => Abs.id
  | x :: l => (abs_part x).comp (abs_partsl l)
theorem manyP_back : ∀ (l : List Part) (acc out : List UInt8), l.foldl (fun s x => lPart x s) (.ok acc, false) = (.ok out, false) → ∃ bs, out = acc ++ bs ∧ ∀ l0 rest k, tManyP l.length l0 (⟨bs ++ rest, k, 0⟩, false) = (l0 ++ l, (⟨rest, k + bs.length, 0⟩, false))
  | [], acc, out, h => by
    have h : acc = out := by
      have := (Prod.mk.inj h).1
      injection this
    exact ⟨[], by rw [← h, List.append_nil], fun l0 rest k => by rw [List.length_nil, tManyP, List.append_nil]; rfl⟩
  | x :: l, acc, out, h => by
    rw [List.foldl_cons] at h
    obtain ⟨m, hm⟩ := (abs_partsl l).mid h
    rw [hm] at h
    obtain ⟨bs1, e1, g1⟩ := part_back x acc m hm
    obtain ⟨bs2, e2, g2⟩ := manyP_back l m out h
    refine ⟨bs1 ++ bs2, by rw [e2, e1, List.append_assoc], fun l0 rest k => ?_⟩
    rw [List.length_cons, tManyP, List.append_assoc, g1, g2, List.append_assoc, List.length_append, Nat.add_assoc]
    rfl
theorem count_back {l : Nat} (hw : wi (l : Int) 1 64 = true) : ∀ rest k, tCount (⟨digs l ++ rest, k, 0⟩, false) = (l, (⟨rest, k + (digs l).length, 0⟩, false)) := fun rest k => by
  have hle := wi_iff.1 hw
  have ht : tk rdNum (fun n => wi (n : Int) 1 64) 0 (⟨digs l ++ rest, k, 0⟩, false) = (l, (⟨rest, k + (digs l).length, 0⟩, false)) := by
    unfold tk
    simp only [num_there (show l ≤ top by rw [top]; omega), RS.val, RS.step, if_true, hw, Bool.not_true, Bool.or_false, List.length_append, Nat.add_sub_cancel]
  rw [tCount, ht, if_pos hw]
theorem parts_back (l : List Part) : Bk (lParts l) tParts l := fun acc out h => by
  rw [lParts] at h
  by_cases hw : wi (l.length : Int) 1 64 = true
  · rw [if_pos hw] at h
    obtain ⟨m, hm⟩ := (abs_partsl l).mid h
    rw [hm] at h
    obtain ⟨_, _, e1⟩ := lif_ok hm
    obtain ⟨bs2, e2, g2⟩ := manyP_back l m out h
    refine ⟨digs (l.length : Int).toNat ++ bs2, by rw [e2, e1, List.append_assoc], fun rest k => ?_⟩
    rw [Int.toNat_natCast, tParts, List.append_assoc, count_back hw, g2, List.nil_append, List.length_append, Nat.add_assoc]
  · rw [if_neg hw] at h
    cases (Prod.mk.inj h).2
theorem abs_lParts (l : List Part) : Abs (lParts l) := by
  have h0 := (abs_lif true (numErr (l.length : Int)) (digs (l.length : Int).toNat)).comp (abs_partsl l)
  refine ⟨fun e q => ?_, fun s h => ?_⟩
  · rw [lParts]
    split
    · exact h0.bad e q
    · exact ⟨e, true, rfl⟩
  · rw [lParts]
    split
    · exact h0.wr s h
    · rfl
theorem reply_back (kind : Nat) (x : Part) (l : List Part) (hn : x.n = l.length) (acc out : List UInt8) (h : lReply (kind : Int) x l (.ok acc, false) = (.ok out, false)) :
    ∃ bs, out = acc ++ bs ∧ ∀ rest k, tReply kind (⟨bs ++ rest, k, 0⟩, false) = ((x, if x.status = 0 then lsPs l (rflds kind) [] else []), (⟨rest, k + bs.length, 0⟩, false)) := by
  rw [lReply, Int.toNat_natCast] at h
  have hL := abs_frs x (lParts l) (abs_lParts l) (rflds kind)
  obtain ⟨m, hm⟩ := (abs_tail x (leastOf (kind : Int)) _ hL (setRs x (rflds kind) (Part.of 0))).mid h
  rw [hm] at h
  obtain ⟨bs1, e1, g1⟩ := bk_mark (kind : Int) kind kind acc m hm
  obtain ⟨bs2, e2, g2⟩ := tail_back x (leastOf (kind : Int)) _ hL _ (fun s => tFrs tParts (rflds kind) ((Part.of 0, []), s)) (lsPs l (rflds kind) []) m out h (fun h0 hw a o h => by
    obtain ⟨bs, e, g⟩ := frs_back x (lParts l) tParts l (abs_lParts l) (parts_back l) hn (rflds kind) a o h
    have es := wholeP_fs x (rflds kind) (.inr (.inr ⟨kind, rfl⟩)) hw
    exact ⟨bs, e, fun rest k => by rw [g, es]⟩)
  refine ⟨bs1 ++ bs2, by rw [e2, e1, List.append_assoc], fun rest k => ?_⟩
  rw [tReply, List.append_assoc, g1, Int.toNat_natCast, if_pos (wi_iff.2 ⟨Int.le_refl _, Int.le_refl _⟩), g2, List.length_append, Nat.add_assoc]
/-- THE REPLY: what was laid down whole is taken as it was -/
theorem reply_there (kind : Nat) (x : Part) (l : List Part) (hn : x.n = l.length) (p : List UInt8) (h : lReply (kind : Int) x l (.ok [], false) = (.ok p, false)) :
    tReply kind (⟨p, 0, 0⟩, false) = ((x, if x.status = 0 then lsPs l (rflds kind) [] else []), (⟨[], p.length, 0⟩, false)) := by
  obtain ⟨bs, h1, h2⟩ := reply_back kind x l hn [] p h
  rw [List.nil_append] at h1
  subst h1
  have := h2 [] 0
  rw [List.append_nil, Nat.zero_add] at this
  exact this
end Msg
end Go.Proofs.YteilkpihddfpeaaGreatDoor
