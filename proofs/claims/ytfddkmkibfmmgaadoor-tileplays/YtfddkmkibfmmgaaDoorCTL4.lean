import Derived.Test.YtfddkmkibfmmgaaDoorCW1
import Derived.Test.YtfddkmkibfmmgaaDoorCW3
import Derived.Test.YtfddkmkibfmmgaaDoorCO1
namespace Go.Proofs.YtfddkmkibfmmgaaDoor
open Go.RowKit
open Go.WideMaps (KeyLaw)
open Go.ChangeMaps (setBlock)
theorem Mp.keysOk {arr : Array MapEntry} {es : List ((Int × Int) × Value)} (h : arr.toList.map (fun e => (e.key, e.val)) = es.map (fun x => (kv x.1, x.2))) (hr : ∀ x ∈ es, InR x.1) : ∀ e ∈ arr.toList, ∃ l, keyOf Tryd.prog 80 e.key = some l := fun e he => by
  have h1 : (e.key, e.val) ∈ es.map (fun x => (kv x.1, x.2)) := by rw [← h]; exact List.mem_map.2 ⟨e, he, rfl⟩
  obtain ⟨x, hx, hxe⟩ := List.mem_map.1 h1
  injection hxe with h2 h3
  rw [← h2]
  exact keyPl (hr x hx)
theorem Mp.memE {arr : Array MapEntry} {es : List ((Int × Int) × Value)} {p : Int × Int} (h : arr.toList.map (fun e => (e.key, e.val)) = es.map (fun x => (kv x.1, x.2))) {e : MapEntry} (he : e ∈ arr.toList) (hk : e.key = kv p) : (p, e.val) ∈ es := by
  have h1 : (e.key, e.val) ∈ es.map (fun x => (kv x.1, x.2)) := by rw [← h]; exact List.mem_map.2 ⟨e, he, rfl⟩
  obtain ⟨x, hx, hxe⟩ := List.mem_map.1 h1
  injection hxe with h2 h3
  have := kv_inj (h2.trans hk)
  rw [← this, ← h3]
  exact hx
theorem Mp.notE {arr : Array MapEntry} {es : List ((Int × Int) × Value)} {p : Int × Int} (h : arr.toList.map (fun e => (e.key, e.val)) = es.map (fun x => (kv x.1, x.2))) (hk : ∀ e ∈ arr.toList, e.key ≠ kv p) : ¬ has es p := fun ⟨v, hv⟩ => by
  have h1 : (kv p, v) ∈ arr.toList.map (fun e => (e.key, e.val)) := by rw [h]; exact List.mem_map.2 ⟨(p, v), hv, rfl⟩
  obtain ⟨e, he, hxe⟩ := List.mem_map.1 h1
  injection hxe with h2 h3
  exact hk e he h2
/-- m[p] -/
theorem Mp.lookup {w : World} {b : Nat} {es : List ((Int × Int) × Value)} (h : Mp w b es) {p : Int × Int} (hp : InR p) : (Instr.lookup 71 (.map (some b)) (kv p) false).run Tryd.prog w = .ok (look es p) w := by
  obtain ⟨arr, clock, hb, h1, h2, h3, h4, h5⟩ := h
  obtain ⟨l, hl⟩ := keyPl hp
  rcases lawPl.find w hl arr.toList (Mp.keysOk h3 h5) with ⟨f1, f2⟩ | ⟨j, e0, f1, f2, f3⟩
  · rw [look_none (Mp.notE h3 f2)]
    simp [Instr.lookup, run_underlying undMp, MapKept.run_getObj_map hb, lawPl.check w _ hl, f1, zeroSl w, Result.andThen]
  · rw [look_mem h4 (Mp.memE h3 (List.mem_of_getElem? f2) f3)]
    simp [Instr.lookup, run_underlying undMp, MapKept.run_getObj_map hb, lawPl.check w _ hl, f1, Result.andThen]
theorem But.setBlock {b : Nat} {w w' : World} (h : But b w w') (o : Obj) : But b w (setBlock w' b o) :=
  ⟨h.os, h.tape, h.output, by simp only [Go.ChangeMaps.setBlock, Array.size_setIfInBounds]; exact h.size, fun k hk hne => by
    have : (Go.ChangeMaps.setBlock w' b o).heap[k]? = w'.heap[k]? := by simp only [Go.ChangeMaps.setBlock]; rw [Array.getElem?_setIfInBounds, if_neg (fun e => hne e.symm)]
    exact this.trans (h.block k hk hne)⟩
theorem setBlock_at {w : World} {b : Nat} {o o' : Obj} (h : w.heap[b]? = some o) : (setBlock w b o').heap[b]? = some o' := by
  have hlt := (Array.getElem?_eq_some_iff.1 h).1
  simp only [Go.ChangeMaps.setBlock]
  rw [Array.getElem?_setIfInBounds, if_pos rfl, if_pos hlt]
/-- m[p] = f(m[p]): the entry, and the store behind it -/
theorem Mp.entry {w : World} {b : Nat} {es : List ((Int × Int) × Value)} (h : Mp w b es) {p : Int × Int} (hp : InR p) :
    ∃ (st : Nat) (w1 : World), (Instr.mapEntry 71 (.map (some b)) (kv p)).run Tryd.prog w = .ok (.tuple #[look es p, goInt st]) w1 ∧ But b w w1 ∧ w1.heap.size = w.heap.size ∧ b < w.heap.size ∧
      ∀ (w2 : World) (val : Value), w2.heap[b]? = w1.heap[b]? → ∃ w3, (Instr.entryStore 71 (.map (some b)) (goInt st) val).run Tryd.prog w2 = .ok () w3 ∧ Mp w3 b (put es p val) ∧ But b w2 w3 ∧ w3.heap.size = w2.heap.size := by
  obtain ⟨arr, clock, hb, h1, h2, h3, h4, h5⟩ := h
  obtain ⟨l, hl⟩ := keyPl hp
  have hlt := (Array.getElem?_eq_some_iff.1 hb).1
  rcases lawPl.find w hl arr.toList (Mp.keysOk h3 h5) with ⟨f1, f2⟩ | ⟨j, e0, f1, f2, f3⟩
  · have hno := Mp.notE h3 f2
    rw [look_none hno]
    refine ⟨clock, setBlock w b (.map (arr.push ⟨kv p, .slice none 0 0, clock⟩) (clock + 1)), ?_, (But.refl b w).setBlock _, by simp [setBlock], hlt, fun w2 val hw2 => ?_⟩
    · simp [Instr.mapEntry, run_underlying undMp, MapKept.run_getObj_map hb, lawPl.check w false hl, f1, MapKept.run_setObj_map _ hb, Result.andThen, setBlock]
    · rw [setBlock_at hb] at hw2
      have hidx : (arr.push ⟨kv p, .slice none 0 0, clock⟩).findIdx? (fun e => ((e.born : Nat) : Int) == ((clock : Nat) : Int)) = some arr.size := by
        rw [WideElems.findIdx_arr]
        have := WideElems.findIdx_born (l := (arr.push ⟨kv p, .slice none 0 0, clock⟩).toList) (j := arr.size) (e0 := ⟨kv p, .slice none 0 0, clock⟩) (by
          simp only [Array.toList_push, List.map_append, List.map_cons, List.map_nil]
          refine List.nodup_append.2 ⟨h2, by simp, fun a ha c hc e1 => ?_⟩
          simp only [List.mem_singleton] at hc
          obtain ⟨x, hx, rfl⟩ := List.mem_map.1 ha
          have := h1 x hx
          omega) (by simp)
        exact this
      have hmod : (arr.push ⟨kv p, .slice none 0 0, clock⟩).modify arr.size (fun e => { e with val := val }) = arr.push ⟨kv p, val, clock⟩ := by
        apply Array.ext'
        rw [Array.toList_modify, Array.toList_push, Array.toList_push, ← Array.length_toList, WideElems.modify_last]
      refine ⟨setBlock w2 b (.map (arr.push ⟨kv p, val, clock⟩) (clock + 1)), ?_, ⟨_, _, setBlock_at hw2, ?_, ?_, ?_, put_keys h4, ?_⟩, (But.refl b w2).setBlock _, by simp [setBlock]⟩
      · simp [Instr.entryStore, MapKept.run_getObj_map hw2, asInt, asIntOf, goInt, hidx, hmod, MapKept.run_setObj_map _ hw2, Result.andThen, setBlock]
      · intro x hx
        rw [Array.toList_push, List.mem_append, List.mem_singleton] at hx
        rcases hx with hx | rfl
        · have := h1 x hx; omega
        · simp
      · simp only [Array.toList_push, List.map_append, List.map_cons, List.map_nil]
        refine List.nodup_append.2 ⟨h2, by simp, fun a ha c hc e1 => ?_⟩
        simp only [List.mem_singleton] at hc
        obtain ⟨x, hx, rfl⟩ := List.mem_map.1 ha
        have := h1 x hx
        omega
      · rw [put_new hno]
        simp only [Array.toList_push, List.map_append, List.map_cons, List.map_nil, h3]
      · intro x hx
        rcases mem_put.1 hx with ⟨h6, _⟩ | ⟨_, h6⟩
        · rw [h6]; exact hp
        · exact h5 x h6
  · have hmem := Mp.memE h3 (List.mem_of_getElem? f2) f3
    have hhas : has es p := ⟨_, hmem⟩
    rw [look_mem h4 hmem]
    have hj : arr[j]? = some e0 := by simpa using f2
    have hsame : arr.modify j (fun e => { e with key := kv p }) = arr := by
      apply Array.ext'
      rw [Array.toList_modify, ChangeMaps.modify_eq_set _ _ _ _ f2]
      have : ({ e0 with key := kv p } : MapEntry) = e0 := by rw [← f3]
      rw [this]
      exact WideElems.set_self _ _ _ f2
    refine ⟨e0.born, setBlock w b (.map arr clock), ?_, (But.refl b w).setBlock _, by simp [setBlock], hlt, fun w2 val hw2 => ?_⟩
    · simp [Instr.mapEntry, run_underlying undMp, MapKept.run_getObj_map hb, lawPl.check w false hl, f1, hj, f3, lawPl.stays w hl, hsame, MapKept.run_setObj_map _ hb, Result.andThen, setBlock]
    · rw [setBlock_at hb] at hw2
      have hidx : arr.findIdx? (fun e => ((e.born : Nat) : Int) == ((e0.born : Nat) : Int)) = some j := by
        rw [WideElems.findIdx_arr]
        exact WideElems.findIdx_born h2 f2
      have hlist : (arr.modify j (fun e => { e with val := val })).toList = arr.toList.set j ⟨e0.key, val, e0.born⟩ := by
        rw [Array.toList_modify, ChangeMaps.modify_eq_set _ _ _ _ f2]
      have hborn : (arr.modify j (fun e => { e with val := val })).toList.map (·.born) = arr.toList.map (·.born) := by
        rw [hlist, List.map_set]
        refine WideElems.set_self _ _ _ ?_
        rw [List.getElem?_map, f2]; rfl
      refine ⟨setBlock w2 b (.map (arr.modify j (fun e => { e with val := val })) clock), ?_, ⟨_, _, setBlock_at hw2, ?_, ?_, ?_, put_keys h4, ?_⟩, (But.refl b w2).setBlock _, by simp [setBlock]⟩
      · simp [Instr.entryStore, MapKept.run_getObj_map hw2, asInt, asIntOf, goInt, hidx, MapKept.run_setObj_map _ hw2, Result.andThen, setBlock]
      · intro x hx
        rw [hlist] at hx
        rcases List.mem_or_eq_of_mem_set hx with hx | rfl
        · exact h1 x hx
        · exact h1 e0 (List.mem_of_getElem? f2)
      · rw [hborn]; exact h2
      · rw [put_hit hhas, hlist, List.map_set, h3, List.map_map]
        apply List.ext_getElem?
        intro i
        have hjl : (es.map (fun x => (kv x.1, x.2)))[j]? = some (kv p, e0.val) := by
          rw [← h3, List.getElem?_map, f2, Option.map_some, f3]
        by_cases hij : j = i
        · subst hij
          have hjb := (List.getElem?_eq_some_iff.1 hjl).1
          rw [List.getElem?_set_self hjb, List.getElem?_map]
          rw [List.getElem?_map, Option.map_eq_some_iff] at hjl
          obtain ⟨x, hx, hxe⟩ := hjl
          have g1 : kv x.1 = kv p := congrArg Prod.fst hxe
          have gx := kv_inj g1
          rw [hx, Option.map_some, Function.comp, gx, f3]
          simp only [beq_self_eq_true, if_true]
        · rw [List.getElem?_set_ne hij, List.getElem?_map, List.getElem?_map]
          cases hx : es[i]? with
          | none => rfl
          | some x =>
            have hne : x.1 ≠ p := fun e => by
              rw [List.getElem?_map, Option.map_eq_some_iff] at hjl
              obtain ⟨y, hy, hye⟩ := hjl
              injection hye with g1 g2
              have hyp := kv_inj g1
              rw [List.pairwise_iff_getElem] at h4
              obtain ⟨i1, i2⟩ := List.getElem?_eq_some_iff.1 hx
              obtain ⟨j1, j2⟩ := List.getElem?_eq_some_iff.1 hy
              rcases Nat.lt_or_gt_of_ne hij with hlt' | hlt'
              · exact h4 j i j1 i1 hlt' (by rw [i2, j2, e, hyp])
              · exact h4 i j i1 j1 hlt' (by rw [i2, j2, e, hyp])
            simp [hne]
      · intro x hx
        rcases mem_put.1 hx with ⟨h6, _⟩ | ⟨_, h6⟩
        · rw [h6]; exact hp
        · exact h5 x h6
end Go.Proofs.YtfddkmkibfmmgaaDoor

namespace Go.Proofs.YtfddkmkibfmmgaaDoor
namespace Cut
/-- complete subtrees (where it begins, how many leaves), one behind the other, from a to b -/
def Cov : Nat → Nat → List (Nat × Nat) → Prop
  | a, b, [] => a = b
  | a, b, (p, n) :: l => p = a ∧ (∃ k, n = 2 ^ k) ∧ a % n = 0 ∧ Cov (a + n) b l
/-- no two neighbours are the halves of a complete subtree -/
def Free : List (Nat × Nat) → Prop
  | (p, n) :: (q, m) :: l => ¬ (n = m ∧ p % (2 * n) = 0) ∧ Free ((q, m) :: l)
  | _ => True
theorem Cov.le : ∀ {l : List (Nat × Nat)} {a b : Nat}, Cov a b l → a ≤ b
  | [], a, b, h => Nat.le_of_eq h
  | (p, n) :: l, a, b, h => by
    have := Cov.le h.2.2.2
    omega
theorem two_pos (k : Nat) : 0 < 2 ^ k := Nat.two_pow_pos k
theorem Free.tail {x : Nat × Nat} {l : List (Nat × Nat)} (h : Free (x :: l)) : Free l := by
  cases l with
  | nil => trivial
  | cons y l => exact h.2
theorem pow_le_of_dvd {k j : Nat} (h : 2 ^ j < 2 ^ k) : j < k := (Nat.pow_lt_pow_iff_right (by omega)).1 h
/-- what covers an aligned stretch begins with it, or with more -/
theorem first : ∀ (k p e : Nat) (n : Nat) (l : List (Nat × Nat)), p % 2 ^ k = 0 → p + 2 ^ k ≤ e → Cov p e ((p, n) :: l) → Free ((p, n) :: l) → n ≤ 2 ^ k → n = 2 ^ k
  | 0, p, e, n, l, h1, h2, h3, h4, h5 => by
    obtain ⟨_, ⟨j, rfl⟩, _⟩ := h3
    have := two_pos j
    have : (2 : Nat) ^ 0 = 1 := rfl
    omega
  | k + 1, p, e, n, l, h1, h2, h3, h4, h5 => by
    obtain ⟨_, ⟨j, hj⟩, hn, hc⟩ := h3
    have e2 : 2 ^ (k + 1) = 2 * 2 ^ k := by rw [Nat.pow_succ, Nat.mul_comm]
    by_cases he : n = 2 ^ (k + 1)
    · exact he
    · exfalso
      have hk := two_pos k
      have hjk : j < k + 1 := pow_le_of_dvd (by omega)
      have hn2 : n ≤ 2 ^ k := by rw [hj]; exact Nat.pow_le_pow_right (by omega) (by omega)
      have hpk : p % 2 ^ k = 0 := Nat.mod_eq_zero_of_dvd (Nat.dvd_trans ⟨2, by rw [e2, Nat.mul_comm]⟩ (Nat.dvd_of_mod_eq_zero h1))
      have hf := first k p e n l hpk (by omega) ⟨rfl, ⟨j, hj⟩, hn, hc⟩ h4 hn2
      subst hf
      cases l with
      | nil => have : p + 2 ^ k = e := hc; omega
      | cons y l =>
        obtain ⟨q, m⟩ := y
        obtain ⟨rfl, ⟨i, hi⟩, hm, hc'⟩ := hc
        have hm2 : m ≤ 2 ^ k := by
          rcases Nat.lt_or_ge k i with hlt | hge
          · exfalso
            have hd : 2 ^ (k + 1) ∣ m := by rw [hi]; exact Nat.pow_dvd_pow 2 (by omega)
            have h7 := Nat.dvd_trans hd (Nat.dvd_of_mod_eq_zero hm)
            have h8 := (Nat.dvd_add_right (Nat.dvd_of_mod_eq_zero h1)).1 h7
            have := Nat.le_of_dvd hk h8
            omega
          · rw [hi]; exact Nat.pow_le_pow_right (by omega) hge
        have hq : (p + 2 ^ k) % 2 ^ k = 0 := by rw [Nat.add_mod_right]; exact hpk
        have hf2 := first k (p + 2 ^ k) e m l hq (by omega) ⟨rfl, ⟨i, hi⟩, hm, hc'⟩ h4.2 hm2
        exact h4.1 ⟨hf2.symm, by rw [← e2]; exact h1⟩
/-- THERE IS ONE CUT -/
theorem unique : ∀ (l l' : List (Nat × Nat)) (a b : Nat), Cov a b l → Cov a b l' → Free l → Free l' → l = l'
  | [], [], _, _, _, _, _, _ => rfl
  | [], (p, n) :: l', a, b, h, h', _, _ => by
    have e : a = b := h
    have := Cov.le h'.2.2.2
    obtain ⟨k, hk⟩ := h'.2.1
    have := two_pos k
    omega
  | (p, n) :: l, [], a, b, h, h', _, _ => by
    have e : a = b := h'
    have := Cov.le h.2.2.2
    obtain ⟨k, hk⟩ := h.2.1
    have := two_pos k
    omega
  | (p, n) :: l, (q, m) :: l', a, b, h, h', f, f' => by
    obtain ⟨rfl, ⟨k, hk⟩, hn, hc⟩ := h
    obtain ⟨rfl, ⟨j, hj⟩, hm, hc'⟩ := h'
    have e : n = m := by
      rcases Nat.le_total n m with hle | hle
      · rw [hj] at hle hm
        have := Cov.le hc'
        rw [hj] at this
        rw [hj]
        exact first j q b n l hm this ⟨rfl, ⟨k, hk⟩, hn, hc⟩ f hle
      · rw [hk] at hle hn
        have := Cov.le hc
        rw [hk] at this
        rw [hk]
        exact (first k q b m l' hn this ⟨rfl, ⟨j, hj⟩, hm, hc'⟩ f' hle).symm
    subst e
    rw [unique l l' _ b hc hc' f.tail f'.tail]
/-- the greatest complete subtree at b that does not end behind e, from one of n on -/
def grow : Nat → Nat → Nat → Nat → Nat
  | 0, n, _, _ => n
  | f + 1, n, b, e => if b % (2 * n) = 0 ∧ b + 2 * n ≤ e then grow f (2 * n) b e else n
theorem grow_spec : ∀ (f n b e : Nat), (∃ k, n = 2 ^ k) → b % n = 0 → b + n ≤ e → e < n * 2 ^ (f + 1) → (∃ k, grow f n b e = 2 ^ k) ∧ b % grow f n b e = 0 ∧ b + grow f n b e ≤ e ∧ n ≤ grow f n b e ∧ ¬ (b % (2 * grow f n b e) = 0 ∧ b + 2 * grow f n b e ≤ e)
  | 0, n, b, e, hp, h1, h2, h3 => by
    refine ⟨hp, h1, h2, Nat.le_refl _, fun h => ?_⟩
    have : n * 2 ^ (0 + 1) = 2 * n := by rw [Nat.zero_add, Nat.pow_one, Nat.mul_comm]
    have := h.2
    show False
    simp only [grow] at *
    omega
  | f + 1, n, b, e, hp, h1, h2, h3 => by
    rw [grow]
    split
    · rename_i h
      obtain ⟨k, hk⟩ := hp
      obtain ⟨a1, a2, a3, a4, a5⟩ := grow_spec f (2 * n) b e ⟨k + 1, by rw [hk, Nat.pow_succ, Nat.mul_comm]⟩ h.1 h.2 (by rw [Nat.pow_succ] at h3; rw [Nat.mul_comm 2 n, Nat.mul_assoc, Nat.mul_comm 2]; exact h3)
      exact ⟨a1, a2, a3, by omega, a5⟩
    · rename_i h
      exact ⟨hp, h1, h2, Nat.le_refl _, h⟩
def cutF : Nat → Nat → Nat → List (Nat × Nat)
  | 0, _, _ => []
  | f + 1, b, e => if b < e then (b, grow 40 1 b e) :: cutF f (b + grow 40 1 b e) e else []
/-- the cut of [b, e) -/
def cut (b e : Nat) : List (Nat × Nat) := cutF (e - b) b e
theorem cutF_cov : ∀ (f b e : Nat), e ≤ 1099511627776 → b ≤ e → e - b ≤ f → Cov b e (cutF f b e)
  | 0, b, e, _, h1, h2 => by show b = e; omega
  | f + 1, b, e, h0, h1, h2 => by
    rw [cutF]
    split
    · rename_i h
      obtain ⟨a1, a2, a3, a4, a5⟩ := grow_spec 40 1 b e ⟨0, rfl⟩ (Nat.mod_one b) (by omega) (by rw [Nat.one_mul]; exact Nat.lt_of_le_of_lt h0 (by decide))
      exact ⟨rfl, a1, a2, cutF_cov f _ e h0 a3 (by omega)⟩
    · show b = e; omega
theorem cutF_free : ∀ (f b e : Nat), e ≤ 1099511627776 → Free (cutF f b e)
  | 0, b, e, _ => trivial
  | f + 1, b, e, h0 => by
    rw [cutF]
    split
    · rename_i h
      have ih := cutF_free f (b + grow 40 1 b e) e h0
      obtain ⟨a1, a2, a3, a4, a5⟩ := grow_spec 40 1 b e ⟨0, rfl⟩ (Nat.mod_one b) (by omega) (by rw [Nat.one_mul]; exact Nat.lt_of_le_of_lt h0 (by decide))
      generalize grow 40 1 b e = n at *
      cases f with
      | zero => trivial
      | succ f =>
        rw [cutF] at ih ⊢
        split
        · rename_i h'
          rw [if_pos h'] at ih
          obtain ⟨c1, c2, c3, c4, c5⟩ := grow_spec 40 1 (b + n) e ⟨0, rfl⟩ (Nat.mod_one _) (by omega) (by rw [Nat.one_mul]; exact Nat.lt_of_le_of_lt h0 (by decide))
          exact ⟨fun hh => a5 ⟨hh.2, by omega⟩, ih⟩
        · trivial
    · trivial
theorem cut_cov {b e : Nat} (h0 : e ≤ 1099511627776) (h1 : b ≤ e) : Cov b e (cut b e) := cutF_cov _ b e h0 h1 (Nat.le_refl _)
theorem cut_free {b e : Nat} (h0 : e ≤ 1099511627776) : Free (cut b e) := cutF_free _ b e h0
theorem cut_of {b e : Nat} {l : List (Nat × Nat)} (h0 : e ≤ 1099511627776) (h : Cov b e l) (hf : Free l) : l = cut b e := unique l _ b e h (cut_cov h0 h.le) hf (cut_free h0)
/-- a subtree is laid behind; halves become one (the list from behind) -/
def push : List (Nat × Nat) → Nat → Nat → List (Nat × Nat)
  | [], b, n => [(b, n)]
  | (p, m) :: l, b, n => if m = n ∧ p % (2 * n) = 0 then push l p (2 * n) else (b, n) :: (p, m) :: l
end Cut
end Go.Proofs.YtfddkmkibfmmgaaDoor
