import Derived.Test.YtkamjpjmdibfgaaPkKP2
/- Layer 15, the program: the table, the whole state, small functions -/
namespace Go.Proofs.Ytkamjpjmdibfgaa
open Go.RowKit Go.Maps
namespace Kc
abbrev mT : TypeId := 47
theorem kStr : Keyed Try.prog 9 := string_keyed Try.underlying9
def pd (b : Nat) : DataW Unit := .lit (.int .i64 (b : Int))
def pRa : Addr → Option (DataW Unit × List MemPlace)
  | ⟨b, 0, none⟩ => some (pd b, [])
  | _ => none
def pR : Value → Option (DataW Unit × List MemPlace)
  | .pointer none => some (.nil, [])
  | .pointer (some q) => pRa q
  | _ => none
theorem pR_mk (b : Nat) : pR (.pointer (some ⟨b, 0, none⟩)) = some (pd b, []) := rfl
theorem pRa_inv {q : Addr} {z : DataW Unit × List MemPlace} (h : pRa q = some z) : ∃ b, q = ⟨b, 0, none⟩ ∧ z = (pd b, []) := by
  unfold pRa at h
  split at h
  · exact ⟨_, rfl, (Option.some.inj h).symm⟩
  · cases h
theorem pR_inv {v : Value} {b : Nat} {ps : List MemPlace} (h : pR v = some (pd b, ps)) : v = .pointer (some ⟨b, 0, none⟩) := by
  unfold pR at h
  split at h
  · cases h
  · obtain ⟨b', rfl, e⟩ := pRa_inv h
    have e1 : b = b' := by
      have := (Prod.mk.inj e).1
      unfold pd at this
      injection this with this
      injection this with _ this
      omega
    rw [e1]
  · cases h
theorem pR_nil {v : Value} {ps : List MemPlace} (h : pR v = some (.nil, ps)) : v = .pointer none := by
  unfold pR at h
  split at h
  · rfl
  · obtain ⟨b', rfl, e⟩ := pRa_inv h
    cases (Prod.mk.inj e).1
  · cases h
/-- the map's data against the list -/
structure Md (D : DataW Unit) (L : List En) : Prop where
  hs : ∀ k, Maps.has D (.string k) = (fnd k L).isSome
  at_ : ∀ k e, fnd k L = some e → ∀ z, D.atKey (.string k) z = pd e.b
theorem Md.nil : Md (.map []) [] := ⟨fun _ => by simp [Maps.has_eq, fnd], fun _ _ h => nomatch h⟩
theorem Md.put {D : DataW Unit} {L : List En} (h : Md D L) (hD : IsMap D) (e : En) : Md (D.put (.string e.k) (pd e.b)) (e :: L) where
  hs k := by
    by_cases c : k = e.k
    · subst c; rw [has_put_same (k := .string e.k) hD trivial, fnd_cons_eq rfl]; rfl
    · rw [has_put_other (fun x => c (by injection x)), fnd_cons_ne (Ne.symm c), h.hs k]
  at_ k x hx := by
    intro z
    by_cases c : k = e.k
    · subst c
      rw [fnd_cons_eq rfl] at hx
      rw [atKey_put_same (k := .string e.k) hD trivial, Option.some.inj hx]
    · rw [fnd_cons_ne (Ne.symm c)] at hx
      rw [atKey_put_other (fun x => c (by injection x))]
      exact h.at_ k x hx z
theorem fnd_mid {X Y : List En} {e : En} {k : List UInt8} (hu : Uq (X ++ e :: Y)) : fnd k (X ++ Y) = if k = e.k then none else fnd k (X ++ e :: Y) := by
  by_cases c : k = e.k
  · rw [if_pos c, c]; exact fnd_of_not hu.split.2
  · rw [if_neg c]
    clear hu
    induction X with
    | nil => exact (fnd_cons_ne (Ne.symm c)).symm
    | cons x X ih => simp only [List.cons_append, fnd, ih]
theorem Md.del {D : DataW Unit} {X Y : List En} {e : En} (h : Md D (X ++ e :: Y)) (hu : Uq (X ++ e :: Y)) : Md (D.del (.string e.k)) (X ++ Y) where
  hs k := by
    rw [fnd_mid hu]
    by_cases c : k = e.k
    · rw [if_pos c, c, has_del_same]; rfl
    · rw [if_neg c, has_del_other (fun x => c (by injection x)), h.hs k]
  at_ k x := by
    rw [fnd_mid hu]
    by_cases c : k = e.k
    · rw [if_pos c]; intro h'; cases h'
    · rw [if_neg c]; intro hx z; rw [atKey_del_other (fun x => c (by injection x))]; exact h.at_ k x hx z
theorem Md.congr {D : DataW Unit} {L M : List En} (h : Md D L) (hc : ∀ k, (fnd k M).map En.b = (fnd k L).map En.b) : Md D M where
  hs k := by
    rw [h.hs k]
    have := congrArg Option.isSome (hc k)
    simpa using this.symm
  at_ k x hx z := by
    have := hc k
    rw [hx] at this
    cases c : fnd k L with
    | none => rw [c] at this; cases this
    | some y => rw [c] at this; rw [h.at_ k y c z]; simp only [Option.map_some, Option.some.injEq] at this; rw [this]
def Tb (w : World) (g : Option Nat) (c : Nat) (L : List En) : Prop := (g = none ∧ L = []) ∨ ∃ b D, g = some b ∧ w.ownsMap Try.prog 9 pR b c D ∧ Md D L
/-- a cache in memory -/
structure Ch (w : World) (a : Nat) (g : Option Nat) (B c : Nat) (L : List En) (f m o : Nat) : Prop where
  li : Li w a L (.int .i64 (B : Int)) (.map g) (.int .i64 (L.length : Int)) (.int .i64 (tot L : Int)) (.int .i64 (pnd L : Int)) (.int .i64 (f : Int)) (.int .i64 (m : Int)) (.int .i64 (o : Int))
  tb : Tb w g c L
  gn : ∀ b, g = some b → ¬ Fp a L b
  uq : Uq L
  bu : B ≤ 16777216
  tt : tot L ≤ B
  cb : f + m + o + L.length ≤ c
  pm : ∀ e ∈ L, e.p ≤ 65535
theorem Tb.of {w : World} {g : Option Nat} {c : Nat} {L : List En} (h : Tb w g c L) {e : En} (he : e ∈ L) : ∃ b D, g = some b ∧ w.ownsMap Try.prog 9 pR b c D ∧ Md D L := by
  rcases h with ⟨_, rfl⟩ | h
  · cases he
  · exact h
theorem kl_of (k : List UInt8) (h : k.length ≤ 9223372036854775807) : keyOf Try.prog 9 (.string ⟨k.toArray⟩) = some (.string k) := by
  have := WideMaps.keyOf_string_mk (P := Try.prog) (k := 9) (s := ⟨k.toArray⟩) Try.underlying9 (by unfold maxLen; rw [sv_size]; exact h)
  simpa using this
theorem zeroP (w : World) : (zeroValue 44).run Try.prog w = .ok (.pointer none) w := by kernel_rfl
theorem Tb.look {w : World} {b c : Nat} {L : List En} (h : Tb w (some b) c L) (k : List UInt8) (hk : k.length ≤ 9223372036854775807) :
    (Instr.lookup mT (.map (some b)) (.string ⟨k.toArray⟩) true).run Try.prog w = .ok (.tuple #[pv ((fnd k L).map En.b), .bool (fnd k L).isSome]) w := by
  rcases h with ⟨h, _⟩ | ⟨b', D, h0, h1, h2⟩
  · cases h
  · obtain rfl := Option.some.inj h0
    obtain ⟨v, ps, r1, r2⟩ := h1.look_ok kStr Try.underlying47 (zeroP w) (zd := .nil) (zp := []) rfl (kl_of k hk)
    rw [h2.hs k] at r1
    cases hp : fnd k L with
    | none =>
      rw [atKey_of_not_has (by rw [h2.hs k, hp]; rfl)] at r2
      obtain rfl := pR_nil r2
      rw [hp] at r1
      exact r1
    | some e =>
      rw [h2.at_ k e hp] at r2
      obtain rfl := pR_inv r2
      rw [hp] at r1
      exact r1
set_option maxRecDepth 100000 in
theorem orNone_some (q : Addr) (w : World) :
    Calls Try.prog 30 #[.pointer (some q)] w fun r w' => r = .returned (.pointer (some q)) ∧ w' = w := by
  go_enter Try.func30, Try.ntmps30
  go_wp2
  go_ret
  exact ⟨rfl, rfl⟩
set_option maxRecDepth 100000 in
theorem counts_any (k v : ByteArray) (p : Int) (hk : k.size ≤ 2305843009213693952) (hv : v.size ≤ 2305843009213693952) (w : World) :
    Calls Try.prog 33 #[.agg #[.string k, .string v, .int .i64 p]] w fun r w' => r = .returned (.int .i64 ((k.size + v.size : Nat) : Int)) ∧ Below w.heap.size w w' := by
  have e := wrap_small ((k.size : Int) + (v.size : Int)) (by omega) (by omega)
  go_enter Try.func33, Try.ntmps33
  go_wp2
  go_ret
  exact ⟨by simp, (Below.refl _ _).alloc (Nat.le_refl _) _⟩
set_option maxRecDepth 100000 in
theorem pinned_any (k v : ByteArray) (p : Nat) (hk : k.size ≤ 2305843009213693952) (hv : v.size ≤ 2305843009213693952) (w : World) :
    Calls Try.prog 32 #[.agg #[.string k, .string v, .int .i64 (p : Int)]] w fun r w' => r = .returned (.int .i64 ((if p = 0 then 0 else k.size + v.size : Nat) : Int)) ∧ Below w.heap.size w w' := by
  have i1 := counts_any k v (p : Int) hk hv
  go_enter Try.func32, Try.ntmps32
  by_cases h : p = 0
  · subst h
    go_wp2
    go_ret
    exact ⟨rfl, (Below.refl _ _).alloc (Nat.le_refl _) _⟩
  · have h1 : ¬ (p : Int) = 0 := by omega
    rw [if_neg h]
    go_wp2_with (go_at_call 33; refine (i1 _).mono ?_; rintro r w1 ⟨rfl, b1⟩)
    go_ret
    exact ⟨rfl, ((Below.refl _ _).alloc (Nat.le_refl _) _).trans (b1.mono (by rw [size_alloc]; omega))⟩
end Kc
end Go.Proofs.Ytkamjpjmdibfgaa

/- Layer 15, the program: find, the table's lay and take, leave -/
namespace Go.Proofs.Ytkamjpjmdibfgaa
open Go.RowKit Go.Maps
namespace Kc
set_option maxRecDepth 100000 in
theorem find_any {w : World} {a c : Nat} {g : Option Nat} {L : List En} (hc : w.cell? ⟨a, 3, none⟩ = some (.map g)) (h : Tb w g c L) (k : List UInt8) (hk : k.length ≤ 9223372036854775807) :
    Calls Try.prog 31 #[.pointer (some ⟨a, 3, none⟩), .string ⟨k.toArray⟩] w fun r w' => r = .returned (.tuple #[pv ((fnd k L).map En.b), .bool (fnd k L).isSome]) ∧ w' = w := by
  cases g with
  | none =>
    rcases h with ⟨_, rfl⟩ | ⟨b, D, h, _⟩
    · have hr : (Instr.lookup mT (.map none) (.string ⟨k.toArray⟩) true).run Try.prog w = .ok (.tuple #[.pointer none, .bool false]) w := by
        have := Maps.look_nil (P := Try.prog) (w := w) true kStr Try.underlying47 (zeroP w) (kl_of k hk)
        exact this
      simp only [fnd, Option.map_none, Option.isSome_none, pv]
      generalize (ByteArray.mk k.toArray) = S at *
      go_enter Try.func31, Try.ntmps31
      go_wp2
      go_ret2
      exact ⟨rfl, rfl⟩
    · cases h
  | some b =>
    have hr := h.look k hk
    generalize pv ((fnd k L).map En.b) = P at *
    generalize (fnd k L).isSome = Q at *
    generalize (ByteArray.mk k.toArray) = S at *
    clear h
    go_enter Try.func31, Try.ntmps31
    go_wp2
    go_ret2
    exact ⟨rfl, rfl⟩
theorem turned_block {w w' : World} {b k : Nat} (h : w.mapTurned w' b) (hk : k ≠ b) (hl : k < w.heap.size) : w'.heap[k]? = w.heap[k]? := h.grown.block k hl (fun e => hk (Option.some.inj e))
theorem keep_turned {S : Nat → Prop} {w w' : World} {b : Nat} (h : w.mapTurned w' b) (hb : S b) : Keep S w w' := ⟨h.grown.os, h.grown.tape, h.grown.output, h.grown.size, fun _ hk h1 => turned_block h (fun e => h1 (e ▸ hb)) hk⟩
theorem turned_size {w w' : World} {b : Nat} (h : w.mapTurned w' b) : w'.heap.size = w.heap.size := by
  obtain ⟨es, cl, es', cl', h1, rfl⟩ := h
  simp [ChangeMaps.setBlock]
set_option maxRecDepth 100000 in
theorem ttake_any {w : World} {a b c : Nat} {X Y : List En} {e : En} {D : DataW Unit} (hc : w.cell? ⟨a, 3, none⟩ = some (.map (some b))) (h : w.ownsMap Try.prog 9 pR b c D) (hd : Md D (X ++ e :: Y)) (hu : Uq (X ++ e :: Y)) (hk : e.k.length ≤ 9223372036854775807) :
    Calls Try.prog 44 #[.pointer (some ⟨a, 3, none⟩), .string ⟨e.k.toArray⟩] w fun r w' => r = .returned (.tuple #[]) ∧ (∃ D', w'.ownsMap Try.prog 9 pR b c D' ∧ Md D' (X ++ Y)) ∧ w.mapTurned w' b := by
  obtain ⟨w', r1, r2, r3⟩ := h.drop kStr Try.underlying47 (kl_of e.k hk) 0
  have P : Hid ((∃ D', w'.ownsMap Try.prog 9 pR b c D' ∧ Md D' (X ++ Y)) ∧ w.mapTurned w' b) := ⟨⟨_, r2, hd.del hu⟩, r3⟩
  clear h hd hu hk r2 r3
  generalize (ByteArray.mk e.k.toArray) = S at *
  go_enter Try.func44, Try.ntmps44
  go_wp2
  go_end0
  exact ⟨rfl, P.out⟩
theorem map_eq_some (b : Nat) (w : World) : (binOp .eql 47 (.map (some b)) (.map none)).run Try.prog w = .ok (.bool false) w := by kernel_rfl
theorem map_eq_none (w : World) : (binOp .eql 47 (.map none) (.map none)).run Try.prog w = .ok (.bool true) w := by kernel_rfl
set_option maxRecDepth 100000 in
theorem tlay_some {w : World} {a b c : Nat} {L : List En} {e : En} {D : DataW Unit} (hc : w.cell? ⟨a, 3, none⟩ = some (.map (some b))) (h : w.ownsMap Try.prog 9 pR b c D) (hd : Md D L) (hk : e.k.length ≤ 9223372036854775807) (hcl : c ≤ 1000000000000) :
    Calls Try.prog 46 #[.pointer (some ⟨a, 3, none⟩), .string ⟨e.k.toArray⟩, .pointer (some ⟨e.b, 0, none⟩)] w fun r w' => r = .returned (.tuple #[]) ∧ (∃ D', w'.ownsMap Try.prog 9 pR b (c + 1) D' ∧ Md D' (e :: L)) ∧ w.mapTurned w' b := by
  obtain ⟨w', r1, r2, r3⟩ := h.store kStr Try.underlying47 (by unfold maxLen; omega) (kl_of e.k hk) (pR_mk e.b)
  have P : Hid ((∃ D', w'.ownsMap Try.prog 9 pR b (c + 1) D' ∧ Md D' (e :: L)) ∧ w.mapTurned w' b) := ⟨⟨_, r2, hd.put h.isMap e⟩, r3⟩
  clear h hd hk r2 r3
  have q := map_eq_some b w
  generalize (ByteArray.mk e.k.toArray) = S at *
  go_enter Try.func46, Try.ntmps46
  go_wp2
  go_end0
  exact ⟨rfl, P.out⟩
set_option maxRecDepth 100000 in
theorem tlay_none {w : World} {a : Nat} {e : En} {x0 x1 x2 x4 x5 x6 x7 x8 x9 : Value} {t : TypeId} (hc : w.heap[a]? = some (.cells #[x0, x1, x2, .map none, x4, x5, x6, x7, x8, x9] t (0, 0))) (hk : e.k.length ≤ 9223372036854775807) :
    Calls Try.prog 46 #[.pointer (some ⟨a, 3, none⟩), .string ⟨e.k.toArray⟩, .pointer (some ⟨e.b, 0, none⟩)] w fun r w' => r = .returned (.tuple #[]) ∧ (∃ D', w'.ownsMap Try.prog 9 pR w.heap.size 1 D' ∧ Md D' [e]) ∧
      w'.heap[a]? = some (.cells #[x0, x1, x2, .map (some w.heap.size), x4, x5, x6, x7, x8, x9] t (0, 0)) ∧ Keep (fun k => k = a) w w' := by
  have al := lt_of_heap hc
  have hne : w.heap.size ≠ a := by omega
  have h0 : ((w.setCell ⟨a, 3, none⟩ (.map (some w.heap.size))).alloc (.map #[] 0)).ownsMap Try.prog 9 pR w.heap.size 0 (.map []) := by
    have := World.ownsMap_made (w.setCell ⟨a, 3, none⟩ (.map (some w.heap.size))) Try.prog 9 pR
    rwa [size_set] at this
  obtain ⟨w', r1, r2, r3⟩ := h0.store kStr Try.underlying47 (by unfold maxLen; omega) (kl_of e.k hk) (pR_mk e.b)
  have c3 : w.cell? ⟨a, 3, none⟩ = some (.map none) := by rw [cell_of_row _ _ _ _ _ _ hc]; rfl
  have f3 : w.frozen? ⟨a, 3, none⟩ = false := frozen_of_row _ _ _ _ _ hc
  have P : Hid ((∃ D', w'.ownsMap Try.prog 9 pR w.heap.size 1 D' ∧ Md D' [e]) ∧
      w'.heap[a]? = some (.cells #[x0, x1, x2, .map (some w.heap.size), x4, x5, x6, x7, x8, x9] t (0, 0)) ∧ Keep (fun k => k = a) w w') := by
    have hs' : ((w.setCell ⟨a, 3, none⟩ (.map (some w.heap.size))).alloc (.map #[] 0)).heap.size = w.heap.size + 1 := by rw [size_alloc, size_set]
    have hb : ∀ k, k < w.heap.size → ((w.setCell ⟨a, 3, none⟩ (.map (some w.heap.size))).alloc (.map #[] 0)).heap[k]? = (w.setCell ⟨a, 3, none⟩ (.map (some w.heap.size))).heap[k]? := fun k hk => ((Below.refl _ _).alloc (Nat.le_refl _) _).block k (by rw [size_set]; exact hk)
    refine ⟨⟨_, r2, Md.nil.put ⟨_, rfl⟩ e⟩, ?_, ?_⟩
    · rw [turned_block r3 (Ne.symm hne) (by omega), hb a al, heap_setCell_same _ _ _ _ _ _ hc]; rfl
    · exact ⟨r3.grown.os, r3.grown.tape, r3.grown.output, by have := r3.grown.size; omega, fun k hk h1 => (turned_block r3 (by omega) (by omega)).trans ((hb k hk).trans (heap_setCell_other _ _ _ _ h1))⟩
  clear hk r2 r3 h0
  have q := map_eq_none w
  have q2 : (Instr.makeMap 47 none).run Try.prog w = .ok (.map (some w.heap.size)) (w.alloc (.map #[] 0)) := by kernel_rfl
  generalize (ByteArray.mk e.k.toArray) = S at *
  go_enter Try.func46, Try.ntmps46
  go_wp2
  go_end0
  exact ⟨rfl, P.out⟩
end Kc
end Go.Proofs.Ytkamjpjmdibfgaa
