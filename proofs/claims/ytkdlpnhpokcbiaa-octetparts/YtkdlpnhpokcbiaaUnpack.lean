/-
  What octet.Unpack answers at this program, whatever the bytes (as many as the laws look at).
-/
import Derived.Test.YtkdlpnhpokcbiaaClone
namespace Go.Proofs.Ytkdlpnhpokcbiaa
open Go.RowKit

theorem infoS : (Try.prog.info? 23).map (fun i => (i.zero, i.size, i.bytes)) = some (some (.slice none 0 0), 1, 24) := by kernel_rfl

/-- A list of parts of the call's own: a row of slices, each a row of the call's own. -/
def Held (w : World) (base : Nat) (v : Value) (D : List (List Int)) : Prop :=
  ∃ vs : List Value, w.ownsRow base 23 1 v D.length vs ∧ ∀ i, i < D.length → ∃ p, vs[i]? = some p ∧ Own w base p (D.getD i [])
theorem Held.nil (w : World) (base : Nat) : Held w base (.slice none 0 0) [] := ⟨[], World.ownsRow_nil _ _ _ _, by simp⟩
theorem row_at {w w' : World} {base : Nat} {e : TypeId} {size : Nat} {v : Value} {n : Nat} {xs : List Value} (h : w.ownsRow base e size v n xs) (hb : ∀ k, k < w.heap.size → w'.heap[k]? = w.heap[k]?) : w'.ownsRow base e size v n xs := by
  obtain ⟨h1, h2⟩ := h
  refine ⟨h1, ?_⟩
  rcases h2 with h2 | ⟨g, cap, cur, hv, hg, hh, r⟩
  · exact Or.inl h2
  · exact Or.inr ⟨g, cap, cur, hv, hg, by rw [hb g (Array.getElem?_eq_some_iff.1 hh).1]; exact hh, r⟩
theorem Own.below {w w' : World} {base : Nat} {v : Value} {l : List Int} (h : Own w base v l) (hb : Below w.heap.size w w') : Own w' base v l := row_at h hb.block
theorem Held.below {w w' : World} {base : Nat} {v : Value} {D : List (List Int)} (h : Held w base v D) (hb : Below w.heap.size w w') : Held w' base v D := by
  obtain ⟨vs, h1, h2⟩ := h
  refine ⟨vs, row_at h1 hb.block, fun i hi => ?_⟩
  obtain ⟨p, hp, ho⟩ := h2 i hi
  exact ⟨p, hp, ho.below hb⟩
theorem Held.alloc {w : World} {base : Nat} {v : Value} {D : List (List Int)} (h : Held w base v D) (o : Obj) : Held (w.alloc o) base v D := h.below ((Below.refl _ _).alloc (Nat.le_refl _) o)
/-- A list of the call's own bears its parts. -/
theorem Held.parts {w : World} {base : Nat} {v : Value} {D : List (List Int)} (h : Held w base v D) : Parts w v D := by
  obtain ⟨vs, h1, h2⟩ := h
  obtain ⟨hlen, h0 | ⟨g, cap, cur, rfl, hb, hg, hn, hm, hs, ht⟩⟩ := id h1
  · obtain ⟨rfl, h0⟩ := h0
    refine ⟨none, 0, by rw [h0], by omega, by omega, fun _ => rfl, fun hp => ?_⟩
    omega
  · refine ⟨_, _, rfl, hn, by simpa [maxLen] using hm, by simp, fun _ => ⟨g, 0, rfl, fun i hi => ?_⟩⟩
    obtain ⟨p, hp, ho⟩ := h2 i hi
    have := World.ownsRow.cellAt h1 i (by omega)
    rw [Nat.zero_add, this]
    exact ⟨p, hp, ho.bytes⟩
/-- A row of bytes is no row of slices. -/
theorem apart {w : World} {base n m : Nat} {v p : Value} {vs xs : List Value} (h : w.ownsRow base 23 1 v n vs) (k : w.ownsRow base 5 1 p m xs) : p.ownBlock = none ∨ p.ownBlock ≠ v.ownBlock := by
  obtain ⟨_, ⟨rfl, _⟩ | ⟨g, cap, cur, rfl, _, hg, _⟩⟩ := k
  · exact Or.inl rfl
  · right
    obtain ⟨_, ⟨rfl, _⟩ | ⟨g', cap', cur', rfl, _, hg', _⟩⟩ := h
    · simp [Value.ownBlock]
    · intro e
      simp [Value.ownBlock] at e
      rw [e, hg'] at hg
      simp at hg
theorem Own.slice {w : World} {base : Nat} {v : Value} {l : List Int} (h : Own w base v l) : v.oneCell' = true := by
  obtain ⟨_, ⟨rfl, _⟩ | ⟨g, cap, cur, rfl, _⟩⟩ := h <;> rfl

/-- 'append', of one part onto a list of the call's own. -/
theorem wp_push {w : World} {ops : Array Oper} {rest : List Oper} {o : Oper} {a : Act} {Q : Exit → Act → World → Prop} (hgd : o.guard = none) (s x : Operand)
    (ho : o.op = .call { callee := .builtin .append, args := #[s, x], argTypes := #[37, 37] })
    (base : Nat) (v : Value) (D : List (List Int)) (hs : a.eval s = v) (hheld : Held w base v D) (g : Nat) (p : Value) (q : List Int) (hx : a.eval x = .slice (some ⟨g, 0, none⟩) 1 1)
    (hcell : w.cell? ⟨g, 0, none⟩ = some p) (hown : Own w base p q)
    (hsz : D.length ≤ 1000000) (hb : base ≤ w.heap.size)
    (h : ∀ v' w', Held w' base v' (D ++ [q]) → Below base w w' → wpList Try.prog ops Q rest (a.put o.dst v') w') : wpList Try.prog ops Q (o :: rest) a w := by
  obtain ⟨i0, hi, hz0, hz1, hz2⟩ := info_parts infoS
  obtain ⟨vs, hrow, hel⟩ := hheld
  refine wpList_append_own w hgd s x 37 ho base 23 i0 (.slice none 0 0) 1 24 Try.underlying37 hi hz0 hz1 hz2 rfl (by decide) v D.length vs hs hrow ⟨g, 0, none⟩ 1 1 [p] hx rfl ?_ ?_ (by unfold maxLen; omega) (by omega) hb ?_
  · intro j u hj
    match j, hj with
    | 0, hj => simp at hj; subst hj; simpa [Addr.add] using hcell
  · intro u hu
    simp at hu
    subst hu
    exact hown.slice
  · intro v' w' hown' hgrow _
    refine h v' w' ⟨vs ++ [p], ?_, fun i hi => ?_⟩ ((Below.refl base w).grown hgrow hb (fun k hk => (World.ownsRow.lt hrow k hk).1))
    · rw [List.length_append]
      exact hown'
    · have hvl : vs.length = D.length := by simpa using hrow.1
      have keep : ∀ {r : Value} {l : List Int}, Own w base r l → Own w' base r l := fun k => World.ownsRow.kept k hgrow (apart hrow k)
      by_cases hlt : i < D.length
      · obtain ⟨r, hr, hq⟩ := hel i hlt
        refine ⟨r, by rw [List.getElem?_append_left (by omega)]; exact hr, ?_⟩
        have e : (D ++ [q]).getD i [] = D.getD i [] := by simp [List.getD, List.getElem?_append_left hlt]
        rw [e]
        exact keep hq
      · have hi' : i = D.length := by simp at hi; omega
        subst hi'
        refine ⟨p, by rw [← hvl]; simp, ?_⟩
        have e : (D ++ [q]).getD D.length [] = q := by simp [List.getD]
        rw [e]
        exact keep hown

/-- What Unpack comes to. -/
def UnpackDone (w : World) (l : List Int) (most : Int) (e : Ending) (w' : World) : Prop :=
  ∃ v', e = .returned (.tuple #[v', .int .i64 (unpackE l most)]) ∧ Parts w' v' (unpackL l most) ∧ Below w.heap.size w w'
theorem unpackDone_bad {w w' : World} {l : List Int} {most z : Int} (h : unpackE l most = z) (hz : ¬ z = 0) (hb : Below w.heap.size w w') : UnpackDone w l most (.returned (.tuple #[.slice none 0 0, .int .i64 z])) w' := by
  subst h
  refine ⟨_, rfl, ?_, hb⟩
  unfold unpackL
  rw [if_neg hz]
  exact Parts.none _
theorem unpackDone_ok {w w' : World} {l : List Int} {most : Int} {v : Value} (h : unpackE l most = 0) (hv : Parts w' v (stepsL (readX l).toNat (after l))) (hb : Below w.heap.size w w') : UnpackDone w l most (.returned (.tuple #[v, .int .i64 0])) w' := by
  refine ⟨v, by rw [h], ?_, hb⟩
  unfold unpackL
  rw [if_pos h]
  exact hv

/-- What holds at the head of a round of Unpack: E, LL and RR are what it all comes to. -/
def Unpacking (w : World) (cnt N : Nat) (E : Int) (LL : List (List Int)) (RR : List Int) (bv lv i : Value) (wr : World) : Prop :=
  ∃ (k m : Nat) (D : List (List Int)) (r : List Int), k + m = cnt ∧ i = .int .u64 k ∧ Bytes w bv r ∧ (∀ z ∈ r, Byte z) ∧ Held wr w.heap.size lv D ∧ D.length + r.length ≤ N ∧
    stepsE m r = E ∧ D ++ stepsL m r = LL ∧ stepsR m r = RR ∧ Below w.heap.size w wr
theorem unpacking_next {w wr : World} {cnt N k m : Nat} {E : Int} {LL D : List (List Int)} {RR r : List Int} {bv lv : Value} (hkm : k + (m + 1) = cnt) (hp : partE r = 0) (hr : ∀ z ∈ r, Byte z) (hN : D.length + r.length ≤ N)
    (hE : stepsE (m + 1) r = E) (hL : D ++ stepsL (m + 1) r = LL) (hR : stepsR (m + 1) r = RR)
    (hb : Bytes w bv (partR r)) (hh : Held wr w.heap.size lv (D ++ [partP r])) (hbel : Below w.heap.size w wr) : Unpacking w cnt N E LL RR bv lv (.int .u64 ((k + 1 : Nat) : Int)) wr := by
  have h2 := (part_ok hr hp).2.1
  refine ⟨k + 1, m, D ++ [partP r], partR r, by omega, rfl, hb, partR_byte hr, hh, by simp; omega, by rw [← hE, steps_ok hp], ?_, hR, hbel⟩
  rw [← hL]
  simp [stepsL]

theorem cell_box (w : World) (v : Value) (t : TypeId) : (w.alloc (.cells #[v] t)).cell? ⟨w.heap.size, 0, none⟩ = some v := by simp
theorem Bytes.drewN {w : World} {v : Value} {l : List Int} (h : Bytes w v l) (n : Nat) : Bytes (w.drewN n) v l := h.below (below_drewN (Below.refl _ _) n)
theorem first_ok (l : List Int) (v : Value) (w : World) (hv : Bytes w v l) (hl : ∀ z ∈ l, Byte z) (hn : l.length ≤ 1000000) (hp : partE l = 0) :
    Calls Try.prog 32 #[v] w fun e w' => ∃ p r n, e = .returned (.tuple #[p, r, .int .i64 0]) ∧ (∀ w0, Bytes w0 v l → Bytes w0 p (partP l) ∧ Bytes w0 r (partR l)) ∧ w' = w.drewN n := by
  refine (first_any l v w hv hl hn).mono ?_
  rintro e w' ⟨p, r, rfl, h, n, rfl⟩
  rw [hp]
  exact ⟨p, r, n, rfl, h hp, rfl⟩
theorem first_bad (l : List Int) (v : Value) (w : World) (hv : Bytes w v l) (hl : ∀ z ∈ l, Byte z) (hn : l.length ≤ 1000000) :
    Calls Try.prog 32 #[v] w fun e w' => ∃ p r n, e = .returned (.tuple #[p, r, .int .i64 (partE l)]) ∧ w' = w.drewN n := by
  refine (first_any l v w hv hl hn).mono ?_
  rintro e w' ⟨p, r, rfl, h, n, rfl⟩
  exact ⟨p, r, n, rfl, rfl⟩
theorem unpack_far {l : List Int} {most : Int} {k m : Nat} {r : List Int} (UE : unpackE l most = (if stepsE k (after l) = 0 then (if stepsR k (after l) = [] then 0 else 5) else stepsE k (after l)))
    (hE : stepsE (m + 1) r = stepsE k (after l)) (hp : ¬ partE r = 0) : unpackE l most = partE r := by
  rw [UE, ← hE, steps_bad hp, if_neg hp]
theorem unpack_left {l : List Int} {most : Int} {k : Nat} {r : List Int} (UE : unpackE l most = (if stepsE k (after l) = 0 then (if stepsR k (after l) = [] then 0 else 5) else stepsE k (after l)))
    (hE : stepsE 0 r = stepsE k (after l)) (hR : stepsR 0 r = stepsR k (after l)) : unpackE l most = (if r = [] then 0 else 5) := by
  have h1 : stepsE k (after l) = 0 := hE.symm
  have h2 : stepsR k (after l) = r := hR.symm
  simp [UE, h1, h2]

set_option maxHeartbeats 1000000 in
theorem unpack_loop (l : List Int) (b off cap n cnt : Nat) (most : Int) (w : World) (hl : ∀ z ∈ l, Byte z) (hlen : l.length ≤ 200000) (hpos : 0 < l.length) (he : readE l = 0) (hn : readN l = n) (hn1 : 1 ≤ n) (hn2 : n ≤ l.length) (hx : readX l = cnt) (hcnt : cnt < 18446744073709551616)
    (hm0 : 0 ≤ most) (hm1 : (cnt : Int) ≤ most) (hm2 : most ≤ 9223372036854775807) (hcap : l.length ≤ cap) (_hmax : cap ≤ 9223372036854775807) (hv : Bytes w (.slice (some ⟨b, off, none⟩) l.length cap) l) :
    Calls Try.prog 21 #[.slice (some ⟨b, off, none⟩) l.length cap, .int .i64 most] w fun e w' => UnpackDone w l most e w' := by
  have R := hide (read_any l _ w hv hl)
  have ha : after l = l.drop n := by unfold after; rw [hn]; rfl
  have HA := hide (hv.drop n hn2)
  have HL := hide (after_byte hl)
  rw [← ha] at HA
  have hla : (after l).length ≤ l.length := by rw [ha]; simp
  have hmc : ¬ most < (cnt : Int) := by omega
  have UE : Hid (unpackE l most = (if stepsE cnt (after l) = 0 then (if stepsR cnt (after l) = [] then 0 else 5) else stepsE cnt (after l))) := by
    show unpackE l most = _
    unfold unpackE
    rw [if_pos he, hx, if_neg (by omega)]
    rfl
  have UL : Hid (stepsL (readX l).toNat (after l) = stepsL cnt (after l)) := by rw [hx]; rfl
  rw [he, hn, hx] at R
  clear he hn hx ha hl hv
  by_cases hc : cap = n
  · subst hc
    have hz : l.length - cap = 0 := by omega
    rw [if_pos rfl, Nat.sub_self, hz] at HA
    clear hz
    go_enter Try.func21, Try.ntmps21
    go_wp2_with fail
    refine R.out.mono ?_
    rintro e w' ⟨rfl, rfl⟩
    go_wp2_with fail
    go_loopw [0, 9, 34] (fun bv lv i wr => Unpacking w' cnt l.length (stepsE cnt (after l)) (stepsL cnt (after l)) (stepsR cnt (after l)) bv lv i wr) (fun _ _ i _ => cnt - (intOf i).toNat)
    case atStart => exact ⟨0, cnt, [], after l, by omega, rfl, HA.out, HL.out, Held.nil _ _, by simp; omega, rfl, rfl, rfl, Below.refl _ _⟩
    case round =>
      obtain ⟨k, m, D, r, hkm, rfl, hbv, hrb, hheld, hN, hE, hL, hR, hbel⟩ := hrel
      have HE := hide hE
      have HLL := hide hL
      have HRR := hide hR
      have HH := hide hheld
      have HB := hide hbel
      have HRB := hide hrb
      have HBV := hide hbv
      have HK := hide hkm
      by_cases hlt : k < cnt
      · obtain ⟨m, rfl⟩ : ∃ j, m = j + 1 := ⟨m - 1, by omega⟩
        have hk1 : (k : Int) < (cnt : Int) := by omega
        have hwr : IntKind.u64.wrap ((k : Int) + 1) = (k : Int) + 1 := by simp [IntKind.wrap, IntKind.bits, IntKind.signed]; omega
        by_cases hp : partE r = 0
        · have F := hide (first_ok r _ wr (hbv.below hbel) hrb (by omega) hp)
          have HP := hide hp
          have HPL := hide (part_ok hrb hp).2.2
          clear hE hL hR hheld hbel hrb hbv hkm hp
          go_wp2_with fail
          refine F.out.mono ?_
          rintro e w2 ⟨pv, rv, nn, rfl, hpr, rfl⟩
          have C := hide (clone_any (partP r) pv _ ((hpr wr (HBV.out.below HB.out)).1.drewN nn) (by have := HPL.out; omega))
          have HRV := hide (hpr w' HBV.out).2
          clear hpr
          go_wp2_with fail
          refine C.out.mono ?_
          rintro e w3 ⟨cv, rfl, hown, hbel3⟩
          obtain ⟨ca, cc, rfl, _, _⟩ := hown.bytes.form
          have HB3 : Hid (Below wr.heap.size wr w3) := (below_drewN (Below.refl _ _) nn).trans hbel3
          have HO3 : Hid (Own w3 w'.heap.size (.slice ca (partP r).length cc) (partP r)) := Own.low hown HB.out.size
          have HH3 := hide (HH.out.below HB3.out)
          clear hown hbel3
          go_wp2_with (at_builtin; refine wp_push rfl _ _ rfl w'.heap.size _ D rfl (HH3.out.alloc _) w3.heap.size _ (partP r) rfl (cell_box w3 _ 23) (HO3.out.alloc _) ?c1 ?c2 ?_)
          case c1 => omega
          case c2 => have h1 := HB.out.size; have h2 := HB3.out.size; simp; omega
          intro lv' w4 hheld4 hbel4
          have HB4 : Hid (Below w'.heap.size w3 w4) := ((Below.refl _ _).alloc (Nat.le_trans HB.out.size HB3.out.size) _).trans hbel4
          have HB5 : Hid (Below w'.heap.size w' w4) := (HB.out.trans (HB3.out.mono HB.out.size)).trans HB4.out
          have R2 : Hid (Unpacking w' cnt l.length (stepsE cnt (after l)) (stepsL cnt (after l)) (stepsR cnt (after l)) rv lv' (.int .u64 ((k + 1 : Nat) : Int)) w4) :=
            unpacking_next HK.out HP.out HRB.out hN HE.out HLL.out HRR.out HRV.out hheld4 HB5.out
          clear hheld4 hbel4
          go_wp2
          go_roundw
          case rel => first | exact R2.out | ((repeat apply Exists.intro); exact ⟨R2.out, rfl⟩)
          case measure => simp [intOf]; omega
        · have F := hide (first_bad r _ wr (hbv.below hbel) hrb (by omega))
          have D2 : Hid (∀ w2, Below w'.heap.size w' w2 → UnpackDone w' l most (.returned (.tuple #[.slice none 0 0, .int .i64 (partE r)])) w2) := fun w2 hb => unpackDone_bad (unpack_far UE.out HE.out hp) hp hb
          have hpb : (partE r == 0) = false := by simpa using hp
          clear hE hL hR hheld hbel hrb hbv hkm hp
          generalize partE r = pe at *
          go_wp2_with fail
          refine F.out.mono ?_
          rintro e w2 ⟨pv, rv, nn, rfl, rfl⟩
          go_wp2
          go_ret2
          exact D2.out _ (below_drewN HB.out nn)
      · obtain rfl : m = 0 := by omega
        obtain rfl : k = cnt := by omega
        have hU := unpack_left UE.out hE hR
        obtain ⟨ra, rc, rfl, _, _⟩ := hbv.form
        have hLL : D = stepsL k (after l) := by rw [← hL]; simp [stepsL]
        by_cases hr0 : r.length = 0
        · have hr1 : r = [] := List.length_eq_zero_iff.1 hr0
          rw [if_pos hr1] at hU
          have D2 := hide (unpackDone_ok hU (by rw [UL.out, ← hLL]; exact HH.out.parts) HB.out)
          clear hE hL hR hheld hbel hrb hbv hkm hLL hU hr1
          rw [hr0]
          clear hr0
          go_wp2
          go_ret2
          exact D2.out
        · have hr1 : ¬ r = [] := fun q => hr0 (by rw [q]; rfl)
          rw [if_neg hr1] at hU
          have D2 := hide (unpackDone_bad hU (by omega) HB.out)
          have hr2 : (0 : Int) < (r.length : Int) := by omega
          clear hE hL hR hheld hbel hrb hbv hkm hLL hU hr1 hr0
          generalize r.length = rn at *
          go_wp2
          go_ret2
          exact D2.out
  · rw [if_neg hc] at HA
    have e1 : (Option.map (fun x => Addr.add x n) (some (⟨b, off, none⟩ : Addr))) = some ⟨b, off + n, none⟩ := by simp [Addr.add]; omega
    rw [e1] at HA
    clear e1
    go_enter Try.func21, Try.ntmps21
    go_wp2_with fail
    refine R.out.mono ?_
    rintro e w' ⟨rfl, rfl⟩
    go_wp2_with fail
    go_loopw [0, 9, 34] (fun bv lv i wr => Unpacking w' cnt l.length (stepsE cnt (after l)) (stepsL cnt (after l)) (stepsR cnt (after l)) bv lv i wr) (fun _ _ i _ => cnt - (intOf i).toNat)
    case atStart => exact ⟨0, cnt, [], after l, by omega, rfl, HA.out, HL.out, Held.nil _ _, by simp; omega, rfl, rfl, rfl, Below.refl _ _⟩
    case round =>
      obtain ⟨k, m, D, r, hkm, rfl, hbv, hrb, hheld, hN, hE, hL, hR, hbel⟩ := hrel
      have HE := hide hE
      have HLL := hide hL
      have HRR := hide hR
      have HH := hide hheld
      have HB := hide hbel
      have HRB := hide hrb
      have HBV := hide hbv
      have HK := hide hkm
      by_cases hlt : k < cnt
      · obtain ⟨m, rfl⟩ : ∃ j, m = j + 1 := ⟨m - 1, by omega⟩
        have hk1 : (k : Int) < (cnt : Int) := by omega
        have hwr : IntKind.u64.wrap ((k : Int) + 1) = (k : Int) + 1 := by simp [IntKind.wrap, IntKind.bits, IntKind.signed]; omega
        by_cases hp : partE r = 0
        · have F := hide (first_ok r _ wr (hbv.below hbel) hrb (by omega) hp)
          have HP := hide hp
          have HPL := hide (part_ok hrb hp).2.2
          clear hE hL hR hheld hbel hrb hbv hkm hp
          go_wp2_with fail
          refine F.out.mono ?_
          rintro e w2 ⟨pv, rv, nn, rfl, hpr, rfl⟩
          have C := hide (clone_any (partP r) pv _ ((hpr wr (HBV.out.below HB.out)).1.drewN nn) (by have := HPL.out; omega))
          have HRV := hide (hpr w' HBV.out).2
          clear hpr
          go_wp2_with fail
          refine C.out.mono ?_
          rintro e w3 ⟨cv, rfl, hown, hbel3⟩
          obtain ⟨ca, cc, rfl, _, _⟩ := hown.bytes.form
          have HB3 : Hid (Below wr.heap.size wr w3) := (below_drewN (Below.refl _ _) nn).trans hbel3
          have HO3 : Hid (Own w3 w'.heap.size (.slice ca (partP r).length cc) (partP r)) := Own.low hown HB.out.size
          have HH3 := hide (HH.out.below HB3.out)
          clear hown hbel3
          go_wp2_with (at_builtin; refine wp_push rfl _ _ rfl w'.heap.size _ D rfl (HH3.out.alloc _) w3.heap.size _ (partP r) rfl (cell_box w3 _ 23) (HO3.out.alloc _) ?c1 ?c2 ?_)
          case c1 => omega
          case c2 => have h1 := HB.out.size; have h2 := HB3.out.size; simp; omega
          intro lv' w4 hheld4 hbel4
          have HB4 : Hid (Below w'.heap.size w3 w4) := ((Below.refl _ _).alloc (Nat.le_trans HB.out.size HB3.out.size) _).trans hbel4
          have HB5 : Hid (Below w'.heap.size w' w4) := (HB.out.trans (HB3.out.mono HB.out.size)).trans HB4.out
          have R2 : Hid (Unpacking w' cnt l.length (stepsE cnt (after l)) (stepsL cnt (after l)) (stepsR cnt (after l)) rv lv' (.int .u64 ((k + 1 : Nat) : Int)) w4) :=
            unpacking_next HK.out HP.out HRB.out hN HE.out HLL.out HRR.out HRV.out hheld4 HB5.out
          clear hheld4 hbel4
          go_wp2
          go_roundw
          case rel => first | exact R2.out | ((repeat apply Exists.intro); exact ⟨R2.out, rfl⟩)
          case measure => simp [intOf]; omega
        · have F := hide (first_bad r _ wr (hbv.below hbel) hrb (by omega))
          have D2 : Hid (∀ w2, Below w'.heap.size w' w2 → UnpackDone w' l most (.returned (.tuple #[.slice none 0 0, .int .i64 (partE r)])) w2) := fun w2 hb => unpackDone_bad (unpack_far UE.out HE.out hp) hp hb
          have hpb : (partE r == 0) = false := by simpa using hp
          clear hE hL hR hheld hbel hrb hbv hkm hp
          generalize partE r = pe at *
          go_wp2_with fail
          refine F.out.mono ?_
          rintro e w2 ⟨pv, rv, nn, rfl, rfl⟩
          go_wp2
          go_ret2
          exact D2.out _ (below_drewN HB.out nn)
      · obtain rfl : m = 0 := by omega
        obtain rfl : k = cnt := by omega
        have hU := unpack_left UE.out hE hR
        obtain ⟨ra, rc, rfl, _, _⟩ := hbv.form
        have hLL : D = stepsL k (after l) := by rw [← hL]; simp [stepsL]
        by_cases hr0 : r.length = 0
        · have hr1 : r = [] := List.length_eq_zero_iff.1 hr0
          rw [if_pos hr1] at hU
          have D2 := hide (unpackDone_ok hU (by rw [UL.out, ← hLL]; exact HH.out.parts) HB.out)
          clear hE hL hR hheld hbel hrb hbv hkm hLL hU hr1
          rw [hr0]
          clear hr0
          go_wp2
          go_ret2
          exact D2.out
        · have hr1 : ¬ r = [] := fun q => hr0 (by rw [q]; rfl)
          rw [if_neg hr1] at hU
          have D2 := hide (unpackDone_bad hU (by omega) HB.out)
          have hr2 : (0 : Int) < (r.length : Int) := by omega
          clear hE hL hR hheld hbel hrb hbv hkm hLL hU hr1 hr0
          generalize r.length = rn at *
          go_wp2
          go_ret2
          exact D2.out

theorem unpack_any (l : List Int) (v : Value) (most : Int) (w : World) (hv : Bytes w v l) (hl : ∀ z ∈ l, Byte z) (hlen : l.length ≤ 200000) (hm : -9223372036854775808 ≤ most ∧ most ≤ 9223372036854775807) :
    Calls Try.prog 21 #[v, .int .i64 most] w fun e w' => UnpackDone w l most e w' := by
  have R := hide (read_any l v w hv hl)
  by_cases he : readE l = 0
  · obtain ⟨n, hn, hn1, hn2, _, hvar, hx0, hx1⟩ := read_ok l hl he
    by_cases hs : most < 0 ∨ most < readX l
    · have D := hide (unpackDone_bad (w := w) (w' := w) (l := l) (most := most) (z := 5) (by unfold unpackE; rw [if_pos he, if_pos hs]) (by omega) (Below.refl _ _))
      obtain ⟨a, cap, rfl, _, _⟩ := hv.form
      rw [hn, he] at R
      clear hn he hvar hv hl
      generalize readX l = x at *
      generalize l.length = m at *
      by_cases h0 : most < 0
      · have hd : decide (most < 0) = true := decide_eq_true h0
        clear hs
        go_enter Try.func21, Try.ntmps21
        go_wp2_with fail
        refine R.out.mono ?_
        rintro e w' ⟨rfl, rfl⟩
        go_wp2
        go_ret2
        exact D.out
      · have h1 : most < x := by omega
        have hd : decide (most < 0) = false := decide_eq_false h0
        have hd1 : decide (most < x) = true := decide_eq_true h1
        clear hs
        go_enter Try.func21, Try.ntmps21
        go_wp2_with fail
        refine R.out.mono ?_
        rintro e w' ⟨rfl, rfl⟩
        go_wp2
        go_ret2
        exact D.out
    · obtain ⟨x, hx⟩ : ∃ x : Nat, readX l = x := ⟨(readX l).toNat, by omega⟩
      obtain ⟨b, off, cap, rfl, h1, h2, _⟩ := hv.lies (by omega)
      exact unpack_loop l b off cap n x most w hl hlen (by omega) he hn hn1 hn2 hx (by omega) (by omega) (by omega) hm.2 h1 h2 hv
  · have hU : unpackE l most = readE l := by unfold unpackE; rw [if_neg he]
    have D := hide (unpackDone_bad (w := w) (w' := w) hU he (Below.refl _ _))
    obtain ⟨hb1, hb2⟩ := read_bad l he
    rw [hb1, hb2] at R
    have he' : (readE l == 0) = false := by simpa using he
    obtain ⟨a, cap, rfl, _, _⟩ := hv.form
    clear he hb1 hb2 hU hv hl
    generalize readE l = re at *
    generalize l.length = m at *
    go_enter Try.func21, Try.ntmps21
    go_wp2_with fail
    refine R.out.mono ?_
    rintro e w' ⟨rfl, rfl⟩
    go_wp2
    go_ret2
    exact D.out
end Go.Proofs.Ytkdlpnhpokcbiaa
