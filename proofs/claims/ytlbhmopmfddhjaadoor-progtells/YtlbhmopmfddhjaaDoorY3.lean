/-
  What package prog's instCode and write return, as contracts over the translated program: parts of an encoding appended to a row of bytes.
-/
import Derived.Test.YtlbhmopmfddhjaaDoorX3
import Derived.Test.YtlbhmopmfddhjaaDoorPlain6
import Derived.Lib.AppendStr
namespace Go.Proofs.YtlbhmopmfddhjaaDoor
open Go.RowKit

theorem ta46 (v : Value) (w : World) : (Instr.typeAssert (.iface 46 v) 20 46 true).run Tryd.prog w = .ok (.tuple #[v, .bool true]) w := by kernel_rfl
theorem ta9s (v : Value) (w : World) : (Instr.typeAssert (.iface 9 v) 20 9 true).run Tryd.prog w = .ok (.tuple #[v, .bool true]) w := by kernel_rfl
theorem ta3s (v : Value) (w : World) : (Instr.typeAssert (.iface 3 v) 20 9 true).run Tryd.prog w = .ok (.tuple #[.string ⟨#[]⟩, .bool false]) w := by kernel_rfl
theorem ta46s (v : Value) (w : World) : (Instr.typeAssert (.iface 46 v) 20 9 true).run Tryd.prog w = .ok (.tuple #[.string ⟨#[]⟩, .bool false]) w := by kernel_rfl
theorem ta3i (v : Value) (w : World) : (Instr.typeAssert (.iface 3 v) 20 3 true).run Tryd.prog w = .ok (.tuple #[v, .bool true]) w := by kernel_rfl
theorem ta46i (v : Value) (w : World) : (Instr.typeAssert (.iface 46 v) 20 3 true).run Tryd.prog w = .ok (.tuple #[.int .i64 0, .bool false]) w := by kernel_rfl

theorem instCode_yes (o f d s : Int) (r : Bool) (x m : Int) (w : World) (hR : RowsIn w) (hM : mayB o f d s r x m = true) (h0 : 0 ≤ m) (hm : m ≤ 4294967295) :
    Calls Tryd.prog 32 #[.iface 46 (instV o f d s r x m)] w fun e w' => ∃ b, e = .returned (.slice (some ⟨b, 0, none⟩) 8 8) ∧ Below w.heap.size w w' ∧ w.heap.size ≤ b ∧ BytesAt w' ⟨b, 0, none⟩ (encL o f d s r x m) := by
  have hg : Below w.heap.size w (w.alloc (.cells #[.int .i64 o, .int .i64 f, .int .i64 d, .int .i64 s, .bool r, .int .i64 x, .int .u32 m] 46)) :=
    (Below.refl _ _).alloc (Nat.le_refl _) _
  have hR1 := hR.later hg
  have HM := Lib.hid hM
  clear hM
  have hta := ta46 (instV o f d s r x m)
  go_enter Tryd.func32, Tryd.ntmps32
  go_wp2_with fail
  clear hta
  refine (put_yes _ _ _ _ _ _ _ _ hR1 HM.out h0 hm).mono ?_
  rintro e w1 ⟨b, rfl, hg1, hb1, hB1⟩
  have HB1 := Lib.hid hB1
  replace hb1 := Nat.le_trans hg.size hb1
  replace hg := hg.trans (hg1.mono hg.size)
  clear hB1 hg1
  go_wp2
  go_ret
  exact ⟨b, rfl, hg, hb1, HB1.out⟩

/- a part that is written: the mark, a number, an instruction -/
inductive Part where
  | mark : Part
  | num (x : Int) : Part
  | ins (o f d s : Int) (r : Bool) (x m : Int) : Part
def markB : ByteArray := ⟨#[88, 86]⟩
def Part.val : Part → Value
  | .mark => .iface 9 (.string ⟨#[88, 86]⟩)
  | .num x => .iface 3 (.int .i64 x)
  | .ins o f d s r x m => .iface 46 (instV o f d s r x m)
def Part.enc : Part → List Int
  | .mark => [88, 86]
  | .num x => [x]
  | .ins o f d s r x m => encL o f d s r x m
def Part.ok : Part → Prop
  | .mark => True
  | .num x => 0 ≤ x ∧ x ≤ 255
  | .ins o f d s r x m => mayB o f d s r x m = true ∧ 0 ≤ m ∧ m ≤ 4294967295
def encPs (ps : List Part) : List Int := ps.flatMap Part.enc
theorem encPs_take (ps : List Part) (k : Nat) (h : k < ps.length) : encPs (ps.take (k + 1)) = encPs (ps.take k) ++ (ps.getD k .mark).enc := by
  rw [take_getD ps k .mark h]
  simp [encPs]
theorem enc_len (p : Part) : p.enc.length ≤ 8 := by
  cases p <;> simp [Part.enc, encL]
theorem encPs_len : ∀ (ps : List Part), (encPs ps).length ≤ 8 * ps.length
  | [] => by simp [encPs]
  | p :: ps => by
    have h1 := encPs_len ps
    have h2 := enc_len p
    simp only [encPs, List.flatMap_cons, List.length_append, List.length_cons] at h1 ⊢
    omega
/- what write leaves -/
def Wrote (w : World) (base : Nat) (v : Value) (zs : List Int) (e : Ending) (w' : World) : Prop :=
  ∃ v', e = .returned v' ∧ w'.ownsRow base 5 1 v' zs.length (bytesV zs) ∧ w.grownBy w' v.ownBlock ∧ (v'.ownBlock = v.ownBlock ∨ ∃ g, v'.ownBlock = some g ∧ w.heap.size ≤ g)
def WroteAt (w : World) (base : Nat) (v v' : Value) (zs : List Int) (w' : World) : Prop :=
  w'.ownsRow base 5 1 v' zs.length (bytesV zs) ∧ w.grownBy w' v.ownBlock ∧ (v'.ownBlock = v.ownBlock ∨ ∃ g, v'.ownBlock = some g ∧ w.heap.size ≤ g)
theorem grownBy_refl (w : World) (row : Option Nat) : w.grownBy w row := ⟨rfl, rfl, rfl, Nat.le_refl _, fun _ _ _ => rfl⟩
theorem grownBy_of_below {w w' : World} (h : Below w.heap.size w w') (row : Option Nat) : w.grownBy w' row := ⟨h.os, h.tape, h.output, h.size, fun k hk _ => h.block k hk⟩
/- one append more -/
theorem WroteAt.more {w w1 w2 : World} {base : Nat} {v v1 v2 : Value} {zs ys : List Int} (h : WroteAt w base v v1 zs w1) (ho : w2.ownsRow base 5 1 v2 (zs.length + ys.length) (bytesV (zs ++ ys))) (hg : w1.grownBy w2 v1.ownBlock)
    (hat : v2.ownBlock = v1.ownBlock ∨ ∃ g, v2.ownBlock = some g ∧ w1.heap.size ≤ g) : WroteAt w base v v2 (zs ++ ys) w2 := by
  obtain ⟨h1, h2, h3⟩ := h
  refine ⟨by rw [List.length_append]; exact ho, ⟨hg.os.trans h2.os, hg.tape.trans h2.tape, hg.output.trans h2.output, Nat.le_trans h2.size hg.size, fun k hk hne => ?_⟩, ?_⟩
  · refine (hg.block k (Nat.lt_of_lt_of_le hk h2.size) ?_).trans (h2.block k hk hne)
    rcases h3 with h3 | ⟨g, h3, h4⟩
    · rw [h3]; exact hne
    · rw [h3]
      intro e
      have := Option.some.inj e
      omega
  · rcases hat with hat | ⟨g, hat, hle⟩
    · rw [hat]
      exact h3
    · exact .inr ⟨g, hat, Nat.le_trans h2.size hle⟩
theorem RowsIn.grown {w w' : World} {row : Option Nat} (h : RowsIn w) (hg : w.grownBy w' row) (hne : row ≠ some 0) : RowsIn w' := by
  have hp := h.pos
  obtain ⟨t, fr, h⟩ := h
  exact ⟨t, fr, (hg.block 0 hp (fun e => hne e.symm)).trans h⟩
theorem own_ne_zero {w : World} {base : Nat} {v : Value} {n : Nat} {xs : List Value} (h : w.ownsRow base 5 1 v n xs) (hb : 0 < base) : v.ownBlock ≠ some 0 := by
  intro e
  have := (h.lt 0 e).1
  omega

theorem own_ge {b : Nat} {g H : Nat} {u : Value} {n c : Nat} (h : u.ownBlock = some g ∨ g = H) (hH : b ≤ H) : (Value.slice (some ⟨g, 0, none⟩) n c).ownBlock = u.ownBlock ∨ ∃ g', (Value.slice (some ⟨g, 0, none⟩) n c).ownBlock = some g' ∧ b ≤ g' := by
  rcases h with h | rfl
  · exact .inl (by rw [h]; rfl)
  · exact .inr ⟨_, rfl, hH⟩
set_option maxHeartbeats 4000000 in
theorem write_any (base : Nat) (v : Value) (zs : List Int) (x : Addr) (ps : List Part) (len cap : Nat) (w : World) (hR : RowsIn w) (hB0 : 0 < base) (hB : base ≤ w.heap.size)
    (hown : w.ownsRow base 5 1 v zs.length (bytesV zs)) (hl : ps.length = len) (hp : ∀ k, k < len → w.cell? (x.add k) = some (ps.getD k .mark).val) (hok : ∀ k, k < len → (ps.getD k .mark).ok)
    (hmark : ∀ k, k < len → ps.getD k .mark = .mark → k = 0 ∧ zs = [] ∧ v = .slice none 0 0)
    (hne : some x.block ≠ v.ownBlock) (hlen : len ≤ 2) (hz : zs.length ≤ 5000) :
    Calls Tryd.prog 23 #[v, .slice (some x) len cap] w (Wrote w base v (zs ++ encPs ps)) := by
  obtain ⟨i0, hi5, hz0, hz1, hz2⟩ := info_parts info5
  have HP := Lib.hid hp
  have HK := Lib.hid hok
  have HL := Lib.hid hl
  have HMk := Lib.hid hmark
  have hv0 : v.ownBlock ≠ some 0 := own_ne_zero hown hB0
  have hstart : WroteAt w base v v (zs ++ encPs (ps.take 0)) w := by
    have e : zs ++ encPs (ps.take 0) = zs := by simp [encPs]
    rw [e]
    exact ⟨hown, grownBy_refl _ _, .inl rfl⟩
  have HS := Lib.hid hstart
  have HV0 := Lib.hid hv0
  have HNE := Lib.hid hne
  clear hp hok hl hstart hown hmark hv0 hne
  go_enter Tryd.func23, Tryd.ntmps23
  go_wp2
  go_loopw [0, 12] (fun u i wr => ∃ k : Nat, k ≤ len ∧ i = .int .i64 k ∧ Hid (WroteAt w base v u (zs ++ encPs (ps.take k)) wr) ∧ Hid (k = 0 → u = v)) (fun _ i _ => len - (intOf i).toNat)
  case atStart => exact ⟨0, by omega, rfl, HS, Lib.hid (fun _ => rfl)⟩
  case round =>
    obtain ⟨k, hk, rfl, HW, HKV⟩ := hrel
    clear HS
    by_cases hkl : k < len
    · have hkI : (k : Int) < (len : Int) := by omega
      have hc := HP.out k hkl
      have hlt := lt_of_cell hc
      rw [add_block] at hlt
      have hc' : wr.cell? (x.add k) = some (ps.getD k .mark).val := by
        rw [HW.out.2.1.cell_far _ (by rw [add_block]; exact hlt) (by rw [add_block]; exact HNE.out)]
        exact hc
      clear hc
      have hokk := HK.out k hkl
      have HE : Hid (zs ++ encPs (ps.take (k + 1)) = (zs ++ encPs (ps.take k)) ++ (ps.getD k .mark).enc) := Lib.hid (by rw [encPs_take ps k (by rw [HL.out]; exact hkl), List.append_assoc])
      have hRr := hR.grown HW.out.2.1 HV0.out
      have hownr := HW.out.1
      have hszr := HW.out.2.1.size
      have hZ : (zs ++ encPs (ps.take k)).length ≤ 5016 := by
        have := encPs_len (ps.take k)
        rw [List.length_append]
        simp only [List.length_take] at this
        omega
      have HMK := Lib.hid (HMk.out k hkl)
      generalize zs ++ encPs (ps.take k) = Z at *
      generalize ps.getD k .mark = pt at *
      rcases pt with _ | nx | ⟨o, f, d, s, r, xx, m⟩
      · obtain ⟨hk0, rfl, rfl⟩ := HMK.out rfl
        have hkk : k = 0 ∧ 0 < 1 := ⟨hk0, by omega⟩
        have HK0 := Lib.hid hkk
        obtain rfl := HKV.out hk0
        have hZ0 : Z = [] := by
          rcases hownr with ⟨h1, ⟨_, h2⟩ | ⟨g, cp, cur, h2, _⟩⟩
          · exact List.length_eq_zero_iff.1 h2
          · cases h2
        subst hZ0
        have t1 := ta9s (.string ⟨#[88, 86]⟩)
        simp only [Part.val, Part.enc] at hc' HE
        have hgc := grownCap_ge wr 2 0 5
        have hcm : grownCap wr 2 0 5 ≤ maxLen := grownCap_le_maxLen wr 2 0 5 (by decide)
        have hz6 : (Builtin.zeroCells #[Value.int .u8 0] (grownCap wr 2 0 5 - 2)).size = grownCap wr 2 0 5 - 2 := by
          rw [size_zeroCells]
          exact Nat.mul_one _
        have hW2 : Hid (WroteAt w base (.slice none 0 0) (.slice (some ⟨wr.heap.size, 0, none⟩) 2 (grownCap wr 2 0 5)) ([] ++ encPs (ps.take (k + 1))) (wr.drew.alloc (.cells (#[.int .u8 88, .int .u8 86] ++ Builtin.zeroCells #[Value.int .u8 0] (grownCap wr 2 0 5 - 2)) 5))) := Lib.hid (by
          rw [HE.out]
          refine HW.out.more (ys := [88, 86]) ?_ ((⟨rfl, rfl, rfl, Nat.le_refl _, fun _ _ _ => rfl⟩ : wr.grownBy wr.drew _).trans (World.grownBy_alloc wr.drew _ _)) (.inr ⟨_, rfl, Nat.le_refl _⟩)
          refine ⟨rfl, .inr ⟨wr.heap.size, grownCap wr 2 0 5, _, rfl, by omega, heap_alloc_new wr.drew _, hgc, hcm, ?_, ?_⟩⟩
          · simp [hz6]
            omega
          · simp [bytesV])
        clear hgc hz6 hcm hownr hkk hk0
        go_wp2
        exact ⟨⟨k + 1, by omega, by go_num, hW2, Lib.hid (fun h => by omega)⟩, by simp [intOf]; omega⟩
      · obtain ⟨hn0, hn1⟩ : 0 ≤ nx ∧ nx ≤ 255 := hokk
        have hw : IntKind.u8.wrap nx = nx := by simp [IntKind.wrap, IntKind.bits, IntKind.signed]; omega
        have t1 := ta3s (.int .i64 nx)
        have t2 := ta3i (.int .i64 nx)
        simp only [Part.val, Part.enc] at hc' HE
        go_wp2_with (at_builtin; refine wpList_append_lies _ rfl _ _ _ rfl base 5 i0 _ 1 1 Tryd.underlying25 hi5 hz0 hz1 hz2 rfl (by omega) _ Z.length (bytesV Z) rfl (hownr.alloc _) ⟨wr.heap.size, 0, none⟩ 1 1 [.int .u8 nx] rfl rfl (World.news_of_block (cs := #[.int .u8 nx]) (t := 5) (fr := (0, 0)) (heap_alloc_new wr _)) (by simp [Value.oneCell']) (by omega) (by unfold maxLen; omega) (by omega) (by simp; omega) (wr.heap.size + 1) (by simp) ?_)
        intro g6 cp6 w6 hown6 hgrow6 hat6 hlt6
        have hW2 : Hid (WroteAt w base v (.slice (some ⟨g6, 0, none⟩) (Z.length + 1) cp6) (zs ++ encPs (ps.take (k + 1))) w6) := Lib.hid (by
          rw [HE.out]
          refine HW.out.more (ys := [nx]) ?_ ((World.grownBy_alloc wr _ _).trans hgrow6) (own_ge hat6 (by omega))
          rw [← bytesV_append]
          exact hown6)
        clear hown6 hgrow6 hat6 hlt6 hc' t1 t2 hownr
        go_wp2
        exact ⟨⟨k + 1, by omega, by go_num, hW2, Lib.hid (fun h => by omega)⟩, by simp [intOf]; omega⟩
      · obtain ⟨hm0, hm1, hm2⟩ : mayB o f d s r xx m = true ∧ 0 ≤ m ∧ m ≤ 4294967295 := hokk
        have HM0 := Lib.hid hm0
        have t1 := ta46s (instV o f d s r xx m)
        have t2 := ta46i (instV o f d s r xx m)
        simp only [Part.val, Part.enc] at hc' HE
        clear hm0
        go_wp2_with fail
        clear t1 t2 hc'
        refine (instCode_yes _ _ _ _ _ _ _ _ hRr HM0.out hm1 hm2).mono ?_
        rintro e w5 ⟨b5, rfl, hg5, hb5, hB5⟩
        have hown5 := ownsRow_below hownr hg5
        have HB5 := Lib.hid hB5
        have hs5 := hg5.size
        clear hB5 hownr
        go_wp2_with (at_builtin; refine wpList_append_lies _ rfl _ _ _ rfl base 5 i0 _ 1 1 Tryd.underlying25 hi5 hz0 hz1 hz2 rfl (by omega) _ Z.length (bytesV Z) rfl hown5 ⟨b5, 0, none⟩ 8 8 (bytesV (encL o f d s r xx m)) rfl rfl (bytesV_at HB5.out) (bytesV_one _) (by omega) (by unfold maxLen; omega) (by omega) (by omega) w5.heap.size rfl ?_)
        intro g6 cp6 w6 hown6 hgrow6 hat6 hlt6
        have hW2 : Hid (WroteAt w base v (.slice (some ⟨g6, 0, none⟩) (Z.length + 8) cp6) (zs ++ encPs (ps.take (k + 1))) w6) := Lib.hid (by
          rw [HE.out]
          refine HW.out.more (ys := encL o f d s r xx m) ?_ ((grownBy_of_below hg5 _).trans hgrow6) (own_ge hat6 (by omega))
          rw [← bytesV_append]
          exact hown6)
        clear hown6 hgrow6 hat6 hlt6 hown5 hg5
        go_wp2
        exact ⟨⟨k + 1, by omega, by go_num, hW2, Lib.hid (fun h => by omega)⟩, by simp [intOf]; omega⟩
    · have hkI : ¬ (k : Int) < (len : Int) := by omega
      have HE : Hid (zs ++ encPs (ps.take k) = zs ++ encPs ps) := Lib.hid (by
        rw [List.take_of_length_le (by rw [HL.out]; omega)])
      rw [HE.out] at HW
      go_wp2
      go_ret
      exact ⟨_, rfl, HW.out⟩
end Go.Proofs.YtlbhmopmfddhjaaDoor
