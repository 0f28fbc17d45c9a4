/- slices.Insert of one entry into a list of entries. -/
import Derived.Test.YtngomgjhakgehaaU
import Derived.Shelf.Spec.SlicesInsertGrow
import Derived.Laws.CopyOwn
import Derived.Maps.AppendAt
namespace Go.Proofs.Ytngomgjhakgehaa
open Go.RowKit Go.Maps Go.Lib

/-- a copy where an element has several cells -/
theorem run_copy_many {P : Program} (w : World) (dT sT ty elem : TypeId) (g o dLen dCap : Nat) (a : Addr) (sLen sCap size : Nat) (cur : Array Value) (t : TypeId) (cs : List Value) (k : Nat)
    (hu : P.underlying dT = some (.slice elem)) (hs : (P.info? elem).map (·.size) = some size)
    (hg : w.heap[g]? = some (.cells cur t (0, 0))) (hk : k = Nat.min sLen dLen) (hn : cs.length = k * size)
    (hsrc : ∀ j v, cs[j]? = some v → w.cell? (a.add j) = some v) (hfit : o + cs.length ≤ cur.size) (h1 : ∀ v ∈ cs, v.oneCell' = true) :
    (Builtin.copy_ #[dT, sT] ty #[.slice (some ⟨g, o, none⟩) dLen dCap, .slice (some a) sLen sCap]).run P w =
      .ok (goInt k) (w.setRow g (cur.toList.take o ++ cs ++ cur.toList.drop (o + cs.length)).toArray) := by
  subst hk
  have hl := run_loadCells_list (P := P) w a cs hsrc
  have hst := run_storeCells_at P g o t cs 0 cur w hg (by simpa using hfit) h1
  cases hq : P.info? elem with
  | none => simp [hq] at hs
  | some i =>
    have hi : i.size = size := by simpa [hq] using hs
    simp [Builtin.copy_, run_underlying hu, Builtin.lenOf, Builtin.firstCells, sizeOf, typeInfo, hq, hi, ← hn, hl, hst]

theorem flat3_take (l : List Ent) (k : Nat) : flat3 (l.take k) = (flat3 l).take (k * 3) := by
  induction l generalizing k with
  | nil => simp [flat3]
  | cons e l ih =>
    cases k with
    | zero => simp [flat3]
    | succ k =>
      rw [List.take_succ_cons, flat3_cons, flat3_cons, ih, show (k + 1) * 3 = k * 3 + 1 + 1 + 1 by omega]
      simp
theorem flat3_drop (l : List Ent) (k : Nat) : flat3 (l.drop k) = (flat3 l).drop (k * 3) := by
  induction l generalizing k with
  | nil => simp [flat3]
  | cons e l ih =>
    cases k with
    | zero => simp
    | succ k =>
      rw [List.drop_succ_cons, flat3_cons, ih, show (k + 1) * 3 = k * 3 + 1 + 1 + 1 by omega]
      simp
/-- an entry put in -/
def insE (l : List Ent) (i : Nat) (e : Ent) : List Ent := l.take i ++ e :: l.drop i
theorem insE_len {l : List Ent} {i : Nat} (e : Ent) (hi : i ≤ l.length) : (insE l i e).length = l.length + 1 := by simp [insE]; omega
theorem flat3_ins (l : List Ent) (i : Nat) (e : Ent) : flat3 (insE l i e) = (flat3 l).take (i * 3) ++ ([.int .i64 e.1.1, .int .i64 e.1.2, .bool e.2] ++ (flat3 l).drop (i * 3)) := by
  unfold insE
  rw [flat3_app, flat3_cons, flat3_take, flat3_drop]
  rfl
def entC (e : Ent) : List Value := [.int .i64 e.1.1, .int .i64 e.1.2, .bool e.2]
/-- the row behind the two copies -/
theorem two_copies (X F E : List Value) (i n : Nat) (hi : i < n) (hX : (n + 1) * 3 ≤ X.length) (hF : X.take (n * 3) = F) (hE : E.length = 3) :
    let A := X.take ((i + 1) * 3) ++ F.drop (i * 3) ++ X.drop ((i + 1) * 3 + (F.drop (i * 3)).length)
    let B := A.take (i * 3) ++ E ++ A.drop (i * 3 + E.length)
    A.length = X.length ∧ B.length = X.length ∧ B.take ((n + 1) * 3) = F.take (i * 3) ++ (E ++ F.drop (i * 3)) := by
  intro A B
  have hFl : F.length = n * 3 := by rw [← hF, List.length_take]; omega
  have hA : A.length = X.length := by simp [A]; omega
  have hAt : A.take (i * 3) = F.take (i * 3) := by
    simp only [A, List.append_assoc]
    rw [List.take_append_of_le_length (by rw [List.length_take]; omega), List.take_take, ← hF, List.take_take]
    congr 1; omega
  have hAd : A.drop (i * 3 + E.length) = F.drop (i * 3) ++ X.drop ((i + 1) * 3 + (F.drop (i * 3)).length) := by
    simp only [A, List.append_assoc]
    rw [List.drop_append, List.drop_eq_nil_of_le (by rw [List.length_take]; omega), List.nil_append, show i * 3 + E.length - (X.take ((i + 1) * 3)).length = 0 by rw [List.length_take]; omega, List.drop_zero]
  refine ⟨hA, ?_, ?_⟩
  · simp only [B, List.length_append, List.length_take, List.length_drop, hA, hE]; omega
  · simp only [B]
    rw [hAt, hAd, List.append_assoc, ← List.append_assoc E, ← List.append_assoc]
    rw [List.take_append_of_le_length (by simp only [List.length_append, List.length_take, List.length_drop, hFl, hE]; omega)]
    exact List.take_of_length_le (by simp only [List.length_append, List.length_take, List.length_drop, hFl, hE]; omega)

theorem size68 : (Try.prog.info? 68).map (·.size) = some 3 := by kernel_rfl
theorem grownBy_setRow (w : World) (g : Nat) (cs : Array Value) : w.grownBy (w.setRow g cs) (some g) :=
  ⟨rfl, rfl, rfl, by simp [World.setRow], fun k _ hk => setRow_other w g k cs (fun e => hk (by rw [e]))⟩

set_option maxHeartbeats 4000000 in
set_option maxRecDepth 100000 in
theorem ins_shift (b cap i vb : Nat) (cur : Array Value) (l : List Ent) (e : Ent) (w : World) (hg : w.heap[b]? = some (.cells cur 68 (0, 0))) (hsz : cur.size = cap * 3) (hcur : cur.toList.take (l.length * 3) = flat3 l)
    (hi : i < l.length) (hroom : l.length + 1 ≤ cap) (_ : cap ≤ maxLen) (hlen : l.length ≤ 100000) (hv : w.heap[vb]? = some (.cells (entC e).toArray 68 (0, 0))) (hne : vb ≠ b) :
    Calls Try.prog 37 #[.slice (some ⟨b, 0, none⟩) l.length cap, .int .i64 i, .slice (some ⟨vb, 0, none⟩) 1 1] w fun r w' =>
      r = .returned (.slice (some ⟨b, 0, none⟩) (l.length + 1) cap) ∧ (∃ cur', w'.heap[b]? = some (.cells cur' 68 (0, 0)) ∧ cur'.size = cap * 3 ∧ cur'.toList.take ((l.length + 1) * 3) = flat3 (insE l i e)) ∧ w.grownBy w' (some b) := by
  have mixed : Try.prog.follows Departure.mixedOrders = true := by kernel_rfl
  obtain ⟨i0, hj, hj0, hj1, hj2⟩ := info_parts info68
  have hov : ∀ lb cb, (callFunc 41 #[.slice (some ⟨vb, 0, none⟩) 1 1, .slice (some ⟨b, (i + 1) * 3, none⟩) lb cb]).run Try.prog w = .ok (.value (.bool false)) w := fun lb cb => by
    rw [run_callFunc_extern Try.func41 (by kernel_rfl) (by kernel_rfl) (by kernel_rfl) (e := Extern.SlicesOverlaps.overlaps #[52, 52] #[4]) (by kernel_rfl),
      Lib.run_overlaps_apart w 52 4 68 Try.underlying52 3 (fun w => by simp [sizeOf, typeInfo, hj, hj1]) ⟨vb, 0, none⟩ ⟨b, (i + 1) * 3, none⟩ 1 1 lb cb hne 68 68 3 (cap * 3) (by simp [World.shape?, hv, entC]) (by simp [World.shape?, hg, hsz]) (by omega) (by simp [World.frozen?, hv]) (by simp [World.frozen?, hv])]
    rfl
  have hfl := flat3_len l
  have hXl : (l.length + 1) * 3 ≤ cur.toList.length := by simp [hsz]; omega
  obtain ⟨t1, t2, t3⟩ := two_copies cur.toList (flat3 l) (entC e) i l.length hi hXl hcur (by rfl)
  obtain ⟨A, hA⟩ : ∃ A, cur.toList.take ((i + 1) * 3) ++ (flat3 l).drop (i * 3) ++ cur.toList.drop ((i + 1) * 3 + ((flat3 l).drop (i * 3)).length) = A := ⟨_, rfl⟩
  rw [hA] at t1 t2 t3
  obtain ⟨B, hB⟩ : ∃ B, A.take (i * 3) ++ entC e ++ A.drop (i * 3 + (entC e).length) = B := ⟨_, rfl⟩
  rw [hB] at t2 t3
  have hdl : ((flat3 l).drop (i * 3)).length = (l.length - i) * 3 := by rw [List.length_drop, hfl]; omega
  have hcp1 : ∀ ty dc sc, (Builtin.copy_ #[52, 52] ty #[.slice (some ⟨b, (i + 1) * 3, none⟩) (l.length - i) dc, .slice (some ⟨b, i * 3, none⟩) (l.length + 1 - i) sc]).run Try.prog w.drew = .ok (goInt ((l.length - i : Nat) : Int)) (w.drew.setRow b A.toArray) := fun ty dc sc => by
    rw [← hA]
    exact run_copy_many w.drew 52 52 ty 68 b ((i + 1) * 3) (l.length - i) dc ⟨b, i * 3, none⟩ (l.length + 1 - i) sc 3 cur 68 ((flat3 l).drop (i * 3)) (l.length - i) Try.underlying52 size68 hg (by simp only [Nat.min_def]; split <;> omega) hdl
      (fun j v hj => by
        rw [add_off3]
        rw [List.getElem?_drop, ← hcur, List.getElem?_take] at hj
        split at hj
        · have hc : w.cell? ⟨b, i * 3 + j, none⟩ = cur[i * 3 + j]? := by simp [World.cell?, hg]
          exact hc.trans (by simpa using hj)
        · cases hj)
      (by rw [hdl, hsz]; omega) (fun v hv => flat3_one l v (List.mem_of_mem_drop hv))
  have hcp2 : ∀ ty dc, (Builtin.copy_ #[52, 52] ty #[.slice (some ⟨b, i * 3, none⟩) (l.length + 1 - i) dc, .slice (some ⟨vb, 0, none⟩) 1 1]).run Try.prog (w.drew.setRow b A.toArray) = .ok (goInt 1) ((w.drew.setRow b A.toArray).setRow b B.toArray) := fun ty dc => by
    rw [← hB]
    have := run_copy_many (P := Try.prog) (w.drew.setRow b A.toArray) 52 52 ty 68 b (i * 3) (l.length + 1 - i) dc ⟨vb, 0, none⟩ 1 1 3 A.toArray 68 (entC e) 1 Try.underlying52 size68 (setRow_heap w.drew b cur A.toArray 68 _ hg) (by simp only [Nat.min_def]; split <;> omega) (by rfl)
      (fun j v hj => by
        rw [add_off]
        have hc : (w.drew.setRow b A.toArray).heap[vb]? = some (.cells (entC e).toArray 68 (0, 0)) := (setRow_other w.drew b vb A.toArray hne).trans hv
        simp [World.cell?, hc]
        exact hj)
      (by simp [t1, entC, hsz]; omega) (fun v hv => by simp [entC] at hv; rcases hv with rfl | rfl | rfl <;> rfl)
    exact this
  have hgr : w.grownBy ((w.drew.setRow b A.toArray).setRow b B.toArray) (some b) := by
    have g1 := grownBy_setRow w.drew b A.toArray
    have g2 := grownBy_setRow (w.drew.setRow b A.toArray) b B.toArray
    exact ⟨g2.os.trans g1.os, g2.tape.trans g1.tape, g2.output.trans g1.output, Nat.le_trans g1.size g2.size, fun k hk hne => (g2.block k (Nat.lt_of_lt_of_le hk g1.size) hne).trans (g1.block k hk hne)⟩
  have HG := Lib.hid hgr
  have HC : Hid (∃ cur', ((w.drew.setRow b A.toArray).setRow b B.toArray).heap[b]? = some (.cells cur' 68 (0, 0)) ∧ cur'.size = cap * 3 ∧ cur'.toList.take ((l.length + 1) * 3) = flat3 (insE l i e)) :=
    Lib.hid ⟨B.toArray, setRow_heap _ b _ _ 68 _ (setRow_heap w.drew b cur A.toArray 68 _ hg), by simpa [hsz] using t2, by rw [flat3_ins]; exact t3⟩
  have hw1 : IntKind.i64.wrap ((i : Int) + 1) = (i : Int) + 1 := by rw [IntKind.wrap_i64]; omega
  have hb0 : ¬ ((i : Int) = (l.length : Int)) := by omega
  have hb1 : (0 : Int) ≤ (i : Int) + 1 := by omega
  have hin : (i : Int) ≤ (l.length : Int) := by omega
  have htn : ((i : Int) + 1).toNat = i + 1 := by omega
  have htl : ((l.length : Int) + 1).toNat = l.length + 1 := by omega
  have hb2 : ¬ (cap = i + 1) := by omega
  have hb3 : (i : Int) ≤ (l.length : Int) + 1 := by omega
  have hb4 : ¬ (cap = i) := by omega
  have hb5 : ¬ ((cap : Int) < (l.length : Int) + 1) := by omega
  have hb6 : (l.length : Int) + 1 ≤ (cap : Int) := by omega
  clear t1 t2 t3 hgr hXl hdl hcur hsz hfl hg hv hj hj0 hj1 hj2
  go_enter Try.func37, Try.ntmps37
  go_wp2_with (simp only [hov])
  go_region_law_o (refine step_copy_runI rfl _ _ 52 52 rfl _ _ (by simp [Act.eval, Act.put]) (by simp [Act.eval, Act.put]) (hcp1 _ _ _) ?_)
  go_wp2_with (at_builtin; refine wpList_copy_runI _ rfl _ _ 52 52 rfl _ _ rfl rfl (hcp2 _ _) ?_)
  go_ret
  exact ⟨rfl, HC.out, HG.out⟩

theorem two_copies_new (R F E : List Value) (i n : Nat) (hi : i < n) (hR : (n + 1) * 3 ≤ R.length) (hFl : F.length = n * 3) (hF : R.take (i * 3) = F.take (i * 3)) (hE : E.length = 3) :
    let A := R.take (i * 3) ++ E ++ R.drop (i * 3 + E.length)
    let B := A.take ((i + 1) * 3) ++ F.drop (i * 3) ++ A.drop ((i + 1) * 3 + (F.drop (i * 3)).length)
    A.length = R.length ∧ B.length = R.length ∧ B.take ((n + 1) * 3) = F.take (i * 3) ++ (E ++ F.drop (i * 3)) := by
  intro A B
  have hA : A.length = R.length := by simp [A]; omega
  have hAt : A.take ((i + 1) * 3) = F.take (i * 3) ++ E := by
    simp only [A]
    rw [List.take_append_of_le_length (by simp only [List.length_append, List.length_take, hE]; omega), hF]
    exact List.take_of_length_le (by simp only [List.length_append, List.length_take, hE]; omega)
  refine ⟨hA, ?_, ?_⟩
  · simp only [B, List.length_append, List.length_take, List.length_drop, hA, hFl]; omega
  · simp only [B]
    rw [hAt, List.append_assoc (F.take (i * 3)), List.take_append_of_le_length (by simp only [List.length_append, List.length_take, List.length_drop, hFl, hE]; omega)]
    exact List.take_of_length_le (by simp only [List.length_append, List.length_take, List.length_drop, hFl, hE]; omega)

set_option maxHeartbeats 4000000 in
set_option maxRecDepth 100000 in
theorem ins_grow (b cap i vb : Nat) (cur : Array Value) (l : List Ent) (e : Ent) (w : World) (hg : w.heap[b]? = some (.cells cur 68 (0, 0))) (_ : cur.size = cap * 3) (hcur : cur.toList.take (l.length * 3) = flat3 l)
    (hi : i < l.length) (hnc : l.length ≤ cap) (hroom : cap < l.length + 1) (hlen : l.length ≤ 100000) (hv : w.heap[vb]? = some (.cells (entC e).toArray 68 (0, 0))) :
    Calls Try.prog 37 #[.slice (some ⟨b, 0, none⟩) l.length cap, .int .i64 i, .slice (some ⟨vb, 0, none⟩) 1 1] w fun r w' =>
      ∃ G, r = .returned (.slice (some ⟨w.heap.size, 0, none⟩) (l.length + 1) G) ∧ (∃ cur', w'.heap[w.heap.size]? = some (.cells cur' 68 (0, 0)) ∧ cur'.size = G * 3 ∧ cur'.toList.take ((l.length + 1) * 3) = flat3 (insE l i e)) ∧ l.length + 1 ≤ G ∧ G ≤ maxLen ∧ Below w.heap.size w w' := by
  have mixed : Try.prog.follows Departure.mixedOrders = true := by kernel_rfl
  obtain ⟨i0, hj, hj0, hj1, hj2⟩ := info_parts info68
  have hbw : b < w.heap.size := (Array.getElem?_eq_some_iff.1 hg).1
  have hvw : vb < w.heap.size := (Array.getElem?_eq_some_iff.1 hv).1
  have hfl := flat3_len l
  have hkk : (l.length : Int) + 1 - (i : Int) = ((l.length + 1 - i : Nat) : Int) := by omega
  have hik : i + (l.length + 1 - i) = l.length + 1 := by omega
  have hcc : ∀ j v, (flat3 l)[j]? = some v → w.cell? ⟨b, j, none⟩ = some v := fun j v hj => by
    have hc : w.cell? ⟨b, j, none⟩ = cur[j]? := by simp [World.cell?, hg]
    rw [← hcur, List.getElem?_take] at hj
    split at hj
    · exact hc.trans (by simpa using hj)
    · cases hj
  have hold : (Builtin.firstCells i0.size i (.slice (some ⟨b, 0, none⟩) i cap)).run Try.prog w.drew = .ok ((flat3 l).take (i * 3)).toArray w.drew := by
    rw [hj1]
    exact run_firstCells_some w.drew 3 i ⟨b, 0, none⟩ i cap ((flat3 l).take (i * 3)) (by rw [List.length_take]; omega) (fun j v hj => by
      rw [add_off]
      rw [List.getElem?_take] at hj
      split at hj
      · exact hcc j v hj
      · cases hj)
  have hrz : ∀ ty, (Builtin.append_ #[52, 3] ty #[.slice (some ⟨b, 0, none⟩) i cap, .int .i64 ((l.length : Int) + 1 - (i : Int))]).run Try.prog w =
      .ok (.slice (some ⟨w.heap.size, 0, none⟩) (l.length + 1) (grownCap w (l.length + 1) cap 68)) (w.drew.alloc (.cells (((flat3 l).take (i * 3)).toArray ++ Builtin.zeroCells (Value.agg #[.int .i64 0, .int .i64 0, .bool false]).cells (l.length + 1 - i) ++ Builtin.zeroCells (Value.agg #[.int .i64 0, .int .i64 0, .bool false]).cells (grownCap w (l.length + 1) cap 68 - (l.length + 1))) 68)) := fun ty => by
    have h := Lib.run_append_grow_zeros w 52 3 ty 68 i0 _ .i64 .i64 Try.underlying52 Try.underlying3 hj hj0 (some ⟨b, 0, none⟩) i cap ((flat3 l).take (i * 3)) hold (l.length + 1 - i) (by omega) (by omega) (by omega) (by omega) (by rw [hj2]; omega) (by rw [hj2, hik]; exact growslice_fits (by omega) (by omega))
    rw [hik] at h
    rw [hkk]
    exact h
  obtain ⟨G, hG⟩ : ∃ G, G = grownCap w (l.length + 1) cap 68 := ⟨_, rfl⟩
  obtain ⟨ROW, hROW⟩ : ∃ ROW : Array Value, ROW = ((flat3 l).take (i * 3)).toArray ++ Builtin.zeroCells (Value.agg #[.int .i64 0, .int .i64 0, .bool false]).cells (l.length + 1 - i) ++ Builtin.zeroCells (Value.agg #[.int .i64 0, .int .i64 0, .bool false]).cells (G - (l.length + 1)) := ⟨_, rfl⟩
  rw [← hG] at hrz
  rw [← hROW] at hrz
  have hGn : l.length + 1 ≤ G := by rw [hG]; exact grownCap_ge w _ _ _
  have hGm : G ≤ maxLen := by rw [hG]; exact grownCap_le_maxLen w (l.length + 1) cap 68 (by unfold maxLen; omega)
  have hRl : ROW.size = G * 3 := by
    rw [hROW]
    simp [Builtin.zeroCells, Value.cells, hfl]
    omega
  have hRt : ROW.toList.take (i * 3) = (flat3 l).take (i * 3) := by
    rw [hROW]
    simp only [Array.toList_append, List.append_assoc]
    rw [List.take_append_of_le_length (by simp [hfl]; omega)]
    exact List.take_of_length_le (by simp [hfl]; omega)
  obtain ⟨t1, t2, t3⟩ := two_copies_new ROW.toList (flat3 l) (entC e) i l.length hi (by simp [hRl]; omega) hfl hRt (by rfl)
  obtain ⟨A, hA⟩ : ∃ A, ROW.toList.take (i * 3) ++ entC e ++ ROW.toList.drop (i * 3 + (entC e).length) = A := ⟨_, rfl⟩
  rw [hA] at t1 t2 t3
  obtain ⟨B, hB⟩ : ∃ B, A.take ((i + 1) * 3) ++ (flat3 l).drop (i * 3) ++ A.drop ((i + 1) * 3 + ((flat3 l).drop (i * 3)).length) = B := ⟨_, rfl⟩
  rw [hB] at t2 t3
  have hdl : ((flat3 l).drop (i * 3)).length = (l.length - i) * 3 := by rw [List.length_drop, hfl]; omega
  have hcpA : ∀ (W : World), W.heap[w.heap.size]? = some (.cells ROW 68 (0, 0)) → W.heap[vb]? = some (.cells (entC e).toArray 68 (0, 0)) → ∀ ty dc, (Builtin.copy_ #[52, 52] ty #[.slice (some ⟨w.heap.size, i * 3, none⟩) (l.length + 1 - i) dc, .slice (some ⟨vb, 0, none⟩) 1 1]).run Try.prog W = .ok (goInt 1) (W.setRow w.heap.size A.toArray) := fun W h1 h2 ty dc => by
    rw [← hA]
    have := run_copy_many (P := Try.prog) W 52 52 ty 68 w.heap.size (i * 3) (l.length + 1 - i) dc ⟨vb, 0, none⟩ 1 1 3 ROW 68 (entC e) 1 Try.underlying52 size68 h1 (by simp only [Nat.min_def]; split <;> omega) (by rfl)
      (fun j v hj => by
        rw [add_off]
        simp [World.cell?, h2]
        exact hj)
      (by simp [hRl, entC]; omega) (fun v hv => by simp [entC] at hv; rcases hv with rfl | rfl | rfl <;> rfl)
    exact this
  have hcpB : ∀ (W : World), W.heap[w.heap.size]? = some (.cells A.toArray 68 (0, 0)) → W.heap[b]? = some (.cells cur 68 (0, 0)) → ∀ ty dc sc, (Builtin.copy_ #[52, 52] ty #[.slice (some ⟨w.heap.size, (i + 1) * 3, none⟩) (l.length - i) dc, .slice (some ⟨b, i * 3, none⟩) (l.length - i) sc]).run Try.prog W = .ok (goInt ((l.length - i : Nat) : Int)) (W.setRow w.heap.size B.toArray) := fun W h1 h2 ty dc sc => by
    rw [← hB]
    have := run_copy_many (P := Try.prog) W 52 52 ty 68 w.heap.size ((i + 1) * 3) (l.length - i) dc ⟨b, i * 3, none⟩ (l.length - i) sc 3 A.toArray 68 ((flat3 l).drop (i * 3)) (l.length - i) Try.underlying52 size68 h1 (by simp only [Nat.min_def]; split <;> omega) hdl
      (fun j v hj => by
        rw [add_off3]
        have hc : W.cell? ⟨b, i * 3 + j, none⟩ = cur[i * 3 + j]? := by simp [World.cell?, h2]
        rw [List.getElem?_drop, ← hcur, List.getElem?_take] at hj
        split at hj
        · exact hc.trans (by simpa using hj)
        · cases hj)
      (by simp [t1, hRl, hfl]; omega) (fun v hv => flat3_one l v (List.mem_of_mem_drop hv))
    exact this
  have hE1 : ((w.alloc (.cells ROW 68)).drew).heap[w.heap.size]? = some (.cells ROW 68 (0, 0)) := World.alloc_heap_new w _
  have hE2 : ((w.alloc (.cells ROW 68)).drew).heap[vb]? = some (.cells (entC e).toArray 68 (0, 0)) := (Below.heap_alloc w _ vb hvw).trans hv
  have hE3 : ((w.alloc (.cells ROW 68)).drew).heap[b]? = some (.cells cur 68 (0, 0)) := (Below.heap_alloc w _ b hbw).trans hg
  have hF1 : (((w.alloc (.cells ROW 68)).drew.setRow w.heap.size A.toArray).drew).heap[w.heap.size]? = some (.cells A.toArray 68 (0, 0)) := setRow_heap _ _ _ _ _ _ hE1
  have hF2 : (((w.alloc (.cells ROW 68)).drew.setRow w.heap.size A.toArray).drew).heap[b]? = some (.cells cur 68 (0, 0)) := (setRow_other _ _ b _ (by omega)).trans hE3
  have HF : Hid ((((w.alloc (.cells ROW 68)).drew.setRow w.heap.size A.toArray).drew.setRow w.heap.size B.toArray).heap[w.heap.size]? = some (.cells B.toArray 68 (0, 0))) := Lib.hid (setRow_heap _ _ _ _ _ _ hF1)
  have HB : Hid (Below w.heap.size w (((w.alloc (.cells ROW 68)).drew.setRow w.heap.size A.toArray).drew.setRow w.heap.size B.toArray)) :=
    Lib.hid (below_setRow (below_setRow (((Below.refl _ _).alloc (Nat.le_refl _) _).drew) (Nat.le_refl _) _).drew (Nat.le_refl _) _)
  have HT : Hid (B.toArray.size = G * 3 ∧ B.toArray.toList.take ((l.length + 1) * 3) = flat3 (insE l i e)) := Lib.hid ⟨by simpa [hRl] using t2, by rw [flat3_ins]; exact t3⟩
  have hz2 : ¬ ((i : Int) = (l.length : Int)) := by omega
  have hz3 : (cap : Int) < (l.length : Int) + 1 := by omega
  have hw1 : IntKind.i64.wrap ((i : Int) + 1) = (i : Int) + 1 := by rw [IntKind.wrap_i64]; omega
  have hb1 : (0 : Int) ≤ (i : Int) + 1 := by omega
  have hin : (i : Int) ≤ (l.length : Int) := by omega
  have htn : ((i : Int) + 1).toNat = i + 1 := by omega
  have hb3 : (i : Int) ≤ (l.length : Int) + 1 := by omega
  have hGi : ¬ (G = i) := by omega
  have hGim : ¬ (G = i + 1) := by omega
  have hci : ¬ (cap = i) := by omega
  have hG63 : G ≤ 9223372036854775807 := by unfold maxLen at hGm; omega
  have hi1 : (i : Int) ≤ (cap : Int) := by omega
  clear t1 t2 t3 hRt hRl hdl hcur hfl hg hv hj hj0 hj1 hj2 hold hcc hkk hik hROW hG hA hB
  go_enter Try.func37, Try.ntmps37
  have hA1 := hcpA _ hE1 hE2
  go_wp2_with (at_builtin; refine Lib.wpList_append_run _ rfl _ _ _ _ rfl _ _ rfl rfl _ _ (hrz _) ?_)
  go_region_law_o (refine step_copy_runI rfl _ _ 52 52 rfl (.slice (some ⟨w.heap.size, (i + 1) * 3, none⟩) (l.length - i) (G - (i + 1))) (.slice (some ⟨b, i * 3, none⟩) (l.length - i) (cap - i)) (by simp [Act.eval, Act.put]) (by simp [Act.eval, Act.put]) (hcpB _ hF1 hF2 3 (G - (i + 1)) (cap - i)) ?_)
  go_wp2
  go_ret
  exact ⟨G, rfl, ⟨B.toArray, HF.out, HT.out.1, HT.out.2⟩, hGn, hGm, HB.out⟩

set_option maxHeartbeats 4000000 in
set_option maxRecDepth 100000 in
theorem ins_end (v : Value) (vb : Nat) (l : List Ent) (e : Ent) (w : World) (h : w.ownsRow 0 68 3 v l.length (flat3 l)) (hlen : l.length ≤ 100000) (hv : w.heap[vb]? = some (.cells (entC e).toArray 68 (0, 0))) :
    Calls Try.prog 37 #[v, .int .i64 l.length, .slice (some ⟨vb, 0, none⟩) 1 1] w fun r w' =>
      ∃ v', r = .returned v' ∧ w'.ownsRow 0 68 3 v' (l.length + 1) (flat3 l ++ entC e) ∧ w.grownBy w' v.ownBlock ∧ (v'.ownBlock = v.ownBlock ∨ v'.ownBlock = some w.heap.size) := by
  obtain ⟨i0, hj, hj0, hj1, hj2⟩ := info_parts info68
  obtain ⟨A, c, rfl, hnc, hA⟩ : ∃ A c, v = .slice A l.length c ∧ l.length ≤ c ∧ ((∃ g, A = some ⟨g, 0, none⟩) ∨ (A = none ∧ l.length = 0 ∧ c = 0)) := by
    rcases h.2 with ⟨h1, h2⟩ | ⟨g, cap, cur, h1, _, _, h4, _⟩
    · exact ⟨none, 0, by rw [h1, h2], by omega, .inr ⟨rfl, h2, rfl⟩⟩
    · exact ⟨_, _, h1, h4, .inl ⟨g, rfl⟩⟩
  have H := Lib.hid h
  have hnews : ∀ j u, (entC e)[j]? = some u → w.cell? ((⟨vb, 0, none⟩ : Addr).add j) = some u := fun j u hj => by
    rw [add_off]
    simp [World.cell?, hv]
    exact hj
  have HN := Lib.hid hnews
  have h1e : ∀ u ∈ entC e, u.oneCell' = true := fun v hv => by simp [entC] at hv; rcases hv with rfl | rfl | rfl <;> rfl
  clear h hnews
  rcases hA with ⟨g, rfl⟩ | ⟨rfl, h0, rfl⟩
  · by_cases hcl : c = l.length
    · go_enter Try.func37, Try.ntmps37
      go_wp2_with (at_builtin; go_loud (refine wpList_append_own_at _ rfl _ _ 52 rfl 0 68 i0 (.agg #[.int .i64 0, .int .i64 0, .bool false]) 3 24 Try.underlying52 hj hj0 hj1 hj2 rfl (by decide) _ _ _ rfl H.out ⟨vb, 0, none⟩ 1 1 (entC e) rfl rfl HN.out h1e (by unfold maxLen; omega) (by omega) (by omega) ?_; intro v1 w3 hown1 hgrow1 hnil1 hat1; have HO := Lib.hid hown1; have HG := Lib.hid hgrow1; have HA := Lib.hid hat1; clear hown1 hgrow1 hnil1 hat1))
      go_ret
      exact ⟨v1, rfl, HO.out, HG.out, HA.out⟩
    · go_enter Try.func37, Try.ntmps37
      go_wp2_with (at_builtin; go_loud (refine wpList_append_own_at _ rfl _ _ 52 rfl 0 68 i0 (.agg #[.int .i64 0, .int .i64 0, .bool false]) 3 24 Try.underlying52 hj hj0 hj1 hj2 rfl (by decide) _ _ _ rfl H.out ⟨vb, 0, none⟩ 1 1 (entC e) rfl rfl HN.out h1e (by unfold maxLen; omega) (by omega) (by omega) ?_; intro v1 w3 hown1 hgrow1 hnil1 hat1; have HO := Lib.hid hown1; have HG := Lib.hid hgrow1; have HA := Lib.hid hat1; clear hown1 hgrow1 hnil1 hat1))
      go_ret
      exact ⟨v1, rfl, HO.out, HG.out, HA.out⟩
  · obtain rfl : l = [] := List.eq_nil_of_length_eq_zero h0
    go_enter Try.func37, Try.ntmps37
    go_wp2_with (at_builtin; go_loud (refine wpList_append_own_at _ rfl _ _ 52 rfl 0 68 i0 (.agg #[.int .i64 0, .int .i64 0, .bool false]) 3 24 Try.underlying52 hj hj0 hj1 hj2 rfl (by decide) _ _ _ rfl H.out ⟨vb, 0, none⟩ 1 1 (entC e) rfl rfl HN.out h1e (by unfold maxLen; omega) (by omega) (by omega) ?_; intro v1 w3 hown1 hgrow1 hnil1 hat1; have HO := Lib.hid hown1; have HG := Lib.hid hgrow1; have HA := Lib.hid hat1; clear hown1 hgrow1 hnil1 hat1))
    go_ret
    exact ⟨v1, rfl, HO.out, HG.out, HA.out⟩

/-- slices.Insert of one entry, wherever it goes -/
theorem insert_list (v : Value) (i vb : Nat) (l : List Ent) (e : Ent) (w : World) (h : w.ownsRow 0 68 3 v l.length (flat3 l)) (hi : i ≤ l.length) (hlen : l.length ≤ 100000) (hv : w.heap[vb]? = some (.cells (entC e).toArray 68 (0, 0))) (hne : v.ownBlock ≠ some vb) :
    Calls Try.prog 37 #[v, .int .i64 i, .slice (some ⟨vb, 0, none⟩) 1 1] w fun r w' =>
      ∃ v', r = .returned v' ∧ w'.ownsRow 0 68 3 v' (insE l i e).length (flat3 (insE l i e)) ∧ w.grownBy w' v.ownBlock ∧ (v'.ownBlock = v.ownBlock ∨ v'.ownBlock = some w.heap.size) := by
  rw [insE_len e hi]
  by_cases hil : i = l.length
  · subst hil
    have he : flat3 (insE l l.length e) = flat3 l ++ entC e := by
      rw [flat3_ins, ← flat3_take, ← flat3_drop, List.take_length, List.drop_length]
      simp [flat3, entC]
    rw [he]
    exact ins_end v vb l e w h hlen hv
  · rcases id h.2 with ⟨rfl, h0⟩ | ⟨b, cap, cur, rfl, _, hb, hnc, hm, hsz, hcur⟩
    · omega
    · by_cases hroom : l.length + 1 ≤ cap
      · refine (ins_shift b cap i vb cur l e w hb hsz hcur (by omega) hroom hm hlen hv (fun hc => hne (by rw [hc]; rfl))).mono ?_
        rintro r w' ⟨rfl, ⟨cur', h1, h2, h3⟩, hg⟩
        exact ⟨_, rfl, ⟨by rw [flat3_len, insE_len e hi], .inr ⟨b, cap, cur', rfl, Nat.zero_le _, h1, hroom, hm, h2, h3⟩⟩, hg, .inl rfl⟩
      · refine (ins_grow b cap i vb cur l e w hb hsz hcur (by omega) hnc (by omega) hlen hv).mono ?_
        rintro r w' ⟨G, rfl, ⟨cur', h1, h2, h3⟩, h4, h5, hB⟩
        refine ⟨_, rfl, ⟨by rw [flat3_len, insE_len e hi], .inr ⟨w.heap.size, G, cur', rfl, Nat.zero_le _, h1, h4, h5, h2, h3⟩⟩, ⟨hB.os, hB.tape, hB.output, hB.size, fun k hk _ => hB.block k hk⟩, .inr rfl⟩
end Go.Proofs.Ytngomgjhakgehaa
