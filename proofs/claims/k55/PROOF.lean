import PyProof.Rows.All
import Wide.All
import OpenK.AllK
import Wide.FinOn
import KE.KeyNested
import HandS.TupSets
import HandS.SetFor
import KE.SortData
import HandS.Words
import PyProof.ExcRepr
import PyProof.ReprReads
import KE.KExcStr
import HandS.ForExc
import HandS.ExcInit
import HandS.ForMost
import HandS.Wide
import HandS.Flow
import HandS.More
import PyProof.InstEq
import PyProof.CallFns
import PyProof.ReprRoads
import HandS.DeepEq
import HandS.TupAny
import KE.GoesMore
import KE.GoesEnum
import HandS.Nested
import HandS.DictComp
import HandS.Strs
import HandS.IsInst
import HandS.Exc
import HandS.ExcField
import HandS.WordsExc
import HandS.RaiseMore
import KE.SortCalls
import KE.DatumOrd
import HandS.WordsDict
import HandS.Style
import HandS.Zip
import HandS.EndTab
import KE.KNestM
import PySem.Challenge.RW_goneyet_k55_threaded_and_well_timed
set_option Elab.async false
set_option linter.all false
set_option maxRecDepth 100000
set_option maxHeartbeats 2000000
namespace KaN
open PySem PyProof.Rows L2
section
variable {P : Program} {w : World}
/-- v is of no class statement, n levels down -/
def Plain (P : Program) (w : World) (n : Nat) (s : Shared) (v : Value) : Prop := ∀ (A : Around) (E : Value → Shared → Prop) (Q : Bool → Shared → Prop), Q false s → wpAny (model P w) A (ofAClassStatement n v) Q E s
theorem Plain.tuple {n m : Nat} {s : Shared} {a : Addr} {o : Obj} {vs : Array Value} (ho : s.heap.get? a = some o) (hc : o.cls = .type "tuple") (hd : o.data = .seq vs m) (hq : ∀ v ∈ vs.toList, Plain P w n s v) : Plain P w (n + 1) s (.ref a) := fun A E Q q => by
  have hT : s.TypeIs (.ref a) "tuple" := ⟨o, ho, hc⟩
  have e : (("tuple" : String) == "tuple") = true := by decide +kernel
  unfold ofAClassStatement; refine wpAny_bind (wpAny_typeOf hT ?_); dsimp only
  simp only [e, if_true, Bool.not_true, Bool.false_eq_true, if_false]; try refine wpAny_bind (wpAny_pure ?_)
  try simp only [Bool.not_true, Bool.false_eq_true, if_false, if_true]
  refine wpAny_bind (m := seqItems? (.ref a)) (wpAny_seqItems ho hd ?_); dsimp only
  refine wpAny_bind ?_; change wpAny _ _ (forIn vs _ _) _ _ s; rw [← Array.forIn_toList]
  refine wpAny_forIn_list _ (fun rest r s1 => (r.1 = none ∧ s1 = s) ∧ ∀ v ∈ rest, Plain P w n s v) _ ?_ ?_ _ _ ⟨⟨rfl, rfl⟩, hq⟩
  · rintro v rest r s1 ⟨⟨hr, rfl⟩, all⟩
    refine wpAny_bind (all v (List.mem_cons_self ..) _ _ _ ?_); simp only [Bool.false_eq_true, if_false]
    exact wpAny_pure ⟨⟨rfl, rfl⟩, fun u m => all u (List.mem_cons_of_mem _ m)⟩
  · rintro ⟨r1, r2⟩ s1 ⟨⟨hr, rfl⟩, _⟩
    simp only at hr; subst hr; exact wpAny_pure q
theorem Plain.flat {n : Nat} {s : Shared} {v : Value} (h : ∀ a, v ≠ .ref a) : Plain P w n s v := fun A E Q q => by
  have : ofAClassStatement n v = pure false := by
    cases n <;> cases v <;> first | rfl | exact absurd rfl (h _)
  rw [this]; exact wpAny_pure q
mutual
theorem plain_key : ∀ (k : NestedKey) (v : Value) (n : Nat) (s : Shared), NestedIs s.heap k v → k.depth ≤ n → Plain P w n s v
  | .none, _, n, s, x, _ => by cases x; exact .flat fun _ z => nomatch z
  | .num i, _, n, s, x, _ => by cases x <;> exact .flat fun _ z => nomatch z
  | .text y, _, n, s, x, _ => by cases x; exact .flat fun _ z => nomatch z
  | .tup ks, _, n, s, x, hn => by
    cases x with
    | tup g1 g2 g3 g4 =>
      rw [NestedKey.depth] at hn
      match n, hn with
      | n + 1, hn => exact .tuple g1 g2 g3 (plain_keys ks _ n s g4 (Nat.le_of_succ_le_succ hn))
theorem plain_keys : ∀ (ks : List NestedKey) (vs : List Value) (n : Nat) (s : Shared), NestedAll s.heap ks vs → NestedKey.depthAll ks ≤ n → ∀ v ∈ vs, Plain P w n s v
  | [], _, n, s, x, _, v, m => by cases x; cases m
  | k :: ks, _, n, s, x, hn, v, m => by
    cases x with
    | cons x1 x2 =>
      rw [NestedKey.depthAll] at hn
      rcases List.mem_cons.mp m with e | m
      · subst e; exact plain_key k _ n s x1 (Nat.le_trans (Nat.le_max_left ..) hn)
      · exact plain_keys ks _ n s x2 (Nat.le_trans (Nat.le_max_right ..) hn) v m
end
/-- a key of this kind at an address -/
abbrev IsN (h : Heap) (k : NestedKey) (a : Addr) : Prop := NestedIs h k (.ref a) ∧ k.depth ≤ 8
/-- a search among such keys shows nothing -/
theorem seen_key {A : Around} {E : Value → Shared → Prop} {s : Shared} {k : NestedKey} {b : Addr} {Q : Bool → Shared → Prop} (hk : IsN s.heap k b) {ys : List Value} (hy : ∀ y ∈ ys, ∃ k' c, y = Value.ref c ∧ IsN s.heap k' c) (q : Q false s) :
    wpAny (model P w) A (searchCouldBeSeen (.ref b) ys) Q E s := by
  unfold searchCouldBeSeen; refine wpAny_bind ?_
  refine wpAny_forIn_list _ (fun rest r s1 => (r.1 = none ∧ s1 = s) ∧ ∀ y ∈ rest, ∃ k' c, y = Value.ref c ∧ IsN s.heap k' c) _ ?_ ?_ _ _ ⟨⟨rfl, rfl⟩, hy⟩
  · rintro v rest r s1 ⟨⟨hr, rfl⟩, all⟩
    obtain ⟨k1, c, rfl, hc⟩ := all v (List.mem_cons_self ..)
    have on : ∀ y ∈ rest, ∃ k' c, y = Value.ref c ∧ IsN s1.heap k' c := fun u m => all u (List.mem_cons_of_mem _ m)
    dsimp only
    by_cases hv : (b == c || (carriedByValue (.ref b) && carriedByValue (.ref c))) = true
    · exact wp_if_pos hv (wpAny_pure ⟨⟨rfl, rfl⟩, on⟩)
    · refine wp_if_neg hv (wpAny_bind (quiet_key k _ 8 s1 hk.1 hk.2 _ _ _ ?_)); simp only [Bool.not_true, Bool.false_eq_true, if_false]
      refine wpAny_bind (quiet_key k1 _ 8 s1 hc.1 hc.2 _ _ _ ?_); simp only [Bool.not_true, Bool.false_eq_true, if_false]
      refine wpAny_bind (plain_key k _ 8 s1 hk.1 hk.2 _ _ _ ?_); simp only [Bool.false_eq_true, if_false]
      refine wpAny_bind (plain_key k1 _ 8 s1 hc.1 hc.2 _ _ _ ?_); simp only [Bool.false_eq_true, if_false]
      exact wpAny_pure ⟨⟨rfl, rfl⟩, on⟩
  · rintro ⟨r1, r2⟩ s1 ⟨⟨hr, rfl⟩, _⟩
    simp only at hr; subst hr; exact wpAny_pure q
end
end KaN
set_option maxRecDepth 100000
set_option maxHeartbeats 2000000
namespace KaN
open PySem PyProof.Rows L2
section
variable {P : Program} {w : World}
/-- hashed by value or not: some answer comes -/
def Told (P : Program) (w : World) (n : Nat) (s : Shared) (v : Value) : Prop := ∀ (A : Around) (E : Value → Shared → Prop) (Q : Bool → Shared → Prop), (∀ b, Q b s) → wpAny (model P w) A (hashByValue n v) Q E s
theorem Told.lit {n : Nat} {s : Shared} {v : Value} (b : Bool) (h : hashByValue n v = pure b) : Told P w n s v := fun A E Q q => by rw [h]; exact wpAny_pure (q b)
theorem Told.tuple {n m : Nat} {s : Shared} {a : Addr} {o : Obj} {vs : Array Value} (ho : s.heap.get? a = some o) (hc : o.cls = .type "tuple") (hd : o.data = .seq vs m) (hq : ∀ v ∈ vs.toList, Told P w n s v) : Told P w (n + 1) s (.ref a) := fun A E Q q => by
  have hT : s.TypeIs (.ref a) "tuple" := ⟨o, ho, hc⟩
  unfold hashByValue; refine wpAny_bind (wpAny_specialOf hT F.slot_tuple_hash.lookup ?_)
  change wpAny _ _ (seqItems? (.ref a) >>= _) _ _ s
  refine wpAny_bind (wpAny_seqItems ho hd ?_)
  refine wpAny_bind ?_; change wpAny _ _ (forIn vs _ _) _ _ s; rw [← Array.forIn_toList]
  refine wpAny_forIn_list _ (fun rest r s1 => (r.1 = none ∧ s1 = s) ∧ ∀ v ∈ rest, Told P w n s v) _ ?_ ?_ _ _ ⟨⟨rfl, rfl⟩, hq⟩
  · rintro v rest r s1 ⟨⟨hr, rfl⟩, all⟩
    refine wpAny_bind (all v (List.mem_cons_self ..) _ _ _ fun b => ?_)
    cases b
    · simp only [Bool.not_false, if_true]
      exact wpAny_pure (wpAny_pure (q false))
    · simp only [Bool.not_true, Bool.false_eq_true, if_false]
      exact wpAny_pure ⟨⟨rfl, rfl⟩, fun u m => all u (List.mem_cons_of_mem _ m)⟩
  · rintro ⟨r1, r2⟩ s1 ⟨⟨hr, rfl⟩, _⟩
    simp only at hr; subst hr; exact wpAny_pure (q true)
mutual
theorem told_key : ∀ (k : NestedKey) (v : Value) (n : Nat) (s : Shared), NestedIs s.heap k v → k.depth ≤ n → Told P w n s v
  | .none, _, n, s, x, _ => by cases x; exact .lit true (by cases n <;> rfl)
  | .num i, _, n, s, x, _ => by cases x <;> exact .lit true (by cases n <;> rfl)
  | .text y, _, n, s, x, _ => by cases x; exact .lit false (by cases n <;> rfl)
  | .tup ks, _, n, s, x, hn => by
    cases x with
    | tup g1 g2 g3 g4 =>
      rw [NestedKey.depth] at hn
      match n, hn with
      | n + 1, hn => exact .tuple g1 g2 g3 (told_keys ks _ n s g4 (Nat.le_of_succ_le_succ hn))
theorem told_keys : ∀ (ks : List NestedKey) (vs : List Value) (n : Nat) (s : Shared), NestedAll s.heap ks vs → NestedKey.depthAll ks ≤ n → ∀ v ∈ vs, Told P w n s v
  | [], _, n, s, x, _, v, m => by cases x; cases m
  | k :: ks, _, n, s, x, hn, v, m => by
    cases x with
    | cons x1 x2 =>
      rw [NestedKey.depthAll] at hn
      rcases List.mem_cons.mp m with e | m
      · subst e; exact told_key k _ n s x1 (Nat.le_trans (Nat.le_max_left ..) hn)
      · exact told_keys ks _ n s x2 (Nat.le_trans (Nat.le_max_right ..) hn) v m
end
abbrev Rw := Addr × NestedKey
def rws (w : World) (L : List Rw) : List (Int × Value) := L.map fun r => (r.2.hash w, Value.ref r.1)
abbrev hss (w : World) (L : List Rw) : List Int := L.map fun r => r.2.hash w
structure SetN (w : World) (h : Heap) (a : Addr) (L : List Rw) (es : Array (Int × Value)) (ep : Nat) (t : SetTable) : Prop where
  ob : ∃ o, h.get? a = some o ∧ o.ExactSet ∧ o.data = .set es ep t
  rows : es.toList = rws w L
  tab : TabOk t (hss w L)
  nd : (L.map (·.2)).Nodup
  keys : ∀ r ∈ L, IsN h r.2 r.1
  led : w.params.followText "set-order" = true ∨ t.led = true
  room : L.length * 5 < t.mask * 3
  few : L.length < 64
variable {A : Around} {E : Value → Shared → Prop} {s : Shared} {a : Addr} {L : List Rw} {es : Array (Int × Value)} {ep : Nat} {t : SetTable}
theorem rws_len (h : es.toList = rws w L) : es.size = L.length := by
  have := congrArg List.length h
  rwa [rws, Array.length_toList, List.length_map] at this
theorem SetN.fit {h : Heap} (R : SetN w h a L es ep t) : t.fits es.size = true := by
  have h1 := R.tab.sz; have h2 := rws_len R.rows; have h3 := R.few; have h4 := R.room
  rw [hss, List.length_map] at h1
  unfold SetTable.fits SetTable.fill
  simp only [R.tab.dm, Bool.and_eq_true, beq_iff_eq, decide_eq_true_eq]
  exact ⟨by omega, by show t.place.size + 0 ≤ t.mask; omega⟩
theorem SetN.row {h : Heap} (R : SetN w h a L es ep t) {i : Nat} {r : Rw} (e : L[i]? = some r) : es[i]? = some (r.2.hash w, Value.ref r.1) := by
  rw [← Array.getElem?_toList, R.rows, rws, List.getElem?_map, e]; rfl
theorem SetN.stays {h : Heap} (R : SetN w h a L es ep t) : ¬ t.gaveWay = true := by
  unfold SetTable.gaveWay
  rcases R.tab.mok with e | e | e <;> rw [e] <;> decide
abbrev begN (t : SetTable) (h : Int) (c : Nat) : SetTable.Probe := nth t.mask (runAt t.mask (SetTable.bits h % (t.mask + 1)) (SetTable.bits h)) c
theorem begN_clean (t : SetTable) (h : Int) (c : Nat) : (begN t h c).dummy = none := by
  have go : ∀ (n : Nat) (p : SetTable.Probe), p.dummy = none → (nth t.mask p n).dummy = none := by
    intro n; induction n with
    | zero => exact fun p e => e
    | succ n ih => exact fun p e => ih _ (by unfold adv; split <;> exact e)
  exact go c _ rfl
theorem begN_add (t : SetTable) (h : Int) (c q : Nat) : nth t.mask (begN t h c) q = begN t h (c + q) := (nth_add t.mask c _ q).symm
/-- the search, from the c-th step on -/
theorem look_from (R : SetN w s.heap a L es ep t) {x : Addr} {k : NestedKey} (hx : IsN s.heap k x) (hu : A.units + 8 < cLine) {K : Nat} (hKf : K < 10 * SetTable.turns t.mask)
    (hK : way t.mask (k.hash w) K ∉ t.place.toList) (hKb : ∀ c, c < K → way t.mask (k.hash w) c ∈ t.place.toList) {Q : SetFound → Shared → Prop}
    (yes : k ∈ L.map (·.2) → Q (.there none) s) (no : k ∉ L.map (·.2) → Q (.free (way t.mask (k.hash w) K) false) s) :
    ∀ (f c : Nat) (st : Option SetTable.Probe), st.getD (t.probeStart (k.hash w)) = begN t (k.hash w) c → c ≤ K → K - c < f →
      (∀ (i : Nat) (r : Rw), L[i]? = some r → r.2 = k → ∃ d, c ≤ d ∧ d < K ∧ t.place.toList[i]? = some (way t.mask (k.hash w) d)) →
      wpAny (model P w) A (setSearchFrom a (.ref x) (k.hash w) true f st) Q E s
  | 0, c, st, _, _, hf, _ => absurd hf (Nat.not_lt_zero _)
  | f + 1, c, st, hst, hc, hf, hre => by
    obtain ⟨o, g1, g2, g3⟩ := R.ob
    have hfit := R.fit
    have e1 : ∀ q, (nth t.mask (begN t (k.hash w) c) q).j = way t.mask (k.hash w) (c + q) := fun q => by rw [begN_add]
    have hmore : c + (K - c) = K := by omega
    rw [setSearchFrom_succ]
    refine wpAny_bind (wpAny_setState_of g1 g3 hfit ?_); dsimp only
    refine wp_if_neg R.stays ?_
    try refine wpAny_bind (wpAny_pure ?_)
    have at_ : ∀ (i : Nat) (r : Rw), L[i]? = some r → (fun i => (es[i]?.map (·.1)).getD 0) i = r.2.hash w := fun i r hr => by
      dsimp only; rw [R.row hr]; rfl
    rcases go_spec t R.tab.ris R.tab.dm (fun i => (es[i]?.map (·.1)).getD 0) (k.hash w) (10 * SetTable.turns t.mask) (K - c) (begN t (k.hash w) c) (begN_clean ..) (by omega)
      (fun q hq => by rw [e1]; exact hKb _ (by omega)) (by rw [e1, hmore]; exact hK) with ⟨q, i, hq, hi, _, hno, hpr⟩ | ⟨hno, hpr⟩
    · have hp : t.probe (fun i => (es[i]?.map (·.1)).getD 0) (k.hash w) (st.getD (t.probeStart (k.hash w))) = some (.candidate (way t.mask (k.hash w) (c + q)) i (begN t (k.hash w) (c + (q + 1)))) := by
        rw [hst, ← e1, ← begN_add]; exact hpr
      rw [hp]; dsimp only; rw [e1] at hi
      have hil : i < L.length := by
        have h1 := (List.getElem?_eq_some_iff.mp hi).1; have h2 := R.tab.sz
        rw [hss, List.length_map] at h2; rw [Array.length_toList] at h1; omega
      obtain ⟨r, hr⟩ : ∃ r, L[i]? = some r := ⟨_, List.getElem?_eq_getElem hil⟩
      have hm := List.mem_of_getElem? hr
      have hrk := R.keys r hm
      have rest : wpAny (model P w) A (searchRest a (.ref x) (k.hash w) true f es t (way t.mask (k.hash w) (c + q)) i (begN t (k.hash w) (c + (q + 1)))) Q E s := by
        unfold searchRest; rw [R.row hr]; dsimp only
        refine wpAny_bind (wpAny_holding (eqAt_key r.2 k A s _ _ hrk.1 hx.1 (by have := hrk.2; omega) _ _ _ _ ?_))
        refine wpAny_bind (wpAny_setState_of g1 g3 hfit ?_); dsimp only
        rw [← NestedKey.decide_eq]
        by_cases hkk : r.2 = k
        · refine wp_if_pos (by simp [hkk]) (wpAny_pure (yes (List.mem_map.mpr ⟨r, hm, hkk⟩)))
        · refine wp_if_neg (by simp [hkk]) ?_
          try refine wpAny_bind (wpAny_pure ?_)
          rw [sameMem]; dsimp only
          have hsl := slot_live R.tab.ris hi
          simp only [if_true, hsl, R.row hr]
          refine wpAny_bind (wpAny_isSame_ref_self (wpAny_bind (wpAny_pure ?_))); simp only [if_true]
          refine wp_if_neg (by simp [hkk]) ?_
          refine look_from R hx hu hKf hK hKb yes no f (c + (q + 1)) _ rfl (by omega) (by omega) fun j r2 hj hk2 => ?_
          obtain ⟨d, d1, d2, d3⟩ := hre j r2 hj hk2
          refine ⟨d, ?_, d2, d3⟩
          rcases Nat.lt_trichotomy d (c + q) with z | z | z
          · exact absurd ((at_ j r2 hj).trans (by rw [hk2])) (hno (d - c) j (by omega) (by rw [e1, show c + (d - c) = d by omega]; exact d3))
          · rw [z] at d3
            have q1 := slot_live R.tab.ris d3
            rw [hsl] at q1; injection q1 with q1
            rw [← q1, hr] at hj
            exact absurd ((congrArg Prod.snd (Option.some.inj hj)).trans hk2) hkk
          · omega
      by_cases hl : t.led = true
      · refine wp_if_neg (by simp [hl]) ?_
        try refine wpAny_bind (wpAny_pure ?_)
        exact rest
      · refine wp_if_pos (by simp [hl]) (wpAny_bind (seen_key hx (fun y hy => ?_) ?_))
        · obtain ⟨z, hz, rfl⟩ := List.mem_map.mp hy
          have hz2 : z ∈ es.toList := by
            have : z ∈ es ∧ z.1 = k.hash w := by simpa using hz
            simpa using this.1
          rw [R.rows] at hz2
          obtain ⟨r2, hr2, rfl⟩ := List.mem_map.mp hz2
          exact ⟨r2.2, r2.1, rfl, R.keys r2 hr2⟩
        · refine wp_if_neg (by decide) ?_
          try refine wpAny_bind (wpAny_pure ?_)
          exact rest
    · have hp : t.probe (fun i => (es[i]?.map (·.1)).getD 0) (k.hash w) (st.getD (t.probeStart (k.hash w))) = some (.empty (way t.mask (k.hash w) K) none) := by
        have e2 : way t.mask (k.hash w) K = (nth t.mask (begN t (k.hash w) c) (K - c)).j := by rw [e1, hmore]
        rw [hst, e2]; exact hpr
      rw [hp]; dsimp only
      refine wpAny_pure (no fun hm => ?_)
      obtain ⟨r2, hr2, hk2⟩ := List.mem_map.mp hm
      obtain ⟨j, hj⟩ := List.mem_iff_getElem?.mp hr2
      obtain ⟨d, d1, d2, d3⟩ := hre j r2 hj hk2
      exact absurd ((at_ j r2 hj).trans (by rw [hk2])) (hno (d - c) j (by omega) (by rw [e1, show c + (d - c) = d by omega]; exact d3))
/-- the search, whole -/
theorem look_at (R : SetN w s.heap a L es ep t) {x : Addr} {k : NestedKey} (hx : IsN s.heap k x) (hu : A.units + 8 < cLine) {Q : SetFound → Shared → Prop} (yes : k ∈ L.map (·.2) → Q (.there none) s)
    (no : ∀ K, k ∉ L.map (·.2) → way t.mask (k.hash w) K ∉ t.place.toList → (∀ c, c < K → way t.mask (k.hash w) c ∈ t.place.toList) → Q (.free (way t.mask (k.hash w) K) false) s) :
    wpAny (model P w) A (setSearch a (.ref x) (k.hash w) true) Q E s := by
  have hfew := R.few
  obtain ⟨K, hKf, hK, hKb⟩ := R.tab.first (by have := R.room; rw [hss, List.length_map]; omega) (k.hash w)
  have big : K < 100000 := by
    have : SetTable.turns t.mask ≤ 200 := by rcases R.tab.mok with e | e | e <;> rw [e] <;> decide
    omega
  unfold setSearch
  refine look_from R hx hu hKf hK hKb yes (fun hn => no K hn hK hKb) 100000 0 none rfl (Nat.zero_le _) (by omega) fun i r hi hk => ?_
  have h1 : (hss w L)[i]? = some (k.hash w) := by rw [hss, List.getElem?_map, hi, ← hk]; rfl
  have h2 : i < t.place.toList.length := by
    have z := (List.getElem?_eq_some_iff.mp h1).1
    rw [Array.length_toList, R.tab.sz]; exact z
  obtain ⟨d, hd, e⟩ := R.tab.before hK h1 (List.getElem?_eq_getElem h2)
  exact ⟨d, Nat.zero_le _, hd, by rw [List.getElem?_eq_getElem h2, e]⟩
theorem isN_same {h h' : Heap} {k : NestedKey} {b : Addr} {o : Obj} (hb : IsN h k b) (ho : h.get? a = some o) (hd : o.data = .set es ep t) (sb : Heap.SameBut a h h') : IsN h' k b :=
  ⟨NestedIs.at (fun c ob vs n hc hq => (sb.2 c fun z => by subst z; rw [ho] at hc; cases hc; rw [hd] at hq; cases hq).trans hc) k _ hb.1, hb.2⟩
theorem isN_keep {h h' : Heap} {k : NestedKey} {b : Addr} (hb : IsN h k b) (kp : ∀ c o, h.get? c = some o → h'.get? c = some o) : IsN h' k b :=
  ⟨NestedIs.at (fun c ob vs n hc _ => kp c ob hc) k _ hb.1, hb.2⟩
/-- the rows in another order -/
theorem rws_order (L : List Rw) (es : Array (Int × Value)) (order : Array Nat) (hr : es.toList = rws w L) (hp : order.toList.Perm (List.range L.length)) :
    ∃ L2, (order.filterMap (es[·]?)).toList = rws w L2 ∧ L2.Perm L ∧ hss w L2 = order.toList.map fun i => (es.map (·.1)).getD i 0 := by
  have row : ∀ i (h : i < L.length), es[i]? = some ((L[i]).2.hash w, Value.ref (L[i]).1) := fun i h => by
    rw [← Array.getElem?_toList, hr, rws, List.getElem?_map, List.getElem?_eq_getElem h]; rfl
  have key : ∀ l : List Nat, (∀ i ∈ l, i < L.length) → l.filterMap (fun i => es[i]?) = rws w (l.filterMap fun i => L[i]?) ∧ hss w (l.filterMap fun i => L[i]?) = l.map fun i => (es.map (·.1)).getD i 0 := by
    intro l
    induction l with
    | nil => intro _; exact ⟨rfl, rfl⟩
    | cons i l ih =>
      intro hl
      have hi := hl i List.mem_cons_self
      obtain ⟨e1, e2⟩ := ih fun j hj => hl j (List.mem_cons_of_mem _ hj)
      have e3 : (es.map (·.1)).getD i 0 = (L[i]).2.hash w := by
        have e4 : (es.map (·.1))[i]? = some ((L[i]).2.hash w) := by rw [Array.getElem?_map, row i hi]; rfl
        simp [Array.getD_eq_getD_getElem?, e4]
      rw [List.filterMap_cons_some (row i hi), List.filterMap_cons_some (List.getElem?_eq_getElem hi), e1]
      refine ⟨rfl, ?_⟩
      rw [List.map_cons, e3, ← e2]
      rfl
  have all : (List.range L.length).filterMap (fun i => L[i]?) = L := by
    refine List.ext_getElem? fun j => ?_
    have go : ∀ n, n ≤ L.length → (List.range n).filterMap (fun i => L[i]?) = L.take n := by
      intro n
      induction n with
      | zero => intro _; rfl
      | succ n ih =>
        intro hn
        rw [List.range_succ, List.filterMap_append, ih (Nat.le_of_lt hn), List.take_add_one, List.getElem?_eq_getElem hn, List.filterMap_cons_some (List.getElem?_eq_getElem hn)]
        rfl
    rw [go L.length (Nat.le_refl _), List.take_length]
  obtain ⟨e1, e2⟩ := key order.toList fun i hi => List.mem_range.mp (hp.mem_iff.mp hi)
  refine ⟨order.toList.filterMap fun i => L[i]?, by first | (rw [Array.toList_filterMap]; exact e1) | simpa using e1, ?_, e2⟩
  have h := hp.filterMap fun i => L[i]?
  rw [all] at h
  exact h
/-- the table laid out larger -/
theorem relayN {o : Obj} (g1 : s.heap.get? a = some o) (g2 : o.ExactSet) (g3 : o.data = .set es ep t) (hr : es.toList = rws w L) (hsz : t.place.size = es.size) (hdm : t.dummies = #[]) (hfl : es.size ≤ t.mask)
    (nd : (L.map (·.2)).Nodup) (keys : ∀ r ∈ L, IsN s.heap r.2 r.1) (ld : w.params.followText "set-order" = true ∨ t.led = true) (few : L.length < 64) {wanted M : Nat}
    (hw : SetTable.sizeAbove wanted - 1 = M) (hM : MaskOk M) (hw2 : SetTable.sizeAbove wanted ≤ 128) (hn : L.length * 5 < M * 3) {Q : Unit → Shared → Prop}
    (hQ : ∀ h' L' es' ep' t', Heap.SameBut a s.heap h' → SetN w h' a L' es' ep' t' → L'.Perm L → Q () { s with heap := h' }) : wpAny (model P w) A (setRelay a wanted) Q E s := by
  have hsl := rws_len hr
  have hfit : t.fits es.size = true := by
    unfold SetTable.fits SetTable.fill
    rw [hdm, Bool.and_eq_true, beq_iff_eq, decide_eq_true_eq]
    exact ⟨hsz, by show t.place.size + 0 ≤ t.mask; omega⟩
  obtain ⟨t', order, e, hp, T, em, el, _, _⟩ := relaid_ok t (hs := es.map (·.1)) (wanted := wanted) hw hM (by rw [Array.size_map, hsl]; omega)
  rw [Array.size_map, hsl] at hp
  obtain ⟨L2, r1, r2, r3⟩ := rws_order L es order hr hp
  rw [← r3] at T
  have hs2 : (order.filterMap (es[·]?)).size = es.size := by rw [rws_len r1, r2.length_eq, hsl]
  rw [setRelay_eq]
  refine wpAny_bind (wpAny_setState_of g1 g3 hfit ?_)
  dsimp only
  refine wp_if_neg (by rw [sizeLine_eq]; omega) ?_
  try refine wpAny_bind (wpAny_pure ?_)
  rw [e]
  dsimp only
  refine wpAny_bind (wp_if_neg (by rw [hs2]; simp) ?_)
  try refine wpAny_bind (wpAny_pure ?_)
  refine wpAny_pure ?_
  dsimp only
  refine wpAny_storeSet_of g1 g3 ?_ (by rw [hs2, hsl, sizeLine_eq]; omega)
  have sb : Heap.SameBut a s.heap (s.heap.update a (Obj.putSet (order.filterMap (es[·]?)) t')) := Heap.SameBut.update ..
  exact hQ _ L2 _ (ep + 1) t' sb ⟨⟨_, store_at g1 g3, ⟨g2.1, g2.2.1, g2.2.2⟩, rfl⟩, r1, T, (r2.map (·.2)).nodup_iff.mpr nd, fun r m => isN_same (keys r (r2.mem_iff.mp m)) g1 g3 sb, by rw [el]; exact ld, by rw [r2.length_eq, em]; exact hn, by rw [r2.length_eq]; exact few⟩ r2
/-- one is added -/
theorem put_at (R : SetN w s.heap a L es ep t) {x : Addr} {k : NestedKey} (hx : IsN s.heap k x) (hu : A.units + 8 < cLine) (hfew : L.length + 1 < 64) {Q : Bool → Shared → Prop}
    (hQ : ∀ b h' L' es' ep' t', Heap.SameBut a s.heap h' → SetN w h' a L' es' ep' t' → (k ∈ L.map (·.2) → L' = L) → (k ∉ L.map (·.2) → L'.Perm ((x, k) :: L)) → Q b { s with heap := h' }) :
    wpAny (model P w) A (setAddHashed a (.ref x) (k.hash w)) Q E s := by
  obtain ⟨o, g1, g2, g3⟩ := R.ob
  have hfit := R.fit; have hsl := rws_len R.rows; have hroom := R.room
  unfold setAddHashed; refine wpAny_holding ?_
  rw [show (100000 : Nat) = 99999 + 1 from rfl, setAddHashedIn_succ]
  refine wpAny_bind (wpAny_setState_of g1 g3 hfit ?_); dsimp only
  refine wp_if_neg (by simp [byScan, Value.scannable]) ?_
  try refine wpAny_bind (wpAny_pure ?_)
  refine wpAny_bind (look_at R hx hu (fun hm => ?_) fun K hm hK hb => ?_)
  · dsimp only
    exact wpAny_pure (hQ false s.heap L es ep t (Heap.SameBut.refl a s.heap) R (fun _ => rfl) fun z => absurd hm z)
  · dsimp only
    refine wpAny_bind (wpAny_setState_of g1 g3 hfit ?_); dsimp only
    obtain ⟨q1, q2, q3, q4, q5, q6, q7, q8, q9⟩ := R.tab.put hK hb
    generalize hpt : t.put (way t.mask (k.hash w) K) = pt at q1 q3 q4 q5 q6 q7 q8 q9 ⊢
    obtain ⟨t1, p⟩ := pt
    dsimp only at q1 q3 q4 q5 q6 q7 q8 q9 ⊢
    subst q1
    have last : ∀ byv : Bool, wpAny (model P w) A (do
        let t2 := if byv then t1 else { t1 with plain := false }
        storeSet a (SetTable.insertAt es (SetTable.below t.place (way t.mask (k.hash w) K)) (k.hash w, Value.ref x)) t2
        if !false && t2.tooFull then setRelay a (SetTable.grown (es.size + 1))
        pure true) Q E s := by
      intro byv
      have T2 : TabOk (if byv then t1 else { t1 with plain := false }) ((hss w L).take (SetTable.below t.place (way t.mask (k.hash w) K)) ++ k.hash w :: (hss w L).drop (SetTable.below t.place (way t.mask (k.hash w) K))) := by
        cases byv
        · exact ⟨q3.ris, q3.dm, q3.sz, q3.mok, q3.bd, q3.reach⟩
        · exact q3
      have l2 : (if byv then t1 else { t1 with plain := false }).led = t.led := by cases byv <;> exact q5
      have m2 : (if byv then t1 else { t1 with plain := false }).mask = t.mask := by cases byv <;> exact q4
      have f2 : (if byv then t1 else { t1 with plain := false }).fill = (hss w L).length + 1 := by cases byv <;> exact q9
      dsimp only
      generalize (if byv then t1 else { t1 with plain := false }) = t2 at T2 l2 m2 f2 ⊢
      have hin : (SetTable.insertAt es (SetTable.below t.place (way t.mask (k.hash w) K)) (k.hash w, Value.ref x)).toList = rws w (L.take (SetTable.below t.place (way t.mask (k.hash w) K)) ++ (x, k) :: L.drop (SetTable.below t.place (way t.mask (k.hash w) K))) := by
        rw [SetTable.toList_insertAt, R.rows]; unfold rws
        rw [List.map_append, List.map_cons, List.map_take, List.map_drop]
      have hhs : hss w (L.take (SetTable.below t.place (way t.mask (k.hash w) K)) ++ (x, k) :: L.drop (SetTable.below t.place (way t.mask (k.hash w) K))) = (hss w L).take (SetTable.below t.place (way t.mask (k.hash w) K)) ++ k.hash w :: (hss w L).drop (SetTable.below t.place (way t.mask (k.hash w) K)) := by
        unfold hss
        rw [List.map_append, List.map_cons, List.map_take, List.map_drop]
      rw [← hhs] at T2
      have pm := put_perm L (SetTable.below t.place (way t.mask (k.hash w) K)) (x, k)
      generalize SetTable.insertAt es (SetTable.below t.place (way t.mask (k.hash w) K)) (k.hash w, Value.ref x) = es1 at hin ⊢
      generalize L.take (SetTable.below t.place (way t.mask (k.hash w) K)) ++ (x, k) :: L.drop (SetTable.below t.place (way t.mask (k.hash w) K)) = L1 at pm T2 hin
      have hlen : L1.length = L.length + 1 := pm.length_eq
      have hes := rws_len hin
      refine wpAny_bind (wpAny_storeSet_of g1 g3 ?_ (by rw [hes, sizeLine_eq]; omega))
      have sb : Heap.SameBut a s.heap (s.heap.update a (Obj.putSet es1 t2)) := Heap.SameBut.update ..
      have ho1 := store_at (es' := es1) (t' := t2) g1 g3
      generalize s.heap.update a (Obj.putSet es1 t2) = h1 at sb ho1 ⊢
      have ld2 : w.params.followText "set-order" = true ∨ t2.led = true := by rw [l2]; exact R.led
      have nd1 : (L1.map (·.2)).Nodup := (pm.map (·.2)).nodup_iff.mpr (by rw [List.map_cons]; exact List.nodup_cons.mpr ⟨hm, R.nd⟩)
      have keys1 : ∀ r ∈ L1, IsN h1 r.2 r.1 := fun r hr => by
        rcases List.mem_cons.mp (pm.mem_iff.mp hr) with e | hr
        · rw [e]; exact isN_same hx g1 g3 sb
        · exact isN_same (R.keys r hr) g1 g3 sb
      by_cases hf : t2.tooFull = true
      · have hfull : (L.length + 1) * 5 ≥ t.mask * 3 := by
          have h := hf
          unfold SetTable.tooFull at h
          rw [decide_eq_true_eq, f2, m2, hss, List.length_map] at h
          exact h
        have hsz1 : t2.place.size = es1.size := by
          have h := T2.sz
          rw [hss, List.length_map] at h
          rw [h, hes]
        have two : (t.mask = 7 ∧ L.length = 4) ∨ (t.mask = 31 ∧ L.length = 18) := by
          rcases R.tab.mok with e | e | e
          · left; rw [e] at hfull hroom; exact ⟨e, by omega⟩
          · right; rw [e] at hfull hroom; exact ⟨e, by omega⟩
          · exfalso; rw [e] at hfull; omega
        have go : ∀ M, SetTable.sizeAbove (SetTable.grown (L.length + 1)) - 1 = M → MaskOk M → SetTable.sizeAbove (SetTable.grown (L.length + 1)) ≤ 128 → (L.length + 1) * 5 < M * 3 →
            wpAny (model P w) A (setRelay a (SetTable.grown (L.length + 1))) (fun _ s' => wpAny (model P w) A (pure true) Q E s') E { s with heap := h1 } := fun M h1' h2' h3' h4' => by
          refine relayN (s := { s with heap := h1 }) ho1 ⟨g2.1, g2.2.1, g2.2.2⟩ rfl hin hsz1 T2.dm (by rw [hes, m2]; rcases two with ⟨e, e2⟩ | ⟨e, e2⟩ <;> omega) nd1 keys1 ld2 (by rw [hlen]; exact hfew) h1' h2' h3' (by rw [hlen]; exact h4') ?_
          intro h2 L2 es2 ep2 t3 sb2 R2 pm2
          exact wpAny_pure (hQ true h2 L2 es2 ep2 t3 (sb.trans sb2) R2 (fun z => absurd z hm) fun _ => pm2.trans pm)
        have gone : wpAny (model P w) A (setRelay a (SetTable.grown (L.length + 1))) (fun _ s' => wpAny (model P w) A (pure true) Q E s') E { s with heap := h1 } := by
          rcases two with ⟨_, e2⟩ | ⟨_, e2⟩
          · exact go 31 (by rw [e2, size_20]) (.inr (.inl rfl)) (by rw [e2, size_20]; decide) (by omega)
          · exact go 127 (by rw [e2, size_76]) (.inr (.inr rfl)) (by rw [e2, size_76]; decide) (by omega)
        rw [hsl]
        first
          | (refine wpAny_bind ?_; refine wp_if_pos (by simp [hf]) ?_; exact gone)
          | (refine wp_if_pos (by simp [hf]) ?_; refine wpAny_bind ?_; exact gone)
      · have nf : ¬ (!false && t2.tooFull) = true := by simp [hf]
        have fine : SetN w h1 a L1 es1 (ep + 1) t2 := ⟨⟨_, ho1, ⟨g2.1, g2.2.1, g2.2.2⟩, rfl⟩, hin, T2, nd1, keys1, ld2, by
          have h := hf
          unfold SetTable.tooFull at h
          rw [decide_eq_true_eq, f2, m2, hss, List.length_map] at h
          rw [hlen, m2]
          omega, by omega⟩
        first
          | refine wp_if_neg nf ?_
          | (refine wpAny_bind ?_; refine wp_if_neg nf ?_; refine wpAny_pure ?_)
        try refine wpAny_bind (wpAny_pure ?_)
        exact wpAny_pure (hQ true h1 L1 es1 (ep + 1) t2 sb fine (fun z => absurd z hm) fun _ => pm)
    by_cases hp1 : t1.plain = true
    · first
        | (refine wpAny_bind ?_; refine wp_if_pos hp1 ?_; refine told_key k _ 8 s hx.1 hx.2 _ _ _ fun b => ?_)
        | refine wp_if_pos hp1 (wpAny_bind (told_key k _ 8 s hx.1 hx.2 _ _ _ fun b => ?_))
      exact last b
    · first
        | (refine wpAny_bind ?_; refine wp_if_neg hp1 ?_; refine wpAny_pure ?_)
        | refine wp_if_neg hp1 (wpAny_bind (wpAny_pure ?_))
      exact last true
end
end KaN
set_option maxRecDepth 100000
set_option maxHeartbeats 3200000
namespace KaN
open PySem PyProof.Rows L2
section
variable {P : Program} {w : World} {A : Around} {E : Value → Shared → Prop} {s : Shared}
/-- an empty set, just made -/
abbrev set0 (w : World) : Obj := { cls := .type "set", dict := none, data := .set #[] 0 (.fresh 0 0 (!w.params.followText "set-order")) }
theorem SetN.new {h : Heap} {a : Addr} (ho : h.get? a = some (set0 w)) : SetN w h a [] #[] 0 (.fresh 0 0 (!w.params.followText "set-order")) where
  ob := ⟨_, ho, ⟨rfl, rfl, rfl⟩, rfl⟩
  rows := rfl
  tab := ⟨List.Pairwise.nil, rfl, rfl, .inl rfl, fun x hx => (by cases hx), fun i h j hi => (by simp at hi)⟩
  nd := List.nodup_nil
  keys := fun r hr => nomatch hr
  led := by
    by_cases c : w.params.followText "set-order" = true
    · exact .inl c
    · exact .inr (by show (!w.params.followText "set-order") = true; simpa using c)
  room := by show 0 * 5 < 7 * 3; decide
  few := by decide
theorem SetN.held {h h' : Heap} {a : Addr} {L : List Rw} {es : Array (Int × Value)} {ep : Nat} {t : SetTable} (R : SetN w h a L es ep t) (ha : ∀ o, h.get? a = some o → h'.get? a = some o) (hk : ∀ r ∈ L, IsN h' r.2 r.1) : SetN w h' a L es ep t :=
  let ⟨o, g, r⟩ := R.ob; ⟨⟨o, ha o g, r⟩, R.rows, R.tab, R.nd, hk, R.led, R.room, R.few⟩
/-- what of the first i items is in -/
structure In_ (ks : List Rw) (i : Nat) (L : List Rw) : Prop where
  sub : ∀ r ∈ L, r ∈ ks.take i
  all : ∀ r ∈ ks.take i, r.2 ∈ L.map (·.2)
  len : L.length ≤ i
theorem In_.nil (ks : List Rw) : In_ ks 0 [] where
  sub := fun _ h => (by cases h)
  all := fun _ h => (by simp at h)
  len := Nat.le_refl _
theorem In_.next {ks L L' : List Rw} {i : Nat} {x : Rw} (g : In_ ks i L) (e : ks[i]? = some x) (c1 : x.2 ∈ L.map (·.2) → L' = L) (c2 : x.2 ∉ L.map (·.2) → L'.Perm (x :: L)) : In_ ks (i + 1) L' := by
  have tk : ks.take (i + 1) = ks.take i ++ [x] := by rw [List.take_succ, e]; rfl
  have up : ∀ r ∈ L, r ∈ ks.take (i + 1) := fun r h => by rw [tk]; exact List.mem_append_left _ (g.sub r h)
  rcases Classical.em (x.2 ∈ L.map (·.2)) with c | c
  · rw [c1 c]
    refine ⟨up, fun r h => ?_, Nat.le_succ_of_le g.len⟩
    rw [tk] at h
    rcases List.mem_append.mp h with z | z
    · exact g.all r z
    · rw [List.mem_singleton.mp z]; exact c
  · have pm := c2 c
    refine ⟨fun r h => ?_, fun r h => ?_, by rw [pm.length_eq]; exact Nat.succ_le_succ g.len⟩
    · rcases List.mem_cons.mp (pm.mem_iff.mp h) with z | z
      · rw [z, tk]; exact List.mem_append_right _ (List.mem_singleton.mpr rfl)
      · exact up r z
    · refine (pm.map (·.2)).mem_iff.mpr ?_
      rw [tk] at h
      rcases List.mem_append.mp h with z | z
      · exact List.mem_cons_of_mem _ (g.all r z)
      · rw [List.mem_singleton.mp z]; exact List.mem_cons_self
theorem fill_loop {I : Addr} {fp wr : List Addr} {G : Array GenState → Array GenState → Prop} {n : Nat} {Pv : Nat → Value → Prop} {St : Nat → Shared → Prop} {R : Result → Shared → Prop}
    (W : WalksS P w A.in1 I fp wr G n Pv St) (S : Addr) (hSf : S ∉ fp) (ks : List Rw) (hn : n = ks.length) (h4 : ks.length < 64) (hval : ∀ i v, Pv i v → ∃ r, ks[i]? = some r ∧ v = .ref r.1)
    (h0 : Heap) (hk : ∀ r ∈ ks, IsN h0 r.2 r.1) (hS0 : h0.get? S = none) (hw0 : ∀ b ∈ wr, h0.get? b = none) (hu : A.units + 12 < cLine) :
    ∀ (d i : Nat) (s : Shared), n - i = d → i ≤ n → St i s → (∀ b o, h0.get? b = some o → s.heap.get? b = some o) → (∃ L es ep t, SetN w s.heap S L es ep t ∧ In_ ks i L) →
      (∀ s' L es ep t, Moved (S :: wr) G s s' → SetN w s'.heap S L es ep t → In_ ks n L → (∀ b o, h0.get? b = some o → s'.heap.get? b = some o) → R (.ok (.ret .none)) s') →
      codeAny (model P w) A (.builtin "set.update.loop" ⟨[.ref S, .ref I], []⟩) R s := by
  have hSw : S ∉ wr := fun h => hSf (W.sub _ h)
  have wide : ∀ b ∈ wr, b ∈ S :: wr := fun b m => List.mem_cons_of_mem _ m
  have on : ∀ {s s' : Shared}, Moved wr G s s' → (∀ b o, h0.get? b = some o → s.heap.get? b = some o) → ∀ b o, h0.get? b = some o → s'.heap.get? b = some o := fun mv kp b o e =>
    mv.heap b o (fun m => by rw [hw0 b m] at e; cases e) (kp b o e)
  have inu : A.in1.units + 8 < cLine := by simp only [Around.in1_units]; omega
  intro d
  induction d with
  | zero =>
    intro i s e hi st kp ⟨L, es, ep, t, hS, g⟩ hR
    obtain rfl : i = n := by omega
    refine codeAny_builtin F.entry_set_update_loop ?_
    rw [Around.under_plainId F.plain_set_update_loop _]
    change wpAny _ A.in1 (pyNext (.ref I) >>= _) _ _ s
    refine wpAny_bind (W.done s _ _ st fun s2 mv => ?_)
    change wpAny _ A.in1 (ret Value.none) _ _ s2
    have kp2 := on mv kp
    exact wpAny_pure (hR s2 L es ep t (mv.mono wide) (hS.held (fun o z => mv.heap S o hSw z) fun r hr => isN_keep (hk r (List.mem_of_mem_take (g.sub r hr))) kp2) g kp2)
  | succ d ih =>
    intro i s e hi st kp ⟨L, es, ep, t, hS, g⟩ hR
    have hlt : i < n := by omega
    refine codeAny_builtin F.entry_set_update_loop ?_
    rw [Around.under_plainId F.plain_set_update_loop _]
    change wpAny _ A.in1 (pyNext (.ref I) >>= _) _ _ s
    refine wpAny_bind (W.item i s _ _ hlt st fun v s2 hP st2 mv => ?_)
    obtain ⟨r, hr, rfl⟩ := hval i v hP
    have kp2 := on mv kp
    have S2 : SetN w s2.heap S L es ep t := hS.held (fun o z => mv.heap S o hSw z) fun q hq => isN_keep (hk q (List.mem_of_mem_take (g.sub q hq))) kp2
    have hx : IsN s2.heap r.2 r.1 := isN_keep (hk r (List.mem_of_getElem? hr)) kp2
    change wpAny _ A.in1 (holding [Value.ref r.1] (setAdd S (.ref r.1)) >>= _) _ _ s2
    refine wpAny_bind (wpAny_holding ?_); unfold setAdd; refine wpAny_holding ?_
    refine wpAny_bind (pyHash_key r.2 _ A.in1 s2 _ hx.1 (by have := hx.2; omega) ?_)
    refine put_at (s := { s2 with toks := s2.toks + r.2.draws }) S2 hx inu (by have := g.len; omega) fun b h' L' es' ep' t' sb SN c1 c2 => ?_
    have kp3 : ∀ b o, h0.get? b = some o → h'.get? b = some o := fun b o z => (sb.2 b fun y => by rw [y, hS0] at z; cases z).trans (kp2 b o z)
    refine wpAny_pure ⟨plainId_quiet F.plain_set_update_loop _, ih (i + 1) _ (by omega) hlt (W.frame _ s2 _ _ st2 (Nat.le_add_right _ _) fun b m o z => ?_) kp3 ⟨L', es', ep', t', SN, g.next hr c1 c2⟩ fun s3 L3 es3 ep3 t3 mv3 S3 g3 kp4 => ?_⟩
    · exact (sb.2 b fun y : b = S => hSf (y ▸ m)).trans z
    · exact hR s3 L3 es3 ep3 t3 (Moved.trans W.gtrans ((mv.mono wide).then_heap (Nat.le_add_right _ _) fun b o m z => (sb.2 b fun y : b = S => m (y ▸ List.mem_cons_self)).trans z) mv3) S3 g3 kp4
/-- set(xs), xs a list of at most four such keys -/
theorem call_set_keys {l : Addr} {items : Array Value} (ks : List Rw) {Q : Value → Shared → Prop} (hh : A.handled = none) (hl : s.heap.IsList l items) (hit : items.toList = ks.map fun r => Value.ref r.1)
    (hk : ∀ r ∈ ks, IsN s.heap r.2 r.1) (h4 : ks.length < 64) (hu : A.units + 20 < cLine)
    (h : ∀ (h' : Heap) (tk : Nat) L es ep t, SetN w h' s.heap.objs.size L es ep t → In_ ks ks.length L → (∀ b o, s.heap.get? b = some o → h'.get? b = some o) → Q (.ref s.heap.objs.size) { s with heap := h', toks := tk }) :
    wpAny (model P w) A (call (.type "set") [.ref l]) Q E s := by
  have hisz : items.size = ks.length := by
    have := congrArg List.length hit
    rwa [Array.length_toList, List.length_map] at this
  obtain ⟨c, tl, hmro⟩ := F.called_set.mro
  have x1 := F.called_set.made
  have x2 := F.called_set.sub
  refine wpAny_call (codeAny_of_tree ?_)
  change wpAny _ _ (callAny (.type "set") _) _ _ _
  refine wpAny_pure ⟨Code.quiet_builtin _ (by decide +kernel), codeAny_builtin F.entry_type_call ?_⟩
  rw [Around.under_plain (weight_type_call_type "set" [.ref l] []) rfl]
  have x3 := F.called_set.notType
  have x4 := F.called_set.canCreate
  have x5 := F.typeCall_set_1 (.ref l)
  repeat (any_goals (first | assumption | wp_step))
  refine codeAny_mono (code_set_led1 (.ref l) (E := E) (Q₁ := fun ob z => ob = .ref s.heap.objs.size ∧ z = { s with heap := s.heap.push (set0 w) }) ⟨rfl, rfl⟩) fun r s1 hr => ?_
  cases r with
  | error e => exact hr
  | ok fl =>
    cases fl with
    | ret ob =>
      obtain ⟨rfl, rfl⟩ := hr
      have hS : (s.heap.push (set0 w)).get? s.heap.objs.size = some (set0 w) := Heap.get?_push_size _ rfl
      have hT : Shared.TypeIs { s with heap := s.heap.push (set0 w) } (.ref s.heap.objs.size) "set" := ⟨_, hS, rfl⟩
      have x6 := F.called_set.init.lookup
      have x7 := F.called_set.init.bind (.ref s.heap.objs.size)
      repeat (any_goals (first | assumption | wp_step))
      refine codeAny_mono (codeAny_call_builtin (R := wants (fun r z => r = .none ∧ ∃ h' tk L es ep t, z = { s with heap := h', toks := tk } ∧ SetN w h' s.heap.objs.size L es ep t ∧ In_ ks ks.length L ∧
          (∀ b o, s.heap.get? b = some o → h'.get? b = some o)) E) F.called_set.init.plain F.entry_set_init (check_set_init_1 hT ?_)) fun r2 s2 hr2 => ?_
      · obtain ⟨ol, hol, hcl, nl, hdl⟩ := hl
        obtain ⟨ocls, odict, odata, oslots⟩ := ol
        simp only at hcl hdl
        subst hcl; subst hdl
        have hol2 : (s.heap.push (set0 w)).get? l = some { cls := .type "list", dict := odict, data := .seq items nl, slots := oslots } := Heap.get?_push_of_some _ hol
        have y1 := F.sub_list_set
        have y2 := F.sub_list_frozenset
        have y3 : (Value.type "list" == Value.type "dict") = false := by decide
        have hl1 : (s.heap.push (set0 w)).IsList l items := ⟨_, hol2, rfl, nl, rfl⟩
        unfold Builtin.«set.__init__» noKeywords Builtin.Frozenset.updateFrom
        generalize hPI : pyIter = PI
        wp_walk
        subst hPI
        refine wpAny_pyIter_list hl1 ?_
        refine wpAny_bind (wpAny_runValue ?_)
        have hlS : l < s.heap.objs.size := Heap.lt_size hol
        have z1 : (s.heap.push (set0 w)).objs.size = s.heap.objs.size + 1 := Heap.size_push ..
        have ne1 : l ≠ (s.heap.push (set0 w)).objs.size := by rw [z1]; exact Nat.ne_of_lt (Nat.lt_succ_of_lt hlS)
        have gone : ∀ b, s.heap.objs.size ≤ b → s.heap.get? b = none := fun b hb => by
          cases q : s.heap.get? b with
          | none => rfl
          | some o => exact absurd (Nat.lt_of_lt_of_le (Heap.lt_size q) hb) (Nat.lt_irrefl _)
        refine fill_loop ((Walks.list (by simp [hh]) _ l ne1 items).toS) s.heap.objs.size ?out ks hisz h4 (fun i v hv => ?val) s.heap hk (gone _ (Nat.le_refl _)) (fun b hb => gone b (by rw [List.mem_singleton.mp hb, z1]; exact Nat.le_succ _))
          (by simp only [Around.in1_units]; omega) (items.size - 0) 0 _ (by omega) (Nat.zero_le _) ⟨⟨_, Heap.get?_push_size _ rfl, rfl, rfl⟩, (hl1.push _)⟩ (fun b o e => Heap.get?_push_of_some _ (Heap.get?_push_of_some _ e)) ?beg ?fin
        case out =>
          rw [z1]; simp only [List.mem_cons, List.mem_singleton, List.not_mem_nil, or_false, not_or]; exact ⟨Nat.ne_of_lt (Nat.lt_succ_self _), Nat.ne_of_gt hlS⟩
        case val =>
          have q : items.toList[i]? = some v := by rw [Array.getElem?_toList]; exact hv
          rw [hit, List.getElem?_map] at q
          obtain ⟨r, hr, e⟩ := Option.map_eq_some_iff.mp q
          exact ⟨r, hr, e.symm⟩
        case beg => exact ⟨[], #[], 0, _, SetN.new (Heap.get?_push_of_some _ hS), In_.nil ks⟩
        case fin =>
          intro s3 L es ep t mv S3 g3 kp
          obtain ⟨h', g2, d2, tk, os2⟩ := s3
          have eg : g2 = s.gens := mv.gens
          have ed : d2 = s.drawn := mv.drawn
          have eo : os2 = s.os := mv.os
          subst eg; subst ed; subst eo
          refine wpAny_pure ?_
          change wpAny _ _ (ret Value.none) _ _ _
          rw [hisz] at g3
          exact wpAny_pure ⟨rfl, h', tk, L, es, ep, t, rfl, S3, g3, kp⟩
      · cases r2 with
        | error e => exact hr2
        | ok f2 =>
          cases f2 with
          | ret v =>
            obtain ⟨rfl, h', tk, L, es, ep, t, rfl, S3, g3, kp⟩ := hr2
            repeat (any_goals (first | assumption | wp_step))
            exact h _ _ _ _ _ _ S3 g3 kp
          | _ => exact hr2.elim
    | _ => exact hr.elim
end
end KaN
set_option maxRecDepth 100000
set_option maxHeartbeats 3200000
namespace KaN
open PySem PyProof.Rows L2
section
variable {P : Program} {w : World} {A : Around} {E : Value → Shared → Prop} {s : Shared}
/-- set(xs), xs a tuple of at most four such keys -/
theorem call_set_keysT {l : Addr} {items : Array Value} (ks : List Rw) {Q : Value → Shared → Prop} (hh : A.handled = none) (hl : s.heap.IsTuple l items) (hit : items.toList = ks.map fun r => Value.ref r.1)
    (hk : ∀ r ∈ ks, IsN s.heap r.2 r.1) (h4 : ks.length < 64) (hu : A.units + 20 < cLine)
    (h : ∀ (h' : Heap) (tk : Nat) L es ep t, SetN w h' s.heap.objs.size L es ep t → In_ ks ks.length L → (∀ b o, s.heap.get? b = some o → h'.get? b = some o) → Q (.ref s.heap.objs.size) { s with heap := h', toks := tk }) :
    wpAny (model P w) A (call (.type "set") [.ref l]) Q E s := by
  have hisz : items.size = ks.length := by
    have := congrArg List.length hit
    rwa [Array.length_toList, List.length_map] at this
  obtain ⟨c, tl, hmro⟩ := F.called_set.mro
  have x1 := F.called_set.made
  have x2 := F.called_set.sub
  refine wpAny_call (codeAny_of_tree ?_)
  change wpAny _ _ (callAny (.type "set") _) _ _ _
  refine wpAny_pure ⟨Code.quiet_builtin _ (by decide +kernel), codeAny_builtin F.entry_type_call ?_⟩
  rw [Around.under_plain (weight_type_call_type "set" [.ref l] []) rfl]
  have x3 := F.called_set.notType
  have x4 := F.called_set.canCreate
  have x5 := F.typeCall_set_1 (.ref l)
  repeat (any_goals (first | assumption | wp_step))
  refine codeAny_mono (code_set_led1 (.ref l) (E := E) (Q₁ := fun ob z => ob = .ref s.heap.objs.size ∧ z = { s with heap := s.heap.push (set0 w) }) ⟨rfl, rfl⟩) fun r s1 hr => ?_
  cases r with
  | error e => exact hr
  | ok fl =>
    cases fl with
    | ret ob =>
      obtain ⟨rfl, rfl⟩ := hr
      have hS : (s.heap.push (set0 w)).get? s.heap.objs.size = some (set0 w) := Heap.get?_push_size _ rfl
      have hT : Shared.TypeIs { s with heap := s.heap.push (set0 w) } (.ref s.heap.objs.size) "set" := ⟨_, hS, rfl⟩
      have x6 := F.called_set.init.lookup
      have x7 := F.called_set.init.bind (.ref s.heap.objs.size)
      repeat (any_goals (first | assumption | wp_step))
      refine codeAny_mono (codeAny_call_builtin (R := wants (fun r z => r = .none ∧ ∃ h' tk L es ep t, z = { s with heap := h', toks := tk } ∧ SetN w h' s.heap.objs.size L es ep t ∧ In_ ks ks.length L ∧
          (∀ b o, s.heap.get? b = some o → h'.get? b = some o)) E) F.called_set.init.plain F.entry_set_init (check_set_init_1 hT ?_)) fun r2 s2 hr2 => ?_
      · obtain ⟨ol, hol, hcl, nl, hdl⟩ := hl
        obtain ⟨ocls, odict, odata, oslots⟩ := ol
        simp only at hcl hdl
        subst hcl; subst hdl
        have hol2 : (s.heap.push (set0 w)).get? l = some { cls := .type "tuple", dict := odict, data := .seq items nl, slots := oslots } := Heap.get?_push_of_some _ hol
        have y1 := F.sub_tuple_set
        have y2 := F.sub_tuple_frozenset
        have y3 : (Value.type "tuple" == Value.type "dict") = false := by decide
        have hl1 : (s.heap.push (set0 w)).IsTuple l items := ⟨_, hol2, rfl, nl, rfl⟩
        unfold Builtin.«set.__init__» noKeywords Builtin.Frozenset.updateFrom
        generalize hPI : pyIter = PI
        wp_walk
        subst hPI
        refine wpAny_pyIter_tuple hl1 ?_
        refine wpAny_bind (wpAny_runValue ?_)
        have hlS : l < s.heap.objs.size := Heap.lt_size hol
        have z1 : (s.heap.push (set0 w)).objs.size = s.heap.objs.size + 1 := Heap.size_push ..
        have ne1 : l ≠ (s.heap.push (set0 w)).objs.size := by rw [z1]; exact Nat.ne_of_lt (Nat.lt_succ_of_lt hlS)
        have gone : ∀ b, s.heap.objs.size ≤ b → s.heap.get? b = none := fun b hb => by
          cases q : s.heap.get? b with
          | none => rfl
          | some o => exact absurd (Nat.lt_of_lt_of_le (Heap.lt_size q) hb) (Nat.lt_irrefl _)
        refine fill_loop ((Walks.tuple (by simp [hh]) _ l ne1 items).toS) s.heap.objs.size ?out ks hisz h4 (fun i v hv => ?val) s.heap hk (gone _ (Nat.le_refl _)) (fun b hb => gone b (by rw [List.mem_singleton.mp hb, z1]; exact Nat.le_succ _))
          (by simp only [Around.in1_units]; omega) (items.size - 0) 0 _ (by omega) (Nat.zero_le _) ⟨⟨_, Heap.get?_push_size _ rfl, rfl, rfl⟩, (hl1.push _)⟩ (fun b o e => Heap.get?_push_of_some _ (Heap.get?_push_of_some _ e)) ?beg ?fin
        case out =>
          rw [z1]; simp only [List.mem_cons, List.mem_singleton, List.not_mem_nil, or_false, not_or]; exact ⟨Nat.ne_of_lt (Nat.lt_succ_self _), Nat.ne_of_gt hlS⟩
        case val =>
          have q : items.toList[i]? = some v := by rw [Array.getElem?_toList]; exact hv
          rw [hit, List.getElem?_map] at q
          obtain ⟨r, hr, e⟩ := Option.map_eq_some_iff.mp q
          exact ⟨r, hr, e.symm⟩
        case beg => exact ⟨[], #[], 0, _, SetN.new (Heap.get?_push_of_some _ hS), In_.nil ks⟩
        case fin =>
          intro s3 L es ep t mv S3 g3 kp
          obtain ⟨h', g2, d2, tk, os2⟩ := s3
          have eg : g2 = s.gens := mv.gens
          have ed : d2 = s.drawn := mv.drawn
          have eo : os2 = s.os := mv.os
          subst eg; subst ed; subst eo
          refine wpAny_pure ?_
          change wpAny _ _ (ret Value.none) _ _ _
          rw [hisz] at g3
          exact wpAny_pure ⟨rfl, h', tk, L, es, ep, t, rfl, S3, g3, kp⟩
      · cases r2 with
        | error e => exact hr2
        | ok f2 =>
          cases f2 with
          | ret v =>
            obtain ⟨rfl, h', tk, L, es, ep, t, rfl, S3, g3, kp⟩ := hr2
            repeat (any_goals (first | assumption | wp_step))
            exact h _ _ _ _ _ _ S3 g3 kp
          | _ => exact hr2.elim
    | _ => exact hr.elim
end
end KaN
set_option maxRecDepth 100000
set_option maxHeartbeats 3200000
namespace KaN
open PySem PySem.W PyProof.Rows L2
mutual
def nk : PyData → NestedKey
  | .none => .none
  | .bool _ => .none
  | .int i => .num i
  | .str x => .text x
  | .list _ => .none
  | .tuple xs => .tup (nkA xs)
  | .dict _ => .none
def nkA : List PyData → List NestedKey
  | [] => []
  | x :: r => nk x :: nkA r
end
mutual
theorem nk_depth : ∀ d : PyData, (nk d).depth ≤ d.depth
  | .none => by simp [nk, NestedKey.depth]
  | .bool _ => by simp [nk, NestedKey.depth]
  | .int i => by simp [nk, NestedKey.depth]
  | .str x => by simp [nk, NestedKey.depth]
  | .list _ => by simp [nk, NestedKey.depth]
  | .tuple xs => by
    have := nk_depths xs
    simp only [nk, NestedKey.depth, PyData.depth]; omega
  | .dict _ => by simp [nk, NestedKey.depth]
theorem nk_depths : ∀ ds : List PyData, NestedKey.depthAll (nkA ds) ≤ PyData.depthAll ds
  | [] => by simp [nkA, NestedKey.depthAll]
  | x :: r => by
    have h1 := nk_depth x
    have h2 := nk_depths r
    simp only [nkA, NestedKey.depthAll, PyData.depthAll]; omega
end
mutual
/-- v is such a key, as data -/
inductive Ky (K : PySem.W.Frag) (H : Hp) : V → PyData → Prop
  | int (i : Int) : Ky K H (.int i) (.int i)
  | str (x : Str) : Ky K H (.str x) (.str x)
  | tup {a : Addr} {xs : List V} {ds : List PyData} (e : SqT K H a xs) (r : KyA K H xs ds) : Ky K H (.ref a) (.tuple ds)
inductive KyA (K : PySem.W.Frag) (H : Hp) : List V → List PyData → Prop
  | nil : KyA K H [] []
  | cons {v : V} {vs : List V} {d : PyData} {ds : List PyData} (h : Ky K H v d) (r : KyA K H vs ds) : KyA K H (v :: vs) (d :: ds)
end
section
variable {X : Cx} {pins : List (Addr × Obj)} {σ : L2.St} {H : Hp} {s : Shared}
mutual
theorem Ky.real (I : Inv X pins σ H s) : ∀ {v : V} {d : PyData} {u : Value}, Ky X.K H v d → RelV v u → Reads s.heap u d [] ∧ NestedIs s.heap (nk d) u
  | _, _, u, .int i, r => by obtain ⟨t, rfl⟩ := r; exact ⟨.int i t, by rw [nk]; exact .int i t⟩
  | _, _, u, .str x, r => by obtain ⟨t, rfl⟩ := r; exact ⟨.str x t, by rw [nk]; exact .text x t⟩
  | _, _, u, .tup e q, r => by
    cases r
    obtain ⟨its, rv, ⟨o, ho, hc, n, hd⟩, _⟩ := I.tuple e
    obtain ⟨h1, h2⟩ := KyA.real I q rv
    exact ⟨.tuple ho hc hd (by simpa using h1), by rw [nk]; exact .tup ho hc hd (by simpa using h2)⟩
theorem KyA.real (I : Inv X pins σ H s) : ∀ {vs : List V} {ds : List PyData} {us : List Value}, KyA X.K H vs ds → Vals vs us → ReadsAll s.heap us ds [] ∧ NestedAll s.heap (nkA ds) us
  | _, _, us, .nil, r => by cases r; exact ⟨.nil, by rw [nkA]; exact .nil⟩
  | _, _, us, .cons h q, r => by
    cases r with
    | cons r1 r2 =>
      obtain ⟨a1, a2⟩ := Ky.real I h r1
      obtain ⟨b1, b2⟩ := KyA.real I q r2
      exact ⟨.cons (as := []) (bs := []) a1 b1, by rw [nkA]; exact .cons a2 b2⟩
end
end
section
variable {K : PySem.W.Frag} {H H' : Hp}
mutual
theorem Ky.sm (s : Same H H') : ∀ {v : V} {d : PyData}, Ky K H v d → Ky K H' v d
  | _, _, .int i => .int i
  | _, _, .str x => .str x
  | _, _, .tup e r => .tup (e.imp (fun z => z.imp (s _ _) fun ⟨o, q⟩ => ⟨o, s _ _ q⟩) id) (KyA.sm s r)
theorem KyA.sm (s : Same H H') : ∀ {vs : List V} {ds : List PyData}, KyA K H vs ds → KyA K H' vs ds
  | _, _, .nil => .nil
  | _, _, .cons h r => .cons (Ky.sm s h) (KyA.sm s r)
end
end
theorem perm_map_of {α β : Type} {f : α → β} {ys zs : List β} (h : ys.Perm zs) : ∀ l : List α, zs = l.map f → ∃ l' : List α, l'.Perm l ∧ ys = l'.map f := by
  induction h with
  | nil => intro l e; cases l with
    | nil => exact ⟨[], .nil, rfl⟩
    | cons _ _ => cases e
  | cons x _ ih => intro l e; cases l with
    | nil => cases e
    | cons b l =>
      rw [List.map_cons] at e; injection e with e1 e2
      obtain ⟨l1, p, q⟩ := ih l e2
      exact ⟨b :: l1, p.cons b, by rw [List.map_cons, e1, q]⟩
  | swap x y r => intro l e; cases l with
    | nil => cases e
    | cons b l => cases l with
      | nil => cases e
      | cons c l =>
        rw [List.map_cons, List.map_cons] at e; injection e with e1 e2; injection e2 with e2 e3
        exact ⟨c :: b :: l, .swap .., by rw [List.map_cons, List.map_cons, e1, e2, e3]⟩
  | trans _ _ ih1 ih2 => intro l e; obtain ⟨l2, p2, q2⟩ := ih2 l e; obtain ⟨l1, p1, q1⟩ := ih1 l2 q2; exact ⟨l1, p1.trans p2, q1⟩
abbrev Dw := Addr × PyData
abbrev rwOf (p : Dw) : Rw := (p.1, nk p.2)
theorem back_rows {D0 : List Dw} : ∀ {L : List Rw}, (∀ r ∈ L, r ∈ D0.map rwOf) → ∃ D : List Dw, L = D.map rwOf ∧ ∀ p ∈ D, p ∈ D0
  | [], _ => ⟨[], rfl, fun _ z => nomatch z⟩
  | r :: L, h => by
    obtain ⟨p, hp, e⟩ := List.mem_map.mp (h r List.mem_cons_self)
    obtain ⟨D, e2, hs⟩ := back_rows (L := L) fun q m => h q (List.mem_cons_of_mem _ m)
    exact ⟨p :: D, by rw [List.map_cons, e, e2], fun q m => by
      rcases List.mem_cons.mp m with z | z
      · rw [z]; exact hp
      · exact hs q z⟩
section
variable {P : Program} {w : World} {A : Around} {E : Value → Shared → Prop} {s : Shared}
/-- sorted(set) -/
theorem sorted_setN {a : Addr} {D : List Dw} {es : Array (Int × Value)} {ep : Nat} {t : SetTable} {Q : Value → Shared → Prop} (R : SetN w s.heap a (D.map rwOf) es ep t) (hh : A.handled = none)
    (hr : ∀ p ∈ D, Reads s.heap (.ref p.1) p.2 []) (hal : AllAlike (D.map (·.2))) (hk : Sortable (D.map (·.2))) (hu : A.units + 30 < cLine) (hd8 : ∀ p ∈ D, p.2.depth ≤ 8)
    (hQ : ∀ s' p (D1 : List Dw) (c : Nat), (∀ b o, s.heap.get? b = some o → s'.heap.get? b = some o) → s'.gens = s.gens → s'.os = s.os → s.heap.objs.size ≤ p →
      s'.heap.get? p = some (seqObj "list" ((D1.mergeSort (dataLe false (fun z : Dw => z.2))).map fun z => Value.ref z.1).toArray c) → D1.Perm D → Q (.ref p) s') :
    wpAny (model P w) A (call (.builtin "sorted") [.ref a]) Q E s := by
  obtain ⟨o, g1, g2, g3⟩ := R.ob
  have hfew := R.few
  have hsz := rws_len R.rows
  rw [List.length_map] at hfew hsz
  refine Calls.call_function_entry kind_sorted plain_sorted entry_sorted (args_sorted1 _) ?_
  unfold Builtin.«sorted»; refine wpAny_bind (m := checkCount "sorted" 1 1 _) (wpAny_pure ?_)
  refine wpAny_bind (collect_set (A := A.in1) hh ⟨o, g1, g2.1, g3⟩ R.fit (by unfold scanBound; omega) R.tab.ris R.led fun s1 vs k1 hz c1 o1 pm => ?_)
  have hes : es.toList.map (·.2) = D.map fun p => Value.ref p.1 := by rw [R.rows, rws, List.map_map, List.map_map]; rfl
  rw [hes] at pm
  obtain ⟨D1, pD, rfl⟩ := perm_map_of pm D rfl
  have hl1 : D1.length < 64 := by rw [pD.length_eq]; exact hfew
  refine wpAny_bind (wpAny_newList ?_ (by rw [List.length_map, sizeLine_eq]; omega))
  have hoL : (s1.heap.push (seqObj "list" (D1.map fun p => Value.ref p.1).toArray 0)).get? s1.heap.objs.size = some (seqObj "list" (D1.map fun p => Value.ref p.1).toArray 0) := Heap.get?_push_size _ rfl
  have e0 : EachIs (fun (v : Value) (p : Dw) => v = .ref p.1) (D1.map fun p => Value.ref p.1) D1 := by
    have go : ∀ l : List Dw, EachIs (fun (v : Value) (p : Dw) => v = .ref p.1) (l.map fun p => Value.ref p.1) l := by
      intro l; induction l with
      | nil => exact .nil
      | cons p l ih => exact .cons rfl ih
    exact go D1
  have er : EachIs (fun (v : Value) (p : Dw) => ∃ as, Reads (s1.heap.push (seqObj "list" (D1.map fun p => Value.ref p.1).toArray 0)) v p.2 as ∧ s1.heap.objs.size ∉ as) (D1.map fun p => Value.ref p.1) D1 :=
    (each_mem e0).mono fun v p ⟨e, m⟩ => by
      subst e
      exact ⟨[], PyProof.Rows.Reads.keeps (fun b u z => Heap.get?_push_of_some _ (k1 b u z)) (hr p (pD.mem_iff.mp m)), fun z => nomatch z⟩
  have mem2 : ∀ d, d ∈ D1.map (·.2) → d ∈ D.map (·.2) := fun d m => (pD.map (·.2)).mem_iff.mp m
  refine wpAny_bind (wpAny_holding (list_sort_data (s := { s1 with heap := s1.heap.push (seqObj "list" (D1.map fun p => Value.ref p.1).toArray 0) }) (R := fun (v : Value) (p : Dw) => v = .ref p.1) (enc := fun p : Dw => p.2) hoL e0 er
    (fun d m d' m' => hal d (mem2 d m) d' (mem2 d' m')) (hk.imp (fun z d m => z d (mem2 d m)) fun z d m => z d (mem2 d m)) (by rw [sizeLine_eq]; omega) (fun p m => by have := hd8 p (pD.mem_iff.mp m); simp only [Around.in1_units]; omega) fun out ho eo => ?_))
  obtain ⟨c, hc⟩ := sortedHeap_at (vs := D1.map fun p => Value.ref p.1) (out := List.toArray out) hoL
  have eout : out = (D1.mergeSort (dataLe false (fun z : Dw => z.2))).map fun z => Value.ref z.1 := by
    have go : ∀ {vs : List Value} {l : List Dw}, EachIs (fun (v : Value) (p : Dw) => v = .ref p.1) vs l → vs = l.map fun z => Value.ref z.1 := by
      intro vs l h
      induction h with
      | nil => rfl
      | cons h _ ih => rw [List.map_cons, h, ih]
    exact go eo
  rw [eout] at hc ⊢
  refine wpAny_pure ⟨_, rfl, hQ _ s1.heap.objs.size D1 c (fun b u e => ?_) c1 o1 hz hc pD⟩
  have q := k1 b u e
  have lt := Heap.lt_size q
  refine (sortedHeap_old (Nat.ne_of_lt lt) (by rw [size_push']; exact Nat.lt_succ_of_lt lt)).trans (Heap.get?_push_of_some _ q)
end
/-- the set at a, without the keys' own objects -/
structure SetN0 (w : World) (h : Heap) (a : Addr) (D : List Dw) : Prop where
  ex : ∃ (es : Array (Int × Value)) (ep : Nat) (t : SetTable), (∃ o, h.get? a = some o ∧ o.ExactSet ∧ o.data = .set es ep t) ∧ es.toList = rws w (D.map rwOf) ∧ TabOk t (hss w (D.map rwOf)) ∧ ((D.map rwOf).map (·.2)).Nodup ∧
    (w.params.followText "set-order" = true ∨ t.led = true) ∧ (D.map rwOf).length * 5 < t.mask * 3 ∧ (D.map rwOf).length < 64
theorem SetN.zero {w : World} {h : Heap} {a : Addr} {D : List Dw} {es : Array (Int × Value)} {ep : Nat} {t : SetTable} (R : SetN w h a (D.map rwOf) es ep t) : SetN0 w h a D := ⟨es, ep, t, R.ob, R.rows, R.tab, R.nd, R.led, R.room, R.few⟩
theorem SetN0.all {w : World} {h : Heap} {a : Addr} {D : List Dw} (R : SetN0 w h a D) (hk : ∀ p ∈ D, IsN h (nk p.2) p.1) : ∃ es ep t, SetN w h a (D.map rwOf) es ep t := by
  obtain ⟨es, ep, t, h1, h2, h3, h4, h5, h6, h7⟩ := R.ex
  exact ⟨es, ep, t, h1, h2, h3, h4, fun r m => by
    obtain ⟨p, hp, rfl⟩ := List.mem_map.mp m
    exact hk p hp, h5, h6, h7⟩
def SetNO (w : World) (a : Addr) (D : List Dw) : HO := .ext fun h => SetN0 w h a D
theorem setNO_ok {P : Program} {w : World} {H : Hp} {h : Heap} {a : Addr} {D : List Dw} (R : SetN0 w h a D) : ObjOk P w H h a (SetNO w a D) := by
  obtain ⟨es, ep, t, ⟨o, ho, r⟩, q⟩ := R.ex
  refine ⟨R, ⟨o, ho⟩, fun h1 h2 p kp => ?_⟩
  obtain ⟨es2, ep2, t2, ⟨o2, ho2, r2⟩, q2⟩ := SetN0.ex p
  exact ⟨es2, ep2, t2, ⟨o2, kp o2 ho2, r2⟩, q2⟩
section
variable {X : Cx}
/-- set(xs), xs a list of fewer than 64 keys -/
def rSetNw (K : PySem.W.Frag) (w : World) : List V → Hp → VK → Prop := fun xs H Q => ∃ (l : Addr) (D0 : List Dw), xs = [V.ref l] ∧ (SqL K H l (D0.map fun p => V.ref p.1) ∨ SqT K H l (D0.map fun p => V.ref p.1)) ∧ (∀ p ∈ D0, Ky K H (.ref p.1) p.2 ∧ p.2.depth ≤ 8) ∧ D0.length < 64 ∧
  ∀ a D, H a = none → (∀ p ∈ D, p ∈ D0) → (∀ p ∈ D0, ∃ q ∈ D, nk q.2 = nk p.2) → (D.map fun p => nk p.2).Nodup → D.length ≤ D0.length → Q (.ref a) (upd H a (SetNO w a D))
/-- set(xs), xs a list of at most four keys -/
def rSetN (K : PySem.W.Frag) (w : World) : List V → Hp → VK → Prop := fun xs H Q => ∃ (l : Addr) (D0 : List Dw), xs = [V.ref l] ∧ (SqL K H l (D0.map fun p => V.ref p.1) ∨ SqT K H l (D0.map fun p => V.ref p.1)) ∧ (∀ p ∈ D0, Ky K H (.ref p.1) p.2 ∧ p.2.depth ≤ 8) ∧ D0.length ≤ 4 ∧
  ∀ a D, H a = none → (∀ p ∈ D, p ∈ D0) → (∀ p ∈ D0, ∃ q ∈ D, nk q.2 = nk p.2) → (D.map fun p => nk p.2).Nodup → D.length ≤ D0.length → Q (.ref a) (upd H a (SetNO w a D))
theorem refs_back : ∀ {D : List Dw} {us : List Value}, Vals (D.map fun p => V.ref p.1) us → us = D.map fun p => Value.ref p.1
  | [], _, .nil => rfl
  | p :: D, _, .cons r t => by cases r; rw [refs_back t]; rfl
theorem refs_on : ∀ D : List Dw, Vals (D.map fun p => V.ref p.1) (D.map fun p => Value.ref p.1)
  | [] => .nil
  | p :: D => .cons rfl (refs_on D)
theorem cr_setNw (hc : X.calm = true) (hu : X.A.units + 64 < cLine) : CallR X (.type "set") (rSetNw X.K X.w) := by
  intro pins s σ H xs us Q I r h
  obtain ⟨l, D0, rfl, hl, hk, h4, q⟩ := h
  rw [Vals.ref1 r]
  have keyIs : ∀ p ∈ D0, IsN s.heap (nk p.2) p.1 := fun p m => ⟨(Ky.real I (hk p m).1 rfl).2, Nat.le_trans (nk_depth _) (hk p m).2⟩
  have keyR : ∀ r ∈ D0.map rwOf, IsN s.heap r.2 r.1 := fun r m => by
    obtain ⟨p, hp, rfl⟩ := List.mem_map.mp m
    exact keyIs p hp
  have last : ∀ (h' : Heap) (tk : Nat) L es ep t, SetN X.w h' s.heap.objs.size L es ep t → In_ (D0.map rwOf) (D0.map rwOf).length L → (∀ b o, s.heap.get? b = some o → h'.get? b = some o) → EP X pins σ Q (.ref s.heap.objs.size) { s with heap := h', toks := tk } := by
    intro h' tk L es ep t R g kp
    obtain ⟨D, rfl, hD⟩ := back_rows (L := L) fun r m => List.mem_of_mem_take (g.sub r m)
    refine ⟨.ref s.heap.objs.size, upd H s.heap.objs.size (SetNO X.w s.heap.objs.size D), I.laid (t' := tk) kp (Nat.le_refl _) (setNO_ok R.zero), rfl, q _ D (I.hok.fresh (Nat.le_refl _)) hD (fun p m => ?_) ?_ (by simpa using g.len)⟩
    · have z := g.all (rwOf p) (by rw [List.take_length]; exact List.mem_map.mpr ⟨p, m, rfl⟩)
      rw [List.map_map] at z
      obtain ⟨q2, hq2, e⟩ := List.mem_map.mp z
      exact ⟨q2, hq2, e⟩
    · have z := R.nd
      rw [List.map_map] at z
      exact z
  rcases hl with hl | hl
  · obtain ⟨its, rv, pl, hz⟩ := I.list hl
    exact call_set_keys (P := X.prog) (D0.map rwOf) (I.ok.hd hc) pl.isList (by rw [List.map_map]; simpa [Function.comp_def] using refs_back rv) keyR (by rw [List.length_map]; exact h4) (by omega) last
  · obtain ⟨its, rv, pl, hz⟩ := I.tuple hl
    exact call_set_keysT (P := X.prog) (D0.map rwOf) (I.ok.hd hc) pl (by rw [List.map_map]; simpa [Function.comp_def] using refs_back rv) keyR (by rw [List.length_map]; exact h4) (by omega) last
theorem cr_setN (hc : X.calm = true) (hu : X.A.units + 64 < cLine) : CallR X (.type "set") (rSetN X.K X.w) := by
  intro pins s σ H xs us Q I r h
  obtain ⟨l, D0, e, hl, hk, h4, q⟩ := h
  exact cr_setNw hc hu _ _ _ _ _ _ _ I r ⟨l, D0, e, hl, hk, by omega, q⟩
/-- sorted(set) -/
def rSortN (K : PySem.W.Frag) (w : World) : List V → Hp → VK → Prop := fun vs H Q => ∃ (a : Addr) (D : List Dw), vs = [V.ref a] ∧ H a = some (SetNO w a D) ∧ (∀ p ∈ D, Ky K H (.ref p.1) p.2 ∧ p.2.depth ≤ 8) ∧ AllAlike (D.map (·.2)) ∧ Sortable (D.map (·.2)) ∧
  ∀ (D1 : List Dw) (p : Addr), D1.Perm D → H p = none → Q (.ref p) (upd H p (.lst ((D1.mergeSort (dataLe false (fun z : Dw => z.2))).map fun z => V.ref z.1)))
theorem cr_sortN (hc : X.calm = true) (hu : X.A.units + 64 < cLine) : CallR X (.builtin "sorted") (rSortN X.K X.w) := by
  intro pins s σ H vs us Q I r h
  obtain ⟨a, D, rfl, ha, hk, hal, hso, q⟩ := h
  have R0 : SetN0 X.w s.heap a D := (I.hok a _ ha).1
  obtain ⟨es, ep, t, R⟩ := R0.all fun p m => ⟨(Ky.real I (hk p m).1 rfl).2, Nat.le_trans (nk_depth _) (hk p m).2⟩
  rw [Vals.ref1 r]
  refine sorted_setN (P := X.prog) R (I.ok.hd hc) (fun p m => (Ky.real I (hk p m).1 rfl).1) hal hso (by omega) (fun p m => (hk p m).2) fun s2 p D1 c kp g o hp hg pD => ?_
  have hn : H p = none := I.hok.fresh hp
  have hlen : ((D1.mergeSort (dataLe false (fun z : Dw => z.2))).map fun z => V.ref z.1).length ≤ sizeLine := by
    have := R.few
    rw [List.length_map] at this
    rw [List.length_map, List.length_mergeSort, pD.length_eq, sizeLine_eq]; omega
  have J : Inv X pins σ (upd H p (.lst ((D1.mergeSort (dataLe false (fun z : Dw => z.2))).map fun z => V.ref z.1))) { s with heap := s2.heap, gens := s2.gens, drawn := s2.drawn, toks := s2.toks } :=
    I.call (ch := []) (Un.laid kp hp hn) (I.hok.laid kp hp ⟨hlen, _, c, refs_on _, hg⟩) (by rw [g]; exact I.bare) (fun _ z => nomatch z)
  have e : s2 = { s with heap := s2.heap, gens := s2.gens, drawn := s2.drawn, toks := s2.toks } := by cases s2; cases s; cases o; rfl
  rw [e]
  exact ⟨.ref p, _, J, rfl, q D1 p pD hn⟩
end
end KaN
set_option maxRecDepth 100000
set_option maxHeartbeats 2000000
namespace KaX
open PySem PySem.Builtin PySem.Builtin.BaseException
open PySem.W (Looks Frag findIn subIn looks_findIn looks_subIn clsIn)
section
variable {prog : Program} {w : World} {A : Around} {E : Value → Shared → Prop} {s : Shared} {K : Frag} {C e t0 : Addr}
/-- the class's own name, off the written part -/
theorem cdat {M : Model} {nm : Str} {cd : ClassData} (X : K.In s.heap) (hc : clsIn K C = some cd) (hn : cd.name = nm) {Q : String → Shared → Prop} (q : Q nm.toString s) :
    wpAny M A (typeNameWhole (.ref C)) Q E s := by
  unfold clsIn at hc
  split at hc
  · rename_i c' d' cd' sl' ho
    cases hc
    have hl := X _ _ ho
    unfold typeNameWhole classData
    refine wpAny_bind (wpAny_bind (wpAny_load hl ?_))
    subst hn
    exact wpAny_pure (wpAny_pure q)
  · cases hc
theorem tnm {M : Model} {nm : Str} {cd : ClassData} (x : ExcC K C e t0 s.heap) (hc : clsIn K C = some cd) (hn : cd.name = nm) {Q : String → Shared → Prop} (q : Q nm.toString s) :
    wpAny M A (typeNameOfWhole (.ref e)) Q E s := by
  unfold typeNameOfWhole shownTypeOf
  refine wpAny_bind (wpAny_bind (x.LT.here ?_))
  have hne : ((Value.ref C) == Value.type "builtin_function_or_method") = false := rfl
  rw [hne]
  simp only [Bool.false_eq_true, if_false]
  exact wpAny_pure (cdat x.1 hc hn q)
theorem bra {nm : Str} {cd : ClassData} {N T : Str} {u0 : Value} {d0 : Nat} {as : List Addr} {h₀ : Heap} {g : List Code} (b : Nat) (x : ExcC K C e t0 s.heap) (hc : clsIn K C = some cd) (hn : cd.name = nm) (hN : Str.ofString ((nm.toString.cutAt '.').getLastD "") = N)
    (ht : s.heap.TupAt t0 [u0]) (hu0 : ReprK prog w as h₀ d0 u0 T) (hg : A.guards = some g) (hcl : ∀ b ∈ as, Clear g b) (hu : A.units + d0 < cLine) (hk : ∀ b o, h₀.get? b = some o → s.heap.get? b = some o) {Q : Fin → Shared → Prop}
    (hq : ∀ u h' tk, (∀ b o, s.heap.get? b = some o → h'.get? b = some o) → Q (.done (.ret (.str (N ++ Str.ofString "(" ++ T ++ Str.ofString ")") u))) { s with heap := h', toks := tk })
    (hsz : b + (N ++ Str.ofString "(" ++ T ++ Str.ofString ")").length ≤ sizeLine) :
    wpAny (model prog w) A (bexcReprAt b ⟨[.ref e], []⟩) Q E s := by
  have e1 := hsz
  have hsz2 : (N ++ Str.ofString "(" ++ T ++ Str.ofString ")").length ≤ sizeLine := Nat.le_trans (Nat.le_add_left _ b) e1
  have eP : (Str.ofString "(").length = 1 := by rw [ofString_length]; rfl
  rw [strLen_append, strLen_append, strLen_append, eP] at e1
  have hpile : b + (N.length + 1) + T.length ≤ sizeLine := by omega
  unfold bexcReprAt
  refine wpAny_bind (wpAny_of_eq (a := ((Value.ref e : Value), ([] : List Value))) (by first | rfl | (simp only [slotArgs]; rfl)) ?_)
  refine wpAny_bind (tnm x hc hn ?_)
  refine wpAny_bind (bexcArgs_C x ht ?_)
  dsimp only
  rw [hN]
  refine wpAny_bind (wpAny_rule ?_)
  refine wpAny_bind (hu0 _ hpile A g E s _ hg hcl hu hk (fun h' tk' hk' => ?_))
  unfold retStr
  refine wpAny_bind (wpAny_mkStr (wpAny_pure ?_) hsz2)
  exact hq _ _ _ hk'
end
end KaX
set_option maxRecDepth 100000
set_option maxHeartbeats 2000000
namespace KaX
open PySem PySem.Builtin PySem.Builtin.BaseException
open PySem.W (Looks Frag findIn subIn looks_findIn looks_subIn clsIn)
section
variable {prog : Program} {w : World} {A : Around} {E : Value → Shared → Prop} {s : Shared} {K : Frag} {C e t0 : Addr}
theorem twinCall {nm : Str} {cd : ClassData} {N T : Str} {u0 : Value} {d0 : Nat} {as : List Addr} {h₀ : Heap} {g : List Code} (b : Nat) (x : ExcC K C e t0 s.heap) (hc : clsIn K C = some cd) (hn : cd.name = nm) (hN : Str.ofString ((nm.toString.cutAt '.').getLastD "") = N)
    (hB : subIn K (.ref C) (.type "BaseException") = some true)
    (ht : s.heap.TupAt t0 [u0]) (hu0 : ReprK prog w as h₀ d0 u0 T) (hg : A.guards = some g) (hcl : ∀ b ∈ as, Clear g b) (hu : A.units + 1 + d0 < cLine) (hk : ∀ b o, h₀.get? b = some o → s.heap.get? b = some o) {Q : Value → Shared → Prop}
    (hq : ∀ u h' tk, (∀ b o, s.heap.get? b = some o → h'.get? b = some o) → Q (.str (N ++ Str.ofString "(" ++ T ++ Str.ofString ")") u) { s with heap := h', toks := tk })
    (hsz : b + (N ++ Str.ofString "(" ++ T ++ Str.ofString ")").length ≤ sizeLine) :
    wpAny (model prog w) A (call (.builtin "BaseException.__repr__.under") [.ref e, rawInt b]) Q E s := by
  refine wpAny_call (codeAny_call_builtin F.plain_bexc_repr_under F.entry_bexc_repr_under ?_)
  rw [F.check_bexc_repr_under]
  refine wpAny_pure ?_
  unfold «BaseException.__repr__.under»
  rw [reprTwin_eq]
  refine wpAny_bind ?_
  refine PySem.W.check_slot (i := "BaseException.__repr__") (owner := "BaseException") (n := "__repr__") (by decide +kernel) (by decide +kernel) (x.LI hB) (F.args_bexc_repr _) ?_
  exact wpAny_mono (bra b x hc hn hN ht hu0 (by exact hg) hcl (show A.units + 1 + d0 < cLine by omega) hk (fun u h' tk k => hq u h' tk k) hsz) (fun _ _ z => z) fun _ _ z => z
theorem ReprK_exc {nm : Str} {cd : ClassData} {N T : Str} {u0 : Value} {d0 : Nat} {as : List Addr} {h₀ : Heap} (x : ExcC K C e t0 h₀) (hc : clsIn K C = some cd) (hn : cd.name = nm) (hN : Str.ofString ((nm.toString.cutAt '.').getLastD "") = N)
    (hB : subIn K (.ref C) (.type "BaseException") = some true) (hR : findIn K (.ref C) "__repr__" = some (some (.builtin "BaseException.__repr__")))
    (ht : h₀.TupAt t0 [u0]) (hu0 : ReprK prog w as h₀ d0 u0 T) : ReprK prog w as h₀ (d0 + 2) (.ref e) (N ++ Str.ofString "(" ++ T ++ Str.ofString ")") := by
  intro base hb A g E s Q hg hcl hu hk hQ
  have x1 : ExcC K C e t0 s.heap := by
    obtain ⟨X, o, vs, ho, hcc, hd, h0⟩ := x
    exact ⟨X.keeps hk, o, vs, hk _ _ ho, hcc, hd, h0⟩
  have t1 : s.heap.TupAt t0 [u0] := by
    obtain ⟨ot, k, hto, h1, h2⟩ := ht
    exact ⟨ot, k, hk _ _ hto, h1, h2⟩
  have hf : Looks (model prog w) s.heap (typeLookup (.ref C) "__repr__") (some (.builtin "BaseException.__repr__")) := looks_findIn x1.1 hR
  refine wpAny_pyReprUnder_ref (by omega) ?_
  unfold pyReprObjUnder pyReprObjBy
  refine wpAny_bind (wpAny_cRoomFor (by omega) ?_)
  refine wpAny_bind ?_
  unfold specialOf
  refine wpAny_bind (x1.LT.here (hf.here ?_))
  simp only [Option.isNone_some, Bool.false_eq_true, if_false]
  refine wpAny_bind ?_
  simp only [callSpecialIfBoundBy?, bindSpecialIfBound?]
  refine wpAny_holding (wpAny_bind (wpAny_bind ?_))
  unfold specialOf
  refine wpAny_bind (x1.LT.here (hf.here ?_))
  simp only [F.excStr_Exception.repr.bind]
  refine wpAny_bind (wpAny_askSetting (wpAny_ite ?_))
  have fin : wpAny (model prog w) A (call (.builtin "BaseException.__repr__.under") [.ref e, rawInt base]) (fun v s' => ∃ x u, v = .str x u ∧ Q x s') E s :=
    twinCall base x1 hc hn hN hB t1 hu0 hg hcl (by omega) hk (fun u h' tk k => ⟨_, _, rfl, hQ h' tk k⟩) hb
  have htw : reprUnder? (.builtin "BaseException.__repr__") = some (.builtin "BaseException.__repr__.under") := by kernel_rfl
  have fin2 : wpAny (model prog w) A (do
            let r ← call (.builtin "BaseException.__repr__.under") [.ref e, rawInt base]
            pure (some r)) (fun a s' => wpAny (model prog w) A (match a with
              | some r => do
                let c ← isInstance r (Value.type "str")
                if c = true then pure r
                  else do
                    let n ← typeNameOf r
                    raiseErrorMade "TypeError" (toString "__repr__ returned non-string (type " ++ toString n ++ toString ")")
              | none => unsupported "repr:special-get-raises") (fun v s' => ∃ x u, v = .str x u ∧ Q x s') E s') E s := by
    refine wpAny_bind (wpAny_mono fin (fun v s' hv => ?_) fun _ _ z => z)
    obtain ⟨y, u, rfl, hq⟩ := hv
    refine wpAny_pure ?_
    exact wpAny_bind (wpAny_isInstance (T := "str") (b := true) rfl isSubtype_str_str (wpAny_pure ⟨_, _, rfl, hq⟩))
  split
  · refine wpAny_bind (wpAny_pure (wpAny_pure ?_))
    simp only [htw]
    exact fin2
  · refine wpAny_tryCatch (wpAny_bind (wpAny_pure (wpAny_pure ?_)))
    simp only [htw]
    exact fin2
end
end KaX
set_option maxRecDepth 100000
set_option maxHeartbeats 2000000
namespace KaG
open PySem PySem.Spec PyProof.Rows L2
structure GR (k : Nat) (A : Around) : Prop where
  gd : A.guards = some []
  dp : A.depth + 3 * k + 5 < recursionLimit
  un : A.units + 16 * k + 200 < cLine
theorem GR.low {j k : Nat} {A : Around} (r : GR k A) (h : j ≤ k) : GR j A := ⟨r.gd, by have := r.dp; omega, by have := r.un; omega⟩
theorem GR.into {k : Nat} {A : Around} (r : GR (k + 1) A) (env : Env) (h : (A.deeper env).guards = A.guards := by rfl) : GR k (A.deeper env) :=
  ⟨by rw [h]; exact r.gd, by have := r.dp; show A.depth + 1 + 3 * k + 5 < _; omega, by have := r.un; show A.units + 3 + 16 * k + 200 < _; omega⟩
theorem GR.room {k : Nat} {A : Around} (r : GR k A) (h : A.handled = none) : Room k A := ⟨h, r.dp, r.un⟩
/-- the promise: c tells whether nothing is handled around -/
structure FnG (c : Bool) (P : Program) (w : World) (K : PySem.W.Frag) (mg : Str → Option Value) (base : Heap) (CX : CXT) (k : Nat) (f : Addr) (fd : FuncData) (ps : List Str) (sp : Sp) : Prop where
  len : ∀ vs H Q E, sp vs H Q E → vs.length = ps.length
  run : ∀ (A : Around) (outer : List Env) (s : Shared) (H : Hp) (args : Args) (us : List Value) (vs : List V) (Q : VK) (E : XK), GR k A → (c = true → A.handled = none) → Env0 P w K mg base A outer s H →
    BindsTo s fd args (ps.zip us) → Vals vs us → sp vs H Q E → codeAny (model P w) A (.call (.ref f) args) (CR CX outer P w H s Q E) s
/-- the same context under another look at what runs around -/
def recx (X : Cx) (A : Around) (c : Bool) : Cx := { X with A := A, calm := c }
theorem inv_re {X : Cx} {pins : List (Addr × Obj)} {σ : L2.St} {H : Hp} {s : Shared} (I : Inv X pins σ H s) (A : Around) (c : Bool) (hf : A.frames = some X.stack) (hc : c = true → A.handled = none) : Inv (recx X A c) pins σ H s :=
  let o := I.ok
  ⟨⟨o.mod, o.kind, o.glob, o.blt, o.above, o.inj, o.has, o.cab, hc, hf, o.stk, o.exf, o.bs, o.bsz, o.noex, o.exfs, o.funs, o.frf⟩, I.os, I.bare, I.base, I.loc, I.cell, I.free, I.freeC, I.pin, I.hok, I.len⟩
/-- the context of such a def's body -/
def cxG (c : Bool) (CX : CXT) (P : Program) (w : World) (K : PySem.W.Frag) (mg : Str → Option Value) (base : Heap) (N : List Str) (qual : Str) (scope : Scope) (f : Addr) (cd : Value) (A : Around) (outer : List Env) (s : Shared) (H : Hp) (E : XK) : Cx :=
  { cxOf CX P w K mg base N qual scope f cd A outer s H E with calm := c }
theorem fnG_of {c : Bool} {CX : CXT} {P : Program} {w : World} {K : PySem.W.Frag} {mg : Str → Option Value} {base : Heap} {k : Nat} {x qual : Str} {st : Stmt} {f : Addr} {fd : FuncData} {N ps : List Str} {sp : Sp} (F : Fun K x qual st f fd) (S : FnScope N ps (defScope st))
    (len : ∀ vs H Q E, sp vs H Q E → vs.length = ps.length)
    (hbody : ∀ (cdv : Value) (A : Around) (outer : List Env) (s : Shared) (H : Hp) (vs : List V) (Q : VK) (E : XK), GR k (A.deeper (envOfC qual (defScope st) s.heap.objs.size f cdv)) → (c = true → A.handled = none) → sp vs H Q E →
      ∃ t, PSs (cxG c CX P w K mg base N qual (defScope st) f cdv A outer s H E) (defBody st) t ∧ t { nx := fun _ H' => Q .non H', rt := Q } (start N vs) H) :
    FnG c P w K mg base CX (k + 1) f fd ps sp := by
  obtain ⟨oc, od, kV, doc, pm, an, cdv, ct, osl, rfl, lk, hcd⟩ := F.ex
  refine ⟨len, fun A outer s H args us vs Q E hr hcm e0 hb r hsp => ?_⟩
  have hl := len _ _ _ _ hsp
  have KX : K.In s.heap := e0.mod.kin.keeps fun b o e => (e0.bs b o e).1
  have lim : s.heap.NoLimit := e0.mod.nolimit.keeps fun b o e => (e0.bs b o e).1
  have hkind : ∀ y ∈ ps.zip us, (defScope st).names.lookup y.1 = some .local ∨ ((defScope st).names.lookup y.1 = some .cell ∧ ((cellsFrom (s.heap.objs.size + 1) (defScope st).names []).lookup y.1).isSome = true) := by
    rintro ⟨n, v⟩ hy
    rcases S.par n (List.of_mem_zip hy).1 with q | q
    · exact Or.inl q
    · exact Or.inr ⟨q, PySem.W.cellsFrom_some _ _ _ (.inl q)⟩
  refine codeAny_call_function (by have := hr.dp; omega) (KX _ _ lk) rfl S.co S.gen rfl (PySem.W.codeRec_of KX hcd) (hb _ _ _ _ ?_)
  refine wpAny_newFunctionEnv_cells S.kind hkind fun env he s1 y => ?_
  subst he
  refine ⟨lim.keeps y.toInCall.keep, codeAny_func ?_⟩
  obtain ⟨t, ht, hq⟩ := hbody cdv A outer s H vs Q E (hr.into _) hcm hsp
  have I0 : Inv (cxOf CX P w K mg base N qual (defScope st) f cdv ({ A with handled := none }) outer s H E) [] (start N vs) H s1 :=
    inv_start S rfl ⟨e0.frames, e0.mod, e0.bs, e0.bsz, e0.funs, e0.frf, e0.hok, e0.bare⟩ hl r y
  have I : Inv (cxG c CX P w K mg base N qual (defScope st) f cdv A outer s H E) [] (start N vs) H s1 := by
    have J := inv_re I0 (A.deeper (envOfC qual (defScope st) s.heap.objs.size f cdv)) c (Around.frames_deeper e0.frames) (fun z => hcm z)
    exact ⟨⟨J.ok.mod, J.ok.kind, J.ok.glob, J.ok.blt, J.ok.above, J.ok.inj, J.ok.has, J.ok.cab, J.ok.hd, J.ok.frames, J.ok.stk, J.ok.exf, J.ok.bs, J.ok.bsz, J.ok.noex, J.ok.exfs, J.ok.funs, J.ok.frf⟩, J.os, J.bare, J.base, J.loc, J.cell, J.free, J.freeC, J.pin, J.hok, J.len⟩
  refine wpAny_mono (ht.run [] s1 (start N vs) H _ I hq) (fun fl s' hs => ?_) fun e s' hs => hs
  have fin : ∀ {σ' : L2.St} {H' : Hp} {v : V} {u : Value}, Inv (cxG c CX P w K mg base N qual (defScope st) f cdv A outer s H E) [] σ' H' s' → RelV v u → Q v H' → CE outer P w H s Q u s' := by
    intro σ' H' v u J rv q
    exact ⟨v, H', J.os, J.bare, J.base, J.hok, rv, q⟩
  cases fl with
  | ret u => obtain ⟨v, σ', H', J, rv, q⟩ := hs; exact fin J rv q
  | next => obtain ⟨σ', H', J, q⟩ := hs; exact fin (v := V.non) (u := Value.none) J rfl q
  | brk => obtain ⟨_, _, _, q⟩ := hs; exact q.elim
  | cont => obtain ⟨_, _, _, q⟩ := hs; exact q.elim
end KaG
set_option maxRecDepth 100000
set_option maxHeartbeats 2000000
namespace KaG
open PySem PySem.Spec PyProof.Rows L2
/-- an exception at a, of the class at C, its own dict (none as yet | at d), its arguments at t1 -/
def exw (a C : Addr) (d : Option Addr) (t1 : Addr) : HO := .ext fun h => h.get? a = some ({ cls := .ref C, dict := d, data := .fields #[.ref t1, .none, .none, .none, .bool false, .none] } : Obj)
theorem exw_at {P : Program} {w : World} {H : Hp} {h : Heap} {a C t1 : Addr} {d : Option Addr} (hok : HOk P w H h) (e : H a = some (exw a C d t1)) : h.get? a = some ({ cls := .ref C, dict := d, data := .fields #[.ref t1, .none, .none, .none, .bool false, .none] } : Obj) := by
  have x : ObjOk P w H h a (.ext fun h => h.get? a = some ({ cls := .ref C, dict := d, data := .fields #[.ref t1, .none, .none, .none, .bool false, .none] } : Obj)) := hok a _ e
  exact x.1
mutual
inductive Sh (H : Hp) (CW : Addr) (NW : Str) : List Addr → Nat → V → Str → Prop
  | non {as d} : Sh H CW NW as d .non "None"
  | bl {as d} (b : Bool) : Sh H CW NW as d (.bl b) (if b then "True" else "False")
  | int {as d} (i : Int) (h : i.natAbs.log2 < 1920) : Sh H CW NW as d (.int i) (toString i : String)
  | str {as d} (x : Str) : Sh H CW NW as d (.str x) (reprText x)
  | lst {as as' d a xs ts} (e : H a = some (.lst xs)) (ha : a ∈ as') (hs : ∀ b ∈ as, b ∈ as') (hn : a ∉ as) (hi : ShA H CW NW as d xs ts) : Sh H CW NW as' (d + 1) (.ref a) (listText ts)
  | tup {as as' d a xs ts} (e : H a = some (.tup xs)) (ha : a ∈ as') (hs : ∀ b ∈ as, b ∈ as') (hn : a ∉ as) (hi : ShA H CW NW as d xs ts) : Sh H CW NW as' (d + 1) (.ref a) (tupleText ts)
  | dct {as as' d a kvs ps} (e : H a = some (.dK kvs)) (ha : a ∈ as') (hs : ∀ b ∈ as, b ∈ as') (hn : a ∉ as) (hi : ShD H CW NW as d kvs ps) : Sh H CW NW as' (d + 1) (.ref a) (dictText ps)
  | exc {as as' d a dd t1 v t} (e : H a = some (exw a CW dd t1)) (et : H t1 = some (.tup [v])) (ha : a ∈ as') (ht : t1 ∈ as') (hd : ∀ b, dd = some b → b ∈ as' ∧ ∃ fs, H b = some (exd b fs)) (hs : ∀ b ∈ as, b ∈ as') (hi : Sh H CW NW as d v t) : Sh H CW NW as' (d + 2) (.ref a) (NW ++ Str.ofString "(" ++ t ++ Str.ofString ")")
inductive ShA (H : Hp) (CW : Addr) (NW : Str) : List Addr → Nat → List V → List Str → Prop
  | nil {as d} : ShA H CW NW as d [] []
  | cons {as d v t vs ts} (h : Sh H CW NW as d v t) (r : ShA H CW NW as d vs ts) : ShA H CW NW as d (v :: vs) (t :: ts)
inductive ShD (H : Hp) (CW : Addr) (NW : Str) : List Addr → Nat → List (Key × V) → List Str → Prop
  | nil {as d} : ShD H CW NW as d [] []
  | cons {as d x v t kvs ps} (h : Sh H CW NW as d v t) (r : ShD H CW NW as d kvs ps) : ShD H CW NW as d ((Sum.inr x, v) :: kvs) ((reprText x ++ ": " ++ t) :: ps)
end
/-- what the written part says of the class of such exceptions -/
structure WrK (K : PySem.W.Frag) (CW : Addr) (NW : Str) : Prop where
  cl : ∃ cd : ClassData, PySem.W.clsIn K CW = some cd ∧ Str.ofString ((cd.name.toString.cutAt '.').getLastD "") = NW
  ex : PySem.W.subIn K (.ref CW) (.type "BaseException") = some true
  rp : PySem.W.findIn K (.ref CW) "__repr__" = some (some (.builtin "BaseException.__repr__"))
  eq : PySem.W.findIn K (.ref CW) "__eq__" = some (some (.builtin "object.__eq__"))
  ob : PySem.W.subIn K (.ref CW) (.type "object") = some true
section
variable {P : Program} {w : World} {K : PySem.W.Frag} {H : Hp} {CW : Addr} {NW : Str} {h : Heap}
theorem ReprK.str' {as : List Addr} {d : Nat} (x : Str) (t : Tok) : ReprK P w as h d (.str x t) (reprText x) := by
  intro base hb
  exact (ReprK.of_is (ReprIs.str x t (Nat.le_trans (Nat.le_add_left _ base) hb)) as h d) base hb
mutual
theorem Sh.run (T : WrK K CW NW) (X : K.In h) (hok : HOk P w H h) : ∀ {as : List Addr} {d : Nat} {v : V} {t : Str}, Sh H CW NW as d v t → ∀ u, RelV v u → ReprK P w as h d u t
  | _, _, _, _, .non, u, r => by cases (show u = Value.none from r); exact ReprK.of_is ReprIs.none _ _ _
  | _, _, _, _, .bl b, u, r => by cases (show u = Value.bool b from r); exact ReprK.of_is (ReprIs.bool b) _ _ _
  | _, _, _, _, .int i hi, u, r => by
    obtain ⟨tk, q⟩ := (show ∃ t, u = Value.int i t from r)
    cases q
    exact ReprK.of_is (ReprIs.int tk hi) _ _ _
  | _, _, _, _, .str x, u, r => by
    obtain ⟨tk, q⟩ := (show ∃ t, u = Value.str x t from r)
    cases q
    exact ReprK.str' x tk
  | _, _, _, _, .lst (as := as0) (a := a) (xs := xs) e ha hs hn hi, u, r => by
    cases (show u = Value.ref a from r)
    obtain ⟨_, its, n, rv, ho⟩ := (show ObjOk P w H h a (.lst xs) from hok a _ e)
    have hA := ShA.run T X hok hi its rv
    refine ReprK.more (as := a :: as0) ?_ (fun b hb => ?_)
    · cases its with
      | nil =>
        cases hA
        rw [listText_nil]
        exact (ReprK.listEmpty ho rfl rfl).level_le (Nat.le_succ _)
      | cons x l => exact ReprK.list ho rfl rfl hn (by simpa using hA.length_eq) (fun i y q => hA.item i y (by simpa using q))
    · rcases List.mem_cons.mp hb with z | z
      · rw [z]; exact ha
      · exact hs b z
  | _, _, _, _, .tup (as := as0) (a := a) (xs := xs) e ha hs hn hi, u, r => by
    cases (show u = Value.ref a from r)
    obtain ⟨_, its, rv, o, ho, hc, n, hd⟩ := (show ObjOk P w H h a (.tup xs) from hok a _ e)
    have hA := ShA.run T X hok hi its rv
    refine ReprK.more (as := a :: as0) (ReprK.tuple ho hc hd hn (by simpa using hA)) (fun b hb => ?_)
    rcases List.mem_cons.mp hb with z | z
    · rw [z]; exact ha
    · exact hs b z
  | _, _, _, _, .dct (as := as0) (a := a) (kvs := kvs) e ha hs hn hi, u, r => by
    cases (show u = Value.ref a from r)
    obtain ⟨_, hsys, vs, kv, o, es, ep, ho, hx, hd, _, hp, _⟩ := (show ObjOk P w H h a (.dK kvs) from hok a _ e)
    have hE := ShD.run T X hok hi vs kv es.toList hp
    refine ReprK.more (as := a :: as0) (ReprK.dict ho hx.1 hd hsys hn hE) (fun b hb => ?_)
    rcases List.mem_cons.mp hb with z | z
    · rw [z]; exact ha
    · exact hs b z
  | _, _, _, _, .exc (a := a) (t1 := t1) (v := v) e et ha ht _ hs hi, u, r => by
    cases (show u = Value.ref a from r)
    have ho := exw_at hok e
    obtain ⟨_, its, rv, o, hto, hc, n, hd⟩ := (show ObjOk P w H h t1 (.tup [v]) from hok t1 _ et)
    cases rv with
    | cons r1 r2 =>
      cases r2
      obtain ⟨cd, hcd, hN⟩ := T.cl
      have x : ExcC K CW a t1 h := ⟨X, _, _, ho, rfl, rfl, rfl⟩
      exact KaX.ReprK_exc x hcd rfl hN T.ex T.rp ⟨o, n, hto, hc, hd⟩ ((Sh.run T X hok hi _ r1).more hs)
theorem ShA.run (T : WrK K CW NW) (X : K.In h) (hok : HOk P w H h) : ∀ {as : List Addr} {d : Nat} {vs : List V} {ts : List Str}, ShA H CW NW as d vs ts → ∀ us, Vals vs us → ReprAllK P w as h d us ts
  | _, _, _, _, .nil, us, r => by cases r; exact .nil
  | _, _, _, _, .cons h1 h2, us, r => by
    cases r with
    | cons r1 r2 => exact .cons (Sh.run T X hok h1 _ r1) (ShA.run T X hok h2 _ r2)
theorem ShD.run (T : WrK K CW NW) (X : K.In h) (hok : HOk P w H h) : ∀ {as : List Addr} {d : Nat} {kvs : List (Key × V)} {ps : List Str}, ShD H CW NW as d kvs ps → ∀ vs, KV kvs vs → ∀ es, Pairs (mixKind P w) es vs → ReprEntriesK P w as h d es ps
  | _, _, _, _, .nil, vs, r, es, hp => by
    cases r
    cases hp
    exact .nil
  | _, _, _, _, .cons (x := x) h1 h2, vs, r, es, hp => by
    cases r with
    | cons r1 r2 =>
      rename_i q1 q2
      cases hp with
      | cons hk hv hp2 =>
        obtain ⟨e1, rv⟩ := r1
        have e1' : Sum.inr x = q1.1 := e1
        rw [← e1', mixKind_is] at hk
        rcases keyIs_shape hk with ⟨i, tk, z, _⟩ | ⟨y, tk, z, ek⟩
        · cases z
        · cases z
          refine .cons ?_ (Sh.run T X hok h1 _ (by rw [hv]; exact rv)) (ShD.run T X hok h2 _ r2 _ hp2)
          rw [ek]
          exact ReprK.str' x tk
end
end
end KaG
set_option maxRecDepth 100000
set_option maxHeartbeats 2000000
namespace KaG
open PySem PySem.Spec PyProof.Rows L2
section
variable {H H' : Hp} {CW : Addr} {NW : Str}
mutual
theorem Sh.wide : ∀ {as bs : List Addr} {d e : Nat} {v : V} {t : Str}, Sh H CW NW as d v t → (∀ b ∈ as, b ∈ bs) → d ≤ e → Sh H CW NW bs e v t
  | _, _, _, _, _, _, .non, _, _ => .non
  | _, _, _, _, _, _, .bl b, _, _ => .bl b
  | _, _, _, _, _, _, .int i h, _, _ => .int i h
  | _, _, _, _, _, _, .str x, _, _ => .str x
  | _, _, _, e + 1, _, _, .lst x1 x2 x3 x4 x5, k, hd => .lst x1 (k _ x2) (fun b z => k b (x3 b z)) x4 (ShA.wide x5 (fun _ z => z) (Nat.le_of_succ_le_succ hd))
  | _, _, _, e + 1, _, _, .tup x1 x2 x3 x4 x5, k, hd => .tup x1 (k _ x2) (fun b z => k b (x3 b z)) x4 (ShA.wide x5 (fun _ z => z) (Nat.le_of_succ_le_succ hd))
  | _, _, _, e + 1, _, _, .dct x1 x2 x3 x4 x5, k, hd => .dct x1 (k _ x2) (fun b z => k b (x3 b z)) x4 (ShD.wide x5 (fun _ z => z) (Nat.le_of_succ_le_succ hd))
  | _, _, _, e + 2, _, _, .exc x1 x2 x3 x4 x7 x5 x6, k, hd => .exc x1 x2 (k _ x3) (k _ x4) (fun b z => ⟨k _ (x7 b z).1, (x7 b z).2⟩) (fun b z => k b (x5 b z)) (Sh.wide x6 (fun _ z => z) (Nat.le_of_succ_le_succ (Nat.le_of_succ_le_succ hd)))
theorem ShA.wide : ∀ {as bs : List Addr} {d e : Nat} {vs : List V} {ts : List Str}, ShA H CW NW as d vs ts → (∀ b ∈ as, b ∈ bs) → d ≤ e → ShA H CW NW bs e vs ts
  | _, _, _, _, _, _, .nil, _, _ => .nil
  | _, _, _, _, _, _, .cons h r, k, hd => .cons (Sh.wide h k hd) (ShA.wide r k hd)
theorem ShD.wide : ∀ {as bs : List Addr} {d e : Nat} {vs : List (Key × V)} {ts : List Str}, ShD H CW NW as d vs ts → (∀ b ∈ as, b ∈ bs) → d ≤ e → ShD H CW NW bs e vs ts
  | _, _, _, _, _, _, .nil, _, _ => .nil
  | _, _, _, _, _, _, .cons h r, k, hd => .cons (Sh.wide h k hd) (ShD.wide r k hd)
end
mutual
theorem Sh.fr : ∀ {as : List Addr} {d : Nat} {v : V} {t : Str}, Sh H CW NW as d v t → (∀ b ∈ as, H' b = H b) → Sh H' CW NW as d v t
  | _, _, _, _, .non, _ => .non
  | _, _, _, _, .bl b, _ => .bl b
  | _, _, _, _, .int i h, _ => .int i h
  | _, _, _, _, .str x, _ => .str x
  | _, _, _, _, .lst x1 x2 x3 x4 x5, k => .lst ((k _ x2).trans x1) x2 x3 x4 (ShA.fr x5 fun b z => k b (x3 b z))
  | _, _, _, _, .tup x1 x2 x3 x4 x5, k => .tup ((k _ x2).trans x1) x2 x3 x4 (ShA.fr x5 fun b z => k b (x3 b z))
  | _, _, _, _, .dct x1 x2 x3 x4 x5, k => .dct ((k _ x2).trans x1) x2 x3 x4 (ShD.fr x5 fun b z => k b (x3 b z))
  | _, _, _, _, .exc x1 x2 x3 x4 x7 x5 x6, k => .exc ((k _ x3).trans x1) ((k _ x4).trans x2) x3 x4 (fun b z => ⟨(x7 b z).1, let ⟨fs, q⟩ := (x7 b z).2; ⟨fs, (k _ (x7 b z).1).trans q⟩⟩) x5 (Sh.fr x6 fun b z => k b (x5 b z))
theorem ShA.fr : ∀ {as : List Addr} {d : Nat} {vs : List V} {ts : List Str}, ShA H CW NW as d vs ts → (∀ b ∈ as, H' b = H b) → ShA H' CW NW as d vs ts
  | _, _, _, _, .nil, _ => .nil
  | _, _, _, _, .cons h r, k => .cons (Sh.fr h k) (ShA.fr r k)
theorem ShD.fr : ∀ {as : List Addr} {d : Nat} {vs : List (Key × V)} {ts : List Str}, ShD H CW NW as d vs ts → (∀ b ∈ as, H' b = H b) → ShD H' CW NW as d vs ts
  | _, _, _, _, .nil, _ => .nil
  | _, _, _, _, .cons h r, k => .cons (Sh.fr h k) (ShD.fr r k)
end
theorem Sh.same {as : List Addr} {d : Nat} {v : V} {t : Str} (h : Sh H CW NW as d v t) (s : Same H H') (k : ∀ b ∈ as, H b ≠ none) : Sh H' CW NW as d v t := h.fr fun b hb => by
  cases e : H b with
  | none => exact absurd e (k b hb)
  | some o => rw [s b o e]
theorem ShA.same {as : List Addr} {d : Nat} {vs : List V} {ts : List Str} (h : ShA H CW NW as d vs ts) (s : Same H H') (k : ∀ b ∈ as, H b ≠ none) : ShA H' CW NW as d vs ts := h.fr fun b hb => by
  cases e : H b with
  | none => exact absurd e (k b hb)
  | some o => rw [s b o e]
theorem ShA.len : ∀ {as : List Addr} {d : Nat} {vs : List V} {ts : List Str}, ShA H CW NW as d vs ts → ts.length = vs.length
  | _, _, _, _, .nil => rfl
  | _, _, _, _, .cons _ r => by rw [List.length_cons, List.length_cons, r.len]
theorem ShA.get : ∀ {as : List Addr} {d : Nat} {vs : List V} {ts : List Str} {i : Nat} {v : V}, ShA H CW NW as d vs ts → vs[i]? = some v → ∃ t, t ∈ ts ∧ Sh H CW NW as d v t
  | _, _, _, _, i, _, .nil, e => by simp at e
  | _, _, _, _, 0, _, .cons (t := t) h r, e => by
    have e' := Option.some.inj e
    subst e'
    exact ⟨t, List.mem_cons_self .., h⟩
  | _, _, _, _, i + 1, _, .cons h r, e => by
    obtain ⟨t, m, q⟩ := ShA.get r (show _ = some _ from e)
    exact ⟨t, List.mem_cons_of_mem _ m, q⟩
theorem ShA.app : ∀ {as : List Addr} {d : Nat} {vs ws : List V} {ts us : List Str}, ShA H CW NW as d vs ts → ShA H CW NW as d ws us → ShA H CW NW as d (vs ++ ws) (ts ++ us)
  | _, _, _, _, _, _, .nil, q => q
  | _, _, _, _, _, _, .cons h r, q => .cons h (r.app q)
end
end KaG
set_option maxRecDepth 100000
set_option maxHeartbeats 2000000
namespace KaG
open PySem PySem.Spec PyProof.Rows L2
theorem piled_le {n : Nat} : ∀ {ts : List Str}, (∀ t ∈ ts, t.length ≤ n) → piled ts ≤ ts.length * (n + 2)
  | [], _ => by rw [piled_nil]; exact Nat.zero_le _
  | t :: r, h => by
    have h1 := h t (List.mem_cons_self ..)
    have h2 := piled_le (ts := r) fun u hu => h u (List.mem_cons_of_mem _ hu)
    rw [piled_cons, List.length_cons, Nat.succ_mul]
    omega
theorem listText_le (ts : List Str) : (listText ts).length ≤ piled ts + 2 := by
  cases ts with
  | nil => rw [listText_nil]; decide
  | cons t r =>
    have h := textFrom_length_pos r 1 (("[" : Str) ++ (if (0 : Nat) > 0 then ", " else "" : String) ++ t) (Nat.succ_pos 0)
    have e : ((("[" : Str) ++ (if (0 : Nat) > 0 then ", " else "" : String) ++ t)).length = 1 + t.length := by
      rw [strLen_append, strLen_append]; rfl
    have hX : (listText (t :: r)).length = (textFrom 0 "[" (t :: r)).length + 1 := by
      show (textFrom 0 "[" (t :: r) ++ "]").length = _
      rw [strLen_append]; rfl
    have hY : (textFrom 0 "[" (t :: r)).length = (textFrom 1 (("[" : Str) ++ (if (0 : Nat) > 0 then ", " else "" : String) ++ t) r).length := rfl
    rw [hX, hY, h, e, piled_cons]; omega
theorem join_le (ts : List Str) : (Str.join ", " ts).length ≤ piled ts := by
  by_cases h : ts = []
  · subst h; exact Nat.zero_le _
  · have := join_length_add ts h
    omega
theorem tupleText_le (ts : List Str) : (tupleText ts).length ≤ piled ts + 3 := by
  unfold tupleText
  rw [strLen_append, strLen_append]
  have e1 : ((("(" : String) : Str)).length = 1 := rfl
  have e3 : (((if ts.length == 1 then ",)" else ")" : String) : Str)).length ≤ 2 := by split <;> decide
  have := join_le ts
  omega
/-- the bag at bg: four items, the last one the list of what is drawn from -/
def Bag (H : Hp) (bg : Addr) : Prop := ∃ (c st i : Int) (b : Addr) (ns : List Int), H bg = some (.lst [.int c, .int st, .int i, .ref b]) ∧ H b = some (.lst (ns.map V.int)) ∧ 0 ≤ c ∧ 0 ≤ i ∧ ns.length ≤ 100
/-- b is the bag's own list of cells -/
def Inn (H : Hp) (bg b : Addr) : Prop := ∃ c st i : Int, H bg = some (.lst [.int c, .int st, .int i, .ref b])
structure Ext (bg : Addr) (H H' : Hp) : Prop where
  keep : ∀ b o, b ≠ bg → H b = some o → H' b = some o
  bag : Bag H' bg
  inn : ∀ b, Inn H bg b → Inn H' bg b
theorem Bag.there {H : Hp} {bg : Addr} (h : Bag H bg) : H bg ≠ none := by
  obtain ⟨c, st, i, b, ns, h1, _⟩ := h
  rw [h1]
  exact fun z => nomatch z
theorem Bag.same {H H' : Hp} {bg : Addr} (h : Bag H bg) (s : Same H H') : Bag H' bg := by
  obtain ⟨c, st, i, b, ns, h1, h2, h3⟩ := h
  exact ⟨c, st, i, b, ns, s _ _ h1, s _ _ h2, h3⟩
theorem same_upd {H : Hp} {p : Addr} {o : HO} (h : H p = none) : Same H (upd H p o) := fun b u e => by
  rw [upd_ne (ne_of_none e h)]
  exact e
theorem Same.refl' {H : Hp} : Same H H := fun _ _ e => e
theorem Same.tr {H H1 H2 : Hp} (s : Same H H1) (t : Same H1 H2) : Same H H2 := fun b o e => t b o (s b o e)
theorem Ext.of_same {bg : Addr} {H H' : Hp} (h : Bag H bg) (s : Same H H') : Ext bg H H' := ⟨fun b o _ e => s b o e, h.same s, fun _ ⟨c, st, i, e⟩ => ⟨c, st, i, s _ _ e⟩⟩
theorem Ext.trans {bg : Addr} {H H1 H2 : Hp} (a : Ext bg H H1) (b : Ext bg H1 H2) : Ext bg H H2 := ⟨fun x o n e => b.keep x o n (a.keep x o n e), b.bag, fun x h => b.inn x (a.inn x h)⟩
theorem Ext.new {bg p : Addr} {H H1 : Hp} {o : HO} (a : Ext bg H H1) (h : H1 p = none) : Ext bg H (upd H1 p o) := a.trans (Ext.of_same a.bag (same_upd h))
theorem Ext.stay {bg : Addr} {H H' : Hp} (a : Ext bg H H') {b : Addr} (h : H b ≠ none) : H' b ≠ none := by
  by_cases e : b = bg
  · rw [e]; exact a.bag.there
  · cases q : H b with
    | none => exact absurd q h
    | some o => rw [a.keep b o e q]; exact fun z => nomatch z
/-- as are new between H and H' -/
def Nw (H H' : Hp) (as : List Addr) : Prop := ∀ b ∈ as, H b = none ∧ H' b ≠ none
section
variable {CW : Addr} {NW : Str} {bg : Addr} {H H1 H2 : Hp}
theorem Sh.ext {as : List Addr} {d : Nat} {v : V} {t : Str} (h : Sh H1 CW NW as d v t) (hb : bg ∉ as) (s : Ext bg H1 H2) (k : ∀ b ∈ as, H1 b ≠ none) : Sh H2 CW NW as d v t := h.fr fun b m => by
  cases e : H1 b with
  | none => exact absurd e (k b m)
  | some o => exact s.keep b o (fun z => hb (z ▸ m)) e
theorem ShA.ext {as : List Addr} {d : Nat} {vs : List V} {ts : List Str} (h : ShA H1 CW NW as d vs ts) (hb : bg ∉ as) (s : Ext bg H1 H2) (k : ∀ b ∈ as, H1 b ≠ none) : ShA H2 CW NW as d vs ts := h.fr fun b m => by
  cases e : H1 b with
  | none => exact absurd e (k b m)
  | some o => exact s.keep b o (fun z => hb (z ▸ m)) e
theorem Nw.out {as : List Addr} (n : Nw H H1 as) {b : Addr} (h : H b ≠ none) : b ∉ as := fun m => h (n b m).1
theorem Nw.ext {as : List Addr} (n : Nw H H1 as) (s : Ext bg H1 H2) : Nw H H2 as := fun b m => ⟨(n b m).1, s.stay (n b m).2⟩
theorem Nw.before {as : List Addr} (n : Nw H1 H2 as) (s : Ext bg H H1) : Nw H H2 as := fun b m => ⟨by
  cases e : H b with
  | none => rfl
  | some o => exact absurd (n b m).1 (s.stay (by rw [e]; exact fun z => nomatch z)), (n b m).2⟩
end
end KaG
set_option maxRecDepth 100000
set_option maxHeartbeats 2000000
namespace KaG
open PySem PySem.Spec PyProof.Rows L2
/-- the read of xs[i] += e -/
def rGetL (K : PySem.W.Frag) : V → V → Hp → VK → Prop := fun o i H Q => ∃ p xs k v, o = .ref p ∧ i = .int k ∧ SqL K H p xs ∧ 0 ≤ k ∧ k < 1000 ∧ xs[k.toNat]? = some v ∧ Q v H
theorem get_listP {X : Cx} : PGet X (rGetL X.K) := by
  intro pins s σ H o i ov iv Q I ro ri h
  obtain ⟨p, xs, k, v, rfl, rfl, hq, h0, h1, e, q⟩ := h
  cases ro
  obtain ⟨t, rfl⟩ := ri
  obtain ⟨its, r, pl, hz⟩ := I.list hq
  obtain ⟨w, ew, rw'⟩ := r.get e
  exact wpAny_getItem_list pl.isList h0 (by omega) (by simpa using ew) ⟨v, H, I, rw', q⟩
def top (i : Nat) : Stmt := PySem.Challenge.pw_goneyet_k55_threaded_and_well_timed.main.body.getD i (.Pass ⟨0, 0, 0, 0⟩)
abbrev sBag : Stmt := top 19
abbrev sTake : Stmt := top 20
abbrev sSome : Stmt := top 21
abbrev sAlike : Stmt := top 22
abbrev sMixed : Stmt := top 23
abbrev sNamed : Stmt := top 24
abbrev sNumbers : Stmt := top 25
abbrev sNeed : Stmt := top 26
abbrev sGround : Stmt := top 27
abbrev sAny : Stmt := top 28
abbrev sPlanted : Stmt := top 29
abbrev sMore : Stmt := top 30
abbrev sThreaded : Stmt := top 31
abbrev sRulebook : Stmt := top 32
theorem scTake : FnScope ["bag", "upto", "cell", "stirred", "value", "begin", "second"] ["bag", "upto"] (defScope sTake) := ⟨rfl, rfl, rfl, by decide +kernel, rfl, by decide +kernel, by decide +kernel⟩
theorem scSome : FnScope ["bag", "things"] ["bag", "things"] (defScope sSome) := ⟨rfl, rfl, rfl, by decide +kernel, rfl, by decide +kernel, by decide +kernel⟩
theorem scAlike : FnScope ["found", "due"] ["found", "due"] (defScope sAlike) := ⟨rfl, rfl, rfl, by decide +kernel, rfl, by decide +kernel, by decide +kernel⟩
theorem seqGo {a b : TS} {D : Ends} {σ : L2.St} {H : Hp} (R : TS → Ends → Prop) (hr : R b D) (hm : R b D → a { D with nx := fun σ' H' => b D σ' H' } σ H) : tSeq a b D σ H := hm hr
theorem bag_ne {H : Hp} {bg b : Addr} {c st i : Int} {ns : List Int} (e1 : H bg = some (.lst [.int c, .int st, .int i, .ref b])) (e2 : H b = some (.lst (ns.map V.int))) : b ≠ bg := by
  intro z
  rw [z, e1] at e2
  have e3 := HO.lst.inj (Option.some.inj e2)
  match ns, e3 with
  | [], e3 => simp at e3
  | [_], e3 => simp at e3
  | [_, _], e3 => simp at e3
  | [_, _, _], e3 => simp at e3
  | _ :: _ :: _ :: _ :: _, e3 => simp at e3
theorem Ext.put {H H1 : Hp} {bg b : Addr} {c st i c' st' i' : Int} {ns : List Int} (E : Ext bg H H1) (e1 : H1 bg = some (.lst [.int c, .int st, .int i, .ref b])) (e2 : H1 b = some (.lst (ns.map V.int))) (c0 : 0 ≤ c') (i0 : 0 ≤ i') (nl : ns.length ≤ 100) :
    Ext bg H (upd H1 bg (.lst [.int c', .int st', .int i', .ref b])) :=
  ⟨fun x o hx e => by rw [upd_ne hx]; exact E.keep x o hx e, ⟨c', st', i', b, ns, upd_same, by rw [upd_ne (bag_ne e1 e2)]; exact e2, c0, i0, nl⟩, fun x h => by
    obtain ⟨c2, s2, i2, z⟩ := E.inn x h
    rw [e1] at z
    cases z
    exact ⟨c', st', i', upd_same⟩⟩
theorem cut_ints (ns : List Int) (lo hi : Option Int) : ∃ ms : List Int, cutV (ns.map V.int) lo hi = ms.map V.int ∧ ms.length ≤ ns.length := by
  refine ⟨(ns.drop (HT.sIx (ns.map V.int).length 0 lo)).take (HT.sIx (ns.map V.int).length (ns.map V.int).length hi - HT.sIx (ns.map V.int).length 0 lo), ?_, ?_⟩
  · unfold cutV
    rw [← List.map_drop, ← List.map_take]
  · rw [List.length_take, List.length_drop]
    omega
theorem head_int : ∀ ms : List Int, ∃ z, atI (ms.map V.int ++ [V.int 0]) 0 = some (V.int z)
  | [] => ⟨0, rfl⟩
  | z :: _ => ⟨z, atI_nat (j := 0) rfl⟩
structure TxtB (mg : Str → Option Value) : Prop where
  abs : mg "abs" = none
  len : mg "len" = none
  int : mg "int" = none
  repr : mg "repr" = none
  isin : mg "isinstance" = none
  range : mg "range" = none
  list : mg "list" = none
  verr : mg "ValueError" = none
section
variable {P : Program} {w : World} {K : PySem.W.Frag} {mg : Str → Option Value} {base : Heap}
def spTake : Sp := fun vs H Q _ => ∃ (bg : Addr) (n : Int), vs = [.ref bg, .int n] ∧ Bag H bg ∧ 0 < n ∧ n ≤ 1000000 ∧ ∀ (z : Int) (H' : Hp), Ext bg H H' → 0 ≤ z → z < n → Q (.int z) H'
theorem ok_take {f : Addr} {fd : FuncData} (F : Fun K "_law_take" "_law_take" sTake f fd) (T : TxtB mg) : FnOk P w K mg base CX0 1 f fd ["bag", "upto"] spTake := by
  refine F.ok scTake (fun vs H Q E h => ?_) (fun cdv A outer s H vs Q E hr h => ?_)
  · obtain ⟨bg, n, rfl, _⟩ := h
    rfl
  · obtain ⟨bg, n, rfl, hB, h0, h1, k⟩ := h
    refine ⟨_, pss_cons (ps_if (pt_cmpR op_eq (pe_ix ix_list (pv 0) pe_int (fun _ _ => rfl)) pe_int (nomark _))
        (pss_cons (ps_set (i := 2) scTake.nd rfl (Or.inl rfl) (pe_ix ix_list (pe_op op_cat (pe_slice sl_list (pe_ix ix_list (pv 0) pe_int (fun _ _ => rfl)) (po_some (pe_ix ix_list (pv 0) pe_int (fun _ _ => rfl))) po_none) (pe_lst (pa_cons pe_int pa_nil))) pe_int (fun _ _ => rfl)))
        (pss_cons (ps_augS (pv 0) pe_int get_listP pe_int ip_add set_list)
        (pss_cons (ps_if (pt_cmpR op_ge (pv 2) (pe_op op_pow pe_int pe_int) (nomark _)) (pss_one (ps_asg (pv 2) (pg_sub (pv 0) pe_int set_list))) pss_nil)
        (pss_cons (ps_set (i := 3) scTake.nd rfl (Or.inl rfl) (pe_op op_add (pe_op op_add (pe_op op_mul (pe_ix ix_list (pv 0) pe_int (fun _ _ => rfl)) pe_int) (pe_op op_mod (pe_callTy call_int1 (by rfl) T.int (by decide +kernel) (pa_cons (pv 2) pa_nil)) pe_int)) (pe_op op_mul pe_int (pe_ix ix_list (pv 0) pe_int (fun _ _ => rfl)))))
        (pss_one (ps_asg (pe_op op_mod (pe_callTy call_int1 (by rfl) T.int (by decide +kernel) (pa_cons (pv 3) pa_nil)) pe_int) (pg_sub (pv 0) pe_int set_list))))))) pss_nil)
      (pss_cons (ps_if (pt_cmpR op_gt (pe_ix ix_list (pv 0) pe_int (fun _ _ => rfl)) pe_int (nomark _))
        (pss_cons (ps_set (i := 4) scTake.nd rfl (Or.inl rfl) (pe_op op_mod (pe_callTy call_int1 (by rfl) T.int (by decide +kernel) (pa_cons (pe_ix ix_list (pv 0) pe_int (fun _ _ => rfl)) pa_nil)) (pv 1)))
        (pss_cons (ps_asg (pe_op op_fdivN (pe_callTy call_int1 (by rfl) T.int (by decide +kernel) (pa_cons (pe_ix ix_list (pv 0) pe_int (fun _ _ => rfl)) pa_nil)) (pv 1)) (pg_sub (pv 0) pe_int set_list))
        (pss_one (ps_ret (pv 4))))) pss_nil)
      (pss_cons (ps_set (i := 5) scTake.nd rfl (Or.inl rfl) (pe_op op_mod (pe_callTy call_int1 (by rfl) T.int (by decide +kernel) (pa_cons (pe_op op_mul (pe_op op_add (pe_ix ix_list (pv 0) pe_int (fun _ _ => rfl)) pe_int) pe_int) pa_nil)) pe_int))
      (pss_cons (ps_set (i := 6) scTake.nd rfl (Or.inl rfl) (pe_op op_mod (pe_callTy call_int1 (by rfl) T.int (by decide +kernel) (pa_cons (pe_op op_mul (pe_op op_mod (pe_callTy call_int1 (by rfl) T.int (by decide +kernel) (pa_cons (pe_op op_mul (pv 5) (pv 5)) pa_nil)) pe_int) pe_int) pa_nil)) pe_int))
      (pss_one (ps_ret (pe_op op_mod (pe_callTy call_int1 (by rfl) T.int (by decide +kernel) (pa_cons (pe_op op_fdivN (pv 6) pe_int) pa_nil)) (pv 1))))))), ?_⟩
    refine seqGo (fun b D => ∀ (x2 x3 : Option V) (H' : Hp), Ext bg H H' → b D [some (.ref bg), some (.int n), x2, x3, none, none, none] H') (fun x2 x3 H1 E1 => ?rest) (fun rest => ?_)
    case rest =>
      obtain ⟨c, st, i, b, ns, e1, e2, c0, i0, nl⟩ := E1.bag
      refine ⟨_, rfl, _, _, _, _, rfl, rfl, SqL.of e1, rfl, _, _, rfl, rfl, _, rfl, ite2 (fun hc => ?_) fun hc => ?_⟩
      · refine ⟨_, rfl, _, _, _, _, rfl, rfl, SqL.of e1, rfl, .inl ⟨_, rfl, _, rfl, _, _, rfl, rfl, h0, ?_⟩⟩
        refine ⟨_, rfl, _, _, _, _, rfl, rfl, SqL.of e1, rfl, .inl ⟨_, rfl, _, rfl, _, _, rfl, rfl, ⟨by omega, by omega⟩, _, rfl, ⟨_, _, _, 0, rfl, rfl, e1, rfl, ?_⟩⟩⟩
        refine ⟨_, rfl, ?_⟩
        exact k _ _ (E1.put e1 e2 (Int.fdiv_nonneg c0 (Int.le_of_lt h0)) i0 nl) (Int.emod_nonneg _ (by omega)) (Int.emod_lt_of_pos _ h0)
      · refine ⟨_, rfl, _, _, _, _, rfl, rfl, SqL.of e1, rfl, _, _, rfl, rfl, _, _, rfl, rfl, .inr ⟨by decide, by decide⟩, .inl ⟨_, rfl, _, _, rfl, rfl, by show (0 : Int) < 1000000007; decide, ?_⟩⟩
        refine ⟨_, rfl, _, rfl, _, _, rfl, rfl, .inl ⟨?_, ?_⟩, .inl ⟨_, rfl, _, _, rfl, rfl, by show (0 : Int) < 998244353; decide, _, _, rfl, rfl, .inr ⟨by decide, by decide⟩, .inl ⟨_, rfl, _, _, rfl, rfl, by show (0 : Int) < 998244353; decide, ?_⟩⟩⟩
        · have := Int.emod_nonneg ((st + 1) * 39373) (show (1000000007 : Int) ≠ 0 by decide); omega
        · have := Int.emod_lt_of_pos ((st + 1) * 39373) (show (0 : Int) < 1000000007 by decide); omega
        · refine ⟨_, rfl, _, _, rfl, rfl, ⟨by decide, by decide⟩, .inl ⟨_, rfl, _, rfl, _, _, rfl, rfl, h0, ?_⟩⟩
          exact k _ _ E1 (Int.emod_nonneg _ (by omega)) (Int.emod_lt_of_pos _ h0)
    obtain ⟨c, st, i, b, ns, e1, e2, c0, i0, nl⟩ := hB
    refine ⟨_, rfl, _, _, _, _, rfl, rfl, SqL.of e1, rfl, rfl, _, rfl, ite2 (fun hc => ?_) fun hc => ?_⟩
    · refine ⟨_, rfl, _, _, _, _, rfl, rfl, SqL.of e1, rfl, ?_⟩
      refine ⟨_, rfl, _, _, _, _, rfl, rfl, SqL.of e1, rfl, _, rfl, _, _, rfl, SqL.of e2, fun p1 hp1 => ⟨by show 1 ≤ sizeLine; decide, fun p2 hp2 => ?_⟩⟩
      obtain ⟨ms, em, hm⟩ := cut_ints ns (some i) none
      rw [em]
      have n21 : p1 ≠ p2 := fun z => by
        rw [← z, em, upd_same] at hp2
        cases hp2
      have s1 : Same H (upd H p1 (.lst (ms.map V.int))) := same_upd hp1
      rw [em] at hp2
      have s2 : Same H (upd (upd H p1 (.lst (ms.map V.int))) p2 (.lst [.int 0])) := KaG.Same.tr s1 (same_upd hp2)
      refine ⟨_, _, _, _, rfl, rfl, by rw [upd_ne n21, upd_same], upd_same, by rw [List.length_map]; exact Nat.le_of_lt (small1000 (by simp only [List.length_cons, List.length_nil]; omega)), fun p3 hp3 => ?_⟩
      obtain ⟨z, hz⟩ := head_int ms
      refine ⟨_, _, _, _, rfl, rfl, SqL.of upd_same, hz, ?_⟩
      have s3 := KaG.Same.tr s2 (same_upd (o := .lst (ms.map V.int ++ [V.int 0])) hp3)
      have B3 := Bag.same ⟨c, st, i, b, ns, e1, e2, c0, i0, nl⟩ s3
      have E3 := Ext.of_same ⟨c, st, i, b, ns, e1, e2, c0, i0, nl⟩ s3
      have f1 := s3 _ _ e1
      have f2 := s3 _ _ e2
      generalize upd (upd (upd H p1 (.lst (ms.map V.int))) p2 (.lst [.int 0])) p3 (.lst (ms.map V.int ++ [V.int 0])) = H3 at *
      refine ⟨_, rfl, _, _, _, _, rfl, rfl, SqL.of f1, by decide, by decide, rfl, _, _, rfl, rfl, ⟨_, _, _, 2, rfl, rfl, f1, rfl, ?_⟩⟩
      have E4 := E3.put (c' := c) (st' := st) (i' := i + 1) f1 f2 c0 (by omega) nl
      have g1 : upd H3 bg (.lst [.int c, .int st, .int (i + 1), .ref b]) bg = some (.lst [.int c, .int st, .int (i + 1), .ref b]) := upd_same
      have g2 : upd H3 bg (.lst [.int c, .int st, .int (i + 1), .ref b]) b = some (.lst (ns.map V.int)) := by rw [upd_ne (bag_ne e1 e2)]; exact f2
      dsimp only
      refine seqGo (fun b' D => ∀ (c' : Int) (H' : Hp), 0 ≤ c' → Ext bg H H' → H' bg = some (.lst [.int c', .int st, .int (i + 1), .ref b]) → H' b = some (.lst (ns.map V.int)) →
          b' D [some (.ref bg), some (.int n), some (.int z), none, none, none, none] H') (fun c' H5 c0' E5 x1 x2 => ?_) (fun rest2 => ?_)
      · refine ⟨_, rfl, _, _, _, _, rfl, rfl, SqL.of x1, rfl, _, _, rfl, rfl, .inr ⟨by decide, by decide⟩, _, rfl, .inl ⟨_, rfl, _, _, rfl, rfl, by show (0 : Int) < 2147483647; decide, _, _, rfl, rfl, ?_⟩⟩
        refine ⟨_, rfl, _, _, _, _, rfl, rfl, SqL.of x1, rfl, _, _, rfl, rfl, .inl ⟨by decide, by decide⟩, _, _, rfl, rfl, ?_⟩
        refine ⟨_, rfl, .inl ⟨_, rfl, _, _, rfl, rfl, by show (0 : Int) < 2147483647; decide, _, rfl, _, _, _, 1, rfl, rfl, x1, rfl, ?_⟩⟩
        exact rest _ _ _ (E5.put x1 x2 c0' (by omega) nl)
      · refine ⟨_, rfl, _, _, rfl, rfl, ⟨by decide, by decide, by decide⟩, _, _, rfl, rfl, _, rfl, ite2 (fun hg => ?_) fun hg => ?_⟩
        · have hg' : (10 : Int) ^ (18 : Int).toNat ≤ z := of_decide_eq_true hg
          have z0 : 0 ≤ z := Int.le_trans (by decide) hg'
          exact ⟨_, rfl, _, rfl, _, _, _, 0, rfl, rfl, g1, rfl, rest2 z _ z0 (E4.put g1 g2 z0 (by omega) nl) upd_same (by rw [upd_ne (bag_ne e1 e2)]; exact g2)⟩
        · exact rest2 c _ c0 E4 g1 g2
    · exact rest _ _ H (Ext.of_same ⟨c, st, i, b, ns, e1, e2, c0, i0, nl⟩ Same.refl')
end
end KaG
set_option maxRecDepth 100000
set_option maxHeartbeats 2000000
namespace KaG
open PySem PySem.Spec PyProof.Rows L2
section
variable {P : Program} {w : World} {K : PySem.W.Frag} {mg : Str → Option Value} {base : Heap}
structure Ct (P : Program) (w : World) (K : PySem.W.Frag) (mg : Str → Option Value) (base : Heap) (x : Str) (k : Nat) (ps : List Str) (sp : Sp) (f : Addr) (fd : FuncData) : Prop where
  G : FnOk P w K mg base CX0 k f fd ps sp
  m : mg x = some (.ref f)
  kp : PySem.W.keepIn K (.ref f) = true
  b : Binds K fd ps []
def spBag (K : PySem.W.Frag) : Sp := fun vs H Q _ => ∃ (a : Addr) (ns : List Int), vs = [.ref a] ∧ SqL K H a (ns.map V.int) ∧ ns.length ≤ 63 ∧ ∀ (bg : Addr) (H' : Hp), Same H H' → H bg = none → Bag H' bg → Q (.ref bg) H'
theorem scBag2 : FnScope ["script", "cell"] ["script"] (defScope sBag) := ⟨rfl, rfl, rfl, by decide +kernel, rfl, by decide +kernel, by decide +kernel⟩
theorem ok_bag {f : Addr} {fd : FuncData} (F : Fun K "_law_bag" "_law_bag" sBag f fd) (T : TxtB mg) : FnOk P w K mg base CX0 1 f fd ["script"] (spBag K) := by
  refine F.ok scBag2 (fun vs H Q E h => ?_) (fun cdv A outer s H vs Q E hr h => ?_)
  · obtain ⟨a, ns, rfl, _⟩ := h
    rfl
  · obtain ⟨a, ns, rfl, hS, hn, k⟩ := h
    refine ⟨_, pss_one (ps_ret (pe_lst (pa_cons pe_int (pa_cons pe_int (pa_cons pe_int (pa_cons (pe_lc (own := [("cell", 1)]) (g := gName 1) (by rfl) scBag2.nd (pi_list (pe_slice sl_list (pv 0) po_none (po_some pe_int)))
      (blkOk_by (own := [("cell", 1)]) (N := ["script", "cell"]) (sc := defScope sBag) (by decide +kernel)) (fun _ _ _ _ _ => pg_name (i := 1) scBag2.nd rfl (Or.inl rfl)) (fun _ _ _ _ _ => pts_nil)
      (fun _ _ _ _ _ => pe_callB call_abs (by rfl) T.abs (by decide +kernel) (pa_cons (pv 1) pa_nil))) pa_nil)))))), ?_⟩
    refine ⟨_, rfl, _, rfl, _, _, rfl, hS, fun p hp => ?_⟩
    obtain ⟨ms, em, hm⟩ := cut_ints ns none (some 63)
    rw [em]
    refine ⟨p, rfl, ?_⟩
    refine ⟨⟨_, SqL.of upd_same⟩, fun D hD => lc_list (K := K) (a := p) (xs := ms.map V.int) (fun i H' => ∃ qs : List Int, qs.length = i ∧ H' = upd (upd H p (.lst (ms.map V.int))) D (.lst (qs.map V.int))) ⟨[], rfl, rfl⟩ ?_ ?_ ?_⟩
    · rintro i H' _ ⟨qs, _, rfl⟩
      refine SqL.of ?_
      rw [upd_ne, upd_same]
      intro z
      rw [← z, upd_same] at hD
      cases hD
    · rintro i x H' hx ⟨qs, hq, rfl⟩
      have hi : i < ms.length := by
        have := (List.getElem?_eq_some_iff.mp hx).1
        rwa [List.length_map] at this
      rw [List.getElem?_map] at hx
      obtain ⟨z, hz, rfl⟩ := Option.map_eq_some_iff.mp hx
      refine ⟨rfl, ?_⟩
      unfold tYes
      dsimp only
      rw [if_pos rfl]
      refine ⟨_, rfl, _, rfl, _, upd_same, ?_, qs ++ [if z < 0 then -z else z], by rw [List.length_append, hq]; rfl, ?_⟩
      · rw [List.length_map]
        exact small1000 (by omega)
      · rw [upd_upd, List.map_append]
        rfl
    · rintro H' ⟨qs, hq, rfl⟩
      refine ⟨by show 4 ≤ sizeLine; decide, fun bg hb => ?_⟩
      have s1 : Same H (upd H p (.lst (ms.map V.int))) := same_upd hp
      have s2 : Same H (upd (upd H p (.lst (ms.map V.int))) D (.lst (qs.map V.int))) := KaG.Same.tr s1 (same_upd hD)
      have s3 := KaG.Same.tr s2 (same_upd (o := .lst [.int 0, .int 1234567891, .int 0, .ref D]) hb)
      refine k bg _ s3 ?_ ⟨0, 1234567891, 0, D, qs, upd_same, ?_, by decide, by decide, by rw [hq, List.length_map]; omega⟩
      · cases e : H bg with
        | none => rfl
        | some o => rw [s2 _ _ e] at hb; cases hb
      · rw [upd_ne (fun z => by rw [← z, upd_same] at hb; cases hb), upd_same]
end
end KaG
set_option maxRecDepth 100000
set_option maxHeartbeats 2000000
namespace KaG
open PySem PySem.Spec PyProof.Rows L2
/-- over what is a list, or a tuple -/
theorem pi_or {X : Cx} {tg iter : Expr} {w1 w2 : TI} (h1 : PI X tg iter w1) (h2 : PI X tg iter w2) : PI X tg iter (fun σ H R => w1 σ H R ∨ w2 σ H R) :=
  ⟨fun pins s σ H R I h => h.elim (h1.run pins s σ H R I) (h2.run pins s σ H R I)⟩
section
variable {P : Program} {w : World} {K : PySem.W.Frag} {mg : Str → Option Value} {base : Heap}
theorem scMixed : FnScope ["bag", "things", "found", "thing"] ["bag", "things"] (defScope sMixed) := ⟨rfl, rfl, rfl, by decide +kernel, rfl, by decide +kernel, by decide +kernel⟩
/-- a list or tuple of things at l -/
def Sq2 (H : Hp) (l : Addr) (xs : List V) : Prop := H l = some (.lst xs) ∨ H l = some (.tup xs)
theorem Sq2.ext {H H' : Hp} {bg l : Addr} {xs : List V} (h : Sq2 H l xs) (n : l ≠ bg) (E : Ext bg H H') : Sq2 H' l xs := h.imp (E.keep l _ n) (E.keep l _ n)
/-- a new list of the same things, in a drawn order -/
def spMixed : Sp := fun vs H Q _ => ∃ (bg l : Addr) (xs : List V), vs = [.ref bg, .ref l] ∧ Bag H bg ∧ l ≠ bg ∧ Sq2 H l xs ∧ xs.length ≤ 900 ∧ ∀ (p : Addr) (ys : List V) (H' : Hp), Ext bg H H' → H p = none → H' p = some (.lst ys) → ys.Perm xs → Q (.ref p) H'
theorem put_perm' {α : Type} (l : List α) (i : Nat) (y : α) : (l.take i ++ [y] ++ l.drop i).Perm (l ++ [y]) := by
  have h1 : (l.take i ++ [y] ++ l.drop i).Perm (l.take i ++ (l.drop i ++ [y])) := by
    rw [List.append_assoc]
    exact List.Perm.append_left _ List.perm_append_comm
  rwa [← List.append_assoc, List.take_append_drop] at h1
theorem Ext.write {bg p : Addr} {H H1 : Hp} {o : HO} (hb : Bag H bg) (E : Ext bg H H1) (h : H p = none) : Ext bg H (upd H1 p o) := by
  have pb : p ≠ bg := fun z => hb.there (z ▸ h)
  obtain ⟨c, st, i, b, ns, e1, e2, e3⟩ := id hb
  have ib : Inn H bg b := ⟨c, st, i, e1⟩
  have pn : p ≠ b := fun z => by rw [z, e2] at h; cases h
  obtain ⟨c2, s2, i2, f1⟩ := E.inn b ib
  obtain ⟨c1, st1, i1, b1, ns1, g1, g2, g3⟩ := E.bag
  rw [f1] at g1
  cases g1
  refine ⟨fun x u n e => ?_, ⟨_, _, _, b, ns1, by rw [upd_ne pb.symm]; exact f1, by rw [upd_ne pn.symm]; exact g2, g3⟩, fun x hx => ?_⟩
  · rw [upd_ne (ne_of_none e h)]
    exact E.keep x u n e
  · obtain ⟨c3, s3, i3, q⟩ := E.inn x hx
    exact ⟨c3, s3, i3, by rw [upd_ne pb.symm]; exact q⟩
theorem ok_mixed {f fT : Addr} {fd fdT : FuncData} (F : Fun K "_law_mixed" "_law_mixed" sMixed f fd) (T : TxtB mg) (C : Ct P w K mg base "_law_take" 1 ["bag", "upto"] spTake fT fdT) : FnOk P w K mg base CX0 2 f fd ["bag", "things"] spMixed := by
  refine F.ok scMixed (fun vs H Q E h => ?_) (fun cdv A outer s H vs Q E hr h => ?_)
  · obtain ⟨bg, l, xs, rfl, _⟩ := h
    rfl
  · obtain ⟨bg, l, xs, rfl, hB, hne, hl, hn, k⟩ := h
    refine ⟨_, (pss_cons (ps_set (i := 2) scMixed.nd rfl (Or.inl rfl) (pe_lst pa_nil))
      (pss_cons (ps_for PassesOwn.never rfl (pi_or (pi_list (pv 1)) (pi_tup (pv 1))) (pg_name (i := 3) scMixed.nd rfl (Or.inl rfl))
        (pss_one (ps_expr (pe_bm PySem.F.plainAttrs_list PySem.F.slot_list_insert PySem.F.type_list_insert mt_insert (pv 2)
          (pa_cons (pe_call C.G hr (by rfl) C.m C.kp C.b .nil pass0 (pa_cons (pv 0) (pa_cons (pe_op op_add (pe_callB call_len_seq (by rfl) T.len PySem.boot_len (pa_cons (pv 2) pa_nil)) pe_int) pa_nil))) (pa_cons (pv 3) pa_nil))))))
      (pss_one (ps_ret (pv 2))))), ?_⟩
    have sz2 : ∀ {m : Nat}, m ≤ 900 → m < sizeLine := fun h => small1000 (by omega)
    refine ⟨Nat.zero_le _, fun p np => ?_⟩
    have pl : p ≠ l := fun z => by
      rw [z] at np
      rcases hl with h | h <;> rw [h] at np <;> cases np
    let Pv : Nat → L2.St → Hp → Prop := fun i σ' H' => (∃ x3 : Option V, σ' = [some (.ref bg), some (.ref l), some (.ref p), x3]) ∧ Ext bg H H' ∧ ∃ ys, H' p = some (.lst ys) ∧ ys.Perm (xs.take i)
    have E0 : Ext bg H (upd H p (.lst [])) := (Ext.of_same hB Same.refl').new np
    have h0 : Pv 0 [some (.ref bg), some (.ref l), some (.ref p), none] (upd H p (.lst [])) := ⟨⟨_, rfl⟩, E0, [], upd_same, by rw [List.take_zero]⟩
    rcases hl with hl | hl
    · refine .inl ⟨_, rfl, l, rfl, ⟨_, SqL.of (E0.keep l _ hne hl)⟩, for_list (K := K) (a := l) (xs := xs) Pv h0 ?_ ?_ ?_⟩
      · rintro i σ' H' _ ⟨_, E1, _⟩
        exact SqL.of (E1.keep l _ hne hl)
      · rintro i x σ' H' hx ⟨⟨x3, rfl⟩, E1, ys, ey, py⟩
        have hi : i < xs.length := (List.getElem?_eq_some_iff.mp hx).1
        have hy : ys.length = i := by
          rw [py.length_eq, List.length_take]
          omega
        refine ⟨_, rfl, .inl ⟨rfl, _, SqL.of ey⟩, _, rfl, _, rfl, p, ys, rfl, .inl (SqL.of ey), _, _, rfl, rfl, bg, _, rfl, E1.bag, by omega, by omega, fun z H2 E2 z0 z1 => ?_⟩
        have pb : p ≠ bg := fun w => hB.there (w ▸ np)
        refine ⟨_, rfl, p, ys, z, x, rfl, rfl, E2.keep p _ pb ey, sz2 (by omega), z0, by omega, ⟨_, rfl⟩, (E1.trans E2).write hB np, _, upd_same, ?_⟩
        refine (put_perm' ys z.toNat x).trans ?_
        have ex : xs.take (i + 1) = xs.take i ++ [x] := by rw [List.take_add_one, hx]; rfl
        rw [ex]
        exact List.Perm.append_right _ py
      · rintro σ' H' ⟨⟨x3, rfl⟩, E1, ys, ey, py⟩
        rw [List.take_length] at py
        exact ⟨_, rfl, k p ys H' E1 np ey py⟩
    · refine .inr ⟨_, rfl, l, rfl, ⟨_, SqT.of (E0.keep l _ hne hl)⟩, for_tup (K := K) (a := l) (xs := xs) Pv h0 ?_ ?_ ?_⟩
      · rintro i σ' H' _ ⟨_, E1, _⟩
        exact SqT.of (E1.keep l _ hne hl)
      · rintro i x σ' H' hx ⟨⟨x3, rfl⟩, E1, ys, ey, py⟩
        have hi : i < xs.length := (List.getElem?_eq_some_iff.mp hx).1
        have hy : ys.length = i := by
          rw [py.length_eq, List.length_take]
          omega
        refine ⟨_, rfl, .inl ⟨rfl, _, SqL.of ey⟩, _, rfl, _, rfl, p, ys, rfl, .inl (SqL.of ey), _, _, rfl, rfl, bg, _, rfl, E1.bag, by omega, by omega, fun z H2 E2 z0 z1 => ?_⟩
        have pb : p ≠ bg := fun w => hB.there (w ▸ np)
        refine ⟨_, rfl, p, ys, z, x, rfl, rfl, E2.keep p _ pb ey, sz2 (by omega), z0, by omega, ⟨_, rfl⟩, (E1.trans E2).write hB np, _, upd_same, ?_⟩
        refine (put_perm' ys z.toNat x).trans ?_
        have ex : xs.take (i + 1) = xs.take i ++ [x] := by rw [List.take_add_one, hx]; rfl
        rw [ex]
        exact List.Perm.append_right _ py
      · rintro σ' H' ⟨⟨x3, rfl⟩, E1, ys, ey, py⟩
        rw [List.take_length] at py
        exact ⟨_, rfl, k p ys H' E1 np ey py⟩
end
end KaG
set_option maxRecDepth 100000
set_option maxHeartbeats 2000000
namespace KaG
open PySem PySem.Spec PyProof.Rows L2
theorem newAt {bg : Addr} {H0 H : Hp} {l : Addr} (E : Ext bg H0 H) (h : H l = none) : H0 l = none := by
  cases e : H0 l with
  | none => rfl
  | some o => exact absurd h (E.stay (by rw [e]; exact fun z => nomatch z))
theorem perm_of_map {α β : Type} {f : α → β} {ys zs : List β} (h : ys.Perm zs) : ∀ l : List α, zs = l.map f → ∃ l' : List α, l'.Perm l ∧ ys = l'.map f := by
  induction h with
  | nil => intro l e; exact ⟨[], by rw [List.map_eq_nil_iff.mp e.symm], rfl⟩
  | cons x h ih =>
    intro l e
    cases l with
    | nil => cases e
    | cons a r =>
      rw [List.map_cons] at e
      obtain ⟨rfl, e2⟩ := List.cons.inj e
      obtain ⟨l', p, q⟩ := ih r e2
      exact ⟨a :: l', p.cons a, by rw [q, List.map_cons]⟩
  | swap x y l0 =>
    intro l e
    cases l with
    | nil => cases e
    | cons a r =>
      cases r with
      | nil => cases e
      | cons b r =>
        rw [List.map_cons, List.map_cons] at e
        obtain ⟨rfl, e2⟩ := List.cons.inj e
        obtain ⟨rfl, e3⟩ := List.cons.inj e2
        exact ⟨b :: a :: r, List.Perm.swap a b r, by rw [e3]; rfl⟩
  | trans h1 h2 i1 i2 =>
    intro l e
    obtain ⟨l2, p2, q2⟩ := i2 l e
    obtain ⟨l1, p1, q1⟩ := i1 l2 q2
    exact ⟨l1, p1.trans p2, q1⟩
theorem cut_to (xs : List V) (j : Int) (h0 : 0 ≤ j) : cutV xs none (some j) = xs.take j.toNat := by
  obtain ⟨k, rfl⟩ := Int.eq_ofNat_of_zero_le h0
  unfold cutV
  rw [HT.sIx_none, List.drop_zero, HT.sIx_nat, Nat.sub_zero, Int.toNat_natCast]
  by_cases h : k ≤ xs.length
  · rw [Nat.min_eq_left h]
  · rw [Nat.min_eq_right (by omega), List.take_of_length_le (Nat.le_refl _), List.take_of_length_le (by omega)]
def nmAll : List Str := ["a", "b", "c", "p", "q", "r", "ab", "ba", "zz", "abcdefgh", "row", "kind", "tell", "ever", "z"]
/-- names, ascending -/
structure Nms (ns : List Str) : Prop where
  up : sortedS ns = true
  nd : ns.Nodup
  of : ∀ n ∈ ns, n ∈ nmAll
section
variable {P : Program} {w : World} {K : PySem.W.Frag} {mg : Str → Option Value} {base : Heap}
theorem scNamed : FnScope ["bag", "many", "names"] ["bag", "many"] (defScope sNamed) := ⟨rfl, rfl, rfl, by decide +kernel, rfl, by decide +kernel, by decide +kernel⟩
structure TxtC (mg : Str → Option Value) : Prop where
  b : TxtB mg
  tup : mg "tuple" = none
  sor : mg "sorted" = none
  set : mg "set" = none
  dct : mg "dict" = none
def spNamed : Sp := fun vs H Q _ => ∃ (bg : Addr) (m : Int), vs = [.ref bg, .int m] ∧ Bag H bg ∧ 0 ≤ m ∧ m ≤ 15 ∧ ∀ (p : Addr) (ns : List Str) (H' : Hp), Ext bg H H' → H p = none → H' p = some (.tup (ns.map V.str)) → Nms ns → ns.length = m.toNat → Q (.ref p) H'
theorem ok_named {f fM : Addr} {fd fdM : FuncData} (F : Fun K "_law_named" "_law_named" sNamed f fd) (T : TxtC mg) (C : Ct P w K mg base "_law_mixed" 2 ["bag", "things"] spMixed fM fdM) : FnOk P w K mg base CX0 3 f fd ["bag", "many"] spNamed := by
  refine F.ok scNamed (fun vs H Q E h => ?_) (fun cdv A outer s H vs Q E hr h => ?_)
  · obtain ⟨bg, m, rfl, _⟩ := h
    rfl
  · obtain ⟨bg, m, rfl, hB, h0, h15, k⟩ := h
    refine ⟨_, (pss_cons (ps_set (i := 2) scNamed.nd rfl (Or.inl rfl) (pe_lst (pa_cons pe_str (pa_cons pe_str (pa_cons pe_str (pa_cons pe_str (pa_cons pe_str (pa_cons pe_str (pa_cons pe_str (pa_cons pe_str (pa_cons pe_str (pa_cons pe_str (pa_cons pe_str (pa_cons pe_str (pa_cons pe_str (pa_cons pe_str (pa_cons pe_str pa_nil)))))))))))))))))
      (pss_one (ps_ret (pe_callTy call_tuple_of (by rfl) T.tup (by decide +kernel) (pa_cons (pe_callB cr_sortedS (by rfl) T.sor (by decide +kernel)
        (pa_cons (pe_slice sl_list (pe_call C.G hr (by rfl) C.m C.kp C.b .nil pass0 (pa_cons (pv 0) (pa_cons (pv 2) pa_nil))) po_none (po_some (pv 1))) pa_nil)) pa_nil))))), ?_⟩
    have hl15 : nmAll.length = 15 := by decide
    refine ⟨Nat.le_of_lt (small1000 (by decide)), fun p np => ?_⟩
    have E0 : Ext bg H (upd H p (.lst (nmAll.map V.str))) := (Ext.of_same hB Same.refl').new np
    have pb : p ≠ bg := fun w => hB.there (w ▸ np)
    refine ⟨_, rfl, _, rfl, bg, p, nmAll.map V.str, rfl, E0.bag, pb, .inl upd_same, by rw [List.length_map, hl15]; decide, fun q ys H2 E2 nq eq py => ?_⟩
    obtain ⟨zs, pz, rfl⟩ := perm_of_map py nmAll rfl
    have hz : zs.length = 15 := by rw [pz.length_eq, hl15]
    have E02 := E0.trans E2
    refine ⟨_, rfl, _, rfl, _, _, rfl, SqL.of eq, fun r nr => ?_⟩
    rw [cut_to _ m h0, ← List.map_take]
    refine ⟨r, zs.take m.toNat, rfl, SqL.of upd_same, by rw [List.length_take]; omega, fun us t pu su nt => ?_⟩
    refine ⟨t, _, rfl, .inl ⟨SqL.of upd_same, fun l nl => ?_⟩⟩
    have E3 : Ext bg H (upd (upd (upd H2 r (.lst ((zs.take m.toNat).map V.str))) t (.lst (us.map V.str))) l (.tup (us.map V.str))) := ((E02.new nr).new nt).new nl
    have ndz : zs.Nodup := pz.nodup_iff.mpr (by decide +kernel)
    refine k l us _ E3 (newAt ((E02.new nr).new nt) nl) upd_same ⟨su, pu.nodup_iff.mpr (ndz.sublist (List.take_sublist ..)), fun n hn => pz.mem_iff.mp (List.mem_of_mem_take (pu.mem_iff.mp hn))⟩ ?_
    rw [pu.length_eq, List.length_take]
    omega
end
end KaG
set_option maxRecDepth 100000
set_option maxHeartbeats 2000000
namespace KaG
open PySem PySem.Spec PyProof.Rows L2
theorem ix_or {X : Cx} {r1 r2 : R2} (h1 : IxR X r1) (h2 : IxR X r2) : IxR X (fun x y H Q => r1 x y H Q ∨ r2 x y H Q) :=
  fun value slice pins s σ H x y v u Q I rx ry h hs => h.elim (fun z => h1 value slice pins s σ H x y v u Q I rx ry z hs) (fun z => h2 value slice pins s σ H x y v u Q I rx ry z hs)
section
variable {P : Program} {w : World} {K : PySem.W.Frag} {mg : Str → Option Value} {base : Heap}
def spSome2 : Sp := fun vs H Q _ => ∃ (bg l : Addr) (xs : List V), vs = [.ref bg, .ref l] ∧ Bag H bg ∧ l ≠ bg ∧ Sq2 H l xs ∧ 0 < xs.length ∧ xs.length ≤ 1000 ∧ ∀ (v : V) (H' : Hp), v ∈ xs → Ext bg H H' → Q v H'
theorem ok_some2 {f fT : Addr} {fd fdT : FuncData} (F : Fun K "_law_some" "_law_some" sSome f fd) (T : TxtB mg) (C : Ct P w K mg base "_law_take" 1 ["bag", "upto"] spTake fT fdT) : FnOk P w K mg base CX0 2 f fd ["bag", "things"] spSome2 := by
  refine F.ok scSome (fun vs H Q E h => ?_) (fun cdv A outer s H vs Q E hr h => ?_)
  · obtain ⟨bg, l, xs, rfl, _⟩ := h
    rfl
  · obtain ⟨bg, l, xs, rfl, hB, hne, hl, h0, h1, k⟩ := h
    refine ⟨_, pss_one (ps_ret (pe_ix (ix_or ix_list ix_tup) (pv 1) (pe_call C.G hr (by rfl) C.m C.kp C.b .nil pass0 (pa_cons (pv 0) (pa_cons (pe_callB call_len_seq (by rfl) T.len PySem.boot_len (pa_cons (pv 1) pa_nil)) pa_nil))) (fun _ _ => rfl))), ?_⟩
    have at1 : ∀ z : Int, 0 ≤ z → z < xs.length → ∃ v, atI xs z = some v ∧ v ∈ xs := fun z z0 z1 => by
      have hz : z.toNat < xs.length := by omega
      have q := atI_nat (show xs[z.toNat]? = some xs[z.toNat] by simp [hz])
      rw [show ((z.toNat : Nat) : Int) = z by omega] at q
      exact ⟨_, q, List.getElem_mem hz⟩
    rcases hl with hl | hl
    · refine ⟨_, rfl, _, rfl, _, rfl, _, _, rfl, .inl (SqL.of hl), bg, (xs.length : Int), rfl, hB, by omega, by omega, fun z H' E1 z0 z1 => ?_⟩
      obtain ⟨v, ea, mv⟩ := at1 z z0 z1
      exact .inl ⟨l, xs, z, v, rfl, rfl, SqL.of (E1.keep l _ hne hl), ea, k v _ mv E1⟩
    · refine ⟨_, rfl, _, rfl, _, rfl, _, _, rfl, .inr (SqT.of hl), bg, (xs.length : Int), rfl, hB, by omega, by omega, fun z H' E1 z0 z1 => ?_⟩
      obtain ⟨v, ea, mv⟩ := at1 z z0 z1
      exact .inr ⟨l, xs, z, v, rfl, rfl, SqT.of (E1.keep l _ hne hl), ea, k v _ mv E1⟩
theorem scNumbers : FnScope ["bag", "most"] ["bag"] (defScope sNumbers) := ⟨rfl, rfl, rfl, by decide +kernel, rfl, by decide +kernel, by decide +kernel⟩
def spNumbers : Sp := fun vs H Q _ => ∃ bg : Addr, vs = [.ref bg] ∧ Bag H bg ∧ ∀ (p : Addr) (a t m : Int) (H' : Hp), Ext bg H H' → H p = none → H' p = some (.tup [.int a, .int t, .int m]) → 1 ≤ a → a ≤ 9 → 0 ≤ t → t ≤ 4 → 0 ≤ m → m ≤ 9 → Q (.ref p) H'
theorem ints_in {lo hi : Int} {ns : List Int} (h : ∀ n ∈ ns, lo ≤ n ∧ n ≤ hi) {v : V} (m : v ∈ ns.map V.int) : ∃ n, v = .int n ∧ lo ≤ n ∧ n ≤ hi := by
  obtain ⟨n, hn, rfl⟩ := List.mem_map.mp m
  exact ⟨n, rfl, h n hn⟩
theorem ok_numbers {f fS fT : Addr} {fd fdS fdT : FuncData} (F : Fun K "_law_numbers" "_law_numbers" sNumbers f fd) (C : Ct P w K mg base "_law_some" 2 ["bag", "things"] spSome2 fS fdS) (CT : Ct P w K mg base "_law_take" 1 ["bag", "upto"] spTake fT fdT) : FnOk P w K mg base CX0 3 f fd ["bag"] spNumbers := by
  refine F.ok scNumbers (fun vs H Q E h => ?_) (fun cdv A outer s H vs Q E hr h => ?_)
  · obtain ⟨bg, rfl, _⟩ := h
    rfl
  · obtain ⟨bg, rfl, hB, k⟩ := h
    have hr1 : Room 1 (A.deeper (envOfC "_law_numbers" (defScope sNumbers) s.heap.objs.size f cdv)) := hr.mono (by decide)
    refine ⟨_, (pss_cons (ps_set (i := 1) scNumbers.nd rfl (Or.inl rfl) (pe_call C.G hr (by rfl) C.m C.kp C.b .nil pass0 (pa_cons (pv 0) (pa_cons (pe_lst (pa_cons pe_int (pa_cons pe_int (pa_cons pe_int (pa_cons pe_int (pa_cons pe_int (pa_cons pe_int (pa_cons pe_int (pa_cons pe_int (pa_cons pe_int (pa_cons pe_int pa_nil))))))))))) pa_nil))))
      (pss_one (ps_ret (pe_tup (pa_cons (pe_op op_add pe_int (pe_call C.G hr (by rfl) C.m C.kp C.b .nil pass0 (pa_cons (pv 0) (pa_cons (pe_lst (pa_cons pe_int (pa_cons pe_int (pa_cons pe_int (pa_cons pe_int (pa_cons (pe_call CT.G hr1 (by rfl) CT.m CT.kp CT.b .nil pass0 (pa_cons (pv 0) (pa_cons pe_int pa_nil))) pa_nil)))))) pa_nil))))
        (pa_cons (pe_call C.G hr (by rfl) C.m C.kp C.b .nil pass0 (pa_cons (pv 0) (pa_cons (pe_lst (pa_cons pe_int (pa_cons pe_int (pa_cons pe_int (pa_cons pe_int (pa_cons pe_int (pa_cons pe_int pa_nil))))))) pa_nil))) (pa_cons (pv 1) pa_nil))))))), ?_⟩
    have sz : ∀ {m : Nat}, m ≤ 900 → m ≤ sizeLine := fun h => Nat.le_of_lt (small1000 (by omega))
    refine ⟨_, rfl, sz (by decide), fun p1 n1 => ?_⟩
    have E1 : Ext bg H (upd H p1 (.lst (([9, 9, 9, 9, 1, 2, 3, 5, 8, 0] : List Int).map V.int))) := (Ext.of_same hB Same.refl').new n1
    refine ⟨bg, p1, _, rfl, E1.bag, fun w => hB.there (w ▸ n1), .inl (show upd H p1 (.lst (([9, 9, 9, 9, 1, 2, 3, 5, 8, 0] : List Int).map V.int)) p1 = _ from upd_same), by decide, by decide, fun v H2 mv E2 => ?_⟩
    obtain ⟨m, rfl, m0, m9⟩ := ints_in (lo := 0) (hi := 9) (by decide) mv
    have E12 := E1.trans E2
    refine ⟨_, rfl, _, rfl, bg, 9, rfl, E12.bag, by decide, by decide, fun z H3 E3 z0 z1 => ?_⟩
    have E13 := E12.trans E3
    refine ⟨sz (by show 5 ≤ 900; decide), fun p2 n2 => ?_⟩
    have E4 : Ext bg H (upd H3 p2 (.lst (([0, 0, 1, 2, z] : List Int).map V.int))) := E13.new n2
    refine ⟨bg, p2, _, rfl, E4.bag, fun w => E13.bag.there (w ▸ n2), .inl (show upd H3 p2 (.lst (([0, 0, 1, 2, z] : List Int).map V.int)) p2 = _ from upd_same), by show 0 < 5; decide, by show 5 ≤ 1000; decide, fun v H5 mv E5 => ?_⟩
    obtain ⟨b, rfl, b0, b8⟩ := ints_in (lo := 0) (hi := 8) (by
      intro n hn
      simp only [List.mem_cons, List.mem_nil_iff, or_false] at hn
      omega) mv
    have E15 := E4.trans E5
    refine ⟨_, _, rfl, rfl, _, rfl, sz (by decide), fun p3 n3 => ?_⟩
    have E6 : Ext bg H (upd H5 p3 (.lst (([0, 1, 1, 2, 3, 4] : List Int).map V.int))) := E15.new n3
    refine ⟨bg, p3, _, rfl, E6.bag, fun w => E15.bag.there (w ▸ n3), .inl (show upd H5 p3 (.lst (([0, 1, 1, 2, 3, 4] : List Int).map V.int)) p3 = _ from upd_same), by decide, by decide, fun v H7 mv E7 => ?_⟩
    obtain ⟨t, rfl, t0, t4⟩ := ints_in (lo := 0) (hi := 4) (by decide) mv
    have E17 := E6.trans E7
    refine ⟨_, rfl, sz (by show 3 ≤ 900; decide), fun p n => ?_⟩
    exact k p (1 + b) t m _ (E17.new n) (newAt E17 n) upd_same (by omega) (by omega) t0 t4 m0 m9
end
end KaG
set_option maxRecDepth 100000
set_option maxHeartbeats 2000000
namespace KaG
open PySem PySem.Spec PyProof.Rows L2
/-- the items of a need on some rows and kinds -/
inductive NeedV (rows names : List Str) : List V → Prop
  | row (n : Str) (t m : Int) (h : n ∈ rows) (t0 : 0 ≤ t) (t4 : t ≤ 4) (m0 : 0 ≤ m) (m9 : m ≤ 9) : NeedV rows names [.str "row", .str n, .int t, .int m]
  | kind (n : Str) (a t m : Int) (h : n ∈ names) (a1 : 1 ≤ a) (a9 : a ≤ 9) (t0 : 0 ≤ t) (t4 : t ≤ 4) (m0 : 0 ≤ m) (m9 : m ≤ 9) : NeedV rows names [.str "kind", .str n, .int a, .int t, .int m]
section
variable {P : Program} {w : World} {K : PySem.W.Frag} {mg : Str → Option Value} {base : Heap}
theorem scNeed : FnScope ["bag", "rows", "names", "after", "tell", "most"] ["bag", "rows", "names"] (defScope sNeed) := ⟨rfl, rfl, rfl, by decide +kernel, rfl, by decide +kernel, by decide +kernel⟩
def spNeed : Sp := fun vs H Q _ => ∃ (bg r n : Addr) (rows names : List Str), vs = [.ref bg, .ref r, .ref n] ∧ Bag H bg ∧ r ≠ bg ∧ n ≠ bg ∧ H r = some (.tup (rows.map V.str)) ∧ H n = some (.tup (names.map V.str)) ∧ 0 < rows.length ∧ 0 < names.length ∧ rows.length ≤ 20 ∧ names.length ≤ 20 ∧
  ∀ (p : Addr) (xs : List V) (H' : Hp), Ext bg H H' → H p = none → H' p = some (.tup xs) → NeedV rows names xs → Q (.ref p) H'
theorem strs_in {ns : List Str} {v : V} (m : v ∈ ns.map V.str) : ∃ n, v = .str n ∧ n ∈ ns := by
  obtain ⟨n, hn, rfl⟩ := List.mem_map.mp m
  exact ⟨n, rfl, hn⟩
theorem ok_need {f fN fS fT : Addr} {fd fdN fdS fdT : FuncData} (F : Fun K "_law_need" "_law_need" sNeed f fd) (CN : Ct P w K mg base "_law_numbers" 3 ["bag"] spNumbers fN fdN) (C : Ct P w K mg base "_law_some" 2 ["bag", "things"] spSome2 fS fdS) (CT : Ct P w K mg base "_law_take" 1 ["bag", "upto"] spTake fT fdT) : FnOk P w K mg base CX0 4 f fd ["bag", "rows", "names"] spNeed := by
  refine F.ok scNeed (fun vs H Q E h => ?_) (fun cdv A outer s H vs Q E hr h => ?_)
  · obtain ⟨bg, r, n, rows, names, rfl, _⟩ := h
    rfl
  · obtain ⟨bg, r, n, rows, names, rfl, hB, rb, nb, er, en, r0, n0, r20, n20, k⟩ := h
    have hr2 : Room 2 (A.deeper (envOfC "_law_need" (defScope sNeed) s.heap.objs.size f cdv)) := hr.mono (by decide)
    have hr1 : Room 1 (A.deeper (envOfC "_law_need" (defScope sNeed) s.heap.objs.size f cdv)) := hr.mono (by decide)
    refine ⟨_, (pss_cons (ps_asg (pe_call CN.G hr (by rfl) CN.m CN.kp CN.b .nil pass0 (pa_cons (pv 0) pa_nil)) (pg_tup (by rfl) (pgs_cons (pg_name (i := 3) scNeed.nd rfl (Or.inl rfl)) (pgs_cons (pg_name (i := 4) scNeed.nd rfl (Or.inl rfl)) (pgs_cons (pg_name (i := 5) scNeed.nd rfl (Or.inl rfl)) pgs_nil)))))
      (pss_cons (ps_if (pt_cmpR op_lt (pe_call CT.G hr1 (by rfl) CT.m CT.kp CT.b .nil pass0 (pa_cons (pv 0) (pa_cons pe_int pa_nil))) pe_int (nomark _))
        (pss_one (ps_ret (pe_tup (pa_cons pe_str (pa_cons (pe_call C.G hr2 (by rfl) C.m C.kp C.b .nil pass0 (pa_cons (pv 0) (pa_cons (pv 1) pa_nil))) (pa_cons (pv 4) (pa_cons (pv 5) pa_nil))))))) pss_nil)
      (pss_one (ps_ret (pe_tup (pa_cons pe_str (pa_cons (pe_call C.G hr2 (by rfl) C.m C.kp C.b .nil pass0 (pa_cons (pv 0) (pa_cons (pv 2) pa_nil))) (pa_cons (pv 3) (pa_cons (pv 4) (pa_cons (pv 5) pa_nil)))))))))), ?_⟩
    have sz : ∀ {m : Nat}, m ≤ 900 → m ≤ sizeLine := fun h => Nat.le_of_lt (small1000 (by omega))
    refine ⟨_, rfl, bg, rfl, hB, fun p a t m H1 E1 np ep a1 a9 t0 t4 m0 m9 => ?_⟩
    refine ⟨p, _, rfl, SqT.of ep, by rfl, _, _, rfl, _, _, rfl, _, _, rfl, rfl, ?_⟩
    refine ⟨_, rfl, bg, 5, rfl, E1.bag, by decide, by decide, fun z H2 E2 z0 z1 => ?_⟩
    have E12 := E1.trans E2
    refine ⟨_, _, rfl, rfl, _, rfl, ite2 (fun hc => ?_) fun hc => ?_⟩
    · refine ⟨_, rfl, _, rfl, bg, r, rows.map V.str, rfl, E12.bag, rb, .inr (E12.keep r _ rb er), by rw [List.length_map]; exact r0, by rw [List.length_map]; omega, fun v H3 mv E3 => ?_⟩
      obtain ⟨x, rfl, hx⟩ := strs_in mv
      have E13 := E12.trans E3
      refine ⟨_, rfl, _, rfl, sz (by show 4 ≤ 900; decide), fun q nq => ?_⟩
      exact k q _ _ (E13.new nq) (newAt E13 nq) upd_same (.row x t m hx t0 t4 m0 m9)
    · refine ⟨_, rfl, _, rfl, bg, n, names.map V.str, rfl, E12.bag, nb, .inr (E12.keep n _ nb en), by rw [List.length_map]; exact n0, by rw [List.length_map]; omega, fun v H3 mv E3 => ?_⟩
      obtain ⟨x, rfl, hx⟩ := strs_in mv
      have E13 := E12.trans E3
      refine ⟨_, rfl, _, rfl, _, rfl, sz (by show 5 ≤ 900; decide), fun q nq => ?_⟩
      exact k q _ _ (E13.new nq) (newAt E13 nq) upd_same (.kind x a t m hx a1 a9 t0 t4 m0 m9)
end
end KaG
set_option maxRecDepth 100000
set_option maxHeartbeats 2000000
namespace KaG
open PySem PySem.Spec PyProof.Rows L2
section
variable {P : Program} {w : World} {K : PySem.W.Frag} {mg : Str → Option Value} {base : Heap}
theorem scMore : FnScope ["bag", "sort", "rows"] ["bag", "sort", "rows"] (defScope sMore) := ⟨rfl, rfl, rfl, by decide +kernel, rfl, by decide +kernel, by decide +kernel⟩
def spMore : Sp := fun vs H Q _ => ∃ (bg r : Addr) (v : V) (rows : List Str), vs = [.ref bg, v, .ref r] ∧ Bag H bg ∧ r ≠ bg ∧ H r = some (.tup (rows.map V.str)) ∧ rows.length = 2 ∧
  ∀ (p : Addr) (xs : List V) (H' : Hp), Ext bg H H' → H p = none → H' p = some (.lst xs) → (xs = [] ∨ ∃ q its, xs = [.ref q] ∧ H q = none ∧ H' q = some (.tup its) ∧ ∀ names, NeedV rows names its) → Q (.ref p) H'
theorem ok_more {f fS fT : Addr} {fd fdS fdT : FuncData} (F : Fun K "_law_more_needs" "_law_more_needs" sMore f fd) (C : Ct P w K mg base "_law_some" 2 ["bag", "things"] spSome2 fS fdS) (CT : Ct P w K mg base "_law_take" 1 ["bag", "upto"] spTake fT fdT) : FnOk P w K mg base CX0 3 f fd ["bag", "sort", "rows"] spMore := by
  refine F.ok scMore (fun vs H Q E h => ?_) (fun cdv A outer s H vs Q E hr h => ?_)
  · obtain ⟨bg, r, v, rows, rfl, _⟩ := h
    rfl
  · obtain ⟨bg, r, v, rows, rfl, hB, rb, er, r2, k⟩ := h
    have hr1 : Room 1 (A.deeper (envOfC "_law_more_needs" (defScope sMore) s.heap.objs.size f cdv)) := hr.mono (by decide)
    refine ⟨_, (pss_cons (ps_if (pt_cmpR op_gt (pe_call CT.G hr1 (by rfl) CT.m CT.kp CT.b .nil pass0 (pa_cons (pv 0) (pa_cons pe_int pa_nil))) pe_int (nomark _)) (pss_one (ps_ret (pe_lst pa_nil))) pss_nil)
      (pss_one (ps_ret (pe_lst (pa_cons (pe_tup (pa_cons pe_str (pa_cons (pe_ix ix_tup (pv 2) pe_int (fun _ _ => rfl)) (pa_cons (pe_call CT.G hr1 (by rfl) CT.m CT.kp CT.b .nil pass0 (pa_cons (pv 0) (pa_cons pe_int pa_nil)))
        (pa_cons (pe_call C.G hr (by rfl) C.m C.kp C.b .nil pass0 (pa_cons (pv 0) (pa_cons (pe_lst (pa_cons pe_int (pa_cons pe_int (pa_cons pe_int (pa_cons pe_int pa_nil))))) pa_nil))) pa_nil))))) pa_nil))))), ?_⟩
    have sz : ∀ {m : Nat}, m ≤ 900 → m ≤ sizeLine := fun h => Nat.le_of_lt (small1000 (by omega))
    obtain ⟨ra, rc, rfl⟩ : ∃ a b, rows = [a, b] := by
      match rows, r2 with
      | [a, b], _ => exact ⟨a, b, rfl⟩
    refine ⟨_, rfl, bg, 3, rfl, hB, by decide, by decide, fun z H1 E1 z0 z1 => ?_⟩
    refine ⟨_, _, rfl, rfl, _, rfl, ite2 (fun hc => ?_) fun hc => ?_⟩
    · refine ⟨Nat.zero_le _, fun p np => ?_⟩
      exact k p [] _ (E1.new np) (newAt E1 np) upd_same (.inl rfl)
    · refine ⟨_, rfl, r, _, 1, .str rc, rfl, rfl, SqT.of (E1.keep r _ rb er), rfl, _, rfl, bg, 5, rfl, E1.bag, by decide, by decide, fun t H2 E2 t0 t5 => ?_⟩
      have E12 := E1.trans E2
      refine ⟨_, rfl, sz (by decide), fun p2 n2 => ?_⟩
      have E4 : Ext bg H (upd H2 p2 (.lst (([9, 9, 0, 4] : List Int).map V.int))) := E12.new n2
      refine ⟨bg, p2, _, rfl, E4.bag, fun w => E12.bag.there (w ▸ n2), .inl (show upd H2 p2 (.lst (([9, 9, 0, 4] : List Int).map V.int)) p2 = _ from upd_same), by decide, by decide, fun v H5 mv E5 => ?_⟩
      obtain ⟨m, rfl, m0, m9⟩ := ints_in (lo := 0) (hi := 9) (by decide) mv
      have E15 := E4.trans E5
      refine ⟨sz (by show 4 ≤ 900; decide), fun q nq => ⟨sz (by show 1 ≤ 900; decide), fun p np => ?_⟩⟩
      have E6 := E15.new (o := .tup [.str "row", .str rc, .int t, .int m]) nq
      have pq : q ≠ p := fun z => by rw [← z, upd_same] at np; cases np
      exact k p _ _ (E6.new np) (newAt E6 np) upd_same (.inr ⟨q, _, rfl, newAt E15 nq, by rw [upd_ne pq, upd_same], fun names => .row rc t m (by simp) t0 (by omega) m0 m9⟩)
end
end KaG
set_option maxRecDepth 100000
set_option maxHeartbeats 2000000
namespace KaG
open PySem PySem.Spec PyProof.Rows L2
structure Kd where
  name : Str
  keep : Int
  bar : Int
  gs : List (List (List V))
abbrev Grd (H : Hp) (ga : Addr) (g : List (List V)) : Prop := ∃ ns : List Addr, H ga = some (.tup (ns.map V.ref)) ∧ Paired (fun n its => H n = some (.tup its)) ns g
abbrev KdAt (H : Hp) (ka : Addr) (k : Kd) : Prop := ∃ (gt : Addr) (gas : List Addr), H ka = some (.tup [.str k.name, .int k.keep, .int k.bar, .ref gt]) ∧ H gt = some (.tup (gas.map V.ref)) ∧ Paired (fun ga g => Grd H ga g) gas k.gs
structure BookAt (H : Hp) (b : Addr) (rows : List Str) (ks : List Kd) : Prop where
  it : ∃ (r kt : Addr) (kas : List Addr), H b = some (.tup [.ref r, .ref kt]) ∧ H r = some (.tup (rows.map V.str)) ∧ H kt = some (.tup (kas.map V.ref)) ∧ Paired (fun ka k => KdAt H ka k) kas ks
/-- what the numbers and names of a rulebook are -/
structure BookOk (rows : List Str) (ks : List Kd) : Prop where
  rw : Nms rows
  nm : Nms (ks.map Kd.name)
  r0 : 0 < rows.length
  k0 : 0 < ks.length
  k5 : ks.length ≤ 5
  num : ∀ k ∈ ks, 1 ≤ k.keep ∧ k.keep ≤ 8 ∧ 0 ≤ k.bar ∧ k.bar ≤ 60 ∧ k.gs.length ≤ 4
  grd : ∀ k ∈ ks, ∀ g ∈ k.gs, 0 < g.length ∧ g.length ≤ 3 ∧ ∀ n ∈ g, NeedV rows (ks.map Kd.name) n
theorem Paired.mono' {α β : Type} {R S : α → β → Prop} (h : ∀ a b, R a b → S a b) : ∀ {xs : List α} {ys : List β}, Paired R xs ys → Paired S xs ys
  | _, _, .nil => .nil
  | _, _, .cons a r => .cons (h _ _ a) (Paired.mono' h r)
/-- what of the heap's tuples stays -/
def TSame (H H' : Hp) : Prop := ∀ b xs, H b = some (.tup xs) → H' b = some (.tup xs)
theorem TSame.of {H H' : Hp} (s : Same H H') : TSame H H' := fun b xs e => s b _ e
theorem TSame.ext {H H' : Hp} {bg : Addr} (hb : Bag H bg) (E : Ext bg H H') : TSame H H' := fun b xs e => E.keep b _ (fun z => by
  obtain ⟨c, st, i, b2, ns, e1, _⟩ := hb
  rw [z, e1] at e
  cases e) e
theorem Grd.ts {H H' : Hp} {ga : Addr} {g : List (List V)} (h : Grd H ga g) (s : TSame H H') : Grd H' ga g := by
  obtain ⟨ns, e, p⟩ := h
  exact ⟨ns, s _ _ e, Paired.mono' (fun a b q => s _ _ q) p⟩
theorem KdAt.ts {H H' : Hp} {ka : Addr} {k : Kd} (h : KdAt H ka k) (s : TSame H H') : KdAt H' ka k := by
  obtain ⟨gt, gas, e1, e2, p⟩ := h
  exact ⟨gt, gas, s _ _ e1, s _ _ e2, Paired.mono' (fun a b q => Grd.ts q s) p⟩
theorem BookAt.ts {H H' : Hp} {b : Addr} {rows : List Str} {ks : List Kd} (h : BookAt H b rows ks) (s : TSame H H') : BookAt H' b rows ks := by
  obtain ⟨r, kt, kas, e1, e2, e3, p⟩ := h
  exact ⟨⟨r, kt, kas, s _ _ e1, s _ _ e2, s _ _ e3, Paired.mono' (fun a b q => KdAt.ts q s) p⟩⟩
theorem paired_at {α β : Type} {R : α → β → Prop} : ∀ {xs : List α} {ys : List β} {i : Nat} {x : α}, Paired R xs ys → xs[i]? = some x → ∃ y, ys[i]? = some y ∧ R x y
  | _, _, i, _, .nil, e => by simp at e
  | _, _, 0, _, .cons h r, e => by
    cases e
    exact ⟨_, rfl, h⟩
  | _, _, i + 1, _, .cons h r, e => by
    obtain ⟨y, q1, q2⟩ := paired_at r (show _ = some _ from e)
    exact ⟨y, q1, q2⟩
theorem paired_len {α β : Type} {R : α → β → Prop} : ∀ {xs : List α} {ys : List β}, Paired R xs ys → xs.length = ys.length
  | _, _, .nil => rfl
  | _, _, .cons h r => by rw [List.length_cons, List.length_cons, paired_len r]
abbrev sKindNames : Stmt := top 6
section
variable {P : Program} {w : World} {K : PySem.W.Frag} {mg : Str → Option Value} {base : Heap}
theorem scKindNames : FnScope ["rulebook", "kind"] ["rulebook"] (defScope sKindNames) := ⟨rfl, rfl, rfl, by decide +kernel, rfl, by decide +kernel, by decide +kernel⟩
def spKindNames : Sp := fun vs H Q _ => ∃ (b : Addr) (rows : List Str) (ks : List Kd), vs = [.ref b] ∧ BookAt H b rows ks ∧ ks.length ≤ 900 ∧ ∀ (p : Addr) (H' : Hp), Same H H' → H p = none → H' p = some (.lst ((ks.map Kd.name).map V.str)) → Q (.ref p) H'
theorem ok_kindNames {f : Addr} {fd : FuncData} (F : Fun K "kind_names" "kind_names" sKindNames f fd) : FnOk P w K mg base CX0 1 f fd ["rulebook"] spKindNames := by
  refine F.ok scKindNames (fun vs H Q E h => ?_) (fun cdv A outer s H vs Q E hr h => ?_)
  · obtain ⟨b, rows, ks, rfl, _⟩ := h
    rfl
  · obtain ⟨b, rows, ks, rfl, hA, hk, k⟩ := h
    refine ⟨_, pss_one (ps_ret (pe_lc (own := [("kind", 1)]) (g := gName 1) (by rfl) scKindNames.nd (pi_tup (pe_ix ix_tup (pv 0) pe_int (fun _ _ => rfl)))
      (blkOk_by (own := [("kind", 1)]) (N := ["rulebook", "kind"]) (sc := defScope sKindNames) (by decide +kernel)) (fun _ _ _ _ _ => pg_name (i := 1) scKindNames.nd rfl (Or.inl rfl)) (fun _ _ _ _ _ => pts_nil)
      (fun _ _ _ _ _ => pe_ix (r := rIxT K) ix_tup (pv 1) pe_int (fun _ _ => rfl)))), ?_⟩
    obtain ⟨r, kt, kas, e1, e2, e3, pk⟩ := hA
    have hlen := paired_len pk
    refine ⟨_, rfl, b, _, 1, .ref kt, rfl, rfl, SqT.of e1, rfl, kt, rfl, ⟨_, SqT.of e3⟩, fun D hD => lc_tup (K := K) (a := kt) (xs := kas.map V.ref) (fun i G => Same H G ∧ G D = some (.lst (((ks.take i).map Kd.name).map V.str))) ?_ ?_ ?_ ?_⟩
    · exact ⟨same_upd hD, upd_same⟩
    · rintro i G _ ⟨S, _⟩
      exact SqT.of (S _ _ e3)
    · rintro i x G hx ⟨S, gD⟩
      rw [List.getElem?_map] at hx
      obtain ⟨ka, ha, rfl⟩ := Option.map_eq_some_iff.mp hx
      obtain ⟨kd, hkd, gt, gas, f1, _⟩ := paired_at pk ha
      refine ⟨rfl, ?_⟩
      unfold tYes
      dsimp only
      refine iteT ⟨_, rfl, ka, _, 0, .str kd.name, rfl, rfl, SqT.of (S _ _ f1), rfl, _, gD, ?_, ?_, ?_⟩
      · rw [List.length_map, List.length_map, List.length_take]
        exact small1000 (by omega)
      · exact fun b u e => by rw [upd_ne (ne_of_none e hD)]; exact S b u e
      · rw [upd_same, List.take_add_one, hkd]
        simp
    · rintro G ⟨S, gD⟩
      rw [List.length_map, hlen, List.take_length] at gD
      exact k D G S hD gD
end
end KaG
set_option maxRecDepth 100000
set_option maxHeartbeats 2000000
namespace KaG
open PySem PySem.Spec PyProof.Rows L2
theorem paired_snoc {α β : Type} {R : α → β → Prop} {x : α} {y : β} (h : R x y) : ∀ {xs : List α} {ys : List β}, Paired R xs ys → Paired R (xs ++ [x]) (ys ++ [y])
  | _, _, .nil => .cons h .nil
  | _, _, .cons a r => .cons a (paired_snoc h r)
theorem merge_new : ∀ (kvs acc : List (Key × V)), ((acc ++ kvs).map (·.1)).Nodup → mergeK acc kvs = acc ++ kvs
  | [], acc, _ => by rw [List.append_nil]; rfl
  | p :: r, acc, h => by
    have hn : valV acc p.1 = none := by
      unfold valV
      have : acc.find? (fun kv => decide (kv.1 = p.1)) = none := by
        rw [List.find?_eq_none]
        intro q hq e
        rw [List.map_append, List.nodup_append] at h
        exact h.2.2 q.1 (List.mem_map_of_mem hq) p.1 (List.mem_map_of_mem (List.mem_cons_self ..)) (of_decide_eq_true e)
      rw [this] <;> rfl
    show mergeK (putK acc p.1 p.2) r = _
    rw [putK_new p.2 hn, merge_new r _ (by simpa using h)]
    simp
theorem refs_inj : ∀ {xs ys : List Addr}, xs.map V.ref = ys.map V.ref → xs = ys
  | [], [], _ => rfl
  | [], _ :: _, h => by cases h
  | _ :: _, [], h => by cases h
  | x :: xs, y :: ys, h => by
    rw [List.map_cons, List.map_cons] at h
    obtain ⟨h1, h2⟩ := List.cons.inj h
    cases h1
    rw [refs_inj h2]
/-- the addresses of the kinds of the rulebook at b -/
def KasOf (H : Hp) (b : Addr) (kas : List Addr) : Prop := ∃ r kt, H b = some (.tup [.ref r, .ref kt]) ∧ H kt = some (.tup (kas.map V.ref))
def kvsOf (ks : List Kd) (kas : List Addr) : List (Key × V) := (ks.zip kas).map fun z => (Sum.inr z.1.name, V.ref z.2)
end KaG
set_option maxRecDepth 100000
set_option maxHeartbeats 2000000
namespace KaG
open PySem PySem.Spec PyProof.Rows L2
abbrev Plc := Str × Nat × Nat
def plG (k : Kd) (g : Nat) : List Plc := (List.range (k.gs.getD g []).length).map fun n => (k.name, g, n)
def plK (k : Kd) : List Plc := (List.range k.gs.length).flatMap (plG k)
def placesOf (ks : List Kd) : List Plc := ks.flatMap plK
/-- tuples of places, at these addresses -/
def PlAt (H : Hp) (as : List Addr) (ps : List Plc) : Prop := Paired (fun a (p : Plc) => H a = some (.tup [.str p.1, .int (p.2.1 : Int), .int (p.2.2 : Int)])) as ps
theorem PlAt.ts {H H' : Hp} {as : List Addr} {ps : List Plc} (h : PlAt H as ps) (s : TSame H H') : PlAt H' as ps := Paired.mono' (fun a p q => s _ _ q) h
theorem paired_app {α β : Type} {R : α → β → Prop} : ∀ {xs xs' : List α} {ys ys' : List β}, Paired R xs ys → Paired R xs' ys' → Paired R (xs ++ xs') (ys ++ ys')
  | _, _, _, _, .nil, q => q
  | _, _, _, _, .cons a r, q => .cons a (paired_app r q)
theorem ts_lst {H : Hp} {p : Addr} {xs ys : List V} (e : H p = some (.lst xs)) : TSame H (upd H p (.lst ys)) := fun b zs q => by
  rw [upd_ne (fun z => by rw [z, e] at q; cases q)]
  exact q
end KaG
set_option maxRecDepth 100000
set_option maxHeartbeats 2000000
namespace KaG
open PySem PySem.Spec PyProof.Rows L2 KaN
def dV : V → PyData
  | .int i => .int i
  | .str x => .str x
  | _ => .none
def needD (xs : List V) : PyData := .tuple (xs.map dV)
def grdD (g : List (List V)) : PyData := .tuple (g.map needD)
section
variable {K : PySem.W.Frag} {H : Hp} {rows names : List Str}
theorem need_ky {xs : List V} {a : Addr} (h : NeedV rows names xs) (e : H a = some (.tup xs)) : Ky K H (.ref a) (needD xs) := by
  cases h with
  | row n t m => exact .tup (SqT.of e) (.cons (.str _) (.cons (.str _) (.cons (.int _) (.cons (.int _) .nil))))
  | kind n a t m => exact .tup (SqT.of e) (.cons (.str _) (.cons (.str _) (.cons (.int _) (.cons (.int _) (.cons (.int _) .nil)))))
theorem need_deep {xs : List V} (h : NeedV rows names xs) : (needD xs).depth = 1 := by
  cases h <;> simp [needD, dV, PyData.depth, PyData.depthAll]
theorem need_like {xs ys : List V} (h : NeedV rows names xs) (h' : NeedV rows names ys) : PySem.W.alike (needD xs) (needD ys) = true := by
  cases h <;> cases h' <;> simp [needD, dV, PySem.W.alike, PySem.W.alikeAll]
theorem need_cons {xs : List V} (h : NeedV rows names xs) : ∃ x r, needD xs = .tuple (x :: r) := by
  cases h <;> exact ⟨_, _, rfl⟩
theorem needs_ky : ∀ {ns : List Addr} {g : List (List V)}, Paired (fun n its => H n = some (.tup its)) ns g → (∀ n ∈ g, NeedV rows names n) → KyA K H (ns.map V.ref) (g.map needD)
  | _, _, .nil, _ => .nil
  | _, _, .cons h r, q => .cons (need_ky (q _ (List.mem_cons_self ..)) h) (needs_ky r fun n m => q n (List.mem_cons_of_mem _ m))
theorem grd_ky {g : List (List V)} {a : Addr} (h : Grd H a g) (q : ∀ n ∈ g, NeedV rows names n) : Ky K H (.ref a) (grdD g) := by
  obtain ⟨ns, e, p⟩ := h
  exact .tup (SqT.of e) (needs_ky p q)
theorem needs_deep : ∀ {g : List (List V)}, (∀ n ∈ g, NeedV rows names n) → PyData.depthAll (g.map needD) ≤ 1
  | [], _ => by simp [PyData.depthAll]
  | n :: g, q => by
    have h1 := need_deep (q n (List.mem_cons_self ..))
    have h2 := needs_deep (g := g) fun m hm => q m (List.mem_cons_of_mem _ hm)
    rw [List.map_cons, PyData.depthAll]; omega
theorem grd_deep {g : List (List V)} (q : ∀ n ∈ g, NeedV rows names n) : (grdD g).depth ≤ 2 := by
  have := needs_deep q
  rw [grdD, PyData.depth]; omega
theorem needs_like : ∀ {g g' : List (List V)}, (∀ n ∈ g, NeedV rows names n) → (∀ n ∈ g', NeedV rows names n) → PySem.W.alikeAll (g.map needD) (g'.map needD) = true
  | [], _, _, _ => by simp [PySem.W.alikeAll]
  | _ :: _, [], _, _ => by simp [PySem.W.alikeAll]
  | n :: g, n' :: g', q, q' => by
    rw [List.map_cons, List.map_cons, PySem.W.alikeAll, need_like (q n (List.mem_cons_self ..)) (q' n' (List.mem_cons_self ..)), needs_like (g := g) (g' := g') (fun m hm => q m (List.mem_cons_of_mem _ hm)) fun m hm => q' m (List.mem_cons_of_mem _ hm)]; rfl
theorem grd_like {g g' : List (List V)} (q : ∀ n ∈ g, NeedV rows names n) (q' : ∀ n ∈ g', NeedV rows names n) : PySem.W.alike (grdD g) (grdD g') = true := by
  rw [grdD, grdD, PySem.W.alike]
  exact needs_like q q'
end
def rTupOf (K : PySem.W.Frag) : List V → Hp → VK → Prop := fun xs H Q => ∃ p ys, xs = [.ref p] ∧ ((SqL K H p ys ∧ ∀ l, H l = none → Q (.ref l) (upd H l (.tup ys))) ∨ (SqT K H p ys ∧ Q (.ref p) H))
theorem call_tupOf {X : Cx} : CallR X (.type "tuple") (rTupOf X.K) := call_tuple_of
theorem order_of {α : Type} {K : PySem.W.Frag} {w : World} {H : Hp} {l : Addr} {Q : VK} (enc : α → PyData) (zs : List (Addr × α)) (hl : SqL K H l (zs.map fun z => V.ref z.1) ∨ SqT K H l (zs.map fun z => V.ref z.1)) (hk : ∀ z ∈ zs, Ky K H (.ref z.1) (enc z.2) ∧ (enc z.2).depth ≤ 8)
    (hal : ∀ z ∈ zs, ∀ y ∈ zs, PySem.W.alike (enc z.2) (enc y.2) = true) (hso : ∀ z ∈ zs, ∃ x r, enc z.2 = .tuple (x :: r)) (h4 : zs.length ≤ 4)
    (k : ∀ (ys : List (Addr × α)) (p : Addr) (H' : Hp), Same H H' → H p = none → H' p = some (.tup (ys.map fun z => V.ref z.1)) → (∀ z ∈ ys, z ∈ zs) → (0 < zs.length → 0 < ys.length) → ys.length ≤ zs.length → Q (.ref p) H') :
    rSetN K w [V.ref l] H fun v H1 => rSortN K w [v] H1 fun v2 H2 => rTupOf K [v2] H2 Q := by
  refine ⟨l, zs.map fun z => (z.1, enc z.2), rfl, by rw [List.map_map]; exact hl, fun p m => ?_, by rw [List.length_map]; exact h4, fun a D ha hsub hall hnd hlen => ?_⟩
  · obtain ⟨z, hz, rfl⟩ := List.mem_map.mp m
    exact hk z hz
  · have back : ∀ D' : List Dw, (∀ p ∈ D', p ∈ zs.map fun z => (z.1, enc z.2)) → ∃ ys : List (Addr × α), D' = ys.map (fun z => (z.1, enc z.2)) ∧ ∀ z ∈ ys, z ∈ zs := by
      intro D'
      induction D' with
      | nil => exact fun _ => ⟨[], rfl, fun _ z => nomatch z⟩
      | cons p D' ih =>
        intro h
        obtain ⟨z, hz, e⟩ := List.mem_map.mp (h p (List.mem_cons_self ..))
        obtain ⟨ys, e2, hs⟩ := ih fun q m => h q (List.mem_cons_of_mem _ m)
        refine ⟨z :: ys, by rw [List.map_cons, e, e2], fun q m => ?_⟩
        rcases List.mem_cons.mp m with c | c
        · rw [c]; exact hz
        · exact hs q c
    have of : ∀ p ∈ D, ∃ z ∈ zs, p = (z.1, enc z.2) := fun p m => by
      obtain ⟨z, hz, e⟩ := List.mem_map.mp (hsub p m)
      exact ⟨z, hz, e.symm⟩
    refine ⟨a, D, rfl, upd_same, fun p m => ?_, fun d m d' m' => ?_, .inl fun d m => ?_, fun D1 p pD hp => ?_⟩
    · obtain ⟨z, hz, rfl⟩ := of p m
      exact ⟨Ky.sm (same_upd ha) (hk z hz).1, (hk z hz).2⟩
    · obtain ⟨p, hp, rfl⟩ := List.mem_map.mp m
      obtain ⟨p', hp', rfl⟩ := List.mem_map.mp m'
      obtain ⟨z, hz, rfl⟩ := of p hp
      obtain ⟨y, hy, rfl⟩ := of p' hp'
      exact hal z hz y hy
    · obtain ⟨p, hp, rfl⟩ := List.mem_map.mp m
      obtain ⟨z, hz, rfl⟩ := of p hp
      exact hso z hz
    · have pm : (D1.mergeSort (PySem.W.dataLe false (fun z : Dw => z.2))).Perm D := (List.mergeSort_perm ..).trans pD
      obtain ⟨ys, ey, hy⟩ := back _ fun q m => hsub q (pm.mem_iff.mp m)
      have hz : ys.length = D.length := by rw [← pm.length_eq, ey, List.length_map]
      rw [ey, List.map_map]
      have n1 : H p = none := by
        cases e : H p with
        | none => rfl
        | some u => rw [same_upd ha _ _ e] at hp; cases hp
      refine ⟨p, ys.map fun z => V.ref z.1, rfl, .inl ⟨SqL.of upd_same, fun q hq => ?_⟩⟩
      have S2 := KaG.Same.tr (same_upd (o := SetNO w a D) ha) (same_upd (o := .lst (ys.map fun z => V.ref z.1)) hp)
      have n2 : H q = none := by
        cases e : H q with
        | none => rfl
        | some u =>
          have := S2 _ _ e
          rw [show (upd (upd H a (SetNO w a D)) p (.lst (ys.map fun z => V.ref z.1))) q = none from hq] at this
          cases this
      refine k ys q _ (KaG.Same.tr S2 (same_upd hq)) n2 upd_same hy (fun h0 => ?_) (by rw [hz]; simpa using hlen)
      obtain ⟨z, hz1⟩ : ∃ z, z ∈ zs := ⟨_, List.getElem_mem h0⟩
      obtain ⟨q2, hq2, _⟩ := hall (z.1, enc z.2) (List.mem_map.mpr ⟨z, hz1, rfl⟩)
      rw [hz]
      exact List.length_pos_of_mem hq2
end KaG
set_option maxRecDepth 100000
set_option maxHeartbeats 2000000
namespace KaG
open PySem PySem.Spec PyProof.Rows L2 KaN
theorem paired_zip {α β : Type} {R : α → β → Prop} : ∀ {xs : List α} {ys : List β}, Paired R xs ys → ∀ z ∈ xs.zip ys, R z.1 z.2
  | _, _, .nil, _, m => by cases m
  | _, _, .cons h r, z, m => by
    rw [List.zip_cons_cons] at m
    rcases List.mem_cons.mp m with c | c
    · rw [c]; exact h
    · exact paired_zip r z c
theorem zip_fst {α β γ : Type} {R : α → β → Prop} (f : α → γ) : ∀ {xs : List α} {ys : List β}, Paired R xs ys → (xs.zip ys).map (fun z => f z.1) = xs.map f
  | _, _, .nil => rfl
  | _, _, .cons h r => by rw [List.zip_cons_cons, List.map_cons, List.map_cons, zip_fst f r]
theorem paired_of {α β : Type} {R : α → β → Prop} : ∀ {zs : List (α × β)}, (∀ z ∈ zs, R z.1 z.2) → Paired R (zs.map (·.1)) (zs.map (·.2))
  | [], _ => .nil
  | z :: zs, h => .cons (h z (List.mem_cons_self ..)) (paired_of fun y m => h y (List.mem_cons_of_mem _ m))
theorem zip_snd {α β : Type} {xs : List α} {ys : List β} {z : α × β} (m : z ∈ xs.zip ys) : z.2 ∈ ys := (List.of_mem_zip m).2
/-- needs in a list, put in order: a ground -/
theorem order_needs {K : PySem.W.Frag} {w : World} {H : Hp} {l : Addr} {Q : VK} {rows names : List Str} {as : List Addr} {g : List (List V)} (hl : SqL K H l (as.map V.ref) ∨ SqT K H l (as.map V.ref)) (pg : Paired (fun n its => H n = some (.tup its)) as g)
    (hn : ∀ n ∈ g, NeedV rows names n) (h4 : as.length ≤ 4)
    (k : ∀ (p : Addr) (g' : List (List V)) (H' : Hp), Same H H' → H p = none → Grd H' p g' → (∀ n ∈ g', n ∈ g) → (0 < g.length → 0 < g'.length) → g'.length ≤ g.length → Q (.ref p) H') :
    rSetN K w [V.ref l] H fun v H1 => rSortN K w [v] H1 fun v2 H2 => rTupOf K [v2] H2 Q := by
  have hz : (as.zip g).length = g.length := by rw [List.length_zip, paired_len pg, Nat.min_self]
  refine order_of needD (as.zip g) (by rw [zip_fst V.ref pg]; exact hl) (fun z m => ?_) (fun z m y m' => ?_) (fun z m => ?_) (by rw [hz, ← paired_len pg]; exact h4) fun ys p H' S np ep sub pos le => ?_
  · have hv := hn _ (zip_snd m)
    exact ⟨need_ky hv (paired_zip pg z m), by rw [need_deep hv]; decide⟩
  · exact need_like (hn _ (zip_snd m)) (hn _ (zip_snd m'))
  · exact need_cons (hn _ (zip_snd m))
  · refine k p (ys.map (·.2)) H' S np ⟨ys.map (·.1), by rw [ep, List.map_map]; rfl, paired_of fun z m => S _ _ (paired_zip pg z (sub z m))⟩ (fun n m => ?_) (fun h => by rw [List.length_map]; exact pos (by rw [hz]; exact h)) (by rw [List.length_map, ← hz]; exact le)
    obtain ⟨z, hz2, rfl⟩ := List.mem_map.mp m
    exact zip_snd (sub z hz2)
/-- grounds in a list, put in order -/
theorem order_grounds {K : PySem.W.Frag} {w : World} {H : Hp} {l : Addr} {Q : VK} {rows names : List Str} {as : List Addr} {gs : List (List (List V))} (hl : SqL K H l (as.map V.ref) ∨ SqT K H l (as.map V.ref)) (pg : Paired (fun a g => Grd H a g) as gs)
    (hn : ∀ g ∈ gs, 0 < g.length ∧ ∀ n ∈ g, NeedV rows names n) (h4 : as.length ≤ 4)
    (k : ∀ (p : Addr) (bs : List Addr) (gs' : List (List (List V))) (H' : Hp), Same H H' → H p = none → H' p = some (.tup (bs.map V.ref)) → Paired (fun a g => Grd H' a g) bs gs' → (∀ g ∈ gs', g ∈ gs) → gs'.length ≤ gs.length → Q (.ref p) H') :
    rSetN K w [V.ref l] H fun v H1 => rSortN K w [v] H1 fun v2 H2 => rTupOf K [v2] H2 Q := by
  have hz : (as.zip gs).length = gs.length := by rw [List.length_zip, paired_len pg, Nat.min_self]
  refine order_of grdD (as.zip gs) (by rw [zip_fst V.ref pg]; exact hl) (fun z m => ?_) (fun z m y m' => ?_) (fun z m => ?_) (by rw [hz, ← paired_len pg]; exact h4) fun ys p H' S np ep sub pos le => ?_
  · have hv := (hn _ (zip_snd m)).2
    exact ⟨grd_ky (paired_zip pg z m) hv, Nat.le_trans (grd_deep hv) (by decide)⟩
  · exact grd_like (hn _ (zip_snd m)).2 (hn _ (zip_snd m')).2
  · have h1 := (hn _ (zip_snd m)).1
    cases hg : z.2 with
    | nil => rw [hg] at h1; exact absurd h1 (by decide)
    | cons n r => exact ⟨needD n, r.map needD, by rw [grdD, List.map_cons]⟩
  · refine k p (ys.map (·.1)) (ys.map (·.2)) H' S np (by rw [ep, List.map_map]; rfl) (paired_of fun z m => Grd.ts (paired_zip pg z (sub z m)) (TSame.of S)) (fun n m => ?_) (by rw [List.length_map, ← hz]; exact le)
    obtain ⟨z, hz2, rfl⟩ := List.mem_map.mp m
    exact zip_snd (sub z hz2)
section
variable {P : Program} {w : World} {K : PySem.W.Frag} {mg : Str → Option Value} {base : Heap}
theorem scGround : FnScope ["bag", "rows", "names", "some", "k"] ["bag", "rows", "names"] (defScope sGround) := ⟨rfl, rfl, rfl, by decide +kernel, rfl, by decide +kernel, by decide +kernel⟩
def spGround : Sp := fun vs H Q _ => ∃ (bg r n : Addr) (rows names : List Str), vs = [.ref bg, .ref r, .ref n] ∧ Bag H bg ∧ r ≠ bg ∧ n ≠ bg ∧ H r = some (.tup (rows.map V.str)) ∧ H n = some (.tup (names.map V.str)) ∧ 0 < rows.length ∧ 0 < names.length ∧ rows.length ≤ 20 ∧ names.length ≤ 20 ∧
  ∀ (p : Addr) (g : List (List V)) (H' : Hp), Ext bg H H' → H p = none → Grd H' p g → 0 < g.length → g.length ≤ 3 → (∀ n ∈ g, NeedV rows names n) → Q (.ref p) H'
theorem ok_ground {f fN fS : Addr} {fd fdN fdS : FuncData} (F : Fun K "_law_ground" "_law_ground" sGround f fd) (T : TxtC mg) (CN : Ct P w K mg base "_law_need" 4 ["bag", "rows", "names"] spNeed fN fdN) (C : Ct P w K mg base "_law_some" 2 ["bag", "things"] spSome2 fS fdS) : FnOk P w K mg base CX0 5 f fd ["bag", "rows", "names"] spGround := by
  refine F.ok scGround (fun vs H Q E h => ?_) (fun cdv A outer s H vs Q E hr h => ?_)
  · obtain ⟨bg, r, n, rows, names, rfl, _⟩ := h
    rfl
  · obtain ⟨bg, r, n, rows, names, rfl, hB, rb, nb, er, en, r0, n0, r20, n20, k⟩ := h
    have hr4 : Room 4 (A.deeper (envOfC "_law_ground" (defScope sGround) s.heap.objs.size f cdv)) := hr.mono (by decide)
    have hr2 : Room 2 (A.deeper (envOfC "_law_ground" (defScope sGround) s.heap.objs.size f cdv)) := hr.mono (by decide)
    have hu : (A.deeper (envOfC "_law_ground" (defScope sGround) s.heap.objs.size f cdv)).units + 64 < cLine := by have := hr.3; omega
    refine ⟨_, (pss_cons (ps_setLc (i := 3) (own := [("k", 4)]) (g := gName 4) (by rfl) scGround.nd rfl rfl (sw_true rfl rfl rfl (by decide +kernel))
        (pi_range1 rfl T.b.range (pa_cons (pe_call C.G hr2 (by rfl) C.m C.kp C.b .nil pass0 (pa_cons (pv 0) (pa_cons (pe_lst (pa_cons pe_int (pa_cons pe_int (pa_cons pe_int (pa_cons pe_int (pa_cons pe_int (pa_cons pe_int pa_nil))))))) pa_nil))) pa_nil))
        (blkOk_by (own := [("k", 4)]) (N := ["bag", "rows", "names", "some", "k"]) (sc := defScope sGround) (by decide +kernel)) (fun _ _ _ _ _ => pg_name (i := 4) scGround.nd rfl (Or.inl rfl)) (fun _ _ _ _ _ => pts_nil)
        (fun _ _ _ _ _ => pe_call CN.G hr4 (by rfl) CN.m CN.kp CN.b .nil pass0 (pa_cons (pv 0) (pa_cons (pv 1) (pa_cons (pv 2) pa_nil)))))
      (pss_one (ps_ret (pe_callTy call_tuple_of (by rfl) T.tup (by decide +kernel) (pa_cons (pe_callB (cr_sortN rfl hu) (by rfl) T.sor (by decide +kernel)
        (pa_cons (pe_callTy (cr_setN rfl hu) (by rfl) T.set (by decide +kernel) (pa_cons (pv 3) pa_nil)) pa_nil)) pa_nil))))), ?_⟩
    have sz : ∀ {m : Nat}, m ≤ 900 → m ≤ sizeLine := fun h => Nat.le_of_lt (small1000 (by omega))
    refine ⟨_, rfl, sz (by show 6 ≤ 900; decide), fun q nq => ?_⟩
    have E0 : Ext bg H (upd H q (.lst [.int 1, .int 1, .int 1, .int 2, .int 2, .int 3])) := (Ext.of_same hB Same.refl').new nq
    have qb : q ≠ bg := fun z => hB.there (z ▸ nq)
    refine ⟨bg, q, _, rfl, E0.bag, qb, .inl upd_same, by decide, by decide, fun v H1 mv E1 => ?_⟩
    obtain ⟨z, rfl, z1, z3⟩ := ints_in (ns := [1, 1, 1, 2, 2, 3]) (lo := 1) (hi := 3) (by decide) mv
    have E01 := E0.trans E1
    refine ⟨z, rfl, by omega, by omega, fun D hD => lc_range (fun i G => Ext bg H G ∧ ∃ (as : List Addr) (g : List (List V)), as.length = i ∧ G D = some (.lst (as.map V.ref)) ∧ Paired (fun n its => G n = some (.tup its)) as g ∧ ∀ n ∈ g, NeedV rows names n) ?_ ?_ ?_⟩
    · exact ⟨E01.new hD, [], [], rfl, upd_same, .nil, fun _ z => nomatch z⟩
    · rintro i G hi ⟨E2, as, g, la, gD, pg, hg⟩
      refine ⟨rfl, ?_⟩
      unfold tYes
      dsimp only
      have Db : D ≠ bg := fun z => E01.bag.there (z ▸ hD)
      refine iteT ⟨_, rfl, _, rfl, _, rfl, bg, r, n, rows, names, rfl, E2.bag, rb, nb, E2.keep r _ rb er, E2.keep n _ nb en, r0, n0, r20, n20, fun p xs H3 E3 np ep hv => ?_⟩
      have pD : p ≠ D := fun z => by rw [z, gD] at np; cases np
      have gD3 := E3.keep D _ Db gD
      refine ⟨_, gD3, small1000 (by rw [List.length_map]; omega), ?_, as ++ [p], g ++ [xs], by rw [List.length_append, la]; rfl, by rw [upd_same, List.map_append]; rfl, ?_, ?_⟩
      · exact Ext.write hB (E2.trans E3) (newAt E01 hD)
      · exact paired_snoc (by rw [upd_ne pD]; exact ep) (Paired.mono' (fun a b c => ts_lst gD3 a _ (TSame.ext E2.bag E3 a _ c)) pg)
      · intro m hm
        rcases List.mem_append.mp hm with c | c
        · exact hg m c
        · rw [List.mem_singleton.mp c]; exact hv
    · rintro G ⟨E2, as, g, la, gD, pg, hg⟩
      have lg := paired_len pg
      refine ⟨_, rfl, order_needs (K := K) (w := w) (.inl (SqL.of gD)) pg hg (by omega) fun p g' H' S np hp sub pos le => ?_⟩
      refine k p g' H' (E2.trans (Ext.of_same E2.bag S)) (newAt E2 np) hp (pos (by omega)) (by omega) fun n m => hg n (sub n m)
end
end KaG
set_option maxRecDepth 100000
set_option maxHeartbeats 4000000
namespace KaG
open PySem PySem.Spec PyProof.Rows L2 KaN
/-- a kind, as drawn -/
def KdOk (rs ns : List Str) (k : Kd) : Prop := (1 ≤ k.keep ∧ k.keep ≤ 8 ∧ 0 ≤ k.bar ∧ k.bar ≤ 12 ∧ k.gs.length ≤ 4) ∧ ∀ g ∈ k.gs, 0 < g.length ∧ g.length ≤ 3 ∧ ∀ n ∈ g, NeedV rs ns n
theorem book_ok {rs ns : List Str} {ks : List Kd} (hr : Nms rs) (hn : Nms ns) (r0 : 0 < rs.length) (n0 : 0 < ns.length) (n5 : ns.length ≤ 5) (e : ks.map Kd.name = ns) (h : ∀ k ∈ ks, KdOk rs ns k) : BookOk rs ks := by
  have hl : ks.length = ns.length := by rw [← e, List.length_map]
  subst e
  exact ⟨hr, hn, r0, by omega, by omega, fun k m => ⟨(h k m).1.1, (h k m).1.2.1, (h k m).1.2.2.1, Int.le_trans (h k m).1.2.2.2.1 (by decide), (h k m).1.2.2.2.2⟩, fun k m g mg => (h k m).2 g mg⟩
/-- a list of grounds -/
structure GsAt (H : Hp) (rs ns : List Str) (as : List Addr) (gs : List (List (List V))) : Prop where
  pr : Paired (fun a g => Grd H a g) as gs
  ok : ∀ g ∈ gs, 0 < g.length ∧ g.length ≤ 3 ∧ ∀ n ∈ g, NeedV rs ns n
theorem GsAt.ts {H H' : Hp} {rs ns : List Str} {as : List Addr} {gs : List (List (List V))} (h : GsAt H rs ns as gs) (s : TSame H H') : GsAt H' rs ns as gs := ⟨Paired.mono' (fun a b q => Grd.ts q s) h.pr, h.ok⟩
theorem GsAt.snoc {H : Hp} {rs ns : List Str} {as : List Addr} {gs : List (List (List V))} {a : Addr} {g : List (List V)} (h : GsAt H rs ns as gs) (e : Grd H a g) (o : 0 < g.length ∧ g.length ≤ 3 ∧ ∀ n ∈ g, NeedV rs ns n) : GsAt H rs ns (as ++ [a]) (gs ++ [g]) :=
  ⟨paired_snoc e h.pr, fun x m => by
    rcases List.mem_append.mp m with c | c
    · exact h.ok x c
    · rw [List.mem_singleton.mp c]; exact o⟩
theorem GsAt.nil {H : Hp} {rs ns : List Str} : GsAt H rs ns [] [] := ⟨.nil, fun _ z => nomatch z⟩
theorem paired_take {α β : Type} {R : α → β → Prop} : ∀ (n : Nat) {xs : List α} {ys : List β}, Paired R xs ys → Paired R (xs.take n) (ys.take n)
  | 0, _, _, _ => by rw [List.take_zero, List.take_zero]; exact .nil
  | n + 1, _, _, .nil => by rw [List.take_nil, List.take_nil]; exact .nil
  | n + 1, _, _, .cons h r => by rw [List.take_succ_cons, List.take_succ_cons]; exact .cons h (paired_take n r)
theorem GsAt.cut {H : Hp} {rs ns : List Str} {as : List Addr} {gs : List (List (List V))} (h : GsAt H rs ns as gs) (n : Nat) : GsAt H rs ns (as.take n) (gs.take n) := ⟨paired_take n h.pr, fun g m => h.ok g (List.mem_of_mem_take m)⟩
/-- the kinds so far -/
structure KsAt (H : Hp) (rs ns : List Str) (kas : List Addr) (ks : List Kd) : Prop where
  pr : Paired (fun a k => KdAt H a k) kas ks
  ok : ∀ k ∈ ks, KdOk rs ns k
theorem KsAt.ts {H H' : Hp} {rs ns : List Str} {kas : List Addr} {ks : List Kd} (h : KsAt H rs ns kas ks) (s : TSame H H') : KsAt H' rs ns kas ks := ⟨Paired.mono' (fun a b q => KdAt.ts q s) h.pr, h.ok⟩
theorem KsAt.snoc {H : Hp} {rs ns : List Str} {kas : List Addr} {ks : List Kd} {a : Addr} {k : Kd} (h : KsAt H rs ns kas ks) (e : KdAt H a k) (o : KdOk rs ns k) : KsAt H rs ns (kas ++ [a]) (ks ++ [k]) :=
  ⟨paired_snoc e h.pr, fun x m => by
    rcases List.mem_append.mp m with c | c
    · exact h.ok x c
    · rw [List.mem_singleton.mp c]; exact o⟩
theorem same_ts_new {H : Hp} {p : Addr} {o : HO} (h : H p = none) : TSame H (upd H p o) := TSame.of (same_upd h)
theorem TSame.tr {H H1 H2 : Hp} (s : TSame H H1) (t : TSame H1 H2) : TSame H H2 := fun b xs e => t b xs (s b xs e)
theorem grd_one {H : Hp} {a n : Addr} {its : List V} (e : H a = some (.tup [.ref n])) (e2 : H n = some (.tup its)) : Grd H a [its] := ⟨[n], e, .cons e2 .nil⟩
section
variable {P : Program} {w : World} {K : PySem.W.Frag} {mg : Str → Option Value} {base : Heap}
theorem scAny : FnScope ["bag", "kinds", "rows", "names", "found", "name", "grounds", "k"] ["bag", "kinds", "rows"] (defScope sAny) := ⟨rfl, rfl, rfl, by decide +kernel, rfl, by decide +kernel, by decide +kernel⟩
def spBook (H : Hp) (bg : Addr) (Q : VK) : Prop := ∀ (p : Addr) (rs : List Str) (ks : List Kd) (H' : Hp), Ext bg H H' → H p = none → rs.length ≤ 5 → BookAt H' p rs ks → BookOk rs ks → Q (.ref p) H'
def spAny : Sp := fun vs H Q _ => ∃ (bg : Addr) (n m : Int), vs = [.ref bg, .int n, .int m] ∧ Bag H bg ∧ 1 ≤ n ∧ n ≤ 5 ∧ 1 ≤ m ∧ m ≤ 5 ∧ spBook H bg Q
theorem ok_any {f fM fG fS fT : Addr} {fd fdM fdG fdS fdT : FuncData} (F : Fun K "_law_any_rulebook" "_law_any_rulebook" sAny f fd) (T : TxtC mg) (CN : Ct P w K mg base "_law_named" 3 ["bag", "many"] spNamed fM fdM) (CG : Ct P w K mg base "_law_ground" 5 ["bag", "rows", "names"] spGround fG fdG)
    (C : Ct P w K mg base "_law_some" 2 ["bag", "things"] spSome2 fS fdS) (CT : Ct P w K mg base "_law_take" 1 ["bag", "upto"] spTake fT fdT) : FnOk P w K mg base CX0 6 f fd ["bag", "kinds", "rows"] spAny := by
  refine F.ok scAny (fun vs H Q E h => ?_) (fun cdv A outer s H vs Q E hr h => ?_)
  · obtain ⟨bg, n, m, rfl, _⟩ := h
    rfl
  · obtain ⟨bg, n, m, rfl, hB, n1, n5, m1, m5, k⟩ := h
    have hr5 : Room 5 (A.deeper (envOfC "_law_any_rulebook" (defScope sAny) s.heap.objs.size f cdv)) := hr.mono (by decide)
    have hr3 : Room 3 (A.deeper (envOfC "_law_any_rulebook" (defScope sAny) s.heap.objs.size f cdv)) := hr.mono (by decide)
    have hr2 : Room 2 (A.deeper (envOfC "_law_any_rulebook" (defScope sAny) s.heap.objs.size f cdv)) := hr.mono (by decide)
    have hr1 : Room 1 (A.deeper (envOfC "_law_any_rulebook" (defScope sAny) s.heap.objs.size f cdv)) := hr.mono (by decide)
    have hu : (A.deeper (envOfC "_law_any_rulebook" (defScope sAny) s.heap.objs.size f cdv)).units + 64 < cLine := by have := hr.3; omega
    refine ⟨_, (pss_cons (ps_asg (pe_tup (pa_cons (pe_call CN.G hr3 (by rfl) CN.m CN.kp CN.b .nil pass0 (pa_cons (pv 0) (pa_cons (pe_op op_add pe_int (pe_call CT.G hr1 (by rfl) CT.m CT.kp CT.b .nil pass0 (pa_cons (pv 0) (pa_cons (pv 1) pa_nil)))) pa_nil)))
          (pa_cons (pe_call CN.G hr3 (by rfl) CN.m CN.kp CN.b .nil pass0 (pa_cons (pv 0) (pa_cons (pe_op op_add pe_int (pe_call CT.G hr1 (by rfl) CT.m CT.kp CT.b .nil pass0 (pa_cons (pv 0) (pa_cons (pv 2) pa_nil)))) pa_nil))) pa_nil)))
          (pg_tup (by rfl) (pgs_cons (pg_name (i := 3) scAny.nd rfl (Or.inr rfl)) (pgs_cons (pg_name (i := 2) scAny.nd rfl (Or.inr rfl)) pgs_nil))))
      (pss_cons (ps_set (i := 4) scAny.nd rfl (Or.inl rfl) (pe_lst pa_nil))
      (pss_cons (ps_for PassesOwn.never rfl (pi_tup (pv 3)) (pg_name (i := 5) scAny.nd rfl (Or.inl rfl))
        (pss_cons (ps_setLc (i := 6) (own := [("k", 7)]) (g := gName 7) (by rfl) scAny.nd rfl rfl (sw_true rfl rfl rfl (by decide +kernel))
            (pi_range1 rfl T.b.range (pa_cons (pe_call C.G hr2 (by rfl) C.m C.kp C.b .nil pass0 (pa_cons (pv 0) (pa_cons (pe_lst (pa_cons pe_int (pa_cons pe_int (pa_cons pe_int (pa_cons pe_int (pa_cons pe_int (pa_cons pe_int pa_nil))))))) pa_nil))) pa_nil))
            (blkOk_by (own := [("k", 7)]) (N := ["bag", "kinds", "rows", "names", "found", "name", "grounds", "k"]) (sc := defScope sAny) (by decide +kernel)) (fun _ _ _ _ _ => pg_name (i := 7) scAny.nd rfl (Or.inl rfl)) (fun _ _ _ _ _ => pts_nil)
            (fun _ _ _ _ _ => pe_call CG.G hr5 (by rfl) CG.m CG.kp CG.b .nil pass0 (pa_cons (pv 0) (pa_cons (pv 2) (pa_cons (pv 3) pa_nil)))))
        (pss_cons (ps_if (pt_cmpR op_eq (pe_call CT.G hr1 (by rfl) CT.m CT.kp CT.b .nil pass0 (pa_cons (pv 0) (pa_cons pe_int pa_nil))) pe_int (nomark _))
            (pss_one (ps_set (i := 6) scAny.nd rfl (Or.inl rfl) (pe_op op_cat (pe_slice sl_list (pv 6) po_none (po_some pe_int)) (pe_lst (pa_cons (pe_tup (pa_cons (pe_tup (pa_cons pe_str
              (pa_cons (pe_call C.G hr2 (by rfl) C.m C.kp C.b .nil pass0 (pa_cons (pv 0) (pa_cons (pv 2) pa_nil))) (pa_cons (pe_call CT.G hr1 (by rfl) CT.m CT.kp CT.b .nil pass0 (pa_cons (pv 0) (pa_cons pe_int pa_nil))) (pa_cons pe_int pa_nil))))) pa_nil)) pa_nil))))) pss_nil)
        (pss_one (ps_expr (pe_bm PySem.F.plainAttrs_list PySem.F.slot_list_append PySem.F.type_list_append mt_append (pv 4) (pa_cons (pe_tup (pa_cons (pv 5) (pa_cons (pe_op op_add pe_int (pe_call CT.G hr1 (by rfl) CT.m CT.kp CT.b .nil pass0 (pa_cons (pv 0) (pa_cons pe_int pa_nil))))
            (pa_cons (pe_call C.G hr2 (by rfl) C.m C.kp C.b .nil pass0 (pa_cons (pv 0) (pa_cons (pe_lst (pa_cons pe_int (pa_cons pe_int (pa_cons pe_int (pa_cons pe_int (pa_cons pe_int (pa_cons pe_int pa_nil))))))) pa_nil)))
            (pa_cons (pe_callTy call_tupOf (by rfl) T.tup (by decide +kernel) (pa_cons (pe_callB (cr_sortN rfl hu) (by rfl) T.sor (by decide +kernel) (pa_cons (pe_callTy (cr_setN rfl hu) (by rfl) T.set (by decide +kernel) (pa_cons (pv 6) pa_nil)) pa_nil)) pa_nil)) pa_nil))))) pa_nil)))))))
      (pss_one (ps_ret (pe_tup (pa_cons (pv 2) (pa_cons (pe_callTy call_tuple_of (by rfl) T.tup (by decide +kernel) (pa_cons (pv 4) pa_nil)) pa_nil)))))))), ?_⟩
    have sz : ∀ {m : Nat}, m ≤ 900 → m ≤ sizeLine := fun h => Nat.le_of_lt (small1000 (by omega))
    refine ⟨_, rfl, _, rfl, _, rfl, bg, _, rfl, hB, by omega, by omega, fun z1 H1 E1 a0 a1 => ?_⟩
    refine ⟨_, _, rfl, rfl, bg, _, rfl, E1.bag, by omega, by omega, fun nt ns H2 E2 nnt ent hns lns => ?_⟩
    have E12 := E1.trans E2
    refine ⟨_, rfl, _, rfl, _, rfl, bg, _, rfl, E12.bag, by omega, by omega, fun z2 H3 E3 b0 b1 => ?_⟩
    have E13 := E12.trans E3
    refine ⟨_, _, rfl, rfl, bg, _, rfl, E13.bag, by omega, by omega, fun rt rs H4 E4 nrt ert hrs lrs => ?_⟩
    have E14 := E13.trans E4
    have ntb : nt ≠ bg := fun z => (E1.bag.there) (z ▸ nnt)
    have rtb : rt ≠ bg := fun z => (E13.bag.there) (z ▸ nrt)
    have ent4 := E4.keep nt _ ntb (E3.keep nt _ ntb ent)
    refine ⟨sz (by show 2 ≤ 900; decide), fun t nt' => ?_⟩
    refine ⟨t, _, rfl, SqT.of upd_same, by rfl, _, _, rfl, _, _, rfl, rfl, ?_⟩
    have E15 := E14.new (o := .tup [.ref nt, .ref rt]) nt'
    have e1 := same_upd (o := .tup [.ref nt, .ref rt]) nt' _ _ ent4
    have e2 := same_upd (o := .tup [.ref nt, .ref rt]) nt' _ _ ert
    generalize upd H4 t (.tup [.ref nt, .ref rt]) = H5 at E15 e1 e2 ⊢
    refine ⟨Nat.zero_le _, fun p np => ?_⟩
    have nl : ns.length = (1 + z1).toNat := lns
    have rl : rs.length = (1 + z2).toNat := lrs
    have pH : H p = none := newAt E15 np
    have pb : p ≠ bg := fun z => hB.there (z ▸ pH)
    refine ⟨_, rfl, nt, rfl, ⟨_, SqT.of (same_upd np _ _ e1)⟩, for_tup (K := K) (a := nt) (xs := ns.map V.str) (fun i σ' G => (∃ x5 x6 x7 : Option V, σ' = [some (.ref bg), some (.int n), some (.ref rt), some (.ref nt), some (.ref p), x5, x6, x7]) ∧ Ext bg H G ∧ G nt = some (.tup (ns.map V.str)) ∧ G rt = some (.tup (rs.map V.str)) ∧
      ∃ (kas : List Addr) (ks : List Kd), G p = some (.lst (kas.map V.ref)) ∧ KsAt G rs ns kas ks ∧ ks.map Kd.name = ns.take i) ?_ ?_ ?_ ?_⟩
    · exact ⟨⟨_, _, _, rfl⟩, E15.new np, same_upd np _ _ e1, same_upd np _ _ e2, [], [], upd_same, ⟨.nil, fun _ z => nomatch z⟩, rfl⟩
    · rintro i σ' G _ ⟨_, _, g1, _⟩
      exact SqT.of g1
    · rintro i x σ' G hx ⟨⟨x5, x6, x7, rfl⟩, E6, g1, g2, kas, ks, gp, hk, en⟩
      rw [List.getElem?_map] at hx
      obtain ⟨nm, hnm, rfl⟩ := Option.map_eq_some_iff.mp hx
      refine ⟨_, rfl, sz (by show 6 ≤ 900; decide), fun q nq => ?_⟩
      have qb : q ≠ bg := fun z => E6.bag.there (z ▸ nq)
      have E7 := E6.new (o := .lst [.int 1, .int 2, .int 2, .int 3, .int 4, .int 0]) nq
      refine ⟨bg, q, _, rfl, E7.bag, qb, .inl upd_same, by decide, by decide, fun v H7 mv E8 => ?_⟩
      obtain ⟨z, rfl, z0, z4⟩ := ints_in (ns := [1, 2, 2, 3, 4, 0]) (lo := 0) (hi := 4) (by decide) mv
      have E68 := E7.trans E8
      have old : ∀ c o, c ≠ bg → G c = some o → H7 c = some o := fun c o cb e => E8.keep c o cb (same_upd nq _ _ e)
      have f1 := old nt _ ntb g1
      have f2 := old rt _ rtb g2
      have f3 := old p _ pb gp
      have hk7 : KsAt H7 rs ns kas ks := hk.ts ((same_ts_new nq).tr (TSame.ext E7.bag E8))
      refine ⟨z, rfl, by omega, by omega, fun D hD => lc_range (fun j G2 => Ext bg H7 G2 ∧ ∃ (as : List Addr) (gs : List (List (List V))), as.length = j ∧ G2 D = some (.lst (as.map V.ref)) ∧ GsAt G2 rs ns as gs) ?_ ?_ ?_⟩
      · exact ⟨(Ext.of_same E68.bag Same.refl').new hD, [], [], rfl, upd_same, GsAt.nil⟩
      · rintro j G2 hj ⟨E9, as, gs, la, gD, hg⟩
        refine ⟨rfl, ?_⟩
        unfold tYes
        dsimp only
        have Db : D ≠ bg := fun z => E68.bag.there (z ▸ hD)
        refine iteT ⟨_, rfl, _, rfl, _, rfl, bg, rt, nt, rs, ns, rfl, E9.bag, rtb, ntb, E9.keep rt _ rtb f2, E9.keep nt _ ntb f1, by omega, by omega, by omega, by omega, fun a g G3 E10 na ha p1 p2 p3 => ?_⟩
        have gD3 := E10.keep D _ Db gD
        refine ⟨_, gD3, small1000 (by rw [List.length_map]; omega), ?_, as ++ [a], gs ++ [g], by rw [List.length_append, la]; rfl, by rw [upd_same, List.map_append]; rfl, ?_⟩
        · exact Ext.write E68.bag (E9.trans E10) hD
        · exact ((hg.ts (TSame.ext E9.bag E10)).snoc ha ⟨p1, p2, p3⟩).ts (ts_lst gD3)
      · rintro G2 ⟨E9, as, gs, la, gD, hg⟩
        have pD : p ≠ D := fun z => by rw [← z, f3] at hD; cases hD
        have l4 : as.length ≤ 4 := by omega
        dsimp only [gName]
        refine seqGo (fun b D' => ∀ (ga : Addr) (bs : List Addr) (hs : List (List (List V))) (G4 : Hp), Ext bg H7 G4 → G4 ga = some (.lst (bs.map V.ref)) → GsAt G4 rs ns bs hs → bs.length ≤ 4 →
          b D' [some (.ref bg), some (.int n), some (.ref rt), some (.ref nt), some (.ref p), some (.str nm), some (.ref ga), x7] G4) (fun ga bs hs G4 E11 gg hgs lb => ?_) (fun rest => ?_)
        · have gp4 := E11.keep p _ pb f3
          refine ⟨_, rfl, .inl ⟨rfl, _, SqL.of gp4⟩, _, rfl, _, rfl, bg, 8, rfl, E11.bag, by decide, by decide, fun y1 G5 E12 c0 c1 => ?_⟩
          refine ⟨_, _, rfl, rfl, _, rfl, sz (by show 6 ≤ 900; decide), fun q2 nq2 => ?_⟩
          have E13 := E12.new (o := .lst [.int 0, .int 0, .int 1, .int 2, .int 5, .int 12]) nq2
          have q2b : q2 ≠ bg := fun z => E12.bag.there (z ▸ nq2)
          refine ⟨bg, q2, _, rfl, E13.bag, q2b, .inl upd_same, by decide, by decide, fun v2 G6 mv2 E14 => ?_⟩
          obtain ⟨bar, rfl, bar0, bar12⟩ := ints_in (ns := [0, 0, 1, 2, 5, 12]) (lo := 0) (hi := 12) (by decide) mv2
          have E15 := E13.trans E14
          have gab : ga ≠ bg := fun z => by
            obtain ⟨c, st, i, b2, ms, e, _⟩ := E11.bag
            rw [← z, gg] at e
            injection e with e; injection e with e
            match bs, e with
            | [], e => cases e
            | _ :: _, e => rw [List.map_cons] at e; injection e with e; cases e
          have hgs6 := hgs.ts (TSame.ext E11.bag E15)
          refine ⟨_, rfl, ?_⟩
          dsimp only [tCB, tCons, tNil]
          refine order_grounds (K := K) (w := w) (rows := rs) (names := ns) (.inl (SqL.of (E15.keep ga _ gab gg))) hgs6.pr (fun g m => ⟨(hgs6.ok g m).1, (hgs6.ok g m).2.2⟩) lb fun a2 bs2 gs2 G7 S na2 ea2 pr2 sub le => ?_
          have gp7 := S _ _ (E15.keep p _ pb gp4)
          refine ⟨sz (by show 4 ≤ 900; decide), fun ka nka => ?_⟩
          have S8 := same_upd (o := .tup [.str nm, .int (1 + y1), .int bar, .ref a2]) nka
          have hli := paired_len hk.pr
          have hik : ks.length = i := by
            have := congrArg List.length en
            rw [List.length_map, List.length_take] at this
            have hi := (List.getElem?_eq_some_iff.mp hnm).1
            omega
          have hi := (List.getElem?_eq_some_iff.mp hnm).1
          refine ⟨p, _, _, rfl, rfl, S8 _ _ gp7, small1000 (by rw [List.length_map]; omega), ?_⟩
          have E17 : Ext bg H7 (upd G7 ka (.tup [.str nm, .int (1 + y1), .int bar, .ref a2])) := ((E11.trans E15).trans (Ext.of_same E15.bag S)).new nka
          have T7 : TSame H7 (upd G7 ka (.tup [.str nm, .int (1 + y1), .int bar, .ref a2])) := TSame.ext E68.bag E17
          have tw := ts_lst (ys := kas.map V.ref ++ [.ref ka]) (S8 _ _ gp7)
          have lens : gs2.length ≤ 4 := by have := paired_len hgs.pr; omega
          refine ⟨⟨_, _, _, rfl⟩, Ext.write hB (E68.trans E17) pH, tw _ _ (T7 _ _ f1), tw _ _ (T7 _ _ f2), kas ++ [ka], ks ++ [⟨nm, 1 + y1, bar, gs2⟩], by rw [upd_same, List.map_append]; rfl, ?_, ?_⟩
          · refine (((hk7.ts T7).snoc ?_ ?_).ts tw)
            · exact ⟨a2, bs2, upd_same, S8 _ _ ea2, Paired.mono' (fun a b q => Grd.ts q (TSame.of S8)) pr2⟩
            · exact ⟨⟨by show 1 ≤ 1 + y1; omega, by show 1 + y1 ≤ 8; omega, bar0, bar12, lens⟩, fun g m => hgs.ok g (sub g m)⟩
          · rw [List.map_append, en, List.take_add_one, hnm]; rfl
        · have Db : D ≠ bg := fun z => E68.bag.there (z ▸ hD)
          refine ⟨_, rfl, bg, 3, rfl, E9.bag, by decide, by decide, fun y G3 E10 c0 c1 => ?_⟩
          have gD3 := E10.keep D _ Db gD
          have hg3 := hg.ts (TSame.ext E9.bag E10)
          have E93 := E9.trans E10
          refine ⟨rfl, _, rfl, ite2 (fun hc => ?_) fun hc => ?_⟩
          · refine ⟨_, rfl, _, rfl, _, _, rfl, SqL.of gD3, fun r nr => ?_⟩
            rw [cut_to _ 3 (by decide), ← List.map_take, show (3 : Int).toNat = 3 from rfl]
            have Er := E93.new (o := .lst ((as.take 3).map V.ref)) nr
            have hgr := hg3.ts (same_ts_new (o := .lst ((as.take 3).map V.ref)) nr)
            have rb : r ≠ bg := fun z => E93.bag.there (z ▸ nr)
            have gr : (upd G3 r (.lst ((as.take 3).map V.ref))) r = some (.lst ((as.take 3).map V.ref)) := upd_same
            have hrt := Er.keep rt _ rtb f2
            generalize upd G3 r (.lst ((as.take 3).map V.ref)) = G5 at Er hgr gr hrt ⊢
            refine ⟨_, rfl, _, rfl, bg, rt, rs.map V.str, rfl, Er.bag, rtb, .inr hrt, by rw [List.length_map]; omega, by rw [List.length_map]; omega, fun v2 G6 mv2 E12 => ?_⟩
            obtain ⟨x, rfl, hxr⟩ := strs_in mv2
            refine ⟨_, rfl, bg, 5, rfl, E12.bag, by decide, by decide, fun y2 G7 E13 d0 d1 => ?_⟩
            have E57 := E12.trans E13
            have gr7 := E57.keep r _ rb gr
            have hg7 := hgr.ts (TSame.ext Er.bag E57)
            have E97 := Er.trans E57
            refine ⟨sz (by show 4 ≤ 900; decide), fun na nna => ⟨sz (by show 1 ≤ 900; decide), fun ga nga => ⟨sz (by show 1 ≤ 900; decide), fun l nl2 => ?_⟩⟩⟩
            have S1 := same_upd (o := .tup [.str "row", .str x, .int y2, .int 9]) nna
            have S2 := KaG.Same.tr S1 (same_upd (o := .tup [.ref na]) nga)
            have S3 := KaG.Same.tr S2 (same_upd (o := .lst [.ref ga]) nl2)
            have h1 : (upd (upd (upd G7 na (.tup [.str "row", .str x, .int y2, .int 9])) ga (.tup [.ref na])) l (.lst [.ref ga])) na = some (.tup [.str "row", .str x, .int y2, .int 9]) := KaG.Same.tr (same_upd nga) (same_upd nl2) _ _ upd_same
            have h2 : (upd (upd (upd G7 na (.tup [.str "row", .str x, .int y2, .int 9])) ga (.tup [.ref na])) l (.lst [.ref ga])) ga = some (.tup [.ref na]) := same_upd nl2 _ _ upd_same
            have h3 : (upd (upd (upd G7 na (.tup [.str "row", .str x, .int y2, .int 9])) ga (.tup [.ref na])) l (.lst [.ref ga])) l = some (.lst [.ref ga]) := upd_same
            generalize upd (upd (upd G7 na (.tup [.str "row", .str x, .int y2, .int 9])) ga (.tup [.ref na])) l (.lst [.ref ga]) = G8 at S3 h1 h2 h3 ⊢
            refine ⟨_, _, _, _, rfl, rfl, S3 _ _ gr7, h3, sz (by rw [List.length_map, List.length_take]; show _ + 1 ≤ 900; omega), fun q3 nq3 => ?_⟩
            have S4 := KaG.Same.tr S3 (same_upd (o := .lst ((as.take 3).map V.ref ++ [.ref ga])) nq3)
            refine rest q3 (as.take 3 ++ [ga]) (gs.take 3 ++ [[[.str "row", .str x, .int y2, .int 9]]]) _ (E97.trans (Ext.of_same E97.bag S4)) (by rw [upd_same, List.map_append]; rfl) ?_ (by rw [List.length_append, List.length_take]; show _ + 1 ≤ 4; omega)
            refine ((hg7.ts (TSame.of S4)).cut 3).snoc (grd_one (same_upd nq3 _ _ h2) (same_upd nq3 _ _ h1)) ⟨by show 0 < 1; decide, by show 1 ≤ 3; decide, fun n2 m2 => ?_⟩
            rw [List.mem_singleton.mp m2]
            exact .row x y2 9 hxr d0 (by omega) (by decide) (by decide)
          · exact rest D as gs G3 E93 gD3 hg3 l4
    · rintro σ' G ⟨⟨x5, x6, x7, rfl⟩, E6, g1, g2, kas, ks, gp, hk, en⟩
      rw [List.length_map, List.take_length] at en
      refine ⟨_, rfl, _, rfl, p, _, rfl, .inl ⟨SqL.of gp, fun q nq => ?_⟩⟩
      refine ⟨sz (by show 2 ≤ 900; decide), fun b nb => ?_⟩
      have S1 := same_upd (o := .tup (kas.map V.ref)) nq
      have S2 := KaG.Same.tr S1 (same_upd (o := .tup [.ref rt, .ref q]) nb)
      refine k b rs ks _ (E6.trans (Ext.of_same E6.bag S2)) (newAt (E6.trans (Ext.of_same E6.bag S1)) nb) (by omega) ⟨rt, q, kas, upd_same, S2 _ _ g2, same_upd nb _ _ upd_same, (hk.ts (TSame.of S2)).pr⟩ ?_
      exact book_ok hrs hns (by omega) (by omega) (by omega) en hk.ok
end
end KaG
set_option maxRecDepth 100000
set_option maxHeartbeats 4000000
namespace KaG
open PySem PySem.Spec PyProof.Rows L2 KaN
theorem set_same {α : Type} : ∀ {l : List α} {j : Nat} {x : α}, l[j]? = some x → l.set j x = l
  | [], _, _, _ => rfl
  | y :: l, 0, x, e => by cases e; rfl
  | y :: l, j + 1, x, e => by rw [List.set_cons_succ, set_same (show l[j]? = some x from e)]
theorem at_str {ns : List Str} {z : Int} (h0 : 0 ≤ z) (h1 : z < ns.length) : ∃ x ∈ ns, atI (ns.map V.str) z = some (.str x) := by
  obtain ⟨j, rfl⟩ := Int.eq_ofNat_of_zero_le h0
  have hj : j < ns.length := by omega
  exact ⟨ns[j], List.getElem_mem hj, atI_nat (by rw [List.getElem?_map, List.getElem?_eq_getElem hj]; rfl)⟩
theorem ifGo {tt : TT} {b e : TS} {D : Ends} {σ : L2.St} {H : Hp} (R : Hp → Prop) (hb : ∀ M, R M → b D σ M) (he : ∀ M, R M → e D σ M) (hm : ∀ Q : Bool → Hp → Prop, (∀ c M, R M → Q c M) → tt σ H Q) : tIfS tt b e D σ H :=
  hm _ fun c M r => by
    cases c
    · exact iteF (he M r)
    · exact iteT (hb M r)
theorem pickGo {tt : TT} {ta tb : TE} {σ : L2.St} {H : Hp} {Q : VK} (R : V → Prop) (k : ∀ v, R v → Q v H) (ht : ∀ Q' : Bool → Hp → Prop, (∀ c, Q' c H) → tt σ H Q') (ha : ∀ Q' : VK, (∀ v, R v → Q' v H) → ta σ H Q') (hb : ∀ Q' : VK, (∀ v, R v → Q' v H) → tb σ H Q') : tIf tt ta tb σ H Q :=
  ht _ fun c => by
    cases c
    · exact iteF (hb _ k)
    · exact iteT (ha _ k)
/-- a kind while it is made: a list, with the list of its grounds -/
structure KlAt (H0 H : Hp) (bg p : Addr) (rs ns : List Str) (l : Addr) (d : Kd) (gl : Addr) (as : List Addr) : Prop where
  at_ : H l = some (.lst [.str d.name, .int d.keep, .int d.bar, .ref gl])
  gat : H gl = some (.lst (as.map V.ref))
  gs : GsAt H rs ns as d.gs
  ln : H0 l = none
  lb : l ≠ bg
  lp : l ≠ p
  gb : gl ≠ bg
  gp : gl ≠ p
abbrev Kl (H0 H : Hp) (bg p : Addr) (rs ns : List Str) (l : Addr) (d : Kd) : Prop := ∃ gl as, KlAt H0 H bg p rs ns l d gl as
theorem lst_ne {H : Hp} {a b : Addr} {xs : List Addr} {s : Str} {r : List V} (e : H a = some (.lst (xs.map V.ref))) (f : H b = some (.lst (.str s :: r))) : a ≠ b := fun z => by
  rw [z, f] at e
  injection e with e
  injection e with e
  cases xs with
  | nil => cases e
  | cons x xs => rw [List.map_cons] at e; injection e with e; cases e
theorem Kl.mono {H0 H H' : Hp} {bg p : Addr} {rs ns : List Str} {l : Addr} {d : Kd} (h : Kl H0 H bg p rs ns l d) (t : TSame H H') (k : ∀ b o, b ≠ bg → b ≠ p → H b = some o → H' b = some o) : Kl H0 H' bg p rs ns l d := by
  obtain ⟨gl, as, q⟩ := h
  exact ⟨gl, as, k _ _ q.lb q.lp q.at_, k _ _ q.gb q.gp q.gat, q.gs.ts t, q.ln, q.lb, q.lp, q.gb, q.gp⟩
def KlOk (m : Nat) (d : Kd) : Prop := 1 ≤ d.keep ∧ d.keep ≤ 8 ∧ 0 ≤ d.bar ∧ d.bar ≤ 12 ∧ d.gs.length ≤ m
structure FAt (H0 H : Hp) (bg p : Addr) (rs ns : List Str) (m : Nat) (ls : List Addr) (ds : List Kd) : Prop where
  at_ : H p = some (.lst (ls.map V.ref))
  pr : Paired (fun l d => Kl H0 H bg p rs ns l d) ls ds
  nd : ls.Nodup
  ok : ∀ d ∈ ds, KlOk m d
theorem FAt.ext {H0 H H' : Hp} {bg p : Addr} {rs ns : List Str} {m : Nat} {ls : List Addr} {ds : List Kd} (h : FAt H0 H bg p rs ns m ls ds) (pb : p ≠ bg) (hb : Bag H bg) (E : Ext bg H H') : FAt H0 H' bg p rs ns m ls ds :=
  ⟨E.keep _ _ pb h.at_, Paired.mono' (fun l d q => Kl.mono q (TSame.ext hb E) fun b o n1 _ e => E.keep b o n1 e) h.pr, h.nd, h.ok⟩
theorem paired_there {α β : Type} {R : α → β → Prop} {C : α → Prop} (hc : ∀ a b, R a b → C a) : ∀ {xs : List α} {ys : List β}, Paired R xs ys → ∀ a ∈ xs, C a
  | _, _, .nil, _, m => by cases m
  | _, _, .cons h r, a, m => by
    rcases List.mem_cons.mp m with c | c
    · rw [c]; exact hc _ _ h
    · exact paired_there hc r a c
theorem FAt.snoc {H0 H : Hp} {bg p : Addr} {rs ns : List Str} {m : Nat} {ls : List Addr} {ds : List Kd} {l : Addr} {d : Kd} (h : FAt H0 H bg p rs ns m ls ds) (q : Kl H0 H bg p rs ns l d) (o : KlOk m d) (n : l ∉ ls) : FAt H0 (upd H p (.lst (ls.map V.ref ++ [.ref l]))) bg p rs ns m (ls ++ [l]) (ds ++ [d]) :=
  ⟨by rw [upd_same, List.map_append]; rfl, Paired.mono' (fun l d q => Kl.mono q (ts_lst h.at_) fun b o _ n2 e => by rw [upd_ne n2]; exact e) (paired_snoc q h.pr),
    by rw [List.nodup_append]; exact ⟨h.nd, by simp, fun a m b m2 => by rw [List.mem_singleton.mp m2]; exact fun z => n (z ▸ m)⟩, fun x m => by
    rcases List.mem_append.mp m with c | c
    · exact h.ok x c
    · rw [List.mem_singleton.mp c]; exact o⟩
theorem paired_set {α β : Type} {R S : α → β → Prop} : ∀ {xs : List α} {ys : List β} (j : Nat) (y : β), Paired R xs ys → (∀ i x z, xs[i]? = some x → ys[i]? = some z → i ≠ j → R x z → S x z) → (∀ x, xs[j]? = some x → S x y) → Paired S xs (ys.set j y)
  | _, _, _, _, .nil, _, _ => .nil
  | _, _, 0, y, .cons h r, f, g => by
    rw [List.set_cons_zero]
    refine .cons (g _ rfl) ?_
    have go : ∀ {as : List α} {bs : List β} (n : Nat), Paired R as bs → (∀ (i : Nat) (x : α) (z : β), as[i]? = some x → bs[i]? = some z → R x z → S x z) → Paired S as bs := by
      intro as bs n q
      induction q with
      | nil => exact fun _ => .nil
      | cons h _ ih => exact fun f => .cons (f 0 _ _ rfl rfl h) (ih fun i x z e1 e2 => f (i + 1) x z e1 e2)
    exact go 0 r fun i x z e1 e2 => f (i + 1) x z e1 e2 (Nat.succ_ne_zero i)
  | _, _, j + 1, y, .cons h r, f, g => by
    rw [List.set_cons_succ]
    exact .cons (f 0 _ _ rfl rfl (Nat.succ_ne_zero j).symm h) (paired_set j y r (fun i x z e1 e2 n => f (i + 1) x z e1 e2 (by omega)) fun x e => g x e)
/-- the list of one kind's grounds exchanged -/
theorem FAt.put {H0 H : Hp} {bg p : Addr} {rs ns : List Str} {m : Nat} {ls : List Addr} {ds : List Kd} {l q : Addr} {d : Kd} {as : List Addr} {gs : List (List (List V))} {j : Nat} (h : FAt H0 H bg p rs ns m ls ds) (hl : ls[j]? = some l) (hd : ds[j]? = some d)
    (hq : H q = some (.lst (as.map V.ref))) (g : GsAt H rs ns as gs) (qb : q ≠ bg) (qp : q ≠ p) (n : gs.length ≤ m) :
    FAt H0 (upd H l (.lst [.str d.name, .int d.keep, .int d.bar, .ref q])) bg p rs ns m ls (ds.set j { d with gs := gs }) := by
  obtain ⟨d1, e1, gl, as1, k⟩ := paired_at h.pr hl
  rw [hd] at e1
  cases e1
  have tl : TSame H (upd H l (.lst [.str d.name, .int d.keep, .int d.bar, .ref q])) := ts_lst k.at_
  have ql : q ≠ l := lst_ne hq k.at_
  refine ⟨by rw [upd_ne k.lp.symm]; exact h.at_, paired_set j _ h.pr (fun i x z e1 e2 nij k2 => ?_) fun x e => ?_, h.nd, fun x hx => ?_⟩
  · obtain ⟨gl2, as2, k2⟩ := k2
    have xl : x ≠ l := fun z => by
      subst z
      have h1 := (List.getElem?_eq_some_iff.mp e1).1
      have h2 := (List.getElem?_eq_some_iff.mp hl).1
      exact nij ((List.getElem_inj (h₀ := h1) (h₁ := h2) h.nd).mp ((List.getElem?_eq_some_iff.mp e1).2.trans (List.getElem?_eq_some_iff.mp hl).2.symm))
    exact ⟨gl2, as2, by rw [upd_ne xl]; exact k2.at_, by rw [upd_ne (lst_ne k2.gat k.at_)]; exact k2.gat, k2.gs.ts tl, k2.ln, k2.lb, k2.lp, k2.gb, k2.gp⟩
  · rw [hl] at e
    cases e
    exact ⟨q, as, upd_same, by rw [upd_ne ql]; exact hq, g.ts tl, k.ln, k.lb, k.lp, qb, qp⟩
  · rcases List.mem_or_eq_of_mem_set hx with c | c
    · exact h.ok x c
    · rw [c]
      have o := h.ok d (List.mem_of_getElem? hd)
      exact ⟨o.1, o.2.1, o.2.2.1, o.2.2.2.1, n⟩
theorem FAt.wide {H0 H : Hp} {bg p : Addr} {rs ns : List Str} {m m' : Nat} {ls : List Addr} {ds : List Kd} (h : FAt H0 H bg p rs ns m ls ds) (n : m ≤ m') : FAt H0 H bg p rs ns m' ls ds :=
  ⟨h.at_, h.pr, h.nd, fun d x => let ⟨a, b, c, e, f⟩ := h.ok d x; ⟨a, b, c, e, Nat.le_trans f n⟩⟩
def rLstOf (K : PySem.W.Frag) : List V → Hp → VK → Prop := fun xs H Q => ∃ p ys, xs = [.ref p] ∧ (SqL K H p ys ∨ SqT K H p ys) ∧ ∀ l, H l = none → Q (.ref l) (upd H l (.lst ys))
theorem call_lstOf {X : Cx} : CallR X (.type "list") (rLstOf X.K) := call_list_of
section
variable {P : Program} {w : World} {K : PySem.W.Frag} {mg : Str → Option Value} {base : Heap}
abbrev nmPl : List Str := ["bag", "sort", "kinds", "names", "rows", "found", "ring", "k", "after", "tells", "tell", "giver", "grounds", "kind", "kept", "ground", "name", "keep", "bar"]
theorem scPl : FnScope nmPl ["bag", "sort", "kinds"] (defScope sPlanted) := ⟨rfl, rfl, rfl, by decide +kernel, rfl, by decide +kernel, by decide +kernel⟩
def spPl : Sp := fun vs H Q _ => ∃ (bg : Addr) (so : Str) (n : Int), vs = [.ref bg, .str so, .int n] ∧ Bag H bg ∧ (so = "ever" ∨ so = "longer" ∨ so = "gone" ∨ so = "none") ∧ 1 ≤ n ∧ n ≤ 5 ∧ spBook H bg Q
theorem ok_pl {f fM fG fO fS fT : Addr} {fd fdM fdG fdO fdS fdT : FuncData} (F : Fun K "_law_planted" "_law_planted" sPlanted f fd) (T : TxtC mg) (CN : Ct P w K mg base "_law_named" 3 ["bag", "many"] spNamed fM fdM) (CG : Ct P w K mg base "_law_ground" 5 ["bag", "rows", "names"] spGround fG fdG)
    (CO : Ct P w K mg base "_law_more_needs" 3 ["bag", "sort", "rows"] spMore fO fdO) (C : Ct P w K mg base "_law_some" 2 ["bag", "things"] spSome2 fS fdS) (CT : Ct P w K mg base "_law_take" 1 ["bag", "upto"] spTake fT fdT) : FnOk P w K mg base CX0 6 f fd ["bag", "sort", "kinds"] spPl := by
  refine F.ok scPl (fun vs H Q E h => ?_) (fun cdv A outer s H vs Q E hr h => ?_)
  · obtain ⟨bg, so, n, rfl, _⟩ := h
    rfl
  · obtain ⟨bg, so, n, rfl, hB, hso, n1, n5, k⟩ := h
    have hr5 : Room 5 (A.deeper (envOfC "_law_planted" (defScope sPlanted) s.heap.objs.size f cdv)) := hr.mono (by decide)
    have hr3 : Room 3 (A.deeper (envOfC "_law_planted" (defScope sPlanted) s.heap.objs.size f cdv)) := hr.mono (by decide)
    have hr2 : Room 2 (A.deeper (envOfC "_law_planted" (defScope sPlanted) s.heap.objs.size f cdv)) := hr.mono (by decide)
    have hr1 : Room 1 (A.deeper (envOfC "_law_planted" (defScope sPlanted) s.heap.objs.size f cdv)) := hr.mono (by decide)
    have hu : (A.deeper (envOfC "_law_planted" (defScope sPlanted) s.heap.objs.size f cdv)).units + 64 < cLine := by have := hr.3; omega
    have u1 : (A.deeper (envOfC "_law_planted" (defScope sPlanted) s.heap.objs.size f cdv)).units + 1 < cLine := by have := hr.3; omega
    refine ⟨_, (pss_cons (ps_asg (pe_tup (pa_cons (pe_call CN.G hr3 (by rfl) CN.m CN.kp CN.b .nil pass0 (pa_cons (pv 0) (pa_cons (pe_op op_add pe_int (pe_call CT.G hr1 (by rfl) CT.m CT.kp CT.b .nil pass0 (pa_cons (pv 0) (pa_cons (pv 2) pa_nil)))) pa_nil)))
          (pa_cons (pe_call CN.G hr3 (by rfl) CN.m CN.kp CN.b .nil pass0 (pa_cons (pv 0) (pa_cons pe_int pa_nil))) pa_nil)))
          (pg_tup (by rfl) (pgs_cons (pg_name (i := 3) scPl.nd rfl (Or.inr rfl)) (pgs_cons (pg_name (i := 4) scPl.nd rfl (Or.inr rfl)) pgs_nil))))
      (pss_cons (ps_par (i := 5) (j := 6) rfl scPl.nd rfl rfl (by decide) rfl rfl (pa_cons (pe_lst pa_nil) (pa_cons (pe_op op_add pe_int (pe_call CT.G hr1 (by rfl) CT.m CT.kp CT.b .nil pass0 (pa_cons (pv 0) (pa_cons (pe_callB call_len_seq (by rfl) T.b.len PySem.boot_len (pa_cons (pv 3) pa_nil)) pa_nil)))) pa_nil)) (by rfl))
      (pss_cons (ps_for PassesOwn.never rfl (pi_range1 rfl T.b.range (pa_cons (pe_callB call_len_seq (by rfl) T.b.len PySem.boot_len (pa_cons (pv 3) pa_nil)) pa_nil)) (pg_name (i := 7) scPl.nd rfl (Or.inl rfl))
        (pss_cons (ps_set (i := 8) scPl.nd rfl (Or.inl rfl) (pe_op op_add pe_int (pe_call CT.G hr1 (by rfl) CT.m CT.kp CT.b .nil pass0 (pa_cons (pv 0) (pa_cons pe_int pa_nil)))))
        (pss_cons (ps_set (i := 9) scPl.nd rfl (Or.inl rfl) (pe_disp (pps_cons pe_str (pe_op op_add (pv 8) (pe_call CT.G hr1 (by rfl) CT.m CT.kp CT.b .nil pass0 (pa_cons (pv 0) (pa_cons (pe_op op_sub pe_int (pv 8)) pa_nil))))
            (pps_cons pe_str (pe_call CT.G hr1 (by rfl) CT.m CT.kp CT.b .nil pass0 (pa_cons (pv 0) (pa_cons (pv 8) pa_nil))) (pps_cons pe_str pe_int (pps_cons pe_str pe_int pps_nil)))) rfl rfl (by decide) (by decide)))
        (pss_cons (ps_set (i := 10) scPl.nd rfl (Or.inl rfl) (pe_dget u1 (pv 9) (pv 1) (fun _ _ => rfl)))
        (pss_cons (ps_set (i := 11) scPl.nd rfl (Or.inl rfl) (pe_ifExp (pt_cmpR op_gt (pv 7) pe_int (nomark _)) (pe_ix ix_tup (pv 3) (pe_op op_sub (pv 7) pe_int) (fun _ _ => rfl)) (pe_ix ix_tup (pv 3) (pe_op op_sub (pv 6) pe_int) (fun _ _ => rfl))))
        (pss_cons (ps_if (PW.pt (pw_and (pt_cmpR op_eq (pv 1) pe_str (nomark _)) (pw_and1 (pt_cmpR op_eq (pv 7) pe_int (nomark _)))))
          (pss_one (ps_par (i := 8) (j := 10) rfl scPl.nd rfl rfl (by decide) rfl rfl (pa_cons (pe_op op_add pe_int (pe_call CT.G hr1 (by rfl) CT.m CT.kp CT.b .nil pass0 (pa_cons (pv 0) (pa_cons pe_int pa_nil)))) (pa_cons pe_int pa_nil)) (by rfl))) pss_nil)
        (pss_cons (ps_set (i := 12) scPl.nd rfl (Or.inl rfl) (pe_lst (pa_cons (pe_tup (pa_cons (pe_tup (pa_cons pe_str (pa_cons (pv 11) (pa_cons (pv 8) (pa_cons (pv 10) (pa_cons pe_int pa_nil)))))) pa_nil)) pa_nil)))
        (pss_cons (ps_if (PW.pt (pw_or (pt_cmpR op_eq (pv 7) pe_int (nomark _)) (pw_or1 (PW.pt (pw_and (pt_cmpR op_eq (pv 1) pe_str (nomark _)) (pw_and1 (pt_cmpR op_eq (pe_call CT.G hr1 (by rfl) CT.m CT.kp CT.b .nil pass0 (pa_cons (pv 0) (pa_cons pe_int pa_nil))) pe_int (nomark _))))))))
          (pss_one (ps_expr (pe_bm PySem.F.plainAttrs_list PySem.F.slot_list_append PySem.F.type_list_append mt_append (pv 12) (pa_cons (pe_tup (pa_cons (pe_tup (pa_cons pe_str (pa_cons (pe_ifExp (pt_cmpR op_ne (pv 1) pe_str (nomark _)) (pe_ix ix_tup (pv 4) pe_int (fun _ _ => rfl)) (pe_ix ix_tup (pv 4) pe_int (fun _ _ => rfl)))
              (pa_cons (pe_call CT.G hr1 (by rfl) CT.m CT.kp CT.b .nil pass0 (pa_cons (pv 0) (pa_cons pe_int pa_nil))) (pa_cons pe_int pa_nil))))) pa_nil)) pa_nil)))) pss_nil)
        (pss_cons (ps_setLc (i := 12) (own := [("ground", 15)]) (g := gName 15) (by rfl) scPl.nd rfl rfl (sw_true rfl rfl rfl (by decide +kernel)) (pi_list (pv 12))
            (blkOk_by (own := [("ground", 15)]) (N := nmPl) (sc := defScope sPlanted) (by decide +kernel)) (fun _ _ _ _ _ => pg_name (i := 15) scPl.nd rfl (Or.inl rfl)) (fun _ _ _ _ _ => pts_nil)
            (fun _ _ _ _ _ => pe_callTy (T := "tuple") (r := rTupOf K) call_tupOf (by rfl) T.tup (by decide +kernel) (pa_cons (pe_callB (id := "sorted") (r := rSortN K w) (cr_sortN rfl hu) (by rfl) T.sor (by decide +kernel) (pa_cons (pe_callTy (T := "set") (r := rSetN K w) (cr_setN rfl hu) (by rfl) T.set (by decide +kernel)
              (pa_cons (pe_op op_cat (pe_callTy (T := "list") (r := rLstOf K) call_lstOf (by rfl) T.b.list (by decide +kernel) (pa_cons (pv 15) pa_nil)) (pe_call CO.G hr3 (by rfl) CO.m CO.kp CO.b .nil pass0 (pa_cons (pv 0) (pa_cons (pv 1) (pa_cons (pv 4) pa_nil))))) pa_nil)) pa_nil)) pa_nil)))
        (pss_one (ps_expr (pe_bm PySem.F.plainAttrs_list PySem.F.slot_list_append PySem.F.type_list_append mt_append (pv 5) (pa_cons (pe_lst (pa_cons (pe_ix ix_tup (pv 3) (pv 7) (fun _ _ => rfl)) (pa_cons (pe_op op_sub pe_int (pe_call CT.G hr1 (by rfl) CT.m CT.kp CT.b .nil pass0 (pa_cons (pv 0) (pa_cons pe_int pa_nil))))
            (pa_cons (pe_call C.G hr2 (by rfl) C.m C.kp C.b .nil pass0 (pa_cons (pv 0) (pa_cons (pe_lst (pa_cons pe_int (pa_cons pe_int (pa_cons pe_int (pa_cons pe_int pa_nil))))) pa_nil))) (pa_cons (pv 12) pa_nil))))) pa_nil)))))))))))))
      (pss_cons (ps_for PassesOwn.never rfl (pi_list (pe_op op_rep (pv 5) (pe_callTy call_int1 (by rfl) T.b.int (by decide +kernel) (pa_cons (pe_cmpR op_eq (pv 1) pe_str (nomark _)) pa_nil)))) (pg_name (i := 13) scPl.nd rfl (Or.inl rfl))
        (pss_one (ps_asg (pe_op op_cat (pe_ix ix_list (pv 13) pe_int (fun _ _ => rfl)) (pe_lc (own := [("k", 7)]) (g := gName 7) (by rfl) scPl.nd (pi_range1 rfl T.b.range (pa_cons (pe_call CT.G hr1 (by rfl) CT.m CT.kp CT.b .nil pass0 (pa_cons (pv 0) (pa_cons pe_int pa_nil))) pa_nil))
            (blkOk_by (own := [("k", 7)]) (N := nmPl) (sc := defScope sPlanted) (by decide +kernel)) (fun _ _ _ _ _ => pg_name (i := 7) scPl.nd rfl (Or.inl rfl)) (fun _ _ _ _ _ => pts_nil)
            (fun _ _ _ _ _ => pe_call CG.G hr5 (by rfl) CG.m CG.kp CG.b .nil pass0 (pa_cons (pv 0) (pa_cons (pv 4) (pa_cons (pv 3) pa_nil)))))) (pg_sub (pv 13) pe_int set_list))))
      (pss_cons (ps_setLc (i := 14) (own := [("name", 16), ("keep", 17), ("bar", 18), ("grounds", 12)]) (g := gLst K 4 (gCons (gName 16) (gCons (gName 17) (gCons (gName 18) (gCons (gName 12) gNil))))) (by rfl) scPl.nd rfl rfl (sw_true rfl rfl rfl (by decide +kernel)) (pi_list (pv 5))
            (blkOk_by (own := [("name", 16), ("keep", 17), ("bar", 18), ("grounds", 12)]) (N := nmPl) (sc := defScope sPlanted) (by decide +kernel)) (fun _ _ _ _ _ => pg_lst (t := gCons (gName 16) (gCons (gName 17) (gCons (gName 18) (gCons (gName 12) gNil)))) rfl (pgs_cons (pg_name (i := 16) scPl.nd rfl (Or.inl rfl)) (pgs_cons (pg_name (i := 17) scPl.nd rfl (Or.inl rfl)) (pgs_cons (pg_name (i := 18) scPl.nd rfl (Or.inl rfl)) (pgs_cons (pg_name (i := 12) scPl.nd rfl (Or.inl rfl)) pgs_nil))))) (fun _ _ _ _ _ => pts_nil)
            (fun _ _ _ _ _ => pe_tup (pa_cons (pv 16) (pa_cons (pv 17) (pa_cons (pv 18) (pa_cons (pe_callTy (T := "tuple") (r := rTupOf K) call_tupOf (by rfl) T.tup (by decide +kernel) (pa_cons (pe_callB (id := "sorted") (r := rSortN K w) (cr_sortN rfl hu) (by rfl) T.sor (by decide +kernel) (pa_cons (pe_callTy (T := "set") (r := rSetN K w) (cr_setN rfl hu) (by rfl) T.set (by decide +kernel)
              (pa_cons (pe_slice (r := rSlL K) sl_list (pv 12) po_none (po_some pe_int)) pa_nil)) pa_nil)) pa_nil)) pa_nil))))))
      (pss_one (ps_ret (pe_tup (pa_cons (pv 4) (pa_cons (pe_callTy call_tuple_of (by rfl) T.tup (by decide +kernel) (pa_cons (pv 14) pa_nil)) pa_nil)))))))))), ?_⟩
    have sz : ∀ {m : Nat}, m ≤ 900 → m ≤ sizeLine := fun h => Nat.le_of_lt (small1000 (by omega))
    refine ⟨_, rfl, _, rfl, _, rfl, bg, _, rfl, hB, by omega, by omega, fun z1 H1 E1 a0 a1 => ?_⟩
    refine ⟨_, _, rfl, rfl, bg, _, rfl, E1.bag, by omega, by omega, fun nt ns H2 E2 nnt ent hns lns => ?_⟩
    have E12 := E1.trans E2
    refine ⟨_, rfl, bg, 2, rfl, E12.bag, by decide, by decide, fun rt rs H4 E4 nrt ert hrs lrs => ?_⟩
    have E14 := E12.trans E4
    have ntb : nt ≠ bg := fun z => E1.bag.there (z ▸ nnt)
    have rtb : rt ≠ bg := fun z => E12.bag.there (z ▸ nrt)
    have ent4 := E4.keep nt _ ntb ent
    have nl : ns.length = (1 + z1).toNat := lns
    have rl : rs.length = 2 := lrs
    refine ⟨sz (by show 2 ≤ 900; decide), fun t nt' => ?_⟩
    refine ⟨t, _, rfl, SqT.of upd_same, by rfl, _, _, rfl, _, _, rfl, rfl, ?_⟩
    have E15 := E14.new (o := .tup [.ref nt, .ref rt]) nt'
    have e1 := same_upd (o := .tup [.ref nt, .ref rt]) nt' _ _ ent4
    have e2 := same_upd (o := .tup [.ref nt, .ref rt]) nt' _ _ ert
    generalize upd H4 t (.tup [.ref nt, .ref rt]) = H5 at E15 e1 e2 ⊢
    refine ⟨Nat.zero_le _, fun p np => ?_⟩
    have pH : H p = none := newAt E15 np
    have pb : p ≠ bg := fun z => hB.there (z ▸ pH)
    have E16 := E15.new (o := .lst []) np
    have e16 := same_upd (o := .lst []) np _ _ e1
    have e26 := same_upd (o := .lst []) np _ _ e2
    have p6 : (upd H5 p (.lst [])) p = some (.lst []) := upd_same
    generalize upd H5 p (.lst []) = H6 at E16 e16 e26 p6 ⊢
    refine ⟨_, rfl, _, rfl, nt, _, rfl, .inr (SqT.of e16), bg, _, rfl, E16.bag, by rw [List.length_map]; omega, by rw [List.length_map]; omega, fun ring H7 E7 r0 r1 => ?_⟩
    rw [List.length_map] at r1
    refine ⟨_, _, rfl, rfl, _, _, rfl, ?_⟩
    have E17 := E16.trans E7
    have f1 := E7.keep nt _ ntb e16
    have f2 := E7.keep rt _ rtb e26
    have f3 := E7.keep p _ pb p6
    refine ⟨_, rfl, nt, _, rfl, .inr (SqT.of f1), _, rfl, by omega, by rw [List.length_map]; omega, for_range (fun i σ' G => (∃ x7 x8 x9 x10 x11 x12 x13 x14 x15 x16 x17 x18 : Option V, σ' = [some (.ref bg), some (.str so), some (.int n), some (.ref nt), some (.ref rt), some (.ref p), some (.int (1 + ring)), x7, x8, x9, x10, x11, x12, x13, x14, x15, x16, x17, x18]) ∧
      Ext bg H G ∧ G nt = some (.tup (ns.map V.str)) ∧ G rt = some (.tup (rs.map V.str)) ∧ ∃ (ls : List Addr) (ds : List Kd), FAt H G bg p rs ns 2 ls ds ∧ ds.map Kd.name = ns.take i) ?_ ?_ ?_⟩
    · exact ⟨⟨_, _, _, _, _, _, _, _, _, _, _, _, rfl⟩, E17, f1, f2, [], [], ⟨f3, .nil, List.nodup_nil, fun _ z => nomatch z⟩, rfl⟩
    · rintro i σ' G hi ⟨⟨x7, x8, x9, x10, x11, x12, x13, x14, x15, x16, x17, x18, rfl⟩, E8, g1, g2, ls, ds, hF, en⟩
      rw [Int.toNat_natCast, List.length_map] at hi
      refine ⟨_, rfl, bg, 3, rfl, E8.bag, by decide, by decide, fun a G1 E9 a0 a1 => ?_⟩
      refine ⟨_, _, rfl, rfl, fun dd hdd => ?_⟩
      have E10 := E9.new (o := .dK []) hdd
      have ddb : dd ≠ bg := fun z => E9.bag.there (z ▸ hdd)
      refine ⟨_, rfl, _, rfl, _, rfl, _, _, rfl, rfl, bg, _, rfl, E10.bag, by omega, by omega, fun b G2 E11 b0 b1 => ?_⟩
      refine ⟨_, _, rfl, rfl, _, rfl, _, rfl, bg, _, rfl, E11.bag, by omega, by omega, fun c G3 E12 c0 c1 => ?_⟩
      have E13 := E11.trans E12
      refine ⟨E13.keep dd _ ddb upd_same, [(Sum.inr "ever", .int (1 + a + b)), (Sum.inr "longer", .int c), (Sum.inr "gone", .int 0), (Sum.inr "none", .int 2)], rfl, by show 4 ≤ 15; decide, ?_⟩
      obtain ⟨tl, etl, t0, t4⟩ : ∃ tl : Int, valV (mergeK [] [((Sum.inr "ever" : Key), V.int (1 + a + b)), (Sum.inr "longer", .int c), (Sum.inr "gone", .int 0), (Sum.inr "none", .int 2)]) (Sum.inr so) = some (.int tl) ∧ 0 ≤ tl ∧ tl ≤ 4 := by
        rcases hso with rfl | rfl | rfl | rfl
        · exact ⟨_, rfl, by omega, by omega⟩
        · exact ⟨_, rfl, by omega, by omega⟩
        · exact ⟨_, rfl, by omega, by omega⟩
        · exact ⟨_, rfl, by omega, by omega⟩
      refine ⟨_, rfl, _, rfl, dd, .int tl, rfl, by rw [← etl]; exact DGet.k (k := Sum.inr so) upd_same, ?_⟩
      have E14 : Ext bg G (upd G3 dd (.dK (mergeK [] [((Sum.inr "ever" : Key), V.int (1 + a + b)), (Sum.inr "longer", .int c), (Sum.inr "gone", .int 0), (Sum.inr "none", .int 2)]))) := Ext.write E8.bag (E10.trans E13) (newAt E9 hdd)
      generalize upd G3 dd (.dK (mergeK [] [((Sum.inr "ever" : Key), V.int (1 + a + b)), (Sum.inr "longer", .int c), (Sum.inr "gone", .int 0), (Sum.inr "none", .int 2)])) = G4 at E14 ⊢
      have g14 := E14.keep nt _ ntb g1
      have g24 := E14.keep rt _ rtb g2
      dsimp only [gName]
      refine seqGo (fun b' D' => ∀ x : Str, x ∈ ns → b' D' [some (.ref bg), some (.str so), some (.int n), some (.ref nt), some (.ref rt), some (.ref p), some (.int (1 + ring)), some (.int (0 + (i : Int))), some (.int (1 + a)), some (.ref dd), some (.int tl), some (.str x), x12, x13, x14, x15, x16, x17, x18] G4) (fun x hx => ?_) (fun rest => ?_)
      · refine seqGo (fun b' D' => ∀ (af te : Int) (G5 : Hp), Ext bg G G5 → 1 ≤ af → af ≤ 9 → 0 ≤ te → te ≤ 4 → b' D' [some (.ref bg), some (.str so), some (.int n), some (.ref nt), some (.ref rt), some (.ref p), some (.int (1 + ring)), some (.int (0 + (i : Int))), some (.int af), some (.ref dd), some (.int te), some (.str x), x12, x13, x14, x15, x16, x17, x18] G5) (fun af te G5 E15 af1 af9 te0 te4 => ?_) (fun rest => ?_)
        · refine ⟨_, rfl, _, rfl, _, rfl, sz (by show 5 ≤ 900; decide), fun na nna => ⟨sz (by show 1 ≤ 900; decide), fun ga nga => ⟨sz (by show 1 ≤ 900; decide), fun gl ngl => ?_⟩⟩⟩
          have S1 := same_upd (o := .tup [.str "kind", .str x, .int af, .int te, .int 9]) nna
          have S2 := KaG.Same.tr S1 (same_upd (o := .tup [.ref na]) nga)
          have S3 := KaG.Same.tr S2 (same_upd (o := .lst [.ref ga]) ngl)
          have y1 : (upd (upd (upd G5 na (.tup [.str "kind", .str x, .int af, .int te, .int 9])) ga (.tup [.ref na])) gl (.lst [.ref ga])) na = some (.tup [.str "kind", .str x, .int af, .int te, .int 9]) := KaG.Same.tr (same_upd nga) (same_upd ngl) _ _ upd_same
          have y2 : (upd (upd (upd G5 na (.tup [.str "kind", .str x, .int af, .int te, .int 9])) ga (.tup [.ref na])) gl (.lst [.ref ga])) ga = some (.tup [.ref na]) := same_upd ngl _ _ upd_same
          have y3 : (upd (upd (upd G5 na (.tup [.str "kind", .str x, .int af, .int te, .int 9])) ga (.tup [.ref na])) gl (.lst [.ref ga])) gl = some (.lst [.ref ga]) := upd_same
          have gl0 : G5 gl = none := by
            cases e : G5 gl with
            | none => rfl
            | some u => rw [S2 _ _ e] at ngl; cases ngl
          generalize upd (upd (upd G5 na (.tup [.str "kind", .str x, .int af, .int te, .int 9])) ga (.tup [.ref na])) gl (.lst [.ref ga]) = G6 at S3 y1 y2 y3 ⊢
          have E16 := E15.trans (Ext.of_same E15.bag S3)
          have glb : gl ≠ bg := fun z => E15.bag.there (z ▸ gl0)
          have glG : G gl = none := newAt E15 gl0
          have gs6 : GsAt G6 rs ns [ga] [[[.str "kind", .str x, .int af, .int te, .int 9]]] := ⟨.cons (grd_one y2 y1) .nil, fun g m => by
            rw [List.mem_singleton.mp m]
            refine ⟨by show 0 < 1; decide, by show 1 ≤ 3; decide, fun n2 m2 => ?_⟩
            rw [List.mem_singleton.mp m2]
            exact .kind x af te 9 hx af1 af9 te0 te4 (by decide) (by decide)⟩
          dsimp only [gName]
          refine seqGo (fun b' D' => ∀ (as : List Addr) (gs : List (List (List V))) (G7 : Hp), Ext bg G G7 → G7 gl = some (.lst (as.map V.ref)) → GsAt G7 rs ns as gs → (∀ g ∈ gs, g.length = 1) → gs.length ≤ 2 →
            b' D' [some (.ref bg), some (.str so), some (.int n), some (.ref nt), some (.ref rt), some (.ref p), some (.int (1 + ring)), some (.int (0 + (i : Int))), some (.int af), some (.ref dd), some (.int te), some (.str x), some (.ref gl), x13, x14, x15, x16, x17, x18] G7) (fun as gs G7 E17 ygl hgs one le2 => ?_) (fun rest => ?_)
          · have lenas := paired_len hgs.pr
            refine ⟨_, rfl, gl, rfl, ⟨_, SqL.of ygl⟩, fun D hD => lc_list (K := K) (a := gl) (xs := as.map V.ref) (fun j M => Ext bg G7 M ∧ ∃ (bs : List Addr) (hs : List (List (List V))), M D = some (.lst (bs.map V.ref)) ∧ GsAt M rs ns bs hs ∧ bs.length = j) ?_ ?_ ?_ ?_⟩
            · exact ⟨(Ext.of_same E17.bag Same.refl').new hD, [], [], upd_same, GsAt.nil, rfl⟩
            · rintro j M _ ⟨E18, _⟩
              exact SqL.of (E18.keep gl _ glb ygl)
            · rintro j v M hv ⟨E18, bs, hs, mD, hh, lb⟩
              rw [List.getElem?_map] at hv
              obtain ⟨a2, ha2, rfl⟩ := Option.map_eq_some_iff.mp hv
              obtain ⟨g, hg, nsA, z1', z2'⟩ := paired_at hgs.pr ha2
              have og := hgs.ok g (List.mem_of_getElem? hg)
              have g1' := one g (List.mem_of_getElem? hg)
              have hj : j < as.length := (List.getElem?_eq_some_iff.mp ha2).1
              have ts7 := TSame.ext E17.bag E18
              have Db : D ≠ bg := fun z => E17.bag.there (z ▸ hD)
              refine ⟨rfl, ?_⟩
              unfold tYes
              dsimp only
              refine iteT ⟨_, rfl, a2, _, rfl, .inr (SqT.of (ts7 _ _ z1')), fun l nl' => ?_⟩
              have E19 := E18.new (o := .lst (nsA.map V.ref)) nl'
              have lb' : l ≠ bg := fun z => E18.bag.there (z ▸ nl')
              refine ⟨_, rfl, _, rfl, _, rfl, bg, rt, .str so, rs, rfl, E19.bag, rtb, (E17.trans E19).keep rt _ rtb g2, rl, fun p2 xs M2 E20 np2 ep2 hxs => ?_⟩
              have ml := E20.keep l _ lb' upd_same
              have E21 : Ext bg G7 M2 := E19.trans E20
              have mD2 : M2 D = some (.lst (bs.map V.ref)) := E20.keep D _ Db (same_upd nl' _ _ mD)
              obtain ⟨qs, its, ex, hq, lq⟩ : ∃ (qs : List Addr) (its : List (List V)), xs = qs.map V.ref ∧ Paired (fun n2 it => M2 n2 = some (.tup it)) qs its ∧ its.length ≤ 1 ∧ ∀ it ∈ its, NeedV rs ns it := by
                rcases hxs with e | ⟨q, it, e, _, hq, hn⟩
                · exact ⟨[], [], e, .nil, by decide, fun _ m => (by cases m)⟩
                · exact ⟨[q], [it], e, .cons hq .nil, Nat.le_refl _, fun it' m => by rw [List.mem_singleton.mp m]; exact hn ns⟩
              subst ex
              have pq := paired_len hq
              have pz := paired_len z2'
              refine ⟨l, p2, _, _, rfl, rfl, ml, ep2, sz (by rw [List.length_map, List.length_map]; omega), fun r nr => ?_⟩
              have S4 := same_upd (o := .lst (nsA.map V.ref ++ qs.map V.ref)) nr
              have ts8 : TSame G7 M2 := TSame.ext E17.bag E21
              dsimp only [tCB, tCons, tNil]
              have mem : ∀ n2 ∈ g ++ its, NeedV rs ns n2 := fun n2 m => (List.mem_append.mp m).elim (og.2.2 n2) (lq.2 n2)
              refine order_needs (K := K) (w := w) (rows := rs) (names := ns) (as := nsA ++ qs) (g := g ++ its) (by rw [List.map_append]; exact .inl (SqL.of upd_same))
                (paired_app (Paired.mono' (fun _ _ q => S4 _ _ (ts8 _ _ q)) z2') (Paired.mono' (fun _ _ q => S4 _ _ q) hq)) mem (by rw [List.length_append]; have := lq.1; omega) fun a3 g3 M3 S5 na3 ha3 sub3 pos3 le3 => ?_
              have S45 := KaG.Same.tr S4 S5
              have mD3 := S45 _ _ mD2
              rw [List.length_append] at pos3 le3
              refine ⟨_, mD3, small1000 (by rw [List.length_map]; omega), Ext.write E17.bag (E21.trans (Ext.of_same E21.bag S45)) hD, bs ++ [a3], hs ++ [g3], by rw [upd_same, List.map_append]; rfl, ?_, by rw [List.length_append, lb]; rfl⟩
              have ts9 : TSame M M3 := ((same_ts_new nl').tr (TSame.ext E19.bag E20)).tr (TSame.of S45)
              exact (((hh.ts ts9).snoc ha3 ⟨pos3 (by omega), by have := lq.1; omega, fun n2 m => mem n2 (sub3 n2 m)⟩)).ts (ts_lst mD3)
            · rintro M ⟨E18, bs, hs, mD, hh, lb⟩
              rw [List.length_map] at lb
              have E19 := E17.trans E18
              have hFm := hF.ext pb E8.bag E19
              have hni : ns[i]? = some ns[i] := List.getElem?_eq_getElem hi
              have Db : D ≠ bg := fun z => E17.bag.there (z ▸ hD)
              have Dp : D ≠ p := fun z => by rw [z, (hF.ext pb E8.bag E17).at_] at hD; cases hD
              refine ⟨_, rfl, .inl ⟨rfl, _, SqL.of hFm.at_⟩, _, rfl, _, rfl, nt, _, _, .str ns[i], rfl, rfl, SqT.of (E19.keep nt _ ntb g1), by rw [Int.zero_add]; exact atI_nat (by rw [List.getElem?_map, hni]; rfl), ?_⟩
              refine ⟨_, rfl, bg, 2, rfl, E18.bag, by decide, by decide, fun y1 M1 E20 c0 c1 => ?_⟩
              refine ⟨_, _, rfl, rfl, _, rfl, sz (by show 4 ≤ 900; decide), fun q2 nq2 => ?_⟩
              have E21 := E20.new (o := .lst [.int 0, .int 0, .int 1, .int 3]) nq2
              have q2b : q2 ≠ bg := fun z => E20.bag.there (z ▸ nq2)
              refine ⟨bg, q2, _, rfl, E21.bag, q2b, .inl upd_same, by decide, by decide, fun v2 M2 mv2 E22 => ?_⟩
              obtain ⟨bar, rfl, bar0, bar3⟩ := ints_in (ns := [0, 0, 1, 3]) (lo := 0) (hi := 3) (by decide) mv2
              have E23 := E21.trans E22
              refine ⟨_, rfl, sz (by show 4 ≤ 900; decide), fun l nl' => ?_⟩
              have E24 := E23.new (o := .lst [.str ns[i], .int (8 - y1), .int bar, .ref D]) nl'
              have hFz := hFm.ext pb E18.bag E24
              have mDz := E24.keep D _ Db mD
              have ltz : (upd M2 l (.lst [.str ns[i], .int (8 - y1), .int bar, .ref D])) l = some (.lst [.str ns[i], .int (8 - y1), .int bar, .ref D]) := upd_same
              have E25 := E8.trans (E19.trans E24)
              have lH : H l = none := newAt ((E8.trans E19).trans E23) nl'
              have lb' : l ≠ bg := fun z => hB.there (z ▸ lH)
              have lp' : l ≠ p := fun z => by rw [z, (hFm.ext pb E18.bag E23).at_] at nl'; cases nl'
              have lls : l ∉ ls := fun m => by
                have there := paired_there (C := fun l => M2 l ≠ none) (fun l d ⟨gl, as, q⟩ => by rw [q.at_]; exact fun z => nomatch z) (hFm.ext pb E18.bag E23).pr l m
                exact there nl'
              generalize upd M2 l (.lst [.str ns[i], .int (8 - y1), .int bar, .ref D]) = M3 at E24 hFz mDz ltz E25 ⊢
              have lds : ls.length ≤ 5 := by
                have h1 := paired_len hF.pr
                have h2 := congrArg List.length en
                rw [List.length_map, List.length_take] at h2
                omega
              refine ⟨p, _, _, rfl, rfl, hFz.at_, small1000 (by rw [List.length_map]; omega), ?_⟩
              have tsl := ts_lst (ys := ls.map V.ref ++ [.ref l]) hFz.at_
              have lenh := paired_len hh.pr
              refine ⟨⟨_, _, _, _, _, _, _, _, _, _, _, _, rfl⟩, Ext.write hB E25 pH, tsl _ _ (E24.keep nt _ ntb (E19.keep nt _ ntb g1)), tsl _ _ (E24.keep rt _ rtb (E19.keep rt _ rtb g2)), ls ++ [l], ds ++ [⟨ns[i], 8 - y1, bar, hs⟩], ?_, ?_⟩
              · refine hFz.snoc ⟨D, bs, ltz, mDz, hh.ts (TSame.ext E18.bag E24), lH, lb', lp', Db, Dp⟩ ⟨?_, ?_, bar0, ?_, ?_⟩ lls
                · show 1 ≤ 8 - y1; omega
                · show 8 - y1 ≤ 8; omega
                · show bar ≤ 12; omega
                · show hs.length ≤ 2; omega
              · rw [List.map_append, en, List.take_add_one, hni]; rfl
          · refine ifGo (fun M => Ext bg G6 M) (fun M EM => ?_) (fun M EM => ?_) (fun Q' q => ?_)
            · have g2M := (E16.trans EM).keep rt _ rtb g2
              have ygM := EM.keep gl _ glb y3
              refine ⟨_, rfl, .inl ⟨rfl, _, SqL.of ygM⟩, ?_⟩
              dsimp only [tCons, tTup, tC, tNil]
              refine pickGo (fun v => ∃ z ∈ rs, v = V.str z) (fun v ⟨xr, hxr, ev⟩ => ?_) (fun Q' q => ⟨_, rfl, rfl, _, rfl, q _⟩) (fun Q' q => ?_) (fun Q' q => ?_)
              · subst ev
                refine ⟨_, rfl, bg, 5, rfl, EM.bag, by decide, by decide, fun y2 M1 E17 d0 d1 => ?_⟩
                refine ⟨sz (by show 4 ≤ 900; decide), fun nb nnb => ⟨sz (by show 1 ≤ 900; decide), fun gb ngb => ?_⟩⟩
                have yg1 := E17.keep gl _ glb ygM
                have T1 := same_upd (o := .tup [.str "row", .str xr, .int y2, .int 9]) nnb
                have T2 := same_upd (o := .tup [.ref nb]) ngb
                have T12 := KaG.Same.tr T1 T2
                have yg2 := T12 _ _ yg1
                refine ⟨gl, _, _, rfl, rfl, yg2, small1000 (by show 1 ≤ 1000; decide), ?_⟩
                have tsl := ts_lst (ys := [V.ref ga] ++ [V.ref gb]) yg2
                have E18 := E17.trans (Ext.of_same E17.bag T12)
                have tsM : TSame M (upd (upd M1 nb (.tup [.str "row", .str xr, .int y2, .int 9])) gb (.tup [.ref nb])) := TSame.ext EM.bag E18
                refine rest [ga, gb] [[[.str "kind", .str x, .int af, .int te, .int 9]], [[.str "row", .str xr, .int y2, .int 9]]] _ (Ext.write E8.bag (E16.trans (EM.trans E18)) glG) upd_same ?_ (fun g m => ?_) (by show 2 ≤ 2; decide)
                · refine GsAt.ts (GsAt.snoc (as := [ga]) (gs := [[[.str "kind", .str x, .int af, .int te, .int 9]]]) ((gs6.ts (TSame.ext E16.bag EM)).ts tsM) (grd_one upd_same (T2 _ _ upd_same)) ⟨by show 0 < 1; decide, by show 1 ≤ 3; decide, fun n2 m2 => ?_⟩) tsl
                  rw [List.mem_singleton.mp m2]
                  exact .row xr y2 9 hxr d0 (by omega) (by decide) (by decide)
                · rcases List.mem_cons.mp m with c | c
                  · rw [c]; rfl
                  · rw [List.mem_singleton.mp c]; rfl
              · obtain ⟨z, hz, ez⟩ := at_str (ns := rs) (z := 0) (by decide) (by omega)
                exact ⟨_, rfl, rt, _, 0, .str z, rfl, rfl, SqT.of g2M, ez, q _ ⟨z, hz, rfl⟩⟩
              · obtain ⟨z, hz, ez⟩ := at_str (ns := rs) (z := 1) (by decide) (by omega)
                exact ⟨_, rfl, rt, _, 1, .str z, rfl, rfl, SqT.of g2M, ez, q _ ⟨z, hz, rfl⟩⟩
            · exact rest [ga] _ M (E16.trans EM) (EM.keep gl _ glb y3) (gs6.ts (TSame.ext E16.bag EM)) (fun g m => by rw [List.mem_singleton.mp m]; rfl) (by show 1 ≤ 2; decide)
            · have r0' : Ext bg G6 G6 := Ext.of_same E16.bag Same.refl'
              refine ⟨_, rfl, rfl, _, rfl, ite2 (fun h1 => q _ _ r0') fun h1 => ?_⟩
              refine ⟨_, rfl, rfl, _, rfl, ite2 (fun h2 => ?_) fun h2 => q _ _ r0'⟩
              exact ⟨_, rfl, bg, 3, rfl, E16.bag, by decide, by decide, fun y M E c0 c1 => ⟨rfl, _, rfl, q _ _ E⟩⟩
        · refine ifGo (fun M => M = G4) (fun M EM => ?_) (fun M EM => ?_) (fun Q' q => ?_)
          · subst EM
            refine ⟨_, rfl, bg, 2, rfl, E14.bag, by decide, by decide, fun y M E15 c0 c1 => ?_⟩
            refine ⟨_, _, rfl, rfl, _, _, rfl, ?_⟩
            exact rest (2 + y) 1 M (E14.trans E15) (by omega) (by omega) (by decide) (by decide)
          · subst EM
            exact rest (1 + a) tl M E14 (by omega) (by omega) t0 t4
          · refine ⟨_, rfl, rfl, _, rfl, ite2 (fun h1 => ?_) fun h1 => ?_⟩
            · exact ⟨_, rfl, rfl, _, rfl, q _ _ rfl⟩
            · exact q _ _ rfl
      · refine ⟨_, rfl, _, _, rfl, rfl, _, rfl, ite2 (fun hc => ?_) fun hc => ?_⟩
        · have hc2 : (0 : Int) < 0 + (i : Int) := by simpa using hc
          obtain ⟨x, hx, ex⟩ := at_str (ns := ns) (z := 0 + (i : Int) - 1) (by omega) (by omega)
          exact ⟨_, rfl, _, rfl, _, _, rfl, rfl, nt, _, _, .str x, rfl, rfl, SqT.of g14, ex, rest x hx⟩
        · obtain ⟨x, hx, ex⟩ := at_str (ns := ns) (z := 1 + ring - 1) (by omega) (by omega)
          exact ⟨_, rfl, _, rfl, _, _, rfl, rfl, nt, _, _, .str x, rfl, rfl, SqT.of g14, ex, rest x hx⟩
    · rintro σ' G ⟨⟨x7, x8, x9, x10, x11, x12, x13, x14, x15, x16, x17, x18, rfl⟩, E8, g1, g2, ls, ds, hF, en⟩
      rw [Int.toNat_natCast, List.length_map, List.take_length] at en
      have hll : ls.length ≤ 5 := by
        have h1 := paired_len hF.pr
        have h2 := congrArg List.length en
        rw [List.length_map] at h2
        omega
      refine ⟨_, rfl, _, rfl, rfl, .inr ⟨_, rfl, p, _, ls.map V.ref, rfl, rfl, hF.at_, ?_, ?_, ?_, fun c nc => ?_⟩⟩
      · split <;> decide
      · split <;> decide
      · rw [List.length_map]
        split
        · exact sz (by show _ * 1 ≤ 900; omega)
        · exact sz (by show _ * 0 ≤ 900; omega)
      obtain ⟨ls2, els2, sub2, nd2⟩ : ∃ ls2 : List Addr, (List.replicate (if decide (V.str so = V.str "ever") = true then (1 : Int) else 0).toNat (ls.map V.ref)).flatten = ls2.map V.ref ∧ (∀ l ∈ ls2, l ∈ ls) ∧ ls2.length ≤ 5 := by
        split
        · exact ⟨ls, by show (List.replicate 1 (ls.map V.ref)).flatten = _; simp, fun _ m => m, hll⟩
        · exact ⟨[], by show (List.replicate 0 (ls.map V.ref)).flatten = _; simp, fun _ m => (by cases m), by decide⟩
      rw [els2]
      have E9 := E8.new (o := .lst (ls2.map V.ref)) nc
      have j1 := same_upd (o := .lst (ls2.map V.ref)) nc _ _ g1
      have j2 := same_upd (o := .lst (ls2.map V.ref)) nc _ _ g2
      have jF := hF.ext pb E8.bag (Ext.of_same E8.bag (same_upd (o := .lst (ls2.map V.ref)) nc))
      have jc : (upd G c (.lst (ls2.map V.ref))) c = some (.lst (ls2.map V.ref)) := upd_same
      have cb : c ≠ bg := fun z => E8.bag.there (z ▸ nc)
      have cp : c ≠ p := fun z => by rw [z, hF.at_] at nc; cases nc
      generalize upd G c (.lst (ls2.map V.ref)) = G9 at E9 j1 j2 jF jc ⊢
      refine ⟨c, rfl, ⟨_, SqL.of jc⟩, for_list (K := K) (a := c) (xs := ls2.map V.ref) (fun i σ' J => (∃ x7 x8 x9 x10 x11 x12 x13 x14 x15 x16 x17 x18 : Option V, σ' = [some (.ref bg), some (.str so), some (.int n), some (.ref nt), some (.ref rt), some (.ref p), some (.int (1 + ring)), x7, x8, x9, x10, x11, x12, x13, x14, x15, x16, x17, x18]) ∧
        Ext bg H J ∧ J nt = some (.tup (ns.map V.str)) ∧ J rt = some (.tup (rs.map V.str)) ∧ J c = some (.lst (ls2.map V.ref)) ∧ ∃ ds2 : List Kd, FAt H J bg p rs ns (2 + 2 * i) ls ds2 ∧ ds2.map Kd.name = ns) ?_ ?_ ?_ ?_⟩
      · exact ⟨⟨_, _, _, _, _, _, _, _, _, _, _, _, rfl⟩, E9, j1, j2, jc, ds, jF, en⟩
      · rintro i σ' J _ ⟨_, _, _, _, jc, _⟩
        exact SqL.of jc
      · rintro i x σ' J hx ⟨⟨x7, x8, x9, x10, x11, x12, x13, x14, x15, x16, x17, x18, rfl⟩, E10, h1, h2, hc, ds2, hF2, en2⟩
        rw [List.getElem?_map] at hx
        obtain ⟨l, hl0, rfl⟩ := Option.map_eq_some_iff.mp hx
        have hi5 : i < ls2.length := (List.getElem?_eq_some_iff.mp hl0).1
        obtain ⟨j, hl⟩ := List.mem_iff_getElem?.mp (sub2 l (List.mem_of_getElem? hl0))
        obtain ⟨d, hd, gl, as, q⟩ := paired_at hF2.pr hl
        have od := hF2.ok d (List.mem_of_getElem? hd)
        have lenas := paired_len q.gs.pr
        refine ⟨_, rfl, l, _, 3, .ref gl, rfl, rfl, SqL.of q.at_, rfl, _, rfl, bg, 3, rfl, E10.bag, by decide, by decide, fun z J1 E11 z0 z1 => ?_⟩
        refine ⟨z, rfl, by omega, by omega, fun D hD => lc_range (fun y M => Ext bg J1 M ∧ ∃ (bs : List Addr) (gs : List (List (List V))), bs.length = y ∧ M D = some (.lst (bs.map V.ref)) ∧ GsAt M rs ns bs gs) ?_ ?_ ?_⟩
        · exact ⟨(Ext.of_same E11.bag Same.refl').new hD, [], [], rfl, upd_same, GsAt.nil⟩
        · rintro y M hy ⟨E12, bs, gs, lb, mD, hg⟩
          refine ⟨rfl, ?_⟩
          unfold tYes
          dsimp only
          have Db : D ≠ bg := fun z => E11.bag.there (z ▸ hD)
          refine iteT ⟨_, rfl, _, rfl, _, rfl, bg, rt, nt, rs, ns, rfl, E12.bag, rtb, ntb, E12.keep rt _ rtb (E11.keep rt _ rtb h2), E12.keep nt _ ntb (E11.keep nt _ ntb h1), by omega, by omega, by omega, by omega, fun a g M3 E13 na ha p1 p2 p3 => ?_⟩
          have mD3 := E13.keep D _ Db mD
          refine ⟨_, mD3, small1000 (by rw [List.length_map]; omega), ?_, bs ++ [a], gs ++ [g], by rw [List.length_append, lb]; rfl, by rw [upd_same, List.map_append]; rfl, ?_⟩
          · exact Ext.write E11.bag (E12.trans E13) hD
          · exact ((hg.ts (TSame.ext E12.bag E13)).snoc ha ⟨p1, p2, p3⟩).ts (ts_lst mD3)
        · rintro M ⟨E12, bs, gs, lb, mD, hg⟩
          have E13 := E11.trans E12
          have E14 := E10.trans E13
          have mgl := E13.keep gl _ q.gb q.gat
          have ml := E13.keep l _ q.lb q.at_
          have hF3 := hF2.ext pb E10.bag E13
          have lbs := paired_len hg.pr
          refine ⟨gl, D, _, _, rfl, rfl, mgl, mD, sz (by rw [List.length_map, List.length_map]; have := od.2.2.2.2; omega), fun r nr => ?_⟩
          have S1 := same_upd (o := .lst (as.map V.ref ++ bs.map V.ref)) nr
          have rb : r ≠ bg := fun z => E14.bag.there (z ▸ nr)
          have rp : r ≠ p := fun z => by rw [z, hF3.at_] at nr; cases nr
          have ml2 := S1 _ _ ml
          have gsx : GsAt (upd M r (.lst (as.map V.ref ++ bs.map V.ref))) rs ns (as ++ bs) (d.gs ++ gs) := by
            have w1 := (q.gs.ts (TSame.ext E10.bag E13)).ts (TSame.of S1)
            have w2 := hg.ts (TSame.of S1)
            exact ⟨paired_app w1.pr w2.pr, fun g m => (List.mem_append.mp m).elim (w1.ok g) (w2.ok g)⟩
          have hF4 := (hF3.ext pb E14.bag (Ext.of_same E14.bag S1)).wide (show 2 + 2 * i ≤ 2 + 2 * (i + 1) by omega)
          have lc : l ≠ c := (lst_ne (E13.keep c _ cb hc) ml).symm
          refine ⟨_, rfl, l, _, 3, 3, rfl, rfl, ml2, rfl, ?_⟩
          have fin := hF4.put (q := r) (as := as ++ bs) (gs := d.gs ++ gs) hl hd (by rw [upd_same, List.map_append]) gsx rb rp (by rw [List.length_append]; have := od.2.2.2.2; omega)
          have tsl := ts_lst (ys := [V.str d.name, .int d.keep, .int d.bar, .ref r]) ml2
          refine ⟨⟨_, _, _, _, _, _, _, _, _, _, _, _, rfl⟩, ?_, tsl _ _ (S1 _ _ (E13.keep nt _ ntb h1)), tsl _ _ (S1 _ _ (E13.keep rt _ rtb h2)), ?_, ds2.set j { d with gs := d.gs ++ gs }, fin, ?_⟩
          · exact Ext.write hB (E14.trans (Ext.of_same E14.bag S1)) q.ln
          · show upd _ l _ c = _
            rw [upd_ne lc.symm]
            exact S1 _ _ (E13.keep c _ cb hc)
          · rw [List.map_set, en2]
            have nsj : ns[j]? = some d.name := by rw [← en2, List.getElem?_map, hd]; rfl
            exact set_same nsj
      · rintro σ' J ⟨⟨x7, x8, x9, x10, x11, x12, x13, x14, x15, x16, x17, x18, rfl⟩, E10, h1, h2, hc, ds2, hF2, en2⟩
        rw [List.length_map] at hF2
        have dl : ds2.length = ns.length := by rw [← en2, List.length_map]
        refine ⟨_, rfl, p, rfl, ⟨_, SqL.of hF2.at_⟩, fun D hD => lc_list (K := K) (a := p) (xs := ls.map V.ref) (fun i M => Same J M ∧ ∃ (kas : List Addr) (ks : List Kd), M D = some (.lst (kas.map V.ref)) ∧ KsAt M rs ns kas ks ∧ ks.map Kd.name = ns.take i) ?_ ?_ ?_ ?_⟩
        · exact ⟨same_upd hD, [], [], upd_same, ⟨.nil, fun _ z => nomatch z⟩, rfl⟩
        · rintro i M _ ⟨S, _⟩
          exact SqL.of (S _ _ hF2.at_)
        · rintro i x M hx ⟨S, kas, ks, mD, hk, ek⟩
          rw [List.getElem?_map] at hx
          obtain ⟨l, hl, rfl⟩ := Option.map_eq_some_iff.mp hx
          obtain ⟨d, hd, gl, as, q⟩ := paired_at hF2.pr hl
          have od := hF2.ok d (List.mem_of_getElem? hd)
          refine ⟨l, _, rfl, SqL.of (S _ _ q.at_), rfl, _, _, rfl, _, _, rfl, _, _, rfl, _, _, rfl, rfl, rfl, ?_⟩
          unfold tYes
          dsimp only
          refine iteT ⟨_, rfl, _, rfl, _, rfl, _, rfl, _, rfl, _, _, rfl, SqL.of (S _ _ q.gat), fun r nr => ?_⟩
          rw [cut_to _ 4 (by decide), ← List.map_take, show (4 : Int).toNat = 4 from rfl]
          dsimp only [tCB, tCons, tNil]
          have gsr := ((q.gs.ts (TSame.of S)).cut 4).ts (same_ts_new (o := .lst ((as.take 4).map V.ref)) nr)
          refine order_grounds (K := K) (w := w) (rows := rs) (names := ns) (.inl (SqL.of upd_same)) gsr.pr (fun g m => ⟨(gsr.ok g m).1, (gsr.ok g m).2.2⟩) (by rw [List.length_take]; omega) fun a2 bs2 gs2 M2 S2 na2 ea2 pr2 sub le => ?_
          refine ⟨sz (by show 4 ≤ 900; decide), fun ka nka => ?_⟩
          have S01 : Same M M2 := KaG.Same.tr (same_upd nr) S2
          have S3 := same_upd (o := .tup [.str d.name, .int d.keep, .int d.bar, .ref a2]) nka
          have mD3 := S3 _ _ (S01 _ _ mD)
          have S03 := KaG.Same.tr S01 S3
          have nsi : ns[i]? = some d.name := by rw [← en2, List.getElem?_map, hd]; rfl
          have hik : ks.length ≤ 5 := by
            have := congrArg List.length ek
            rw [List.length_map, List.length_take] at this
            omega
          refine ⟨_, mD3, small1000 (by rw [List.length_map, paired_len hk.pr]; omega), ?_, kas ++ [ka], ks ++ [⟨d.name, d.keep, d.bar, gs2⟩], by rw [upd_same, List.map_append]; rfl, ?_, ?_⟩
          · exact fun b u e => by rw [upd_ne (ne_of_none e hD)]; exact S03 b u (S b u e)
          · refine ((hk.ts (TSame.of S03)).snoc ?_ ?_).ts (ts_lst mD3)
            · exact ⟨a2, bs2, upd_same, S3 _ _ ea2, Paired.mono' (fun a b z => Grd.ts z (TSame.of S3)) pr2⟩
            · refine ⟨⟨od.1, od.2.1, od.2.2.1, od.2.2.2.1, ?_⟩, fun g m => gsr.ok g (sub g m)⟩
              have := List.length_take (i := 4) (l := d.gs)
              show gs2.length ≤ 4
              omega
          · rw [List.map_append, ek, List.take_add_one, nsi]; rfl
        · rintro M ⟨S, kas, ks, mD, hk, ek⟩
          rw [List.length_map, ← paired_len hF2.pr |>.symm, dl, List.take_length] at ek
          refine ⟨_, rfl, _, rfl, D, _, rfl, .inl ⟨SqL.of mD, fun q nq => ?_⟩⟩
          refine ⟨sz (by show 2 ≤ 900; decide), fun b nb => ?_⟩
          have S1 := KaG.Same.tr S (same_upd (o := .tup (kas.map V.ref)) nq)
          have S2 := KaG.Same.tr S1 (same_upd (o := .tup [.ref rt, .ref q]) nb)
          have S3 := KaG.Same.tr (same_upd (o := .tup (kas.map V.ref)) nq) (same_upd (o := .tup [.ref rt, .ref q]) nb)
          refine k b rs ks _ (E10.trans (Ext.of_same E10.bag S2)) (newAt (E10.trans (Ext.of_same E10.bag S1)) nb) (by omega) ⟨rt, q, kas, upd_same, S2 _ _ h2, same_upd nb _ _ upd_same, (hk.ts (TSame.of S3)).pr⟩ ?_
          exact book_ok hrs hns (by omega) (by omega) (by omega) ek hk.ok
end
end KaG
set_option maxRecDepth 100000
set_option maxHeartbeats 4000000
set_option maxRecDepth 100000
set_option maxHeartbeats 4000000
namespace KaG
open PySem PySem.Spec PyProof.Rows L2
section
variable {P : Program} {w : World} {K : PySem.W.Frag} {mg : Str → Option Value} {base : Heap} {CW : Addr} {NW : Str}
/-- a list of m good values at l -/
structure OL (CW : Addr) (NW : Str) (bg : Addr) (H0 H : Hp) (l : Addr) (m : Nat) : Prop where
  ext : Ext bg H0 H
  new : H0 l = none
  it : ∃ xs as ts, H l = some (.lst xs) ∧ ShA H CW NW as 3 xs ts ∧ (∀ t ∈ ts, t.length ≤ 200) ∧ Nw H0 H as ∧ xs.length = m
theorem OL.more {bg : Addr} {H0 H H1 : Hp} {l l2 : Addr} {m : Nat} {zs : List V} {bs : List Addr} {us : List Str} (hb : Bag H0 bg) (O : OL CW NW bg H0 H l m) (E : Ext bg H H1) (s : ShA H1 CW NW bs 3 zs us) (hu : ∀ t ∈ us, t.length ≤ 200) (n : Nw H H1 bs)
    (h2 : H1 l2 = none) : ∃ xs, upd H1 l2 (.lst zs) l = some (.lst xs) ∧ xs.length = m ∧ ∀ l3, upd H1 l2 (.lst zs) l3 = none → OL CW NW bg H0 (upd (upd H1 l2 (.lst zs)) l3 (.lst (xs ++ zs))) l3 (m + zs.length) := by
  obtain ⟨E0, l0, xs, as, ts, e1, sA, ht, nA, hm⟩ := O
  have lb : l ≠ bg := fun z => hb.there (z ▸ l0)
  have Ea : Ext bg H (upd H1 l2 (.lst zs)) := E.new h2
  refine ⟨xs, Ea.keep l _ lb e1, hm, fun l3 h3 => ?_⟩
  have Eb : Ext bg H (upd (upd H1 l2 (.lst zs)) l3 (.lst (xs ++ zs))) := Ea.new h3
  have Ec : Ext bg H1 (upd (upd H1 l2 (.lst zs)) l3 (.lst (xs ++ zs))) := ((Ext.of_same E.bag Same.refl').new h2).new h3
  refine ⟨E0.trans Eb, newAt (E0.trans Ea) h3, xs ++ zs, as ++ bs, ts ++ us, upd_same, ?_, ?_, ?_, by rw [List.length_append, hm]⟩
  · have a1 := (sA.ext (nA.out hb.there) Eb fun b z => (nA b z).2).wide (bs := as ++ bs) (fun _ z => List.mem_append_left _ z) (Nat.le_refl _)
    have a2 := (s.ext (n.out E0.bag.there) Ec fun b z => (n b z).2).wide (bs := as ++ bs) (fun _ z => List.mem_append_right _ z) (Nat.le_refl _)
    exact a1.app a2
  · intro t h
    rcases List.mem_append.mp h with q | q
    · exact ht t q
    · exact hu t q
  · intro b h
    rcases List.mem_append.mp h with q | q
    · exact nA.ext Eb b q
    · exact (n.ext Ec).before E0 b q
end
end KaG
set_option maxRecDepth 100000
set_option maxHeartbeats 2000000
namespace KaG
open PySem PySem.Spec PyProof.Rows L2
mutual
def txt : PyData → Str
  | .none => "None"
  | .bool b => if b then "True" else "False"
  | .int i => (toString i : String)
  | .str x => reprText x
  | .list xs => listText (txtA xs)
  | .tuple xs => tupleText (txtA xs)
  | .dict _ => ""
def txtA : List PyData → List Str
  | [] => []
  | x :: r => txt x :: txtA r
end
mutual
def dsz : PyData → Nat
  | .none => 1
  | .bool _ => 1
  | .int _ => 1
  | .str _ => 1
  | .list xs => 1 + dszA xs
  | .tuple xs => 1 + dszA xs
  | .dict _ => 1
def dszA : List PyData → Nat
  | [] => 0
  | x :: r => dsz x + dszA r
end
mutual
inductive Rep (H : Hp) : V → PyData → Prop
  | non : Rep H .non .none
  | bl (b : Bool) : Rep H (.bl b) (.bool b)
  | int (i : Int) (h : i.natAbs.log2 < 1920) : Rep H (.int i) (.int i)
  | str (x : Str) : Rep H (.str x) (.str x)
  | lst {a : Addr} {xs : List V} {ds : List PyData} (e : H a = some (.lst xs)) (r : RepA H xs ds) : Rep H (.ref a) (.list ds)
  | tup {a : Addr} {xs : List V} {ds : List PyData} (e : H a = some (.tup xs)) (r : RepA H xs ds) : Rep H (.ref a) (.tuple ds)
inductive RepA (H : Hp) : List V → List PyData → Prop
  | nil : RepA H [] []
  | cons {v : V} {vs : List V} {d : PyData} {ds : List PyData} (h : Rep H v d) (r : RepA H vs ds) : RepA H (v :: vs) (d :: ds)
end
section
variable {H H' : Hp} {CW : Addr} {NW : Str} {K : PySem.W.Frag}
mutual
theorem Rep.det : ∀ {v : V} {d d' : PyData}, Rep H v d → Rep H v d' → d = d'
  | _, _, _, .non, .non => rfl
  | _, _, _, .bl b, .bl _ => rfl
  | _, _, _, .int i _, .int _ _ => rfl
  | _, _, _, .str x, .str _ => rfl
  | _, _, _, .lst e r, .lst e' r' => by
    rw [e] at e'
    cases e'
    rw [RepA.det r r']
  | _, _, _, .lst e r, .tup e' r' => by
    rw [e] at e'
    cases e'
  | _, _, _, .tup e r, .lst e' r' => by
    rw [e] at e'
    cases e'
  | _, _, _, .tup e r, .tup e' r' => by
    rw [e] at e'
    cases e'
    rw [RepA.det r r']
theorem RepA.det : ∀ {vs : List V} {ds ds' : List PyData}, RepA H vs ds → RepA H vs ds' → ds = ds'
  | _, _, _, .nil, .nil => rfl
  | _, _, _, .cons h r, .cons h' r' => by rw [Rep.det h h', RepA.det r r']
end
mutual
theorem Rep.dp : ∀ {v : V} {d : PyData}, Rep H v d → Dp K H v d
  | _, _, .non => .non
  | _, _, .bl b => .bl b
  | _, _, .int i _ => .int i
  | _, _, .str x => .str x
  | _, _, .lst e r => .lst (SqL.of e) (RepA.dp r)
  | _, _, .tup e r => .tup (SqT.of e) (RepA.dp r)
theorem RepA.dp : ∀ {vs : List V} {ds : List PyData}, RepA H vs ds → DpAll K H vs ds
  | _, _, .nil => .nil
  | _, _, .cons h r => .cons (Rep.dp h) (RepA.dp r)
end
mutual
theorem Rep.sh : ∀ {v : V} {d : PyData}, Rep H v d → ∃ as, Sh H CW NW as d.depth v (txt d) ∧ ∀ b ∈ as, ∃ d', Rep H (.ref b) d' ∧ dsz d' ≤ dsz d
  | _, _, .non => ⟨[], by rw [txt]; exact .non, fun _ z => nomatch z⟩
  | _, _, .bl b => ⟨[], by rw [txt]; exact .bl b, fun _ z => nomatch z⟩
  | _, _, .int i h => ⟨[], by rw [txt]; exact .int i h, fun _ z => nomatch z⟩
  | _, _, .str x => ⟨[], by rw [txt]; exact .str x, fun _ z => nomatch z⟩
  | _, _, .lst (a := a) (ds := ds) e r => by
    obtain ⟨as, h1, h2⟩ := RepA.sh r
    have na : a ∉ as := fun m => by
      obtain ⟨d', q1, q2⟩ := h2 a m
      have := Rep.det (.lst e r) q1
      rw [← this, dsz] at q2
      omega
    refine ⟨a :: as, ?_, fun b m => ?_⟩
    · rw [txt, PyData.depth]
      exact .lst e (List.mem_cons_self ..) (fun b z => List.mem_cons_of_mem _ z) na h1
    · rcases List.mem_cons.mp m with z | z
      · rw [z]; exact ⟨_, .lst e r, Nat.le_refl _⟩
      · obtain ⟨d', q1, q2⟩ := h2 b z
        exact ⟨d', q1, by rw [dsz]; omega⟩
  | _, _, .tup (a := a) (ds := ds) e r => by
    obtain ⟨as, h1, h2⟩ := RepA.sh r
    have na : a ∉ as := fun m => by
      obtain ⟨d', q1, q2⟩ := h2 a m
      have := Rep.det (.tup e r) q1
      rw [← this, dsz] at q2
      omega
    refine ⟨a :: as, ?_, fun b m => ?_⟩
    · rw [txt, PyData.depth]
      exact .tup e (List.mem_cons_self ..) (fun b z => List.mem_cons_of_mem _ z) na h1
    · rcases List.mem_cons.mp m with z | z
      · rw [z]; exact ⟨_, .tup e r, Nat.le_refl _⟩
      · obtain ⟨d', q1, q2⟩ := h2 b z
        exact ⟨d', q1, by rw [dsz]; omega⟩
theorem RepA.sh : ∀ {vs : List V} {ds : List PyData}, RepA H vs ds → ∃ as, ShA H CW NW as (PyData.depthAll ds) vs (txtA ds) ∧ ∀ b ∈ as, ∃ d', Rep H (.ref b) d' ∧ dsz d' ≤ dszA ds
  | _, _, .nil => ⟨[], by rw [txtA]; exact .nil, fun _ z => nomatch z⟩
  | _, _, .cons (d := d) (ds := ds) h r => by
    obtain ⟨as, h1, h2⟩ := Rep.sh h
    obtain ⟨bs, h3, h4⟩ := RepA.sh r
    refine ⟨as ++ bs, ?_, fun b m => ?_⟩
    · rw [txtA, PyData.depthAll]
      exact .cons (h1.wide (fun _ z => List.mem_append_left _ z) (Nat.le_max_left ..)) (h3.wide (fun _ z => List.mem_append_right _ z) (Nat.le_max_right ..))
    · rw [dszA]
      rcases List.mem_append.mp m with z | z
      · obtain ⟨d', q1, q2⟩ := h2 b z
        exact ⟨d', q1, by omega⟩
      · obtain ⟨d', q1, q2⟩ := h4 b z
        exact ⟨d', q1, by omega⟩
end
/-- alike: the same data, whether in one place or in two -/
def spAlikeD (K : PySem.W.Frag) : Sp := fun vs H Q _ => ∃ (x y : V) (d : PyData), vs = [x, y] ∧ Rep H x d ∧ Rep H y d ∧ d.canLay0 = true ∧ d.depth ≤ 20 ∧ (txt d).length ≤ sizeLine ∧ Q (.bl true) H
end
end KaG
set_option maxRecDepth 100000
set_option maxHeartbeats 2000000
set_option maxRecDepth 100000
set_option maxHeartbeats 2000000
namespace KaX
open PySem PySem.Builtin PySem.Builtin.BaseException
open PySem.W (Looks Frag findIn subIn looks_findIn looks_subIn clsIn)
section
variable {prog : Program} {w : World} {A : Around} {E : Value → Shared → Prop} {s : Shared} {K : Frag} {C e t0 : Addr}
theorem bexcCall {nm : Str} {cd : ClassData} {N T : Str} {u0 : Value} {d0 : Nat} {as : List Addr} {h₀ : Heap} {g : List Code} (x : ExcC K C e t0 s.heap) (hc : clsIn K C = some cd) (hn : cd.name = nm) (hN : Str.ofString ((nm.toString.cutAt '.').getLastD "") = N)
    (hB : subIn K (.ref C) (.type "BaseException") = some true)
    (ht : s.heap.TupAt t0 [u0]) (hu0 : ReprK prog w as h₀ d0 u0 T) (hg : A.guards = some g) (hcl : ∀ b ∈ as, Clear g b) (hu : A.units + 1 + d0 < cLine) (hk : ∀ b o, h₀.get? b = some o → s.heap.get? b = some o) {Q : Value → Shared → Prop}
    (hq : ∀ u h' tk, (∀ b o, s.heap.get? b = some o → h'.get? b = some o) → Q (.str (N ++ Str.ofString "(" ++ T ++ Str.ofString ")") u) { s with heap := h', toks := tk })
    (hsz : (N ++ Str.ofString "(" ++ T ++ Str.ofString ")").length ≤ sizeLine) :
    wpAny (model prog w) A (call (.builtin "BaseException.__repr__") [.ref e]) Q E s := by
  refine wpAny_call (codeAny_call_builtin F.excStr_Exception.repr.plain F.entry_bexc_repr ?_)
  refine PySem.W.check_slot (i := "BaseException.__repr__") (owner := "BaseException") (n := "__repr__") (by decide +kernel) (by decide +kernel) (x.LI hB) (F.args_bexc_repr _) ?_
  unfold «BaseException.__repr__»
  exact wpAny_mono (bra 0 x hc hn hN ht hu0 (by exact hg) hcl (show A.units + 1 + d0 < cLine by omega) hk (fun u h' tk k => hq u h' tk k) (by rw [Nat.zero_add]; exact hsz)) (fun _ _ z => z) fun _ _ z => z
theorem call_repr_C {nm : Str} {cd : ClassData} {N T : Str} {u0 : Value} {d0 : Nat} {as : List Addr} {h₀ : Heap} {g : List Code} (x : ExcC K C e t0 s.heap) (hc : clsIn K C = some cd) (hn : cd.name = nm) (hN : Str.ofString ((nm.toString.cutAt '.').getLastD "") = N)
    (hB : subIn K (.ref C) (.type "BaseException") = some true) (hR : findIn K (.ref C) "__repr__" = some (some (.builtin "BaseException.__repr__")))
    (ht : s.heap.TupAt t0 [u0]) (hu0 : ReprK prog w as h₀ d0 u0 T) (hg : A.guards = some g) (hcl : ∀ b ∈ as, Clear g b) (hu : A.units + 2 + d0 < cLine) (hk : ∀ b o, h₀.get? b = some o → s.heap.get? b = some o) {Q : Value → Shared → Prop}
    (hq : ∀ u h' tk, (∀ b o, s.heap.get? b = some o → h'.get? b = some o) → Q (.str (N ++ Str.ofString "(" ++ T ++ Str.ofString ")") u) { s with heap := h', toks := tk })
    (hsz : (N ++ Str.ofString "(" ++ T ++ Str.ofString ")").length ≤ sizeLine) :
    wpAny (model prog w) A (call (.builtin "repr") [.ref e]) Q E s := by
  have hf : Looks (model prog w) s.heap (typeLookup (.ref C) "__repr__") (some (.builtin "BaseException.__repr__")) := looks_findIn x.1 hR
  have fin : wpAny (model prog w) A.in1 (call (.builtin "BaseException.__repr__") [.ref e]) (fun v s' => ∃ y u, v = .str y u ∧ Q (.str y u) s') E s :=
    bexcCall x hc hn hN hB ht hu0 (by exact hg) hcl (show A.units + 1 + 1 + d0 < cLine by omega) hk (fun u h' tk k => ⟨_, _, rfl, hq u h' tk k⟩) hsz
  refine Calls.call_function_entry F.kind_repr F.plain_repr F.entry_repr (F.args_repr1 _) ?_
  unfold Builtin.«repr»
  refine wpAny_bind (m := oneArg "repr" _) (wpAny_pure ?_)
  refine wpAny_bind (wpAny_cRoomFor (show A.in1.units < cLine by show A.units + 1 < cLine; omega) ?_)
  refine wpAny_bind ?_
  unfold specialOf
  refine wpAny_bind (x.LT.here (hf.here ?_))
  simp only [Option.isNone_some, Bool.false_eq_true, if_false]
  refine wpAny_bind ?_
  simp only [callSpecialIfBound?, bindSpecialIfBound?]
  refine wpAny_holding (wpAny_bind (wpAny_bind ?_))
  unfold specialOf
  refine wpAny_bind (x.LT.here (hf.here ?_))
  simp only [F.excStr_Exception.repr.bind]
  refine wpAny_bind (wpAny_askSetting (wpAny_ite ?_))
  split
  · refine wpAny_bind (wpAny_pure (wpAny_pure ?_))
    dsimp only [List.append_nil]
    refine wpAny_bind (wpAny_mono fin (fun v s' hv => ?_) fun _ _ z => z)
    obtain ⟨y, u, rfl, hq⟩ := hv
    refine wpAny_pure ?_
    exact wpAny_bind (wpAny_isInstance (T := "str") (b := true) rfl isSubtype_str_str (wpAny_pure ⟨_, rfl, hq⟩))
  · refine wpAny_tryCatch (wpAny_bind (wpAny_pure (wpAny_pure ?_)))
    dsimp only [List.append_nil]
    refine wpAny_bind (wpAny_mono fin (fun v s' hv => ?_) fun _ _ z => z)
    obtain ⟨y, u, rfl, hq⟩ := hv
    refine wpAny_pure ?_
    exact wpAny_bind (wpAny_isInstance (T := "str") (b := true) rfl isSubtype_str_str (wpAny_pure ⟨_, rfl, hq⟩))
end
end KaX
set_option maxRecDepth 100000
set_option maxHeartbeats 2000000
namespace KaG
open PySem PySem.Spec PyProof.Rows L2
section
variable {X : Cx} {CW : Addr} {NW : Str}
def rRepr (CW : Addr) (NW : Str) : List V → Hp → VK → Prop := fun xs H Q => ∃ v as d t, xs = [v] ∧ Sh H CW NW as d v t ∧ d ≤ 20 ∧ t.length ≤ sizeLine ∧ Q (.str t) H
theorem call_reprS (T : WrK X.K CW NW) (hg : X.A.guards = some []) (hu : X.A.units + 60 < cLine) : CallR X (.builtin "repr") (rRepr CW NW) := by
  intro pins s σ H xs us Q I r h
  obtain ⟨v, as, d, t, rfl, hS, hd, hz, q⟩ := h
  obtain ⟨u, rfl, rv⟩ := vals1 r
  have fin : ∀ (x : Tok) (h' : Heap) (tk : Nat), (∀ b o, s.heap.get? b = some o → h'.get? b = some o) → EP X pins σ Q (.str t x) { s with heap := h', toks := tk } := fun x h' tk k => ⟨.str t, H, I.kept k, ⟨_, rfl⟩, q⟩
  have cl : ∀ (as : List Addr), ∀ b ∈ as, Clear [] b := fun _ b _ => Clear.nil b
  cases hS with
  | non => cases (show u = Value.none from rv); exact PySem.P.repr_of_none (fin _ _ _ fun _ _ e => e)
  | bl b => cases (show u = Value.bool b from rv); exact PySem.P.repr_of_bool (fin _ _ _ fun _ _ e => e)
  | int i hi =>
    obtain ⟨tk, e⟩ := (show ∃ t, u = Value.int i t from rv)
    cases e
    exact PySem.P.repr_of_int hi (fin _ _ _ fun _ _ e => e)
  | str x =>
    obtain ⟨tk, e⟩ := (show ∃ t, u = Value.str x t from rv)
    cases e
    exact PySem.P.repr_of_str (fin _ _ _ fun _ _ e => e) hz
  | @lst as0 _ d a xs ts e ha hs hn hi =>
    cases (show u = Value.ref a from rv)
    obtain ⟨_, its, n, rv, ho⟩ := (show ObjOk X.prog X.w H s.heap a (.lst xs) from I.hok a _ e)
    have hA := ShA.run T I.kIn I.hok hi its rv
    refine call_repr_slot (by omega) ⟨_, ho, rfl⟩ F.slot_list_repr.toG ?_
    cases its with
    | nil =>
      cases hA
      rw [listText_nil] at fin
      exact call_list_repr_empty ⟨_, ho, rfl⟩ ho rfl ⟨_, _, rfl, fin _ _ _ fun _ _ e => e⟩
    | cons x l =>
      exact call_list_reprK ho rfl rfl hn (by simpa using hA.length_eq) (fun i y q => hA.item i y (by simpa using q)) (by exact hg) (cl _) (by show X.A.units + 1 + (d + 1) < cLine; omega) (fun _ _ e => e) (fun h' x tk k => ⟨_, _, rfl, fin x h' tk k⟩) hz
  | @tup as0 _ d a xs ts e ha hs hn hi =>
    cases (show u = Value.ref a from rv)
    obtain ⟨_, its, rv, o, ho, hc, n, hd'⟩ := (show ObjOk X.prog X.w H s.heap a (.tup xs) from I.hok a _ e)
    have hA := ShA.run T I.kIn I.hok hi its rv
    refine call_repr_slot (by omega) ⟨o, ho, hc⟩ F.slot_tuple_repr ?_
    exact call_tuple_reprK ho hc hd' hn (by simpa using hA) (by exact hg) (cl _) (by show X.A.units + 1 + (d + 1) < cLine; omega) (fun _ _ e => e) (fun h' x tk k => ⟨_, _, rfl, fin x h' tk k⟩) hz
  | @dct as0 _ d a kvs ps e ha hs hn hi =>
    cases (show u = Value.ref a from rv)
    obtain ⟨_, hsys, vs, kv, o, es, ep, ho, hx, hd', _, hp, _⟩ := (show ObjOk X.prog X.w H s.heap a (.dK kvs) from I.hok a _ e)
    have hE := ShD.run T I.kIn I.hok hi vs kv es.toList hp
    refine call_repr_slot (by omega) ⟨o, ho, hx.1⟩ F.slot_dict_repr ?_
    exact call_dict_reprK ho hx.1 hd' hsys hn hE (by exact hg) (cl _) (by show X.A.units + 1 + (d + 1) < cLine; omega) (fun _ _ e => e) (fun h' x tk k => ⟨_, _, rfl, fin x h' tk k⟩) hz
  | @exc as0 _ d a dd t1 v t e et ha ht hd hs hi =>
    cases (show u = Value.ref a from rv)
    have ho := exw_at I.hok e
    obtain ⟨_, its, rv, o, hto, hc, n, hd'⟩ := (show ObjOk X.prog X.w H s.heap t1 (.tup [v]) from I.hok t1 _ et)
    cases rv with
    | cons r1 r2 =>
      cases r2
      obtain ⟨cd, hcd, hN⟩ := T.cl
      have x : ExcC X.K CW a t1 s.heap := ⟨I.kIn, _, _, ho, rfl, rfl, rfl⟩
      exact KaX.call_repr_C x hcd rfl hN T.ex T.rp ⟨o, n, hto, hc, hd'⟩ (Sh.run T I.kIn I.hok hi _ r1) hg (cl _) (by omega) (fun _ _ e => e) fin hz
theorem valV_in : ∀ {kvs : List (Key × V)} {p : Key × V}, (kvs.map (·.1)).Nodup → p ∈ kvs → valV kvs p.1 = some p.2
  | [], _, _, h => nomatch h
  | q :: r, p, nd, m => by
    rw [List.map_cons, List.nodup_cons] at nd
    rcases List.mem_cons.mp m with z | z
    · rw [z]
      exact valV_pos rfl
    · have ne : q.1 ≠ p.1 := fun e => nd.1 (by rw [e]; exact List.mem_map_of_mem z)
      have ih := valV_in nd.2 z
      unfold valV at ih ⊢
      rw [List.find?_cons]
      have ed : decide (q.1 = p.1) = false := decide_eq_false ne
      rw [ed]
      exact ih
end
end KaG
set_option maxRecDepth 100000
set_option maxHeartbeats 4000000
namespace KaG
open PySem PySem.Spec PyProof.Rows L2 KaN
/-- the dict of least tells -/
def LdOk (kvs : List (Key × V)) (ns : List Str) : Prop := ∀ x ∈ ns, ∃ v : Int, valV kvs (Sum.inr x) = some (.int v) ∧ 1 ≤ v ∧ v ≤ 3
theorem ld_ok {kvs : List (Key × V)} {ns : List Str} (nd : ns.Nodup) (e : kvs.map (·.1) = ns.map Sum.inr) (h : ∀ kv ∈ kvs, ∃ v : Int, kv.2 = .int v ∧ 1 ≤ v ∧ v ≤ 3) : LdOk kvs ns := fun x hx => by
  have m : (Sum.inr x : Key) ∈ kvs.map (·.1) := by rw [e]; exact List.mem_map.mpr ⟨x, hx, rfl⟩
  obtain ⟨kv, hkv, ek⟩ := List.mem_map.mp m
  obtain ⟨v, ev, v1, v3⟩ := h kv hkv
  have nk : (kvs.map (·.1)).Nodup := by rw [e]; exact List.pairwise_map.mpr (nd.imp fun h z => h (Sum.inr.inj z))
  have q := valV_in nk hkv
  rw [ek, ev] at q
  exact ⟨v, q, v1, v3⟩
section
variable {P : Program} {w : World} {K : PySem.W.Frag} {mg : Str → Option Value} {base : Heap}
abbrev nmTh : List Str := ["bag", "kinds", "names", "rows", "name", "least", "found", "k", "grounds", "giver", "tell", "ground"]
theorem scTh : FnScope nmTh ["bag", "kinds"] (defScope sThreaded) := ⟨rfl, rfl, rfl, by decide +kernel, rfl, by decide +kernel, by decide +kernel⟩
def spBook2 (H : Hp) (bg : Addr) (Q : VK) : Prop := ∀ (p : Addr) (rs : List Str) (ks : List Kd) (H' : Hp), Ext bg H H' → H p = none → rs.length ≤ 5 → 2 ≤ rs.length → BookAt H' p rs ks → BookOk rs ks → Q (.ref p) H'
def spTh : Sp := fun vs H Q _ => ∃ (bg : Addr) (n : Int), vs = [.ref bg, .int n] ∧ Bag H bg ∧ 1 ≤ n ∧ n ≤ 5 ∧ spBook2 H bg Q
theorem ok_th {f fM fX fS fT : Addr} {fd fdM fdX fdS fdT : FuncData} (F : Fun K "_law_threaded" "_law_threaded" sThreaded f fd) (T : TxtC mg) (CN : Ct P w K mg base "_law_named" 3 ["bag", "many"] spNamed fM fdM) (CX : Ct P w K mg base "_law_mixed" 2 ["bag", "things"] spMixed fX fdX)
    (C : Ct P w K mg base "_law_some" 2 ["bag", "things"] spSome2 fS fdS) (CT : Ct P w K mg base "_law_take" 1 ["bag", "upto"] spTake fT fdT) : FnOk P w K mg base CX0 6 f fd ["bag", "kinds"] spTh := by
  refine F.ok scTh (fun vs H Q E h => ?_) (fun cdv A outer s H vs Q E hr h => ?_)
  · obtain ⟨bg, n, rfl, _⟩ := h
    rfl
  · obtain ⟨bg, n, rfl, hB, n1, n5, k⟩ := h
    have hr3 : Room 3 (A.deeper (envOfC "_law_threaded" (defScope sThreaded) s.heap.objs.size f cdv)) := hr.mono (by decide)
    have hr2 : Room 2 (A.deeper (envOfC "_law_threaded" (defScope sThreaded) s.heap.objs.size f cdv)) := hr.mono (by decide)
    have hr1 : Room 1 (A.deeper (envOfC "_law_threaded" (defScope sThreaded) s.heap.objs.size f cdv)) := hr.mono (by decide)
    have hu : (A.deeper (envOfC "_law_threaded" (defScope sThreaded) s.heap.objs.size f cdv)).units + 64 < cLine := by have := hr.3; omega
    have u1 : (A.deeper (envOfC "_law_threaded" (defScope sThreaded) s.heap.objs.size f cdv)).units + 1 < cLine := by have := hr.3; omega
    refine ⟨_, (pss_cons (ps_asg (pe_tup (pa_cons (pe_call CN.G hr3 (by rfl) CN.m CN.kp CN.b .nil pass0 (pa_cons (pv 0) (pa_cons (pe_op op_add pe_int (pe_call CT.G hr1 (by rfl) CT.m CT.kp CT.b .nil pass0 (pa_cons (pv 0) (pa_cons (pv 1) pa_nil)))) pa_nil)))
          (pa_cons (pe_call CN.G hr3 (by rfl) CN.m CN.kp CN.b .nil pass0 (pa_cons (pv 0) (pa_cons pe_int pa_nil))) pa_nil)))
          (pg_tup (by rfl) (pgs_cons (pg_name (i := 2) scTh.nd rfl (Or.inl rfl)) (pgs_cons (pg_name (i := 3) scTh.nd rfl (Or.inr rfl)) pgs_nil))))
      (pss_cons (ps_par (i := 5) (j := 6) rfl scTh.nd rfl rfl (by decide) rfl rfl (pa_cons (pe_callTy (call_dictP rfl) (by rfl) T.dct (by decide +kernel) (pa_cons (pe_lc (own := [("name", 4)]) (g := gName 4) (by rfl) scTh.nd (pi_tup (pv 2))
          (blkOk_by (own := [("name", 4)]) (N := nmTh) (sc := defScope sThreaded) (by decide +kernel)) (fun _ _ _ _ _ => pg_name (i := 4) scTh.nd rfl (Or.inl rfl)) (fun _ _ _ _ _ => pts_nil)
          (fun _ _ _ _ _ => pe_tup (pa_cons (pv 4) (pa_cons (pe_op (r := rI0 fun i j => V.int (i + j)) op_add pe_int (pe_call CT.G hr1 (by rfl) CT.m CT.kp CT.b .nil pass0 (pa_cons (pv 0) (pa_cons pe_int pa_nil)))) pa_nil)))) pa_nil)) (pa_cons (pe_lst pa_nil) pa_nil)) (by rfl))
      (pss_cons (ps_for PassesOwn.never rfl (pi_range1 rfl T.b.range (pa_cons (pe_callB call_len_seq (by rfl) T.b.len PySem.boot_len (pa_cons (pv 2) pa_nil)) pa_nil)) (pg_name (i := 7) scTh.nd rfl (Or.inl rfl))
        (pss_cons (ps_par (i := 4) (j := 8) rfl scTh.nd rfl rfl (by decide) rfl rfl (pa_cons (pe_ix ix_tup (pv 2) (pv 7) (fun _ _ => rfl)) (pa_cons (pe_lst pa_nil) pa_nil)) (by rfl))
        (pss_cons (ps_for PassesOwn.never rfl (pi_list (pe_slice sl_list (pe_call CX.G hr2 (by rfl) CX.m CX.kp CX.b .nil pass0 (pa_cons (pv 0) (pa_cons (pv 2) pa_nil))) po_none (po_some (pe_call C.G hr2 (by rfl) C.m C.kp C.b .nil pass0 (pa_cons (pv 0) (pa_cons (pe_lst (pa_cons pe_int (pa_cons pe_int (pa_cons pe_int (pa_cons pe_int (pa_cons pe_int pa_nil)))))) pa_nil)))))) (pg_name (i := 9) scTh.nd rfl (Or.inl rfl))
          (pss_cons (ps_set (i := 10) scTh.nd rfl (Or.inl rfl) (pe_op op_add (pe_dget u1 (pv 5) (pv 4) (fun _ _ => rfl)) (pe_op op_mul (pe_call C.G hr2 (by rfl) C.m C.kp C.b .nil pass0 (pa_cons (pv 0) (pa_cons (pe_lst (pa_cons pe_int (pa_cons pe_int (pa_cons pe_int pa_nil)))) pa_nil)))
            (pe_callTy call_int1 (by rfl) T.b.int (by decide +kernel) (pa_cons (pe_cmpR op_lt (pe_dget u1 (pv 5) (pv 4) (fun _ _ => rfl)) pe_int (nomark _)) pa_nil)))))
          (pss_one (ps_expr (pe_bm PySem.F.plainAttrs_list PySem.F.slot_list_append PySem.F.type_list_append mt_append (pv 8) (pa_cons (pe_tup (pa_cons (pe_tup (pa_cons pe_str (pa_cons (pv 9) (pa_cons (pe_op op_add pe_int (pe_call CT.G hr1 (by rfl) CT.m CT.kp CT.b .nil pass0 (pa_cons (pv 0) (pa_cons (pe_dget u1 (pv 5) (pv 9) (fun _ _ => rfl)) pa_nil)))) (pa_cons (pv 10) (pa_cons pe_int pa_nil)))))) pa_nil)) pa_nil))))))
        (pss_cons (ps_if (PW.pt (pw_or (pt_cmpR op_eq (pv 7) pe_int (nomark _)) (pw_or1 (pt_cmpR op_eq (pe_call CT.G hr1 (by rfl) CT.m CT.kp CT.b .nil pass0 (pa_cons (pv 0) (pa_cons pe_int pa_nil))) pe_int (nomark _)))))
          (pss_one (ps_expr (pe_bm PySem.F.plainAttrs_list PySem.F.slot_list_append PySem.F.type_list_append mt_append (pv 8) (pa_cons (pe_tup (pa_cons (pe_tup (pa_cons pe_str (pa_cons (pe_ix ix_tup (pv 3) pe_int (fun _ _ => rfl)) (pa_cons (pe_call CT.G hr1 (by rfl) CT.m CT.kp CT.b .nil pass0 (pa_cons (pv 0) (pa_cons pe_int pa_nil))) (pa_cons pe_int pa_nil))))) pa_nil)) pa_nil)))) pss_nil)
        (pss_cons (ps_if (pt_cmpR op_eq (pe_call CT.G hr1 (by rfl) CT.m CT.kp CT.b .nil pass0 (pa_cons (pv 0) (pa_cons pe_int pa_nil))) pe_int (nomark _))
          (pss_one (ps_setLc (i := 8) (own := [("ground", 11)]) (g := gName 11) (by rfl) scTh.nd rfl rfl (sw_true rfl rfl rfl (by decide +kernel)) (pi_list (pv 8))
            (blkOk_by (own := [("ground", 11)]) (N := nmTh) (sc := defScope sThreaded) (by decide +kernel)) (fun _ _ _ _ _ => pg_name (i := 11) scTh.nd rfl (Or.inl rfl)) (fun _ _ _ _ _ => pts_nil)
            (fun _ _ _ _ _ => pe_callTy (T := "tuple") (r := rTupOf K) call_tupOf (by rfl) T.tup (by decide +kernel) (pa_cons (pe_callB (id := "sorted") (r := rSortN K w) (cr_sortN rfl hu) (by rfl) T.sor (by decide +kernel) (pa_cons (pe_callTy (T := "set") (r := rSetN K w) (cr_setN rfl hu) (by rfl) T.set (by decide +kernel)
              (pa_cons (pe_op (r := rCatT K) op_catT (pv 11) (pe_tup (pa_cons (pe_tup (pa_cons pe_str (pa_cons (pe_ix (r := rIxT K) ix_tup (pv 3) pe_int (fun _ _ => rfl)) (pa_cons pe_int (pa_cons pe_int pa_nil))))) pa_nil))) pa_nil)) pa_nil)) pa_nil)))) pss_nil)
        (pss_one (ps_expr (pe_bm PySem.F.plainAttrs_list PySem.F.slot_list_append PySem.F.type_list_append mt_append (pv 6) (pa_cons (pe_tup (pa_cons (pv 4) (pa_cons (pe_op op_add pe_int (pe_call CT.G hr1 (by rfl) CT.m CT.kp CT.b .nil pass0 (pa_cons (pv 0) (pa_cons pe_int pa_nil))))
            (pa_cons (pe_call C.G hr2 (by rfl) C.m C.kp C.b .nil pass0 (pa_cons (pv 0) (pa_cons (pe_lst (pa_cons pe_int (pa_cons pe_int (pa_cons pe_int (pa_cons pe_int (pa_cons pe_int (pa_cons pe_int pa_nil))))))) pa_nil)))
            (pa_cons (pe_callTy call_tupOf (by rfl) T.tup (by decide +kernel) (pa_cons (pe_callB (cr_sortN rfl hu) (by rfl) T.sor (by decide +kernel) (pa_cons (pe_callTy (cr_setN rfl hu) (by rfl) T.set (by decide +kernel) (pa_cons (pv 8) pa_nil)) pa_nil)) pa_nil)) pa_nil))))) pa_nil)))))))))
      (pss_one (ps_ret (pe_tup (pa_cons (pv 3) (pa_cons (pe_callTy call_tuple_of (by rfl) T.tup (by decide +kernel) (pa_cons (pv 6) pa_nil)) pa_nil)))))))), ?_⟩
    have sz : ∀ {m : Nat}, m ≤ 900 → m ≤ sizeLine := fun h => Nat.le_of_lt (small1000 (by omega))
    refine ⟨_, rfl, _, rfl, _, rfl, bg, _, rfl, hB, by omega, by omega, fun z1 H1 E1 a0 a1 => ?_⟩
    refine ⟨_, _, rfl, rfl, bg, _, rfl, E1.bag, by omega, by omega, fun nt ns H2 E2 nnt ent hns lns => ?_⟩
    have E12 := E1.trans E2
    refine ⟨_, rfl, bg, 2, rfl, E12.bag, by decide, by decide, fun rt rs H4 E4 nrt ert hrs lrs => ?_⟩
    have E14 := E12.trans E4
    have ntb : nt ≠ bg := fun z => E1.bag.there (z ▸ nnt)
    have rtb : rt ≠ bg := fun z => E12.bag.there (z ▸ nrt)
    have ent4 := E4.keep nt _ ntb ent
    have nl : ns.length = (1 + z1).toNat := lns
    have rl : rs.length = 2 := lrs
    refine ⟨sz (by show 2 ≤ 900; decide), fun t nt' => ?_⟩
    refine ⟨t, _, rfl, SqT.of upd_same, by rfl, _, _, rfl, _, _, rfl, rfl, ?_⟩
    have E15 := E14.new (o := .tup [.ref nt, .ref rt]) nt'
    have e1 := same_upd (o := .tup [.ref nt, .ref rt]) nt' _ _ ent4
    have e2 := same_upd (o := .tup [.ref nt, .ref rt]) nt' _ _ ert
    generalize upd H4 t (.tup [.ref nt, .ref rt]) = H5 at E15 e1 e2 ⊢
    refine ⟨_, rfl, nt, rfl, ⟨_, SqT.of e1⟩, fun D hD => lc_tup (K := K) (a := nt) (xs := ns.map V.str) (fun i G => Ext bg H5 G ∧ ∃ (qs : List Addr) (kvs : List (Key × V)), G D = some (.lst (qs.map V.ref)) ∧ Paired (fun q (kv : Key × V) => G q = some (.tup [kV kv.1, kv.2])) qs kvs ∧ kvs.map (·.1) = (ns.take i).map Sum.inr ∧ ∀ kv ∈ kvs, ∃ v : Int, kv.2 = .int v ∧ 1 ≤ v ∧ v ≤ 3) ?_ ?_ ?_ ?_⟩
    · exact ⟨(Ext.of_same E15.bag Same.refl').new hD, [], [], upd_same, .nil, rfl, fun _ z => (by cases z)⟩
    · rintro i G _ ⟨E6, _⟩
      exact SqT.of (E6.keep nt _ ntb e1)
    · rintro i x G hx ⟨E6, qs, kvs, gD, pq, ek, hv⟩
      rw [List.getElem?_map] at hx
      obtain ⟨nm, hnm, rfl⟩ := Option.map_eq_some_iff.mp hx
      have hi := (List.getElem?_eq_some_iff.mp hnm).1
      have Db : D ≠ bg := fun z => E15.bag.there (z ▸ hD)
      refine ⟨rfl, ?_⟩
      unfold tYes
      dsimp only
      refine iteT ⟨_, rfl, _, rfl, bg, 3, rfl, E6.bag, by decide, by decide, fun y G2 E7 c0 c1 => ?_⟩
      refine ⟨_, _, rfl, rfl, sz (by show 2 ≤ 900; decide), fun q nq => ?_⟩
      have gD2 := E7.keep D _ Db gD
      have S1 := same_upd (o := .tup [.str nm, .int (1 + y)]) nq
      have E8 := E7.trans (Ext.of_same E7.bag S1)
      have lq : qs.length ≤ 5 := by
        have h1 := paired_len pq
        have h2 := congrArg List.length ek
        rw [List.length_map, List.length_map, List.length_take] at h2
        omega
      have tsl := ts_lst (ys := qs.map V.ref ++ [V.ref q]) (S1 _ _ gD2)
      refine ⟨_, S1 _ _ gD2, small1000 (by rw [List.length_map]; omega), Ext.write E15.bag (E6.trans E8) hD, qs ++ [q], kvs ++ [(Sum.inr nm, .int (1 + y))], by rw [upd_same, List.map_append]; rfl, ?_, ?_, ?_⟩
      · refine paired_snoc (x := q) (y := ((Sum.inr nm : Key), V.int (1 + y))) ?_ (Paired.mono' (fun a kv h => tsl _ _ (TSame.ext E6.bag E8 _ _ h)) pq)
        exact tsl _ _ upd_same
      · rw [List.map_append, ek, List.take_add_one, hnm, Option.toList_some, List.map_append]; rfl
      · intro kv m
        rcases List.mem_append.mp m with c | c
        · exact hv kv c
        · rw [List.mem_singleton.mp c]; exact ⟨1 + y, rfl, by omega, by omega⟩
    · rintro G ⟨E6, qs, kvs, gD, pq, ek, hv⟩
      rw [List.length_map, List.take_length] at ek
      have nk : ((([] : List (Key × V)) ++ kvs).map (·.1)).Nodup := by
        rw [List.nil_append, ek]
        exact List.pairwise_map.mpr (hns.nd.imp fun h z => h (Sum.inr.inj z))
      refine ⟨D, qs, kvs, rfl, SqL.of gD, Paired.mono' (fun a kv h => SqT.of h) pq, fun ld nld => ?_⟩
      rw [merge_new _ _ nk, List.nil_append]
      have hld := ld_ok hns.nd ek hv
      have E7 := (E15.trans E6).new (o := .dK kvs) nld
      have f1 := same_upd (o := .dK kvs) nld _ _ (E6.keep nt _ ntb e1)
      have f2 := same_upd (o := .dK kvs) nld _ _ (E6.keep rt _ rtb e2)
      have fl : (upd G ld (.dK kvs)) ld = some (.dK kvs) := upd_same
      have ldb : ld ≠ bg := fun z => E6.bag.there (z ▸ nld)
      generalize upd G ld (.dK kvs) = G7 at E7 f1 f2 fl ⊢
      refine ⟨Nat.zero_le _, fun p np => ?_⟩
      have pH : H p = none := newAt E7 np
      have pb : p ≠ bg := fun z => hB.there (z ▸ pH)
      refine ⟨_, _, rfl, ?_⟩
      refine ⟨_, rfl, nt, _, rfl, .inr (SqT.of (same_upd np _ _ f1)), _, rfl, by omega, by rw [List.length_map]; omega, for_range (fun i σ' J => (∃ x4 x7 x8 x9 x10 x11 : Option V, σ' = [some (.ref bg), some (.int n), some (.ref nt), some (.ref rt), x4, some (.ref ld), some (.ref p), x7, x8, x9, x10, x11]) ∧
        Ext bg H J ∧ J nt = some (.tup (ns.map V.str)) ∧ J rt = some (.tup (rs.map V.str)) ∧ J ld = some (.dK kvs) ∧ ∃ (kas : List Addr) (ks : List Kd), J p = some (.lst (kas.map V.ref)) ∧ KsAt J rs ns kas ks ∧ ks.map Kd.name = ns.take i) ?_ ?_ ?_⟩
      · exact ⟨⟨_, _, _, _, _, _, rfl⟩, E7.new np, same_upd np _ _ f1, same_upd np _ _ f2, same_upd np _ _ fl, [], [], upd_same, ⟨.nil, fun _ z => nomatch z⟩, rfl⟩
      · rintro i σ' J hi ⟨⟨x4, x7, x8, x9, x10, x11, rfl⟩, E8, g1, g2, gl, kas, ks, gp, hk, en⟩
        rw [Int.toNat_natCast, List.length_map] at hi
        have hni : ns[i]? = some ns[i] := List.getElem?_eq_getElem hi
        obtain ⟨v, ev, v1, v3⟩ := hld ns[i] (List.getElem_mem hi)
        refine ⟨_, rfl, _, rfl, nt, _, _, .str ns[i], rfl, rfl, SqT.of g1, by rw [Int.zero_add]; exact atI_nat (by rw [List.getElem?_map, hni]; rfl), Nat.zero_le _, fun gr ngr => ⟨_, _, rfl, ?_⟩⟩
        have E9 : Ext bg J (upd J gr (.lst [])) := (Ext.of_same E8.bag Same.refl').new ngr
        have grb : gr ≠ bg := fun z => E8.bag.there (z ▸ ngr)
        have grp : gr ≠ p := fun z => by rw [z, gp] at ngr; cases ngr
        have gr0 : (upd J gr (.lst [])) gr = some (.lst []) := upd_same
        generalize upd J gr (.lst []) = J0 at E9 gr0 ⊢
        refine ⟨_, rfl, _, rfl, bg, nt, ns.map V.str, rfl, E9.bag, ntb, .inr (E9.keep nt _ ntb g1), by rw [List.length_map]; omega, fun m ys J1 E10 nm em pm => ?_⟩
        obtain ⟨zs, pz, rfl⟩ := perm_of_map pm ns rfl
        have mb : m ≠ bg := fun z => E9.bag.there (z ▸ nm)
        refine ⟨_, rfl, sz (by show 5 ≤ 900; decide), fun q nq => ?_⟩
        have E11 := E10.new (o := .lst [.int 1, .int 1, .int 2, .int 2, .int 3]) nq
        have qb : q ≠ bg := fun z => E10.bag.there (z ▸ nq)
        refine ⟨bg, q, _, rfl, E11.bag, qb, .inl upd_same, by decide, by decide, fun u J2 mu E12 => ?_⟩
        obtain ⟨z, rfl, z1', z3'⟩ := ints_in (ns := [1, 1, 2, 2, 3]) (lo := 1) (hi := 3) (by decide) mu
        have hm := E12.keep m _ mb (same_upd (o := .lst [.int 1, .int 1, .int 2, .int 2, .int 3]) nq _ _ em)
        refine ⟨z, rfl, _, _, rfl, SqL.of hm, fun r nr => ?_⟩
        rw [cut_to _ z (by omega), ← List.map_take]
        have lz : (zs.take z.toNat).length ≤ 3 := by rw [List.length_take]; omega
        have inz : ∀ x ∈ zs.take z.toNat, x ∈ ns := fun x hx => pz.mem_iff.mp (List.mem_of_mem_take hx)
        generalize zs.take z.toNat = zz at lz inz ⊢
        have E13 := ((E9.trans E11).trans E12).new (o := .lst (zz.map V.str)) nr
        have rb : r ≠ bg := fun z => E12.bag.there (z ▸ nr)
        have E9to := (E11.trans E12).new (o := .lst (zz.map V.str)) nr
        have gr1 := E9to.keep gr _ grb gr0
        have hr0 : (upd J2 r (.lst (zz.map V.str))) r = some (.lst (zz.map V.str)) := upd_same
        have rgr : r ≠ gr := fun z => by
          have := (E11.trans E12).keep gr _ grb gr0
          rw [← z, nr] at this; cases this
        have grH : J gr = none := ngr
        have rJ : J r = none := newAt ((E9.trans E11).trans E12) nr
        generalize upd J2 r (.lst (zz.map V.str)) = J3 at E13 gr1 hr0 ⊢
        refine ⟨r, rfl, ⟨_, SqL.of hr0⟩, for_list (K := K) (a := r) (xs := zz.map V.str) (fun j σ' M => (∃ x9 x10 x11 : Option V, σ' = [some (.ref bg), some (.int n), some (.ref nt), some (.ref rt), some (.str ns[i]), some (.ref ld), some (.ref p), some (.int (0 + (i : Int))), some (.ref gr), x9, x10, x11]) ∧
          Ext bg J M ∧ M r = some (.lst (zz.map V.str)) ∧ ∃ (as : List Addr) (gs : List (List (List V))), M gr = some (.lst (as.map V.ref)) ∧ GsAt M rs ns as gs ∧ as.length = j ∧ ∀ g ∈ gs, g.length = 1) ?_ ?_ ?_ ?_⟩
        · exact ⟨⟨_, _, _, rfl⟩, E13, hr0, [], [], gr1, GsAt.nil, rfl, fun _ z => (by cases z)⟩
        · rintro j σ' M _ ⟨_, _, hr, _⟩
          exact SqL.of hr
        · rintro j x σ' M hx ⟨⟨x9, x10, x11, rfl⟩, E14, hr, as, gs, mg', hg, la, one⟩
          rw [List.getElem?_map] at hx
          obtain ⟨gv, hgv, rfl⟩ := Option.map_eq_some_iff.mp hx
          have hj := (List.getElem?_eq_some_iff.mp hgv).1
          have gin := inz gv (List.mem_of_getElem? hgv)
          obtain ⟨v', ev', v1', v3''⟩ := hld gv gin
          have hl := E14.keep ld _ ldb gl
          refine ⟨_, rfl, _, rfl, ld, .int v, rfl, by rw [← ev]; exact DGet.k (k := Sum.inr ns[i]) hl, ?_⟩
          refine ⟨_, rfl, sz (by show 3 ≤ 900; decide), fun q nq => ?_⟩
          have E15 := (Ext.of_same E14.bag Same.refl' : Ext bg M M).new (o := .lst [.int 0, .int 0, .int 1]) nq
          have qb : q ≠ bg := fun z => E14.bag.there (z ▸ nq)
          refine ⟨bg, q, _, rfl, E15.bag, qb, .inl upd_same, by decide, by decide, fun u2 M2 mu2 E16 => ?_⟩
          obtain ⟨u, rfl, u0, u1'⟩ := ints_in (ns := [0, 0, 1]) (lo := 0) (hi := 1) (by decide) mu2
          have E17 := E15.trans E16
          have hl2 := E17.keep ld _ ldb hl
          refine ⟨_, rfl, _, rfl, ld, .int v, rfl, by rw [← ev]; exact DGet.k (k := Sum.inr ns[i]) hl2, _, _, rfl, rfl, .inr ⟨_, rfl, _, _, rfl, rfl, .inl ⟨by omega, by omega⟩, _, _, rfl, rfl, ?_⟩⟩
          have hte : 0 ≤ v + u * (if decide (v < 4) = true then 1 else 0) ∧ v + u * (if decide (v < 4) = true then 1 else 0) ≤ 4 := by
            split <;> omega
          dsimp only [gName]
          generalize v + u * (if decide (v < 4) = true then (1 : Int) else 0) = te at hte ⊢
          have mg2 := E17.keep gr _ grb mg'
          refine ⟨_, rfl, .inl ⟨rfl, _, SqL.of mg2⟩, _, rfl, _, rfl, _, rfl, _, rfl, ld, .int v', rfl, by rw [← ev']; exact DGet.k (k := Sum.inr gv) hl2, bg, v', rfl, E17.bag, by omega, by omega, fun y M3 E18 c0 c1 => ?_⟩
          refine ⟨_, _, rfl, rfl, _, rfl, sz (by show 5 ≤ 900; decide), fun na nna => ⟨sz (by show 1 ≤ 900; decide), fun ga nga => ?_⟩⟩
          have E19 := E17.trans E18
          have S1 := same_upd (o := .tup [.str "kind", .str gv, .int (1 + y), .int te, .int 9]) nna
          have S2 := same_upd (o := .tup [.ref na]) nga
          have S12 := KaG.Same.tr S1 S2
          have mg3 := S12 _ _ (E18.keep gr _ grb mg2)
          have E20 := E19.trans (Ext.of_same E19.bag S12)
          have E21 := E14.trans E20
          refine ⟨gr, _, _, rfl, rfl, mg3, small1000 (by rw [List.length_map]; omega), ?_⟩
          have tsl := ts_lst (ys := as.map V.ref ++ [V.ref ga]) mg3
          refine ⟨⟨_, _, _, rfl⟩, Ext.write E8.bag E21 ngr, by rw [upd_ne rgr]; exact E20.keep r _ rb hr, as ++ [ga], gs ++ [[[.str "kind", .str gv, .int (1 + y), .int te, .int 9]]], by rw [upd_same, List.map_append]; rfl, ?_, by rw [List.length_append, la]; rfl, fun g m => ?_⟩
          · refine (GsAt.snoc (hg.ts (TSame.ext E14.bag E20)) (grd_one upd_same (S2 _ _ upd_same)) ⟨by show 0 < 1; decide, by show 1 ≤ 3; decide, fun n2 m2 => ?_⟩).ts tsl
            rw [List.mem_singleton.mp m2]
            exact .kind gv (1 + y) te 9 gin (by omega) (by omega) hte.1 hte.2 (by decide) (by decide)
          · rcases List.mem_append.mp m with c | c
            · exact one g c
            · rw [List.mem_singleton.mp c]; rfl
        · rintro σ' M ⟨⟨x9, x10, x11, rfl⟩, E14, hr, as, gs, mg', hg, la, one⟩
          rw [List.length_map] at la
          dsimp only
          refine seqGo (fun b' D' => ∀ (as : List Addr) (gs : List (List (List V))) (M' : Hp), Ext bg J M' → M' gr = some (.lst (as.map V.ref)) → GsAt M' rs ns as gs → (∀ g ∈ gs, g.length = 1) → gs.length ≤ 4 →
            b' D' [some (.ref bg), some (.int n), some (.ref nt), some (.ref rt), some (.str ns[i]), some (.ref ld), some (.ref p), some (.int (0 + (i : Int))), some (.ref gr), x9, x10, x11] M') (fun as gs M E14 mg' hg one le4 => ?_) (fun rest => ?_)
          · refine seqGo (fun b' D' => ∀ (ga : Addr) (as : List Addr) (gs : List (List (List V))) (M' : Hp), Ext bg J M' → M' ga = some (.lst (as.map V.ref)) → ga ≠ bg → GsAt M' rs ns as gs → gs.length ≤ 4 →
              b' D' [some (.ref bg), some (.int n), some (.ref nt), some (.ref rt), some (.str ns[i]), some (.ref ld), some (.ref p), some (.int (0 + (i : Int))), some (.ref ga), x9, x10, x11] M') (fun ga bs hs M4 E11 gg gab hgs lb => ?_) (fun rest => ?_)
            · have gp4 := E11.keep p _ pb gp
              have lenb := paired_len hgs.pr
              refine ⟨_, rfl, .inl ⟨rfl, _, SqL.of gp4⟩, _, rfl, _, rfl, bg, 3, rfl, E11.bag, by decide, by decide, fun y1 G5 E12 c0 c1 => ?_⟩
              refine ⟨_, _, rfl, rfl, _, rfl, sz (by show 6 ≤ 900; decide), fun q2 nq2 => ?_⟩
              have E13 := E12.new (o := .lst [.int 0, .int 0, .int 1, .int 2, .int 3, .int 8]) nq2
              have q2b : q2 ≠ bg := fun z => E12.bag.there (z ▸ nq2)
              refine ⟨bg, q2, _, rfl, E13.bag, q2b, .inl upd_same, by decide, by decide, fun v2 G6 mv2 E14 => ?_⟩
              obtain ⟨bar, rfl, bar0, bar12⟩ := ints_in (ns := [0, 0, 1, 2, 3, 8]) (lo := 0) (hi := 8) (by decide) mv2
              have E15 := E13.trans E14
              have hgs6 := hgs.ts (TSame.ext E11.bag E15)
              refine ⟨_, rfl, ?_⟩
              dsimp only [tCB, tCons, tNil]
              refine order_grounds (K := K) (w := w) (rows := rs) (names := ns) (.inl (SqL.of (E15.keep ga _ gab gg))) hgs6.pr (fun g m => ⟨(hgs6.ok g m).1, (hgs6.ok g m).2.2⟩) (by omega) fun a2 bs2 gs2 G7 S na2 ea2 pr2 sub le => ?_
              have gp7 := S _ _ (E15.keep p _ pb gp4)
              refine ⟨sz (by show 4 ≤ 900; decide), fun ka nka => ?_⟩
              have S8 := same_upd (o := .tup [.str ns[i], .int (6 + y1), .int bar, .ref a2]) nka
              have hli := paired_len hk.pr
              have hik : ks.length = i := by
                have := congrArg List.length en
                rw [List.length_map, List.length_take] at this
                omega
              refine ⟨p, _, _, rfl, rfl, S8 _ _ gp7, small1000 (by rw [List.length_map]; omega), ?_⟩
              have E17 : Ext bg J (upd G7 ka (.tup [.str ns[i], .int (6 + y1), .int bar, .ref a2])) := ((E11.trans E15).trans (Ext.of_same E15.bag S)).new nka
              have T7 : TSame J (upd G7 ka (.tup [.str ns[i], .int (6 + y1), .int bar, .ref a2])) := TSame.ext E8.bag E17
              have tw := ts_lst (ys := kas.map V.ref ++ [.ref ka]) (S8 _ _ gp7)
              have ldp : ld ≠ p := fun z => by rw [z, gp] at gl; cases gl
              refine ⟨⟨_, _, _, _, _, _, rfl⟩, Ext.write hB (E8.trans E17) pH, tw _ _ (T7 _ _ g1), tw _ _ (T7 _ _ g2), by rw [upd_ne ldp]; exact E17.keep ld _ ldb gl, kas ++ [ka], ks ++ [⟨ns[i], 6 + y1, bar, gs2⟩], by rw [upd_same, List.map_append]; rfl, ?_, ?_⟩
              · refine (((hk.ts T7).snoc ?_ ?_).ts tw)
                · exact ⟨a2, bs2, upd_same, S8 _ _ ea2, Paired.mono' (fun a b q => Grd.ts q (TSame.of S8)) pr2⟩
                · exact ⟨⟨by show 1 ≤ 6 + y1; omega, by show 6 + y1 ≤ 8; omega, bar0, by show bar ≤ 12; omega, by show gs2.length ≤ 4; omega⟩, fun g m => hgs.ok g (sub g m)⟩
              · rw [List.map_append, en, List.take_add_one, hni]; rfl
            · refine ⟨_, rfl, bg, 4, rfl, E14.bag, by decide, by decide, fun y M1 E15 c0 c1 => ⟨rfl, _, rfl, ite2 (fun hc => ?_) fun hc => rest gr as gs M1 (E14.trans E15) (E15.keep gr _ grb mg') grb (hg.ts (TSame.ext E14.bag E15)) le4⟩⟩
              have E16 := E14.trans E15
              have mg1 := E15.keep gr _ grb mg'
              have hg1 := hg.ts (TSame.ext E14.bag E15)
              have lenas := paired_len hg1.pr
              refine ⟨_, rfl, gr, rfl, ⟨_, SqL.of mg1⟩, fun D hD => lc_list (K := K) (a := gr) (xs := as.map V.ref) (fun j M => Ext bg M1 M ∧ ∃ (bs : List Addr) (hs : List (List (List V))), M D = some (.lst (bs.map V.ref)) ∧ GsAt M rs ns bs hs ∧ bs.length = j) ?_ ?_ ?_ ?_⟩
              · exact ⟨(Ext.of_same E16.bag Same.refl').new hD, [], [], upd_same, GsAt.nil, rfl⟩
              · rintro j M _ ⟨E18, _⟩
                exact SqL.of (E18.keep gr _ grb mg1)
              · rintro j v M hv ⟨E18, bs, hs, mD, hh, lb⟩
                rw [List.getElem?_map] at hv
                obtain ⟨a2, ha2, rfl⟩ := Option.map_eq_some_iff.mp hv
                obtain ⟨g, hgg, nsA, w1, w2⟩ := paired_at hg1.pr ha2
                have og := hg1.ok g (List.mem_of_getElem? hgg)
                have one' := one g (List.mem_of_getElem? hgg)
                have hj : j < as.length := (List.getElem?_eq_some_iff.mp ha2).1
                have ts7 := TSame.ext E16.bag E18
                have Db : D ≠ bg := fun z => E16.bag.there (z ▸ hD)
                have pz := paired_len w2
                obtain ⟨z, hz, ez⟩ := at_str (ns := rs) (z := 1) (by decide) (by omega)
                refine ⟨rfl, ?_⟩
                unfold tYes
                dsimp only
                refine iteT ⟨_, rfl, _, rfl, rt, _, 1, .str z, rfl, rfl, SqT.of (ts7 _ _ (E16.keep rt _ rtb g2)), ez, sz (by show 4 ≤ 900; decide), fun na nna => ⟨sz (by show 1 ≤ 900; decide), fun ta nta => ?_⟩⟩
                have S1 := same_upd (o := .tup [.str "row", .str z, .int 1, .int 3]) nna
                have S2 := same_upd (o := .tup [.ref na]) nta
                have S12 := KaG.Same.tr S1 S2
                have y1 : (upd (upd M na (.tup [.str "row", .str z, .int 1, .int 3])) ta (.tup [.ref na])) na = some (.tup [.str "row", .str z, .int 1, .int 3]) := S2 _ _ upd_same
                have y2 : (upd (upd M na (.tup [.str "row", .str z, .int 1, .int 3])) ta (.tup [.ref na])) ta = some (.tup [.ref na]) := upd_same
                generalize upd (upd M na (.tup [.str "row", .str z, .int 1, .int 3])) ta (.tup [.ref na]) = M2 at S12 y1 y2 ⊢
                have mD2 := S12 _ _ mD
                have E21 : Ext bg M1 M2 := E18.trans (Ext.of_same E18.bag S12)
                have ts8 : TSame M1 M2 := TSame.ext E16.bag E21
                refine ⟨a2, ta, _, _, rfl, rfl, SqT.of (ts8 _ _ w1), SqT.of y2, ?_, sz (by rw [List.length_map]; show _ + 1 ≤ 900; omega), (fun e => by cases e), fun _ r nr => ?_⟩
                · intro e
                  have := congrArg List.length e
                  rw [List.length_map, List.length_nil] at this
                  omega
                have S4 := same_upd (o := .tup (nsA.map V.ref ++ [V.ref na])) nr
                dsimp only [tCB, tCons, tNil]
                have mem : ∀ n2 ∈ g ++ [[.str "row", .str z, .int 1, .int 3]], NeedV rs ns n2 := fun n2 m => (List.mem_append.mp m).elim (og.2.2 n2) fun m => by rw [List.mem_singleton.mp m]; exact .row z 1 3 hz (by decide) (by decide) (by decide) (by decide)
                refine order_needs (K := K) (w := w) (rows := rs) (names := ns) (as := nsA ++ [na]) (g := g ++ [[.str "row", .str z, .int 1, .int 3]]) (by rw [List.map_append]; exact .inr (SqT.of upd_same))
                  (paired_snoc (R := fun n2 it => (upd M2 r (.tup (nsA.map V.ref ++ [V.ref na]))) n2 = some (.tup it)) (S4 _ _ y1) (Paired.mono' (fun _ _ q => S4 _ _ (ts8 _ _ q)) w2)) mem (by rw [List.length_append]; show _ + 1 ≤ 4; omega) fun a3 g3 M3 S5 na3 ha3 sub3 pos3 le3 => ?_
                have S45 := KaG.Same.tr S4 S5
                have mD3 := S45 _ _ mD2
                rw [List.length_append] at pos3 le3
                have le3' : g3.length ≤ g.length + 1 := le3
                refine ⟨_, mD3, small1000 (by rw [List.length_map]; omega), Ext.write E16.bag (E21.trans (Ext.of_same E21.bag S45)) hD, bs ++ [a3], hs ++ [g3], by rw [upd_same, List.map_append]; rfl, ?_, by rw [List.length_append, lb]; rfl⟩
                have ts9 : TSame M M3 := TSame.of (KaG.Same.tr S12 S45)
                exact ((hh.ts ts9).snoc ha3 ⟨pos3 (by show 0 < _ + 1; omega), by omega, fun n2 m => mem n2 (sub3 n2 m)⟩).ts (ts_lst mD3)
              · rintro M ⟨E18, bs, hs, mD, hh, lb⟩
                rw [List.length_map] at lb
                have Db : D ≠ bg := fun z => E16.bag.there (z ▸ hD)
                have lh := paired_len hh.pr
                exact rest D bs hs M (E16.trans E18) mD Db hh (by omega)
          · refine ifGo (fun M' => Ext bg M M') (fun M' EM => ?_) (fun M' EM => ?_) (fun Q' q => ?_)
            · have g2M := (E14.trans EM).keep rt _ rtb g2
              have ygM := EM.keep gr _ grb mg'
              obtain ⟨z, hz, ez⟩ := at_str (ns := rs) (z := 0) (by decide) (by omega)
              have lg := paired_len hg.pr
              refine ⟨_, rfl, .inl ⟨rfl, _, SqL.of ygM⟩, _, rfl, rt, _, 0, .str z, rfl, rfl, SqT.of g2M, ez, _, rfl, bg, 5, rfl, EM.bag, by decide, by decide, fun y2 M1 E17 d0 d1 => ?_⟩
              refine ⟨sz (by show 4 ≤ 900; decide), fun nb nnb => ⟨sz (by show 1 ≤ 900; decide), fun gb ngb => ?_⟩⟩
              have yg1 := E17.keep gr _ grb ygM
              have T1 := same_upd (o := .tup [.str "row", .str z, .int y2, .int 9]) nnb
              have T2 := same_upd (o := .tup [.ref nb]) ngb
              have T12 := KaG.Same.tr T1 T2
              have yg2 := T12 _ _ yg1
              refine ⟨gr, _, _, rfl, rfl, yg2, small1000 (by rw [List.length_map]; omega), ?_⟩
              have tsl := ts_lst (ys := as.map V.ref ++ [V.ref gb]) yg2
              have E18 := E17.trans (Ext.of_same E17.bag T12)
              have E19 := EM.trans E18
              refine rest (as ++ [gb]) (gs ++ [[[.str "row", .str z, .int y2, .int 9]]]) _ (Ext.write E8.bag (E14.trans E19) ngr) (by rw [upd_same, List.map_append]; rfl) ?_ (fun g m => ?_) (by rw [List.length_append]; show _ + 1 ≤ 4; omega)
              · refine ((hg.ts (TSame.ext E14.bag E19)).snoc (grd_one upd_same (T2 _ _ upd_same)) ⟨by show 0 < 1; decide, by show 1 ≤ 3; decide, fun n2 m2 => ?_⟩).ts tsl
                rw [List.mem_singleton.mp m2]
                exact .row z y2 9 hz d0 (by omega) (by decide) (by decide)
              · rcases List.mem_append.mp m with c | c
                · exact one g c
                · rw [List.mem_singleton.mp c]; rfl
            · have lg := paired_len hg.pr
              exact rest as gs M' (E14.trans EM) (EM.keep gr _ grb mg') (hg.ts (TSame.ext E14.bag EM)) one (by omega)
            · have r0' : Ext bg M M := Ext.of_same E14.bag Same.refl'
              refine ⟨_, rfl, rfl, _, rfl, ite2 (fun h1 => q _ _ r0') fun h1 => ?_⟩
              exact ⟨_, rfl, bg, 4, rfl, E14.bag, by decide, by decide, fun y M E c0 c1 => ⟨rfl, _, rfl, q _ _ E⟩⟩
      · rintro σ' J ⟨⟨x4, x7, x8, x9, x10, x11, rfl⟩, E8, g1, g2, gl, kas, ks, gp, hk, en⟩
        rw [Int.toNat_natCast, List.length_map, List.take_length] at en
        refine ⟨_, rfl, _, rfl, p, _, rfl, .inl ⟨SqL.of gp, fun q nq => ?_⟩⟩
        refine ⟨sz (by show 2 ≤ 900; decide), fun b nb => ?_⟩
        have S1 := same_upd (o := .tup (kas.map V.ref)) nq
        have S2 := KaG.Same.tr S1 (same_upd (o := .tup [.ref rt, .ref q]) nb)
        refine k b rs ks _ (E8.trans (Ext.of_same E8.bag S2)) (newAt (E8.trans (Ext.of_same E8.bag S1)) nb) (by omega) (by omega) ⟨rt, q, kas, upd_same, S2 _ _ g2, same_upd nb _ _ upd_same, (hk.ts (TSame.of S2)).pr⟩ ?_
        exact book_ok hrs hns (by omega) (by omega) (by omega) en hk.ok
end
end KaG
set_option maxRecDepth 100000
set_option maxHeartbeats 4000000
namespace KaG
open PySem PySem.Spec PyProof.Rows L2 KaN
theorem tup_ne {H : Hp} {bg r : Addr} {xs : List V} (hb : Bag H bg) (e : H r = some (.tup xs)) : r ≠ bg := fun z => by
  obtain ⟨c, st, i, b, ns, e1, _⟩ := hb
  rw [← z, e] at e1
  cases e1
section
variable {P : Program} {w : World} {K : PySem.W.Frag} {mg : Str → Option Value} {base : Heap}
theorem scRb : FnScope ["bag", "kinds", "way", "found"] ["bag", "kinds"] (defScope sRulebook) := ⟨rfl, rfl, rfl, by decide +kernel, rfl, by decide +kernel, by decide +kernel⟩
end
end KaG
set_option maxRecDepth 100000
set_option maxHeartbeats 4000000
namespace KaG
open PySem PySem.Spec PyProof.Rows L2 KaN
section
variable {P : Program} {w : World} {K : PySem.W.Frag} {mg : Str → Option Value} {base : Heap}
def spRbS : Sp := fun vs H Q _ => ∃ (bg : Addr) (n : Int), vs = [.ref bg, .int n] ∧ Bag H bg ∧ 1 ≤ n ∧ n ≤ 5 ∧ ∀ (t p sa : Addr) (rs S : List Str) (ks : List Kd) (H' : Hp), Ext bg H H' → H' t = some (.tup [.ref p, .ref sa]) → H' sa = some (.tup (S.map V.str)) → S.length ≤ 5 → (∀ n ∈ S, n ∈ nmAll) → rs.length ≤ 5 → BookAt H' p rs ks → BookOk rs ks → Q (.ref t) H'
theorem ok_rbS {f fX fS fT fA fP fH : Addr} {fd fdX fdS fdT fdA fdP fdH : FuncData} (F : Fun K "_law_rulebook" "_law_rulebook" sRulebook f fd) (T : TxtC mg) (CX : Ct P w K mg base "_law_mixed" 2 ["bag", "things"] spMixed fX fdX)
    (C : Ct P w K mg base "_law_some" 2 ["bag", "things"] spSome2 fS fdS) (CT : Ct P w K mg base "_law_take" 1 ["bag", "upto"] spTake fT fdT) (CA : Ct P w K mg base "_law_any_rulebook" 6 ["bag", "kinds", "rows"] spAny fA fdA)
    (CP : Ct P w K mg base "_law_planted" 6 ["bag", "sort", "kinds"] spPl fP fdP) (CH : Ct P w K mg base "_law_threaded" 6 ["bag", "kinds"] spTh fH fdH) : FnOk P w K mg base CX0 7 f fd ["bag", "kinds"] spRbS := by
  refine F.ok scRb (fun vs H Q E h => ?_) (fun cdv A outer s H vs Q E hr h => ?_)
  · obtain ⟨bg, n, rfl, _⟩ := h
    rfl
  · obtain ⟨bg, n, rfl, hB, n1, n5, k⟩ := h
    have hr6 : Room 6 (A.deeper (envOfC "_law_rulebook" (defScope sRulebook) s.heap.objs.size f cdv)) := hr.mono (by decide)
    have hr2 : Room 2 (A.deeper (envOfC "_law_rulebook" (defScope sRulebook) s.heap.objs.size f cdv)) := hr.mono (by decide)
    have hr1 : Room 1 (A.deeper (envOfC "_law_rulebook" (defScope sRulebook) s.heap.objs.size f cdv)) := hr.mono (by decide)
    refine ⟨_, (pss_cons (ps_set (i := 2) scRb.nd rfl (Or.inl rfl) (pe_call CT.G hr1 (by rfl) CT.m CT.kp CT.b .nil pass0 (pa_cons (pv 0) (pa_cons pe_int pa_nil))))
      (pss_cons (ps_if (pt_cmpR op_lt (pv 2) pe_int (nomark _))
        (pss_cons (ps_set (i := 3) scRb.nd rfl (Or.inl rfl) (pe_call CA.G hr6 (by rfl) CA.m CA.kp CA.b .nil pass0 (pa_cons (pv 0) (pa_cons (pv 1) (pa_cons pe_int pa_nil)))))
        (pss_one (ps_ret (pe_tup (pa_cons (pv 3) (pa_cons (pe_callTy call_tuple_of (by rfl) T.tup (by decide +kernel) (pa_cons (pe_callB cr_sortedS (by rfl) T.sor (by decide +kernel)
          (pa_cons (pe_slice sl_list (pe_call CX.G hr2 (by rfl) CX.m CX.kp CX.b .nil pass0 (pa_cons (pv 0) (pa_cons (pe_ix ix_tup (pv 3) pe_int (fun _ _ => rfl)) pa_nil))) po_none
            (po_some (pe_call C.G hr2 (by rfl) C.m C.kp C.b .nil pass0 (pa_cons (pv 0) (pa_cons (pe_lst (pa_cons pe_int (pa_cons pe_int (pa_cons pe_int pa_nil)))) pa_nil))))) pa_nil)) pa_nil)) pa_nil)))))) pss_nil)
      (pss_cons (ps_if (pt_cmpR op_eq (pv 2) pe_int (nomark _))
        (pss_one (ps_set (i := 3) scRb.nd rfl (Or.inl rfl) (pe_call CH.G hr6 (by rfl) CH.m CH.kp CH.b .nil pass0 (pa_cons (pv 0) (pa_cons (pv 1) pa_nil)))))
        (pss_one (ps_set (i := 3) scRb.nd rfl (Or.inl rfl) (pe_call CP.G hr6 (by rfl) CP.m CP.kp CP.b .nil pass0 (pa_cons (pv 0) (pa_cons (pe_ix ix_list (pe_lst (pa_cons pe_str (pa_cons pe_str (pa_cons pe_str (pa_cons pe_str pa_nil))))) (pe_op op_sub (pv 2) pe_int) (fun _ _ => rfl)) (pa_cons (pv 1) pa_nil)))))))
      (pss_one (ps_ret (pe_tup (pa_cons (pv 3) (pa_cons (pe_slice sl_tupA (pe_ix ix_tup (pv 3) pe_int (fun _ _ => rfl)) po_none (po_some pe_int)) pa_nil)))))))), ?_⟩
    have sz : ∀ {m : Nat}, m ≤ 900 → m ≤ sizeLine := fun h => Nat.le_of_lt (small1000 (by omega))
    refine ⟨_, rfl, bg, 9, rfl, hB, by decide, by decide, fun z H1 E1 a0 a1 => ?_⟩
    refine ⟨_, rfl, _, _, rfl, rfl, _, rfl, ite2 (fun hc => ?_) fun hc => ?_⟩
    · refine ⟨_, rfl, _, rfl, bg, n, 3, rfl, E1.bag, n1, n5, by decide, by decide, fun p rs ks H2 E2 np lrs hA hO => ?_⟩
      obtain ⟨r, kt, kas, e1, e2, e3, pk⟩ := hA
      have rb : r ≠ bg := tup_ne E2.bag e2
      refine ⟨_, rfl, _, rfl, _, rfl, p, _, 0, .ref r, rfl, rfl, SqT.of e1, rfl, bg, r, rs.map V.str, rfl, E2.bag, rb, .inr e2, by rw [List.length_map]; omega, fun m ys H3 E3 nm em pm => ?_⟩
      obtain ⟨zs, pz, rfl⟩ := perm_of_map pm rs rfl
      have mb : m ≠ bg := fun z => E2.bag.there (z ▸ nm)
      refine ⟨_, rfl, sz (by show 3 ≤ 900; decide), fun q nq => ?_⟩
      have E4 := E3.new (o := .lst [.int 1, .int 1, .int 2]) nq
      have qb : q ≠ bg := fun z => E3.bag.there (z ▸ nq)
      refine ⟨bg, q, _, rfl, E4.bag, qb, .inl upd_same, by decide, by decide, fun u H4 mu E5 => ?_⟩
      obtain ⟨y, rfl, y1, y2⟩ := ints_in (ns := [1, 1, 2]) (lo := 1) (hi := 2) (by decide) mu
      have hm := E5.keep m _ mb (same_upd (o := .lst [.int 1, .int 1, .int 2]) nq _ _ em)
      refine ⟨y, rfl, _, _, rfl, SqL.of hm, fun l nl => ?_⟩
      rw [cut_to _ y (by omega), ← List.map_take]
      refine ⟨l, zs.take y.toNat, rfl, SqL.of upd_same, by rw [List.length_take]; omega, fun us t pu su nt => ?_⟩
      refine ⟨t, _, rfl, .inl ⟨SqL.of upd_same, fun l2 nl2 => ⟨sz (by show 2 ≤ 900; decide), fun b nb => ?_⟩⟩⟩
      have E6 := (((((E1.trans E2).trans (E4.trans E5)).new nl).new nt).new nl2).new (o := .tup [.ref p, .ref l2]) nb
      have Eb := ((((E4.trans E5).new nl).new nt).new nl2).new (o := .tup [.ref p, .ref l2]) nb
      have memu : ∀ n ∈ us, n ∈ rs := fun n m => pz.mem_iff.mp (List.mem_of_mem_take (pu.mem_iff.mp m))
      have lenu : us.length ≤ 5 := by
        have h1 := pu.length_eq
        have h2 := pz.length_eq
        rw [List.length_take] at h1
        omega
      exact k b p l2 rs us ks _ E6 upd_same (same_upd nb _ _ upd_same) lenu (fun n m => hO.rw.of n (memu n m)) lrs (BookAt.ts ⟨r, kt, kas, e1, e2, e3, pk⟩ (TSame.ext E2.bag Eb)) hO
    · dsimp only [tNext]
      refine seqGo (fun b D => ∀ (p : Addr) (rs : List Str) (ks : List Kd) (H2 : Hp), Ext bg H H2 → rs.length ≤ 5 → BookAt H2 p rs ks → BookOk rs ks → b D [some (.ref bg), some (.int n), some (.int z), some (.ref p)] H2) (fun p rs ks H2 E2 lrs hA hO => ?_) (fun rest => ?_)
      · obtain ⟨r, kt, kas, e1, e2, e3, pk⟩ := hA
        refine ⟨_, rfl, _, rfl, p, _, 0, .ref r, rfl, rfl, SqT.of e1, rfl, ?_⟩
        refine ⟨_, rfl, r, _, rfl, SqT.of e2, fun hw => ?_, fun hw q nq => ?_⟩
        · refine ⟨sz (by show 2 ≤ 900; decide), fun b nb => ?_⟩
          exact k b p r rs rs ks _ (E2.new nb) upd_same (same_upd nb _ _ e2) lrs hO.rw.of lrs (BookAt.ts ⟨r, kt, kas, e1, e2, e3, pk⟩ (same_ts_new nb)) hO
        · refine ⟨sz (by show 2 ≤ 900; decide), fun b nb => ?_⟩
          have ec : cutV (rs.map V.str) none (some 1) = (rs.take 1).map V.str := by rw [cut_to _ 1 (by decide), ← List.map_take]; rfl
          exact k b p q rs (rs.take 1) ks _ ((E2.new nq).new nb) upd_same (same_upd nb _ _ (by rw [upd_same, ec])) (by rw [List.length_take]; omega) (fun n m => hO.rw.of n (List.mem_of_mem_take m)) lrs (BookAt.ts ⟨r, kt, kas, e1, e2, e3, pk⟩ ((same_ts_new nq).tr (same_ts_new nb))) hO
      · refine ⟨_, rfl, rfl, _, rfl, ite2 (fun h8 => ?_) fun h8 => ?_⟩
        · refine ⟨_, rfl, _, rfl, bg, n, rfl, E1.bag, n1, n5, fun p rs ks H2 E2 np lrs _ hA hO => ?_⟩
          exact rest p rs ks H2 (E1.trans E2) lrs hA hO
        · refine ⟨_, rfl, sz (by show 4 ≤ 900; decide), fun l nl => ?_⟩
          have z4 : 4 ≤ z := by simpa using hc
          have z8 : z ≠ 8 := by simpa using h8
          have E2 := E1.new (o := .lst [.str "ever", .str "longer", .str "gone", .str "none"]) nl
          obtain ⟨so, eso, hso⟩ : ∃ so : Str, atI [V.str "ever", V.str "longer", V.str "gone", V.str "none"] (z - 4) = some (.str so) ∧ (so = "ever" ∨ so = "longer" ∨ so = "gone" ∨ so = "none") := by
            have : z = 4 ∨ z = 5 ∨ z = 6 ∨ z = 7 := by omega
            rcases this with rfl | rfl | rfl | rfl
            · exact ⟨_, rfl, .inl rfl⟩
            · exact ⟨_, rfl, .inr (.inl rfl)⟩
            · exact ⟨_, rfl, .inr (.inr (.inl rfl))⟩
            · exact ⟨_, rfl, .inr (.inr (.inr rfl))⟩
          refine ⟨_, rfl, _, _, rfl, rfl, l, _, _, .str so, rfl, rfl, SqL.of upd_same, eso, _, rfl, bg, so, n, rfl, E2.bag, hso, n1, n5, fun p rs ks H2 E3 np lrs hA hO => ?_⟩
          exact rest p rs ks H2 (E2.trans E3) lrs hA hO
end
end KaG
set_option maxRecDepth 100000
set_option maxHeartbeats 2000000
namespace KaG
open PySem PySem.Spec PyProof.Rows L2
abbrev Gr := List (List V)
def keepLt (ks : List Kd) (p : Str) (a : Int) : Bool := ks.any fun k => decide (k.name = p) && decide (a < k.keep)
def ndLive (ks : List Kd) (B : List Str) : List V → Bool
  | [.str _, .str p, .int a, .int _, .int _] => decide (p ∈ B) && keepLt ks p a
  | _ => true
def grLive (ks : List Kd) (B : List Str) (g : Gr) : Bool := g.all (ndLive ks B)
def gsOf (ks : List Kd) (n : Str) : List Gr := match ks.find? (fun k => decide (k.name = n)) with
  | some k => k.gs
  | none => []
def grAt (ks : List Kd) (n : Str) (i : Nat) : Gr := (gsOf ks n).getD i []
/-- the places of a list at which a test holds -/
def ats {α : Type} (t : α → Bool) (xs : List α) : List Nat := (List.range xs.length).filter fun i => match xs[i]? with
  | some x => t x
  | none => false
def liveIx (ks : List Kd) (B : List Str) (n : Str) : List Nat := ats (grLive ks B) (gsOf ks n)
def ndForced (S C : List Str) : List V → Bool
  | [.str _, .str n, .int _, .int _] => decide (n ∈ S)
  | [.str _, .str p, .int _, .int _, .int _] => !decide (p ∈ C)
  | _ => false
def forcedPl (S C : List Str) (g : Gr) : List Nat := ats (ndForced S C) g
def ndOn (A : List Str) : List V → Bool
  | [.str _, .str p, .int _, .int _, .int _] => decide (p ∈ A)
  | _ => false
def placesOn (g : Gr) (A : List Str) : List Nat := ats (ndOn A) g
def jB (ks : List Kd) (n : Str) (B : List Str) : Bool := (gsOf ks n).any (grLive ks B)
def jC (ks : List Kd) (B S : List Str) (n : Str) (C : List Str) : Bool := (liveIx ks B n).any fun i => (forcedPl S C (grAt ks n i)).isEmpty
def jA (ks : List Kd) (B S C : List Str) (n : Str) (A : List Str) : Bool := (liveIx ks B n).any fun i => !(forcedPl S C (grAt ks n i)).isEmpty || !(placesOn (grAt ks n i) A).isEmpty
abbrev Jn := Str → List Str → Bool
def Clo (names : List Str) (J : Jn) (S : List Str) : Prop := ∀ n ∈ names, J n S = true → n ∈ S
def Mono (J : Jn) : Prop := ∀ n B B', (∀ x ∈ B, x ∈ B') → J n B = true → J n B' = true
structure IsL (names : List Str) (J : Jn) (B : List Str) : Prop where
  fl : B = names.filter fun n => decide (n ∈ B)
  clo : Clo names J B
  lst : ∀ S, Clo names J S → ∀ n ∈ B, n ∈ S
theorem IsL.sub {names : List Str} {J : Jn} {B : List Str} (h : IsL names J B) : ∀ n ∈ B, n ∈ names := fun n m => by
  rw [h.fl] at m
  exact (List.mem_filter.mp m).1
theorem IsL.uniq {names : List Str} {J : Jn} {B B' : List Str} (h : IsL names J B) (h' : IsL names J B') : B = B' := by
  have e : (fun n => decide (n ∈ B)) = fun n => decide (n ∈ B') := by
    funext n
    exact decide_eq_decide.mpr ⟨h.lst B' h'.clo n, h'.lst B h.clo n⟩
  rw [h.fl, h'.fl, e]
open Classical in
noncomputable def lfp (names : List Str) (J : Jn) : List Str := if h : ∃ B, IsL names J B then h.choose else []
theorem IsL.eq {names : List Str} {J : Jn} {B : List Str} (h : IsL names J B) : B = lfp names J := by
  unfold lfp
  rw [dif_pos ⟨B, h⟩]
  exact h.uniq (Exists.choose_spec (p := fun B => IsL names J B) ⟨B, h⟩)
/-- one turn of the program's growing -/
def grow1 (names : List Str) (J : Jn) (B : List Str) : List Str := names.filter fun n => decide (n ∈ B) || J n B
structure Grw (names : List Str) (J : Jn) (B : List Str) : Prop where
  fl : B = names.filter fun n => decide (n ∈ B)
  lst : ∀ S, Clo names J S → ∀ n ∈ B, n ∈ S
theorem Grw.nil {names : List Str} {J : Jn} : Grw names J [] := ⟨by symm; exact List.filter_eq_nil_iff.mpr fun n _ => by simp, fun _ _ _ m => nomatch m⟩
theorem Grw.next {names : List Str} {J : Jn} {B : List Str} (mo : Mono J) (h : Grw names J B) : Grw names J (grow1 names J B) := by
  refine ⟨?_, fun S c n m => ?_⟩
  · refine List.filter_congr fun n mn => ?_
    have : (n ∈ grow1 names J B) ↔ (decide (n ∈ B) || J n B) = true := ⟨fun z => (List.mem_filter.mp z).2, fun z => List.mem_filter.mpr ⟨mn, z⟩⟩
    cases e : (decide (n ∈ B) || J n B) with
    | true => exact (decide_eq_true (this.mpr e)).symm
    | false => exact (decide_eq_false fun z => by rw [this.mp z] at e; cases e).symm
  · obtain ⟨mn, z⟩ := List.mem_filter.mp m
    rcases Bool.or_eq_true _ _ ▸ z with z | z
    · exact h.lst S c n (of_decide_eq_true z)
    · exact c n mn (mo n B S (h.lst S c) z)
theorem filter_le {α : Type} {p q : α → Bool} : ∀ (xs : List α), (∀ x ∈ xs, p x = true → q x = true) → (xs.filter p).length ≤ (xs.filter q).length ∧ ((xs.filter p).length = (xs.filter q).length → xs.filter p = xs.filter q)
  | [], _ => ⟨Nat.le_refl _, fun _ => rfl⟩
  | x :: r, h => by
    obtain ⟨h1, h2⟩ := filter_le r fun y m => h y (List.mem_cons_of_mem _ m)
    have hx := h x (List.mem_cons_self ..)
    rw [List.filter_cons, List.filter_cons]
    cases ep : p x with
    | true =>
      rw [ep] at hx
      rw [hx rfl]
      simp only [if_true, List.length_cons]
      exact ⟨Nat.succ_le_succ h1, fun e => by rw [h2 (Nat.succ.inj e)]⟩
    | false =>
      cases eq : q x with
      | true =>
        simp only [if_true, Bool.false_eq_true, if_false, List.length_cons]
        exact ⟨by omega, fun e => by omega⟩
      | false =>
        simp only [Bool.false_eq_true, if_false]
        exact ⟨h1, h2⟩
theorem Grw.step {names : List Str} {J : Jn} {B : List Str} (h : Grw names J B) : B.length ≤ (grow1 names J B).length ∧ ((grow1 names J B).length = B.length → grow1 names J B = B ∧ Clo names J B) := by
  have hf := filter_le (p := fun n => decide (n ∈ B)) (q := fun n => decide (n ∈ B) || J n B) names fun x _ e => by
    have e : decide (x ∈ B) = true := e
    simp [e]
  rw [← h.fl] at hf
  refine ⟨hf.1, fun e => ?_⟩
  have e2 := hf.2 e.symm
  refine ⟨e2.symm, fun n mn j => ?_⟩
  have : n ∈ grow1 names J B := List.mem_filter.mpr ⟨mn, by rw [j, Bool.or_true]⟩
  rw [show grow1 names J B = B from e2.symm] at this
  exact this
theorem grow1_le {names : List Str} {J : Jn} {B : List Str} : (grow1 names J B).length ≤ names.length := List.length_filter_le ..
theorem Grw.done {names : List Str} {J : Jn} {B : List Str} (h : Grw names J B) (c : Clo names J B) : IsL names J B := ⟨h.fl, c, h.lst⟩
structure Chs (names : List Str) (J : Jn) (F : List Str) : Prop where
  sub : ∀ n ∈ F, n ∈ names
  nd : F.Nodup
  lst : ∀ S, Clo names J S → ∀ n ∈ F, n ∈ S
theorem Chs.nil {names : List Str} {J : Jn} : Chs names J [] := ⟨(fun _ m => nomatch m), List.nodup_nil, (fun _ _ _ m => nomatch m)⟩
theorem Chs.len {names : List Str} {J : Jn} {F : List Str} (h : Chs names J F) : F.length ≤ names.length := List.Nodup.length_le_of_subset h.nd h.sub
theorem Chs.full {names : List Str} {J : Jn} {F : List Str} (nd : names.Nodup) (h : Chs names J F) (e : names.length ≤ F.length) : ∀ n ∈ names, n ∈ F := fun n mn => by
  refine Classical.byContradiction fun z => ?_
  have h2 : (F ++ [n]).Nodup := List.nodup_append.mpr ⟨h.nd, (by simp : [n].Nodup), fun a ma b mb e => by rw [List.mem_singleton.mp mb] at e; exact z (e ▸ ma)⟩
  have h3 := List.Nodup.length_le_of_subset h2 (l₂ := names) fun x m => (List.mem_append.mp m).elim (h.sub x) fun y => by rw [List.mem_singleton.mp y]; exact mn
  rw [List.length_append, List.length_singleton] at h3
  omega
theorem Chs.mem {names : List Str} {J : Jn} {F B : List Str} (h : Chs names J F) (c : Clo names J F) (l : IsL names J B) : ∀ n, n ∈ F ↔ n ∈ B := fun n => ⟨h.lst B l.clo n, l.lst F c n⟩
theorem ats_mem {α : Type} {t : α → Bool} {xs : List α} {i : Nat} : i ∈ ats t xs ↔ ∃ x, xs[i]? = some x ∧ t x = true := by
  unfold ats
  rw [List.mem_filter, List.mem_range]
  constructor
  · rintro ⟨h1, h2⟩
    rw [List.getElem?_eq_getElem h1] at h2
    exact ⟨_, List.getElem?_eq_getElem h1, h2⟩
  · rintro ⟨x, h1, h2⟩
    refine ⟨(List.getElem?_eq_some_iff.mp h1).1, ?_⟩
    rw [h1]
    exact h2
theorem nd_mono {ks : List Kd} {B B' : List Str} (h : ∀ x ∈ B, x ∈ B') (n : List V) (e : ndLive ks B n = true) : ndLive ks B' n = true := by
  unfold ndLive at e ⊢
  split at e
  · rw [Bool.and_eq_true, decide_eq_true_eq] at e ⊢
    exact ⟨h _ e.1, e.2⟩
  · rfl
theorem jB_mono (ks : List Kd) : Mono (jB ks) := fun n B B' h e => by
  unfold jB at e ⊢
  obtain ⟨g, mg, hg⟩ := List.any_eq_true.mp e
  refine List.any_eq_true.mpr ⟨g, mg, List.all_eq_true.mpr fun x mx => nd_mono h x (List.all_eq_true.mp hg x mx)⟩
end KaG
set_option maxRecDepth 100000
set_option maxHeartbeats 2000000
namespace KaG
open PySem PySem.Spec PyProof.Rows L2
section
variable {c : Bool} {X : Cx} {k : Nat} {f : Addr} {fd : FuncData} {ps : List Str} {sp : Sp} {x : Str} {p pos : Pos} {e : Expr} {es : List Expr} {t : TA}
/-- such a def is called -/
theorem pe_callG (F : FnG c X.prog X.w X.K X.mg X.base CX0 k f fd ps sp) (hr : GR k X.A) (hc : c = true → X.A.handled = none) (hg : Gl X x) (hm : X.mg x = some (.ref f)) (hk : PySem.W.keepIn X.K (.ref f) = true) (hb : Binds X.K fd ps [])
    (ha : PA X (e :: es) t) (hdb : (x == ("__debug__" : Str)) = false := by decide) (he : starEach (e :: es) X.env = (false, eval e X.env) :: starEach es X.env := by rfl)
    (hpl : (backTo pos (starEach es X.env)).any (·.1) = false := by rfl) : PE X (.Call (.Name x p) (e :: es) [] pos) (tCall sp [] E0 t) := by
  refine ⟨fun pins s σ H Q I h => ?_⟩
  refine wpAny_Call_Name_kw (ld_glob I hg hm ?_ hdb)
  refine PySem.W.callWith_K (h₀ := X.base) I.ok.mod.kin hk (thn (ha.run pos pins s σ H _ I h) fun us s1 z => ?_) he hpl
  obtain ⟨vs, H1, I1, r, q⟩ := z
  have q : sp (vs ++ []) H1 Q E0 := q
  rw [List.append_nil] at q
  refine ⟨I1.kIn, ?_⟩
  have hl : us.length = ps.length := r.length.symm.trans (F.len _ _ _ _ q)
  have bd := hb s1 us I1.kIn (by rw [List.append_nil]; exact hl)
  rw [List.append_nil] at bd
  show wpAny _ _ (call (.ref f) us) _ _ _
  refine wpAny_call (codeAny_mono (F.run X.A X.stack s1 H1 ⟨us, []⟩ us vs Q E0 hr hc I1.env0 bd r q) fun r' s' hq => ?_)
  rcases r' with er | fl
  · exact hq.elim
  · cases fl with
    | ret u => exact I1.after hq
    | next => exact hq.elim
    | brk => exact hq.elim
    | cont => exact hq.elim
end
end KaG
set_option maxRecDepth 100000
set_option maxHeartbeats 2000000
namespace KaG
open PySem PySem.Spec PyProof.Rows L2
section
variable {P : Program} {w : World} {K : PySem.W.Frag} {mg : Str → Option Value} {base : Heap} {CW : Addr} {NW : Str}
theorem ok_alikeD {f : Addr} {fd : FuncData} (F : Fun K "_law_alike" "_law_alike" sAlike f fd) (T : TxtB mg) (W : WrK K CW NW) : FnG false P w K mg base CX0 1 f fd ["found", "due"] (spAlikeD K) := by
  refine fnG_of F scAlike (fun vs H Q E h => ?_) (fun cdv A outer s H vs Q E hr hc h => ?_)
  · obtain ⟨x, y, d, rfl, _⟩ := h
    rfl
  · obtain ⟨x, y, d, rfl, h1, h2, h3, h4, h5, k⟩ := h
    have u64 : (A.deeper (envOfC "_law_alike" (defScope sAlike) s.heap.objs.size f cdv)).units + 64 < cLine := by have := hr.un; omega
    have u60 : (A.deeper (envOfC "_law_alike" (defScope sAlike) s.heap.objs.size f cdv)).units + 60 < cLine := by have := hr.un; omega
    refine ⟨_, pss_one (ps_ret (pe_and (pe_cmpR (op_eqD u64) (pv 0) (pv 1) (nomark _))
      (pe_one (pe_cmpR op_eq (pe_callB (call_reprS (CW := CW) (NW := NW) (by exact W) hr.gd u60) (by rfl) T.repr (by decide +kernel) (pa_cons (pv 0) pa_nil))
        (pe_callB (call_reprS (CW := CW) (NW := NW) (by exact W) hr.gd u60) (by rfl) T.repr (by decide +kernel) (pa_cons (pv 1) pa_nil)) (nomark _))))), ?_⟩
    obtain ⟨as, s1, _⟩ := Rep.sh (CW := CW) (NW := NW) h1
    obtain ⟨bs, s2, _⟩ := Rep.sh (CW := CW) (NW := NW) h2
    have shp : SeqAt.shaped d = true := by
      unfold SeqAt.shaped
      rw [h3, decide_eq_true (show d.depth ≤ 64 by omega)]
      rfl
    refine ⟨_, rfl, _, rfl, d, d, Rep.dp h1, Rep.dp h2, shp, shp, _, rfl, ?_⟩
    rw [SeqAt.eqv_refl d h3]
    refine iteT ⟨_, rfl, x, as, d.depth, txt d, rfl, s1, h4, h5, _, rfl, y, bs, d.depth, txt d, rfl, s2, h4, h5, rfl, ?_⟩
    rw [decide_eq_true rfl]
    exact k
end
end KaG
set_option maxRecDepth 100000
set_option maxHeartbeats 2000000
namespace KaG
open PySem PySem.Spec PyProof.Rows L2
inductive Dial
  | nm (n w : Str)
  | pl (p : Plc) (w : Str)
def DlAt (H : Hp) (a : Addr) : Dial → Prop
  | .nm n w => H a = some (.tup [.str n, .str w])
  | .pl p w => ∃ q, H a = some (.tup [.ref q, .str w]) ∧ H q = some (.tup [.str p.1, .int (p.2.1 : Int), .int (p.2.2 : Int)])
theorem DlAt.ts {H H' : Hp} {a : Addr} {d : Dial} (h : DlAt H a d) (s : TSame H H') : DlAt H' a d := by
  cases d with
  | nm n w => exact s _ _ h
  | pl p w =>
    obtain ⟨q, h1, h2⟩ := h
    exact ⟨q, s _ _ h1, s _ _ h2⟩
/-- the need at a place -/
def needAt (ks : List Kd) (p : Plc) (its : List V) : Prop := ∃ k ∈ ks, k.name = p.1 ∧ ∃ g, k.gs[p.2.1]? = some g ∧ g[p.2.2]? = some its
def DialOk (ks : List Kd) : Dial → Prop
  | .nm n w => n ∈ ks.map Kd.name ∧ (w = "keep" ∨ w = "bar")
  | .pl p w => ∃ its, needAt ks p its ∧ (w = "tell" ∨ w = "most" ∨ (w = "after" ∧ its.head? = some (.str "kind")))
theorem paired_at2 {α β : Type} {R : α → β → Prop} : ∀ {xs : List α} {ys : List β} {i : Nat} {y : β}, Paired R xs ys → ys[i]? = some y → ∃ x, xs[i]? = some x ∧ R x y
  | _, _, i, _, .nil, e => by simp at e
  | _, _, 0, _, .cons h r, e => by
    cases e
    exact ⟨_, rfl, h⟩
  | _, _, i + 1, _, .cons h r, e => by
    obtain ⟨x, q1, q2⟩ := paired_at2 r (show _ = some _ from e)
    exact ⟨x, q1, q2⟩
end KaG
set_option maxRecDepth 100000
set_option maxHeartbeats 2000000
namespace KaG
open PySem PySem.Spec PyProof.Rows L2
section
variable {P : Program} {w : World} {K : PySem.W.Frag} {mg : Str → Option Value} {base : Heap}
def DlsAt (H : Hp) (ks : List Kd) (as : List Addr) : Prop := ∀ a ∈ as, ∃ d, DlAt H a d ∧ DialOk ks d
theorem DlsAt.ts {H H' : Hp} {ks : List Kd} {as : List Addr} (h : DlsAt H ks as) (s : TSame H H') : DlsAt H' ks as := fun a m => let ⟨d, q, o⟩ := h a m; ⟨d, q.ts s, o⟩
theorem DlsAt.app {H : Hp} {ks : List Kd} {as bs : List Addr} (h : DlsAt H ks as) (g : DlsAt H ks bs) : DlsAt H ks (as ++ bs) := fun a m => (List.mem_append.mp m).elim (h a) (g a)
end
end KaG
set_option maxRecDepth 100000
set_option maxHeartbeats 2000000
namespace KaG
open PySem PySem.Spec PyProof.Rows L2
/-- a statement that is never reached -/
theorem ps_no {X : Cx} {st : Stmt} : PS X st (fun _ _ _ => False) := ⟨fun _ _ _ _ _ _ h => h.elim⟩
abbrev sKindOf : Stmt := top 5
section
variable {P : Program} {w : World} {K : PySem.W.Frag} {mg : Str → Option Value} {base : Heap}
theorem scKindOf : FnScope ["rulebook", "name", "kind"] ["rulebook", "name"] (defScope sKindOf) := ⟨rfl, rfl, rfl, by decide +kernel, rfl, by decide +kernel, by decide +kernel⟩
/-- the kind with a name that is there -/
def spKindOf0 : Sp := fun vs H Q _ => ∃ (b : Addr) (rows : List Str) (ks : List Kd) (kas : List Addr) (i : Nat) (k : Kd) (ka : Addr), vs = [.ref b, .str k.name] ∧ BookAt H b rows ks ∧ KasOf H b kas ∧ (ks.map Kd.name).Nodup ∧ ks[i]? = some k ∧ kas[i]? = some ka ∧ Q (.ref ka) H
theorem ok_kindOf0 {f : Addr} {fd : FuncData} (F : Fun K "kind_of" "kind_of" sKindOf f fd) : FnOk P w K mg base CX0 1 f fd ["rulebook", "name"] spKindOf0 := by
  refine F.ok scKindOf (fun vs H Q E h => ?_) (fun cdv A outer s H vs Q E hr h => ?_)
  · obtain ⟨b, rows, ks, kas, i, k, ka, rfl, _⟩ := h
    rfl
  · obtain ⟨b, rows, ks, kas, i, k, ka, rfl, hA, hK, nd, hi, hka, q⟩ := h
    refine ⟨_, (pss_cons (ps_for PassesOwn.never rfl (pi_tup (pe_ix ix_tup (pv 0) pe_int (fun _ _ => rfl))) (pg_name (i := 2) scKindOf.nd rfl (Or.inl rfl)) (pss_one (ps_if (pt_cmpR op_eq (pe_ix ix_tup (pv 2) pe_int (fun _ _ => rfl)) (pv 1) (nomark _)) (pss_one (ps_ret (pv 2))) pss_nil)))
      (pss_one ps_no)), ?_⟩
    obtain ⟨r, kt, kas', e1, e2, e3, pk⟩ := id hA
    obtain ⟨r', kt', g1, g2⟩ := hK
    rw [e1] at g1
    cases g1
    rw [e3] at g2
    obtain rfl : kas' = kas := refs_inj (HO.tup.inj (Option.some.inj g2))
    have hlen := paired_len pk
    refine ⟨_, rfl, b, _, 1, .ref kt, rfl, rfl, SqT.of e1, rfl, kt, rfl, ⟨_, SqT.of e3⟩, for_tup (K := K) (a := kt) (xs := kas'.map V.ref) (fun j σ' G => G = H ∧ j ≤ i ∧ ∃ x2 : Option V, σ' = [some (.ref b), some (.str k.name), x2]) ?_ ?_ ?_ ?_⟩
    · exact ⟨rfl, Nat.zero_le _, _, rfl⟩
    · rintro j σ' G _ ⟨rfl, _⟩
      exact SqT.of e3
    · rintro j x σ' G hx ⟨rfl, hj, x2, rfl⟩
      rw [List.getElem?_map] at hx
      obtain ⟨a, ha, rfl⟩ := Option.map_eq_some_iff.mp hx
      obtain ⟨kd, hkd, gt, gas, f1, _⟩ := paired_at pk ha
      refine ⟨_, rfl, a, _, 0, .str kd.name, rfl, rfl, SqT.of f1, rfl, _, rfl, rfl, _, rfl, ite2 (fun hc => ?_) fun hc => ?_⟩
      · have en : kd.name = k.name := by
          exact V.str.inj (of_decide_eq_true hc)
        have ej : j = i := by
          have h1 : (ks.map Kd.name)[j]? = some kd.name := by rw [List.getElem?_map, hkd]; rfl
          have h2 : (ks.map Kd.name)[i]? = some kd.name := by rw [List.getElem?_map, hi, en]; rfl
          have hj1 := (List.getElem?_eq_some_iff.mp h1).1
          exact (List.getElem?_inj hj1 nd).mp (h1.trans h2.symm)
        subst ej
        rw [ha] at hka
        cases hka
        exact ⟨_, rfl, q⟩
      · refine ⟨rfl, ?_, _, rfl⟩
        have nj : j ≠ i := fun z => by
          subst z
          rw [hkd] at hi
          cases hi
          exact hc (decide_eq_true rfl)
        omega
    · rintro σ' G ⟨rfl, hj, _⟩
      have := (List.getElem?_eq_some_iff.mp hka).1
      rw [List.length_map] at hj
      exact absurd this (by omega)
end
end KaG
set_option maxRecDepth 100000
set_option maxHeartbeats 4000000
namespace KaC
open PySem PySem.Spec PyProof.Rows L2
theorem enum_newT (l : Addr) (items : Array Value) (n : Nat) (dct : Option Addr) (sl : Array (Option Value)) : Meets (Builtin.«enumerate.__new__» ⟨[.type "enumerate", .ref l], []⟩) (fun _ R s => s.heap.get? l = some { cls := .type "tuple", dict := dct, data := .seq items n, slots := sl } ∧
      R (.ok (.ret (.ref (s.heap.push { cls := .type "tuple_iterator", data := .fields #[.ref l, .int 0 0] }).objs.size))) { s with heap := (s.heap.push { cls := .type "tuple_iterator", data := .fields #[.ref l, .int 0 0] }).push { cls := .type "enumerate", data := .fields #[.none, .bool false, .ref s.heap.objs.size, rawInt 0, .none, .none] } }) :=
  .of_wp fun prog w A R s h => by
    obtain ⟨hp, g, d, tk, os⟩ := s
    obtain ⟨hl, h⟩ := h
    have hsub := sub_enumerate
    have hL : Heap.IsTuple (Shared.heap ⟨hp, g, d, tk, os⟩) l items := ⟨_, hl, rfl, n, rfl⟩
    wp_walk using AutoSeq1.wpAny_loadPart' hl
    refine wpAny_stack_any fun st => wpAny_pure ?_
    split
    · rename_i c _ _ _ _ _
      cases (c == Value.type "enumerate") <;> (wp_walk using AutoSeq1.wpAny_loadPart' hl, wpAny_pyIter_tuple hL) <;> exact ⟨_, rfl, h⟩
    · wp_walk using AutoSeq1.wpAny_loadPart' hl, wpAny_pyIter_tuple hL
      exact ⟨_, rfl, h⟩
theorem call_enumT {prog : Program} {w : World} {A : Around} {E : Value → Shared → Prop} {s : Shared} {l : Addr} {items : Array Value} {Q : Value → Shared → Prop} (hL : s.heap.IsTuple l items)
    (h : ∀ h', IsEnum h' (s.heap.objs.size + 1) s.heap.objs.size 0 .none → h'.IsTupleIter s.heap.objs.size l 0 → (∀ b o, s.heap.get? b = some o → h'.get? b = some o) → Q (.ref (s.heap.objs.size + 1)) { s with heap := h' }) :
    wpAny (model prog w) A (call (.type "enumerate") [.ref l]) Q E s := by
  obtain ⟨⟨c, dct, dt, sl⟩, hl, hc, n, hd⟩ := hL
  obtain rfl : c = .type "tuple" := hc
  obtain rfl : dt = .seq items n := hd
  refine callType_new F.called_enumerate (by decide) (F.typeCall_enumerate_1 _) (F.newCall_enumerate_1 _) (fun obj => F.args_object_init_2 obj _) F.entry_enumerate_new (enum_newT l items n dct sl) ⟨hl, ?_⟩
  have hz : (s.heap.push { cls := .type "tuple_iterator", data := .fields #[.ref l, .int 0 0] }).objs.size = s.heap.objs.size + 1 := Heap.size_push ..
  change _ ∧ _
  rw [hz]
  have he : IsEnum ((s.heap.push { cls := .type "tuple_iterator", data := .fields #[.ref l, .int 0 0] }).push { cls := .type "enumerate", data := .fields #[.none, .bool false, .ref s.heap.objs.size, rawInt 0, .none, .none] }) (s.heap.objs.size + 1) s.heap.objs.size 0 .none := by
    have q := Heap.get?_push_size (s.heap.push { cls := .type "tuple_iterator", data := .fields #[.ref l, .int 0 0] }) (o := { cls := .type "enumerate", data := .fields #[.none, .bool false, .ref s.heap.objs.size, rawInt 0, .none, .none] }) rfl
    rw [hz] at q; exact q
  exact ⟨⟨_, he, rfl⟩, h _ he ⟨_, Heap.get?_push_of_some _ (Heap.get?_push_size _ rfl), rfl, rfl⟩ fun b o x => Heap.get?_push_of_some _ (Heap.get?_push_of_some _ x)⟩
end KaC
set_option maxRecDepth 100000
set_option maxHeartbeats 4000000
namespace KaC
open PySem PySem.Spec PyProof.Rows L2
/-- the tuple at a, each item in a new pair -/
def ItT (K : PySem.W.Frag) (a : Addr) : It :=
  ⟨fun i H => ∃ (xs : List V) (x : V), SqT K H a xs ∧ xs[i]? = some x, fun i H v H' => ∃ T x, v = .ref T ∧ H T = none ∧ H' = upd H T (.tup [.int (i : Nat), x]) ∧ ∀ xs, SqT K H a xs → xs[i]? = some x, fun i H => ∃ xs : List V, SqT K H a xs ∧ xs.length ≤ i⟩
theorem cls_ne {h : Heap} {x y : Addr} {m n : String} (hmn : m ≠ n) (h1 : ∃ o, h.get? x = some o ∧ o.cls = .type m) (h2 : ∃ o, h.get? y = some o ∧ o.cls = .type n) : x ≠ y := fun z => by
  obtain ⟨o1, e1, c1⟩ := h1
  obtain ⟨o2, e2, c2⟩ := h2
  rw [z, e2] at e1
  cases e1
  rw [c2] at c1
  injection c1 with c1
  exact hmn c1.symm
theorem tup_inj {X : Cx} {pins : List (Addr × Obj)} {σ : L2.St} {H : Hp} {s : Shared} {a : Addr} {xs ys : List V} (I : Inv X pins σ H s) (h1 : SqT X.K H a xs) (h2 : SqT X.K H a ys) : xs = ys := I.tuple_inj h1 h2
theorem turn_enumT {P : Program} {w : World} {K : PySem.W.Frag} {elts : List Expr} {kk : Nat} {tpos : Pos} (a e it : Addr) : Turn P w K (.Tuple elts kk tpos) (ItT K a) [e, it] e (fun i h => (∃ old, IsEnum h e it ((i : Nat) : Int) old) ∧ h.IsTupleIter it a i ∧ e ≠ it) where
  mem := List.mem_cons_self ..
  obj := fun i h st b hb => by
    obtain ⟨⟨old, he⟩, ⟨o, ho, hc, hd⟩, _⟩ := st
    rcases (by simpa using hb : b = e ∨ b = it) with z | z
    · subst z; exact ⟨_, he, fun v q => nomatch q⟩
    · subst z; exact ⟨o, ho, fun v q => by rw [hd] at q; cases q⟩
  keep := fun i h h' st k => let ⟨⟨old, he⟩, hi, hne⟩ := st; ⟨⟨old, k e (by simp) _ he⟩, hi.at fun o q => k it (by simp) o q, hne⟩
  item := fun X hP hw hK hc i pins s σ H E I hf st hg => by
    subst hP hw hK
    obtain ⟨⟨old, he⟩, hit, hne⟩ := st
    obtain ⟨xs, x, hq, hx⟩ := hg
    obtain ⟨its, rv, p, hz⟩ := I.tuple hq
    obtain ⟨u, hu, ru⟩ := rv.get hx
    have hel : e < s.heap.objs.size := Heap.lt_size he
    have hil : it < s.heap.objs.size := by obtain ⟨_, q, _⟩ := hit; exact Heap.lt_size q
    have pT : ∃ o, s.heap.get? a = some o ∧ o.cls = .type "tuple" := let ⟨o, h1, h2, _⟩ := p; ⟨o, h1, h2⟩
    have nai : a ≠ it := cls_ne (by decide) pT (let ⟨o, h1, h2, _⟩ := hit; ⟨o, h1, h2⟩)
    have nae : e ≠ a := cls_ne (m := "enumerate") (n := "tuple") (by decide) ⟨_, he, rfl⟩ pT
    have hix : i < its.toArray.size := by
      have := (List.getElem?_eq_some_iff.mp hu).1
      simpa using this
    refine wpAny_pyNext_enum_itemD (Draws.tuple (by simp [I.ok.hd hc]) it a nai its.toArray) he ⟨hit, p⟩ hix hne (by simp [hne, nae]) fun x' h' tk hx' ho st' hT hsz hk => ?_
    have ex : x' = u := by
      have : its.toArray[i]? = some x' := hx'
      simp only [List.getElem?_toArray] at this
      rw [hu] at this
      exact (Option.some.inj this).symm
    subst ex
    refine ⟨_, rfl, wpAny_letOwnedTupleGo_enum (s := { s with heap := h', toks := tk + 1 }) ho fun h2 he2 sb => ?_⟩
    have hT2 : h2.get? s.heap.objs.size = some { cls := .type "tuple", data := .seq #[.int i tk, x'] } := (sb.2 _ (Nat.ne_of_gt hel)).trans hT
    have I1 : Inv X pins σ (upd H s.heap.objs.size (.tup [.int (i : Nat), x])) { s with heap := h2, toks := tk + 1 } :=
      I.turnedNew (ch := [e, it]) (fun b ob hb q => (sb.2 b (fun z => hb (by simp [z]))).trans (hk b ob (fun z => hb (by simp [z])) (fun z => hb (by simp [z])) q)) hf (Nat.le_refl _)
        ⟨by show 2 ≤ sizeLine; decide, [.int i tk, x'], .cons ⟨_, rfl⟩ (.cons ru .nil), ⟨_, hT2, rfl, _, rfl⟩⟩
    refine ⟨.ref s.heap.objs.size, _, I1, rfl, ⟨_, x, rfl, I.hok.fresh (Nat.le_refl _), rfl, fun ys hy => by rw [tup_inj I hy hq]; exact hx⟩, ⟨⟨x', ?_⟩, st'.1.at fun o q => (sb.2 it (Ne.symm hne)).trans q, hne⟩, fun b hb => ?_⟩
    · rw [show ((i + 1 : Nat) : Int) = (i : Int) + 1 by omega]; exact he2
    · have hb' : b < s.heap.objs.size := by
        rcases (by simpa using hb : b = e ∨ b = it) with z | z
        · rw [z]; exact hel
        · rw [z]; exact hil
      rw [upd_ne (Nat.ne_of_lt hb')]
      exact (hf b hb).1
  done := fun X hP hw hK hc i pins s σ H E I hf st hg => by
    subst hP hw hK
    obtain ⟨⟨old, he⟩, hit, hne⟩ := st
    obtain ⟨xs, hq, hx⟩ := hg
    obtain ⟨its, rv, p, hz⟩ := I.tuple hq
    obtain ⟨f0, f1, f2, f3, f4, f5⟩ := hf it (by simp)
    have hl := rv.length
    have hT : s.TypeIs (.ref e) "enumerate" := ⟨_, he, rfl⟩
    unfold pyNext
    refine wpAny_bind (wpAny_attempt (wpAny_callSpecial?_slot (name := Str.ofString "__next__") hT F.slot_enumerate_next (wpAny_call_entry F.slot_enumerate_next hT F.entry_enumerate_next ?_ (F.args_enumerate_next_1 _))))
    change wpAny _ _ (field (.ref e) 2 >>= _) _ _ _
    refine wpAny_bind (wpAny_field he rfl (x := .ref it) rfl ?_)
    refine wpAny_bind (wpAny_nextOf_tuple_end (by simp [I.ok.hd hc]) hit p (by simp; omega) fun h' x he' hx' => ?_)
    obtain ⟨o, ho, hoc⟩ := hx'
    exact wpAny_bind (wpAny_isInstance (T := "StopIteration") (b := true) ⟨o, ho, hoc⟩ isSubtype_stop (wpAny_pure ⟨rfl, I.turned (t' := s.toks) (fun b o hb q => he' b o hb q) f0 f1 f3 f4 f5⟩))
  self := fun A i s Q E st h => let ⟨⟨_, he⟩, _⟩ := st; wpAny_pyIter_enum he h
def iEnumT (K : PySem.W.Frag) (ta : TA) : TI := fun σ H R => ta σ H fun vs H1 => ∃ a xs, vs = [.ref a] ∧ SqT K H1 a xs ∧ R (ItT K a) H1
theorem pi_enumT {X : Cx} {e : Expr} {ta : TA} {p pos tpos : Pos} {elts : List Expr} {kk : Nat} (hg : Gl X "enumerate") (hm : X.mg "enumerate" = none) (ha : PA X [e] ta) (hs : starEach [e] X.env = [(false, eval e X.env)] := by rfl) : PI X (.Tuple elts kk tpos) (.Call (.Name "enumerate" p) [e] [] pos) (iEnumT X.K ta) := by
  refine ⟨fun pins s σ H R I h => ?_⟩
  refine Call_ (ld_blt I hg hm boot_enumerate (PyProof.Rows.callWith_type1 (thn (ha.run pos pins s σ H _ I h) fun us s1 ⟨vs, H1, I1, r1, a, xs, ex, hq, q⟩ => ?_) hs rfl))
  subst ex
  rw [Vals.ref1 r1]
  obtain ⟨its, rv, p2, hz⟩ := I1.tuple hq
  refine call_enumT p2 fun h' he hit hk => wpAny_pyIter_enum he ?_
  refine ⟨s1.heap.objs.size + 1, [s1.heap.objs.size + 1, s1.heap.objs.size], _, _, H1, rfl, I1.kept (t' := s1.toks) hk, turn_enumT a (s1.heap.objs.size + 1) s1.heap.objs.size, ⟨⟨.none, he⟩, hit, Nat.succ_ne_self _⟩, fun b hb => ?_, q⟩
  have hle : s1.heap.objs.size ≤ b := by
    rcases (by simpa using hb : b = s1.heap.objs.size + 1 ∨ b = s1.heap.objs.size) with z | z
    · rw [z]; exact Nat.le_add_right _ _
    · rw [z]; exact Nat.le_refl _
  exact I1.fpOk hle (I1.hok.fresh hle)
end KaC
set_option maxRecDepth 100000
set_option maxHeartbeats 4000000
namespace KaC
open PySem PySem.Spec PyProof.Rows L2
/-- what a piece is to reach, by what stands ahead of it -/
abbrev TC := L2.St → Hp → (Hp → Prop) → Prop
/-- M, run in the block, keeps the slots but those of vs and reaches Nx -/
def Piece (B : Cx) (vs : List Nat) (M : Sem PySem.Fin → Sem PySem.Fin) (tl : TC) : Prop := ∀ (k : Sem PySem.Fin) (R : PySem.Fin → Shared → Prop) (E : Value → Shared → Prop) (pins : List (Addr × Obj)) (s : Shared) (σ : L2.St) (H : Hp) (Nx : Hp → Prop), Inv B pins σ H s → tl σ H Nx →
  (∀ σ' H' s', Inv B pins σ' H' s' → σ.length = σ'.length → (∀ (i : Nat) v, i ∉ vs → σ[i]? = some (some v) → σ'[i]? = some (some v)) → Nx H' → wpAny (model B.prog B.w) B.A k R E s') → wpAny (model B.prog B.w) B.A (M k) R E s
def tEl (D : Addr) (te : TE) : TC := fun σ H Nx => te σ H fun y H1 => ∃ acc, H1 D = some (.lst acc) ∧ acc.length < sizeLine ∧ Nx (upd H1 D (.lst (acc ++ [y])))
def tCl (wi : TI) (g : TG) (tt : TT) (vs : List Nat) (tl : TC) : TC := fun σ H Nx => wi σ H fun J H1 => ∃ W : Nat → Nat → Hp → Prop, (∃ m, W 0 m H1) ∧ ∀ j k H, W j k H →
  (J.stop j H ∧ Nx H) ∨ (J.go j H ∧ ∃ N1 : Hp → Prop, (∀ H', N1 H' → ∃ k', k' < k ∧ W (j + 1) k' H') ∧ ∀ x H', J.yld j H x H' → g x (wipe σ vs) H' fun σ3 H5 => wipe σ3 vs = wipe σ vs ∧ tt σ3 H5 fun b H6 => if b = true then tl σ3 H6 N1 else N1 H6)
section
variable {X : Cx} {s3 : Shared} {H3 : Hp} {scope : Scope} {ce : Env} {fp : List Addr} {D : Addr}
theorem piece_elt {elt : Expr} {te : TE} (pe : PE (X.blk s3 H3 scope ce fp) elt te) : Piece (X.blk s3 H3 scope ce fp) [] (fun k => (do let _ ← call (.builtin "list.append") [.ref D, ← eval elt ce] : Sem PUnit) >>= fun _ => k) (tEl D te) := by
  intro k R E pins s σ H Nx I h hk
  refine wpAny_bind (wpAny_bind (thnF (pe.run pins s σ H _ I h) fun z s1 ⟨y, H1, I1, r1, acc, hD, hz, nx⟩ => ?_))
  refine wpAny_bind (app_ok (X := X.blk s3 H3 scope ce fp) I1 hD hz r1 fun s2 I2 => ?_)
  exact wpAny_pure (hk σ _ s2 I2 rfl (fun _ _ _ e => e) nx)
/-- what a turn of such a clause is -/
def TurnIs (e : Expr) (d : Nat) (tg : Expr) (ifs : List Expr) (p : Pos) (D : Addr) (ce : Env) (M : Sem PySem.Fin → Sem PySem.Fin) : Prop := ∀ it : Value, compTurn e d it (.ref D) ce = (do
  standAt p
  match ← pyNext it with
  | none => pure (.done .next)
  | some v =>
    letOwnedTupleGo tg it v
    assign tg ce v
    let mut ok := true
    for c in ifs do
      if ok then ok ← isTrue c ce (eval c ce)
    if ok then M (again (.compLoop e d it (.ref D) ce)) else again (.compLoop e d it (.ref D) ce))
/-- a clause behind the first -/
theorem piece_clause {elt : Expr} {gens : List Comprehension} {sc : Scope} {ps : Pos} {d : Nat} {tg iter : Expr} {ifs : List Expr} {p : Pos} {M : Sem PySem.Fin → Sem PySem.Fin} {wi : TI} {g : TG} {tt : TT} {tl : TC} {vs vn : List Nat}
    (hc : X.calm = true) (hT : TurnIs (.ListComp elt gens sc ps) d tg ifs p D ce M) (hM : Piece (X.blk s3 H3 scope ce fp) vn M tl) (hv : ∀ i ∈ vn, i ∈ vs) (pi : PI (X.blk s3 H3 scope ce fp) tg iter wi) (pg : PG (X.blk s3 H3 scope ce fp) tg g) (pt : PTs (X.blk s3 H3 scope ce fp) ifs tt)
    (hs : ∀ x, foldedSetIterable iter ce x = pure x)
    (hS : ∀ it : Value, compStart (.ListComp elt gens sc ps) d it (.ref D) ce = (do
      if (← ask).params.followText "comprehension-iter-twice" then return ← again (.compLoop (.ListComp elt gens sc ps) d it (.ref D) ce)
      rule "comprehension.iter-twice"
      standAt iter.pos
      again (.compLoop (.ListComp elt gens sc ps) d (← pyIter it) (.ref D) ce))) :
    Piece (X.blk s3 H3 scope ce fp) vs (fun k => do
      let x ← eval iter ce
      standAt iter.pos
      let x ← foldedSetIterable iter ce x
      let _ ← runOwn (.compStart (.ListComp elt gens sc ps) d (← holding [x] (pyIter x)) (.ref D) ce) ce
      k) (tCl wi g tt vs tl) := by
  intro k R E pins s σ H Nx I h hk
  refine wpAny_bind (thnF (pi.run pins s σ H _ I h) fun x s1 hx => ?_)
  refine wpAny_bind (wpAny_standAt (wpAny_bind (wpAny_of_eq (hs x) (wpAny_bind (wpAny_holding (thnF hx fun itv s2 h2 => ?_))))))
  obtain ⟨it, fi, tn, J, H2, rfl, I2, T, st2, f2, W, ⟨m0, w0⟩, turn⟩ := h2
  have stat : ∀ {H' : Hp}, (∀ b ∈ fi, H' b = none) → ∀ b ∈ fi, FpOk (X.blk s3 H3 scope ce fp) pins H' b := fun hn b hb => ⟨hn b hb, (f2 b hb).2⟩
  have loop : codeAny (model X.prog X.w) X.A (.compLoop (.ListComp elt gens sc ps) d (.ref it) (.ref D) ce) (fun r s' => match r with
      | .ok _ => ∃ H', Inv (X.blk s3 H3 scope ce fp) pins (wipe σ vs) H' s' ∧ Nx H'
      | .error _ => False) s2 := by
    refine codeAny_loop rfl (fun n s' => ∃ i H', Inv (X.blk s3 H3 scope ce fp) pins (wipe σ vs) H' s' ∧ tn i s'.heap ∧ (∀ b ∈ fi, H' b = none) ∧ W i n H') (fun n s4 ⟨i, H4, I4, st4, n4, w4⟩ => ?_) m0 ⟨0, H2, I2.weak (wipe_length _ _) (fun j v z => (wipe_some z).1), st2, fun b hb => (f2 b hb).1, w0⟩
    change wpAny _ X.A ((compTurn (.ListComp elt gens sc ps) d (.ref it) (.ref D) ce).onRaise (fun x => do noteFrame x ce; theTreesLotGoes x)) _ _ s4
    refine wpAny_noted ?_
    rw [hT]
    refine wpAny_bind (wpAny_standAt (wpAny_bind ?_))
    rcases turn i n H4 w4 with ⟨stop, nx⟩ | ⟨go, N1, hN1, step⟩
    · refine thnF (T.done (X.blk s3 H3 scope ce fp) rfl rfl rfl hc i _ s4 (wipe σ vs) H4 (fun _ _ => False) I4 (stat n4) st4 stop) fun r s5 ⟨hr, I5⟩ => ?_
      subst hr
      exact wpAny_pure ⟨H4, I5, nx⟩
    · refine thnF (T.item (X.blk s3 H3 scope ce fp) rfl rfl rfl hc i _ s4 (wipe σ vs) H4 (fun _ _ => False) I4 (stat n4) st4 go) fun r s5 ⟨u, hr, h5⟩ => ?_
      subst hr
      refine wpAny_bind (thnF h5 fun _ s6 ⟨x6, H6, I6, r6, y6, st6, n6⟩ => ?_)
      have I6' := I6.pinned (stat n6) (T.obj _ _ st6)
      refine wpAny_bind (thnF (pg.run _ s6 (wipe σ vs) H6 x6 u _ I6' r6 (step x6 H6 y6)) fun _ s7 ⟨σ7, H7, I7, hw7, q7⟩ => ?_)
      refine wpAny_bind (thnF (pt.run _ s7 σ7 H7 _ I7 q7) fun b s8 ⟨H8, I8, q8⟩ => ?_)
      have fin : ∀ {σ9 : L2.St} {s' : Shared} {H' : Hp}, Inv (X.blk s3 H3 scope ce fp) (pins ++ pinsAt fi s6.heap) σ9 H' s' → (wipe σ vs).length = σ9.length → (∀ (j : Nat) v, (wipe σ vs)[j]? = some (some v) → σ9[j]? = some (some v)) → N1 H' →
          ∃ m, m < n ∧ ∃ i H', Inv (X.blk s3 H3 scope ce fp) pins (wipe σ vs) H' s' ∧ tn i s'.heap ∧ (∀ b ∈ fi, H' b = none) ∧ W i m H' := fun {σ9 s' H'} I' hl hk nx => by
        obtain ⟨m', hm, w'⟩ := hN1 H' nx
        have pin' : ∀ b ∈ fi, ∀ o, s6.heap.get? b = some o → s'.heap.get? b = some o ∧ H' b = none := fun b hb o z =>
          let y := I'.pin (b, o) (List.mem_append_right _ (List.mem_append_right _ (mem_pinsAt hb z)))
          ⟨y.1, y.2.1⟩
        refine ⟨m', hm, i + 1, H', I'.unpinned.weak hl hk, T.keep _ _ _ st6 fun b hb o z => (pin' b hb o z).1, fun b hb => ?_, w'⟩
        obtain ⟨o, z, _⟩ := T.obj _ _ st6 b hb
        exact (pin' b hb o z).2
      have l7 : (wipe σ vs).length = σ7.length := by rw [← hw7, wipe_length]
      have k7 : ∀ (j : Nat) v, (wipe σ vs)[j]? = some (some v) → σ7[j]? = some (some v) ∧ j ∉ vs := fun j v z => by
        rw [← hw7] at z
        exact wipe_some z
      cases b with
      | false =>
        simp only [Bool.false_eq_true, if_false] at q8 ⊢
        exact wpAny_pure ⟨rfl, fin I8 l7 (fun j v z => (k7 j v z).1) q8⟩
      | true =>
        simp only [if_true] at q8 ⊢
        refine hM _ _ _ _ s8 σ7 H8 N1 I8 q8 fun σ9 H9 s9 I9 l9 k9 nx => ?_
        exact wpAny_pure ⟨rfl, fin I9 (l7.trans l9) (fun j v z => k9 j v (fun m => (k7 j v z).2 (hv j m)) (k7 j v z).1) nx⟩
  refine wpAny_bind (wpAny_runOwn ?_)
  rw [Around.mark_none]
  have start : codeAny (model X.prog X.w) X.A (.compStart (.ListComp elt gens sc ps) d (.ref it) (.ref D) ce) (fun r s' => match r with
      | .ok _ => ∃ H', Inv (X.blk s3 H3 scope ce fp) pins (wipe σ vs) H' s' ∧ Nx H'
      | .error _ => False) s2 := by
    refine codeAny_of_tree ?_
    change wpAny _ _ ((compStart (.ListComp elt gens sc ps) d (.ref it) (.ref D) ce).onRaise (fun x => do noteFrame x ce; standAt theWindowsPlace)) _ _ s2
    refine wpAny_notedAt ?_
    rw [hS]
    change wpAny _ _ (ask >>= _) _ _ s2
    refine wpAny_bind (wpAny_askSetting (wpAny_ite ?_))
    split
    · first
        | exact wpAny_bind (wpAny_pure (wpAny_pure (And.intro rfl loop)))
        | exact wpAny_bind (wpAny_pure (And.intro rfl loop))
        | exact wpAny_pure (And.intro rfl loop)
    · refine wpAny_bind (wpAny_rule ?_)
      first
        | exact wpAny_bind (wpAny_standAt (wpAny_bind (T.self X.A 0 s2 _ _ st2 (wpAny_pure (And.intro rfl loop)))))
        | (change wpAny _ _ (standAt iter.pos >>= _) _ _ s2; exact wpAny_bind (wpAny_standAt (wpAny_bind (T.self X.A 0 s2 _ _ st2 (wpAny_pure (And.intro rfl loop))))))
  refine codeAny_mono start fun r s' hr => ?_
  cases r with
  | ok f =>
    obtain ⟨H', I', nx⟩ := hr
    exact hk (wipe σ vs) H' s' I' (wipe_length _ _).symm (fun i v hi z => by rw [wipe_out hi]; exact z) nx
  | error er => exact hr.elim
/-- the reading: the first clause, and what follows its tests -/
def tLcN (wi : TI) (g : TG) (tt : TT) (vs : List Nat) (tl : Addr → TC) : TE := fun σ H Q => wi σ H fun J H1 => ∀ D, H1 D = none → ∃ W : Nat → Nat → Hp → Prop, (∃ m, W 0 m (upd H1 D (.lst []))) ∧ ∀ i m H, W i m H →
  (J.stop i H ∧ Q (.ref D) H) ∨ (J.go i H ∧ ∃ N1 : Hp → Prop, (∀ H', N1 H' → ∃ m', m' < m ∧ W (i + 1) m' H') ∧ ∀ x H', J.yld i H x H' → g x (wipe σ vs) H' fun σ3 H5 => wipe σ3 vs = wipe σ vs ∧ tt σ3 H5 fun b H6 => if b = true then tl D σ3 H6 N1 else N1 H6)
theorem pe_lcN {elt tg iter : Expr} {ifs : List Expr} {rest : List Comprehension} {sc : Scope} {ps : Pos} {own : List (Str × Nat)} {M : Addr → Env → Sem PySem.Fin → Sem PySem.Fin} {wi : TI} {g : TG} {tt : TT} {tl : Addr → TC} {vn : List Nat} (hc : X.calm = true) (hN : X.N.Nodup) (hi : PI X tg iter wi) (ok : BlkOk X.N X.env.scope sc own) (hv : ∀ i ∈ vn, i ∈ own.map (·.2))
    (hg : ∀ (s : Shared) (H : Hp) (C : Addr) (cl : List (Str × Addr)) (fp : List Addr), PG (X.blk s H sc (compEnvC sc cl C X.env) fp) tg g) (ht : ∀ (s : Shared) (H : Hp) (C : Addr) (cl : List (Str × Addr)) (fp : List Addr), PTs (X.blk s H sc (compEnvC sc cl C X.env) fp) ifs tt)
    (hT : ∀ D ce, TurnIs (.ListComp elt (⟨tg, iter, ifs, 0⟩ :: rest) sc ps) 0 tg ifs iter.pos D ce (M D ce))
    (hM : ∀ (s : Shared) (H : Hp) (C : Addr) (cl : List (Str × Addr)) (fp : List Addr) (D : Addr), Piece (X.blk s H sc (compEnvC sc cl C X.env) fp) vn (M D (compEnvC sc cl C X.env)) (tl D))
    (hs : ∀ x, foldedSetIterable iter X.env x = pure x := by intro _; rfl) : PE X (.ListComp elt (⟨tg, iter, ifs, 0⟩ :: rest) sc ps) (tLcN wi g tt (own.map (·.2)) tl) := by
  refine ⟨fun pins s σ H Q I h => ?_⟩
  rw [eval_ListComp]
  have free : ∀ y ∈ sc.names, y.2 = .free → ∃ c, X.env.cells.lookup y.1 = some c := fun y hy e => (ok.free y hy e).elim (fun k => I.ok.has _ (.inl k)) fun k => I.ok.has _ (.inr k)
  refine wpAny_comprehension_free rfl hs (closure_ok free) ok.kind (fun y hy e => by rw [ok.uniq y hy, e]) (thn (hi.run pins s σ H _ I h) fun xv s1 hx => thn hx fun itv s2 h2 => ?_)
  obtain ⟨it, fp, tn, J, H2, e, I2, T, st2, f2, q⟩ := h2
  subst e
  refine wpAny_newObj_type (newEnv_comp ?_) (by show 0 ≤ sizeLine; decide)
  generalize hD : s2.heap.objs.size = D
  have hDn : H2 D = none := I2.hok.fresh (Nat.le_of_eq hD)
  obtain ⟨W, ⟨m0, w0⟩, turn⟩ := q D hDn
  generalize hs3 : ({ s2 with heap := s2.heap.push { cls := .type "list", data := .seq ([] : List Value).toArray } } : Shared) = s3
  have h3 : s3.heap = s2.heap.push { cls := .type "list", data := .seq ([] : List Value).toArray } := by rw [← hs3]
  have I3 : Inv X pins σ (upd H2 D (.lst [])) s3 := by
    rw [← hs3]
    exact I2.laid (t' := s2.toks) (fun b o z => Heap.get?_push_of_some _ z) (Nat.le_of_eq hD) ⟨Nat.zero_le _, [], 0, .nil, by rw [← hD]; exact Heap.get?_push_size _ rfl⟩
  have f3 : ∀ b ∈ fp, FpOk X pins (upd H2 D (.lst [])) b ∧ b < s3.heap.objs.size := fun b hb => by
    obtain ⟨o, z, _⟩ := T.obj _ _ st2 b hb
    have hlt := Heap.lt_size z
    exact ⟨⟨by rw [upd_ne (by rw [← hD]; exact Nat.ne_of_lt hlt)]; exact (f2 b hb).1, (f2 b hb).2⟩, by rw [h3, Heap.size_push]; exact Nat.lt_succ_of_lt hlt⟩
  have st3 : tn 0 s3.heap := T.keep _ _ _ st2 fun b _ o z => by rw [h3]; exact Heap.get?_push_of_some _ z
  have I4 := block_start I3 ok hN f3
  have nfp : ∀ b ∈ fp, (upd H2 D (.lst [])) b = none := fun b hb => (f3 b hb).1.1
  change codeAny _ _ (.compStart (.ListComp elt (⟨tg, iter, ifs, 0⟩ :: rest) sc ps) 0 (.ref it) (.ref D) (compEnvC sc (cellsFrom (s3.heap.objs.size + 1) sc.names (cloFrom X.env.cells sc.names [])) s3.heap.objs.size X.env)) (compPost (model X.prog X.w) X.A X.xe none _ (.ref D) s3.heap.objs.size) { s3 with heap := pushCells (s3.heap.push { cls := .type "dict", data := .dict #[] }) sc.names }
  generalize hcl : cellsFrom (s3.heap.objs.size + 1) sc.names (cloFrom X.env.cells sc.names []) = cl at I4 ⊢
  have pg := hg s3 (upd H2 D (.lst [])) s3.heap.objs.size cl fp
  have pt := ht s3 (upd H2 D (.lst [])) s3.heap.objs.size cl fp
  have pm := hM s3 (upd H2 D (.lst [])) s3.heap.objs.size cl fp D
  have tm := hT D (compEnvC sc cl s3.heap.objs.size X.env)
  have cL : (compEnvC sc cl s3.heap.objs.size X.env).locals = s3.heap.objs.size := rfl
  generalize compEnvC sc cl s3.heap.objs.size X.env = ce at I4 pg pt pm tm cL ⊢
  generalize hH3 : upd H2 D (.lst []) = H3 at I3 I4 pg pt pm w0 nfp f3
  generalize hs4 : ({ s3 with heap := pushCells (s3.heap.push { cls := .type "dict", data := .dict #[] }) sc.names } : Shared) = s4 at I4 ⊢
  have st4 : tn 0 s4.heap := T.keep _ _ _ st3 fun b _ o z => by rw [← hs4]; exact pushCells_keeps _ _ _ _ (Heap.get?_push_of_some _ z)
  have stat : ∀ {σ' : L2.St} {H' : Hp} {s' : Shared}, Inv (X.blk s3 H3 sc ce fp) [] σ' H' s' → (∀ b ∈ fp, H' b = none) → ∀ b ∈ fp, FpOk (X.blk s3 H3 sc ce fp) [] H' b := fun {σ' H' s'} I' hn b hb =>
    ⟨hn b hb, (I'.ok.exf b hb).1, I'.ok.exfs b hb, .inl hb, fun x c z => (I'.ok.exf b hb).2 x c z, fun p hp => absurd (show p ∈ ([] : List (Addr × Obj)) ++ [] from hp) (by simp)⟩
  have loop : codeAny (model X.prog X.w) X.A (.compLoop (.ListComp elt (⟨tg, iter, ifs, 0⟩ :: rest) sc ps) 0 (.ref it) (.ref D) ce) (compPost (model X.prog X.w) X.A X.xe none (EP X pins σ Q) (.ref D) s3.heap.objs.size) s4 := by
    refine codeAny_loop rfl (fun n s' => ∃ i H', Inv (X.blk s3 H3 sc ce fp) [] (wipe σ (own.map (·.2))) H' s' ∧ tn i s'.heap ∧ (∀ b ∈ fp, H' b = none) ∧ W i n H') (fun n s5 ⟨i, H5, I5, st5, n5, w5⟩ => ?_) m0 ⟨0, H3, I4, st4, nfp, w0⟩
    change wpAny _ X.A ((compTurn (.ListComp elt (⟨tg, iter, ifs, 0⟩ :: rest) sc ps) 0 (.ref it) (.ref D) ce).onRaise (fun x => do noteFrame x ce; theTreesLotGoes x)) _ _ s5
    refine wpAny_noted ?_
    rw [tm]
    refine wpAny_bind (wpAny_standAt (wpAny_bind ?_))
    rcases turn i n H5 w5 with ⟨stop, qq⟩ | ⟨go, N1, hN1, step⟩
    · refine thnF (T.done (X.blk s3 H3 sc ce fp) rfl rfl rfl hc i [] s5 _ H5 (fun _ _ => False) I5 (stat I5 n5) st5 stop) fun r s6 ⟨hr, I6⟩ => ?_
      subst hr
      refine wpAny_pure ?_
      have I7 : Inv X pins σ H5 s6 := I3.call' (ch := fp) I6.os I6.base I6.hok I6.bare fun b hb => ⟨(f3 b hb).1.2.2.2.1, (f3 b hb).1.2.1, (f3 b hb).1.2.2.2.2.1, (f3 b hb).1.2.2.2.2.2⟩
      have nC : H5 s3.heap.objs.size = none := by
        have z : H5 ce.locals = none := I6.free
        rwa [cL] at z
      obtain ⟨m, hn, _⟩ := I6.loc
      have hn : s6.heap.Ns ce.locals m := hn
      rw [cL] at hn
      obtain ⟨f0, f1, f2', f3', f4, f5⟩ := I3.fpOk (Nat.le_refl _) nC
      exact ⟨m, hn, fun h'' sb => ⟨.ref D, H5, I7.turned (t' := s6.toks) (fun b o hb z => (sb.2 b hb).trans z) f0 f1 f3' f4 f5, rfl, qq⟩⟩
    · refine thnF (T.item (X.blk s3 H3 sc ce fp) rfl rfl rfl hc i [] s5 _ H5 (fun _ _ => False) I5 (stat I5 n5) st5 go) fun r s6 ⟨u, hr, h6⟩ => ?_
      subst hr
      refine wpAny_bind (thnF h6 fun _ s7 ⟨x, H7, I7, r7, y7, st7, n7⟩ => ?_)
      have I7' := I7.pinned (stat I7 n7) (T.obj _ _ st7)
      refine wpAny_bind (thnF (pg.run _ s7 _ H7 x u _ I7' r7 (step x H7 y7)) fun _ s8 ⟨σ8, H8, I8, hw8, q8⟩ => ?_)
      refine wpAny_bind (thnF (pt.run _ s8 σ8 H8 _ I8 q8) fun b s9 ⟨H9, I9, q9⟩ => ?_)
      have fin : ∀ {σ9 : L2.St} {s' : Shared} {H' : Hp}, Inv (X.blk s3 H3 sc ce fp) ([] ++ pinsAt fp s7.heap) σ9 H' s' → (wipe σ (own.map (·.2))).length = σ9.length → (∀ (j : Nat) v, (wipe σ (own.map (·.2)))[j]? = some (some v) → σ9[j]? = some (some v)) → N1 H' →
          ∃ m, m < n ∧ ∃ i H', Inv (X.blk s3 H3 sc ce fp) [] (wipe σ (own.map (·.2))) H' s' ∧ tn i s'.heap ∧ (∀ b ∈ fp, H' b = none) ∧ W i m H' := fun {σ9 s' H'} I' hl hk nx => by
        obtain ⟨m', hm, w'⟩ := hN1 H' nx
        have pin' : ∀ b ∈ fp, ∀ o, s7.heap.get? b = some o → s'.heap.get? b = some o ∧ H' b = none := fun b hb o z =>
          let y := I'.pin (b, o) (List.mem_append_right _ (List.mem_append_right _ (mem_pinsAt hb z)))
          ⟨y.1, y.2.1⟩
        refine ⟨m', hm, i + 1, H', (I'.unpinned (pins := [])).weak hl hk, T.keep _ _ _ st7 fun b hb o z => (pin' b hb o z).1, fun b hb => ?_, w'⟩
        obtain ⟨o, z, _⟩ := T.obj _ _ st7 b hb
        exact (pin' b hb o z).2
      have l8 : (wipe σ (own.map (·.2))).length = σ8.length := by rw [← hw8, wipe_length]
      have k8 : ∀ (j : Nat) v, (wipe σ (own.map (·.2)))[j]? = some (some v) → σ8[j]? = some (some v) ∧ j ∉ own.map (·.2) := fun j v z => by
        rw [← hw8] at z
        exact wipe_some z
      cases b with
      | false =>
        simp only [Bool.false_eq_true, if_false] at q9 ⊢
        exact wpAny_pure ⟨rfl, fin I9 l8 (fun j v z => (k8 j v z).1) q9⟩
      | true =>
        simp only [if_true] at q9 ⊢
        refine pm _ _ _ _ s9 σ8 H9 N1 I9 q9 fun σ10 H10 s10 I10 l10 k10 nx => ?_
        exact wpAny_pure ⟨rfl, fin I10 (l8.trans l10) (fun j v z => k10 j v (fun m => (k8 j v z).2 (hv j m)) (k8 j v z).1) nx⟩
  exact codeAny_compStart_list loop (T.self X.A 0 _ _ _ st4 loop)
/-- [elt for t0 in i0 for t1 in i1 for t2 in i2], each with its tests; v1, v2: the slots of the second and the third target, and of the third alone -/
theorem pe_lc3 {elt t0 i0 t1 i1 t2 i2 : Expr} {f0 f1 f2 : List Expr} {sc : Scope} {ps : Pos} {own : List (Str × Nat)} {w0 w1 w2 : TI} {g0 g1 g2 : TG} {tt0 tt1 tt2 : TT} {te : TE} (v1 v2 : List Nat) (hc : X.calm = true) (hN : X.N.Nodup) (hi : PI X t0 i0 w0) (ok : BlkOk X.N X.env.scope sc own)
    (h01 : ∀ i ∈ v1, i ∈ own.map (·.2)) (h12 : ∀ i ∈ v2, i ∈ v1)
    (hg0 : ∀ (s : Shared) (H : Hp) (C : Addr) (cl : List (Str × Addr)) (fp : List Addr), PG (X.blk s H sc (compEnvC sc cl C X.env) fp) t0 g0) (ht0 : ∀ (s : Shared) (H : Hp) (C : Addr) (cl : List (Str × Addr)) (fp : List Addr), PTs (X.blk s H sc (compEnvC sc cl C X.env) fp) f0 tt0)
    (hi1 : ∀ (s : Shared) (H : Hp) (C : Addr) (cl : List (Str × Addr)) (fp : List Addr), PI (X.blk s H sc (compEnvC sc cl C X.env) fp) t1 i1 w1)
    (hg1 : ∀ (s : Shared) (H : Hp) (C : Addr) (cl : List (Str × Addr)) (fp : List Addr), PG (X.blk s H sc (compEnvC sc cl C X.env) fp) t1 g1) (ht1 : ∀ (s : Shared) (H : Hp) (C : Addr) (cl : List (Str × Addr)) (fp : List Addr), PTs (X.blk s H sc (compEnvC sc cl C X.env) fp) f1 tt1)
    (hi2 : ∀ (s : Shared) (H : Hp) (C : Addr) (cl : List (Str × Addr)) (fp : List Addr), PI (X.blk s H sc (compEnvC sc cl C X.env) fp) t2 i2 w2)
    (hg2 : ∀ (s : Shared) (H : Hp) (C : Addr) (cl : List (Str × Addr)) (fp : List Addr), PG (X.blk s H sc (compEnvC sc cl C X.env) fp) t2 g2) (ht2 : ∀ (s : Shared) (H : Hp) (C : Addr) (cl : List (Str × Addr)) (fp : List Addr), PTs (X.blk s H sc (compEnvC sc cl C X.env) fp) f2 tt2)
    (he : ∀ (s : Shared) (H : Hp) (C : Addr) (cl : List (Str × Addr)) (fp : List Addr), PE (X.blk s H sc (compEnvC sc cl C X.env) fp) elt te)
    (s0 : ∀ x, foldedSetIterable i0 X.env x = pure x := by intro _; rfl) (s1 : ∀ env x, foldedSetIterable i1 env x = pure x := by intro _ _; rfl) (s2 : ∀ env x, foldedSetIterable i2 env x = pure x := by intro _ _; rfl) :
    PE X (.ListComp elt [⟨t0, i0, f0, 0⟩, ⟨t1, i1, f1, 0⟩, ⟨t2, i2, f2, 0⟩] sc ps) (tLcN w0 g0 tt0 (own.map (·.2)) fun D => tCl w1 g1 tt1 v1 (tCl w2 g2 tt2 v2 (tEl D te))) := by
  refine pe_lcN (vn := v1) (M := fun D ce k => do
      let x ← eval i1 ce
      standAt i1.pos
      let x ← foldedSetIterable i1 ce x
      let _ ← runOwn (.compStart (.ListComp elt [⟨t0, i0, f0, 0⟩, ⟨t1, i1, f1, 0⟩, ⟨t2, i2, f2, 0⟩] sc ps) 1 (← holding [x] (pyIter x)) (.ref D) ce) ce
      k) hc hN hi ok h01 hg0 ht0 (fun D ce it => rfl) (fun s H C cl fp D => ?_) s0
  refine piece_clause (vn := v2) (M := fun k => do
      let x ← eval i2 (compEnvC sc cl C X.env)
      standAt i2.pos
      let x ← foldedSetIterable i2 (compEnvC sc cl C X.env) x
      let _ ← runOwn (.compStart (.ListComp elt [⟨t0, i0, f0, 0⟩, ⟨t1, i1, f1, 0⟩, ⟨t2, i2, f2, 0⟩] sc ps) 2 (← holding [x] (pyIter x)) (.ref D) (compEnvC sc cl C X.env)) (compEnvC sc cl C X.env)
      k) hc (p := i1.pos) (fun it => rfl) ?_ h12 (hi1 s H C cl fp) (hg1 s H C cl fp) (ht1 s H C cl fp) (fun x => s1 _ x) (fun it => rfl)
  exact piece_clause (vn := []) (M := fun k => (do let _ ← call (.builtin "list.append") [.ref D, ← eval elt (compEnvC sc cl C X.env)] : Sem PUnit) >>= fun _ => k) hc (p := i2.pos) (fun it => rfl) (piece_elt (he s H C cl fp)) (fun _ m => nomatch m) (hi2 s H C cl fp) (hg2 s H C cl fp) (ht2 s H C cl fp) (fun x => s2 _ x) (fun it => rfl)
end
end KaC
set_option maxRecDepth 100000
set_option maxHeartbeats 4000000
namespace KaC
open PySem PySem.Spec PyProof.Rows L2
section
variable {K : PySem.W.Frag} {a : Addr} {xs : List V} {Hs : Hp} {Qd : Hp → Prop}
theorem go_tup {F : V → Hp → (Hp → Prop) → Prop} (Pv : Nat → Hp → Prop) (h0 : Pv 0 Hs) (hl : ∀ i H, i ≤ xs.length → Pv i H → SqT K H a xs) (hs : ∀ i x H, xs[i]? = some x → Pv i H → F x H (Pv (i + 1))) (hd : ∀ H, Pv xs.length H → Qd H) :
    ∃ W : Nat → Nat → Hp → Prop, (∃ m, W 0 m Hs) ∧ ∀ i m H, W i m H → ((Itt K a).stop i H ∧ Qd H) ∨ ((Itt K a).go i H ∧ ∃ N : Hp → Prop, (∀ H', N H' → ∃ m', m' < m ∧ W (i + 1) m' H') ∧ ∀ x H', (Itt K a).yld i H x H' → F x H' N) := by
  refine ⟨fun i m H => m = xs.length - i ∧ i ≤ xs.length ∧ Pv i H, ⟨_, rfl, Nat.zero_le _, h0⟩, fun i m H ⟨em, hi, p⟩ => ?_⟩
  have q := hl i H hi p
  rcases Nat.lt_or_ge i xs.length with lt | ge
  · refine .inr ⟨⟨xs, xs[i], q, List.getElem?_eq_getElem lt⟩, Pv (i + 1), fun H' p' => ⟨xs.length - (i + 1), by omega, rfl, lt, p'⟩, fun x H' ⟨e, y⟩ => ?_⟩
    subst e
    exact hs i x _ (y xs q) p
  · obtain rfl : i = xs.length := by omega
    exact .inl ⟨⟨xs, q, Nat.le_refl _⟩, hd H p⟩
theorem go_enumT {F : V → Hp → (Hp → Prop) → Prop} (Pv : Nat → Hp → Prop) (h0 : Pv 0 Hs) (hl : ∀ i H, i ≤ xs.length → Pv i H → SqT K H a xs) (hs : ∀ i x T H, xs[i]? = some x → Pv i H → H T = none → F (.ref T) (upd H T (.tup [.int (i : Nat), x])) (Pv (i + 1))) (hd : ∀ H, Pv xs.length H → Qd H) :
    ∃ W : Nat → Nat → Hp → Prop, (∃ m, W 0 m Hs) ∧ ∀ i m H, W i m H → ((ItT K a).stop i H ∧ Qd H) ∨ ((ItT K a).go i H ∧ ∃ N : Hp → Prop, (∀ H', N H' → ∃ m', m' < m ∧ W (i + 1) m' H') ∧ ∀ x H', (ItT K a).yld i H x H' → F x H' N) := by
  refine ⟨fun i m H => m = xs.length - i ∧ i ≤ xs.length ∧ Pv i H, ⟨_, rfl, Nat.zero_le _, h0⟩, fun i m H ⟨em, hi, p⟩ => ?_⟩
  have q := hl i H hi p
  rcases Nat.lt_or_ge i xs.length with lt | ge
  · refine .inr ⟨⟨xs, xs[i], q, List.getElem?_eq_getElem lt⟩, Pv (i + 1), fun H' p' => ⟨xs.length - (i + 1), by omega, rfl, lt, p'⟩, fun v H' ⟨T, x, e1, e2, e3, y⟩ => ?_⟩
    subst e1; subst e3
    exact hs i x T H (y xs q) p e2
  · obtain rfl : i = xs.length := by omega
    exact .inl ⟨⟨xs, q, Nat.le_refl _⟩, hd H p⟩
end
section
variable {X : Cx}
/-- two clauses, each with its tests -/
theorem pe_lc2n {elt t0 i0 t1 i1 : Expr} {f0 f1 : List Expr} {sc : Scope} {ps : Pos} {own : List (Str × Nat)} {w0 w1 : TI} {g0 g1 : TG} {tt0 tt1 : TT} {te : TE} (v1 : List Nat) (hc : X.calm = true) (hN : X.N.Nodup) (hi : PI X t0 i0 w0) (ok : BlkOk X.N X.env.scope sc own)
    (h01 : ∀ i ∈ v1, i ∈ own.map (·.2))
    (hg0 : ∀ (s : Shared) (H : Hp) (C : Addr) (cl : List (Str × Addr)) (fp : List Addr), PG (X.blk s H sc (compEnvC sc cl C X.env) fp) t0 g0) (ht0 : ∀ (s : Shared) (H : Hp) (C : Addr) (cl : List (Str × Addr)) (fp : List Addr), PTs (X.blk s H sc (compEnvC sc cl C X.env) fp) f0 tt0)
    (hi1 : ∀ (s : Shared) (H : Hp) (C : Addr) (cl : List (Str × Addr)) (fp : List Addr), PI (X.blk s H sc (compEnvC sc cl C X.env) fp) t1 i1 w1)
    (hg1 : ∀ (s : Shared) (H : Hp) (C : Addr) (cl : List (Str × Addr)) (fp : List Addr), PG (X.blk s H sc (compEnvC sc cl C X.env) fp) t1 g1) (ht1 : ∀ (s : Shared) (H : Hp) (C : Addr) (cl : List (Str × Addr)) (fp : List Addr), PTs (X.blk s H sc (compEnvC sc cl C X.env) fp) f1 tt1)
    (he : ∀ (s : Shared) (H : Hp) (C : Addr) (cl : List (Str × Addr)) (fp : List Addr), PE (X.blk s H sc (compEnvC sc cl C X.env) fp) elt te)
    (s0 : ∀ x, foldedSetIterable i0 X.env x = pure x := by intro _; rfl) (s1 : ∀ env x, foldedSetIterable i1 env x = pure x := by intro _ _; rfl) :
    PE X (.ListComp elt [⟨t0, i0, f0, 0⟩, ⟨t1, i1, f1, 0⟩] sc ps) (tLcN w0 g0 tt0 (own.map (·.2)) fun D => tCl w1 g1 tt1 v1 (tEl D te)) := by
  refine pe_lcN (vn := v1) (M := fun D ce k => do
      let x ← eval i1 ce
      standAt i1.pos
      let x ← foldedSetIterable i1 ce x
      let _ ← runOwn (.compStart (.ListComp elt [⟨t0, i0, f0, 0⟩, ⟨t1, i1, f1, 0⟩] sc ps) 1 (← holding [x] (pyIter x)) (.ref D) ce) ce
      k) hc hN hi ok h01 hg0 ht0 (fun D ce it => rfl) (fun s H C cl fp D => ?_) s0
  exact piece_clause (vn := []) (M := fun k => (do let _ ← call (.builtin "list.append") [.ref D, ← eval elt (compEnvC sc cl C X.env)] : Sem PUnit) >>= fun _ => k) hc (p := i1.pos) (fun it => rfl) (piece_elt (he s H C cl fp)) (fun _ m => nomatch m) (hi1 s H C cl fp) (hg1 s H C cl fp) (ht1 s H C cl fp) (fun x => s1 _ x) (fun it => rfl)
end
end KaC
set_option maxRecDepth 100000
set_option maxHeartbeats 4000000
namespace KaG
open PySem PySem.Spec PyProof.Rows L2 KaC
theorem kd_one {ks : List Kd} {k k' : Kd} (nd : (ks.map Kd.name).Nodup) (h : k ∈ ks) (h' : k' ∈ ks) (e : k.name = k'.name) : k = k' := by
  obtain ⟨i, hi⟩ := List.mem_iff_getElem?.mp h
  obtain ⟨j, hj⟩ := List.mem_iff_getElem?.mp h'
  obtain ⟨li, ei⟩ := List.getElem?_eq_some_iff.mp hi
  obtain ⟨lj, ej⟩ := List.getElem?_eq_some_iff.mp hj
  have hij : j = i := (List.getElem_inj (h₀ := by rw [List.length_map]; exact lj) (h₁ := by rw [List.length_map]; exact li) nd).mp (by rw [List.getElem_map, List.getElem_map, ei, ej, e])
  subst hij
  rw [hi] at hj
  exact Option.some.inj hj
theorem gsOf_eq {ks : List Kd} {k : Kd} (nd : (ks.map Kd.name).Nodup) (h : k ∈ ks) : gsOf ks k.name = k.gs := by
  unfold gsOf
  cases e : ks.find? (fun q => decide (q.name = k.name)) with
  | none =>
    have := List.find?_eq_none.mp e k h
    simp at this
  | some q =>
    have h1 := List.find?_some e
    have h2 := List.mem_of_find?_eq_some e
    rw [kd_one nd h2 h (of_decide_eq_true h1)]
theorem keepLt_eq {ks : List Kd} {k : Kd} {a : Int} (nd : (ks.map Kd.name).Nodup) (h : k ∈ ks) : keepLt ks k.name a = decide (a < k.keep) := by
  unfold keepLt
  cases e : decide (a < k.keep) with
  | true => exact List.any_eq_true.mpr ⟨k, h, by simp [e]⟩
  | false =>
    rw [List.any_eq_false]
    intro q hq z
    rw [Bool.and_eq_true, decide_eq_true_eq] at z
    rw [kd_one nd hq h z.1, e] at z
    exact absurd z.2 (by decide)
theorem inV_str {p : Str} : ∀ {B : List Str}, inV (.str p) (B.map V.str) = decide (p ∈ B)
  | [] => rfl
  | b :: r => by
    have ih := inV_str (p := p) (B := r)
    unfold inV at ih ⊢
    rw [List.map_cons, List.any_cons, ih]
    show ((b == p) || decide (p ∈ r)) = _
    by_cases h : b = p
    · subst h
      simp
    · have : (b == p) = false := by
        rw [beq_eq_false_iff_ne]
        exact h
      rw [this, Bool.false_or]
      exact decide_eq_decide.mpr ⟨fun z => List.mem_cons_of_mem _ z, fun z => (List.mem_cons.mp z).elim (fun y => absurd y.symm h) id⟩
theorem flat_strs : ∀ {B : List Str}, (B.map V.str).all flatV = true
  | [] => rfl
  | b :: r => by
    rw [List.map_cons, List.all_cons, flat_strs]
    rfl
theorem Sq2.in_ {K : PySem.W.Frag} {H : Hp} {l : Addr} {xs : List V} (h : Sq2 H l xs) : SqL K H l xs ∨ SqT K H l xs := h.imp SqL.of SqT.of
theorem Sq2.same {H H' : Hp} {l : Addr} {xs : List V} (h : Sq2 H l xs) (s : Same H H') : Sq2 H' l xs := h.imp (s _ _) (s _ _)
/-- a ground of a rulebook -/
structure GrOk (rows names : List Str) (g : Gr) : Prop where
  len : g.length ≤ 3
  nv : ∀ n ∈ g, NeedV rows names n
theorem BookOk.gr {rows : List Str} {ks : List Kd} (h : BookOk rows ks) {k : Kd} (m : k ∈ ks) {g : Gr} (mg : g ∈ k.gs) : GrOk rows (ks.map Kd.name) g := ⟨(h.grd k m g mg).2.1, (h.grd k m g mg).2.2⟩
section
variable {P : Program} {w : World} {K : PySem.W.Frag} {mg : Str → Option Value} {base : Heap}
/-- kind_of a name that is there -/
def spKindN : Sp := fun vs H Q _ => ∃ (b : Addr) (rows : List Str) (ks : List Kd) (n : Str), vs = [.ref b, .str n] ∧ BookAt H b rows ks ∧ (ks.map Kd.name).Nodup ∧ n ∈ ks.map Kd.name ∧ ∀ (ka : Addr) (k : Kd), k ∈ ks → k.name = n → KdAt H ka k → Q (.ref ka) H
theorem ok_kindN {f : Addr} {fd : FuncData} (F : Fun K "kind_of" "kind_of" sKindOf f fd) : FnOk P w K mg base CX0 1 f fd ["rulebook", "name"] spKindN := by
  have C := ok_kindOf0 (P := P) (w := w) (mg := mg) (base := base) F
  have go : ∀ vs H Q E, spKindN vs H Q E → spKindOf0 vs H Q E := fun vs H Q E ⟨b, rows, ks, n, e, hA, nd, mn, q⟩ => by
    obtain ⟨k, mk, kn⟩ := List.mem_map.mp mn
    obtain ⟨i, hi⟩ := List.mem_iff_getElem?.mp mk
    obtain ⟨r, kt, kas, e1, e2, e3, pk⟩ := id hA
    obtain ⟨ka, hka, hk⟩ := paired_at2 pk hi
    exact ⟨b, rows, ks, kas, i, k, ka, by rw [kn]; exact e, hA, ⟨r, kt, e1, e3⟩, nd, hi, hka, q ka k mk kn hk⟩
  exact ⟨fun vs H Q E h => C.len vs H Q E (go _ _ _ _ h), fun A outer s H args us vs Q E hr e0 hb r h => C.run A outer s H args us vs Q E hr e0 hb r (go _ _ _ _ h)⟩
abbrev sIsLive : Stmt := top 9
abbrev nmIL : List Str := ["rulebook", "ground", "bearing", "need"]
theorem scIL : FnScope nmIL ["rulebook", "ground", "bearing"] (defScope sIsLive) := ⟨rfl, rfl, rfl, by decide +kernel, rfl, by decide +kernel, by decide +kernel⟩
def spIsLive : Sp := fun vs H Q _ => ∃ (b ga sa : Addr) (rows : List Str) (ks : List Kd) (g : Gr) (B : List Str), vs = [.ref b, .ref ga, .ref sa] ∧ BookAt H b rows ks ∧ (ks.map Kd.name).Nodup ∧ Grd H ga g ∧ GrOk rows (ks.map Kd.name) g ∧ Sq2 H sa (B.map V.str) ∧ ∀ H', Same H H' → Q (.bl (grLive ks B g)) H'
theorem ok_isLive {f fK : Addr} {fd fdK : FuncData} (F : Fun K "_is_live" "_is_live" sIsLive f fd) (hall : mg "all" = none) (C : Ct P w K mg base "kind_of" 1 ["rulebook", "name"] spKindN fK fdK) : FnOk P w K mg base CX0 2 f fd ["rulebook", "ground", "bearing"] spIsLive := by
  refine F.ok scIL (fun vs H Q E h => ?_) (fun cdv A outer s H vs Q E hr h => ?_)
  · obtain ⟨b, ga, sa, rows, ks, g, B, rfl, _⟩ := h
    rfl
  · obtain ⟨b, ga, sa, rows, ks, g, B, rfl, hA, nd, ⟨ns, eg, pg⟩, hn, hB, k⟩ := h
    refine ⟨_, (pss_one (ps_ret (pe_callB (r := rAll K) (cr_all rfl) (by rfl) hall (by decide +kernel) (pa_cons (pe_lc (own := [("need", 3)]) (g := gName 3) (by rfl) scIL.nd (pi_tup (pv 1))
        (blkOk_by (own := [("need", 3)]) (N := nmIL) (sc := defScope sIsLive) (by decide +kernel)) (fun _ _ _ _ _ => pg_name (i := 3) scIL.nd rfl (Or.inl rfl)) (fun _ _ _ _ _ => pts_nil)
        (fun _ _ _ _ _ => pe_or (pe_cmpR (r := rEq) op_eq (pe_ix (r := rIxT K) ix_tup (pv 3) pe_int (fun _ _ => rfl)) pe_str (nomark _)) (pe_one (pe_and (pe_cmpR (r := rIn K false) op_in_seq (pe_ix (r := rIxT K) ix_tup (pv 3) pe_int (fun _ _ => rfl)) (pv 2) rfl)
          (pe_one (pe_cmpR (r := rI0 fun i j => V.bl (decide (i < j))) op_lt (pe_ix (r := rIxT K) ix_tup (pv 3) pe_int (fun _ _ => rfl))
            (pe_ix (r := rIxT K) ix_tup (pe_call C.G hr (by rfl) C.m C.kp C.b .nil pass0 (pa_cons (pv 0) (pa_cons (pe_ix (r := rIxT K) ix_tup (pv 3) pe_int (fun _ _ => rfl)) pa_nil))) pe_int (fun _ _ => rfl)) (nomark _))))))) pa_nil)))), ?_⟩
    have lng := paired_len pg
    have l3 := hn.len
    refine ⟨_, rfl, ga, rfl, ⟨_, SqT.of eg⟩, fun D hD => lc_tup (K := K) (a := ga) (xs := ns.map V.ref) (fun i J => Same H J ∧ J D = some (.lst (((g.take i).map (ndLive ks B)).map V.bl))) ?_ ?_ ?_ ?_⟩
    · exact ⟨same_upd hD, upd_same⟩
    · rintro i J _ ⟨S2, _⟩
      exact SqT.of (S2 _ _ eg)
    · rintro i x J hx ⟨S2, jD⟩
      rw [List.getElem?_map] at hx
      obtain ⟨q, hq, rfl⟩ := Option.map_eq_some_iff.mp hx
      obtain ⟨it, hit, eq⟩ := paired_at pg hq
      have nv := hn.nv it (List.mem_of_getElem? hit)
      have eqJ := S2 _ _ eq
      have fin : ∀ c : Bool, ndLive ks B it = c → ∃ acc, J D = some (.lst acc) ∧ acc.length < sizeLine ∧ Same H (upd J D (.lst (acc ++ [.bl c]))) ∧ upd J D (.lst (acc ++ [.bl c])) D = some (.lst (((g.take (i + 1)).map (ndLive ks B)).map V.bl)) := fun c hc => by
        refine ⟨_, jD, small1000 (by rw [List.length_map, List.length_map, List.length_take]; omega), fun b u e => by rw [upd_ne (ne_of_none e hD)]; exact S2 b u e, ?_⟩
        rw [upd_same, List.take_add_one, hit, Option.toList_some, List.map_append, List.map_append, List.map_singleton, hc]
        rfl
      refine ⟨rfl, ?_⟩
      unfold tYes
      dsimp only
      cases nv with
      | row nm t m h =>
        refine iteT ⟨_, rfl, q, _, 0, .str "row", rfl, rfl, SqT.of eqJ, rfl, rfl, _, rfl, ?_⟩
        rw [if_pos (by decide +kernel)]
        exact fin true rfl
      | kind nm a t m h =>
        refine iteT ⟨_, rfl, q, _, 0, .str "kind", rfl, rfl, SqT.of eqJ, rfl, rfl, _, rfl, ?_⟩
        rw [if_neg (by decide +kernel)]
        refine ⟨_, rfl, q, _, 1, .str nm, rfl, rfl, SqT.of eqJ, rfl, _, rfl, sa, B.map V.str, rfl, (hB.same S2).in_, rfl, flat_strs, _, rfl, ?_⟩
        rw [show (if false = true then !inV (V.str nm) (List.map V.str B) else inV (V.str nm) (List.map V.str B)) = decide (nm ∈ B) from inV_str]
        by_cases hm : nm ∈ B
        · rw [if_pos (decide_eq_true hm)]
          refine ⟨_, rfl, q, _, 2, .int a, rfl, rfl, SqT.of eqJ, rfl, _, rfl, _, rfl, q, _, 1, .str nm, rfl, rfl, SqT.of eqJ, rfl, b, rows, ks, nm, rfl, hA.ts (TSame.of S2), nd, h, fun ka kd mk kn hk => ?_⟩
          obtain ⟨gt, gas, f1, _⟩ := hk
          refine ⟨ka, _, 1, .int kd.keep, rfl, rfl, SqT.of f1, rfl, _, _, rfl, rfl, ?_⟩
          refine fin _ ?_
          show (decide (nm ∈ B) && keepLt ks nm a) = _
          rw [← kn, keepLt_eq nd mk, kn, decide_eq_true hm, Bool.true_and]
        · rw [if_neg (by rw [decide_eq_false hm]; decide)]
          refine fin false ?_
          show (decide (nm ∈ B) && keepLt ks nm a) = _
          rw [decide_eq_false hm, Bool.false_and]
    · rintro J ⟨S2, jD⟩
      rw [List.length_map, lng, List.take_length] at jD
      refine ⟨D, g.map (ndLive ks B), rfl, SqL.of jD, ?_⟩
      have e : (g.map (ndLive ks B)).all id = grLive ks B g := by
        unfold grLive
        rw [List.all_map]
        rfl
      rw [e]
      exact k J S2
end
end KaG
set_option maxRecDepth 100000
set_option maxHeartbeats 2000000
namespace KaG
open PySem PySem.Spec PyProof.Rows L2 LamX NdefX
/-- a cell, by what it holds -/
def CelO (c : Addr) (v : Option V) : HO := .ext fun h => ∃ u', h.IsCell c u' ∧ ∀ x, v = some x → ∃ u, u' = some u ∧ RelV x u
def InC (cl : List (Str × Addr)) (c : Addr) : Prop := ∃ y, cl.lookup y = some c
open Classical in
noncomputable def thaw (cl : List (Str × Addr)) (H : Hp) : Hp := fun b => if InC cl b then none else H b
open Classical in
noncomputable def backH (cl : List (Str × Addr)) (H0 H : Hp) : Hp := fun b => if InC cl b then H0 b else H b
section
variable {cl : List (Str × Addr)} {H H0 : Hp} {b : Addr}
theorem thaw_in (h : InC cl b) : thaw cl H b = none := if_pos h
theorem thaw_out (h : ¬ InC cl b) : thaw cl H b = H b := if_neg h
theorem back_in (h : InC cl b) : backH cl H0 H b = H0 b := if_pos h
theorem back_out (h : ¬ InC cl b) : backH cl H0 H b = H b := if_neg h
theorem thaw_none (h : H b = none) : thaw cl H b = none := by
  by_cases q : InC cl b
  · exact thaw_in q
  · rw [thaw_out q]
    exact h
end
/-- all cells of a function, frozen -/
def FrzC (cl : List (Str × Addr)) (H : Hp) : Prop := ∀ c, InC cl c → ∃ o v, H c = some (.frz o (CelO c v))
section
variable {P : Program} {w : World} {K : PySem.W.Frag} {mg : Str → Option Value} {base : Heap} {A : Around} {outer : List Env} {s s' : Shared} {H Hf : Hp} {cl : List (Str × Addr)} {Q : VK} {u : Value}
theorem FrzC.out (F : FrzC cl H) {b : Addr} {u : HO} (e : H b = some u) (n : ∀ o v, u ≠ .frz o (CelO b v)) : ¬ InC cl b := fun z => by
  obtain ⟨o, v, q⟩ := F b z
  rw [q] at e
  exact n o v (Option.some.inj e).symm
theorem FrzC.out' (F : FrzC cl H) {b : Addr} (e : H b = none) : ¬ InC cl b := fun z => by
  obtain ⟨o, v, q⟩ := F b z
  rw [q] at e
  cases e
theorem env0_thaw (F : FrzC cl H) (e0 : Env0 P w K mg base A outer s H) : Env0 P w K mg base A outer s (thaw cl H) := by
  refine ⟨e0.frames, e0.mod, fun b o e => ⟨(e0.bs b o e).1, thaw_none (e0.bs b o e).2⟩, e0.bsz, e0.funs, fun b hb => thaw_none (e0.frf b hb), fun b u e => ?_, e0.bare⟩
  by_cases q : InC cl b
  · rw [thaw_in q] at e
    cases e
  · rw [thaw_out q] at e
    exact (e0.hok b u e).stay (fun _ _ _ z => z) (fun d z => by rw [thaw_out (F.out z fun _ _ y => nomatch y)]; exact z) fun d xs z => by rw [thaw_out (F.out z fun _ _ y => nomatch y)]; exact z
theorem ce_thaw (F : FrzC cl H) (e0 : Env0 P w K mg base A outer s H) (h : CE outer P w (thaw cl H) s (fun v H' => Q v (backH cl H H')) u s') : CE outer P w H s Q u s' := by
  obtain ⟨v, H', os, bare, un, hok, r, q⟩ := h
  have kc : ∀ c, InC cl c → ∃ o v, H c = some (.frz o (CelO c v)) ∧ s.heap.get? c = some o ∧ s'.heap.get? c = some o ∧ H' c = none := fun c z => by
    obtain ⟨o, v, e⟩ := F c z
    obtain ⟨g, _⟩ := e0.hok c _ e
    refine ⟨o, v, e, g, un.keep c o g (thaw_in z) (fun hb => ?_) (by simp), un.free c o g (thaw_in z) (by simp)⟩
    have := e0.frf c hb
    rw [e] at this
    cases this
  refine ⟨v, backH cl H H', os, bare, ⟨fun b o e n hb hx => ?_, fun b o e n hb hx => ?_, fun b o e n hx => ?_, un.there, fun b xs e => ?_, fun b o x e => ?_, fun b ps e => ?_⟩, fun b x e => ?_, r, q⟩
  · exact un.keep b o e (thaw_none n) hb hx
  · exact un.slot b o e (thaw_none n) hb hx
  · rw [back_out (F.out' n)]
    exact un.free b o e (thaw_none n) hx
  · have z := F.out e fun _ _ y => nomatch y
    rw [back_out z]
    exact un.tups b xs (by rw [thaw_out z]; exact e)
  · by_cases z : InC cl b
    · rw [back_in z]
      exact e
    · rw [back_out z]
      exact un.frzs b o x (by rw [thaw_out z]; exact e)
  · have z := F.out e fun _ _ y => nomatch y
    rw [back_out z]
    exact un.tbls b ps (by rw [thaw_out z]; exact e)
  · by_cases z : InC cl b
    · rw [back_in z] at e
      obtain ⟨o, v, e1, g, g', _⟩ := kc b z
      rw [e1] at e
      cases e
      obtain ⟨_, p, _, st⟩ := e0.hok b _ e1
      exact ⟨g', st s.heap s'.heap p fun o2 q2 => by rw [g] at q2; cases q2; exact g', ⟨o, g'⟩, st⟩
    · rw [back_out z] at e
      have no : ∀ d, InC cl d → ∀ y, H' d ≠ some y := fun d zd y q2 => by
        obtain ⟨_, _, _, _, _, g⟩ := kc d zd
        rw [g] at q2
        cases q2
      exact (hok b x e).stay (fun _ _ _ y => y) (fun d q2 => by rw [back_out fun zd => no d zd _ q2]; exact q2) fun d xs q2 => by rw [back_out fun zd => no d zd _ q2]; exact q2
/-- Hf is H with the cells frozen as they stand -/
structure FrzAt (cl : List (Str × Addr)) (h : Heap) (H Hf : Hp) : Prop where
  non : ∀ c, InC cl c → H c = none
  out : ∀ b, ¬ InC cl b → Hf b = H b
  at_ : ∀ c, InC cl c → ∃ o v, Hf c = some (.frz o (CelO c v)) ∧ h.get? c = some o ∧ ∃ u', h.IsCell c u' ∧ ∀ x, v = some x → ∃ u, u' = some u ∧ RelV x u
theorem FrzAt.frz {h : Heap} (F : FrzAt cl h H Hf) : FrzC cl Hf := fun c z => by
  obtain ⟨o, v, e, _⟩ := F.at_ c z
  exact ⟨o, v, e⟩
theorem env0_frz (F : FrzAt cl s.heap H Hf) (nb : ∀ c, InC cl c → base.get? c = none) (nf : ∀ c, InC cl c → c ∉ frs outer) (e0 : Env0 P w K mg base A outer s H) : Env0 P w K mg base A outer s Hf := by
  refine ⟨e0.frames, e0.mod, fun b o e => ⟨(e0.bs b o e).1, ?_⟩, e0.bsz, e0.funs, fun b hb => ?_, fun b u e => ?_, e0.bare⟩
  · rw [F.out b fun z => by rw [nb b z] at e; cases e]
    exact (e0.bs b o e).2
  · rw [F.out b fun z => nf b z hb]
    exact e0.frf b hb
  · by_cases z : InC cl b
    · obtain ⟨o, v, e1, g, p⟩ := F.at_ b z
      rw [e1] at e
      cases e
      refine ⟨g, p, ⟨o, g⟩, fun h1 h2 p1 st => ?_⟩
      obtain ⟨u', ⟨o', ho, hd⟩, hv⟩ := p1
      exact ⟨u', ⟨o', st o' ho, hd⟩, hv⟩
    · rw [F.out b z] at e
      have no : ∀ d y, H d = some y → ¬ InC cl d := fun d y q zd => by rw [F.non d zd] at q; cases q
      exact (e0.hok b u e).stay (fun _ _ _ y => y) (fun d q => by rw [F.out d (no d _ q)]; exact q) fun d xs q => by rw [F.out d (no d _ q)]; exact q
theorem ce_frz (F : FrzAt cl s.heap H Hf) (nf : ∀ c, InC cl c → c ∉ frs outer) (h : CE outer P w Hf s (fun v H' => Q v (thaw cl H')) u s') : CE outer P w H s Q u s' := by
  obtain ⟨v, H', os, bare, un, hok, r, q⟩ := h
  have kc : ∀ c, InC cl c → ∃ o v, H' c = some (.frz o (CelO c v)) ∧ s.heap.get? c = some o ∧ s'.heap.get? c = some o := fun c z => by
    obtain ⟨o, v, e, g, _⟩ := F.at_ c z
    have e2 := un.frzs c o _ e
    exact ⟨o, v, e2, g, (hok c _ e2).1⟩
  have no : ∀ d y, H d = some y → ¬ InC cl d := fun d y q zd => by rw [F.non d zd] at q; cases q
  refine ⟨v, thaw cl H', os, bare, ⟨fun b o e n hb hx => ?_, fun b o e n hb hx => ?_, fun b o e n hx => ?_, un.there, fun b xs e => ?_, fun b o x e => ?_, fun b ps e => ?_⟩, fun b x e => ?_, r, q⟩
  · by_cases z : InC cl b
    · obtain ⟨o', _, _, g, g'⟩ := kc b z
      rw [g] at e
      cases e
      exact g'
    · exact un.keep b o e (by rw [F.out b z]; exact n) hb hx
  · exact un.slot b o e (by rw [F.out b fun z => nf b z hb]; exact n) hb hx
  · by_cases z : InC cl b
    · exact thaw_in z
    · rw [thaw_out z]
      exact un.free b o e (by rw [F.out b z]; exact n) hx
  · have z := no b _ e
    rw [thaw_out z]
    exact un.tups b xs (by rw [F.out b z]; exact e)
  · have z := no b _ e
    rw [thaw_out z]
    exact un.frzs b o x (by rw [F.out b z]; exact e)
  · have z := no b _ e
    rw [thaw_out z]
    exact un.tbls b ps (by rw [F.out b z]; exact e)
  · by_cases z : InC cl b
    · rw [thaw_in z] at e
      cases e
    · rw [thaw_out z] at e
      have no2 : ∀ d y, H' d = some y → (∀ o v, y ≠ .frz o (CelO d v)) → ¬ InC cl d := fun d y q n zd => by
        obtain ⟨o, v, e2, _⟩ := kc d zd
        rw [e2] at q
        exact n o v (Option.some.inj q).symm
      exact (hok b x e).stay (fun _ _ _ y => y) (fun d q2 => by rw [thaw_out (no2 d _ q2 fun _ _ y => nomatch y)]; exact q2) fun d xs q2 => by rw [thaw_out (no2 d _ q2 fun _ _ y => nomatch y)]; exact q2
end
/-- what the frozen cells hold (some v), or may hold (none) -/
structure CelsH (cl : List (Str × Addr)) (fr : List Str) (ws : List (Option V)) (H : Hp) : Prop where
  len : ws.length = fr.length
  all : FrzC cl H
  inj : ∀ x y c, cl.lookup x = some c → cl.lookup y = some c → x = y
  has : ∀ (i : Nat) (y : Str), fr[i]? = some y → ∃ c, cl.lookup y = some c ∧ ∀ v, ws[i]? = some (some v) → ∃ o, H c = some (.frz o (CelO c (some v)))
theorem CelsH.stay {cl : List (Str × Addr)} {fr : List Str} {ws : List (Option V)} {H H' : Hp} (C : CelsH cl fr ws H) (k : ∀ b o u, H b = some (.frz o u) → H' b = some (.frz o u)) : CelsH cl fr ws H' :=
  ⟨C.len, fun c z => by obtain ⟨o, v, e⟩ := C.all c z; exact ⟨o, v, k _ _ _ e⟩, C.inj, fun i y e => by
    obtain ⟨c, h1, h2⟩ := C.has i y e
    refine ⟨c, h1, fun v hv => ?_⟩
    obtain ⟨o, q⟩ := h2 v hv
    exact ⟨o, k _ _ _ q⟩⟩
theorem CelsH.at_ {P : Program} {w : World} {cl : List (Str × Addr)} {fr : List Str} {ws : List (Option V)} {H : Hp} {h : Heap} (C : CelsH cl fr ws H) (hok : HOk P w H h) : CellsAt cl fr ws h (thaw cl H) := by
  refine ⟨C.len, fun y c e => ⟨thaw_in ⟨y, e⟩, ?_⟩, C.inj, fun i y e => ?_⟩
  · obtain ⟨o, v, q⟩ := C.all c ⟨y, e⟩
    obtain ⟨_, ⟨u', p, _⟩, _⟩ := hok c _ q
    exact ⟨u', p⟩
  · obtain ⟨c, h1, h2⟩ := C.has i y e
    refine ⟨c, h1, fun v hv => ?_⟩
    obtain ⟨o, q⟩ := h2 v hv
    obtain ⟨_, ⟨u', p, r⟩, _⟩ := hok c _ q
    obtain ⟨u, e2, r2⟩ := r v rfl
    rw [e2] at p
    exact ⟨u, r2, p⟩
/-- the cells, as they stand, can be frozen -/
theorem frz_is {cl : List (Str × Addr)} {fr : List Str} {ws : List (Option V)} {h : Heap} {H : Hp} (nd : fr.Nodup) (C : CellsAt cl fr ws h H) : ∃ Hf, FrzAt cl h H Hf ∧ CelsH cl fr ws Hf := by
  classical
  have ex : ∀ c, InC cl c → ∃ ov : Obj × Option V, h.get? c = some ov.1 ∧ (∃ u', h.IsCell c u' ∧ ∀ x, ov.2 = some x → ∃ u, u' = some u ∧ RelV x u) ∧ ∀ (i : Nat) (y : Str) (v : V), fr[i]? = some y → cl.lookup y = some c → ws[i]? = some (some v) → ov.2 = some v := fun c ⟨y, hy⟩ => by
    obtain ⟨_, v0, ⟨o, ho, hd⟩⟩ := C.all y c hy
    by_cases q : ∃ (i : Nat) (v : V), fr[i]? = some y ∧ ws[i]? = some (some v)
    · obtain ⟨i, v, q1, q2⟩ := q
      obtain ⟨c', h1, h2⟩ := C.has i y q1
      rw [hy] at h1
      cases h1
      obtain ⟨u, r, p⟩ := h2 v q2
      refine ⟨(o, some v), ho, ⟨some u, p, fun x e => by cases e; exact ⟨u, rfl, r⟩⟩, fun j z v' e1 e2 e3 => ?_⟩
      have ez : z = y := C.inj z y c e2 hy
      subst ez
      have hi := (List.getElem?_eq_some_iff.mp q1).1
      have : i = j := (List.getElem?_inj hi nd).mp (q1.trans e1.symm)
      subst this
      rw [q2] at e3
      exact Option.some.inj e3
    · refine ⟨(o, none), ho, ⟨v0, ⟨o, ho, hd⟩, fun x e => nomatch e⟩, fun j z v' e1 e2 e3 => ?_⟩
      have ez : z = y := C.inj z y c e2 hy
      subst ez
      exact absurd ⟨j, v', e1, e3⟩ q
  let g : Addr → Option HO := fun c => if z : InC cl c then some (.frz (Classical.choose (ex c z)).1 (CelO c (Classical.choose (ex c z)).2)) else H c
  have gi : ∀ c (z : InC cl c), g c = some (.frz (Classical.choose (ex c z)).1 (CelO c (Classical.choose (ex c z)).2)) := fun c z => dif_pos z
  refine ⟨g, ⟨fun c z => ?_, fun b z => dif_neg z, fun c z => ?_⟩, C.len, fun c z => ⟨_, _, gi c z⟩, C.inj, fun i y e => ?_⟩
  · obtain ⟨y, hy⟩ := z
    exact (C.all y c hy).1
  · obtain ⟨h1, h2, _⟩ := Classical.choose_spec (ex c z)
    exact ⟨_, _, gi c z, h1, h2⟩
  · obtain ⟨c, h1, _⟩ := C.has i y e
    refine ⟨c, h1, fun v hv => ?_⟩
    obtain ⟨_, _, h3⟩ := Classical.choose_spec (ex c ⟨y, h1⟩)
    exact ⟨(Classical.choose (ex c ⟨y, h1⟩)).1, by rw [gi c ⟨y, h1⟩, h3 i y v e h1 hv]⟩
end KaG
set_option maxRecDepth 100000
set_option maxHeartbeats 2000000
namespace KaG
open PySem PySem.Spec PyProof.Rows L2 LamX NdefX
section
variable {X : Cx} {pins : List (Addr × Obj)} {σ : L2.St} {H : Hp} {s s' : Shared}
theorem CE.imp {outer : List Env} {P : Program} {w : World} {Q Q' : VK} {u : Value} (h : CE outer P w H s Q u s') (k : ∀ v H', Q v H' → Q' v H') : CE outer P w H s Q' u s' := by
  obtain ⟨v, H', a, b, c, d, e, q⟩ := h
  exact ⟨v, H', a, b, c, d, e, k v H' q⟩
/-- x(..), x a name that holds a function whose cells are frozen -/
def tCallF (F : NF) (f : Addr) (fr : List Str) (i : Nat) (sp : List (Option V) → Sp) (ws : List (Option V)) (t : TA) : TE := fun σ H Q => σ[i]? = some (some (.ref f)) ∧ H f = some (FnO f F) ∧
  t σ H fun vs H1 => H1 f = some (FnO f F) ∧ H1 F.c = some (CodeO F.c F.qual) ∧ CelsH F.cl fr ws H1 ∧ sp ws vs (thaw F.cl H1) (fun v H' => Q v (backH F.cl H1 H')) E0
theorem pe_callF {F : NF} {f : Addr} {ps fr : List Str} {i j k : Nat} {x : Str} {sp : List (Option V) → Sp} {ws : List (Option V)} {t : TA} {e : Expr} {es : List Expr} {p pos : Pos} (Fn : NOk X.prog X.w X.K X.mg X.base CX0 k f F ps fr sp) (hr : Room j X.A) (hk : k ≤ j) (hN : X.N[i]? = some x) (hv : Vis X.env.scope x) (ha : PA X (e :: es) t)
    (hd : (x == ("__debug__" : Str)) = false := by decide) (hcd : (x == ("__classdict__" : Str)) = false := by decide)
    (he : starEach (e :: es) X.env = (false, eval e X.env) :: starEach es X.env := by rfl) (hpl : (backTo pos (starEach es X.env)).any (·.1) = false := by rfl) :
    PE X (.Call (.Name x p) (e :: es) [] pos) (tCallF F f fr i sp ws t) := by
  refine ⟨fun pins s σ H Q I h => ?_⟩
  obtain ⟨hs, hf, ht⟩ := h
  refine wpAny_Call_Name_kw (thn ((pe_var (pos := p) hN hv hd hcd).run pins s σ H (fun v H1 => v = .ref f ∧ H1 = H) I ⟨.ref f, hs, rfl, rfl⟩) fun u s1 ⟨v, H1, I1, r1, q1⟩ => ?_)
  obtain ⟨ev, eH⟩ := q1
  subst ev
  rw [eH] at I1
  obtain rfl : u = Value.ref f := r1
  refine PySem.W.callWith_F (first := []) (fnAt_of I1 hf) (thn (ha.run pos pins s1 σ H _ I1 ht) fun us s2 ⟨vs, H2, I2, r, h1, h2, C, q⟩ => ⟨fnAt_of I2 h1, ?_⟩) he hpl
  show wpAny _ _ (call (.ref f) us) _ _ _
  have e0 := I2.env0
  have nin : ∀ b o, H2 b = some o → (∀ ob v, o ≠ .frz ob (CelO b v)) → thaw F.cl H2 b = some o := fun b o e n => by
    rw [thaw_out (C.all.out e n)]
    exact e
  refine wpAny_call (codeAny_mono (Fn.run X.A X.stack s2 (thaw F.cl H2) us vs ws _ E0 (hr.mono hk) (env0_thaw C.all e0) (nin _ _ h1 fun _ _ y => by unfold FnO at y; cases y) (nin _ _ h2 fun _ _ y => by unfold CodeO at y; cases y) (C.at_ I2.hok) r q) fun r' s' hq => ?_)
  cases r' with
  | error e => exact (show False from hq).elim
  | ok fl =>
    cases fl with
    | ret u => exact I2.after (ce_thaw C.all e0 hq)
    | next => exact False.elim hq
    | brk => exact False.elim hq
    | cont => exact False.elim hq
/-- g(.., x, ..), g a def of the top that is handed a nested function: the cells of F are frozen for the call -/
def tCallZ (mk : Addr → NF) (fr : List Str) (js : List Nat) (sp : Sp) (t : TA) : TE := fun σ H Q => t σ H fun vs H1 => ∃ (f c' : Addr), H1 f = some (FnO f (mk c')) ∧ H1 c' = some (CodeO c' (mk c').qual) ∧
  ∀ Hf : Hp, CelsH (mk c').cl fr (js.map (slotAt σ)) Hf → (∀ b o, H1 b = some o → Hf b = some o) → (∀ c, InC (mk c').cl c → H1 c = none) → (∀ b, ¬ InC (mk c').cl b → Hf b = H1 b) → sp vs Hf (fun v H' => Q v (thaw (mk c').cl H')) E0
theorem pe_callZ {mk : Addr → NF} {cl : List (Str × Addr)} {ps fr : List Str} {js : List Nat} {k : Nat} {x : Str} {g : Addr} {fd : FuncData} {sp : Sp} {t : TA} {e : Expr} {es : List Expr} {p pos : Pos} (Fg : FnOk X.prog X.w X.K X.mg X.base CX0 k g fd ps sp) (hcl : ∀ c', (mk c').cl = cl) (nd : fr.Nodup)
    (hfn : ∀ x c, X.env.cells.lookup x = some c → X.fn x = true) (cp : X.Ok → Caps X cl fr js) (hr : Room k X.A) (hg : Gl X x) (hm : X.mg x = some (.ref g)) (hk : PySem.W.keepIn X.K (.ref g) = true) (hb : Binds X.K fd ps []) (ha : PA X (e :: es) t)
    (hdb : (x == ("__debug__" : Str)) = false := by decide) (he : starEach (e :: es) X.env = (false, eval e X.env) :: starEach es X.env := by rfl) (hpl : (backTo pos (starEach es X.env)).any (·.1) = false := by rfl) :
    PE X (.Call (.Name x p) (e :: es) [] pos) (tCallZ mk fr js sp t) := by
  refine ⟨fun pins s σ H Q I h => ?_⟩
  refine wpAny_Call_Name_kw (ld_glob I hg hm ?_ hdb)
  refine PySem.W.callWith_K (h₀ := X.base) I.ok.mod.kin hk (thn (ha.run pos pins s σ H _ I h) fun us s1 ⟨vs, H1, I1, r, f, c', h1, h2, q⟩ => ⟨I1.kIn, ?_⟩) he hpl
  have CA := cells_of I1 (cp I1.ok)
  rw [← hcl c'] at CA
  obtain ⟨Hf, FA, CH⟩ := frz_is nd CA
  have cin : ∀ c, InC (mk c').cl c → ∃ y, X.env.cells.lookup y = some c := fun c ⟨y, hy⟩ => ⟨y, (cp I1.ok).sub y c (by rw [← hcl c']; exact hy)⟩
  have big : ∀ c, InC (mk c').cl c → X.s_0.heap.objs.size ≤ c := fun c z => by
    obtain ⟨y, hy⟩ := cin c z
    exact I1.ok.cab y c (hfn y c hy) hy
  have nb : ∀ c, InC (mk c').cl c → X.base.get? c = none := fun c z => by
    cases e2 : X.base.get? c with
    | none => rfl
    | some o =>
      have h3 := (I1.ok.bs c o e2).1
      exact absurd (Nat.lt_of_lt_of_le (Heap.lt_size h3) (big c z)) (Nat.lt_irrefl _)
  have nf : ∀ c, InC (mk c').cl c → c ∉ frs X.stack := fun c z hm2 => by
    rcases List.mem_cons.mp (I1.stkSub c hm2) with e2 | e2
    · obtain ⟨y, hy⟩ := cin c z
      obtain ⟨v, o, ho, hd⟩ := I1.cell y c hy
      obtain ⟨m, ⟨o2, es2, ep2, h4, h5, _⟩, _⟩ := I1.loc
      rw [← e2, ho] at h4
      cases h4
      rw [hd] at h5
      cases h5
    · obtain ⟨o, h3⟩ : ∃ o, X.s_0.heap.get? c = some o := by
        have := (I1.ok.funs.mem e2).2
        first
          | exact ⟨_, this⟩
          | exact this
          | (obtain ⟨o, h3, _⟩ := this; exact ⟨o, h3⟩)
      exact absurd (Nat.lt_of_lt_of_le (Heap.lt_size h3) (big c z)) (Nat.lt_irrefl _)
  have q := q Hf CH (fun b o e2 => by rw [FA.out b fun z => by rw [FA.non b z] at e2; cases e2]; exact e2) FA.non FA.out
  have hl : us.length = ps.length := r.length.symm.trans (Fg.len _ _ _ _ q)
  have bd := hb s1 us I1.kIn (by rw [List.append_nil]; exact hl)
  rw [List.append_nil] at bd
  show wpAny _ _ (call (.ref g) us) _ _ _
  refine wpAny_call (codeAny_mono (Fg.run X.A X.stack s1 Hf ⟨us, []⟩ us vs _ E0 hr (env0_frz FA nb nf I1.env0) bd r q) fun r' s' hq => ?_)
  cases r' with
  | error e => exact (show False from hq).elim
  | ok fl =>
    cases fl with
    | ret u => exact I1.after (ce_frz FA nf hq)
    | next => exact False.elim hq
    | brk => exact False.elim hq
    | cont => exact False.elim hq
end
end KaG
set_option maxRecDepth 100000
set_option maxHeartbeats 4000000
namespace KaG
open PySem PySem.Spec PyProof.Rows L2 KaC LamX NdefX
section
variable {P : Program} {w : World} {K : PySem.W.Frag} {mg : Str → Option Value} {base : Heap}
abbrev sGrown : Stmt := top 8
abbrev nmGw : List Str := ["names", "joins", "found", "grown", "name"]
theorem scGw : FnScope nmGw ["names", "joins"] (defScope sGrown) := ⟨rfl, rfl, rfl, by decide +kernel, rfl, by decide +kernel, by decide +kernel⟩
/-- what the function that is handed on tells: whether a name joins those found -/
def spGrown (P : Program) (w : World) (K : PySem.W.Frag) (mg : Str → Option Value) (base : Heap) (kJ : Nat) : Sp := fun vs H Q _ => ∃ (na f : Addr) (Fj : NF) (fr : List Str) (sp : List (Option V) → Sp) (ws : List (Option V)) (names : List Str) (J : Jn), vs = [.ref na, .ref f] ∧ H na = some (.lst (names.map V.str)) ∧
  H f = some (FnO f Fj) ∧ H Fj.c = some (CodeO Fj.c Fj.qual) ∧ CelsH Fj.cl fr ws H ∧ NOk P w K mg base CX0 kJ f Fj ["name", "found"] fr sp ∧ names.length ≤ 5 ∧ Mono J ∧
  (∀ (n : Str) (fa : Addr) (B : List Str) (H1 : Hp) (Q1 : VK), n ∈ names → Same H H1 → H1 fa = some (.lst (B.map V.str)) → (∀ H2, Same (thaw Fj.cl H1) H2 → Q1 (.bl (J n B)) H2) → sp ws [.str n, .ref fa] (thaw Fj.cl H1) Q1 E0) ∧
  ∀ (p : Addr) (B : List Str) (H' : Hp), Same H H' → H' p = some (.lst (B.map V.str)) → IsL names J B → Q (.ref p) H'
theorem back_same {cl : List (Str × Addr)} {H H' : Hp} (S : Same (thaw cl H) H') : Same H (backH cl H H') := fun b o e => by
  by_cases z : InC cl b
  · rw [back_in z]
    exact e
  · rw [back_out z]
    exact S b o (by rw [thaw_out z]; exact e)
theorem ok_grown {kJ : Nat} {f : Addr} {fd : FuncData} (F : Fun K "_grown" "_grown" sGrown f fd) (T : TxtC mg) : FnOk P w K mg base CX0 (kJ + 1) f fd ["names", "joins"] (spGrown P w K mg base kJ) := by
  refine F.ok scGw (fun vs H Q E h => ?_) (fun cdv A outer s H vs Q E hr h => ?_)
  · obtain ⟨na, f, Fj, fr, sp, ws, names, J, rfl, _⟩ := h
    rfl
  · obtain ⟨na, fj, Fj, fr, sp, ws, names, J, rfl, eN, eF, eC, CH, NJ, n5, mo, call, k⟩ := h
    refine ⟨_, (pss_cons (ps_set (i := 2) scGw.nd rfl (Or.inr rfl) (pe_lst pa_nil))
      (pss_one (ps_while PassesOwn.never (pt_val pe_bl)
        (pss_cons (ps_setLc (i := 3) (own := [("name", 4)]) (g := gName 4) (by rfl) scGw.nd rfl rfl (sw_true rfl rfl rfl (by decide +kernel)) (pi_list (pv 0))
            (blkOk_by (own := [("name", 4)]) (N := nmGw) (sc := defScope sGrown) (by decide +kernel)) (fun _ _ _ _ _ => pg_name (i := 4) scGw.nd rfl (Or.inl rfl))
            (fun _ _ _ _ _ => pts_one (PW.pt (pw_or (pt_cmpR (r := rIn K false) op_in_seq (pv 4) (pv 2) rfl) (pw_or1 (pt_val (pe_callF (i := 1) (ws := ws) NJ hr (Nat.le_refl _) (by rfl) (by first | exact Or.inl rfl | exact Or.inr (Or.inl rfl) | exact Or.inr (Or.inr rfl)) (pa_cons (pv 4) (pa_cons (pv 2) pa_nil))))))))
            (fun _ _ _ _ _ => pv 4))
        (pss_cons (ps_if (pt_cmpR op_eq (pe_callB call_len_seq (by rfl) T.b.len PySem.boot_len (pa_cons (pv 3) pa_nil)) (pe_callB call_len_seq (by rfl) T.b.len PySem.boot_len (pa_cons (pv 2) pa_nil)) (nomark _)) (pss_one (ps_ret (pv 3))) pss_nil)
        (pss_one (ps_set (i := 2) scGw.nd rfl (Or.inr rfl) (pv 3)))))))), ?_⟩
    refine ⟨Nat.zero_le _, fun p0 np0 => ?_⟩
    let W : Nat → L2.St → Hp → Prop := fun m σ' G => ∃ (q : Addr) (B : List Str) (x3 x4 : Option V), σ' = [some (.ref na), some (.ref fj), some (.ref q), x3, x4] ∧ Same H G ∧ G q = some (.lst (B.map V.str)) ∧ Grw names J B ∧ m = names.length - B.length
    refine ⟨W, ⟨_, p0, [], _, _, rfl, same_upd np0, upd_same, Grw.nil, rfl⟩, ?_⟩
    rintro m σ' G ⟨q, B, x3, x4, rfl, S, eq, hG, rfl⟩
    have eNG := S _ _ eN
    refine ⟨true, rfl, ?_⟩
    refine iteT ⟨fun σ' H' => ∃ m', m' < names.length - B.length ∧ W m' σ' H', fun _ _ h => h, ?_⟩
    have hB5 : B.length ≤ names.length := by
      have := hG.fl
      rw [this]
      exact List.length_filter_le ..
    refine ⟨_, rfl, na, rfl, ⟨_, SqL.of eNG⟩, fun D hD => lc_list (K := K) (a := na) (xs := names.map V.str) (fun i J' => Same G J' ∧ J' D = some (.lst (((names.take i).filter fun n => decide (n ∈ B) || J n B).map V.str))) ?_ ?_ ?_ ?_⟩
    · exact ⟨same_upd hD, upd_same⟩
    · rintro i J' _ ⟨S2, _⟩
      exact SqL.of (S2 _ _ eNG)
    · rintro i x J' hx ⟨S2, jD⟩
      rw [List.getElem?_map] at hx
      obtain ⟨n, hn, rfl⟩ := Option.map_eq_some_iff.mp hx
      have mn : n ∈ names := List.mem_of_getElem? hn
      have SH := KaG.Same.tr S S2
      have tk : names.take (i + 1) = names.take i ++ [n] := by rw [List.take_add_one, hn]; rfl
      have fin : ∀ (c : Bool) (J2 : Hp), (decide (n ∈ B) || J n B) = c → Same J' J2 → (if c = true then tVar 4 [some (.ref na), some (.ref fj), some (.ref q), x3, some (.str n)] J2 fun y H4 => ∃ acc, H4 D = some (.lst acc) ∧ acc.length < sizeLine ∧ (Same G (upd H4 D (.lst (acc ++ [y]))) ∧ upd H4 D (.lst (acc ++ [y])) D = some (.lst (((names.take (i + 1)).filter fun n => decide (n ∈ B) || J n B).map V.str)))
          else (Same G J2 ∧ J2 D = some (.lst (((names.take (i + 1)).filter fun n => decide (n ∈ B) || J n B).map V.str)))) := fun c J2 hc S3 => by
        have j2D := S3 _ _ jD
        have S23 := KaG.Same.tr S2 S3
        cases c with
        | true =>
          rw [if_pos rfl]
          refine ⟨_, rfl, _, j2D, small1000 ?_, fun b u e => by rw [upd_ne (ne_of_none e hD)]; exact S23 b u e, ?_⟩
          · have h1 := List.length_filter_le (fun n => decide (n ∈ B) || J n B) (names.take i)
            rw [List.length_take] at h1
            rw [List.length_map]
            omega
          · rw [upd_same, tk, List.filter_append, List.map_append, List.filter_cons_of_pos (by simpa using hc)]
            rfl
        | false =>
          rw [if_neg (by decide)]
          refine ⟨S23, ?_⟩
          rw [j2D, tk, List.filter_append, List.filter_cons_of_neg (by rw [hc]; decide), List.filter_nil, List.append_nil]
      refine ⟨rfl, ?_⟩
      refine ⟨_, rfl, _, rfl, q, B.map V.str, rfl, .inl (SqL.of (S2 _ _ eq)), rfl, flat_strs, _, rfl, ?_⟩
      rw [show (if false = true then !inV (V.str n) (List.map V.str B) else inV (V.str n) (List.map V.str B)) = decide (n ∈ B) from inV_str]
      by_cases hm : n ∈ B
      · rw [decide_eq_true hm]
        exact iteT (fin true J' (by rw [decide_eq_true hm]; rfl) Same.refl')
      · rw [decide_eq_false hm]
        refine iteF ⟨rfl, SH _ _ eF, _, rfl, _, rfl, SH _ _ eF, SH _ _ eC, CH.stay fun b o u e => SH _ _ e, ?_⟩
        refine call n q B J' _ mn SH (S2 _ _ eq) fun H2 S3 => ⟨_, rfl, ?_⟩
        exact fin (J n B) _ (by rw [decide_eq_false hm, Bool.false_or]) (back_same S3)
    · rintro J' ⟨S2, jD⟩
      rw [List.length_map, List.take_length] at jD
      have SH := KaG.Same.tr S S2
      have jD : J' D = some (.lst ((grow1 names J B).map V.str)) := jD
      have gl := grow1_le (names := names) (J := J) (B := B)
      have st := hG.step
      have nx := hG.next mo
      refine ⟨_, rfl, D, _, rfl, .inl (SqL.of jD), _, rfl, q, _, rfl, .inl (SqL.of (S2 _ _ eq)), rfl, _, rfl, ite2 (fun hc => ?_) fun hc => ?_⟩
      · rw [List.length_map, List.length_map] at hc
        obtain ⟨e1, cl⟩ := st.2 (Int.ofNat.inj (by simpa using hc))
        refine ⟨_, rfl, k D B J' SH (by rw [jD, e1]) (hG.done cl)⟩
      · rw [List.length_map, List.length_map] at hc
        have ne : (grow1 names J B).length ≠ B.length := fun z => hc (by simp [z])
        refine ⟨_, rfl, names.length - (grow1 names J B).length, by omega, D, grow1 names J B, _, _, rfl, SH, jD, nx, rfl⟩
end
end KaG
set_option maxRecDepth 100000
set_option maxHeartbeats 2000000
namespace PySem
section
variable {M : Model} {A : Around} {E : Value → Shared → Prop} {s₀ s : Shared} {m cm : Str → Option Value} {env : Env} {own : List (Str × Addr)}
theorem ka_stL {n : Str} {v : Value} {Q : Unit → Shared → Prop} (x : InCallC s₀ env.locals m own cm s) (hk : env.scope.kind = .function) (hl : env.kindOf n = some .local)
    (h : ∀ s', InCallC s₀ env.locals (fun y => if y = n then some v else m y) own cm s' → Q () s') : wpAny M A (storeName env n v) Q E s := by
  refine wpAny_storeName_local hl x.toInCall.ns (fun h' hn' hs' => h _ ⟨⟨?_, hn', fun b o e => ?_, x.toInCall.fresh⟩, fun k c hc => ?_, x.apart, x.above⟩) (by rw [hk]; rfl)
  · obtain ⟨h₁, tk, rfl⟩ := x.toInCall.same
    exact ⟨h', _, rfl⟩
  · exact hs'.extBut b o (Nat.ne_of_lt (Nat.lt_of_lt_of_le (Heap.lt_size e) x.toInCall.fresh)) (x.toInCall.keep b o e)
  · exact (x.cell k c hc).sameBut hs' (Nat.ne_of_gt (x.above k c (mem_of_lookup hc)))
theorem ka_stC {n : Str} {c : Addr} {v : Value} {Q : Unit → Shared → Prop} (x : InCallC s₀ env.locals m own cm s) (hk : env.scope.kind = .function) (hl : env.kindOf n = some .cell)
    (hc : own.lookup n = some c) (hce : env.cells.lookup n = some c)
    (h : ∀ s', InCallC s₀ env.locals m own (fun y => if y = n then some v else cm y) s' → Q () s') : wpAny M A (storeName env n v) Q E s := by
  have hLc := x.above n c (mem_of_lookup hc)
  refine wpAny_storeName_cell hk hl hce (x.cell n c hc) fun h' hc' hs' => h _ ⟨⟨?_, x.toInCall.ns.sameBut hs' (Nat.ne_of_lt hLc), fun b o e => ?_, x.toInCall.fresh⟩, fun k c' hk' => ?_, x.apart, x.above⟩
  · obtain ⟨h₁, tk, rfl⟩ := x.toInCall.same
    exact ⟨h', _, rfl⟩
  · exact hs'.extBut b o (Nat.ne_of_lt (Nat.lt_trans (Nat.lt_of_lt_of_le (Heap.lt_size e) x.toInCall.fresh) hLc)) (x.toInCall.keep b o e)
  · by_cases hkn : k = n
    · subst hkn
      rw [hc] at hk'; cases hk'
      simpa using hc'
    · rw [if_neg hkn]
      exact (x.cell k c' hk').sameBut hs' fun e => hkn (name_of_addr x.apart (mem_of_lookup hk') (e ▸ mem_of_lookup hc))
theorem ka_bind (hown : ∀ n c, own.lookup n = some c → env.cells.lookup n = some c) (f : Str × Value → PUnit → Sem (ForInStep PUnit)) (hf : ∀ n v u, f (n, v) u = (do storeName env n v; pure (.yield ⟨⟩))) (hk : env.scope.kind = .function) :
    ∀ (binds : List (Str × Value)) (m cm : Str → Option Value) (s : Shared) (Q : PUnit → Shared → Prop), InCallC s₀ env.locals m own cm s →
      (∀ x ∈ binds, env.kindOf x.1 = some .local ∨ (env.kindOf x.1 = some .cell ∧ (own.lookup x.1).isSome = true)) →
      (∀ s', InCallC s₀ env.locals (bindL env.kindOf binds m) own (bindC env.kindOf binds cm) s' → Q ⟨⟩ s') → wpAny M A (forIn binds ⟨⟩ f) Q E s
  | [], m, cm, s, Q, x, _, h => by rw [List.forIn_nil]; exact wpAny_pure (h s x)
  | (n, v) :: r, m, cm, s, Q, x, hkind, h => by
    rw [List.forIn_cons, hf]
    have hr : ∀ y ∈ r, env.kindOf y.1 = some .local ∨ (env.kindOf y.1 = some .cell ∧ (own.lookup y.1).isSome = true) := fun y hy => hkind y (List.mem_cons_of_mem _ hy)
    rcases hkind (n, v) List.mem_cons_self with hl | ⟨hl, hc⟩
    · refine wpAny_bind (wpAny_bind (ka_stL x hk hl fun s' x' => wpAny_pure (ka_bind hown f hf hk r _ _ s' Q x' hr fun s'' x'' => h s'' ?_)))
      unfold bindL bindC; rw [if_pos hl, if_pos hl]; exact x''
    · obtain ⟨c, hc⟩ := Option.isSome_iff_exists.mp hc
      have hnl : ¬ env.kindOf n = some .local := by rw [hl]; decide
      refine wpAny_bind (wpAny_bind (ka_stC x hk hl hc (hown n c hc) fun s' x' => wpAny_pure (ka_bind hown f hf hk r _ _ s' Q x' hr fun s'' x'' => h s'' ?_)))
      unfold bindL bindC; rw [if_neg hnl, if_neg hnl]; exact x''
end
theorem cellsFrom_app : ∀ (names : List (Str × NameKind)) (n : Nat) (acc : List (Str × Addr)), cellsFrom n names acc = cellsFrom n names [] ++ acc
  | [], _, _ => rfl
  | (name, kind) :: r, n, acc => by
    unfold cellsFrom
    split
    · rw [cellsFrom_app r (n + 1) ((name, n) :: acc), cellsFrom_app r (n + 1) [(name, n)], List.append_assoc]
      rfl
    · exact cellsFrom_app r n acc
theorem cellsFrom_of : ∀ (names : List (Str × NameKind)) (n : Nat) {x : Str} {c : Addr}, (x, c) ∈ cellsFrom n names [] → (x, NameKind.cell) ∈ names
  | [], _, _, _, h => nomatch h
  | (name, kind) :: r, n, x, c, h => by
    unfold cellsFrom at h
    split at h
    · rename_i hk
      rw [cellsFrom_app] at h
      rcases List.mem_append.mp h with h | h
      · exact List.mem_cons_of_mem _ (cellsFrom_of r _ h)
      · have e := List.mem_singleton.mp h
        cases e
        have : kind = .cell := by simpa using hk
        rw [this]
        exact List.mem_cons_self
    · exact List.mem_cons_of_mem _ (cellsFrom_of r _ h)
section
variable {M : Model} {A : Around} {E : Value → Shared → Prop} {s : Shared}
theorem ka_newEnv {scope : Scope} {globals : Addr} {cl : List (Str × Addr)} {binds : List (Str × Value)} {qual : Str} {func : Option Addr} {code : Value} {builtins : Addr} {Q : Env → Shared → Prop}
    (hk : scope.kind = .function)
    (hkind : ∀ x ∈ binds, scope.names.lookup x.1 = some .local ∨ (scope.names.lookup x.1 = some .cell ∧ ((cellsFrom (s.heap.objs.size + 1) scope.names []).lookup x.1).isSome = true))
    (hQ : ∀ env, env = newEnv scope s.heap.objs.size globals (cellsFrom (s.heap.objs.size + 1) scope.names cl) qual func code none builtins →
      ∀ s', InCallC s env.locals (bindL env.kindOf binds fun _ => none) (cellsFrom (s.heap.objs.size + 1) scope.names []) (bindC env.kindOf binds fun _ => none) s' → Q env s') :
    wpAny M A (newFunctionEnv scope globals cl binds qual func code none builtins) Q E s := by
  simp only [newFunctionEnv, Option.isSome_none, Bool.false_eq_true, if_false]
  refine wpAny_bind (wpAny_alloc ?_)
  refine wpAny_bind (wpAny_layCells _ (fun name kind cells => by cases hkc : kind == NameKind.cell <;> simp [hkc]) _ _ _ _ ?_)
  have ok := cellsFrom_ok scope.names (s.heap.push { cls := .type "frame", data := .dict #[] }) (s.heap.objs.size + 1) [] ⟨fun _ _ hm => (nomatch hm), List.Pairwise.nil⟩ (by rw [Heap.size_push]; exact Nat.le_refl _)
  rw [Heap.size_push] at ok
  rw [show ({ s with heap := s.heap.push { cls := .type "frame", data := .dict #[] } } : Shared).heap.objs.size = s.heap.objs.size + 1 from Heap.size_push ..]
  refine wpAny_bind (ka_bind (s₀ := s) (env := newEnv scope s.heap.objs.size globals (cellsFrom (s.heap.objs.size + 1) scope.names cl) qual func code none builtins) (own := cellsFrom (s.heap.objs.size + 1) scope.names [])
    (fun n c e => by
      show (cellsFrom (s.heap.objs.size + 1) scope.names cl).lookup n = some c
      rw [cellsFrom_app, List.lookup_append, e]
      rfl)
    _ (fun _ _ _ => rfl) hk binds (fun _ => none) (fun _ => none) _ _
    ⟨⟨⟨_, _, rfl⟩, (Heap.Ns.new s.heap (.type "frame")).keeps (pushCells_keeps _ _), fun b o e => pushCells_keeps _ _ b o (Heap.get?_push_of_some _ e), Nat.le_refl _⟩,
      fun n c hc => (ok.empty n c (mem_of_lookup hc)).1, ok.apart, fun n c hm => (ok.empty n c hm).2⟩
    hkind fun s' x => wpAny_pure (hQ _ rfl s' x))
end
end PySem
namespace KaG
open PySem PySem.Spec PyProof.Rows L2 LamX NdefX
structure NScopeC (N ps fr : List Str) (sc : Scope) : Prop where
  kind : sc.kind = .function
  co : sc.isCoroutine = false
  gen : sc.isGenerator = false
  nd : N.Nodup
  pre : N.take (ps.length + fr.length) = ps ++ fr
  par : ∀ x ∈ ps, sc.names.lookup x = some .local ∨ sc.names.lookup x = some .cell
  free : ∀ y ∈ sc.names, y.2 = .free → y.1 ∈ fr
  frk : ∀ x ∈ fr, sc.names.lookup x = some .free
  cel : ∀ y ∈ sc.names, y.2 = .cell → sc.names.lookup y.1 = some .cell
def nscC (N ps fr : List Str) (sc : Scope) : Bool :=
  decide (sc.kind = .function) && !sc.isCoroutine && !sc.isGenerator && decide N.Nodup && decide (N.take (ps.length + fr.length) = ps ++ fr) && ps.all (fun x => decide (sc.names.lookup x = some .local) || decide (sc.names.lookup x = some .cell)) &&
    sc.names.all (fun y => !decide (y.2 = .free) || decide (y.1 ∈ fr)) && fr.all (fun x => decide (sc.names.lookup x = some .free)) && sc.names.all (fun y => !decide (y.2 = .cell) || decide (sc.names.lookup y.1 = some .cell))
theorem nscopeC_by {N ps fr : List Str} {sc : Scope} (h : nscC N ps fr sc = true) : NScopeC N ps fr sc := by
  unfold nscC at h
  simp only [Bool.and_eq_true, Bool.not_eq_true', decide_eq_true_eq, List.all_eq_true, Bool.or_eq_true, decide_eq_false_iff_not] at h
  obtain ⟨⟨⟨⟨⟨⟨⟨⟨h1, h2⟩, h3⟩, h4⟩, h5⟩, h6⟩, h7⟩, h8⟩, h9⟩ := h
  exact ⟨h1, h2, h3, h4, h5, h6, fun y hy e => (h7 y hy).elim (fun z => absurd e z) id, h8, fun y hy e => (h9 y hy).elim (fun z => absurd e z) id⟩
abbrev cellsC (F : NF) (L : Addr) : List (Str × Addr) := cellsFrom (L + 1) F.scope.names F.cl
abbrev envC (F : NF) (f L : Addr) : Env := PySem.W.envX F.qual F.scope L f (.ref F.c) (cellsC F L)
/-- the context of its body, at its entry -/
def ncxC (CX : CXT) (P : Program) (w : World) (K : PySem.W.Frag) (mg : Str → Option Value) (base : Heap) (N : List Str) (F : NF) (f : Addr) (A : Around) (outer : List Env) (s : Shared) (H : Hp) (E : XK) : Cx where
  prog := P
  w := w
  K := K
  mg := mg
  base := base
  A := A.deeper (envC F f s.heap.objs.size)
  N := N
  s_0 := s
  H_0 := H
  env := envC F f s.heap.objs.size
  outer := outer
  stack := envC F f s.heap.objs.size :: outer
  ex := []
  calm := true
  fn := fun x => F.scope.names.lookup x == some .cell
  pn := []
  xe := fun e s' => wpAny (model P w) (A.deeper (envC F f s.heap.objs.size)) (leaving (envC F f s.heap.objs.size) e) (fun _ s'' => CX outer H s E e s'') (fun e' s'' => CX outer H s E e' s'') s'
section
variable {CX : CXT} {P : Program} {w : World} {K : PySem.W.Frag} {mg : Str → Option Value} {base : Heap} {N ps fr : List Str} {F : NF} {f : Addr} {A : Around} {outer : List Env} {s s1 : Shared} {H : Hp} {E : XK} {us : List Value} {vs : List V} {ws : List (Option V)}
theorem inv_startC (S : NScopeC N ps fr F.scope) (hd : A.handled = none) (e0 : Env0 P w K mg base A outer s H) (hl : vs.length = ps.length) (r : Vals vs us) (C : CellsAt F.cl fr ws s.heap H)
    (x : InCallC s s.heap.objs.size (bindL (envC F f s.heap.objs.size).kindOf (ps.zip us) fun _ => none) (cellsFrom (s.heap.objs.size + 1) F.scope.names []) (bindC (envC F f s.heap.objs.size).kindOf (ps.zip us) fun _ => none) s1) :
    Inv (ncxC CX P w K mg base N F f A outer s H E) [] (startF N vs ws) H s1 := by
  have hpl : ps.length + fr.length ≤ N.length := by
    have q := congrArg List.length S.pre
    rw [List.length_take, List.length_append] at q
    omega
  obtain ⟨h1, tk, rfl, hk⟩ := x.done
  have noA : ∀ b : Addr, b ∉ (ncxC CX P w K mg base N F f A outer s H E).ex := fun b z => absurd (show b ∈ ([] : List Addr) from z) (by simp)
  have look : ∀ y, (cellsC F s.heap.objs.size).lookup y = ((cellsFrom (s.heap.objs.size + 1) F.scope.names []).lookup y).or (F.cl.lookup y) := fun y => by
    unfold cellsC
    rw [cellsFrom_app, List.lookup_append]
  have clt : ∀ y c, F.cl.lookup y = some c → c < s.heap.objs.size := fun y c e => by
    obtain ⟨_, v, o, ho, _⟩ := C.all y c e
    exact Heap.lt_size ho
  have two : ∀ y c, (cellsC F s.heap.objs.size).lookup y = some c → (cellsFrom (s.heap.objs.size + 1) F.scope.names []).lookup y = some c ∨ F.cl.lookup y = some c := fun y c e => by
    rw [look] at e
    cases q : (cellsFrom (s.heap.objs.size + 1) F.scope.names []).lookup y with
    | some d => rw [q] at e; exact .inl e
    | none => rw [q] at e; exact .inr e
  have ownN : ∀ y, F.scope.names.lookup y = some .free → (cellsFrom (s.heap.objs.size + 1) F.scope.names []).lookup y = none := fun y e => by
    cases q : (cellsFrom (s.heap.objs.size + 1) F.scope.names []).lookup y with
    | none => rfl
    | some d =>
      have := S.cel _ (cellsFrom_of _ _ (PySem.mem_of_lookup q)) rfl
      rw [e] at this
      cases this
  have cellK : ∀ {c : Addr} {v : Option Value}, s.heap.IsCell c v → h1.IsCell c v := fun {c v} ⟨o, ho, hd⟩ => ⟨o, hk _ _ ho, hd⟩
  refine ⟨⟨e0.mod, S.kind, rfl, rfl, Nat.le_refl _, fun y z c q1 q2 => ?_, fun y hy => ?_, fun y c hf q => ?_, fun _ => hd, Around.frames_deeper e0.frames, .inr ⟨rfl, rfl⟩, fun b z => absurd z (noA b), e0.bs, e0.bsz, fun b _ _ => noA b, fun b z => absurd z (noA b), e0.funs, e0.frf⟩,
    rfl, e0.bare, Un.kept hk, ⟨_, x.toInCall.ns, fun i y v e1 e2 e3 => ?_⟩, fun y c q => ?_, e0.hok.fresh (Nat.le_refl _), fun y c q => ?_, fun p hp => absurd (show p ∈ ([] : List (Addr × Obj)) from hp) (by simp), e0.hok.kept hk, ?_⟩
  · rcases two y c q1 with a | a <;> rcases two z c q2 with b | b
    · exact name_of_addr x.apart (PySem.mem_of_lookup a) (PySem.mem_of_lookup b)
    · exact absurd (Nat.lt_trans (x.above y c (PySem.mem_of_lookup a)) (clt z c b)) (Nat.lt_irrefl _)
    · exact absurd (Nat.lt_trans (x.above z c (PySem.mem_of_lookup b)) (clt y c a)) (Nat.lt_irrefl _)
    · exact C.inj y z c a b
  · have hy : F.scope.names.lookup y = some .cell ∨ F.scope.names.lookup y = some .free := hy
    show ∃ c, (cellsC F s.heap.objs.size).lookup y = some c
    rw [look]
    rcases hy with hy | hy
    · obtain ⟨c, e⟩ := L2.cell_has (n := s.heap.objs.size + 1) hy
      rw [e]
      exact ⟨c, rfl⟩
    · obtain ⟨i, hi⟩ := List.mem_iff_getElem?.mp (S.free _ (PySem.mem_of_lookup hy) rfl)
      obtain ⟨c, hc, _⟩ := C.has i y hi
      rw [ownN y hy, hc]
      exact ⟨c, rfl⟩
  · have hf : F.scope.names.lookup y = some .cell := by
      have := hf
      simpa [ncxC] using this
    obtain ⟨c2, e⟩ := L2.cell_has (n := s.heap.objs.size + 1) hf
    have q : (cellsC F s.heap.objs.size).lookup y = some c := q
    rw [look, e] at q
    cases q
    exact Nat.le_of_lt (x.above y _ (PySem.mem_of_lookup e))
  · have e1 : N[i]? = some y := e1
    have clen := C.len
    unfold startF at e2
    by_cases h3 : i < ps.length
    · have hq : (ps ++ fr)[i]? = some y := by
        rw [← S.pre, List.getElem?_take_of_lt (by omega)]
        exact e1
      rw [List.getElem?_append_left h3] at hq
      rw [List.getElem?_append_left (by rw [List.length_map]; omega), List.getElem?_map] at e2
      have ha : vs[i]? = some v := by
        cases e : vs[i]? with
        | none => rw [e] at e2; cases e2
        | some a => rw [e] at e2; cases e2; rfl
      obtain ⟨u, hu, rv⟩ := r.get ha
      have ndP : ps.Nodup := by
        have q := S.nd.sublist (List.take_sublist (ps.length + fr.length) N)
        rw [S.pre] at q
        exact (List.nodup_append.mp q).1
      refine ⟨u, rv, ?_⟩
      rcases S.par y (List.mem_of_getElem? hq) with k | k
      · exact .inl ⟨k, L2.bindL_get ndP hq hu k⟩
      · obtain ⟨c, e⟩ := L2.cell_has (n := s.heap.objs.size + 1) k
        refine .inr ⟨.inl k, c, by show (cellsC F s.heap.objs.size).lookup y = some c; rw [look, e]; rfl, ?_⟩
        have q := x.cell y c e
        rw [L2.bindC_get ndP hq hu (by show F.scope.names.lookup y ≠ _; rw [k]; decide)] at q
        exact q
    · rw [List.getElem?_append_right (by rw [List.length_map]; omega), List.length_map] at e2
      by_cases h2 : i < ps.length + fr.length
      · have hq : (ps ++ fr)[i]? = some y := by
          rw [← S.pre, List.getElem?_take_of_lt (by omega)]
          exact e1
        rw [List.getElem?_append_right (by omega)] at hq
        rw [List.getElem?_append_left (by omega), hl] at e2
        obtain ⟨c, hc, hv⟩ := C.has (i - ps.length) y hq
        obtain ⟨u, ru, hu⟩ := hv v e2
        have hfr := S.frk y (List.mem_of_getElem? hq)
        exact ⟨u, ru, .inr ⟨.inr hfr, c, by show (cellsC F s.heap.objs.size).lookup y = some c; rw [look, ownN y hfr, hc]; rfl, cellK hu⟩⟩
      · rw [List.getElem?_append_right (by omega), List.getElem?_replicate] at e2
        split at e2 <;> cases e2
  · rcases two y c q with a | a
    · exact ⟨_, x.cell y c a⟩
    · obtain ⟨v, z⟩ := (C.all y c a).2
      exact ⟨v, cellK z⟩
  · rcases two y c q with a | a
    · exact e0.hok.fresh (Nat.le_of_lt (x.above y c (PySem.mem_of_lookup a)))
    · exact (C.all y c a).1
  · have clen := C.len
    unfold startF
    show _ = N.length
    rw [List.length_append, List.length_append, List.length_map, List.length_replicate]
    omega
/-- THE RULE: a nested def with cells of its own, by its body -/
theorem nok_ofC {sp : List (Option V) → Sp} {k : Nat} (S : NScopeC N ps fr F.scope) (hb : ∀ (doc pm ctv : Value) (us : List Value), us.length = ps.length → bindArgs (F.fd doc pm ctv) ⟨us, []⟩ = pure (ps.zip us)) (len : ∀ ws vs H Q E, sp ws vs H Q E → vs.length = ps.length)
    (hbody : ∀ (A : Around) (outer : List Env) (s : Shared) (H : Hp) (vs : List V) (ws : List (Option V)) (Q : VK) (E : XK), Room k (A.deeper (envC F f s.heap.objs.size)) → H f = some (FnO f F) → H F.c = some (CodeO F.c F.qual) → ws.length = fr.length → sp ws vs H Q E →
      ∃ t, PSs (ncxC CX P w K mg base N F f A outer s H E) F.body t ∧ t { nx := fun _ H' => Q .non H', rt := Q } (startF N vs ws) H) :
    NOk P w K mg base CX (k + 1) f F ps fr sp := by
  refine ⟨len, fun A outer s H us vs ws Q E hr e0 hf hc C r hsp => ?_⟩
  have hl := len _ _ _ _ _ hsp
  have lim : s.heap.NoLimit := e0.mod.nolimit.keeps fun b o e => (e0.bs b o e).1
  obtain ⟨od, sl, doc, pm, ctv, ho⟩ := fnO_at e0.hok hf
  refine codeAny_call_function hr.depth ho rfl S.co S.gen rfl (codeO_at e0.hok hc) ?_
  rw [hb doc pm ctv us (by rw [← r.length]; exact hl)]
  have hkind : ∀ y ∈ ps.zip us, F.scope.names.lookup y.1 = some .local ∨ (F.scope.names.lookup y.1 = some .cell ∧ ((cellsFrom (s.heap.objs.size + 1) F.scope.names []).lookup y.1).isSome = true) := fun ⟨n, v⟩ hy => by
    rcases S.par n (List.of_mem_zip hy).1 with q | q
    · exact .inl q
    · exact .inr ⟨q, PySem.W.cellsFrom_some _ _ _ (.inl q)⟩
  refine wpAny_pure (ka_newEnv S.kind hkind fun env he s1 x => ?_)
  subst he
  refine ⟨lim.keeps x.toInCall.keep, ?_⟩
  show codeAny _ _ (.func F.body (envC F f s.heap.objs.size)) _ _
  refine codeAny_func ?_
  obtain ⟨t, ht, hq⟩ := hbody A outer s H vs ws Q E (hr.deeper _) hf hc C.len hsp
  have I : Inv (ncxC CX P w K mg base N F f A outer s H E) [] (startF N vs ws) H s1 := inv_startC S hr.hd e0 hl r C x
  refine wpAny_mono (ht.run [] _ (startF N vs ws) H _ I hq) (fun fl s' hs => ?_) fun e s' hs => hs
  have fin : ∀ {σ' : L2.St} {H' : Hp} {v : V} {u : Value}, Inv (ncxC CX P w K mg base N F f A outer s H E) [] σ' H' s' → L2.RelV v u → Q v H' → CE outer P w H s Q u s' :=
    fun {σ' H' v u} J rv q => ⟨v, H', J.os, J.bare, J.base, J.hok, rv, q⟩
  cases fl with
  | ret u =>
    obtain ⟨v, σ', H', J, rv, q⟩ := hs
    exact fin J rv q
  | next =>
    obtain ⟨σ', H', J, q⟩ := hs
    exact fin (v := V.non) (u := Value.none) J rfl q
  | brk =>
    obtain ⟨_, _, _, q⟩ := hs
    exact False.elim q
  | cont =>
    obtain ⟨_, _, _, q⟩ := hs
    exact False.elim q
end
end KaG
set_option maxRecDepth 100000
set_option maxHeartbeats 4000000
namespace KaG
open PySem PySem.Spec PyProof.Rows L2 KaC LamX NdefX
/-- what stays where tables of code may grow -/
structure Ex (T : List NTab) (H H' : Hp) : Prop where
  ext : ExtN H H'
  tab : TabsN T H'
  non : ∀ b, H' b = none → H b = none
theorem same_non {H H' : Hp} (s : Same H H') (b : Addr) (e : H' b = none) : H b = none := by
  cases q : H b with
  | none => rfl
  | some u => rw [s _ _ q] at e; cases e
theorem Ex.same {T : List NTab} {H H' : Hp} (t : TabsN T H) (s : Same H H') : Ex T H H' := ⟨fun b o e _ => s b o e, t.ext s, same_non s⟩
theorem Ex.tr {T : List NTab} {H H1 H2 : Hp} (a : Ex T H H1) (b : Ex T H1 H2) : Ex T H H2 := ⟨ExtN.trans a.ext b.ext, b.tab, fun c e => a.non c (b.non c e)⟩
theorem Ex.refl {T : List NTab} {H : Hp} (t : TabsN T H) : Ex T H H := Ex.same t fun _ _ e => e
theorem Ex.trs {T : List NTab} {H H1 H2 : Hp} (a : Ex T H H1) (s : Same H1 H2) : Ex T H H2 := a.tr (Ex.same a.tab s)
theorem Ex.ts {T : List NTab} {H H' : Hp} (a : Ex T H H') : TSame H H' := fun b xs e => a.ext b _ e fun _ z => nomatch z
theorem Ex.lst {T : List NTab} {H H' : Hp} (a : Ex T H H') {b : Addr} {xs : List V} (e : H b = some (.lst xs)) : H' b = some (.lst xs) := a.ext b _ e fun _ z => nomatch z
section
variable {P : Program} {w : World} {K : PySem.W.Frag} {mg : Str → Option Value} {base : Heap}
theorem fun_okC {x qual : Str} {st : Stmt} {f c : Addr} {fd : FuncData} {N ps : List Str} {k : Nat} {sp : Sp} (F : Fun K x qual st f fd) (S : FnScope N ps (defScope st)) (hc : fd.code = .ref c) (len : ∀ vs H Q E, sp vs H Q E → vs.length = ps.length)
    (hbody : ∀ (A : Around) (outer : List Env) (s : Shared) (H : Hp) (vs : List V) (Q : VK) (E : XK), Room k (A.deeper (envOfC qual (defScope st) s.heap.objs.size f (.ref c))) → sp vs H Q E →
      ∃ t, PSs (cxOf CX0 P w K mg base N qual (defScope st) f (.ref c) A outer s H E).nox (defBody st) t ∧ t { nx := fun _ H' => Q .non H', rt := Q } (start N vs) H) : FnOk P w K mg base CX0 (k + 1) f fd ps sp := by
  obtain ⟨oc, od, kV, doc, pm, an, cdv, ct, osl, rfl, lk, hcd⟩ := F.ex
  have hc : cdv = .ref c := hc
  subst hc
  refine fn_of lk hcd S len fun A outer s H vs Q E hr hsp => ?_
  obtain ⟨t, h, q⟩ := hbody A outer s H vs Q E hr hsp
  exact ⟨t, h.nox, q⟩
abbrev sBear : Stmt := top 10
abbrev stJB : Stmt := (defBody sBear).getD 0 (.Pass ⟨0, 0, 0, 0⟩)
abbrev qJB : Str := Str.ofString "bearing_kinds.<locals>.joins"
abbrev nmJB : List Str := ["name", "found", "rulebook", "ground"]
theorem scJB : NScopeC nmJB ["name", "found"] ["rulebook"] (C8.fnScope stJB) := nscopeC_by (by decide +kernel)
def spJB : List (Option V) → Sp := fun ws vs H Q _ => ∃ (b fa : Addr) (rows : List Str) (ks : List Kd) (n : Str) (B : List Str), ws = [some (.ref b)] ∧ vs = [.str n, .ref fa] ∧ BookAt H b rows ks ∧ BookOk rows ks ∧ n ∈ ks.map Kd.name ∧ H fa = some (.lst (B.map V.str)) ∧ ∀ H', Same H H' → Q (.bl (jB ks n B)) H'
theorem ok_joinsB {f fK fL : Addr} {fdK fdL : FuncData} {cl : List (Str × Addr)} {c' : Addr} (hany : mg "any" = none) (C : Ct P w K mg base "kind_of" 1 ["rulebook", "name"] spKindN fK fdK) (CL : Ct P w K mg base "_is_live" 2 ["rulebook", "ground", "bearing"] spIsLive fL fdL) :
    NOk P w K mg base CX0 3 f (NF.of stJB "joins" qJB cl c') ["name", "found"] ["rulebook"] spJB := by
  refine nok_ofC scJB (fun doc pm ctv us hl => match us, hl with | [_, _], _ => rfl) (fun ws vs H Q E h => ?_) (fun A outer s H vs ws Q E hr hf hc hw h => ?_)
  · obtain ⟨b, fa, rows, ks, n, B, _, rfl, _⟩ := h
    rfl
  · obtain ⟨b, fa, rows, ks, n, B, rfl, rfl, hA, hO, hn, hB, k⟩ := h
    refine ⟨_, PSs.nox (pss_one (ps_ret (pe_callB (r := rAny K) (cr_any rfl) (by rfl) hany (by decide +kernel) (pa_cons (pe_lc (own := [("ground", 3)]) (g := gName 3) (by rfl) scJB.nd (pi_tup (pe_ix ix_tup (pe_call C.G (hr.mono (by decide)) (by rfl) C.m C.kp C.b .nil pass0 (pa_cons (pv 2) (pa_cons (pv 0) pa_nil))) pe_int (fun _ _ => rfl)))
        (blkOk_by (own := [("ground", 3)]) (N := nmJB) (sc := C8.fnScope stJB) (by decide +kernel)) (fun _ _ _ _ _ => pg_name (i := 3) scJB.nd rfl (Or.inl rfl)) (fun _ _ _ _ _ => pts_nil)
        (fun _ _ _ _ _ => pe_call CL.G hr (by rfl) CL.m CL.kp CL.b .nil pass0 (pa_cons (pv 2) (pa_cons (pv 3) (pa_cons (pv 1) pa_nil))))) pa_nil)))), ?_⟩
    have nd := hO.nm.nd
    refine ⟨_, rfl, _, rfl, b, rows, ks, n, rfl, hA, nd, hn, fun ka kd mk kn hk => ?_⟩
    obtain ⟨gt, gas, f1, f2, f3⟩ := hk
    have lg := paired_len f3
    have g4 := (hO.num kd mk).2.2.2.2
    refine ⟨ka, _, 3, .ref gt, rfl, rfl, SqT.of f1, rfl, gt, rfl, ⟨_, SqT.of f2⟩, fun D hD => lc_tup (K := K) (a := gt) (xs := gas.map V.ref) (fun i J => Same H J ∧ J D = some (.lst (((kd.gs.take i).map (grLive ks B)).map V.bl))) ?_ ?_ ?_ ?_⟩
    · exact ⟨same_upd hD, upd_same⟩
    · rintro i J _ ⟨S2, _⟩
      exact SqT.of (S2 _ _ f2)
    · rintro i x J hx ⟨S2, jD⟩
      rw [List.getElem?_map] at hx
      obtain ⟨ga, hga, rfl⟩ := Option.map_eq_some_iff.mp hx
      obtain ⟨g, hg, eg⟩ := paired_at f3 hga
      have mg' := List.mem_of_getElem? hg
      refine ⟨rfl, ?_⟩
      unfold tYes
      dsimp only
      refine iteT ⟨_, rfl, _, rfl, _, rfl, b, ga, fa, rows, ks, g, B, rfl, hA.ts (TSame.of S2), nd, Grd.ts eg (TSame.of S2), hO.gr mk mg', .inl (S2 _ _ hB), fun J2 S3 => ⟨_, S3 _ _ jD, small1000 ?_, fun b u e => ?_, ?_⟩⟩
      · rw [List.length_map, List.length_map, List.length_take]
        omega
      · rw [upd_ne (ne_of_none e hD)]
        exact S3 _ _ (S2 _ _ e)
      · rw [upd_same, List.take_add_one, hg, Option.toList_some, List.map_append, List.map_append]
        rfl
    · rintro J ⟨S2, jD⟩
      rw [List.length_map, lg, List.take_length] at jD
      refine ⟨D, kd.gs.map (grLive ks B), rfl, SqL.of jD, ?_⟩
      have e : (kd.gs.map (grLive ks B)).any id = jB ks n B := by
        unfold jB
        rw [← kn, gsOf_eq nd mk, List.any_map]
        rfl
      rw [e]
      exact k J S2
/-- the names of a rulebook's kinds, those that bear -/
abbrev nmsOf (ks : List Kd) : List Str := ks.map Kd.name
noncomputable def bearOf (ks : List Kd) : List Str := lfp (nmsOf ks) (jB ks)
theorem ndJB : ndefB (defScope sBear) (C8.fnScope stJB) ["rulebook"] = true := by decide +kernel
theorem scBear : FnScope ["rulebook", "joins"] ["rulebook"] (defScope sBear) := ⟨rfl, rfl, rfl, by decide +kernel, rfl, by decide +kernel, by decide +kernel⟩
def spBear (T : List NTab) : Sp := fun vs H Q _ => ∃ (b : Addr) (rows : List Str) (ks : List Kd), vs = [.ref b] ∧ BookAt H b rows ks ∧ BookOk rows ks ∧ TabsN T H ∧ ∀ (p : Addr) (H' : Hp), Ex T H H' → H' p = some (.tup ((bearOf ks).map V.str)) → IsL (nmsOf ks) (jB ks) (bearOf ks) → Q (.ref p) H'
/-- what a def with a nested one asks of the tables -/
structure TbOk (base : Heap) (mg : Str → Option Value) (T : List NTab) (c Pt : Addr) (q : Str) : Prop where
  TB : TabB base mg c Pt
  m : (Pt, fun _ _ => q) ∈ T
  u : ∀ p ∈ T, p.1 = Pt → p.2 = fun _ _ => q
theorem ok_bear {T : List NTab} {f fN fG fK fL c Pt : Addr} {fd fdN fdG fdK fdL : FuncData} (F : Fun K "bearing_kinds" "bearing_kinds" sBear f fd) (hcode : fd.code = .ref c) (TT : TbOk base mg T c Pt qJB) (TC : TxtC mg) (hany : mg "any" = none)
    (C : Ct P w K mg base "kind_of" 1 ["rulebook", "name"] spKindN fK fdK) (CL : Ct P w K mg base "_is_live" 2 ["rulebook", "ground", "bearing"] spIsLive fL fdL) (CN : Ct P w K mg base "kind_names" 1 ["rulebook"] spKindNames fN fdN)
    (CG : Ct P w K mg base "_grown" 4 ["names", "joins"] (spGrown P w K mg base 3) fG fdG) : FnOk P w K mg base CX0 5 f fd ["rulebook"] (spBear T) := by
  refine fun_okC F scBear hcode (fun vs H Q E h => ?_) (fun A outer s H vs Q E hr h => ?_)
  · obtain ⟨b, rows, ks, rfl, _⟩ := h
    rfl
  · obtain ⟨b, rows, ks, rfl, hA, hO, hT, k⟩ := h
    refine ⟨_, (pss_cons (ps_ndefMS (i := 1) (T := T) (st := stJB) (name := "joins") rfl TT.TB rfl TT.m rfl TT.u (ndef_free ndJB) rfl rfl rfl scBear.nd rfl (Or.inl rfl) (Or.inr rfl))
      (pss_one (ps_ret (pe_callTy call_tuple_of (by rfl) TC.tup (by decide +kernel) (pa_cons (pe_callZ (mk := fun c' => NF.of stJB "joins" qJB _ c') (fr := ["rulebook"]) (js := [0]) CG.G (fun _ => rfl) (by decide) (fun _ _ _ => rfl)
        (fun ok => Caps.made ok (ndef_free ndJB) (ndef_fr ndJB) rfl) hr (by rfl) CG.m CG.kp CG.b
        (pa_cons (pe_call CN.G (hr.mono (by decide)) (by rfl) CN.m CN.kp CN.b .nil pass0 (pa_cons (pv 0) pa_nil)) (pa_cons (pv 1) pa_nil))) pa_nil))))), ?_⟩
    refine ⟨hT, fun fj c' H1 x1 n1 T1 nf e1 ec => ?_⟩
    have X1 : Ex T H H1 := ⟨x1, T1, n1⟩
    have hA1 := hA.ts X1.ts
    have hk5 := hO.k5
    refine ⟨_, rfl, b, rows, ks, rfl, hA1, by omega, fun p H2 S2 np e2 => ?_⟩
    have X2 := X1.trs S2
    refine ⟨_, rfl, fj, c', S2 _ _ e1, S2 _ _ ec, fun Hf CH ke nin nout => ?_⟩
    have hA2 := hA1.ts (TSame.of S2)
    refine ⟨p, fj, _, _, spJB, _, nmsOf ks, jB ks, rfl, ke _ _ e2, ke _ _ (S2 _ _ e1), ke _ _ (S2 _ _ ec), CH, ok_joinsB hany C CL, by rw [List.length_map]; exact hk5, jB_mono ks, fun n fa B G1 Q1 mn S1 efa kk => ?_, fun q B H3 S3 eB hL => ?_⟩
    · have CG1 := CH.stay fun b o u e => S1 _ _ e
      refine ⟨b, fa, rows, ks, n, B, rfl, rfl, hA2.ts fun d xs e => ?_, hO, mn, ?_, kk⟩
      · have e3 := S1 _ _ (ke _ _ e)
        exact (thaw_out (CG1.all.out e3 fun _ _ y => nomatch y)).trans e3
      · exact (thaw_out (CG1.all.out efa fun _ _ y => nomatch y)).trans efa
    · have S4 : Same H2 (thaw _ H3) := fun d o e => by
        rw [thaw_out fun z => by rw [nin d z] at e; cases e]
        exact S3 _ _ (ke _ _ e)
      have X4 := X2.trs S4
      have CH3 := CH.stay fun b o u e => S3 _ _ e
      have eB2 : thaw _ H3 q = some (.lst (B.map V.str)) := (thaw_out (CH3.all.out eB fun _ _ y => nomatch y)).trans eB
      refine ⟨q, _, rfl, .inl ⟨SqL.of eB2, fun l nl => ?_⟩⟩
      have eq : B = bearOf ks := hL.eq
      rw [eq] at hL ⊢
      exact k l _ (X4.trs (same_upd nl)) upd_same hL
end
end KaG
set_option maxRecDepth 100000
set_option maxHeartbeats 4000000
namespace KaG
open PySem PySem.Spec PyProof.Rows L2 KaC LamX NdefX
section
variable {P : Program} {w : World} {K : PySem.W.Frag} {mg : Str → Option Value} {base : Heap}
abbrev sLiveIx : Stmt := top 11
abbrev nmLI : List Str := ["rulebook", "bearing", "kind", "at", "ground"]
theorem scLI : FnScope nmLI ["rulebook"] (defScope sLiveIx) := ⟨rfl, rfl, rfl, by decide +kernel, rfl, by decide +kernel, by decide +kernel⟩
abbrev scDLI : Scope := { kind := .function, names := [(".0", .local), ("kind", .local), ("enumerate", .globalImplicit), ("bearing", .cell), ("rulebook", .cell)], isGenerator := false, isCoroutine := false, more := [] }
/-- the first n places of a list at which a test holds -/
def atsTo {α : Type} (t : α → Bool) (xs : List α) (n : Nat) : List Nat := (List.range n).filter fun i => match xs[i]? with
  | some x => t x
  | none => false
theorem atsTo_all {α : Type} {t : α → Bool} {xs : List α} : atsTo t xs xs.length = ats t xs := rfl
theorem atsTo_succ {α : Type} {t : α → Bool} {xs : List α} {n : Nat} {x : α} (h : xs[n]? = some x) : atsTo t xs (n + 1) = atsTo t xs n ++ if t x = true then [n] else [] := by
  unfold atsTo
  rw [List.range_succ, List.filter_append]
  congr 1
  rw [List.filter_cons, h]
  dsimp only
  split <;> simp
theorem atsTo_le {α : Type} {t : α → Bool} {xs : List α} {n : Nat} : (atsTo t xs n).length ≤ n := by
  have := List.length_filter_le (fun i => match xs[i]? with
  | some x => t x
  | none => false) (List.range n)
  rw [List.length_range] at this
  exact this
theorem kvs_no {ks : List Kd} {kas : List Addr} {n : Str} (h : ∀ k ∈ ks, k.name ≠ n) : valV (kvsOf ks kas) (Sum.inr n) = none := by
  unfold valV
  have : (kvsOf ks kas).find? (fun p => decide (p.1 = Sum.inr n)) = none := by
    rw [List.find?_eq_none]
    intro p m z
    unfold kvsOf at m
    obtain ⟨q, mq, rfl⟩ := List.mem_map.mp m
    exact h q.1 (List.of_mem_zip mq).1 (Sum.inr.inj (of_decide_eq_true z))
  rw [this]
  rfl
theorem kvs_snoc {ks : List Kd} {kas : List Addr} {k : Kd} {a : Addr} (h : ks.length = kas.length) : kvsOf (ks ++ [k]) (kas ++ [a]) = kvsOf ks kas ++ [(Sum.inr k.name, V.ref a)] := by
  unfold kvsOf
  rw [List.zip_append h, List.map_append]
  rfl
theorem kvs_len {ks : List Kd} {kas : List Addr} (h : kas.length = ks.length) : (kvsOf ks kas).length = ks.length := by
  unfold kvsOf
  rw [List.length_map, List.length_zip, h, Nat.min_self]
def ixV (xs : List Nat) : List V := xs.map fun i : Nat => V.int (i : Int)
/-- the live indexes of all kinds, as lists in a dict -/
structure LiveD (H0 H : Hp) (p : Addr) (ks : List Kd) (ls : List Addr) : Prop where
  d : H p = some (.dK (kvsOf ks ls))
  l : Paired (fun (l : Addr) (k : Kd) => H0 l = none ∧ H l = some (.lst (ixV (liveIx ks (bearOf ks) k.name)))) ls ks
def spLiveIx (T : List NTab) : Sp := fun vs H Q _ => ∃ (b : Addr) (rows : List Str) (ks : List Kd), vs = [.ref b] ∧ BookAt H b rows ks ∧ BookOk rows ks ∧ TabsN T H ∧ ∀ (p : Addr) (ls : List Addr) (H' : Hp), Ex T H H' → H p = none → LiveD H H' p ks ls → IsL (nmsOf ks) (jB ks) (bearOf ks) → Q (.ref p) H'
theorem ok_liveIx {T : List NTab} {f fB fL : Addr} {fd fdB fdL : FuncData} (F : Fun K "live_indexes" "live_indexes" sLiveIx f fd) (hen : mg "enumerate" = none) (CB : Ct P w K mg base "bearing_kinds" 5 ["rulebook"] (spBear T) fB fdB)
    (CL : Ct P w K mg base "_is_live" 2 ["rulebook", "ground", "bearing"] spIsLive fL fdL) : FnOk P w K mg base CX0 6 f fd ["rulebook"] (spLiveIx T) := by
  refine F.ok scLI (fun vs H Q E h => ?_) (fun cdv A outer s H vs Q E hr h => ?_)
  · obtain ⟨b, rows, ks, rfl, _⟩ := h
    rfl
  · obtain ⟨b, rows, ks, rfl, hA, hO, hT, k⟩ := h
    have hr2 : Room 2 (A.deeper (envOfC "live_indexes" (defScope sLiveIx) s.heap.objs.size f cdv)) := hr.mono (by decide)
    refine ⟨_, (pss_cons (ps_set (i := 1) scLI.nd rfl (Or.inr rfl) (pe_call CB.G hr (by rfl) CB.m CB.kp CB.b .nil pass0 (pa_cons (pv 0) pa_nil)))
      (pss_one (ps_ret (pe_dc (own := [("kind", 2)]) (g := gName 2) (by rfl) scLI.nd (pi_tup (pe_ix ix_tup (pv 0) pe_int (fun _ _ => rfl)))
        (blkOk_by (own := [("kind", 2)]) (N := nmLI) (sc := defScope sLiveIx) (by decide +kernel)) (fun _ _ _ _ _ => pg_name (i := 2) scLI.nd rfl (Or.inl rfl)) (fun _ _ _ _ _ => pts_nil)
        (fun _ _ _ _ _ => pe_ix (r := rIxT K) ix_tup (pv 2) pe_int (fun _ _ => rfl))
        (fun _ _ _ _ _ => pe_lc (own := [("at", 3), ("ground", 4)]) (g := gTup K 2 (gCons (gName 3) (gCons (gName 4) gNil))) (wi := iEnumT K (tCons (tOp (rIxT K) (tVar 2) (tC (.int 3))) tNil))
          (tt := tB (tCall spIsLive [] E0 (tCons (tVar 0) (tCons (tVar 4) (tCons (tVar 1) tNil))))) (te := tVar 3) (by rfl) scLI.nd
          (pi_enumT (by rfl) hen (pa_cons (pe_ix (r := rIxT K) ix_tup (pv 2) pe_int (fun _ _ => rfl)) pa_nil))
          (blkOk_by (own := [("at", 3), ("ground", 4)]) (N := nmLI) (sc := scDLI) (by decide +kernel))
          (fun _ _ _ _ _ => pg_tup (t := gCons (gName 3) (gCons (gName 4) gNil)) rfl (pgs_cons (pg_name (i := 3) scLI.nd rfl (Or.inl rfl)) (pgs_cons (pg_name (i := 4) scLI.nd rfl (Or.inl rfl)) pgs_nil)))
          (fun _ _ _ _ _ => pts_one (pt_val (pe_call CL.G hr2 (by rfl) CL.m CL.kp CL.b .nil pass0 (pa_cons (pv 0) (pa_cons (pv 4) (pa_cons (pv 1) pa_nil))))))
          (fun _ _ _ _ _ => pv 3)))))), ?_⟩
    have nd := hO.nm.nd
    have hk5 := hO.k5
    refine ⟨_, rfl, b, rows, ks, rfl, hA, hO, hT, fun bp H1 X1 ebp hL => ?_⟩
    have hA1 := hA.ts X1.ts
    obtain ⟨r, kt, kas, e1, e2, e3, pk⟩ := id hA1
    have hlen := paired_len pk
    refine ⟨_, rfl, b, _, 1, .ref kt, rfl, rfl, SqT.of e1, rfl, kt, rfl, ⟨_, SqT.of e3⟩, fun D hD => dc_tup (K := K) (a := kt) (xs := kas.map V.ref) (fun i G => Same H1 G ∧ ∃ ls : List Addr, G D = some (.dK (kvsOf (ks.take i) ls)) ∧ Paired (fun (l : Addr) (k : Kd) => H1 l = none ∧ l ≠ D ∧ G l = some (.lst (ixV (liveIx ks (bearOf ks) k.name)))) ls (ks.take i)) ?_ ?_ ?_ ?_⟩
    · exact ⟨same_upd hD, [], upd_same, .nil⟩
    · rintro i G _ ⟨S, _⟩
      exact SqT.of (S _ _ e3)
    · rintro i x G hx ⟨S, ls, gD, pl⟩
      rw [List.getElem?_map] at hx
      obtain ⟨ka, ha, rfl⟩ := Option.map_eq_some_iff.mp hx
      obtain ⟨kd, hkd, gt, gas, f1, f2, f3⟩ := paired_at pk ha
      have mk : kd ∈ ks := List.mem_of_getElem? hkd
      have hi : i < ks.length := (List.getElem?_eq_some_iff.mp hkd).1
      have lg := paired_len f3
      have g4 := (hO.num kd mk).2.2.2.2
      have ll := paired_len pl
      rw [List.length_take] at ll
      have tk : ks.take (i + 1) = ks.take i ++ [kd] := by rw [List.take_add_one, hkd]; rfl
      refine ⟨rfl, ?_⟩
      unfold tYes
      dsimp only
      refine iteT ⟨_, rfl, ka, _, 0, .str kd.name, rfl, rfl, SqT.of (S _ _ f1), rfl, ?_⟩
      refine ⟨_, rfl, ka, _, 3, .ref gt, rfl, rfl, SqT.of (S _ _ f1), rfl, gt, gas.map V.ref, rfl, SqT.of (S _ _ f2), fun L nL => go_enumT (K := K) (a := gt) (xs := gas.map V.ref) (fun g J => Same G J ∧ J L = some (.lst (ixV (atsTo (grLive ks (bearOf ks)) kd.gs g)))) ?_ ?_ ?_ ?_⟩
      · exact ⟨same_upd nL, upd_same⟩
      · rintro g J _ ⟨S2, _⟩
        exact SqT.of (S2 _ _ (S _ _ f2))
      · rintro g x T2 J hx ⟨S2, jL⟩ nT
        rw [List.getElem?_map] at hx
        obtain ⟨ga, hga, rfl⟩ := Option.map_eq_some_iff.mp hx
        obtain ⟨gr, hgr, eg⟩ := paired_at f3 hga
        have hgl := (List.getElem?_eq_some_iff.mp hgr).1
        have mg' := List.mem_of_getElem? hgr
        have sT := same_upd (o := .tup [.int (g : Nat), .ref ga]) nT
        have S3 := KaG.Same.tr S2 sT
        have jL3 := sT _ _ jL
        refine ⟨T2, _, rfl, SqT.of upd_same, rfl, _, _, rfl, _, _, rfl, rfl, rfl, ?_⟩
        generalize upd J T2 (.tup [.int (g : Nat), .ref ga]) = J3 at S3 jL3 ⊢
        have S03 := KaG.Same.tr S S3
        refine ⟨_, rfl, _, rfl, _, rfl, b, ga, bp, rows, ks, gr, bearOf ks, rfl, hA1.ts (TSame.of S03), nd, Grd.ts eg (TSame.of S03), hO.gr mk mg', .inr (S03 _ _ ebp), fun J4 S4 => ⟨_, rfl, ?_⟩⟩
        have S34 := KaG.Same.tr S3 S4
        have jL4 := S4 _ _ jL3
        have le := atsTo_le (t := grLive ks (bearOf ks)) (xs := kd.gs) (n := g)
        refine ite2 (fun hc => ?_) fun hc => ?_
        · refine ⟨_, rfl, _, jL4, small1000 (by unfold ixV; rw [List.length_map]; omega), fun b u e => by rw [upd_ne (ne_of_none e nL)]; exact S34 b u e, ?_⟩
          rw [upd_same, atsTo_succ hgr, if_pos hc]
          unfold ixV
          rw [List.map_append]
          rfl
        · refine ⟨S34, ?_⟩
          rw [jL4, atsTo_succ hgr, if_neg hc, List.append_nil]
      · rintro J ⟨S2, jL⟩
        rw [List.length_map, lg, atsTo_all] at jL
        have nLD : L ≠ D := fun z => by rw [z, gD] at nL; cases nL
        have jD := S2 _ _ gD
        refine ⟨_, Sum.inr kd.name, rfl, jD, small1000 (by rw [kvs_len (by rw [List.length_take]; exact ll), List.length_take]; omega), fun b u e => by rw [upd_ne (ne_of_none e hD)]; exact S2 _ _ (S b u e), ls ++ [L], ?_, ?_⟩
        · rw [upd_same, putK_new, tk, kvs_snoc (by rw [List.length_take]; exact ll.symm)]
          refine kvs_no fun k hk e => ?_
          obtain ⟨j, hj⟩ := List.mem_iff_getElem?.mp hk
          have hji : j < i := by
            have := (List.getElem?_eq_some_iff.mp hj).1
            rw [List.length_take] at this
            omega
          rw [List.getElem?_take_of_lt hji] at hj
          have h1 : (ks.map Kd.name)[j]? = some k.name := by rw [List.getElem?_map, hj]; rfl
          have h2 : (ks.map Kd.name)[i]? = some k.name := by rw [List.getElem?_map, hkd, e]; rfl
          have := (List.getElem?_inj (List.getElem?_eq_some_iff.mp h1).1 nd).mp (h1.trans h2.symm)
          omega
        · rw [tk]
          refine paired_snoc ⟨?_, nLD, ?_⟩ (Paired.mono' (fun l k h => ⟨h.1, h.2.1, by rw [upd_ne h.2.1]; exact S2 _ _ h.2.2⟩) pl)
          · exact same_non S L nL
          · rw [upd_ne nLD, jL]
            unfold liveIx
            rw [gsOf_eq nd mk]
    · rintro G ⟨S, ls, gD, pl⟩
      rw [List.length_map, hlen, List.take_length] at gD pl
      have X2 := X1.trs S
      exact k D ls G X2 (X1.non D hD) ⟨gD, Paired.mono' (fun l k h => ⟨X1.non l h.1, h.2.2⟩) pl⟩ hL
end
end KaG
set_option maxRecDepth 100000
set_option maxHeartbeats 4000000
set_option maxRecDepth 100000
set_option maxHeartbeats 4000000
set_option maxRecDepth 100000
set_option maxHeartbeats 4000000
namespace KaG
open PySem PySem.Spec PyProof.Rows L2 KaC
def DdAt (H : Hp) (as : List Addr) (ds : List (Str × Nat)) : Prop := Paired (fun a (d : Str × Nat) => H a = some (.tup [.str d.1, .int (d.2 : Int)])) as ds
theorem DdAt.ts {H H' : Hp} {as : List Addr} {ds : List (Str × Nat)} (h : DdAt H as ds) (s : TSame H H') : DdAt H' as ds := Paired.mono' (fun a d q => s _ _ q) h
end KaG
set_option maxRecDepth 100000
set_option maxHeartbeats 4000000
namespace KaG
open PySem PySem.Spec PyProof.Rows L2 KaC
theorem nm_lay : ∀ n ∈ nmAll, (PyData.str n).canLay0 = true := by decide +kernel
theorem tup_lay : ∀ ds : List PyData, (∀ d ∈ ds, d.canLay0 = true) → (PyData.tuple ds).canLay0 = true ∧ (PyData.list ds).canLay0 = true
  | [], _ => ⟨by simp [PyData.canLay0, PyData.canLayAll0], by simp [PyData.canLay0, PyData.canLayAll0]⟩
  | d :: ds, h => by
    have h1 := h d (List.mem_cons_self ..)
    have h2 := (tup_lay ds fun x m => h x (List.mem_cons_of_mem _ m)).1
    rw [PyData.canLay0] at h2
    exact ⟨by rw [PyData.canLay0, PyData.canLayAll0, h1, h2]; rfl, by rw [PyData.canLay0, PyData.canLayAll0, h1, h2]; rfl⟩
theorem int_lay (i : Int) : (PyData.int i).canLay0 = true := by simp [PyData.canLay0]
theorem need_dp {K : PySem.W.Frag} {H : Hp} {rows names : List Str} {its : List V} {a : Addr} (hr : ∀ n ∈ rows, n ∈ nmAll) (hn : ∀ n ∈ names, n ∈ nmAll) (h : NeedV rows names its) (e : H a = some (.tup its)) : ∃ d, Dp K H (.ref a) d ∧ d.canLay0 = true ∧ d.depth ≤ 1 := by
  cases h with
  | row n t m h =>
    refine ⟨.tuple [.str "row", .str n, .int t, .int m], .tup (SqT.of e) (.cons (.str _) (.cons (.str _) (.cons (.int _) (.cons (.int _) .nil)))), (tup_lay _ fun d md => ?_).1, by simp [PyData.depth, PyData.depthAll]⟩
    simp only [List.mem_cons, List.not_mem_nil, or_false] at md
    rcases md with rfl | rfl | rfl | rfl
    · exact nm_lay _ (by decide +kernel)
    · exact nm_lay _ (hr n h)
    · exact int_lay _
    · exact int_lay _
  | kind n a t m h =>
    refine ⟨.tuple [.str "kind", .str n, .int a, .int t, .int m], .tup (SqT.of e) (.cons (.str _) (.cons (.str _) (.cons (.int _) (.cons (.int _) (.cons (.int _) .nil))))), (tup_lay _ fun d md => ?_).1, by simp [PyData.depth, PyData.depthAll]⟩
    simp only [List.mem_cons, List.not_mem_nil, or_false] at md
    rcases md with rfl | rfl | rfl | rfl | rfl
    · exact nm_lay _ (by decide +kernel)
    · exact nm_lay _ (hn n h)
    · exact int_lay _
    · exact int_lay _
    · exact int_lay _
theorem needs_dp {K : PySem.W.Frag} {H : Hp} {rows names : List Str} (hr : ∀ n ∈ rows, n ∈ nmAll) (hn : ∀ n ∈ names, n ∈ nmAll) : ∀ {qs : List Addr} {its : List (List V)}, Paired (fun q it => H q = some (.tup it)) qs its → (∀ it ∈ its, NeedV rows names it) → ∃ ds, DpAll K H (qs.map V.ref) ds ∧ (∀ d ∈ ds, d.canLay0 = true) ∧ PyData.depthAll ds ≤ 1 ∧ ds.length = its.length
  | _, _, .nil, _ => ⟨[], .nil, fun _ z => (by cases z), by simp [PyData.depthAll], rfl⟩
  | _, _, .cons h r, n => by
    obtain ⟨d, h1, h2, h3⟩ := need_dp (K := K) hr hn (n _ (List.mem_cons_self ..)) h
    obtain ⟨ds, g1, g2, g3, g4⟩ := needs_dp (K := K) hr hn r fun it m => n it (List.mem_cons_of_mem _ m)
    exact ⟨d :: ds, .cons h1 g1, fun x m => by
      rcases List.mem_cons.mp m with c | c
      · rw [c]; exact h2
      · exact g2 x c, by rw [PyData.depthAll]; omega, by rw [List.length_cons, List.length_cons, g4]⟩
theorem shaped_list {ds : List PyData} (h : ∀ d ∈ ds, d.canLay0 = true) (d1 : PyData.depthAll ds ≤ 60) : SeqAt.shaped (.list ds) = true := by
  unfold SeqAt.shaped
  rw [(tup_lay ds h).2, Bool.true_and, decide_eq_true_eq, PyData.depth]
  omega
theorem eqv_empty : ∀ ds : List PyData, PyData.eqv (.list ds) (.list []) = decide (ds.length = 0)
  | [] => rfl
  | _ :: _ => rfl
end KaG
set_option maxRecDepth 100000
set_option maxHeartbeats 2000000
set_option maxRecDepth 100000
set_option maxHeartbeats 2000000
set_option maxRecDepth 100000
set_option maxHeartbeats 4000000
set_option maxRecDepth 100000
set_option maxHeartbeats 4000000
set_option maxRecDepth 100000
set_option maxHeartbeats 4000000
set_option maxRecDepth 100000
set_option maxHeartbeats 4000000
set_option maxRecDepth 100000
set_option maxHeartbeats 4000000
set_option maxRecDepth 100000
set_option maxHeartbeats 4000000
set_option maxRecDepth 100000
set_option maxHeartbeats 4000000
set_option maxRecDepth 100000
set_option maxHeartbeats 4000000
namespace KaG
open PySem PySem.Spec PyProof.Rows L2 KaC
section
variable {H H' : Hp} {m n m' n' : Nat}
structure Gd (H : Hp) (v : V) (d : PyData) (m n : Nat) : Prop where
  rep : Rep H v d
  lay : d.canLay0 = true
  dep : d.depth ≤ m
  len : (txt d).length ≤ n
structure GdA (H : Hp) (vs : List V) (ds : List PyData) (m n : Nat) : Prop where
  rep : RepA H vs ds
  all : ∀ d ∈ ds, d.canLay0 = true ∧ d.depth ≤ m ∧ (txt d).length ≤ n
theorem GdA.nil : GdA H [] [] m n := ⟨.nil, fun _ z => nomatch z⟩
theorem GdA.cons {v : V} {d : PyData} {vs : List V} {ds : List PyData} (h : Gd H v d m n) (r : GdA H vs ds m n) : GdA H (v :: vs) (d :: ds) m n := ⟨.cons h.rep r.rep, fun x z => by
  rcases List.mem_cons.mp z with rfl | z
  · exact ⟨h.lay, h.dep, h.len⟩
  · exact r.all x z⟩
theorem Gd.wk {v : V} {d : PyData} (h : Gd H v d m n) (a : m ≤ m' := by decide) (b : n ≤ n' := by decide) : Gd H v d m' n' := ⟨h.rep, h.lay, Nat.le_trans h.dep a, Nat.le_trans h.len b⟩
theorem layA : ∀ {ds : List PyData}, (∀ d ∈ ds, d.canLay0 = true) → PyData.canLayAll0 ds = true
  | [], _ => by simp [PyData.canLayAll0]
  | d :: r, h => by
    rw [PyData.canLayAll0, h d (List.mem_cons_self ..), layA fun x z => h x (List.mem_cons_of_mem _ z)]
    rfl
theorem depA : ∀ {ds : List PyData}, (∀ d ∈ ds, d.depth ≤ m) → PyData.depthAll ds ≤ m
  | [], _ => by simp [PyData.depthAll]
  | d :: r, h => by
    rw [PyData.depthAll]
    exact Nat.max_le.mpr ⟨h d (List.mem_cons_self ..), depA fun x z => h x (List.mem_cons_of_mem _ z)⟩
theorem txA : ∀ {ds : List PyData}, (∀ d ∈ ds, (txt d).length ≤ n) → ∀ t ∈ txtA ds, t.length ≤ n
  | [], _, _, z => nomatch z
  | d :: r, h, t, z => by
    rcases List.mem_cons.mp z with rfl | z
    · exact h d (List.mem_cons_self ..)
    · exact txA (fun x y => h x (List.mem_cons_of_mem _ y)) t z
theorem txL : ∀ {ds : List PyData}, (txtA ds).length = ds.length
  | [] => rfl
  | _ :: r => congrArg (· + 1) (txL (ds := r))
theorem repL : ∀ {vs : List V} {ds : List PyData}, RepA H vs ds → vs.length = ds.length
  | _, _, .nil => rfl
  | _, _, .cons _ r => congrArg (· + 1) (repL r)
theorem Gd.tup {a : Addr} {vs : List V} {ds : List PyData} (e : H a = some (.tup vs)) (h : GdA H vs ds m n) {c : Nat} (hc : vs.length ≤ c) : Gd H (.ref a) (.tuple ds) (m + 1) (c * (n + 2) + 3) := by
  refine ⟨.tup e h.rep, ?_, ?_, ?_⟩
  · rw [PyData.canLay0]; exact layA fun d z => (h.all d z).1
  · rw [PyData.depth]; exact Nat.succ_le_succ (depA fun d z => (h.all d z).2.1)
  · rw [txt]
    have h1 := tupleText_le (txtA ds)
    have h2 := piled_le (txA fun d z => (h.all d z).2.2)
    rw [txL, ← repL h.rep] at h2
    have h3 := Nat.mul_le_mul_right (n + 2) hc
    omega
theorem Gd.lst {a : Addr} {vs : List V} {ds : List PyData} (e : H a = some (.lst vs)) (h : GdA H vs ds m n) {c : Nat} (hc : vs.length ≤ c) : Gd H (.ref a) (.list ds) (m + 1) (c * (n + 2) + 3) := by
  refine ⟨.lst e h.rep, ?_, ?_, ?_⟩
  · rw [PyData.canLay0]; exact layA fun d z => (h.all d z).1
  · rw [PyData.depth]; exact Nat.succ_le_succ (depA fun d z => (h.all d z).2.1)
  · rw [txt]
    have h1 := listText_le (txtA ds)
    have h2 := piled_le (txA fun d z => (h.all d z).2.2)
    rw [txL, ← repL h.rep] at h2
    have h3 := Nat.mul_le_mul_right (n + 2) hc
    omega
theorem paired_in {α β : Type} {R S : α → β → Prop} : ∀ {xs : List α} {ys : List β}, (∀ a b, b ∈ ys → R a b → S a b) → Paired R xs ys → Paired S xs ys
  | _, _, _, .nil => .nil
  | _, _, h, .cons a r => .cons (h _ _ (List.mem_cons_self ..) a) (paired_in (fun a b m => h a b (List.mem_cons_of_mem _ m)) r)
theorem GdA.of {α : Type} {f : α → PyData} : ∀ {as : List Addr} {xs : List α}, Paired (fun a x => Gd H (.ref a) (f x) m n) as xs → GdA H (as.map V.ref) (xs.map f) m n
  | _, _, .nil => .nil
  | _, _, .cons h r => .cons h (GdA.of r)
theorem nm_txt : ∀ x ∈ nmAll, (txt (.str x)).length ≤ 20 := by decide +kernel
theorem int_txt : ∀ x : Fin 61, (txt (.int (x.val : Int))).length ≤ 20 := by decide +kernel
theorem Gd.nm {x : Str} (h : x ∈ nmAll) : Gd H (.str x) (.str x) 0 20 := ⟨.str x, nm_lay x h, by simp [PyData.depth], nm_txt x h⟩
theorem Gd.int {i : Int} (h0 : 0 ≤ i) (h1 : i ≤ 60) : Gd H (.int i) (.int i) 0 20 := by
  obtain ⟨k, rfl⟩ := Int.eq_ofNat_of_zero_le h0
  have hk : k < 61 := by omega
  refine ⟨.int _ ?_, by simp [PyData.canLay0], by simp [PyData.depth], int_txt ⟨k, hk⟩⟩
  have h2 : (k : Int).natAbs = k := rfl
  rw [h2]
  exact Nat.lt_of_le_of_lt (Nat.log2_le_self k) (by omega)
theorem GdA.strs : ∀ {ns : List Str}, (∀ x ∈ ns, x ∈ nmAll) → GdA H (ns.map V.str) (ns.map PyData.str) 0 20
  | [], _ => .nil
  | x :: r, h => .cons (.nm (h x (List.mem_cons_self ..))) (GdA.strs fun y z => h y (List.mem_cons_of_mem _ z))
def vD : V → PyData
  | .bl b => .bool b
  | .int i => .int i
  | .str x => .str x
  | _ => .none
def ndD (its : List V) : PyData := .tuple (its.map vD)
def grD (g : List (List V)) : PyData := .tuple (g.map ndD)
def kdD (k : Kd) : PyData := .tuple [.str k.name, .int k.keep, .int k.bar, .tuple (k.gs.map grD)]
def bkD (rows : List Str) (ks : List Kd) : PyData := .tuple [.tuple (rows.map PyData.str), .tuple (ks.map kdD)]
theorem Gd.need {rows names its : List _} {a : Addr} (hr : ∀ x ∈ rows, x ∈ nmAll) (hn : ∀ x ∈ names, x ∈ nmAll) (e : H a = some (.tup its)) (h : NeedV rows names its) : Gd H (.ref a) (ndD its) 1 113 := by
  have key : GdA H its (its.map vD) 0 20 ∧ its.length ≤ 5 := by
    cases h with
    | row n t m h t0 t4 m0 m9 => exact ⟨.cons (.nm (by decide +kernel)) (.cons (.nm (hr _ h)) (.cons (.int t0 (by omega)) (.cons (.int m0 (by omega)) .nil))), Nat.le_succ 4⟩
    | kind n b t m h a1 a9 t0 t4 m0 m9 => exact ⟨.cons (.nm (by decide +kernel)) (.cons (.nm (hn _ h)) (.cons (.int (by omega) (by omega)) (.cons (.int t0 (by omega)) (.cons (.int m0 (by omega)) .nil)))), Nat.le_refl 5⟩
  exact Gd.tup e key.1 key.2
theorem Gd.ground {rows names : List Str} {g : List (List V)} {a : Addr} (hr : ∀ x ∈ rows, x ∈ nmAll) (hn : ∀ x ∈ names, x ∈ nmAll) (e : KaG.Grd H a g) (hl : g.length ≤ 3) (h : ∀ n ∈ g, NeedV rows names n) : Gd H (.ref a) (grD g) 2 348 := by
  obtain ⟨ns, e1, p⟩ := e
  have q : Paired (fun n its => Gd H (.ref n) (ndD its) 1 113) ns g := paired_in (fun n its m e => Gd.need hr hn e (h its m)) p
  exact Gd.tup e1 (GdA.of q) (by rw [List.length_map, paired_len p]; exact hl)
theorem Gd.kind {rows : List Str} {ks : List Kd} {k : Kd} {a : Addr} (hO : BookOk rows ks) (mk : k ∈ ks) (e : KdAt H a k) : Gd H (.ref a) (kdD k) 4 5631 := by
  obtain ⟨gt, gas, e1, e2, p⟩ := e
  obtain ⟨a1, a2, b1, b2, hg⟩ := hO.num k mk
  have q : Paired (fun ga g => Gd H (.ref ga) (grD g) 2 348) gas k.gs := paired_in (fun ga g m e => Gd.ground hO.rw.of hO.nm.of e (hO.grd k mk g m).2.1 (hO.grd k mk g m).2.2) p
  have t := Gd.tup e2 (GdA.of q) (c := 4) (by rw [List.length_map, paired_len p]; exact hg)
  have y := Gd.tup e1 (.cons ((Gd.nm (hO.nm.of _ (List.mem_map_of_mem mk))).wk (m' := 3) (n' := 1403)) (.cons ((Gd.int (by omega) (by omega)).wk (m' := 3) (n' := 1403)) (.cons ((Gd.int b1 (by omega)).wk (m' := 3) (n' := 1403)) (.cons t .nil)))) (c := 4) (Nat.le_refl 4)
  exact y.wk
theorem Gd.book {rows : List Str} {ks : List Kd} {b : Addr} (hA : BookAt H b rows ks) (hO : BookOk rows ks) : Gd H (.ref b) (bkD rows ks) 6 60000 := by
  obtain ⟨r, kt, kas, e1, e2, e3, p⟩ := hA
  have q : Paired (fun ka k => Gd H (.ref ka) (kdD k) 4 5631) kas ks := paired_in (fun ka k m e => Gd.kind hO m e) p
  have t := Gd.tup e3 (GdA.of q) (c := 5) (by rw [List.length_map, paired_len p]; exact hO.k5)
  have hr : rows.length ≤ 15 := by
    have h := List.Nodup.length_le_of_subset hO.rw.nd (l₂ := nmAll) fun x m => hO.rw.of x m
    exact h
  have y := Gd.tup e2 (GdA.strs hO.rw.of) (c := 15) (by rw [List.length_map]; exact hr)
  have z := Gd.tup e1 (.cons (y.wk (m' := 5) (n' := 28168)) (.cons (t.wk (m' := 5) (n' := 28168)) .nil)) (c := 2) (Nat.le_refl 2)
  exact z.wk
def plD (p : Plc) : PyData := .tuple [.str p.1, .int (p.2.1 : Int), .int (p.2.2 : Int)]
theorem Gd.pl {a : Addr} {p : Plc} (e : H a = some (.tup [.str p.1, .int (p.2.1 : Int), .int (p.2.2 : Int)])) (hn : p.1 ∈ nmAll) (h1 : p.2.1 ≤ 60) (h2 : p.2.2 ≤ 60) : Gd H (.ref a) (plD p) 1 69 :=
  Gd.tup e (.cons (.nm hn) (.cons (.int (by omega) (by omega)) (.cons (.int (by omega) (by omega)) .nil))) (c := 3) (Nat.le_refl 3)
end
end KaG
set_option maxRecDepth 100000
set_option maxHeartbeats 4000000
namespace KaG
open PySem PySem.Spec PyProof.Rows L2 KaC
open Classical in
noncomputable def itsOf (ks : List Kd) (p : Plc) : List V := if h : ∃ its, needAt ks p its then h.choose else []
theorem Rep.there {H : Hp} {b : Addr} {d : PyData} (h : Rep H (.ref b) d) : H b ≠ none := by
  cases h with
  | lst e => rw [e]; exact fun z => nomatch z
  | tup e => rw [e]; exact fun z => nomatch z
/-- what stands around the loops of `_law_is_book_told` -/
structure Tw (K : PySem.W.Frag) (H0 G : Hp) (bg b : Addr) (rows : List Str) (ks : List Kd) (kas : List Addr) (kd pl nl : Addr) (ps ns : List Addr) : Prop where
  ext : Ext bg H0 G
  bk : BookAt G b rows ks
  ka : KasOf G b kas
  ekd : G kd = some (.dK (kvsOf ks kas))
  nkd : H0 kd = none
  epl : G pl = some (.lst (ps.map V.ref))
  npl : H0 pl = none
  pa : PlAt G ps (placesOf ks)
  lp : ps.length ≤ 60
  enl : G nl = some (.lst (ns.map V.ref))
  nnl : H0 nl = none
  na : Paired (fun q p => needAt ks p (itsOf ks p) ∧ G q = some (.tup (itsOf ks p))) ns (placesOf ks)
theorem keep_in {bg : Addr} {H0 G G' : Hp} {a : Addr} {o : HO} (hB : Bag H0 bg) (E : Ext bg G G') (n : H0 a = none) (e : G a = some o) : G' a = some o := E.keep a o (fun z => hB.there (z ▸ n)) e
theorem Tw.go {K : PySem.W.Frag} {H0 G G' : Hp} {bg b : Addr} {rows : List Str} {ks : List Kd} {kas : List Addr} {kd pl nl : Addr} {ps ns : List Addr} (hB : Bag H0 bg) (h : Tw K H0 G bg b rows ks kas kd pl nl ps ns) (E : Ext bg G G') : Tw K H0 G' bg b rows ks kas kd pl nl ps ns := by
  have s := TSame.ext h.ext.bag E
  obtain ⟨r, kt, e1, e2⟩ := h.ka
  exact ⟨h.ext.trans E, h.bk.ts s, ⟨r, kt, s _ _ e1, s _ _ e2⟩, keep_in hB E h.nkd h.ekd, h.nkd, keep_in hB E h.npl h.epl, h.npl, h.pa.ts s, h.lp, keep_in hB E h.nnl h.enl, h.nnl, Paired.mono' (fun q p z => ⟨z.1, s _ _ z.2⟩) h.na⟩
end KaG
set_option maxRecDepth 100000
set_option maxHeartbeats 4000000
namespace KaG
open PySem PySem.Spec PyProof.Rows L2 KaC
theorem Gd.names {H : Hp} {l : Addr} {ns : List Str} (e : H l = some (.lst (ns.map V.str))) (hn : ∀ x ∈ ns, x ∈ nmAll) (hl : ns.length ≤ 5) : Gd H (.ref l) (.list (ns.map PyData.str)) 1 113 := Gd.lst e (GdA.strs hn) (c := 5) (by rw [List.length_map]; exact hl)
end KaG
set_option maxRecDepth 100000
set_option maxHeartbeats 4000000
namespace KaG
open PySem PySem.Spec PyProof.Rows L2 KaC LamX NdefX
theorem iteD {c : Bool} {A B : Prop} (hc : c = true) (h : A) : if c = true then A else B := by
  rw [hc]
  exact h
theorem iteDF {c : Bool} {A B : Prop} (hc : c = false) (h : B) : if c = true then A else B := by
  rw [hc]
  exact h
end KaG
set_option maxRecDepth 100000
set_option maxHeartbeats 4000000
namespace KaG
open PySem PySem.Spec PyProof.Rows L2 KaC LamX NdefX
theorem ixV_at {xs : List Nat} {j : Nat} {x : V} (h : (ixV xs)[j]? = some x) : ∃ i, xs[j]? = some i ∧ x = .int (i : Int) := by
  unfold ixV at h
  rw [List.getElem?_map] at h
  obtain ⟨i, hi, rfl⟩ := Option.map_eq_some_iff.mp h
  exact ⟨i, hi, rfl⟩
/-- what a dict of all kinds has at a name -/
theorem kvs_get {R : Addr → Kd → Prop} : ∀ {ks : List Kd} {ls : List Addr} {k : Kd}, (ks.map Kd.name).Nodup → Paired R ls ks → k ∈ ks → ∃ l, valV (kvsOf ks ls) (Sum.inr k.name) = some (.ref l) ∧ R l k
  | [], _, _, _, _, m => nomatch m
  | q :: r, _, k, nd, .cons (a := l) (l₁ := ls) h t, m => by
    have e : kvsOf (q :: r) (l :: ls) = (Sum.inr q.name, V.ref l) :: kvsOf r ls := rfl
    rw [e]
    rw [List.map_cons, List.nodup_cons] at nd
    rcases List.mem_cons.mp m with z | z
    · rw [z]
      exact ⟨l, valV_pos rfl, h⟩
    · rw [valV_neg (fun y => nd.1 (by rw [show q.name = k.name from Sum.inr.inj y]; exact List.mem_map_of_mem z))]
      exact kvs_get nd.2 t z
/-- the live indexes of all kinds in the dict at d -/
structure LiveH (H : Hp) (d : Addr) (ks : List Kd) (ls : List Addr) : Prop where
  d : H d = some (.dK (kvsOf ks ls))
  l : Paired (fun (l : Addr) (k : Kd) => H l = some (.lst (ixV (liveIx ks (bearOf ks) k.name)))) ls ks
theorem LiveH.keep {H H' : Hp} {d : Addr} {ks : List Kd} {ls : List Addr} (h : LiveH H d ks ls) (kd : ∀ b kvs, H b = some (.dK kvs) → H' b = some (.dK kvs)) (kl : ∀ b xs, H b = some (.lst xs) → H' b = some (.lst xs)) : LiveH H' d ks ls := ⟨kd _ _ h.d, Paired.mono' (fun _ _ z => kl _ _ z) h.l⟩
theorem LiveH.same {H H' : Hp} {d : Addr} {ks : List Kd} {ls : List Addr} (h : LiveH H d ks ls) (s : Same H H') : LiveH H' d ks ls := h.keep (fun _ _ e => s _ _ e) fun _ _ e => s _ _ e
end KaG
set_option maxRecDepth 100000
set_option maxHeartbeats 4000000
namespace KaG
open PySem PySem.Spec PyProof.Rows L2 KaC LamX NdefX
noncomputable def cleanOf (ks : List Kd) (S : List Str) : List Str := lfp (nmsOf ks) (jC ks (bearOf ks) S)
theorem Ex.dk {T : List NTab} {H H' : Hp} (a : Ex T H H') {b : Addr} {xs : List (Key × V)} (e : H b = some (.dK xs)) : H' b = some (.dK xs) := a.ext b _ e fun _ z => nomatch z
theorem LiveH.ex {T : List NTab} {H H' : Hp} {d : Addr} {ks : List Kd} {ls : List Addr} (h : LiveH H d ks ls) (x : Ex T H H') : LiveH H' d ks ls := h.keep (fun _ _ e => x.dk e) fun _ _ e => x.lst e
end KaG
set_option maxRecDepth 100000
set_option maxHeartbeats 4000000
namespace KaG
open PySem PySem.Spec PyProof.Rows L2 KaC LamX NdefX
noncomputable def ableOf (ks : List Kd) (S : List Str) : List Str := lfp (nmsOf ks) (jA ks (bearOf ks) S (cleanOf ks S))
def rLen (K : PySem.W.Frag) : List V → Hp → VK → Prop := fun xs H Q => ∃ p ys, xs = [.ref p] ∧ (SqL K H p ys ∨ SqT K H p ys) ∧ Q (.int ys.length) H
end KaG
set_option maxRecDepth 100000
set_option maxHeartbeats 4000000
namespace KaG
open PySem PySem.Spec PyProof.Rows L2 KaC LamX NdefX
/-- what must be old for an old answer from a ground -/
def oldPl (S C A : List Str) (g : Gr) : Str × List Nat := if !(forcedPl S C g).isEmpty then ("all", forcedPl S C g) else if !(placesOn g A).isEmpty then ("one", placesOn g A) else ("none", [])
end KaG
set_option maxRecDepth 100000
set_option maxHeartbeats 4000000
namespace KaG
open PySem PySem.Spec PyProof.Rows L2 KaC
abbrev KdT (H : Hp) (t : Addr) (k : Kd) : Prop := ∃ (gt : Addr) (gas : List Addr), H t = some (.tup [.int k.keep, .int k.bar, .ref gt]) ∧ H gt = some (.tup (gas.map V.ref)) ∧ Paired (fun ga g => Grd H ga g) gas k.gs
theorem KdT.ts {H H' : Hp} {t : Addr} {k : Kd} (h : KdT H t k) (s : TSame H H') : KdT H' t k := by
  obtain ⟨gt, gas, e1, e2, p⟩ := h
  exact ⟨gt, gas, s _ _ e1, s _ _ e2, Paired.mono' (fun a b q => Grd.ts q s) p⟩
/-- the dict of the kinds by their names -/
structure KdsD (H : Hp) (d : Addr) (ks : List Kd) (ts : List Addr) : Prop where
  d : H d = some (.dK (kvsOf ks ts))
  t : Paired (KdT H) ts ks
theorem KdsD.same {H H' : Hp} {d : Addr} {ks : List Kd} {ts : List Addr} (h : KdsD H d ks ts) (s : Same H H') : KdsD H' d ks ts := ⟨s _ _ h.d, Paired.mono' (fun _ _ q => KdT.ts q (TSame.of s)) h.t⟩
end KaG
set_option maxRecDepth 100000
set_option maxHeartbeats 4000000
set_option maxRecDepth 100000
set_option maxHeartbeats 4000000
namespace KaG
open PySem PySem.Spec PyProof.Rows L2 KaC
structure Pg (names : List Str) (J : Jn) (t j : Nat) (F : List Str) : Prop where
  ch : Chs names J F
  or : Clo names J F ∨ (t ≤ F.length ∧ ((∀ n ∈ names.take j, J n F = true → n ∈ F) ∨ t + 1 ≤ F.length))
theorem Pg.done {names : List Str} {J : Jn} {t : Nat} {F : List Str} (h : Pg names J t names.length F) : Clo names J F ∨ t + 1 ≤ F.length := by
  rcases h.or with c | ⟨_, c | c⟩
  · exact .inl c
  · rw [List.take_length] at c
    exact .inl c
  · exact .inr c
theorem Chs.clo {names : List Str} {J : Jn} {F : List Str} (nd : names.Nodup) (h : Chs names J F) (o : Clo names J F ∨ names.length ≤ F.length) : Clo names J F := o.elim id fun e n mn _ => h.full nd e n mn
end KaG
set_option maxRecDepth 100000
set_option maxHeartbeats 4000000
set_option maxRecDepth 100000
set_option maxHeartbeats 4000000
namespace KaG
open PySem PySem.Spec PyProof.Rows L2 KaC
structure Pk (names : List Str) (J : Jn) (t j : Nat) (F : List Str) (n : Str) (xs : List Nat) (jk : Nat → List Str → Bool) (i : Nat) : Prop where
  ch : Chs names J F
  or : Clo names J F ∨ (t ≤ F.length ∧ (((∀ m ∈ names.take j, J m F = true → m ∈ F) ∧ ∀ k ∈ xs.take i, jk k F = true → n ∈ F) ∨ t + 1 ≤ F.length))
section
variable {names : List Str} {J : Jn} {t j i : Nat} {F : List Str} {n : Str} {xs : List Nat} {jk : Nat → List Str → Bool}
theorem Pk.done (h : Pk names J t j F n xs jk xs.length) (hJ : J n F = true → ∃ k ∈ xs, jk k F = true) (hn : names[j]? = some n) : Pg names J t (j + 1) F := by
  refine ⟨h.ch, h.or.imp id fun ⟨c, d⟩ => ⟨c, d.imp (fun y m mm => ?_) id⟩⟩
  rw [List.take_add_one, hn] at mm
  rcases List.mem_append.mp mm with z | z
  · exact y.1 m z
  · rw [List.mem_singleton.mp (show m ∈ [n] from z)]
    intro e
    obtain ⟨k, mk, ek⟩ := hJ e
    exact y.2 k (by rw [List.take_length]; exact mk) ek
end
end KaG
set_option maxRecDepth 100000
set_option maxHeartbeats 4000000
set_option maxRecDepth 100000
set_option maxHeartbeats 4000000
set_option maxRecDepth 100000
set_option maxHeartbeats 4000000
namespace KaN
open PySem PySem.Calls PyProof.Rows PySem.W PySem.SeqAt
end KaN
namespace KaN
open PySem PySem.Spec PyProof.Rows L2 PySem.W
end KaN
set_option maxRecDepth 100000
set_option maxHeartbeats 4000000
set_option maxRecDepth 100000
set_option maxHeartbeats 4000000
set_option maxRecDepth 100000
set_option maxHeartbeats 4000000
namespace KaG
open PySem PySem.Spec PyProof.Rows L2 KaC LamX NdefX
theorem ts_dk' {H : Hp} {p : Addr} {xs : List (Key × V)} {o : HO} (e : H p = some (.dK xs)) : TSame H (upd H p o) := fun b zs q => by
  rw [upd_ne (fun z => by rw [z, e] at q; cases q)]
  exact q
end KaG
set_option maxHeartbeats 1000000
namespace KaU
abbrev NEV : Int := 2000000
abbrev ALW : Int := -1000000
section
variable {α : Type} [DecidableEq α]
abbrev Nd (α : Type) := Option (α × Int)
def dN (x : α → Int) : Nd α → Int
  | none => 0
  | some (m, a) => if x m + a > 0 then x m + a else 0
theorem dN0 (x : α → Int) (d : Nd α) : 0 ≤ dN x d := by
  cases d with
  | none => exact Int.le_refl _
  | some p =>
    obtain ⟨m, a⟩ := p
    unfold dN
    dsimp only
    split <;> omega
theorem dN_mono {x y : α → Int} (h : ∀ n, x n ≤ y n) (d : Nd α) : dN x d ≤ dN y d := by
  cases d with
  | none => exact Int.le_refl _
  | some p =>
    obtain ⟨m, a⟩ := p
    have := h m
    unfold dN
    dsimp only
    split <;> split <;> omega
def up (x : α → Int) (n : α) (v : Int) : α → Int := fun m => if m = n then v else x m
theorem up_same (x : α → Int) (n : α) (v : Int) : up x n v n = v := if_pos rfl
theorem up_ne (x : α → Int) {n m : α} (v : Int) (h : m ≠ n) : up x n v m = x m := if_neg h
theorem up_le {x : α → Int} {n : α} {v : Int} (h : v ≤ x n) (m : α) : up x n v m ≤ x m := by
  unfold up
  split
  · rename_i e
    subst e
    exact h
  · exact Int.le_refl _
/-- what the grounds are -/
structure Gk (ns : List α) (L : α → List (List (Nd α))) : Prop where
  a : ∀ n, ∀ g ∈ L n, ∀ m b, some (m, b) ∈ g → m ∈ ns ∧ 1 ≤ b ∧ b ≤ 9
/-- the program's numbers at any moment -/
structure PI (L : α → List (List (Nd α))) (cl : α → Bool) (x : α → Int) : Prop where
  c : ∀ n, cl n = true → x n = ALW
  z : ∀ n, cl n = false → 0 ≤ x n
  le : ∀ n, x n ≤ NEV
  w : ∀ n, cl n = false → x n < NEV → ∃ g ∈ L n, ∀ d ∈ g, dN x d ≤ x n
/-- the least day of a kind's grounds, by x -/
def IsDay (L : α → List (List (Nd α))) (x : α → Int) (n : α) (day : Int) : Prop :=
  (day = NEV ∧ L n = []) ∨ ((∃ g ∈ L n, ∀ d ∈ g, dN x d ≤ day) ∧ ∀ g ∈ L n, ∃ d ∈ g, day ≤ dN x d)
theorem IsDay.nonneg {L : α → List (List (Nd α))} {x : α → Int} {n : α} {day : Int} (h : IsDay L x n day) : 0 ≤ day := by
  rcases h with ⟨rfl, _⟩ | ⟨⟨g, mg, h1⟩, h2⟩
  · decide
  · obtain ⟨d, md, _⟩ := h2 g mg
    exact Int.le_trans (dN0 x d) (h1 d md)
theorem PI.step {L : α → List (List (Nd α))} {cl : α → Bool} {x : α → Int} (h : PI L cl x) {n : α} {day : Int} (hd : IsDay L x n day) (lt : day < x n) : PI L cl (up x n day) := by
  have d0 := hd.nonneg
  have hc : cl n = false := by
    cases e : cl n with
    | false => rfl
    | true =>
      have h1 := h.c n e
      have h2 : ALW = (-1000000 : Int) := rfl
      omega
  have hn := h.le n
  have le := up_le (x := x) (n := n) (v := day) (Int.le_of_lt lt)
  refine ⟨fun m hm => ?_, fun m hm => ?_, fun m => Int.le_trans (le m) (h.le m), fun m hm hlt => ?_⟩
  · rw [up_ne x day (fun z => by rw [z, hc] at hm; cases hm)]
    exact h.c m hm
  · unfold up
    split
    · exact d0
    · exact h.z m hm
  · by_cases e : m = n
    · subst e
      rcases hd with ⟨rfl, _⟩ | ⟨⟨g, mg, h1⟩, _⟩
      · omega
      · refine ⟨g, mg, fun d md => ?_⟩
        rw [up_same]
        exact Int.le_trans (dN_mono le d) (h1 d md)
    · rw [up_ne x day e] at hlt ⊢
      obtain ⟨g, mg, h1⟩ := h.w m hm hlt
      exact ⟨g, mg, fun d md => Int.le_trans (dN_mono le d) (h1 d md)⟩
/-- nothing falls any more -/
def PF (ns : List α) (L : α → List (List (Nd α))) (x : α → Int) : Prop := ∀ n ∈ ns, ∀ g ∈ L n, ∃ d ∈ g, x n ≤ dN x d
def rk (ns : List α) (x : α → Int) (n : α) : Nat := (ns.filter fun m => decide (x m < x n)).length
theorem rk_lt {ns : List α} {x : α → Int} {m n : α} (hm : m ∈ ns) (h : x m < x n) : rk ns x m < rk ns x n := by
  unfold rk
  induction ns with
  | nil => cases hm
  | cons k r ih =>
    have sub : (r.filter fun q => decide (x q < x m)).length ≤ (r.filter fun q => decide (x q < x n)).length := by
      clear ih hm
      induction r with
      | nil => exact Nat.le_refl _
      | cons q r ih =>
        rw [List.filter_cons, List.filter_cons]
        by_cases e1 : x q < x m
        · rw [if_pos (decide_eq_true e1), if_pos (decide_eq_true (show x q < x n by omega))]
          exact Nat.succ_le_succ ih
        · rw [if_neg (by simpa using e1)]
          split
          · exact Nat.le_succ_of_le ih
          · exact ih
    rw [List.filter_cons, List.filter_cons]
    by_cases e : k = m
    · subst e
      rw [if_neg (by simp), if_pos (decide_eq_true h)]
      exact Nat.lt_succ_of_le sub
    · have ih := ih ((List.mem_cons.mp hm).resolve_left fun z => e z.symm)
      by_cases e1 : x k < x m
      · rw [if_pos (decide_eq_true e1), if_pos (decide_eq_true (show x k < x n by omega))]
        exact Nat.succ_lt_succ ih
      · rw [if_neg (by simpa using e1)]
        split
        · exact Nat.lt_succ_of_lt ih
        · exact ih
theorem rk_len {ns : List α} {x : α → Int} {n : α} (h : n ∈ ns) : rk ns x n < ns.length := by
  unfold rk
  induction ns with
  | nil => cases h
  | cons k r ih =>
    rw [List.filter_cons]
    by_cases e : k = n
    · subst e
      rw [if_neg (by simp)]
      exact Nat.lt_succ_of_le (List.length_filter_le ..)
    · have ih := ih ((List.mem_cons.mp h).resolve_left fun z => e z.symm)
      split
      · exact Nat.succ_lt_succ ih
      · exact Nat.lt_succ_of_lt ih
/-- each number that is told is small -/
theorem small {ns : List α} {L : α → List (List (Nd α))} {cl : α → Bool} {x : α → Int} (G : Gk ns L) (h : PI L cl x) (f : PF ns L x) : ∀ (r : Nat) (n : α), n ∈ ns → cl n = false → x n < NEV → rk ns x n ≤ r → x n ≤ 9 * r := by
  intro r
  induction r with
  | zero =>
    intro n mn hc lt hr
    obtain ⟨g, mg, h1⟩ := h.w n hc lt
    obtain ⟨d, md, h2⟩ := f n mn g mg
    have h3 := h1 d md
    cases d with
    | none => simpa [dN] using h2
    | some p =>
      obtain ⟨m, a⟩ := p
      obtain ⟨mm, a1, a9⟩ := G.a n g mg m a md
      unfold dN at h2 h3
      dsimp only at h2 h3
      split at h2
      · rename_i hpos
        rw [if_pos hpos] at h3
        have := rk_lt (x := x) (n := n) mm (by omega)
        omega
      · omega
  | succ r ih =>
    intro n mn hc lt hr
    obtain ⟨g, mg, h1⟩ := h.w n hc lt
    obtain ⟨d, md, h2⟩ := f n mn g mg
    have h3 := h1 d md
    cases d with
    | none =>
      have : x n ≤ 0 := by simpa [dN] using h2
      omega
    | some p =>
      obtain ⟨m, a⟩ := p
      obtain ⟨mm, a1, a9⟩ := G.a n g mg m a md
      unfold dN at h2 h3
      dsimp only at h2 h3
      split at h2
      · rename_i hpos
        rw [if_pos hpos] at h3
        cases hcm : cl m with
        | true =>
          have h4 := h.c m hcm
          have h5 : ALW = (-1000000 : Int) := rfl
          omega
        | false =>
          have h6 := rk_lt (x := x) (n := n) mm (by omega)
          have := ih m mm hcm (by omega) (by omega)
          omega
      · omega
theorem small36 {ns : List α} {L : α → List (List (Nd α))} {cl : α → Bool} {x : α → Int} (G : Gk ns L) (h : PI L cl x) (f : PF ns L x) (l5 : ns.length ≤ 5) {n : α} (mn : n ∈ ns) (hc : cl n = false) (lt : x n < NEV) : x n ≤ 36 := by
  have h1 := rk_len (x := x) mn
  have := small G h f 4 n mn hc lt (by omega)
  omega
structure LI (ns : List α) (cl : α → Bool) (x y : α → Int) (t : Nat) (D : List α) : Prop where
  lo : ∀ n ∈ ns, cl n = false → 1000 ≤ y n ∨ x n ≤ y n
  up : ∀ n ∈ ns, cl n = false → x n < NEV → (rk ns x n < t ∨ (rk ns x n ≤ t ∧ n ∈ D)) → y n ≤ x n
/-- the greatest of 0 and the days of a ground's needs on kinds that are not clean -/
structure IsV (cl : α → Bool) (y : α → Int) (g : List (Nd α)) (v : Int) : Prop where
  z : 0 ≤ v
  ge : ∀ m b, some (m, b) ∈ g → cl m = false → y m + b ≤ v
  at_ : v = 0 ∨ ∃ m b, some (m, b) ∈ g ∧ cl m = false ∧ v = y m + b
abbrev minV (a v : Int) : Int := if v < a then v else a
theorem minV_le (a v : Int) : minV a v ≤ a ∧ minV a v ≤ v := by
  unfold minV
  split <;> omega
theorem minV_or (a v : Int) : minV a v = a ∨ minV a v = v := by
  unfold minV
  split
  · exact .inr rfl
  · exact .inl rfl
theorem LI.step {ns : List α} {L : α → List (List (Nd α))} {cl : α → Bool} {x y : α → Int} {t : Nat} {D : List α} (G : Gk ns L) (h : PI L cl x) (f : PF ns L x) (l : LI ns cl x y t D) {n : α} (mn : n ∈ ns) {g : List (Nd α)} (mg : g ∈ L n) {v : Int} (hv : IsV cl y g v) :
    LI ns cl x (KaU.up y n (minV (y n) v)) t D ∧ (cl n = false → x n < NEV → (∀ d ∈ g, dN x d ≤ x n) → rk ns x n ≤ t → minV (y n) v ≤ x n) := by
  have hle := minV_le (y n) v
  refine ⟨⟨fun m mm hm => ?_, fun m mm hm lt hr => ?_⟩, fun hc lt hg hr => ?_⟩
  · by_cases e : m = n
    · subst e
      rw [up_same]
      rcases minV_or (y m) v with e1 | e1
      · rw [e1]
        exact l.lo m mm hm
      · rw [e1]
        obtain ⟨d, md, hd⟩ := f m mn g mg
        have z := hv.z
        cases d with
        | none =>
          have hd : x m ≤ 0 := hd
          exact .inr (by omega)
        | some p =>
          obtain ⟨q, a⟩ := p
          obtain ⟨mq, a1, a9⟩ := G.a m g mg q a md
          unfold dN at hd
          dsimp only at hd
          split at hd
          · rename_i hpos
            cases hcq : cl q with
            | true =>
              have h4 := h.c q hcq
              have h5 : ALW = (-1000000 : Int) := rfl
              omega
            | false =>
              have h6 := hv.ge q a md hcq
              rcases l.lo q mq hcq with h7 | h7
              · exact .inl (by omega)
              · exact .inr (by omega)
          · exact .inr (by omega)
    · rw [up_ne y _ e]
      exact l.lo m mm hm
  · have := l.up m mm hm lt hr
    by_cases e : m = n
    · subst e
      rw [up_same]
      omega
    · rw [up_ne y _ e]
      exact this
  · rcases hv.at_ with e | ⟨q, b, mq, hcq, e⟩
    · have := h.z n hc
      omega
    · obtain ⟨mq', b1, b9⟩ := G.a n g mg q b mq
      have h1 := hg _ mq
      unfold dN at h1
      dsimp only at h1
      have hq0 := h.z q hcq
      rw [if_pos (by omega)] at h1
      have h2 := rk_lt (x := x) (n := n) mq' (by omega)
      have h3 := l.up q mq' hcq (by omega) (.inl (by omega))
      omega
/-- behind all turns both say the same -/
theorem LI.done {ns : List α} {L : α → List (List (Nd α))} {cl : α → Bool} {x y : α → Int} {t : Nat} {D : List α} (G : Gk ns L) (h : PI L cl x) (f : PF ns L x) (l5 : ns.length ≤ 5) (l : LI ns cl x y t D) (ht : ns.length ≤ t) {n : α} (mn : n ∈ ns) (hc : cl n = false) : (x n < NEV → y n = x n ∧ y n < 1000) ∧ (¬ x n < NEV → ¬ y n < 1000) := by
  refine ⟨fun lt => ?_, fun nl => ?_⟩
  · have h1 := l.up n mn hc lt (.inl (by have := rk_len (x := x) mn; omega))
    have h2 := small36 G h f l5 mn hc lt
    rcases l.lo n mn hc with z | z
    · omega
    · exact ⟨by omega, by omega⟩
  · rcases l.lo n mn hc with z | z
    · omega
    · have : NEV = (2000000 : Int) := rfl
      omega
end
end KaU
set_option maxRecDepth 100000
set_option maxHeartbeats 1000000
namespace KaG
open PySem PySem.Spec PyProof.Rows L2 KaC KaU
noncomputable def lvG (ks : List Kd) (n : Str) : List Gr := (liveIx ks (bearOf ks) n).map (grAt ks n)
theorem grAt_at {ks : List Kd} {n : Str} {i : Nat} {g : Gr} (h : (gsOf ks n)[i]? = some g) : grAt ks n i = g := by
  unfold grAt
  rw [List.getD_eq_getElem?_getD, h]
  rfl
end KaG
set_option maxRecDepth 100000
set_option maxHeartbeats 4000000
namespace KaN
open PySem PySem.Calls PyProof.Rows PySem.W PySem.SeqAt
end KaN
namespace KaN
open PySem PySem.Spec PyProof.Rows L2 PySem.W
end KaN
set_option maxRecDepth 100000
set_option maxHeartbeats 4000000
namespace KaG
open PySem PySem.Spec PyProof.Rows L2 KaC KaN
abbrev Lot := List Str
end KaG
set_option maxRecDepth 100000
set_option maxHeartbeats 4000000
namespace KaG
open PySem PySem.Spec PyProof.Rows L2 KaC KaN
open Classical in
theorem lfp_isL {names : List Str} {J : Jn} (mo : Mono J) : IsL names J (lfp names J) := by
  have : ∃ B, IsL names J B := by
    refine ⟨names.filter fun n => decide (∀ S, Clo names J S → n ∈ S), ?_, fun n mn hj => ?_, fun S hS n m => ?_⟩
    · refine List.filter_congr fun n mn => ?_
      refine decide_eq_decide.mpr ⟨fun h => List.mem_filter.mpr ⟨mn, decide_eq_true h⟩, fun h => ?_⟩
      exact of_decide_eq_true (List.mem_filter.mp h).2
    · refine List.mem_filter.mpr ⟨mn, decide_eq_true fun S hS => hS n mn (mo n _ S (fun x mx => ?_) hj)⟩
      exact of_decide_eq_true (List.mem_filter.mp mx).2 S hS
    · exact of_decide_eq_true (List.mem_filter.mp m).2 S hS
  obtain ⟨B, hB⟩ := this
  rw [← hB.eq]
  exact hB
theorem bear_isL (ks : List Kd) : IsL (nmsOf ks) (jB ks) (bearOf ks) := lfp_isL (jB_mono ks)
end KaG
set_option maxRecDepth 100000
set_option maxHeartbeats 4000000
namespace KaG
open PySem PySem.Spec PyProof.Rows L2 KaC KaN
/-- the empty lot first, or nowhere -/
def LotsOk (lots : List Lot) : Prop := (∃ r, lots = [] :: r) ∨ ∀ l ∈ lots, l ≠ []
theorem LotsOk.filter {lots : List Lot} (h : LotsOk lots) (p : Lot → Bool) (hn : lots.Nodup) : LotsOk (lots.filter p) := by
  rcases h with ⟨r, rfl⟩ | h
  · cases e : p [] with
    | true => exact .inl ⟨r.filter p, List.filter_cons_of_pos e⟩
    | false =>
      rw [List.filter_cons_of_neg (by rw [e]; simp)]
      refine .inr fun l m z => ?_
      rw [List.nodup_cons] at hn
      exact hn.1 (z ▸ (List.mem_filter.mp m).1)
  · exact .inr fun l m => h l (List.mem_filter.mp m).1
end KaG
set_option maxRecDepth 100000
set_option maxHeartbeats 4000000
set_option maxRecDepth 100000
set_option maxHeartbeats 4000000
namespace KaG
open PySem PySem.Spec PyProof.Rows L2 KaC KaN
/-- lots of names of the draws, none long -/
def LotsB (lots : List Lot) : Prop := ∀ l ∈ lots, l.length ≤ 5 ∧ ∀ x ∈ l, x ∈ nmAll
end KaG
set_option maxRecDepth 100000
set_option maxHeartbeats 4000000
set_option maxRecDepth 100000
set_option maxHeartbeats 4000000
namespace KaG
open PySem PySem.Spec PyProof.Rows L2 KaC KaN
/-- what both sides go through: all lots, in order -/
structure LotsR (rows : List Str) (L : List Lot) : Prop where
  n : L.Nodup
  l32 : L.length ≤ 32
  b : LotsB L
  ok : LotsOk L
theorem LotsR.filter {rows : List Str} {L : List Lot} (h : LotsR rows L) (p : Lot → Bool) : LotsR rows (L.filter p) :=
  ⟨h.n.sublist List.filter_sublist, Nat.le_trans (List.length_filter_le ..) h.l32, fun l m => h.b l (List.mem_filter.mp m).1, h.ok.filter p h.n⟩
end KaG
set_option maxRecDepth 100000
set_option maxHeartbeats 4000000
namespace KaN
open PySem PySem.Spec PyProof.Rows L2 PySem.W
end KaN
set_option maxRecDepth 100000
set_option maxHeartbeats 4000000
namespace KaG
open PySem PySem.Spec PyProof.Rows L2 KaC KaN LamX NdefX KaU
def fUp (f : Str → Option Int) (n : Str) (v : Int) : Str → Option Int := fun m => if n = m then some v else f m
/-- whole numbers by names -/
structure DkF (kvs : List (Key × V)) (f : Str → Option Int) (names : List Str) : Prop where
  g : ∀ n, valV kvs (Sum.inr n) = (f n).map V.int
  nd : (kvs.map (·.1)).Nodup
  sb : ∀ k ∈ kvs.map (·.1), k ∈ names.map (Sum.inr : Str → Key)
theorem DkF.nil {names : List Str} : DkF [] (fun _ => none) names := ⟨fun _ => rfl, List.nodup_nil, fun _ m => nomatch m⟩
theorem DkF.len {kvs : List (Key × V)} {f : Str → Option Int} {names : List Str} (h : DkF kvs f names) : kvs.length ≤ names.length := by
  have := List.Nodup.length_le_of_subset h.nd h.sb
  rw [List.length_map, List.length_map] at this
  exact this
theorem keys_put {kvs : List (Key × V)} {k : Key} {v : V} : (valV kvs k = none ∧ (putK kvs k v).map (·.1) = kvs.map (·.1) ++ [k]) ∨ (putK kvs k v).map (·.1) = kvs.map (·.1) := by
  cases e : valV kvs k with
  | none =>
    left
    rw [putK_new v e, List.map_append]
    exact ⟨rfl, rfl⟩
  | some u =>
    right
    unfold putK
    have ha : (kvs.any fun kv => decide (kv.1 = k)) = true := by
      unfold valV at e
      obtain ⟨p, hp, _⟩ := Option.map_eq_some_iff.mp e
      have h1 := List.find?_some hp
      exact List.any_eq_true.mpr ⟨p, List.mem_of_find?_eq_some hp, h1⟩
    rw [if_pos ha, List.map_map]
    refine List.map_congr_left fun p _ => ?_
    show (if p.1 = k then (p.1, v) else p).1 = p.1
    split <;> rfl
theorem DkF.put {kvs : List (Key × V)} {f : Str → Option Int} {names : List Str} (h : DkF kvs f names) {n : Str} (v : Int) (mn : n ∈ names) : DkF (putK kvs (Sum.inr n) (.int v)) (fUp f n v) names := by
  refine ⟨fun m => ?_, ?_, fun k hk => ?_⟩
  · rw [valV_put]
    unfold fUp
    by_cases e : n = m
    · rw [if_pos e, if_pos (by rw [e])]
      rfl
    · rw [if_neg e, if_neg (fun z => e (Sum.inr.inj z).symm)]
      exact h.g m
  · rcases keys_put (kvs := kvs) (k := Sum.inr n) (v := .int v) with ⟨e, e2⟩ | e2
    · exact nd_putK _ h.nd e
    · rw [e2]
      exact h.nd
  · rcases keys_put (kvs := kvs) (k := Sum.inr n) (v := .int v) with ⟨e, e2⟩ | e2
    · rw [e2] at hk
      rcases List.mem_append.mp hk with z | z
      · exact h.sb k z
      · rw [List.mem_singleton.mp z]
        exact List.mem_map_of_mem mn
    · rw [e2] at hk
      exact h.sb k hk
/-- a dict of days by names -/
structure StA (H : Hp) (d : Addr) (f : Str → Option Int) (m : List Str) : Prop where
  it : ∃ kvs, H d = some (.dK kvs) ∧ DkF kvs f m
theorem StA.same {H H' : Hp} {d : Addr} {f : Str → Option Int} {m : List Str} (h : StA H d f m) (s : Same H H') : StA H' d f m := by
  obtain ⟨kvs, e, r⟩ := h.it
  exact ⟨kvs, s _ _ e, r⟩
theorem StA.ex {T : List NTab} {H H' : Hp} {d : Addr} {f : Str → Option Int} {m : List Str} (h : StA H d f m) (x : Ex T H H') : StA H' d f m := by
  obtain ⟨kvs, e, r⟩ := h.it
  exact ⟨kvs, x.dk e, r⟩
end KaG
set_option maxRecDepth 100000
set_option maxHeartbeats 4000000
namespace KaG
open PySem PySem.Spec PyProof.Rows L2 KaC KaN LamX NdefX
/-- a choice: a ground's index, the place of the one need (or none), the needs that count by their places -/
structure Cho where
  ix : Nat
  at_ : Option Nat
  ps : List (Nat × List V)
def optV : Option Nat → V
  | none => .non
  | some p => .int (p : Int)
def PrAt (H : Hp) (pa : Addr) (p : Nat × List V) : Prop := ∃ na : Addr, H pa = some (.tup [.int (p.1 : Int), .ref na]) ∧ H na = some (.tup p.2)
theorem PrAt.ts {H H' : Hp} {pa : Addr} {p : Nat × List V} (h : PrAt H pa p) (s : TSame H H') : PrAt H' pa p := by
  obtain ⟨na, e1, e2⟩ := h
  exact ⟨na, s _ _ e1, s _ _ e2⟩
def ChoAt (H : Hp) (ca : Addr) (c : Cho) : Prop := ∃ (ta : Addr) (pas : List Addr), H ca = some (.tup [.int (c.ix : Int), optV c.at_, .ref ta]) ∧ H ta = some (.tup (pas.map V.ref)) ∧ Paired (PrAt H) pas c.ps
theorem ChoAt.ts {H H' : Hp} {ca : Addr} {c : Cho} (h : ChoAt H ca c) (s : TSame H H') : ChoAt H' ca c := by
  obtain ⟨ta, pas, e1, e2, p⟩ := h
  exact ⟨ta, pas, s _ _ e1, s _ _ e2, Paired.mono' (fun _ _ q => PrAt.ts q s) p⟩
def choBy (ix : Nat) (g : Gr) (w : Str) (pl : List Nat) : List Cho := if w = "all" then [⟨ix, none, pl.map fun p => (p, g.getD p [])⟩] else pl.map fun p => ⟨ix, some p, [(p, g.getD p [])]⟩
def choOf (S C A : List Str) (i : Nat) (g : Gr) : List Cho := choBy i g (oldPl S C A g).1 (oldPl S C A g).2
noncomputable def choK (ks : List Kd) (S : List Str) (n : Str) : List Cho := (liveIx ks (bearOf ks) n).flatMap fun i => choOf S (cleanOf ks S) (ableOf ks S) i (grAt ks n i)
end KaG
set_option maxRecDepth 100000
set_option maxHeartbeats 4000000
namespace KaG
open PySem PySem.Spec PyProof.Rows L2 KaC KaN LamX NdefX
/-- the choices of all kinds in the dict at d -/
structure ChD (H : Hp) (d : Addr) (ks : List Kd) (S : List Str) (ls : List Addr) : Prop where
  d : H d = some (.dK (kvsOf ks ls))
  l : Paired (fun (l : Addr) (k : Kd) => ∃ cas : List Addr, H l = some (.lst (cas.map V.ref)) ∧ Paired (ChoAt H) cas (choK ks S k.name)) ls ks
theorem ChD.ex {T : List NTab} {H H' : Hp} {d : Addr} {ks : List Kd} {S : List Str} {ls : List Addr} (h : ChD H d ks S ls) (x : Ex T H H') : ChD H' d ks S ls := ⟨x.dk h.d, Paired.mono' (fun _ _ ⟨cas, e, p⟩ => ⟨cas, x.lst e, Paired.mono' (fun _ _ q => ChoAt.ts q x.ts) p⟩) h.l⟩
end KaG
set_option maxHeartbeats 1000000
namespace KaU
abbrev NON : Int := -1000000
abbrev ENDL : Int := 1000000
abbrev NVR : Int := 2000000
section
variable {α : Type} [DecidableEq α]
/-- a need that counts: its kind, its tell, whether it is for good -/
abbrev Nq (α : Type) := Option α × Int × Bool
def srcV (x : α → Int) (d : Nq α) : Int := match d.1 with
  | none => 0
  | some m => x m
def later (t tell : Int) : Int := if t ≥ ENDL then t else t + tell
def eB (x : α → Int) (d : Nq α) : Int := if srcV x d = NON then NON else if d.2.2 = true then later (srcV x d) d.2.1 else NVR
def eC (x : α → Int) (c : List (Nq α)) : Int := (c.map (eB x)).foldr min NVR
def eN (x : α → Int) (C : List (List (Nq α))) : Int := (C.map (eC x)).foldr max NON
def cap (b v : Int) : Int := if b < v ∧ v < ENDL then ENDL else v
/-- values that stand in a table -/
def Vd (b v : Int) : Prop := v = NON ∨ (0 ≤ v ∧ v ≤ b) ∨ v = ENDL ∨ v = NVR
/-- values that are told of a need -/
def Vt (b v : Int) : Prop := v = NON ∨ (0 ≤ v ∧ v ≤ b + 4) ∨ v = ENDL ∨ v = NVR
structure Gq (ns : List α) (C : α → List (List (Nq α))) : Prop where
  t : ∀ n, ∀ c ∈ C n, ∀ d ∈ c, 0 ≤ d.2.1 ∧ d.2.1 ≤ 4
  s : ∀ n, ∀ c ∈ C n, ∀ d ∈ c, ∀ m, d.1 = some m → m ∈ ns
theorem src_vd {b : Int} (b0 : 0 ≤ b) {x : α → Int} (h : ∀ n, Vd b (x n)) (d : Nq α) : Vd b (srcV x d) := by
  unfold srcV
  split
  · exact .inr (.inl ⟨Int.le_refl _, b0⟩)
  · exact h _
theorem eB_vt {b : Int} (b0 : 0 ≤ b) (b1 : b ≤ 100) {x : α → Int} (h : ∀ n, Vd b (x n)) {d : Nq α} (t0 : 0 ≤ d.2.1) (t4 : d.2.1 ≤ 4) : Vt b (eB x d) := by
  have hs := src_vd b0 h d
  have N1 : NON = (-1000000 : Int) := rfl
  have N2 : ENDL = (1000000 : Int) := rfl
  have N3 : NVR = (2000000 : Int) := rfl
  unfold eB
  split
  · exact .inl rfl
  · split
    · unfold later
      rcases hs with e | ⟨h0, h1⟩ | e | e
      · contradiction
      · rw [if_neg (by omega)]
        exact .inr (.inl ⟨by omega, by omega⟩)
      · rw [if_pos (by omega)]
        exact .inr (.inr (.inl e))
      · rw [if_pos (by omega)]
        exact .inr (.inr (.inr e))
    · exact .inr (.inr (.inr rfl))
theorem eB_mono {b : Int} (b0 : 0 ≤ b) (b1 : b ≤ 100) {x z : α → Int} (hx : ∀ n, Vd b (x n)) (hz : ∀ n, Vd b (z n)) {d : Nq α} (t0 : 0 ≤ d.2.1) (t4 : d.2.1 ≤ 4) (le : srcV x d ≤ srcV z d) : eB x d ≤ eB z d := by
  have N1 : NON = (-1000000 : Int) := rfl
  have N2 : ENDL = (1000000 : Int) := rfl
  have N3 : NVR = (2000000 : Int) := rfl
  have hs := src_vd b0 hx d
  have hs2 := src_vd b0 hz d
  unfold eB later
  rcases hs with e | ⟨h0, h1⟩ | e | e <;> rcases hs2 with e2 | ⟨h2, h3⟩ | e2 | e2 <;> (split <;> (try split) <;> (try split) <;> (try split) <;> (try split) <;> omega)
theorem foldmin_or : ∀ (l : List Int) (b : Int), l.foldr min b = b ∨ l.foldr min b ∈ l
  | [], _ => .inl rfl
  | k :: r, b => by
    rw [List.foldr_cons]
    rcases Int.le_total k (r.foldr min b) with h | h
    · rw [Int.min_eq_left h]
      exact .inr List.mem_cons_self
    · rw [Int.min_eq_right h]
      exact (foldmin_or r b).imp id (List.mem_cons_of_mem _)
theorem foldmin_le : ∀ (l : List Int) (b : Int), l.foldr min b ≤ b ∧ ∀ z ∈ l, l.foldr min b ≤ z
  | [], _ => ⟨Int.le_refl _, fun _ m => nomatch m⟩
  | k :: r, b => by
    obtain ⟨h1, h2⟩ := foldmin_le r b
    rw [List.foldr_cons]
    refine ⟨Int.le_trans (Int.min_le_right _ _) h1, fun z m => ?_⟩
    rcases List.mem_cons.mp m with e | m
    · rw [e]
      exact Int.min_le_left _ _
    · exact Int.le_trans (Int.min_le_right _ _) (h2 z m)
theorem foldmax_or : ∀ (l : List Int) (b : Int), l.foldr max b = b ∨ l.foldr max b ∈ l
  | [], _ => .inl rfl
  | k :: r, b => by
    rw [List.foldr_cons]
    rcases Int.le_total k (r.foldr max b) with h | h
    · rw [Int.max_eq_right h]
      exact (foldmax_or r b).imp id (List.mem_cons_of_mem _)
    · rw [Int.max_eq_left h]
      exact .inr List.mem_cons_self
theorem foldmax_ge : ∀ (l : List Int) (b : Int), b ≤ l.foldr max b ∧ ∀ z ∈ l, z ≤ l.foldr max b
  | [], _ => ⟨Int.le_refl _, fun _ m => nomatch m⟩
  | k :: r, b => by
    obtain ⟨h1, h2⟩ := foldmax_ge r b
    rw [List.foldr_cons]
    refine ⟨Int.le_trans h1 (Int.le_max_right _ _), fun z m => ?_⟩
    rcases List.mem_cons.mp m with e | m
    · rw [e]
      exact Int.le_max_left _ _
    · exact Int.le_trans (h2 z m) (Int.le_max_right _ _)
theorem eC_vt {b : Int} (b0 : 0 ≤ b) (b1 : b ≤ 100) {x : α → Int} (h : ∀ n, Vd b (x n)) {c : List (Nq α)} (hc : ∀ d ∈ c, 0 ≤ d.2.1 ∧ d.2.1 ≤ 4) : Vt b (eC x c) := by
  unfold eC
  rcases foldmin_or (c.map (eB x)) NVR with e | e
  · rw [e]
    exact .inr (.inr (.inr rfl))
  · obtain ⟨d, md, e2⟩ := List.mem_map.mp e
    rw [← e2]
    exact eB_vt b0 b1 h (hc d md).1 (hc d md).2
theorem eN_vt {b : Int} (b0 : 0 ≤ b) (b1 : b ≤ 100) {x : α → Int} (h : ∀ n, Vd b (x n)) {C : List (List (Nq α))} (hC : ∀ c ∈ C, ∀ d ∈ c, 0 ≤ d.2.1 ∧ d.2.1 ≤ 4) : Vt b (eN x C) := by
  unfold eN
  rcases foldmax_or (C.map (eC x)) NON with e | e
  · rw [e]
    exact .inl rfl
  · obtain ⟨c, mc, e2⟩ := List.mem_map.mp e
    rw [← e2]
    exact eC_vt b0 b1 h (hC c mc)
theorem eC_mono {b : Int} (b0 : 0 ≤ b) (b1 : b ≤ 100) {x z : α → Int} (hx : ∀ n, Vd b (x n)) (hz : ∀ n, Vd b (z n)) {c : List (Nq α)} (hc : ∀ d ∈ c, 0 ≤ d.2.1 ∧ d.2.1 ≤ 4) (le : ∀ d ∈ c, srcV x d ≤ srcV z d) : eC x c ≤ eC z c := by
  unfold eC
  rcases foldmin_or (c.map (eB z)) NVR with e | e
  · rw [e]
    exact (foldmin_le _ _).1
  · obtain ⟨d, md, e2⟩ := List.mem_map.mp e
    rw [← e2]
    exact Int.le_trans ((foldmin_le _ _).2 _ (List.mem_map.mpr ⟨d, md, rfl⟩)) (eB_mono b0 b1 hx hz (hc d md).1 (hc d md).2 (le d md))
theorem eN_mono {b : Int} (b0 : 0 ≤ b) (b1 : b ≤ 100) {x z : α → Int} (hx : ∀ n, Vd b (x n)) (hz : ∀ n, Vd b (z n)) {C : List (List (Nq α))} (hC : ∀ c ∈ C, ∀ d ∈ c, 0 ≤ d.2.1 ∧ d.2.1 ≤ 4) (le : ∀ c ∈ C, ∀ d ∈ c, srcV x d ≤ srcV z d) : eN x C ≤ eN z C := by
  unfold eN
  rcases foldmax_or (C.map (eC x)) NON with e | e
  · rw [e]
    exact (foldmax_ge _ _).1
  · obtain ⟨c, mc, e2⟩ := List.mem_map.mp e
    rw [← e2]
    exact Int.le_trans (eC_mono b0 b1 hx hz (hC c mc) (le c mc)) ((foldmax_ge _ _).2 _ (List.mem_map.mpr ⟨c, mc, rfl⟩))
theorem cap_mono {b u v : Int} (h : u ≤ v) : cap b u ≤ cap b v := by
  have N2 : ENDL = (1000000 : Int) := rfl
  unfold cap
  split <;> split <;> omega
theorem cap_vd {b v : Int} (b0 : 0 ≤ b) (b1 : b ≤ 100) (h : Vt b v) : Vd b (cap b v) := by
  have N1 : NON = (-1000000 : Int) := rfl
  have N2 : ENDL = (1000000 : Int) := rfl
  have N3 : NVR = (2000000 : Int) := rfl
  unfold cap
  rcases h with e | ⟨h0, h1⟩ | e | e
  · rw [if_neg (by omega)]
    exact .inl e
  · by_cases q : b < v
    · rw [if_pos (by omega)]
      exact .inr (.inr (.inl rfl))
    · rw [if_neg (by omega)]
      exact .inr (.inl ⟨h0, by omega⟩)
  · rw [if_neg (by omega)]
    exact .inr (.inr (.inl e))
  · rw [if_neg (by omega)]
    exact .inr (.inr (.inr e))
/-- tables that a turn does not lift -/
def Pre (ns : List α) (C : α → List (List (Nq α))) (b : Int) (z : α → Int) : Prop := (∀ n, Vd b (z n)) ∧ ∀ n ∈ ns, cap b (eN z (C n)) ≤ z n
/-- a table below all of these -/
structure Bel (ns : List α) (C : α → List (List (Nq α))) (b : Int) (x : α → Int) : Prop where
  v : ∀ n, Vd b (x n)
  le : ∀ z, Pre ns C b z → ∀ n ∈ ns, x n ≤ z n
structure Lst (ns : List α) (C : α → List (List (Nq α))) (b : Int) (x : α → Int) : Prop where
  bel : Bel ns C b x
  pre : Pre ns C b x
section
variable {ns : List α} {C : α → List (List (Nq α))} {b : Int}
theorem src_le (G : Gq ns C) {x z : α → Int} (h : ∀ n ∈ ns, x n ≤ z n) {n : α} {c : List (Nq α)} (mc : c ∈ C n) {d : Nq α} (md : d ∈ c) : srcV x d ≤ srcV z d := by
  unfold srcV
  split
  · exact Int.le_refl _
  · rename_i m e
    exact h m (G.s n c mc d md m e)
theorem Bel.told (G : Gq ns C) (b0 : 0 ≤ b) (b1 : b ≤ 100) {x : α → Int} (h : Bel ns C b x) {n : α} : Vt b (eN x (C n)) ∧ ∀ z, Pre ns C b z → n ∈ ns → cap b (eN x (C n)) ≤ z n :=
  ⟨eN_vt b0 b1 h.v (G.t n), fun z hz mn => Int.le_trans (cap_mono (eN_mono b0 b1 h.v hz.1 (G.t n) fun c mc d md => src_le G (h.le z hz) mc md)) (hz.2 n mn)⟩
def upV (x : α → Int) (n : α) (v : Int) : α → Int := fun m => if m = n then v else x m
/-- one kind's number is lifted -/
theorem Bel.step (G : Gq ns C) (b0 : 0 ≤ b) (b1 : b ≤ 100) {x : α → Int} (h : Bel ns C b x) {n : α} (mn : n ∈ ns) : Bel ns C b (upV x n (cap b (eN x (C n)))) := by
  obtain ⟨h1, h2⟩ := h.told G b0 b1 (n := n)
  refine ⟨fun m => ?_, fun z hz m mm => ?_⟩
  · unfold upV
    split
    · exact cap_vd b0 b1 h1
    · exact h.v m
  · unfold upV
    split
    · rename_i e
      rw [e]
      exact h2 z hz mn
    · exact h.le z hz m mm
theorem Vd.capped {b u v : Int} (b0 : 0 ≤ b) (b1 : b ≤ 100) (hv : Vd b v) (h : ¬ v < u) : cap b u ≤ v := by
  have N1 : NON = (-1000000 : Int) := rfl
  have N2 : ENDL = (1000000 : Int) := rfl
  have N3 : NVR = (2000000 : Int) := rfl
  unfold cap
  rcases hv with e | ⟨h0, h1⟩ | e | e <;> split <;> omega
/-- nothing is lifted any more -/
theorem Bel.done (b0 : 0 ≤ b) (b1 : b ≤ 100) {x : α → Int} (h : Bel ns C b x) (hf : ∀ n ∈ ns, ¬ x n < eN x (C n)) : Lst ns C b x := ⟨h, h.v, fun n mn => (h.v n).capped b0 b1 (hf n mn)⟩
/-- how high a number stands -/
def ht (b v : Int) : Nat := if v = NON then 0 else if v = ENDL then b.toNat + 2 else if v = NVR then b.toNat + 3 else v.toNat + 1
end
end
end KaU
set_option maxRecDepth 100000
set_option maxHeartbeats 4000000
namespace KaG
open PySem PySem.Spec PyProof.Rows L2 KaC KaN LamX NdefX KaU
theorem tYes_go {σ : L2.St} {H : Hp} {Q : Bool → Hp → Prop} (h : Q true H) : tYes σ H Q := h
end KaG
set_option maxRecDepth 100000
set_option maxHeartbeats 2000000
set_option maxRecDepth 100000
set_option maxHeartbeats 4000000
namespace KaG
open PySem PySem.Spec PyProof.Rows L2 KaC KaN LamX NdefX KaU
section
variable {K : PySem.W.Frag} {d a : Addr} {o : Obj} {kvs : List (Key × V)} {xs : List V} {Hs : Hp} {Qd : Hp → Prop}
theorem go_keys {F : V → Hp → (Hp → Prop) → Prop} (Pv : Nat → Hp → Prop) (h0 : Pv 0 Hs) (hl : ∀ i H, i ≤ kvs.length → Pv i H → H d = some (.frz o (.dK kvs))) (hs : ∀ i k v H, kvs[i]? = some (k, v) → Pv i H → F (kV k) H (Pv (i + 1))) (hd : ∀ H, Pv kvs.length H → Qd H) :
    ∃ W : Nat → Nat → Hp → Prop, (∃ m, W 0 m Hs) ∧ ∀ i m H, W i m H → ((Itk d o kvs).stop i H ∧ Qd H) ∨ ((Itk d o kvs).go i H ∧ ∃ N : Hp → Prop, (∀ H', N H' → ∃ m', m' < m ∧ W (i + 1) m' H') ∧ ∀ x H', (Itk d o kvs).yld i H x H' → F x H' N) := by
  refine ⟨fun i m H => m = kvs.length - i ∧ i ≤ kvs.length ∧ Pv i H, ⟨_, rfl, Nat.zero_le _, h0⟩, fun i m H ⟨em, hi, p⟩ => ?_⟩
  have q := hl i H hi p
  rcases Nat.lt_or_ge i kvs.length with lt | ge
  · refine .inr ⟨⟨q, lt⟩, Pv (i + 1), fun H' p' => ⟨kvs.length - (i + 1), by omega, rfl, lt, p'⟩, fun x H' ⟨e, k, v, y, z⟩ => ?_⟩
    subst e; subst z
    exact hs i k v _ y p
  · obtain rfl : i = kvs.length := by omega
    exact .inl ⟨⟨q, Nat.le_refl _⟩, hd H p⟩
end
theorem same_unlock {H J : Hp} {d : Addr} {o u : HO} (e : H d = some u) (s : Same (upd H d o) J) : Same H (upd J d u) := fun b w q => by
  by_cases z : b = d
  · rw [z] at q ⊢
    rw [upd_same, ← q, e]
  · rw [upd_ne z]
    exact s b w (by rw [upd_ne z]; exact q)
end KaG
set_option maxRecDepth 100000
set_option maxHeartbeats 4000000
namespace KaG
open PySem PySem.Spec PyProof.Rows L2 KaC KaN LamX NdefX KaU
section
variable {K : PySem.W.Frag} {d a : Addr} {o : Obj} {kvs : List (Key × V)} {xs : List V} {Hs : Hp} {Qd : Hp → Prop}
theorem go_list {F : V → Hp → (Hp → Prop) → Prop} (Pv : Nat → Hp → Prop) (h0 : Pv 0 Hs) (hl : ∀ i H, i ≤ xs.length → Pv i H → SqL K H a xs) (hs : ∀ i x H, xs[i]? = some x → Pv i H → F x H (Pv (i + 1))) (hd : ∀ H, Pv xs.length H → Qd H) :
    ∃ W : Nat → Nat → Hp → Prop, (∃ m, W 0 m Hs) ∧ ∀ i m H, W i m H → ((Itl K a).stop i H ∧ Qd H) ∨ ((Itl K a).go i H ∧ ∃ N : Hp → Prop, (∀ H', N H' → ∃ m', m' < m ∧ W (i + 1) m' H') ∧ ∀ x H', (Itl K a).yld i H x H' → F x H' N) := by
  refine ⟨fun i m H => m = xs.length - i ∧ i ≤ xs.length ∧ Pv i H, ⟨_, rfl, Nat.zero_le _, h0⟩, fun i m H ⟨em, hi, p⟩ => ?_⟩
  have q := hl i H hi p
  rcases Nat.lt_or_ge i xs.length with lt | ge
  · refine .inr ⟨⟨xs, xs[i], q, List.getElem?_eq_getElem lt⟩, Pv (i + 1), fun H' p' => ⟨xs.length - (i + 1), by omega, rfl, lt, p'⟩, fun x H' ⟨e, y⟩ => ?_⟩
    subst e
    exact hs i x _ (y xs q) p
  · obtain rfl : i = xs.length := by omega
    exact .inl ⟨⟨xs, q, Nat.le_refl _⟩, hd H p⟩
end
end KaG
set_option maxRecDepth 100000
set_option maxHeartbeats 4000000
namespace KaG
open PySem PySem.Spec PyProof.Rows L2 KaC KaN LamX NdefX
/-- a need that takes part in a thread -/
def ndTh (S : List Str) : List V → Bool
  | [.str _, .str _, .int _, .int _, .int _] => true
  | [.str _, .str n, .int _, .int _] => decide (n ∈ S)
  | _ => false
def thB (ks : List Kd) (S : List Str) : Bool := ks.all fun k => k.gs.all fun g => decide ((g.filter (ndTh S)).length ≤ 1)
abbrev NdsAt (H : Hp) (as : List Addr) (g : List (List V)) : Prop := Paired (fun n its => H n = some (.tup its)) as g
theorem Sq2.of {K : PySem.W.Frag} {H : Hp} {l : Addr} {xs : List V} (h : Sq2 H l xs) : SqL K H l xs ∨ SqT K H l xs := h.imp SqL.of SqT.of
section
variable {P : Program} {w : World} {K : PySem.W.Frag} {mg : Str → Option Value} {base : Heap}
abbrev sNt : Stmt := top 13
abbrev nmNt : List Str := ["struck", "ground", "need"]
theorem scNt : FnScope nmNt ["struck", "ground"] (defScope sNt) := ⟨rfl, rfl, rfl, by decide +kernel, rfl, by decide +kernel, by decide +kernel⟩
def spNt : Sp := fun vs H Q _ => ∃ (sa ga : Addr) (S : List Str) (g : List (List V)) (rows names : List Str), vs = [.ref sa, .ref ga] ∧ Sq2 H sa (S.map V.str) ∧ Grd H ga g ∧ (∀ n ∈ g, NeedV rows names n) ∧ g.length ≤ 3 ∧
  ∀ (p : Addr) (as : List Addr) (H' : Hp), Same H H' → H p = none → H' p = some (.lst (as.map V.ref)) → NdsAt H' as (g.filter (ndTh S)) → Q (.ref p) H'
theorem ok_Nt {f : Addr} {fd : FuncData} (F : Fun K "needs_threaded" "needs_threaded" sNt f fd) : FnOk P w K mg base CX0 1 f fd ["struck", "ground"] spNt := by
  refine F.ok scNt (fun vs H Q E h => ?_) (fun cdv A outer s H vs Q E hr h => ?_)
  · obtain ⟨sa, ga, S, g, rows, names, rfl, _⟩ := h
    rfl
  · obtain ⟨sa, ga, S, g, rows, names, rfl, hS, hG, hn, l3, k⟩ := h
    refine ⟨_, (pss_one (ps_ret (pe_lc (own := [("need", 2)]) (g := gName 2) (tt := tOr (tTest (tOp rEq (tOp (rIxT K) (tVar 2) (tC (.int 0))) (tC (.str "kind")))) (tTest (tOp (rIn K false) (tOp (rIxT K) (tVar 2) (tC (.int 1))) (tVar 0)))) (te := tVar 2) (by rfl) scNt.nd (pi_tup (pv 1))
        (blkOk_by (own := [("need", 2)]) (N := nmNt) (sc := defScope sNt) (by decide +kernel)) (fun _ _ _ _ _ => pg_name (i := 2) scNt.nd rfl (Or.inl rfl))
        (fun _ _ _ _ _ => pts_one (PW.pt (pw_or (pt_cmpR (r := rEq) op_eq (pe_ix (r := rIxT K) ix_tup (pv 2) pe_int (fun _ _ => rfl)) pe_str (nomark _))
          (pw_or1 (pt_cmpR (r := rIn K false) op_in_seq (pe_ix (r := rIxT K) ix_tup (pv 2) pe_int (fun _ _ => rfl)) (pv 0) rfl))))) (fun _ _ _ _ _ => pv 2)))), ?_⟩
    obtain ⟨ns, eg, pn⟩ := hG
    have ln := paired_len pn
    refine ⟨_, rfl, ga, rfl, ⟨_, SqT.of eg⟩, fun D nD => ?_⟩
    dsimp only [tNil]
    refine go_tup (K := K) (a := ga) (xs := ns.map V.ref) (fun i J => Same H J ∧ ∃ as : List Addr, J D = some (.lst (as.map V.ref)) ∧ NdsAt J as ((g.take i).filter (ndTh S))) ?_ ?_ ?_ ?_
    · exact ⟨same_upd nD, [], upd_same, .nil⟩
    · rintro i J _ ⟨SJ, _⟩
      exact SqT.of (SJ _ _ eg)
    · rintro i v J hv ⟨SJ, as, jD, pa⟩
      rw [List.getElem?_map] at hv
      obtain ⟨n, hns, rfl⟩ := Option.map_eq_some_iff.mp hv
      obtain ⟨it, hit, en⟩ := paired_at pn hns
      have nv := hn it (List.mem_of_getElem? hit)
      have tk : g.take (i + 1) = g.take i ++ [it] := by rw [List.take_add_one, hit]; rfl
      have la := paired_len pa
      have lf := List.length_filter_le (ndTh S) (g.take i)
      rw [List.length_take] at lf
      have enJ := SJ _ _ en
      have yes : ndTh S it = true → ∃ acc, J D = some (.lst acc) ∧ acc.length < sizeLine ∧ Same H (upd J D (.lst (acc ++ [.ref n]))) ∧ ∃ as : List Addr, upd J D (.lst (acc ++ [.ref n])) D = some (.lst (as.map V.ref)) ∧ NdsAt (upd J D (.lst (acc ++ [.ref n]))) as ((g.take (i + 1)).filter (ndTh S)) := fun h => by
        have tsl := ts_lst (ys := as.map V.ref ++ [V.ref n]) jD
        refine ⟨_, jD, small1000 (by rw [List.length_map]; omega), fun b u e => by rw [upd_ne (ne_of_none e nD)]; exact SJ b u e, as ++ [n], by rw [upd_same, List.map_append]; rfl, ?_⟩
        rw [tk, List.filter_append, List.filter_cons_of_pos h, List.filter_nil]
        exact paired_app (Paired.mono' (fun _ _ e => tsl _ _ e) pa) (.cons (tsl _ _ enJ) .nil)
      have no : ndTh S it = false → Same H J ∧ ∃ as : List Addr, J D = some (.lst (as.map V.ref)) ∧ NdsAt J as ((g.take (i + 1)).filter (ndTh S)) := fun h => by
        refine ⟨SJ, as, jD, ?_⟩
        rw [tk, List.filter_append, List.filter_cons_of_neg (by rw [h]; decide), List.filter_nil, List.append_nil]
        exact pa
      refine ⟨rfl, ?_⟩
      cases nv with
      | row nm t m =>
        refine ⟨_, rfl, n, _, 0, .str "row", rfl, rfl, SqT.of enJ, rfl, rfl, _, rfl, ?_⟩
        refine iteDF (by decide +kernel) ?_
        refine ⟨_, rfl, n, _, 1, .str nm, rfl, rfl, SqT.of enJ, rfl, _, rfl, sa, S.map V.str, rfl, (hS.same SJ).of, rfl, flat_strs, _, rfl, ?_⟩
        rw [show (if false = true then !inV (V.str nm) (List.map V.str S) else inV (V.str nm) (List.map V.str S)) = decide (nm ∈ S) from inV_str]
        refine ite2 (fun h => ⟨_, rfl, yes h⟩) fun h => no (eq_false_of_ne_true h)
      | kind nm a t m =>
        refine ⟨_, rfl, n, _, 0, .str "kind", rfl, rfl, SqT.of enJ, rfl, rfl, _, rfl, ?_⟩
        exact iteD (by decide +kernel) (iteT ⟨_, rfl, yes rfl⟩)
    · rintro J ⟨SJ, as, jD, pa⟩
      rw [List.length_map, ln, List.take_length] at pa
      exact k D as J SJ nD jD pa
abbrev sLed : Stmt := top 36
abbrev nmLed : List Str := ["ground", "struck", "need"]
theorem scLed : FnScope nmLed ["ground", "struck"] (defScope sLed) := ⟨rfl, rfl, rfl, by decide +kernel, rfl, by decide +kernel, by decide +kernel⟩
def spLed : Sp := fun vs H Q _ => ∃ (ga sa : Addr) (S : List Str) (g : List (List V)) (rows names : List Str), vs = [.ref ga, .ref sa] ∧ Sq2 H sa (S.map V.str) ∧ Grd H ga g ∧ (∀ n ∈ g, NeedV rows names n) ∧ g.length ≤ 3 ∧
  ∀ (p : Addr) (as : List Addr) (H' : Hp), Same H H' → H p = none → H' p = some (.lst (as.map V.ref)) → NdsAt H' as (g.filter (ndTh S)) → Q (.ref p) H'
theorem ok_Led {f : Addr} {fd : FuncData} (F : Fun K "_law_led_needs" "_law_led_needs" sLed f fd) : FnOk P w K mg base CX0 1 f fd ["ground", "struck"] spLed := by
  refine F.ok scLed (fun vs H Q E h => ?_) (fun cdv A outer s H vs Q E hr h => ?_)
  · obtain ⟨ga, sa, S, g, rows, names, rfl, _⟩ := h
    rfl
  · obtain ⟨ga, sa, S, g, rows, names, rfl, hS, hG, hn, l3, k⟩ := h
    refine ⟨_, (pss_one (ps_ret (pe_lc (own := [("need", 2)]) (g := gName 2) (tt := tOr (tTest (tOp rEq (tOp (rIxT K) (tVar 2) (tC (.int 0))) (tC (.str "kind")))) (tTest (tOp (rIn K false) (tOp (rIxT K) (tVar 2) (tC (.int 1))) (tVar 1)))) (te := tVar 2) (by rfl) scLed.nd (pi_tup (pv 0))
        (blkOk_by (own := [("need", 2)]) (N := nmLed) (sc := defScope sLed) (by decide +kernel)) (fun _ _ _ _ _ => pg_name (i := 2) scLed.nd rfl (Or.inl rfl))
        (fun _ _ _ _ _ => pts_one (PW.pt (pw_or (pt_cmpR (r := rEq) op_eq (pe_ix (r := rIxT K) ix_tup (pv 2) pe_int (fun _ _ => rfl)) pe_str (nomark _))
          (pw_or1 (pt_cmpR (r := rIn K false) op_in_seq (pe_ix (r := rIxT K) ix_tup (pv 2) pe_int (fun _ _ => rfl)) (pv 1) rfl))))) (fun _ _ _ _ _ => pv 2)))), ?_⟩
    obtain ⟨ns, eg, pn⟩ := hG
    have ln := paired_len pn
    refine ⟨_, rfl, ga, rfl, ⟨_, SqT.of eg⟩, fun D nD => ?_⟩
    dsimp only [tNil]
    refine go_tup (K := K) (a := ga) (xs := ns.map V.ref) (fun i J => Same H J ∧ ∃ as : List Addr, J D = some (.lst (as.map V.ref)) ∧ NdsAt J as ((g.take i).filter (ndTh S))) ?_ ?_ ?_ ?_
    · exact ⟨same_upd nD, [], upd_same, .nil⟩
    · rintro i J _ ⟨SJ, _⟩
      exact SqT.of (SJ _ _ eg)
    · rintro i v J hv ⟨SJ, as, jD, pa⟩
      rw [List.getElem?_map] at hv
      obtain ⟨n, hns, rfl⟩ := Option.map_eq_some_iff.mp hv
      obtain ⟨it, hit, en⟩ := paired_at pn hns
      have nv := hn it (List.mem_of_getElem? hit)
      have tk : g.take (i + 1) = g.take i ++ [it] := by rw [List.take_add_one, hit]; rfl
      have la := paired_len pa
      have lf := List.length_filter_le (ndTh S) (g.take i)
      rw [List.length_take] at lf
      have enJ := SJ _ _ en
      have yes : ndTh S it = true → ∃ acc, J D = some (.lst acc) ∧ acc.length < sizeLine ∧ Same H (upd J D (.lst (acc ++ [.ref n]))) ∧ ∃ as : List Addr, upd J D (.lst (acc ++ [.ref n])) D = some (.lst (as.map V.ref)) ∧ NdsAt (upd J D (.lst (acc ++ [.ref n]))) as ((g.take (i + 1)).filter (ndTh S)) := fun h => by
        have tsl := ts_lst (ys := as.map V.ref ++ [V.ref n]) jD
        refine ⟨_, jD, small1000 (by rw [List.length_map]; omega), fun b u e => by rw [upd_ne (ne_of_none e nD)]; exact SJ b u e, as ++ [n], by rw [upd_same, List.map_append]; rfl, ?_⟩
        rw [tk, List.filter_append, List.filter_cons_of_pos h, List.filter_nil]
        exact paired_app (Paired.mono' (fun _ _ e => tsl _ _ e) pa) (.cons (tsl _ _ enJ) .nil)
      have no : ndTh S it = false → Same H J ∧ ∃ as : List Addr, J D = some (.lst (as.map V.ref)) ∧ NdsAt J as ((g.take (i + 1)).filter (ndTh S)) := fun h => by
        refine ⟨SJ, as, jD, ?_⟩
        rw [tk, List.filter_append, List.filter_cons_of_neg (by rw [h]; decide), List.filter_nil, List.append_nil]
        exact pa
      refine ⟨rfl, ?_⟩
      cases nv with
      | row nm t m =>
        refine ⟨_, rfl, n, _, 0, .str "row", rfl, rfl, SqT.of enJ, rfl, rfl, _, rfl, ?_⟩
        refine iteDF (by decide +kernel) ?_
        refine ⟨_, rfl, n, _, 1, .str nm, rfl, rfl, SqT.of enJ, rfl, _, rfl, sa, S.map V.str, rfl, (hS.same SJ).of, rfl, flat_strs, _, rfl, ?_⟩
        rw [show (if false = true then !inV (V.str nm) (List.map V.str S) else inV (V.str nm) (List.map V.str S)) = decide (nm ∈ S) from inV_str]
        refine ite2 (fun h => ⟨_, rfl, yes h⟩) fun h => no (eq_false_of_ne_true h)
      | kind nm a t m =>
        refine ⟨_, rfl, n, _, 0, .str "kind", rfl, rfl, SqT.of enJ, rfl, rfl, _, rfl, ?_⟩
        exact iteD (by decide +kernel) (iteT ⟨_, rfl, yes rfl⟩)
    · rintro J ⟨SJ, as, jD, pa⟩
      rw [List.length_map, ln, List.take_length] at pa
      exact k D as J SJ nD jD pa
abbrev sIth : Stmt := top 14
abbrev nmIth : List Str := ["rulebook", "struck", "kind", "ground"]
theorem scIth : FnScope nmIth ["rulebook", "struck"] (defScope sIth) := ⟨rfl, rfl, rfl, by decide +kernel, rfl, by decide +kernel, by decide +kernel⟩
def spIth : Sp := fun vs H Q _ => ∃ (b sa : Addr) (rows : List Str) (ks : List Kd) (S : List Str), vs = [.ref b, .ref sa] ∧ BookAt H b rows ks ∧ BookOk rows ks ∧ Sq2 H sa (S.map V.str) ∧ ∀ H', Same H H' → Q (.bl (thB ks S)) H'
theorem ok_Ith {f fN : Addr} {fd fdN : FuncData} (F : Fun K "is_threaded" "is_threaded" sIth f fd) (TB : TxtB mg) (hall : mg "all" = none) (CN : Ct P w K mg base "needs_threaded" 1 ["struck", "ground"] spNt fN fdN) : FnOk P w K mg base CX0 2 f fd ["rulebook", "struck"] spIth := by
  refine F.ok scIth (fun vs H Q E h => ?_) (fun cdv A outer s H vs Q E hr h => ?_)
  · obtain ⟨b, sa, rows, ks, S, rfl, _⟩ := h
    rfl
  · obtain ⟨b, sa, rows, ks, S, rfl, hA, hO, hS, k⟩ := h
    refine ⟨_, (pss_one (ps_ret (pe_callB (r := rAll K) (cr_all rfl) (by rfl) hall (by decide +kernel) (pa_cons (pe_lc2n [3] (own := [("kind", 2), ("ground", 3)]) (g0 := gName 2) (g1 := gName 3) (w1 := iTup K (tOp (rIxT K) (tVar 2) (tC (.int 3))))
        (te := tOp (rI0 fun i j => V.bl (decide (i ≤ j))) (tCB (rLen K) (tCons (tCall spNt [] E0 (tCons (tVar 1) (tCons (tVar 3) tNil))) tNil)) (tC (.int 1)))
        (by rfl) scIth.nd (pi_tup (pe_ix (r := rIxT K) ix_tup (pv 0) pe_int (fun _ _ => rfl))) (blkOk_by (own := [("kind", 2), ("ground", 3)]) (N := nmIth) (sc := defScope sIth) (by decide +kernel)) (by decide)
        (fun _ _ _ _ _ => pg_name (i := 2) scIth.nd rfl (Or.inl rfl)) (fun _ _ _ _ _ => pts_nil)
        (fun _ _ _ _ _ => pi_tup (pe_ix (r := rIxT K) ix_tup (pv 2) pe_int (fun _ _ => rfl)))
        (fun _ _ _ _ _ => pg_name (i := 3) scIth.nd rfl (Or.inl rfl)) (fun _ _ _ _ _ => pts_nil)
        (fun _ _ _ _ _ => pe_cmpR (r := rI0 fun i j => V.bl (decide (i ≤ j))) op_le (pe_callB (r := rLen K) call_len_seq (by rfl) TB.len PySem.boot_len (pa_cons (pe_call CN.G hr (by rfl) CN.m CN.kp CN.b .nil pass0 (pa_cons (pv 1) (pa_cons (pv 3) pa_nil))) pa_nil)) pe_int (nomark _))) pa_nil)))), ?_⟩
    obtain ⟨r, kt, kas, e1, e2, e3, pk⟩ := hA
    have hlen := paired_len pk
    have hk5 := hO.k5
    let gB : List (List V) → Bool := fun g => decide ((g.filter (ndTh S)).length ≤ 1)
    let kB : Kd → List Bool := fun k => k.gs.map gB
    refine ⟨_, rfl, b, _, 1, .ref kt, rfl, rfl, SqT.of e1, rfl, kt, rfl, ⟨_, SqT.of e3⟩, fun D nD => go_tup (K := K) (a := kt) (xs := kas.map V.ref) (fun i J => Same H J ∧ J D = some (.lst (((ks.take i).flatMap kB).map V.bl)) ∧ ((ks.take i).flatMap kB).length ≤ 4 * i) ?_ ?_ ?_ ?_⟩
    · exact ⟨same_upd nD, upd_same, Nat.le_refl _⟩
    · rintro i J _ ⟨SJ, _⟩
      exact SqT.of (SJ _ _ e3)
    · rintro i x J hx ⟨SJ, jD, lJ⟩
      rw [List.getElem?_map] at hx
      obtain ⟨ka, ha, rfl⟩ := Option.map_eq_some_iff.mp hx
      obtain ⟨kd, hkd, gt, gas, f1, f2, f3⟩ := paired_at pk ha
      have mk := List.mem_of_getElem? hkd
      have hi : i < kas.length := (List.getElem?_eq_some_iff.mp ha).1
      have hgl := paired_len f3
      have hg4 := (hO.num kd mk).2.2.2.2
      have tk : ks.take (i + 1) = ks.take i ++ [kd] := by rw [List.take_add_one, hkd]; rfl
      generalize hb : (ks.take i).flatMap kB = bs at jD lJ
      refine ⟨rfl, tYes_go (iteT ?_)⟩
      refine ⟨_, rfl, ka, _, 3, .ref gt, rfl, rfl, SqT.of (SJ _ _ f1), rfl, gt, rfl, ⟨_, SqT.of (SJ _ _ f2)⟩, go_tup (K := K) (a := gt) (xs := gas.map V.ref) (fun q G => Same H G ∧ G D = some (.lst ((bs ++ (kd.gs.take q).map gB).map V.bl))) ?_ ?_ ?_ ?_⟩
      · exact ⟨SJ, by simpa using jD⟩
      · rintro q G _ ⟨SG, _⟩
        exact SqT.of (SG _ _ f2)
      · rintro q x G hx ⟨SG, gD⟩
        rw [List.getElem?_map] at hx
        obtain ⟨ga, hga, rfl⟩ := Option.map_eq_some_iff.mp hx
        obtain ⟨g, hg, eG⟩ := paired_at f3 hga
        have mg' := List.mem_of_getElem? hg
        have hq := (List.getElem?_eq_some_iff.mp hg).1
        obtain ⟨g0, g3, gn⟩ := hO.grd kd mk g mg'
        have tk2 : kd.gs.take (q + 1) = kd.gs.take q ++ [g] := by rw [List.take_add_one, hg]; rfl
        refine ⟨rfl, tYes_go (iteT ?_)⟩
        refine ⟨_, rfl, _, rfl, sa, ga, S, g, rows, nmsOf ks, rfl, hS.same SG, Grd.ts eG (TSame.of SG), gn, g3, fun p as G2 SG2 np ep pa => ?_⟩
        have la := paired_len pa
        refine ⟨p, _, rfl, .inl (SqL.of ep), _, _, rfl, rfl, ?_⟩
        have S2 := KaG.Same.tr SG SG2
        refine ⟨_, SG2 _ _ gD, small1000 (by rw [List.length_map, List.length_append, List.length_map, List.length_take]; omega), fun b u e => by rw [upd_ne (ne_of_none e nD)]; exact S2 b u e, ?_⟩
        rw [upd_same, tk2, List.map_append (l₁ := kd.gs.take q), ← List.append_assoc, List.map_append (l₁ := bs ++ _)]
        have e1 : decide (((as.map V.ref).length : Int) ≤ 1) = gB g := by
          rw [List.length_map, la]
          exact decide_eq_decide.mpr (by omega)
        show _ = some (HO.lst (_ ++ [V.bl (gB g)]))
        rw [← e1]
      · rintro G ⟨SG, gD⟩
        rw [List.length_map, hgl, List.take_length] at gD
        have e : (ks.take (i + 1)).flatMap kB = bs ++ kd.gs.map gB := by
          rw [tk, List.flatMap_append, hb]
          simp [kB]
        rw [e]
        exact ⟨SG, gD, by rw [List.length_append, List.length_map]; omega⟩
    · rintro J ⟨SJ, jD, _⟩
      rw [List.length_map, hlen, List.take_length] at jD
      refine ⟨D, _, rfl, SqL.of jD, ?_⟩
      have e : ∀ l : List Kd, ((l.flatMap kB).all id) = thB l S := fun l => by
        unfold thB
        induction l with
        | nil => rfl
        | cons k r ih => rw [List.flatMap_cons, List.all_append, ih, List.all_cons]; congr 1; show (k.gs.map gB).all id = _; rw [List.all_map]; rfl
      rw [e]
      exact k J SJ
end
end KaG
set_option maxRecDepth 100000
set_option maxHeartbeats 4000000
namespace KaG
open PySem PySem.Spec PyProof.Rows L2 KaC KaN LamX NdefX
theorem grd_dp {K : PySem.W.Frag} {H : Hp} {rows names : List Str} (hr : ∀ n ∈ rows, n ∈ nmAll) (hn : ∀ n ∈ names, n ∈ nmAll) {ga : Addr} {g : List (List V)} (e : Grd H ga g) (h : ∀ it ∈ g, NeedV rows names it) : ∃ d, Dp K H (.ref ga) d ∧ d.canLay0 = true ∧ d.depth ≤ 2 := by
  obtain ⟨ns, e1, pn⟩ := e
  obtain ⟨ds, d1, d2, d3, _⟩ := needs_dp (K := K) hr hn pn h
  refine ⟨.tuple ds, .tup (SqT.of e1) d1, (tup_lay _ d2).1, ?_⟩
  simp only [PyData.depth]
  omega
theorem grds_dp {K : PySem.W.Frag} {H : Hp} {rows names : List Str} (hr : ∀ n ∈ rows, n ∈ nmAll) (hn : ∀ n ∈ names, n ∈ nmAll) : ∀ {gas : List Addr} {gs : List (List (List V))}, Paired (Grd H) gas gs → (∀ g ∈ gs, ∀ it ∈ g, NeedV rows names it) → ∃ ds, DpAll K H (gas.map V.ref) ds ∧ (∀ d ∈ ds, d.canLay0 = true) ∧ PyData.depthAll ds ≤ 2 ∧ ds.length = gs.length
  | _, _, .nil, _ => ⟨[], .nil, (fun _ z => nomatch z), by simp [PyData.depthAll], rfl⟩
  | _, _, .cons h r, n => by
    obtain ⟨d, h1, h2, h3⟩ := grd_dp (K := K) hr hn h (n _ (List.mem_cons_self ..))
    obtain ⟨ds, g1, g2, g3, g4⟩ := grds_dp (K := K) hr hn r fun it m => n it (List.mem_cons_of_mem _ m)
    exact ⟨d :: ds, .cons h1 g1, fun x m => by
      rcases List.mem_cons.mp m with c | c
      · rw [c]; exact h2
      · exact g2 x c, Nat.max_le.mpr ⟨h3, g3⟩, by rw [List.length_cons, List.length_cons, g4]⟩
theorem paired_inL {α β : Type} {R S : α → β → Prop} : ∀ {xs : List α} {ys : List β}, (∀ a b, a ∈ xs → R a b → S a b) → Paired R xs ys → Paired S xs ys
  | _, _, _, .nil => .nil
  | _, _, h, .cons a r => .cons (h _ _ List.mem_cons_self a) (paired_inL (fun x y m => h x y (List.mem_cons_of_mem _ m)) r)
theorem paired_flat {α : Type} {R : α → List (List V) → Prop} : ∀ {xss : List (List α)} {ks : List Kd}, Paired (fun (xs : List α) (k : Kd) => Paired R xs k.gs) xss ks → Paired R xss.flatten (ks.flatMap Kd.gs)
  | _, _, .nil => .nil
  | _, _, .cons a r => by
    rw [List.flatten_cons, List.flatMap_cons]
    exact paired_app a (paired_flat r)
theorem paired_mapR {α β γ : Type} {R : α → γ → Prop} {f : β → γ} : ∀ {xs : List α} {ys : List β}, Paired (fun x y => R x (f y)) xs ys → Paired R xs (ys.map f)
  | _, _, .nil => .nil
  | _, _, .cons a r => .cons a (paired_mapR r)
/-- a list of grounds compared with an empty one -/
theorem grds_empty {K : PySem.W.Frag} {H : Hp} {rows names : List Str} (hr : ∀ n ∈ rows, n ∈ nmAll) (hn : ∀ n ∈ names, n ∈ nmAll) {l z : Addr} {gas : List Addr} {gs : List (List (List V))} {Q : VK} (el : H l = some (.lst (gas.map V.ref))) (pg : Paired (Grd H) gas gs) (h : ∀ g ∈ gs, ∀ it ∈ g, NeedV rows names it) (ez : H z = some (.lst [])) (k : Q (.bl (decide (gs.length = 0))) H) : rEqD K (.ref l) (.ref z) H Q := by
  obtain ⟨ds, g1, g2, g3, g4⟩ := grds_dp (K := K) hr hn pg h
  refine ⟨.list ds, .list [], .lst (SqL.of el) g1, .lst (SqL.of ez) .nil, shaped_list g2 (by omega), shaped_list (fun _ z => (by cases z)) (by simp [PyData.depthAll]), ?_⟩
  rw [eqv_empty, g4]
  exact k
theorem nds_empty {K : PySem.W.Frag} {H : Hp} {rows names : List Str} (hr : ∀ n ∈ rows, n ∈ nmAll) (hn : ∀ n ∈ names, n ∈ nmAll) {l z : Addr} {as : List Addr} {its : List (List V)} {Q : VK} (el : H l = some (.lst (as.map V.ref))) (pn : NdsAt H as its) (h : ∀ it ∈ its, NeedV rows names it) (ez : H z = some (.lst [])) (k : Q (.bl (!decide (its.length = 0))) H) : rNeD K (.ref l) (.ref z) H Q := by
  obtain ⟨ds, g1, g2, g3, g4⟩ := needs_dp (K := K) hr hn pn h
  refine ⟨.list ds, .list [], .lst (SqL.of el) g1, .lst (SqL.of ez) .nil, shaped_list g2 (by omega), shaped_list (fun _ z => (by cases z)) (by simp [PyData.depthAll]), ?_⟩
  rw [eqv_empty, g4]
  exact k
theorem nds_empty' {K : PySem.W.Frag} {H : Hp} {rows names : List Str} (hr : ∀ n ∈ rows, n ∈ nmAll) (hn : ∀ n ∈ names, n ∈ nmAll) {l z : Addr} {as : List Addr} {its : List (List V)} {Q : VK} (el : H l = some (.lst (as.map V.ref))) (pn : NdsAt H as its) (h : ∀ it ∈ its, NeedV rows names it) (ez : H z = some (.lst [])) (k : Q (.bl (decide (its.length = 0))) H) : rEqD K (.ref l) (.ref z) H Q := by
  obtain ⟨ds, g1, g2, g3, g4⟩ := needs_dp (K := K) hr hn pn h
  refine ⟨.list ds, .list [], .lst (SqL.of el) g1, .lst (SqL.of ez) .nil, shaped_list g2 (by omega), shaped_list (fun _ z => (by cases z)) (by simp [PyData.depthAll]), ?_⟩
  rw [eqv_empty, g4]
  exact k
section
variable {P : Program} {w : World} {K : PySem.W.Frag} {mg : Str → Option Value} {base : Heap}
abbrev sFl : Stmt := top 38
abbrev nmFl : List Str := ["rows", "found", "row"]
theorem scFl : FnScope nmFl ["rows"] (defScope sFl) := ⟨rfl, rfl, rfl, by decide +kernel, rfl, by decide +kernel, by decide +kernel⟩
def spFl : Sp := fun vs H Q _ => ∃ (l : Addr) (qs : List Addr) (xss : List (List V)), vs = [.ref l] ∧ H l = some (.lst (qs.map V.ref)) ∧ Paired (fun q xs => H q = some (.lst xs)) qs xss ∧ xss.flatten.length ≤ 900 ∧
  ∀ (p : Addr) (H' : Hp), Same H H' → H p = none → H' p = some (.lst xss.flatten) → Q (.ref p) H'
theorem ok_Fl {f : Addr} {fd : FuncData} (F : Fun K "_law_flat" "_law_flat" sFl f fd) : FnOk P w K mg base CX0 1 f fd ["rows"] spFl := by
  refine F.ok scFl (fun vs H Q E h => ?_) (fun cdv A outer s H vs Q E hr h => ?_)
  · obtain ⟨l, qs, xss, rfl, _⟩ := h
    rfl
  · obtain ⟨l, qs, xss, rfl, el, pq, l9, k⟩ := h
    refine ⟨_, (pss_cons (ps_set (i := 1) scFl.nd rfl (Or.inl rfl) (pe_lst pa_nil))
      (pss_cons (ps_for PassesOwn.never rfl (pi_list (pv 0)) (pg_name (i := 2) scFl.nd rfl (Or.inl rfl))
        (pss_one (ps_expr (pe_bm PySem.F.plainAttrs_list PySem.F.slot_list_extend PySem.F.type_list_extend mt_extend (pv 1) (pa_cons (pv 2) pa_nil)))))
      (pss_one (ps_ret (pv 1))))), ?_⟩
    have lq := paired_len pq
    refine ⟨Nat.zero_le _, fun p np => ?_⟩
    have S0 := same_upd (o := .lst []) np
    have e0 : upd H p (.lst []) p = some (.lst []) := upd_same
    generalize upd H p (.lst []) = H0 at S0 e0 ⊢
    refine ⟨_, rfl, l, rfl, ⟨_, SqL.of (S0 _ _ el)⟩, for_list (K := K) (a := l) (xs := qs.map V.ref) (fun i σ' J => (∃ x2 : Option V, σ' = [some (.ref l), some (.ref p), x2]) ∧ Same H J ∧ J p = some (.lst (xss.take i).flatten)) ?_ ?_ ?_ ?_⟩
    · exact ⟨⟨_, rfl⟩, S0, e0⟩
    · rintro i σ' J _ ⟨_, SJ, _⟩
      exact SqL.of (SJ _ _ el)
    · rintro i v σ' J hv ⟨⟨x2, rfl⟩, SJ, eJ⟩
      rw [List.getElem?_map] at hv
      obtain ⟨q, hq, rfl⟩ := Option.map_eq_some_iff.mp hv
      obtain ⟨xs, hx, eq⟩ := paired_at pq hq
      have tk : xss.take (i + 1) = xss.take i ++ [xs] := by rw [List.take_add_one, hx]; rfl
      have sub : (xss.take (i + 1)).flatten.length ≤ xss.flatten.length := by
        have : xss.flatten = (xss.take (i + 1)).flatten ++ (xss.drop (i + 1)).flatten := by rw [← List.flatten_append, List.take_append_drop]
        rw [this, List.length_append]
        omega
      rw [tk, List.flatten_append, List.length_append] at sub
      refine ⟨_, rfl, .inl ⟨rfl, _, SqL.of eJ⟩, _, rfl, p, q, _, _, rfl, rfl, eJ, SJ _ _ eq, Nat.le_of_lt (small1000 (by rw [show ([xs] : List (List V)).flatten.length = xs.length by simp] at sub; omega)), ⟨_, rfl⟩, fun b u e => by rw [upd_ne (ne_of_none e np)]; exact SJ b u e, ?_⟩
      rw [upd_same, tk, List.flatten_append]
      simp
    · rintro σ' J ⟨⟨x2, rfl⟩, SJ, eJ⟩
      rw [List.length_map, lq, List.take_length] at eJ
      exact ⟨_, rfl, k p J SJ np eJ⟩
abbrev sLth : Stmt := top 37
abbrev nmLth : List Str := ["rulebook", "struck", "grounds", "kind", "ground"]
theorem scLth : FnScope nmLth ["rulebook", "struck"] (defScope sLth) := ⟨rfl, rfl, rfl, by decide +kernel, rfl, by decide +kernel, by decide +kernel⟩
theorem ok_Lth {f fF fL : Addr} {fd fdF fdL : FuncData} (F : Fun K "_law_is_threaded" "_law_is_threaded" sLth f fd) (TB : TxtB mg) (hlist : mg "list" = none) (CF : Ct P w K mg base "_law_flat" 1 ["rows"] spFl fF fdF) (CL : Ct P w K mg base "_law_led_needs" 1 ["ground", "struck"] spLed fL fdL) : FnOk P w K mg base CX0 2 f fd ["rulebook", "struck"] spIth := by
  refine F.ok scLth (fun vs H Q E h => ?_) (fun cdv A outer s H vs Q E hr h => ?_)
  · obtain ⟨b, sa, rows, ks, S, rfl, _⟩ := h
    rfl
  · obtain ⟨b, sa, rows, ks, S, rfl, hA, hO, hS, k⟩ := h
    have hu : (A.deeper (envOfC "_law_is_threaded" (defScope sLth) s.heap.objs.size f cdv)).units + 64 < cLine := hr.units
    refine ⟨_, (pss_cons (ps_set (i := 2) scLth.nd rfl (Or.inl rfl) (pe_call CF.G hr (by rfl) CF.m CF.kp CF.b .nil pass0 (pa_cons
        (pe_lc (own := [("kind", 3)]) (g := gName 3) (tt := tYes) (te := tCB (rLstOf K) (tCons (tOp (rIxT K) (tVar 3) (tC (.int 3))) tNil)) (by rfl) scLth.nd (pi_tup (pe_ix (r := rIxT K) ix_tup (pv 0) pe_int (fun _ _ => rfl)))
          (blkOk_by (own := [("kind", 3)]) (N := nmLth) (sc := defScope sLth) (by decide +kernel)) (fun _ _ _ _ _ => pg_name (i := 3) scLth.nd rfl (Or.inl rfl)) (fun _ _ _ _ _ => pts_nil)
          (fun _ _ _ _ _ => pe_callTy (T := "list") (r := rLstOf K) call_lstOf (by rfl) hlist (by decide +kernel) (pa_cons (pe_ix (r := rIxT K) ix_tup (pv 3) pe_int (fun _ _ => rfl)) pa_nil))) pa_nil)))
      (pss_one (ps_ret (pe_cmpR (r := rEqD K) (op_eqD hu) (pe_lc (own := [("ground", 4)]) (g := gName 4) (tt := tTest (tOp (rI0 fun i j => V.bl (decide (j < i))) (tCB (rLen K) (tCons (tCall spLed [] E0 (tCons (tVar 4) (tCons (tVar 1) tNil))) tNil)) (tC (.int 1)))) (te := tVar 4) (by rfl) scLth.nd (pi_list (pv 2))
          (blkOk_by (own := [("ground", 4)]) (N := nmLth) (sc := defScope sLth) (by decide +kernel)) (fun _ _ _ _ _ => pg_name (i := 4) scLth.nd rfl (Or.inl rfl))
          (fun _ _ _ _ _ => pts_one (pt_cmpR (r := rI0 fun i j => V.bl (decide (j < i))) op_gt (pe_callB (r := rLen K) call_len_seq (by rfl) TB.len PySem.boot_len (pa_cons (pe_call CL.G hr (by rfl) CL.m CL.kp CL.b .nil pass0 (pa_cons (pv 4) (pa_cons (pv 1) pa_nil))) pa_nil)) pe_int (nomark _)))
          (fun _ _ _ _ _ => pv 4)) (pe_lst pa_nil) (nomark _))))), ?_⟩
    obtain ⟨r, kt, kas, e1, e2, e3, pk⟩ := hA
    have hlen := paired_len pk
    have hk5 := hO.k5
    refine ⟨_, rfl, b, _, 1, .ref kt, rfl, rfl, SqT.of e1, rfl, kt, rfl, ⟨_, SqT.of e3⟩, fun D nD => ?_⟩
    dsimp only [tNil]
    refine go_tup (K := K) (a := kt) (xs := kas.map V.ref) (fun i J => Same H J ∧ ∃ (qs : List Addr) (xss : List (List Addr)), J D = some (.lst (qs.map V.ref)) ∧ (∀ q ∈ qs, q ≠ D) ∧ Paired (fun q (xs : List Addr) => J q = some (.lst (xs.map V.ref))) qs xss ∧ Paired (fun (xs : List Addr) (k : Kd) => Paired (Grd H) xs k.gs) xss (ks.take i)) ?_ ?_ ?_ ?_
    · exact ⟨same_upd nD, [], [], upd_same, (fun _ z => nomatch z), .nil, .nil⟩
    · rintro i J _ ⟨SJ, _⟩
      exact SqT.of (SJ _ _ e3)
    · rintro i x J hx ⟨SJ, qs, xss, jD, nqs, pq, px⟩
      rw [List.getElem?_map] at hx
      obtain ⟨ka, ha, rfl⟩ := Option.map_eq_some_iff.mp hx
      obtain ⟨kd, hkd, gt, gas, f1, f2, f3⟩ := paired_at pk ha
      have hi : i < kas.length := (List.getElem?_eq_some_iff.mp ha).1
      have tk : ks.take (i + 1) = ks.take i ++ [kd] := by rw [List.take_add_one, hkd]; rfl
      have lq := paired_len pq
      have lx := paired_len px
      rw [List.length_take] at lx
      refine ⟨rfl, tYes_go (iteT ?_)⟩
      refine ⟨_, rfl, ka, _, 3, .ref gt, rfl, rfl, SqT.of (SJ _ _ f1), rfl, gt, _, rfl, .inr (SqT.of (SJ _ _ f2)), fun q nq => ?_⟩
      have Sq := same_upd (o := .lst (gas.map V.ref)) nq
      have eq : upd J q (.lst (gas.map V.ref)) q = some (.lst (gas.map V.ref)) := upd_same
      have SJ2 := KaG.Same.tr SJ Sq
      have jD2 := Sq _ _ jD
      have pq3 := Paired.mono' (fun _ _ e => Sq _ _ e) pq
      have qD : q ≠ D := fun z => by rw [z, jD] at nq; cases nq
      generalize upd J q (.lst (gas.map V.ref)) = J2 at eq SJ2 jD2 pq3 ⊢
      refine ⟨_, jD2, small1000 (by rw [List.length_map]; omega), fun b u e => by rw [upd_ne (ne_of_none e nD)]; exact SJ2 b u e, qs ++ [q], xss ++ [gas], by rw [upd_same, List.map_append]; rfl, fun q2 m => ?_, ?_, ?_⟩
      · rcases List.mem_append.mp m with z | z
        · exact nqs q2 z
        · rw [List.mem_singleton.mp z]; exact qD
      · exact paired_app (paired_inL (fun a xs m e => by rw [upd_ne (nqs a m)]; exact e) pq3) (.cons (by rw [upd_ne qD]; exact eq) .nil)
      · rw [tk]
        exact paired_app px (.cons f3 .nil)
    · rintro J ⟨SJ, qs, xss, jD, nqs, pq, px⟩
      rw [List.length_map, hlen, List.take_length] at px
      have pf := paired_flat px
      have lf := paired_len pf
      have l20 : (ks.flatMap Kd.gs).length ≤ 20 := by
        have : ∀ l : List Kd, (∀ k ∈ l, k.gs.length ≤ 4) → (l.flatMap Kd.gs).length ≤ 4 * l.length := fun l => by
          induction l with
          | nil => exact fun _ => Nat.le_refl _
          | cons k r ih =>
            intro h
            have h1 := h k List.mem_cons_self
            have h2 := ih fun q m => h q (List.mem_cons_of_mem _ m)
            rw [List.flatMap_cons, List.length_append, List.length_cons]
            omega
        have := this ks fun k m => (hO.num k m).2.2.2.2
        omega
      have efl : (xss.map fun xs => xs.map V.ref).flatten = xss.flatten.map V.ref := by rw [List.map_flatten]
      refine ⟨D, qs, xss.map fun xs => xs.map V.ref, rfl, jD, paired_mapR pq, by rw [efl, List.length_map]; omega, fun p J2 S2 np ep => ?_⟩
      rw [efl] at ep
      have SH2 := KaG.Same.tr SJ S2
      generalize hgs : ks.flatMap Kd.gs = gs at pf lf l20
      generalize xss.flatten = gas at ep pf lf
      have hgn : ∀ g ∈ gs, g.length ≤ 3 ∧ ∀ it ∈ g, NeedV rows (nmsOf ks) it := fun g m => by
        rw [← hgs] at m
        obtain ⟨k, mk, mg'⟩ := List.mem_flatMap.mp m
        exact (hO.grd k mk g mg').2
      let gB : List (List V) → Bool := fun g => decide (1 < (g.filter (ndTh S)).length)
      refine ⟨_, rfl, p, rfl, ⟨_, SqL.of ep⟩, fun D2 nD2 => ?_⟩
      dsimp only [tNil]
      refine go_list (K := K) (a := p) (xs := gas.map V.ref) (fun i G => Same J2 G ∧ ∃ as : List Addr, G D2 = some (.lst (as.map V.ref)) ∧ Paired (Grd G) as ((gs.take i).filter gB)) ?_ ?_ ?_ ?_
      · exact ⟨same_upd nD2, [], upd_same, .nil⟩
      · rintro i G _ ⟨SG, _⟩
        exact SqL.of (SG _ _ ep)
      · rintro i v G hv ⟨SG, as, gD, pa⟩
        rw [List.getElem?_map] at hv
        obtain ⟨ga, hga, rfl⟩ := Option.map_eq_some_iff.mp hv
        obtain ⟨g, hg, eG⟩ := paired_at pf hga
        have hi := (List.getElem?_eq_some_iff.mp hg).1
        have tk : gs.take (i + 1) = gs.take i ++ [g] := by rw [List.take_add_one, hg]; rfl
        obtain ⟨g3, gn⟩ := hgn g (List.mem_of_getElem? hg)
        have SHG := KaG.Same.tr SH2 SG
        have eGG := Grd.ts eG (TSame.of SHG)
        have la := paired_len pa
        have lf2 := List.length_filter_le gB (gs.take i)
        rw [List.length_take] at lf2
        refine ⟨rfl, ?_⟩
        refine ⟨_, rfl, _, rfl, ga, sa, S, g, rows, nmsOf ks, rfl, hS.same SHG, eGG, gn, g3, fun p2 as2 G2 SG2 np2 ep2 pa2 => ?_⟩
        have l2 := paired_len pa2
        refine ⟨p2, _, rfl, .inl (SqL.of ep2), _, _, rfl, rfl, _, rfl, ?_⟩
        have S2 := KaG.Same.tr SG SG2
        have e1 : decide ((1 : Int) < ((as2.map V.ref).length : Int)) = gB g := by
          rw [List.length_map, l2]
          exact decide_eq_decide.mpr (by omega)
        show (if decide ((1 : Int) < ((as2.map V.ref).length : Int)) = true then _ else _)
        rw [e1]
        refine ite2 (fun hb => ?_) fun hb => ?_
        · have gD2 := SG2 _ _ gD
          have tsl := ts_lst (ys := as.map V.ref ++ [V.ref ga]) gD2
          refine ⟨_, rfl, _, gD2, small1000 (by rw [List.length_map]; omega), fun b u e => by rw [upd_ne (ne_of_none e nD2)]; exact S2 b u e, as ++ [ga], by rw [upd_same, List.map_append]; rfl, ?_⟩
          rw [tk, List.filter_append, List.filter_cons_of_pos hb, List.filter_nil]
          exact paired_snoc (R := Grd _) (Grd.ts (Grd.ts eGG (TSame.of SG2)) tsl) (Paired.mono' (fun _ _ e => Grd.ts (Grd.ts e (TSame.of SG2)) tsl) pa)
        · refine ⟨S2, as, SG2 _ _ gD, ?_⟩
          rw [tk, List.filter_append, List.filter_cons_of_neg hb, List.filter_nil, List.append_nil]
          exact Paired.mono' (fun _ _ e => Grd.ts e (TSame.of SG2)) pa
      · rintro G ⟨SG, as, gD, pa⟩
        rw [List.length_map, lf, List.take_length] at pa
        refine ⟨Nat.zero_le _, fun z nz => ?_⟩
        have Sz := same_upd (o := .lst []) nz
        refine grds_empty (rows := rows) (names := nmsOf ks) hO.rw.of hO.nm.of (Sz _ _ gD) (Paired.mono' (fun _ _ e => Grd.ts e (TSame.of Sz)) pa) (fun g m => (hgn g (List.mem_filter.mp m).1).2) upd_same ?_
        have e : decide ((gs.filter gB).length = 0) = thB ks S := by
          rw [← hgs]
          have h1 : ∀ l : List Kd, decide (((l.flatMap Kd.gs).filter gB).length = 0) = thB l S := fun l => by
            cases c : thB l S with
            | true =>
              refine decide_eq_true ?_
              rw [List.length_eq_zero_iff, List.filter_eq_nil_iff]
              intro g m hb
              obtain ⟨k, mk, mg'⟩ := List.mem_flatMap.mp m
              have := of_decide_eq_true (List.all_eq_true.mp (List.all_eq_true.mp c k mk) g mg')
              have := of_decide_eq_true hb
              omega
            | false =>
              refine decide_eq_false fun z => ?_
              rw [List.length_eq_zero_iff, List.filter_eq_nil_iff] at z
              have : thB l S = true := List.all_eq_true.mpr fun k mk => List.all_eq_true.mpr fun g mg' => decide_eq_true (by
                have := z g (List.mem_flatMap.mpr ⟨k, mk, mg'⟩)
                have h3 : ¬ 1 < (g.filter (ndTh S)).length := fun h => this (decide_eq_true h)
                omega)
              rw [c] at this
              cases this
          exact h1 ks
        rw [e]
        exact k _ (KaG.Same.tr SH2 (KaG.Same.tr SG Sz))
end
end KaG
set_option maxRecDepth 100000
set_option maxHeartbeats 4000000
namespace KaG
open PySem PySem.Spec PyProof.Rows L2 KaC KaN LamX NdefX
def keepK (ks : List Kd) (n : Str) : Int := ((ks.find? fun k => decide (k.name = n)).map Kd.keep).getD 0
theorem keepK_at {ks : List Kd} {k : Kd} (nd : (ks.map Kd.name).Nodup) (m : k ∈ ks) : keepK ks k.name = k.keep := by
  unfold keepK
  cases e : ks.find? (fun q => decide (q.name = k.name)) with
  | none => exact absurd (decide_eq_true rfl) (List.find?_eq_none.mp e k m)
  | some q =>
    have h1 : q.name = k.name := by simpa using List.find?_some e
    have h2 := List.mem_of_find?_eq_some e
    rw [kd_one nd h2 m h1]
    rfl
def kpD (ks : List Kd) (F : List Str) : List (Key × V) := F.map fun n => ((Sum.inr n : Key), V.int (keepK ks n))
theorem kpD_val {ks : List Kd} {F : List Str} {n : Str} : valV (kpD ks F) (Sum.inr n) = if n ∈ F then some (V.int (keepK ks n)) else none := by
  unfold kpD valV
  induction F with
  | nil => rfl
  | cons m r ih =>
    rw [List.map_cons, List.find?_cons]
    by_cases c : m = n
    · subst c
      rw [decide_eq_true (show (Sum.inr m : Key) = Sum.inr m from rfl), if_pos List.mem_cons_self]
      rfl
    · rw [decide_eq_false (show ¬ (Sum.inr m : Key) = Sum.inr n from fun z => c (Sum.inr.inj z)), ih]
      by_cases c2 : n ∈ r
      · rw [if_pos c2, if_pos (List.mem_cons_of_mem _ c2)]
      · rw [if_neg c2, if_neg fun z => (List.mem_cons.mp z).elim (fun y => c y.symm) c2]
/-- a need that spoils its ground -/
def ndBad (ks : List Kd) (F : List Str) (it : List V) : Bool := !ndLive ks F it
theorem bad_none {ks : List Kd} {F : List Str} {g : Gr} : decide ((g.filter (ndBad ks F)).length = 0) = grLive ks F g := by
  unfold grLive
  cases c : g.all (ndLive ks F) with
  | true =>
    refine decide_eq_true ?_
    rw [List.length_eq_zero_iff, List.filter_eq_nil_iff]
    intro it m h
    have := List.all_eq_true.mp c it m
    unfold ndBad at h
    rw [this] at h
    cases h
  | false =>
    refine decide_eq_false fun z => ?_
    rw [List.length_eq_zero_iff, List.filter_eq_nil_iff] at z
    have : g.all (ndLive ks F) = true := List.all_eq_true.mpr fun it m => by
      have := z it m
      unfold ndBad at this
      cases q : ndLive ks F it with
      | true => rfl
      | false => rw [q] at this; exact absurd rfl this
    rw [c] at this
    cases this
section
variable {P : Program} {w : World} {K : PySem.W.Frag} {mg : Str → Option Value} {base : Heap}
abbrev sLil : Stmt := top 34
abbrev nmLil : List Str := ["ground", "keeps", "bearing", "bad", "need"]
theorem scLil : FnScope nmLil ["ground", "keeps", "bearing"] (defScope sLil) := ⟨rfl, rfl, rfl, by decide +kernel, rfl, by decide +kernel, by decide +kernel⟩
def spLil : Sp := fun vs H Q _ => ∃ (ga kd bd : Addr) (rows : List Str) (ks : List Kd) (g : Gr) (F : List Str), vs = [.ref ga, .ref kd, .ref bd] ∧ BookOk rows ks ∧ Grd H ga g ∧ (∀ n ∈ g, NeedV rows (nmsOf ks) n) ∧ g.length ≤ 3 ∧ H kd = some (.dK (kpD ks (nmsOf ks))) ∧ H bd = some (.dK (kpD ks F)) ∧ ∀ H', Same H H' → Q (.bl (grLive ks F g)) H'
theorem ok_Lil {f : Addr} {fd : FuncData} (F : Fun K "_law_is_live" "_law_is_live" sLil f fd) : FnOk P w K mg base CX0 1 f fd ["ground", "keeps", "bearing"] spLil := by
  refine F.ok scLil (fun vs H Q E h => ?_) (fun cdv A outer s H vs Q E hr h => ?_)
  · obtain ⟨ga, kd, bd, rows, ks, g, B, rfl, _⟩ := h
    rfl
  · obtain ⟨ga, kd, bd, rows, ks, g, B, rfl, hO, hG, hn, l3, eK, eB, k⟩ := h
    have u1 := hu_of hr
    have hu : (A.deeper (envOfC "_law_is_live" (defScope sLil) s.heap.objs.size f cdv)).units + 64 < cLine := hr.units
    refine ⟨_, (pss_cons (ps_setLc (i := 3) (own := [("need", 4)]) (g := gName 4) (te := tVar 4) (by rfl) scLil.nd rfl rfl (sw_true rfl rfl rfl (by decide +kernel)) (pi_tup (pv 0))
        (blkOk_by (own := [("need", 4)]) (N := nmLil) (sc := defScope sLil) (by decide +kernel)) (fun _ _ _ _ _ => pg_name (i := 4) scLil.nd rfl (Or.inl rfl))
        (fun _ _ _ _ _ => pts_one (PW.pt (pw_and (pt_cmpR (r := rEq) op_eq (pe_ix (r := rIxT K) ix_tup (pv 4) pe_int (fun _ _ => rfl)) pe_str (nomark _))
          (pw_and1 (PW.pt (pw_or (pt_cmp (pc_dnotin u1 (pe_ix (r := rIxT K) ix_tup (pv 4) pe_int (fun _ _ => rfl)) (pv 2)))
            (pw_or1 (pt_cmpR (r := rI0 fun i j => V.bl (decide (j ≤ i))) op_ge (pe_ix (r := rIxT K) ix_tup (pv 4) pe_int (fun _ _ => rfl)) (pe_dget u1 (pv 1) (pe_ix (r := rIxT K) ix_tup (pv 4) pe_int (fun _ _ => rfl)) (fun _ _ => rfl)) (nomark _))))))))) (fun _ _ _ _ _ => pv 4))
      (pss_one (ps_ret (pe_cmpR (r := rEqD K) (op_eqD hu) (pv 3) (pe_lst pa_nil) (nomark _))))), ?_⟩
    obtain ⟨ns, eg, pn⟩ := hG
    have ln := paired_len pn
    have nd := hO.nm.nd
    refine ⟨_, rfl, ga, rfl, ⟨_, SqT.of eg⟩, fun D nD => ?_⟩
    dsimp only [tNil]
    refine go_tup (K := K) (a := ga) (xs := ns.map V.ref) (fun i J => Same H J ∧ ∃ as : List Addr, J D = some (.lst (as.map V.ref)) ∧ NdsAt J as ((g.take i).filter (ndBad ks B))) ?_ ?_ ?_ ?_
    · exact ⟨same_upd nD, [], upd_same, .nil⟩
    · rintro i J _ ⟨SJ, _⟩
      exact SqT.of (SJ _ _ eg)
    · rintro i v J hv ⟨SJ, as, jD, pa⟩
      rw [List.getElem?_map] at hv
      obtain ⟨n, hns, rfl⟩ := Option.map_eq_some_iff.mp hv
      obtain ⟨it, hit, en⟩ := paired_at pn hns
      have nv := hn it (List.mem_of_getElem? hit)
      have tk : g.take (i + 1) = g.take i ++ [it] := by rw [List.take_add_one, hit]; rfl
      have la := paired_len pa
      have lf := List.length_filter_le (ndBad ks B) (g.take i)
      rw [List.length_take] at lf
      have enJ := SJ _ _ en
      have yes : ndBad ks B it = true → ∃ acc, J D = some (.lst acc) ∧ acc.length < sizeLine ∧ Same H (upd J D (.lst (acc ++ [.ref n]))) ∧ ∃ as : List Addr, upd J D (.lst (acc ++ [.ref n])) D = some (.lst (as.map V.ref)) ∧ NdsAt (upd J D (.lst (acc ++ [.ref n]))) as ((g.take (i + 1)).filter (ndBad ks B)) := fun h => by
        have tsl := ts_lst (ys := as.map V.ref ++ [V.ref n]) jD
        refine ⟨_, jD, small1000 (by rw [List.length_map]; omega), fun b u e => by rw [upd_ne (ne_of_none e nD)]; exact SJ b u e, as ++ [n], by rw [upd_same, List.map_append]; rfl, ?_⟩
        rw [tk, List.filter_append, List.filter_cons_of_pos h, List.filter_nil]
        exact paired_app (Paired.mono' (fun _ _ e => tsl _ _ e) pa) (.cons (tsl _ _ enJ) .nil)
      have no : ndBad ks B it = false → Same H J ∧ ∃ as : List Addr, J D = some (.lst (as.map V.ref)) ∧ NdsAt J as ((g.take (i + 1)).filter (ndBad ks B)) := fun h => by
        refine ⟨SJ, as, jD, ?_⟩
        rw [tk, List.filter_append, List.filter_cons_of_neg (by rw [h]; decide), List.filter_nil, List.append_nil]
        exact pa
      refine ⟨rfl, ?_⟩
      cases nv with
      | row nm t m =>
        refine ⟨_, rfl, n, _, 0, .str "row", rfl, rfl, SqT.of enJ, rfl, rfl, _, rfl, ?_⟩
        exact iteDF (by decide +kernel) (iteF (no rfl))
      | kind nm a t m hnm =>
        refine ⟨_, rfl, n, _, 0, .str "kind", rfl, rfl, SqT.of enJ, rfl, rfl, _, rfl, ?_⟩
        refine iteD (by decide +kernel) ?_
        refine ⟨_, rfl, n, _, 1, .str nm, rfl, rfl, SqT.of enJ, rfl, _, rfl, bd, _, rfl, DGet.k (k := Sum.inr nm) (SJ _ _ eB), _, rfl, ?_⟩
        rw [kpD_val]
        have kl : keepLt ks nm a = decide (a < keepK ks nm) := by
          obtain ⟨kk, mk, ekk⟩ := List.mem_map.mp hnm
          rw [← ekk, keepK_at nd mk, keepLt_eq nd mk]
        by_cases c : nm ∈ B
        · rw [if_pos c]
          refine iteF ?_
          have hget : DGet J kd (.str nm) (some (.int (keepK ks nm))) := by
            have h1 := DGet.k (k := Sum.inr nm) (SJ _ _ eK)
            rw [kpD_val, if_pos hnm] at h1
            exact h1
          refine ⟨_, rfl, n, _, 2, .int a, rfl, rfl, SqT.of enJ, rfl, _, rfl, _, rfl, n, _, 1, .str nm, rfl, rfl, SqT.of enJ, rfl, kd, _, rfl, hget, _, _, rfl, rfl, _, rfl, ?_⟩
          have e : ndBad ks B [.str "kind", .str nm, .int a, .int t, .int m] = decide (keepK ks nm ≤ a) := by
            show (!(decide (nm ∈ B) && keepLt ks nm a)) = _
            rw [decide_eq_true c, Bool.true_and, kl, ← decide_not]
            exact decide_eq_decide.mpr Int.not_lt
          show (if decide (keepK ks nm ≤ a) = true then _ else _)
          rw [← e]
          exact ite2 (fun h => ⟨_, rfl, yes h⟩) fun h => no (eq_false_of_ne_true h)
        · rw [if_neg c]
          refine iteT (iteT ⟨_, rfl, yes ?_⟩)
          show (!(decide (nm ∈ B) && keepLt ks nm a)) = true
          rw [decide_eq_false c]
          rfl
    · rintro J ⟨SJ, as, jD, pa⟩
      rw [List.length_map, ln, List.take_length] at pa
      refine ⟨_, rfl, Nat.zero_le _, fun z nz => ?_⟩
      have Sz := same_upd (o := .lst []) nz
      refine nds_empty' (rows := rows) (names := nmsOf ks) hO.rw.of hO.nm.of (Sz _ _ jD) (Paired.mono' (fun _ _ e => Sz _ _ e) pa) (fun it m => hn it (List.mem_filter.mp m).1) upd_same ?_
      rw [bad_none]
      exact k _ (KaG.Same.tr SJ Sz)
end
end KaG
set_option maxRecDepth 100000
set_option maxHeartbeats 4000000
namespace KaG
open PySem PySem.Spec PyProof.Rows L2 KaC KaN LamX NdefX
theorem atsTo_map {α : Type} {t : α → Bool} {xs : List α} {d : α} : ∀ n, n ≤ xs.length → (atsTo t xs n).map (fun i => xs.getD i d) = (xs.take n).filter t
  | 0, _ => rfl
  | n + 1, h => by
    have hx : xs[n]? = some xs[n] := List.getElem?_eq_getElem (by omega)
    rw [atsTo_succ hx, List.map_append, atsTo_map n (by omega), List.take_add_one, hx, Option.toList_some, List.filter_append]
    congr 1
    cases c : t xs[n] with
    | true =>
      rw [if_pos rfl, List.filter_cons_of_pos c]
      simp [List.getD, hx]
    | false =>
      rw [if_neg Bool.false_ne_true, List.filter_cons_of_neg (by rw [c]; decide)]
      rfl
theorem lvG_filter {ks : List Kd} {n : Str} : lvG ks n = (gsOf ks n).filter (grLive ks (bearOf ks)) := by
  unfold lvG liveIx
  rw [← atsTo_all]
  have h := atsTo_map (t := grLive ks (bearOf ks)) (xs := gsOf ks n) (d := []) (gsOf ks n).length (Nat.le_refl _)
  rw [List.take_length] at h
  exact h
/-- the threads of a kind, of all kinds -/
noncomputable def thG (S : List Str) (n : Str) (g : Gr) : List (Str × List V) := (g.filter (ndTh S)).map fun it => (n, it)
noncomputable def thK (ks : List Kd) (S : List Str) (k : Kd) : List (Str × List V) := (lvG ks k.name).flatMap (thG S k.name)
noncomputable def thr (ks : List Kd) (S : List Str) : List (Str × List V) := ks.flatMap (thK ks S)
abbrev ThAt (H : Hp) (a : Addr) (p : Str × List V) : Prop := ∃ na : Addr, H a = some (.tup [.str p.1, .ref na]) ∧ H na = some (.tup p.2)
theorem ThAt.ts {H H' : Hp} {a : Addr} {p : Str × List V} (h : ThAt H a p) (s : TSame H H') : ThAt H' a p := by
  obtain ⟨na, e1, e2⟩ := h
  exact ⟨na, s _ _ e1, s _ _ e2⟩
theorem th_le {rows : List Str} {ks : List Kd} {S : List Str} (hO : BookOk rows ks) {k : Kd} (mk : k ∈ ks) : (lvG ks k.name).length ≤ 4 ∧ ∀ g ∈ lvG ks k.name, g ∈ k.gs ∧ g.length ≤ 3 ∧ ∀ it ∈ g, NeedV rows (nmsOf ks) it := by
  have eg := gsOf_eq hO.nm.nd mk
  rw [lvG_filter, eg]
  refine ⟨Nat.le_trans (List.length_filter_le ..) (hO.num k mk).2.2.2.2, fun g m => ?_⟩
  have mg' := (List.mem_filter.mp m).1
  exact ⟨mg', (hO.grd k mk g mg').2⟩
theorem ts_fz {H : Hp} {p : Addr} {x : Obj} {u o : HO} (e : H p = some (.frz x u)) : TSame H (upd H p o) := fun b zs q => by
  rw [upd_ne (fun z => by rw [z, e] at q; cases q)]
  exact q
section
variable {P : Program} {w : World} {K : PySem.W.Frag} {mg : Str → Option Value} {base : Heap}
abbrev sLt : Stmt := top 15
abbrev nmLt : List Str := ["rulebook", "struck", "live", "name", "index", "need"]
theorem scLt : FnScope nmLt ["rulebook", "struck"] (defScope sLt) := ⟨rfl, rfl, rfl, by decide +kernel, rfl, by decide +kernel, by decide +kernel⟩
def spLt (T : List NTab) : Sp := fun vs H Q _ => ∃ (b sa : Addr) (rows : List Str) (ks : List Kd) (S : List Str), vs = [.ref b, .ref sa] ∧ BookAt H b rows ks ∧ BookOk rows ks ∧ Sq2 H sa (S.map V.str) ∧ TabsN T H ∧
  ∀ (p : Addr) (as : List Addr) (H' : Hp), Ex T H H' → H p = none → H' p = some (.lst (as.map V.ref)) → Paired (ThAt H') as (thr ks S) → Q (.ref p) H'
theorem ok_Lt {T : List NTab} {f fL fK fN : Addr} {fd fdL fdK fdN : FuncData} (F : Fun K "_live_threads" "_live_threads" sLt f fd) (CL : Ct P w K mg base "live_indexes" 6 ["rulebook"] (spLiveIx T) fL fdL) (CK : Ct P w K mg base "kind_of" 1 ["rulebook", "name"] spKindN fK fdK) (CN : Ct P w K mg base "needs_threaded" 1 ["struck", "ground"] spNt fN fdN) : FnOk P w K mg base CX0 7 f fd ["rulebook", "struck"] (spLt T) := by
  refine F.ok scLt (fun vs H Q E h => ?_) (fun cdv A outer s H vs Q E hr h => ?_)
  · obtain ⟨b, sa, rows, ks, S, rfl, _⟩ := h
    rfl
  · obtain ⟨b, sa, rows, ks, S, rfl, hA, hO, hS, hT, k⟩ := h
    have u1 := hu_of hr
    have hr1 : Room 1 (A.deeper (envOfC "_live_threads" (defScope sLt) s.heap.objs.size f cdv)) := hr.mono (by decide)
    refine ⟨_, (pss_cons (ps_set (i := 2) scLt.nd rfl (Or.inr rfl) (pe_call CL.G hr (by rfl) CL.m CL.kp CL.b .nil pass0 (pa_cons (pv 0) pa_nil)))
      (pss_one (ps_ret (pe_lock (pe_lc3 [4, 5] [5] (own := [("name", 3), ("index", 4), ("need", 5)]) (g0 := gName 3) (g1 := gName 4) (g2 := gName 5) (w1 := iList K (tDGet (tVar 2) (tVar 3)))
        (w2 := iList K (tCall spNt [] E0 (tCons (tVar 1) (tCons (tOp (rIxT K) (tOp (rIxT K) (tCall spKindN [] E0 (tCons (tVar 0) (tCons (tVar 3) tNil))) (tC (.int 3))) (tVar 4)) tNil)))) (te := tTup (tCons (tVar 3) (tCons (tVar 5) tNil)))
        (by rfl) scLt.nd (pi_keys (pv 2)) (blkOk_by (own := [("name", 3), ("index", 4), ("need", 5)]) (N := nmLt) (sc := defScope sLt) (by decide +kernel)) (by decide) (by decide)
        (fun _ _ _ _ _ => pg_name (i := 3) scLt.nd rfl (Or.inl rfl)) (fun _ _ _ _ _ => pts_nil)
        (fun _ _ _ _ _ => pi_list (pe_dget u1 (pv 2) (pv 3) (fun _ _ => rfl)))
        (fun _ _ _ _ _ => pg_name (i := 4) scLt.nd rfl (Or.inl rfl)) (fun _ _ _ _ _ => pts_nil)
        (fun _ _ _ _ _ => pi_list (pe_call CN.G hr1 (by rfl) CN.m CN.kp CN.b .nil pass0 (pa_cons (pv 1) (pa_cons (pe_ix (r := rIxT K) ix_tup (pe_ix (r := rIxT K) ix_tup (pe_call CK.G hr1 (by rfl) CK.m CK.kp CK.b .nil pass0 (pa_cons (pv 0) (pa_cons (pv 3) pa_nil))) pe_int (fun _ _ => rfl)) (pv 4) (fun _ _ => rfl)) pa_nil))))
        (fun _ _ _ _ _ => pg_name (i := 5) scLt.nd rfl (Or.inl rfl)) (fun _ _ _ _ _ => pts_nil)
        (fun _ _ _ _ _ => pe_tup (pa_cons (pv 3) (pa_cons (pv 5) pa_nil)))))))), ?_⟩
    have sz : ∀ {m : Nat}, m ≤ 900 → m ≤ sizeLine := fun h => Nat.le_of_lt (small1000 (by omega))
    have nd := hO.nm.nd
    have hk5 := hO.k5
    refine ⟨_, rfl, b, rows, ks, rfl, hA, hO, hT, fun d ls H1 X1 nd1 hD _ => ?_⟩
    obtain ⟨eD, hl⟩ := hD
    have hl : Paired (fun (l : Addr) (k : Kd) => H1 l = some (.lst (ixV (liveIx ks (bearOf ks) k.name)))) ls ks := Paired.mono' (fun _ _ q => q.2) hl
    have hA1 := hA.ts X1.ts
    have hS1 : Sq2 H1 sa (S.map V.str) := hS.imp (fun e => X1.lst e) (fun e => X1.ts _ _ e)
    refine ⟨d, _, eD, trivial, fun od => ?_⟩
    have hdL : upd H1 d (.frz od (.dK (kvsOf ks ls))) d = some (.frz od (.dK (kvsOf ks ls))) := upd_same
    have ned : ∀ {b u}, H1 b = some u → (∀ x, u ≠ .dK x) → upd H1 d (.frz od (.dK (kvsOf ks ls))) b = some u := fun {b u} e n => by rw [upd_ne (fun z => by rw [z, eD] at e; injection e with e; exact n _ e.symm)]; exact e
    have hlL : Paired (fun (l : Addr) (k : Kd) => upd H1 d (.frz od (.dK (kvsOf ks ls))) l = some (.lst (ixV (liveIx ks (bearOf ks) k.name)))) ls ks := Paired.mono' (fun _ _ q => ned q (by intro x z; cases z)) hl
    have hAL : BookAt (upd H1 d (.frz od (.dK (kvsOf ks ls)))) b rows ks := hA1.ts (ts_dk' eD)
    have hSL : Sq2 (upd H1 d (.frz od (.dK (kvsOf ks ls)))) sa (S.map V.str) := hS1.imp (fun e => ned e (by intro x z; cases z)) (fun e => ned e (by intro x z; cases z))
    have un : ∀ J, Same (upd H1 d (.frz od (.dK (kvsOf ks ls)))) J → Same H1 (upd J d (.dK (kvsOf ks ls))) := fun J s => same_unlock eD s
    have nonL : ∀ q, upd H1 d (.frz od (.dK (kvsOf ks ls))) q = none → H1 q = none := fun q e => by
      by_cases z : q = d
      · rw [z, upd_same] at e; cases e
      · rw [upd_ne z] at e; exact e
    have lk : (kvsOf ks ls).length = ks.length := kvs_len (paired_len hl)
    generalize upd H1 d (.frz od (.dK (kvsOf ks ls))) = HL at hdL hlL hAL hSL un nonL ⊢
    refine ⟨_, rfl, d, od, rfl, .inl ⟨kvsOf ks ls, hdL, fun D nD => go_keys (fun i J => Same HL J ∧ ∃ as : List Addr, J D = some (.lst (as.map V.ref)) ∧ as.length ≤ 12 * i ∧ Paired (ThAt J) as ((ks.take i).flatMap (thK ks S))) ?_ ?_ ?_ ?_⟩⟩
    · exact ⟨same_upd nD, [], upd_same, Nat.le_refl _, .nil⟩
    · rintro i J _ ⟨SJ, _⟩
      exact SJ _ _ hdL
    · rintro i kk vv J hkv ⟨SJ, as, jD, la, pa⟩
      have hi : i < ks.length := by rw [← lk]; exact (List.getElem?_eq_some_iff.mp hkv).1
      have hkd : ks[i]? = some ks[i] := List.getElem?_eq_getElem hi
      obtain ⟨lli, hls⟩ : ∃ l, ls[i]? = some l := ⟨_, List.getElem?_eq_getElem (by rw [paired_len hl]; exact hi)⟩
      have ekk : kk = Sum.inr ks[i].name := by
        unfold kvsOf at hkv
        rw [List.getElem?_map] at hkv
        obtain ⟨q, hq, eq⟩ := Option.map_eq_some_iff.mp hkv
        rw [List.getElem?_zip_eq_some] at hq
        have := hq.1
        rw [hkd] at this
        injection this with this
        injection eq with e1 _
        rw [← e1, this]
      subst ekk
      generalize hkdn : ks[i] = kd at hkd hkv
      have mk := List.mem_of_getElem? hkd
      have tk : ks.take (i + 1) = ks.take i ++ [kd] := by rw [List.take_add_one, hkd]; rfl
      obtain ⟨ll, ev, ell⟩ := kvs_get nd hlL mk
      have egs := gsOf_eq nd mk
      obtain ⟨lv4, lvg⟩ := th_le (S := S) hO mk
      have lvl : (lvG ks kd.name).length = (liveIx ks (bearOf ks) kd.name).length := by unfold lvG; rw [List.length_map]
      refine ⟨rfl, tYes_go (iteT ?_)⟩
      refine ⟨_, rfl, _, rfl, d, .ref ll, rfl, .inl ⟨kvsOf ks ls, Sum.inr kd.name, .inr ⟨od, SJ _ _ hdL⟩, rfl, ev.symm⟩, ll, rfl, ⟨_, SqL.of (SJ _ _ ell)⟩, go_list (K := K) (a := ll) (xs := ixV (liveIx ks (bearOf ks) kd.name)) (fun q J2 => Same HL J2 ∧ ∃ as2 : List Addr, J2 D = some (.lst (as2.map V.ref)) ∧ as2.length ≤ 12 * i + 3 * q ∧ Paired (ThAt J2) as2 ((ks.take i).flatMap (thK ks S) ++ ((lvG ks kd.name).take q).flatMap (thG S kd.name))) ?_ ?_ ?_ ?_⟩
      · exact ⟨SJ, as, jD, by omega, by simpa using pa⟩
      · rintro q J2 _ ⟨S2, _⟩
        exact SqL.of (S2 _ _ ell)
      · rintro q y J2 hy ⟨S2, as2, jD2, la2, pa2⟩
        obtain ⟨i0, hi0, rfl⟩ := ixV_at hy
        obtain ⟨gr, hgr, _⟩ := ats_mem.mp (List.mem_of_getElem? hi0)
        have e1 : grAt ks kd.name i0 = gr := grAt_at hgr
        rw [egs] at hgr
        have hlv : (lvG ks kd.name)[q]? = some gr := by unfold lvG; rw [List.getElem?_map, hi0, ← e1]; rfl
        have tkq : (lvG ks kd.name).take (q + 1) = (lvG ks kd.name).take q ++ [gr] := by rw [List.take_add_one, hlv]; rfl
        obtain ⟨_, g3, gn⟩ := lvg gr (List.mem_of_getElem? hlv)
        have hq := (List.getElem?_eq_some_iff.mp hlv).1
        refine ⟨rfl, tYes_go (iteT ?_)⟩
        refine ⟨_, rfl, _, rfl, _, rfl, b, rows, ks, kd.name, rfl, hAL.ts (TSame.of S2), nd, List.mem_map_of_mem mk, fun ka kd2 mk2 kn hk => ?_⟩
        obtain rfl := kd_one nd mk2 mk kn
        obtain ⟨gt, gas2, f1, f2, f3⟩ := hk
        obtain ⟨ga, hga, eGr⟩ := paired_at2 f3 hgr
        refine ⟨ka, _, 3, .ref gt, rfl, rfl, SqT.of f1, rfl, _, rfl, gt, _, _, .ref ga, rfl, rfl, SqT.of f2, atI_nat (by rw [List.getElem?_map, hga]; rfl), ?_⟩
        refine ⟨sa, ga, S, gr, rows, nmsOf ks, rfl, hSL.same S2, eGr, gn, g3, fun p ns J3 S3 np ep pn => ?_⟩
        have ln := paired_len pn
        have lf := List.length_filter_le (ndTh S) gr
        have pD : p ≠ D := fun z => by rw [z, jD2] at np; cases np
        refine ⟨p, rfl, ⟨_, SqL.of ep⟩, go_list (K := K) (a := p) (xs := ns.map V.ref) (fun u J4 => Same HL J4 ∧ TSame J3 J4 ∧ J4 p = some (.lst (ns.map V.ref)) ∧ ∃ as3 : List Addr, J4 D = some (.lst (as3.map V.ref)) ∧ as3.length ≤ 12 * i + 3 * q + u ∧ Paired (ThAt J4) as3 (((ks.take i).flatMap (thK ks S) ++ ((lvG ks kd2.name).take q).flatMap (thG S kd2.name)) ++ ((gr.filter (ndTh S)).take u).map fun it => (kd2.name, it))) ?_ ?_ ?_ ?_⟩
        · exact ⟨KaG.Same.tr S2 S3, fun _ _ e => e, ep, as2, S3 _ _ jD2, by omega, by simpa using Paired.mono' (fun _ _ e => ThAt.ts e (TSame.of S3)) pa2⟩
        · rintro u J4 _ ⟨_, _, j4, _⟩
          exact SqL.of j4
        · rintro u y J4 hy ⟨S4, t4, j4, as3, jD4, la3, pa3⟩
          have hu := (List.getElem?_eq_some_iff.mp hy).1
          rw [List.length_map] at hu
          rw [List.getElem?_map] at hy
          obtain ⟨na, hna, rfl⟩ := Option.map_eq_some_iff.mp hy
          obtain ⟨it, hit, en⟩ := paired_at pn hna
          have enJ := t4 _ _ en
          refine ⟨rfl, tYes_go (iteT ?_)⟩
          refine ⟨_, rfl, _, rfl, sz (by show 2 ≤ 900; decide), fun t nt => ?_⟩
          have St := same_upd (o := .tup [kV (Sum.inr kd2.name), .ref na]) nt
          have et : upd J4 t (.tup [kV (Sum.inr kd2.name), .ref na]) t = some (.tup [.str kd2.name, .ref na]) := upd_same
          have S5 := KaG.Same.tr S4 St
          have jD5 := St _ _ jD4
          have j5 := St _ _ j4
          have t5 : TSame J3 (upd J4 t (.tup [kV (Sum.inr kd2.name), .ref na])) := fun b u e => St _ _ (t4 b u e)
          have pa5 := Paired.mono' (fun _ _ e => ThAt.ts e (TSame.of St)) pa3
          have en5 := St _ _ enJ
          generalize upd J4 t (.tup [kV (Sum.inr kd2.name), .ref na]) = J5 at et S5 jD5 j5 t5 pa5 en5 ⊢
          have tsl := ts_lst (ys := as3.map V.ref ++ [V.ref t]) jD5
          refine ⟨_, jD5, small1000 (by rw [List.length_map]; omega), fun b u e => by rw [upd_ne (ne_of_none e nD)]; exact S5 b u e, fun b u e => tsl _ _ (t5 b u e), by rw [upd_ne pD]; exact j5, as3 ++ [t], by rw [upd_same, List.map_append]; rfl, by rw [List.length_append, List.length_singleton]; omega, ?_⟩
          rw [List.take_add_one, hit, Option.toList_some, List.map_append, ← List.append_assoc]
          exact paired_app (Paired.mono' (fun _ _ e => ThAt.ts e tsl) pa5) (.cons ⟨na, tsl _ _ et, tsl _ _ en5⟩ .nil)
        · rintro J4 ⟨S4, t4, j4, as3, jD4, la3, pa3⟩
          rw [List.length_map, ln, List.take_length] at pa3
          rw [List.length_map] at la3
          refine ⟨S4, as3, jD4, by omega, ?_⟩
          rw [tkq, List.flatMap_append, ← List.append_assoc]
          have e : [gr].flatMap (thG S kd2.name) = (gr.filter (ndTh S)).map fun it => (kd2.name, it) := by simp [thG]
          rw [e]
          exact pa3
      · rintro J2 ⟨S2, as2, jD2, la2, pa2⟩
        have ll' : (ixV (liveIx ks (bearOf ks) kd.name)).length = (lvG ks kd.name).length := by unfold ixV; rw [List.length_map, lvl]
        rw [ll'] at la2 pa2
        rw [List.take_length] at pa2
        refine ⟨S2, as2, jD2, by omega, ?_⟩
        rw [tk, List.flatMap_append]
        have e : [kd].flatMap (thK ks S) = (lvG ks kd.name).flatMap (thG S kd.name) := by simp [thK]
        rw [e]
        exact pa2
    · rintro J ⟨SJ, as, jD, la, pa⟩
      have jd := SJ _ _ hdL
      have Dd : D ≠ d := fun z => by rw [z, hdL] at nD; cases nD
      rw [lk, List.take_length] at pa
      refine ⟨jd, ?_⟩
      have nDH : H D = none := X1.non _ (nonL _ nD)
      exact k D as _ (X1.tr (Ex.same X1.tab (un J SJ))) nDH (by rw [upd_ne Dd]; exact jD) (Paired.mono' (fun _ _ e => ThAt.ts e (ts_fz jd)) pa)
end
end KaG
set_option maxRecDepth 100000
set_option maxHeartbeats 4000000
namespace KaG
open PySem PySem.Spec PyProof.Rows L2 KaC KaN LamX NdefX
theorem kpD_old {ks : List Kd} {F : List Str} {n : Str} (m : n ∈ F) : putK (kpD ks F) (Sum.inr n) (.int (keepK ks n)) = kpD ks F := by
  unfold putK kpD
  have c : ((F.map fun n => ((Sum.inr n : Key), V.int (keepK ks n))).any fun kv => decide (kv.1 = Sum.inr n)) = true := List.any_eq_true.mpr ⟨_, List.mem_map_of_mem m, decide_eq_true rfl⟩
  rw [if_pos c, List.map_map]
  refine List.map_congr_left fun q mq => ?_
  show (if (Sum.inr q : Key) = Sum.inr n then ((Sum.inr q : Key), V.int (keepK ks n)) else (Sum.inr q, V.int (keepK ks q))) = (Sum.inr q, V.int (keepK ks q))
  by_cases e : q = n
  · rw [if_pos (by rw [e]), e]
  · rw [if_neg fun z => e (Sum.inr.inj z)]
theorem kpD_new {ks : List Kd} {F : List Str} {n : Str} (m : n ∉ F) : putK (kpD ks F) (Sum.inr n) (.int (keepK ks n)) = kpD ks (F ++ [n]) := by
  rw [putK_new _ (by rw [kpD_val, if_neg m])]
  unfold kpD
  rw [List.map_append]
  rfl
theorem kpD_len {ks : List Kd} {F : List Str} : (kpD ks F).length = F.length := List.length_map ..
/-- nothing more joins -/
def ClK (ks : List Kd) (F : List Str) : Prop := ∀ k ∈ ks, k.gs.any (grLive ks F) = true → k.name ∈ F
theorem ClK.bear {rows : List Str} {ks : List Kd} {F : List Str} (hO : BookOk rows ks) (h : ClK ks F) (s : ∀ n ∈ F, n ∈ bearOf ks) : ∀ n, n ∈ F ↔ n ∈ bearOf ks := fun n => by
  refine ⟨s n, (bear_isL ks).lst F (fun m mm j => ?_) n⟩
  obtain ⟨k, mk, rfl⟩ := List.mem_map.mp mm
  unfold jB at j
  rw [gsOf_eq hO.nm.nd mk] at j
  exact h k mk j
theorem bear_join {rows : List Str} {ks : List Kd} {F : List Str} (hO : BookOk rows ks) (s : ∀ n ∈ F, n ∈ bearOf ks) {k : Kd} (mk : k ∈ ks) (h : k.gs.any (grLive ks F) = true) : k.name ∈ bearOf ks := by
  refine (bear_isL ks).clo k.name (List.mem_map_of_mem mk) (jB_mono ks k.name F (bearOf ks) s ?_)
  unfold jB
  rw [gsOf_eq hO.nm.nd mk]
  exact h
theorem grLive_eq {ks : List Kd} {F B : List Str} (h : ∀ n, n ∈ F ↔ n ∈ B) (g : Gr) : grLive ks F g = grLive ks B g := by
  unfold grLive
  congr 1
  funext it
  unfold ndLive
  split
  · rw [decide_eq_decide.mpr (h _)]
  · rfl
theorem any_nil {gs : List Gr} {q : Gr → Bool} : (!decide ((gs.filter q).length = 0)) = gs.any q := by
  cases c : gs.any q with
  | true =>
    obtain ⟨g, m, h⟩ := List.any_eq_true.mp c
    rw [decide_eq_false (fun z => by
      rw [List.length_eq_zero_iff, List.filter_eq_nil_iff] at z
      exact z g m h)]
    rfl
  | false =>
    rw [decide_eq_true]
    · rfl
    · rw [List.length_eq_zero_iff, List.filter_eq_nil_iff]
      intro g m h
      have := List.any_eq_true.mpr ⟨g, m, h⟩
      rw [c] at this
      cases this
theorem grds_ne {K : PySem.W.Frag} {H : Hp} {rows names : List Str} (hr : ∀ n ∈ rows, n ∈ nmAll) (hn : ∀ n ∈ names, n ∈ nmAll) {l z : Addr} {gas : List Addr} {gs : List (List (List V))} {Q : VK} (el : H l = some (.lst (gas.map V.ref))) (pg : Paired (Grd H) gas gs) (h : ∀ g ∈ gs, ∀ it ∈ g, NeedV rows names it) (ez : H z = some (.lst [])) (k : Q (.bl (!decide (gs.length = 0))) H) : rNeD K (.ref l) (.ref z) H Q := by
  obtain ⟨ds, g1, g2, g3, g4⟩ := grds_dp (K := K) hr hn pg h
  refine ⟨.list ds, .list [], .lst (SqL.of el) g1, .lst (SqL.of ez) .nil, shaped_list g2 (by omega), shaped_list (fun _ z => (by cases z)) (by simp [PyData.depthAll]), ?_⟩
  rw [eqv_empty, g4]
  exact k
section
variable {P : Program} {w : World} {K : PySem.W.Frag} {mg : Str → Option Value} {base : Heap}
abbrev sLbe : Stmt := top 33
abbrev nmLbe : List Str := ["rulebook", "keeps", "found", "turn", "name", "keep", "bar", "grounds", "ground", "kind"]
theorem scLbe : FnScope nmLbe ["rulebook"] (defScope sLbe) := ⟨rfl, rfl, rfl, by decide +kernel, rfl, by decide +kernel, by decide +kernel⟩
def spLbe : Sp := fun vs H Q _ => ∃ (b : Addr) (rows : List Str) (ks : List Kd), vs = [.ref b] ∧ BookAt H b rows ks ∧ BookOk rows ks ∧ ∀ (p : Addr) (F : List Str) (H' : Hp), Same H H' → H p = none → H' p = some (.dK (kpD ks F)) → F.length ≤ 5 → (∀ n, n ∈ F ↔ n ∈ bearOf ks) → Q (.ref p) H'
theorem ok_Lbe {f fL : Addr} {fd fdL : FuncData} (F : Fun K "_law_bearing" "_law_bearing" sLbe f fd) (TC : TxtC mg) (CL : Ct P w K mg base "_law_is_live" 1 ["ground", "keeps", "bearing"] spLil fL fdL) : FnOk P w K mg base CX0 2 f fd ["rulebook"] spLbe := by
  refine F.ok scLbe (fun vs H Q E h => ?_) (fun cdv A outer s H vs Q E hr h => ?_)
  · obtain ⟨b, rows, ks, rfl, _⟩ := h
    rfl
  · obtain ⟨b, rows, ks, rfl, hA, hO, k⟩ := h
    have u1 := hu_of hr
    have hu : (A.deeper (envOfC "_law_bearing" (defScope sLbe) s.heap.objs.size f cdv)).units + 64 < cLine := hr.units
    refine ⟨_, (pss_cons (ps_asg (pe_tup (pa_cons (pe_callTy (call_dictP rfl) (by rfl) TC.dct (by decide +kernel) (pa_cons (pe_lc (own := [("kind", 9)]) (g := gName 9) (tt := tYes) (te := tTup (tCons (tOp (rIxT K) (tVar 9) (tC (.int 0))) (tCons (tOp (rIxT K) (tVar 9) (tC (.int 1))) tNil))) (by rfl) scLbe.nd (pi_tup (pe_ix (r := rIxT K) ix_tup (pv 0) pe_int (fun _ _ => rfl)))
          (blkOk_by (own := [("kind", 9)]) (N := nmLbe) (sc := defScope sLbe) (by decide +kernel)) (fun _ _ _ _ _ => pg_name (i := 9) scLbe.nd rfl (Or.inl rfl)) (fun _ _ _ _ _ => pts_nil)
          (fun _ _ _ _ _ => pe_tup (pa_cons (pe_ix (r := rIxT K) ix_tup (pv 9) pe_int (fun _ _ => rfl)) (pa_cons (pe_ix (r := rIxT K) ix_tup (pv 9) pe_int (fun _ _ => rfl)) pa_nil)))) pa_nil)) (pa_cons pe_dnewK pa_nil)))
          (pg_tup (by rfl) (pgs_cons (pg_name (i := 1) scLbe.nd rfl (Or.inr rfl)) (pgs_cons (pg_name (i := 2) scLbe.nd rfl (Or.inr rfl)) pgs_nil))))
      (pss_cons (ps_for PassesOwn.never rfl (pi_range1 rfl TC.b.range (pa_cons (pe_callB (r := rLen K) call_len_seq (by rfl) TC.b.len PySem.boot_len (pa_cons (pe_ix (r := rIxT K) ix_tup (pv 0) pe_int (fun _ _ => rfl)) pa_nil)) pa_nil)) (pg_name (i := 3) scLbe.nd rfl (Or.inl rfl))
        (pss_one (ps_for PassesOwn.never rfl (pi_tup (pe_ix (r := rIxT K) ix_tup (pv 0) pe_int (fun _ _ => rfl))) (pg_tup (by rfl) (pgs_cons (pg_name (i := 4) scLbe.nd rfl (Or.inl rfl)) (pgs_cons (pg_name (i := 5) scLbe.nd rfl (Or.inl rfl)) (pgs_cons (pg_name (i := 6) scLbe.nd rfl (Or.inl rfl)) (pgs_cons (pg_name (i := 7) scLbe.nd rfl (Or.inl rfl)) pgs_nil)))))
          (pss_one (ps_if (pt_cmpR (r := rNeD K) (op_neD hu) (pe_lc (own := [("ground", 8)]) (g := gName 8) (tt := tB (tCall spLil [] E0 (tCons (tVar 8) (tCons (tVar 1) (tCons (tVar 2) tNil))))) (te := tVar 8) (by rfl) scLbe.nd (pi_tup (pv 7))
              (blkOk_by (own := [("ground", 8)]) (N := nmLbe) (sc := defScope sLbe) (by decide +kernel)) (fun _ _ _ _ _ => pg_name (i := 8) scLbe.nd rfl (Or.inl rfl))
              (fun _ _ _ _ _ => pts_one (pt_val (pe_call CL.G hr (by rfl) CL.m CL.kp CL.b .nil pass0 (pa_cons (pv 8) (pa_cons (pv 1) (pa_cons (pv 2) pa_nil)))))) (fun _ _ _ _ _ => pv 8)) (pe_lst pa_nil) (nomark _))
            (pss_one (ps_dput u1 (pv 2) (pv 4) (pv 5) rfl)) pss_nil)))))
      (pss_one (ps_ret (pv 2))))), ?_⟩
    have sz : ∀ {m : Nat}, m ≤ 900 → m ≤ sizeLine := fun h => Nat.le_of_lt (small1000 (by omega))
    have nd := hO.nm.nd
    have hk5 := hO.k5
    obtain ⟨r, kt, kas, e1, e2, e3, pk⟩ := id hA
    have hlen := paired_len pk
    refine ⟨_, rfl, b, _, 1, .ref kt, rfl, rfl, SqT.of e1, rfl, kt, rfl, ⟨_, SqT.of e3⟩, fun D nD => ?_⟩
    dsimp only [tNil]
    refine go_tup (K := K) (a := kt) (xs := kas.map V.ref) (fun i J => Same H J ∧ ∃ qs : List Addr, J D = some (.lst (qs.map V.ref)) ∧ Paired (fun q (k : Kd) => J q = some (.tup [.str k.name, .int k.keep])) qs (ks.take i)) ?_ ?_ ?_ ?_
    · exact ⟨same_upd nD, [], upd_same, .nil⟩
    · rintro i J _ ⟨SJ, _⟩
      exact SqT.of (SJ _ _ e3)
    · rintro i x J hx ⟨SJ, qs, jD, pq⟩
      rw [List.getElem?_map] at hx
      obtain ⟨ka, ha, rfl⟩ := Option.map_eq_some_iff.mp hx
      obtain ⟨kd, hkd, gt, gas, f1, f2, f3⟩ := paired_at pk ha
      have tk : ks.take (i + 1) = ks.take i ++ [kd] := by rw [List.take_add_one, hkd]; rfl
      have lq := paired_len pq
      rw [List.length_take] at lq
      refine ⟨rfl, tYes_go (iteT ?_)⟩
      refine ⟨_, rfl, ka, _, 0, .str kd.name, rfl, rfl, SqT.of (SJ _ _ f1), rfl, _, rfl, ka, _, 1, .int kd.keep, rfl, rfl, SqT.of (SJ _ _ f1), rfl, sz (by show 2 ≤ 900; decide), fun t nt => ?_⟩
      have St := same_upd (o := .tup [.str kd.name, .int kd.keep]) nt
      have et : upd J t (.tup [.str kd.name, .int kd.keep]) t = some (.tup [.str kd.name, .int kd.keep]) := upd_same
      have jD2 := St _ _ jD
      have S2 := KaG.Same.tr SJ St
      have pq2 := Paired.mono' (fun _ _ e => St _ _ e) pq
      generalize upd J t (.tup [.str kd.name, .int kd.keep]) = J2 at et jD2 S2 pq2 ⊢
      have tsl := ts_lst (ys := qs.map V.ref ++ [V.ref t]) jD2
      refine ⟨_, jD2, small1000 (by rw [List.length_map]; omega), fun b u e => by rw [upd_ne (ne_of_none e nD)]; exact S2 b u e, qs ++ [t], by rw [upd_same, List.map_append]; rfl, ?_⟩
      rw [tk]
      exact paired_app (Paired.mono' (fun _ _ e => tsl _ _ e) pq2) (.cons (tsl _ _ et) .nil)
    · rintro J ⟨SJ, qs, jD, pq⟩
      rw [List.length_map, hlen, List.take_length] at pq
      have pkv : Paired (fun p (kv : Key × V) => SqT K J p [kV kv.1, kv.2]) qs (kpD ks (nmsOf ks)) := by
        have key : ∀ (l : List Kd) (qs : List Addr), (∀ k ∈ l, k ∈ ks) → Paired (fun q (k : Kd) => J q = some (.tup [.str k.name, .int k.keep])) qs l → Paired (fun p (kv : Key × V) => SqT K J p [kV kv.1, kv.2]) qs (kpD ks (l.map Kd.name)) := fun l => by
          induction l with
          | nil => intro qs _ p; cases p; exact .nil
          | cons k r ih =>
            intro qs h p
            cases p with
            | cons e t =>
              refine .cons ?_ (ih _ (fun q m => h q (List.mem_cons_of_mem _ m)) t)
              show SqT K J _ [.str k.name, .int (keepK ks k.name)]
              rw [keepK_at nd (h k List.mem_cons_self)]
              exact SqT.of e
        exact key ks qs (fun _ m => m) pq
      have ndk : ((kpD ks (nmsOf ks)).map (·.1)).Nodup := by
        unfold kpD
        rw [List.map_map]
        exact List.pairwise_map.mpr (nd.imp fun h z => h (Sum.inr.inj z))
      refine ⟨D, qs, _, rfl, SqL.of jD, pkv, fun kp nkp => ?_⟩
      rw [merge_new _ _ (by rw [List.nil_append]; exact ndk), List.nil_append]
      have Sk := same_upd (o := .dK (kpD ks (nmsOf ks))) nkp
      have ek : upd J kp (.dK (kpD ks (nmsOf ks))) kp = some (.dK (kpD ks (nmsOf ks))) := upd_same
      have S2 := KaG.Same.tr SJ Sk
      generalize upd J kp (.dK (kpD ks (nmsOf ks))) = J2 at ek S2 ⊢
      refine fun fp nfp => ⟨sz (by show 2 ≤ 900; decide), fun t nt => ?_⟩
      have Sf := same_upd (o := .dK []) nfp
      have ef0 : upd J2 fp (.dK []) fp = some (.dK (kpD ks [])) := upd_same
      have St := same_upd (o := .tup [.ref kp, .ref fp]) nt
      have et : upd (upd J2 fp (.dK [])) t (.tup [.ref kp, .ref fp]) t = some (.tup [.ref kp, .ref fp]) := upd_same
      have S3 := KaG.Same.tr S2 (KaG.Same.tr Sf St)
      have ek3 := St _ _ (Sf _ _ ek)
      have ef3 := St _ _ ef0
      have nfpH : H fp = none := same_non S2 _ nfp
      have kfp : kp ≠ fp := fun z => by rw [z, nfp] at ek; cases ek
      generalize upd (upd J2 fp (.dK [])) t (.tup [.ref kp, .ref fp]) = J3 at et S3 ek3 ef3 ⊢
      refine ⟨t, _, rfl, SqT.of et, rfl, _, _, rfl, _, _, rfl, rfl, ?_⟩
      refine ⟨_, rfl, b, _, 1, .ref kt, rfl, rfl, SqT.of (S3 _ _ e1), rfl, kt, _, rfl, .inr (SqT.of (S3 _ _ e3)), _, rfl, by rw [List.length_map]; omega, by rw [List.length_map]; omega, for_range (fun t σ' G => (∃ x3 x4 x5 x6 x7 : Option V, σ' = [some (.ref b), some (.ref kp), some (.ref fp), x3, x4, x5, x6, x7, none, none]) ∧ Same H G ∧ G kp = some (.dK (kpD ks (nmsOf ks))) ∧ ∃ F0 : List Str, G fp = some (.dK (kpD ks F0)) ∧ F0.Nodup ∧ (∀ n ∈ F0, n ∈ bearOf ks) ∧ (ClK ks F0 ∨ t ≤ F0.length)) ?_ ?_ ?_⟩
      · exact ⟨⟨_, _, _, _, _, rfl⟩, S3, ek3, [], ef3, List.nodup_nil, (fun _ z => nomatch z), .inr (Nat.le_refl _)⟩
      · rintro t σ' G _ ⟨⟨x3, x4, x5, x6, x7, rfl⟩, SG, ekG, F0, efG, nd0, s0, h0⟩
        refine ⟨_, rfl, b, _, 1, .ref kt, rfl, rfl, SqT.of (SG _ _ e1), rfl, kt, rfl, ⟨_, SqT.of (SG _ _ e3)⟩, for_tup (K := K) (a := kt) (xs := kas.map V.ref) (fun i σ' G => (∃ x4 x5 x6 x7 : Option V, σ' = [some (.ref b), some (.ref kp), some (.ref fp), some (.int (0 + (t : Int))), x4, x5, x6, x7, none, none]) ∧ Same H G ∧ G kp = some (.dK (kpD ks (nmsOf ks))) ∧ ∃ N : List Str, G fp = some (.dK (kpD ks (F0 ++ N))) ∧ (F0 ++ N).Nodup ∧ (∀ n ∈ F0 ++ N, n ∈ bearOf ks) ∧ (ClK ks F0 → N = []) ∧ (N = [] → ∀ k ∈ ks.take i, k.gs.any (grLive ks F0) = true → k.name ∈ F0)) ?_ ?_ ?_ ?_⟩
        · exact ⟨⟨_, _, _, _, rfl⟩, SG, ekG, [], by rw [List.append_nil]; exact efG, by rw [List.append_nil]; exact nd0, by rw [List.append_nil]; exact s0, fun _ => rfl, fun _ k m => by rw [List.take_zero] at m; cases m⟩
        · rintro i σ' G _ ⟨_, SG, _⟩
          exact SqT.of (SG _ _ e3)
        · rintro i v σ' G hv ⟨⟨x4, x5, x6, x7, rfl⟩, SG, ekG, N, efG, ndN, sN, cN, hN⟩
          rw [List.getElem?_map] at hv
          obtain ⟨ka, ha, rfl⟩ := Option.map_eq_some_iff.mp hv
          obtain ⟨kd, hkd, gt, gas, f1, f2, f3⟩ := paired_at pk ha
          have mk := List.mem_of_getElem? hkd
          have g4 := (hO.num kd mk).2.2.2.2
          have hgl := paired_len f3
          have tk : ks.take (i + 1) = ks.take i ++ [kd] := by rw [List.take_add_one, hkd]; rfl
          refine ⟨ka, _, rfl, SqT.of (SG _ _ f1), rfl, _, _, rfl, _, _, rfl, _, _, rfl, _, _, rfl, rfl, ?_⟩
          refine ⟨_, rfl, gt, rfl, ⟨_, SqT.of (SG _ _ f2)⟩, fun D2 nD2 => ?_⟩
          dsimp only [tNil]
          refine go_tup (K := K) (a := gt) (xs := gas.map V.ref) (fun q G2 => Same G G2 ∧ ∃ as : List Addr, G2 D2 = some (.lst (as.map V.ref)) ∧ Paired (Grd G2) as ((kd.gs.take q).filter (grLive ks (F0 ++ N)))) ?_ ?_ ?_ ?_
          · exact ⟨same_upd nD2, [], upd_same, .nil⟩
          · rintro q G2 _ ⟨SG2, _⟩
            exact SqT.of (SG2 _ _ (SG _ _ f2))
          · rintro q x G2 hx ⟨SG2, as, gD, pa⟩
            rw [List.getElem?_map] at hx
            obtain ⟨ga, hga, rfl⟩ := Option.map_eq_some_iff.mp hx
            obtain ⟨g, hg, eG⟩ := paired_at f3 hga
            have mg' := List.mem_of_getElem? hg
            have hq := (List.getElem?_eq_some_iff.mp hg).1
            obtain ⟨g0, g3, gn⟩ := hO.grd kd mk g mg'
            have tk2 : kd.gs.take (q + 1) = kd.gs.take q ++ [g] := by rw [List.take_add_one, hg]; rfl
            have la := paired_len pa
            have lf := List.length_filter_le (grLive ks (F0 ++ N)) (kd.gs.take q)
            rw [List.length_take] at lf
            have SHG2 := KaG.Same.tr SG SG2
            have eG2 := Grd.ts eG (TSame.of SHG2)
            refine ⟨rfl, ?_⟩
            refine ⟨_, rfl, _, rfl, _, rfl, ga, kp, fp, rows, ks, g, F0 ++ N, rfl, hO, eG2, gn, g3, SG2 _ _ ekG, SG2 _ _ efG, fun G3 S3 => ⟨_, rfl, ?_⟩⟩
            have S23 := KaG.Same.tr SG2 S3
            refine ite2 (fun hb => ?_) fun hb => ?_
            · have gD3 := S3 _ _ gD
              have tsl := ts_lst (ys := as.map V.ref ++ [V.ref ga]) gD3
              refine ⟨_, rfl, _, gD3, small1000 (by rw [List.length_map]; omega), fun b u e => by rw [upd_ne (ne_of_none e nD2)]; exact S23 b u e, as ++ [ga], by rw [upd_same, List.map_append]; rfl, ?_⟩
              rw [tk2, List.filter_append, List.filter_cons_of_pos hb, List.filter_nil]
              exact paired_app (Paired.mono' (fun _ _ e => Grd.ts (Grd.ts e (TSame.of S3)) tsl) pa) (.cons (Grd.ts (Grd.ts eG2 (TSame.of S3)) tsl) .nil)
            · refine ⟨S23, as, S3 _ _ gD, ?_⟩
              rw [tk2, List.filter_append, List.filter_cons_of_neg hb, List.filter_nil, List.append_nil]
              exact Paired.mono' (fun _ _ e => Grd.ts e (TSame.of S3)) pa
          · rintro G2 ⟨SG2, as, gD, pa⟩
            rw [List.length_map, hgl, List.take_length] at pa
            refine ⟨Nat.zero_le _, fun z nz => ?_⟩
            have Sz := same_upd (o := .lst []) nz
            refine grds_ne (rows := rows) (names := nmsOf ks) hO.rw.of hO.nm.of (Sz _ _ gD) (Paired.mono' (fun _ _ e => Grd.ts e (TSame.of Sz)) pa) (fun g m => (hO.grd kd mk g (List.mem_filter.mp m).1).2.2) upd_same ⟨_, rfl, ?_⟩
            rw [any_nil]
            have SG3 := KaG.Same.tr SG (KaG.Same.tr SG2 Sz)
            have ekZ := Sz _ _ (SG2 _ _ ekG)
            have efZ := Sz _ _ (SG2 _ _ efG)
            generalize upd G2 z (.lst []) = G3 at SG3 ekZ efZ ⊢
            have kkeep : keepK ks kd.name = kd.keep := keepK_at nd mk
            refine ite2 (fun hb => ?_) fun hb => ?_
            · have lk : (kpD ks (F0 ++ N)).length ≤ 5 := by
                rw [kpD_len]
                have h1 := List.Nodup.length_le_of_subset ndN fun n m => (bear_isL ks).sub n (sN n m)
                have h2 : (nmsOf ks).length = ks.length := List.length_map ..
                omega
              refine ⟨_, rfl, _, rfl, _, rfl, fp, _, rfl, DPut.k (k := Sum.inr kd.name) efZ (small1000 (by omega)), ⟨_, _, _, _, rfl⟩, fun b u e => by rw [upd_ne (ne_of_none e nfpH)]; exact SG3 b u e, by rw [upd_ne kfp]; exact ekZ, ?_⟩
              rw [← kkeep]
              by_cases c : kd.name ∈ F0 ++ N
              · rw [kpD_old c]
                refine ⟨N, upd_same, ndN, sN, cN, fun hn k mk2 hk => ?_⟩
                rw [tk] at mk2
                rcases List.mem_append.mp mk2 with y | y
                · exact hN hn k y hk
                · rw [List.mem_singleton.mp y]
                  rw [hn, List.append_nil] at c
                  exact c
              · rw [kpD_new c, List.append_assoc]
                refine ⟨N ++ [kd.name], upd_same, ?_, fun n m => ?_, fun hc => ?_, fun hn => ?_⟩
                · rw [← List.append_assoc]
                  exact List.nodup_append.mpr ⟨ndN, by simp, fun a ma b mb => by rw [List.mem_singleton.mp mb]; exact fun z => c (z ▸ ma)⟩
                · rw [← List.append_assoc] at m
                  rcases List.mem_append.mp m with y | y
                  · exact sN n y
                  · rw [List.mem_singleton.mp y]
                    exact bear_join hO sN mk hb
                · have := cN hc
                  rw [this, List.append_nil] at hb c
                  exact absurd (hc kd mk hb) c
                · exact absurd hn (by simp)
            · refine ⟨⟨_, _, _, _, rfl⟩, SG3, ekZ, N, efZ, ndN, sN, cN, fun hn k mk2 hk => ?_⟩
              rw [tk] at mk2
              rcases List.mem_append.mp mk2 with y | y
              · exact hN hn k y hk
              · rw [List.mem_singleton.mp y] at hk ⊢
                rw [hn, List.append_nil] at hb
                exact absurd hk hb
        · rintro σ' G ⟨⟨x4, x5, x6, x7, rfl⟩, SG, ekG, N, efG, ndN, sN, cN, hN⟩
          rw [List.length_map, hlen, List.take_length] at hN
          refine ⟨⟨_, _, _, _, _, rfl⟩, SG, ekG, F0 ++ N, efG, ndN, sN, ?_⟩
          by_cases c : N = []
          · rw [c, List.append_nil]
            exact .inl fun k mk hk => hN c k mk hk
          · rcases h0 with y | y
            · exact absurd (cN y) c
            · refine .inr ?_
              have := List.length_pos_iff.mpr c
              rw [List.length_append]
              omega
      · rintro σ' G ⟨⟨x3, x4, x5, x6, x7, rfl⟩, SG, ekG, F0, efG, nd0, s0, h0⟩
        have hsub : ∀ n ∈ F0, n ∈ nmsOf ks := fun n m => (bear_isL ks).sub n (s0 n m)
        have l0 := List.Nodup.length_le_of_subset nd0 hsub
        have h2 : (nmsOf ks).length = ks.length := List.length_map ..
        have cl : ClK ks F0 := by
          rcases h0 with y | y
          · exact y
          · rw [List.length_map, hlen, Int.toNat_natCast] at y
            intro k mk _
            refine Classical.byContradiction fun z => ?_
            have h3 : (k.name :: F0).Nodup := List.nodup_cons.mpr ⟨z, nd0⟩
            have h4 := List.Nodup.length_le_of_subset h3 fun n m => by
              rcases List.mem_cons.mp m with c | c
              · rw [c]; exact List.mem_map_of_mem (f := Kd.name) mk
              · exact hsub n c
            rw [List.length_cons] at h4
            have h5 : (ks.map Kd.name).length = ks.length := List.length_map ..
            omega
        exact ⟨_, rfl, k fp F0 G SG nfpH efG (by omega) (cl.bear hO s0)⟩
end
end KaG
set_option maxRecDepth 100000
set_option maxHeartbeats 4000000
namespace KaG
open PySem PySem.Spec PyProof.Rows L2 KaC KaN LamX NdefX
def ndMost : List V → Int
  | [_, _, _, _, .int m] => m
  | [_, _, _, .int m] => m
  | _ => 0
def ndTell : List V → Int
  | [_, _, _, .int t, _] => t
  | [_, _, .int t, _] => t
  | _ => 0
def ndWait : List V → Option (Str × Int)
  | [_, .str n, .int a, _, _] => some (n, a)
  | _ => none
/-- what a thread waits for, what it tells -/
def thW (p : Str × List V) : Option (Str × Int) := ndWait p.2
def thT (p : Str × List V) : Option (Str × Int) := (ndWait p.2).map fun _ => (p.1, ndTell p.2)
def wtB (ws ts : List (Str × Int)) : Bool := ws.all fun w => ts.all fun t => !decide (t.1 = w.1) || decide (w.2 ≤ t.2)
def ndsK (S : List Str) (k : Kd) : List (List V) := k.gs.flatMap fun g => g.filter (ndTh S)
noncomputable def timedB (ks : List Kd) (S : List Str) : Bool := thB ks S && ((ks.flatMap (ndsK S)).all fun it => decide (ndMost it = 9)) && ((thr ks S).all fun p => keepLt ks p.1 (ndTell p.2)) && wtB ((thr ks S).filterMap thW) ((thr ks S).filterMap thT)
theorem thr_le {rows : List Str} {ks : List Kd} {S : List Str} (hO : BookOk rows ks) (h : thB ks S = true) : (thr ks S).length ≤ 20 ∧ (ks.flatMap (ndsK S)).length ≤ 20 := by
  have one : ∀ k ∈ ks, ∀ g ∈ k.gs, (g.filter (ndTh S)).length ≤ 1 := fun k mk g mg' => of_decide_eq_true (List.all_eq_true.mp (List.all_eq_true.mp h k mk) g mg')
  have a : ∀ gs : List Gr, (∀ g ∈ gs, (g.filter (ndTh S)).length ≤ 1) → ∀ n, (gs.flatMap (thG S n)).length ≤ gs.length ∧ (gs.flatMap fun g => g.filter (ndTh S)).length ≤ gs.length := fun gs => by
    induction gs with
    | nil => exact fun _ _ => ⟨Nat.le_refl _, Nat.le_refl _⟩
    | cons g r ih =>
      intro h n
      obtain ⟨h1, h2⟩ := ih (fun q m => h q (List.mem_cons_of_mem _ m)) n
      have h3 := h g List.mem_cons_self
      rw [List.flatMap_cons, List.flatMap_cons, List.length_append, List.length_append, List.length_cons]
      have : (thG S n g).length = (g.filter (ndTh S)).length := List.length_map ..
      omega
  have b : ∀ l : List Kd, (∀ k ∈ l, k ∈ ks) → (l.flatMap (thK ks S)).length ≤ 4 * l.length ∧ (l.flatMap (ndsK S)).length ≤ 4 * l.length := fun l => by
    induction l with
    | nil => exact fun _ => ⟨Nat.le_refl _, Nat.le_refl _⟩
    | cons k r ih =>
      intro h
      obtain ⟨h1, h2⟩ := ih fun q m => h q (List.mem_cons_of_mem _ m)
      have mk := h k List.mem_cons_self
      obtain ⟨l4, lg⟩ := th_le (S := S) hO mk
      have g4 := (hO.num k mk).2.2.2.2
      have h3 := (a (lvG ks k.name) (fun g m => one k mk g (lg g m).1) k.name).1
      have h4 := (a k.gs (one k mk) k.name).2
      rw [List.flatMap_cons, List.flatMap_cons, List.length_append, List.length_append, List.length_cons]
      have e1 : (thK ks S k).length = ((lvG ks k.name).flatMap (thG S k.name)).length := rfl
      have e2 : (ndsK S k).length = (k.gs.flatMap fun g => g.filter (ndTh S)).length := rfl
      rw [← e1] at h3
      rw [← e2] at h4
      refine ⟨by omega, by omega⟩
  obtain ⟨h1, h2⟩ := b ks fun _ m => m
  have := hO.k5
  unfold thr
  omega
theorem thr_in {rows : List Str} {ks : List Kd} {S : List Str} (hO : BookOk rows ks) {p : Str × List V} (m : p ∈ thr ks S) : p.1 ∈ nmsOf ks ∧ NeedV rows (nmsOf ks) p.2 := by
  obtain ⟨k, mk, m⟩ := List.mem_flatMap.mp m
  obtain ⟨g, mg', m⟩ := List.mem_flatMap.mp m
  obtain ⟨it, mi, rfl⟩ := List.mem_map.mp m
  obtain ⟨_, lg⟩ := th_le (S := S) hO mk
  exact ⟨List.mem_map_of_mem mk, (lg g mg').2.2 it (List.mem_filter.mp mi).1⟩
theorem nds_in {rows : List Str} {ks : List Kd} {S : List Str} (hO : BookOk rows ks) {it : List V} (m : it ∈ ks.flatMap (ndsK S)) : NeedV rows (nmsOf ks) it := by
  obtain ⟨k, mk, m⟩ := List.mem_flatMap.mp m
  obtain ⟨g, mg', m⟩ := List.mem_flatMap.mp m
  exact (hO.grd k mk g mg').2.2 it (List.mem_filter.mp m).1
theorem wt_flat (ws ts : List (Str × Int)) : ((ws.flatMap fun w => (ts.filter fun t => decide (t.1 = w.1)).map fun t => decide (w.2 ≤ t.2)).all id) = wtB ws ts := by
  unfold wtB
  induction ws with
  | nil => rfl
  | cons w r ih =>
    rw [List.flatMap_cons, List.all_append, ih, List.all_cons]
    congr 1
    rw [List.all_map]
    clear ih
    induction ts with
    | nil => rfl
    | cons t u ih2 =>
      rw [List.all_cons]
      by_cases c : t.1 = w.1
      · rw [List.filter_cons_of_pos (by exact decide_eq_true c), List.all_cons, decide_eq_true c]
        show (decide (w.2 ≤ t.2) && _) = ((!true || decide (w.2 ≤ t.2)) && _)
        rw [ih2, Bool.not_true, Bool.false_or]
      · rw [List.filter_cons_of_neg (by rw [decide_eq_false c]; decide), decide_eq_false c]
        exact ih2
end KaG
set_option maxRecDepth 100000
set_option maxHeartbeats 4000000
namespace KaC
open PySem PySem.Spec PyProof.Rows L2
section
variable {X : Cx}
theorem lcN_core {pins : List (Addr × Obj)} {s : Shared} {σ : L2.St} {H : Hp} {Q : VK} {pos' : Pos} {use : Option (Value → Sem Unit)} {Qf : Value → Shared → Prop} {elt tg iter : Expr} {ifs : List Expr} {rest : List Comprehension} {sc : Scope} {ps : Pos} {own : List (Str × Nat)} {M : Addr → Env → Sem PySem.Fin → Sem PySem.Fin} {wi : TI} {g : TG} {tt : TT} {tl : Addr → TC} {vn : List Nat} (I : Inv X pins σ H s) (h : tLcN wi g tt (own.map (·.2)) tl σ H Q) (hc : X.calm = true) (hN : X.N.Nodup) (hi : PI X tg iter wi) (ok : BlkOk X.N X.env.scope sc own) (hv : ∀ i ∈ vn, i ∈ own.map (·.2))
    (hg : ∀ (s : Shared) (H : Hp) (C : Addr) (cl : List (Str × Addr)) (fp : List Addr), PG (X.blk s H sc (compEnvC sc cl C X.env) fp) tg g) (ht : ∀ (s : Shared) (H : Hp) (C : Addr) (cl : List (Str × Addr)) (fp : List Addr), PTs (X.blk s H sc (compEnvC sc cl C X.env) fp) ifs tt)
    (hT : ∀ D ce, TurnIs (.ListComp elt (⟨tg, iter, ifs, 0⟩ :: rest) sc ps) 0 tg ifs iter.pos D ce (M D ce))
    (hM : ∀ (s : Shared) (H : Hp) (C : Addr) (cl : List (Str × Addr)) (fp : List Addr) (D : Addr), Piece (X.blk s H sc (compEnvC sc cl C X.env) fp) vn (M D (compEnvC sc cl C X.env)) (tl D))
    (hs : ∀ x, foldedSetIterable iter X.env x = pure x)
    (hRR : ∀ D C s' m H', Inv X pins σ H' s' → Q (.ref D) H' → s'.heap.Ns C m → FpOk X pins H' C → compPost (model X.prog X.w) X.A X.xe use Qf (.ref D) C (.ok .next) s') :
    wpAny (model X.prog X.w) X.A (comprehension (.ListComp elt (⟨tg, iter, ifs, 0⟩ :: rest) sc ps) sc X.env pos' (newList []) false (eval iter X.env) use) Qf X.xe s := by
  have free : ∀ y ∈ sc.names, y.2 = .free → ∃ c, X.env.cells.lookup y.1 = some c := fun y hy e => (ok.free y hy e).elim (fun k => I.ok.has _ (.inl k)) fun k => I.ok.has _ (.inr k)
  refine wpAny_comprehension_free (use := use) rfl hs (closure_ok free) ok.kind (fun y hy e => by rw [ok.uniq y hy, e]) (thn (hi.run pins s σ H _ I h) fun xv s1 hx => thn hx fun itv s2 h2 => ?_)
  obtain ⟨it, fp, tn, J, H2, e, I2, T, st2, f2, q⟩ := h2
  subst e
  refine wpAny_newObj_type (newEnv_comp ?_) (by show 0 ≤ sizeLine; decide)
  generalize hD : s2.heap.objs.size = D
  have hDn : H2 D = none := I2.hok.fresh (Nat.le_of_eq hD)
  obtain ⟨W, ⟨m0, w0⟩, turn⟩ := q D hDn
  generalize hs3 : ({ s2 with heap := s2.heap.push { cls := .type "list", data := .seq ([] : List Value).toArray } } : Shared) = s3
  have h3 : s3.heap = s2.heap.push { cls := .type "list", data := .seq ([] : List Value).toArray } := by rw [← hs3]
  have I3 : Inv X pins σ (upd H2 D (.lst [])) s3 := by
    rw [← hs3]
    exact I2.laid (t' := s2.toks) (fun b o z => Heap.get?_push_of_some _ z) (Nat.le_of_eq hD) ⟨Nat.zero_le _, [], 0, .nil, by rw [← hD]; exact Heap.get?_push_size _ rfl⟩
  have f3 : ∀ b ∈ fp, FpOk X pins (upd H2 D (.lst [])) b ∧ b < s3.heap.objs.size := fun b hb => by
    obtain ⟨o, z, _⟩ := T.obj _ _ st2 b hb
    have hlt := Heap.lt_size z
    exact ⟨⟨by rw [upd_ne (by rw [← hD]; exact Nat.ne_of_lt hlt)]; exact (f2 b hb).1, (f2 b hb).2⟩, by rw [h3, Heap.size_push]; exact Nat.lt_succ_of_lt hlt⟩
  have st3 : tn 0 s3.heap := T.keep _ _ _ st2 fun b _ o z => by rw [h3]; exact Heap.get?_push_of_some _ z
  have I4 := block_start I3 ok hN f3
  have nfp : ∀ b ∈ fp, (upd H2 D (.lst [])) b = none := fun b hb => (f3 b hb).1.1
  change codeAny _ _ (.compStart (.ListComp elt (⟨tg, iter, ifs, 0⟩ :: rest) sc ps) 0 (.ref it) (.ref D) (compEnvC sc (cellsFrom (s3.heap.objs.size + 1) sc.names (cloFrom X.env.cells sc.names [])) s3.heap.objs.size X.env)) (compPost (model X.prog X.w) X.A X.xe use Qf (.ref D) s3.heap.objs.size) { s3 with heap := pushCells (s3.heap.push { cls := .type "dict", data := .dict #[] }) sc.names }
  generalize hcl : cellsFrom (s3.heap.objs.size + 1) sc.names (cloFrom X.env.cells sc.names []) = cl at I4 ⊢
  have pg := hg s3 (upd H2 D (.lst [])) s3.heap.objs.size cl fp
  have pt := ht s3 (upd H2 D (.lst [])) s3.heap.objs.size cl fp
  have pm := hM s3 (upd H2 D (.lst [])) s3.heap.objs.size cl fp D
  have tm := hT D (compEnvC sc cl s3.heap.objs.size X.env)
  have cL : (compEnvC sc cl s3.heap.objs.size X.env).locals = s3.heap.objs.size := rfl
  generalize compEnvC sc cl s3.heap.objs.size X.env = ce at I4 pg pt pm tm cL ⊢
  generalize hH3 : upd H2 D (.lst []) = H3 at I3 I4 pg pt pm w0 nfp f3
  generalize hs4 : ({ s3 with heap := pushCells (s3.heap.push { cls := .type "dict", data := .dict #[] }) sc.names } : Shared) = s4 at I4 ⊢
  have st4 : tn 0 s4.heap := T.keep _ _ _ st3 fun b _ o z => by rw [← hs4]; exact pushCells_keeps _ _ _ _ (Heap.get?_push_of_some _ z)
  have stat : ∀ {σ' : L2.St} {H' : Hp} {s' : Shared}, Inv (X.blk s3 H3 sc ce fp) [] σ' H' s' → (∀ b ∈ fp, H' b = none) → ∀ b ∈ fp, FpOk (X.blk s3 H3 sc ce fp) [] H' b := fun {σ' H' s'} I' hn b hb =>
    ⟨hn b hb, (I'.ok.exf b hb).1, I'.ok.exfs b hb, .inl hb, fun x c z => (I'.ok.exf b hb).2 x c z, fun p hp => absurd (show p ∈ ([] : List (Addr × Obj)) ++ [] from hp) (by simp)⟩
  have loop : codeAny (model X.prog X.w) X.A (.compLoop (.ListComp elt (⟨tg, iter, ifs, 0⟩ :: rest) sc ps) 0 (.ref it) (.ref D) ce) (compPost (model X.prog X.w) X.A X.xe use Qf (.ref D) s3.heap.objs.size) s4 := by
    refine codeAny_loop rfl (fun n s' => ∃ i H', Inv (X.blk s3 H3 sc ce fp) [] (wipe σ (own.map (·.2))) H' s' ∧ tn i s'.heap ∧ (∀ b ∈ fp, H' b = none) ∧ W i n H') (fun n s5 ⟨i, H5, I5, st5, n5, w5⟩ => ?_) m0 ⟨0, H3, I4, st4, nfp, w0⟩
    change wpAny _ X.A ((compTurn (.ListComp elt (⟨tg, iter, ifs, 0⟩ :: rest) sc ps) 0 (.ref it) (.ref D) ce).onRaise (fun x => do noteFrame x ce; theTreesLotGoes x)) _ _ s5
    refine wpAny_noted ?_
    rw [tm]
    refine wpAny_bind (wpAny_standAt (wpAny_bind ?_))
    rcases turn i n H5 w5 with ⟨stop, qq⟩ | ⟨go, N1, hN1, step⟩
    · refine thnF (T.done (X.blk s3 H3 sc ce fp) rfl rfl rfl hc i [] s5 _ H5 (fun _ _ => False) I5 (stat I5 n5) st5 stop) fun r s6 ⟨hr, I6⟩ => ?_
      subst hr
      refine wpAny_pure ?_
      have I7 : Inv X pins σ H5 s6 := I3.call' (ch := fp) I6.os I6.base I6.hok I6.bare fun b hb => ⟨(f3 b hb).1.2.2.2.1, (f3 b hb).1.2.1, (f3 b hb).1.2.2.2.2.1, (f3 b hb).1.2.2.2.2.2⟩
      have nC : H5 s3.heap.objs.size = none := by
        have z : H5 ce.locals = none := I6.free
        rwa [cL] at z
      obtain ⟨m, hn, _⟩ := I6.loc
      have hn : s6.heap.Ns ce.locals m := hn
      rw [cL] at hn
      exact hRR D s3.heap.objs.size s6 m H5 I7 qq hn (I3.fpOk (Nat.le_refl _) nC)
    · refine thnF (T.item (X.blk s3 H3 sc ce fp) rfl rfl rfl hc i [] s5 _ H5 (fun _ _ => False) I5 (stat I5 n5) st5 go) fun r s6 ⟨u, hr, h6⟩ => ?_
      subst hr
      refine wpAny_bind (thnF h6 fun _ s7 ⟨x, H7, I7, r7, y7, st7, n7⟩ => ?_)
      have I7' := I7.pinned (stat I7 n7) (T.obj _ _ st7)
      refine wpAny_bind (thnF (pg.run _ s7 _ H7 x u _ I7' r7 (step x H7 y7)) fun _ s8 ⟨σ8, H8, I8, hw8, q8⟩ => ?_)
      refine wpAny_bind (thnF (pt.run _ s8 σ8 H8 _ I8 q8) fun b s9 ⟨H9, I9, q9⟩ => ?_)
      have fin : ∀ {σ9 : L2.St} {s' : Shared} {H' : Hp}, Inv (X.blk s3 H3 sc ce fp) ([] ++ pinsAt fp s7.heap) σ9 H' s' → (wipe σ (own.map (·.2))).length = σ9.length → (∀ (j : Nat) v, (wipe σ (own.map (·.2)))[j]? = some (some v) → σ9[j]? = some (some v)) → N1 H' →
          ∃ m, m < n ∧ ∃ i H', Inv (X.blk s3 H3 sc ce fp) [] (wipe σ (own.map (·.2))) H' s' ∧ tn i s'.heap ∧ (∀ b ∈ fp, H' b = none) ∧ W i m H' := fun {σ9 s' H'} I' hl hk nx => by
        obtain ⟨m', hm, w'⟩ := hN1 H' nx
        have pin' : ∀ b ∈ fp, ∀ o, s7.heap.get? b = some o → s'.heap.get? b = some o ∧ H' b = none := fun b hb o z =>
          let y := I'.pin (b, o) (List.mem_append_right _ (List.mem_append_right _ (mem_pinsAt hb z)))
          ⟨y.1, y.2.1⟩
        refine ⟨m', hm, i + 1, H', (I'.unpinned (pins := [])).weak hl hk, T.keep _ _ _ st7 fun b hb o z => (pin' b hb o z).1, fun b hb => ?_, w'⟩
        obtain ⟨o, z, _⟩ := T.obj _ _ st7 b hb
        exact (pin' b hb o z).2
      have l8 : (wipe σ (own.map (·.2))).length = σ8.length := by rw [← hw8, wipe_length]
      have k8 : ∀ (j : Nat) v, (wipe σ (own.map (·.2)))[j]? = some (some v) → σ8[j]? = some (some v) ∧ j ∉ own.map (·.2) := fun j v z => by
        rw [← hw8] at z
        exact wipe_some z
      cases b with
      | false =>
        simp only [Bool.false_eq_true, if_false] at q9 ⊢
        exact wpAny_pure ⟨rfl, fin I9 l8 (fun j v z => (k8 j v z).1) q9⟩
      | true =>
        simp only [if_true] at q9 ⊢
        refine pm _ _ _ _ s9 σ8 H9 N1 I9 q9 fun σ10 H10 s10 I10 l10 k10 nx => ?_
        exact wpAny_pure ⟨rfl, fin I10 (l8.trans l10) (fun j v z => k10 j v (fun m => (k8 j v z).2 (hv j m)) (k8 j v z).1) nx⟩
  exact codeAny_compStart_list loop (T.self X.A 0 _ _ _ st4 loop)
theorem ps_setLcN {i : Nat} {y : Str} {py spos : Pos} {elt tg iter : Expr} {ifs : List Expr} {rest : List Comprehension} {sc : Scope} {ps : Pos} {own : List (Str × Nat)} {M : Addr → Env → Sem PySem.Fin → Sem PySem.Fin} {wi : TI} {g : TG} {tt : TT} {tl : Addr → TC} {vn : List Nat} (hc : X.calm = true) (hN : X.N.Nodup) (hy : X.N[i]? = some y) (hyl : X.env.scope.names.lookup y = some .local)
    (hsw : swapsWith (.ListComp elt (⟨tg, iter, ifs, 0⟩ :: rest) sc ps) (some (.Name y py)) spos.line X.env = pure true) (hi : PI X tg iter wi) (ok : BlkOk X.N X.env.scope sc own) (hv : ∀ i ∈ vn, i ∈ own.map (·.2))
    (hg : ∀ (s : Shared) (H : Hp) (C : Addr) (cl : List (Str × Addr)) (fp : List Addr), PG (X.blk s H sc (compEnvC sc cl C X.env) fp) tg g) (ht : ∀ (s : Shared) (H : Hp) (C : Addr) (cl : List (Str × Addr)) (fp : List Addr), PTs (X.blk s H sc (compEnvC sc cl C X.env) fp) ifs tt)
    (hT : ∀ D ce, TurnIs (.ListComp elt (⟨tg, iter, ifs, 0⟩ :: rest) sc ps) 0 tg ifs iter.pos D ce (M D ce))
    (hM : ∀ (s : Shared) (H : Hp) (C : Addr) (cl : List (Str × Addr)) (fp : List Addr) (D : Addr), Piece (X.blk s H sc (compEnvC sc cl C X.env) fp) vn (M D (compEnvC sc cl C X.env)) (tl D))
    (hs : ∀ x, foldedSetIterable iter X.env x = pure x := by intro _; rfl) : PS X (.Assign [.Name y py] (.ListComp elt (⟨tg, iter, ifs, 0⟩ :: rest) sc ps) spos) (tAsg (tLcN wi g tt (own.map (·.2)) tl) (gName i)) := by
  refine ⟨fun pins s σ H D I h => ?_⟩
  rw [exec_Assign_Name_used _ _ _ _ hsw]
  refine wpAny_bind (wpAny_standAt (wpAny_bind ?_))
  change wpAny _ X.A (do let _ ← comprehension (.ListComp elt (⟨tg, iter, ifs, 0⟩ :: rest) sc ps) sc X.env (firstIterPos (⟨tg, iter, ifs, 0⟩ :: rest) ps) (newList []) false (eval iter X.env) (some (assign (.Name y py) X.env))) _ _ s
  have h : tLcN wi g tt (own.map (·.2)) tl σ H (fun x H1 => gName i x σ H1 D.nx) := h
  refine wpAny_bind (thn (lcN_core (Qf := fun _ s' => SP X pins D .next s') I h hc hN hi ok hv hg ht hT hM hs fun L C s' m H' I' q hn f => ?_) fun _ s' hq => wpAny_pure (wpAny_pure hq))
  change wpAny _ _ (assign (.Name y py) X.env (.ref L)) _ _ _
  refine wpAny_assign_Name (store_ok2 (v := V.ref L) I' hN hy (.inl hyl) rfl (fun s2 I2 ⟨a, sb, ha⟩ => ?_) (.inr hyl))
  obtain ⟨f0, f1, f2, f3, f4, f5⟩ := f
  have haC : C ≠ a := by
    rcases ha with z | z
    · rw [z]; exact f1
    · exact fun e => f4 y a z e.symm
  refine ⟨m, hn.sameBut sb haC, fun h3 sb3 => ?_⟩
  exact ⟨_, H', I2.turned (t' := s2.toks) (fun b o hb e => (sb3.2 b hb).trans e) f0 f1 f3 f4 f5, q⟩
/-- name = [elt for .. for .. for ..], the name a local -/
theorem ps_setLc3 {i : Nat} {y : Str} {py spos : Pos} {elt t0 i0 t1 i1 t2 i2 : Expr} {f0 f1 f2 : List Expr} {sc : Scope} {ps : Pos} {own : List (Str × Nat)} {w0 w1 w2 : TI} {g0 g1 g2 : TG} {tt0 tt1 tt2 : TT} {te : TE} (v1 v2 : List Nat) (hc : X.calm = true) (hN : X.N.Nodup) (hy : X.N[i]? = some y) (hyl : X.env.scope.names.lookup y = some .local)
    (hsw : swapsWith (.ListComp elt [⟨t0, i0, f0, 0⟩, ⟨t1, i1, f1, 0⟩, ⟨t2, i2, f2, 0⟩] sc ps) (some (.Name y py)) spos.line X.env = pure true) (hi : PI X t0 i0 w0) (ok : BlkOk X.N X.env.scope sc own)
    (h01 : ∀ i ∈ v1, i ∈ own.map (·.2)) (h12 : ∀ i ∈ v2, i ∈ v1)
    (hg0 : ∀ (s : Shared) (H : Hp) (C : Addr) (cl : List (Str × Addr)) (fp : List Addr), PG (X.blk s H sc (compEnvC sc cl C X.env) fp) t0 g0) (ht0 : ∀ (s : Shared) (H : Hp) (C : Addr) (cl : List (Str × Addr)) (fp : List Addr), PTs (X.blk s H sc (compEnvC sc cl C X.env) fp) f0 tt0)
    (hi1 : ∀ (s : Shared) (H : Hp) (C : Addr) (cl : List (Str × Addr)) (fp : List Addr), PI (X.blk s H sc (compEnvC sc cl C X.env) fp) t1 i1 w1)
    (hg1 : ∀ (s : Shared) (H : Hp) (C : Addr) (cl : List (Str × Addr)) (fp : List Addr), PG (X.blk s H sc (compEnvC sc cl C X.env) fp) t1 g1) (ht1 : ∀ (s : Shared) (H : Hp) (C : Addr) (cl : List (Str × Addr)) (fp : List Addr), PTs (X.blk s H sc (compEnvC sc cl C X.env) fp) f1 tt1)
    (hi2 : ∀ (s : Shared) (H : Hp) (C : Addr) (cl : List (Str × Addr)) (fp : List Addr), PI (X.blk s H sc (compEnvC sc cl C X.env) fp) t2 i2 w2)
    (hg2 : ∀ (s : Shared) (H : Hp) (C : Addr) (cl : List (Str × Addr)) (fp : List Addr), PG (X.blk s H sc (compEnvC sc cl C X.env) fp) t2 g2) (ht2 : ∀ (s : Shared) (H : Hp) (C : Addr) (cl : List (Str × Addr)) (fp : List Addr), PTs (X.blk s H sc (compEnvC sc cl C X.env) fp) f2 tt2)
    (he : ∀ (s : Shared) (H : Hp) (C : Addr) (cl : List (Str × Addr)) (fp : List Addr), PE (X.blk s H sc (compEnvC sc cl C X.env) fp) elt te)
    (s0 : ∀ x, foldedSetIterable i0 X.env x = pure x := by intro _; rfl) (s1 : ∀ env x, foldedSetIterable i1 env x = pure x := by intro _ _; rfl) (s2 : ∀ env x, foldedSetIterable i2 env x = pure x := by intro _ _; rfl) :
    PS X (.Assign [.Name y py] (.ListComp elt [⟨t0, i0, f0, 0⟩, ⟨t1, i1, f1, 0⟩, ⟨t2, i2, f2, 0⟩] sc ps) spos) (tAsg (tLcN w0 g0 tt0 (own.map (·.2)) fun D => tCl w1 g1 tt1 v1 (tCl w2 g2 tt2 v2 (tEl D te))) (gName i)) := by
  refine ps_setLcN (vn := v1) (M := fun D ce k => do
      let x ← eval i1 ce
      standAt i1.pos
      let x ← foldedSetIterable i1 ce x
      let _ ← runOwn (.compStart (.ListComp elt [⟨t0, i0, f0, 0⟩, ⟨t1, i1, f1, 0⟩, ⟨t2, i2, f2, 0⟩] sc ps) 1 (← holding [x] (pyIter x)) (.ref D) ce) ce
      k) hc hN hy hyl hsw hi ok h01 hg0 ht0 (fun D ce it => rfl) (fun s H C cl fp D => ?_) s0
  refine piece_clause (vn := v2) (M := fun k => do
      let x ← eval i2 (compEnvC sc cl C X.env)
      standAt i2.pos
      let x ← foldedSetIterable i2 (compEnvC sc cl C X.env) x
      let _ ← runOwn (.compStart (.ListComp elt [⟨t0, i0, f0, 0⟩, ⟨t1, i1, f1, 0⟩, ⟨t2, i2, f2, 0⟩] sc ps) 2 (← holding [x] (pyIter x)) (.ref D) (compEnvC sc cl C X.env)) (compEnvC sc cl C X.env)
      k) hc (p := i1.pos) (fun it => rfl) ?_ h12 (hi1 s H C cl fp) (hg1 s H C cl fp) (ht1 s H C cl fp) (fun x => s1 _ x) (fun it => rfl)
  exact piece_clause (vn := []) (M := fun k => (do let _ ← call (.builtin "list.append") [.ref D, ← eval elt (compEnvC sc cl C X.env)] : Sem PUnit) >>= fun _ => k) hc (p := i2.pos) (fun it => rfl) (piece_elt (he s H C cl fp)) (fun _ m => nomatch m) (hi2 s H C cl fp) (hg2 s H C cl fp) (ht2 s H C cl fp) (fun x => s2 _ x) (fun it => rfl)
end
end KaC
set_option maxRecDepth 100000
set_option maxHeartbeats 4000000
namespace KaG
open PySem PySem.Spec PyProof.Rows L2 KaC KaN LamX NdefX
abbrev NiAt (H : Hp) (as : List Addr) (zs : List (Str × Int)) : Prop := Paired (fun a (z : Str × Int) => H a = some (.tup [.str z.1, .int z.2])) as zs
abbrev FgQ (mg : Str → Option Value) : Prop := ∃ u, mg "FOR_GOOD" = some u ∧ RelV (.int 9) u
theorem NeedV.most {rows names : List Str} {it : List V} (h : NeedV rows names it) : atI it (-1) = some (.int (ndMost it)) ∧ atI it (-2) = some (.int (ndTell it)) := by
  cases h <;> exact ⟨rfl, rfl⟩
theorem wipe_get {σ : L2.St} {j : Nat} : ∀ {vs : List Nat}, (wipe σ vs)[j]? = if j ∈ vs then (σ[j]?).map fun _ => none else σ[j]?
  | [] => by rw [if_neg (List.not_mem_nil)]; rfl
  | v :: vs => by
    have ih := wipe_get (σ := σ) (j := j) (vs := vs)
    show ((wipe σ vs).set v none)[j]? = _
    rw [List.getElem?_set, ih]
    by_cases c : v = j
    · subst c
      rw [if_pos rfl, if_pos List.mem_cons_self, wipe_length]
      by_cases l : v < σ.length
      · rw [if_pos l, List.getElem?_eq_getElem l]; rfl
      · rw [if_neg l, List.getElem?_eq_none (by omega)]; rfl
    · rw [if_neg c]
      by_cases m : j ∈ vs
      · rw [if_pos m, if_pos (List.mem_cons_of_mem _ m)]
      · rw [if_neg m, if_neg fun z => (List.mem_cons.mp z).elim (fun y => c y.symm) m]
theorem wipe2 {σ : L2.St} {vs : List Nat} {i j : Nat} {x y : Option V} (hi : i ∈ vs) (hj : j ∈ vs) : wipe (((wipe σ vs).set i x).set j y) vs = wipe σ vs := by
  refine List.ext_getElem? fun q => ?_
  rw [wipe_get, wipe_get, List.getElem?_set, List.getElem?_set, wipe_get]
  by_cases c : q ∈ vs
  · rw [if_pos c, if_pos c, List.length_set, wipe_length]
    by_cases e : j = q
    · subst e
      rw [if_pos rfl]
      by_cases l : j < σ.length
      · rw [if_pos l, List.getElem?_eq_getElem l]; rfl
      · rw [if_neg l, List.getElem?_eq_none (by omega)]
    · rw [if_neg e]
      by_cases e2 : i = q
      · subst e2
        rw [if_pos rfl]
        by_cases l : i < σ.length
        · rw [if_pos l, List.getElem?_eq_getElem l]; rfl
        · rw [if_neg l, List.getElem?_eq_none (by omega)]
      · rw [if_neg e2]
        cases σ[q]? <;> rfl
  · have n1 : j ≠ q := fun z => c (by rw [← z]; exact hj)
    have n2 : i ≠ q := fun z => c (by rw [← z]; exact hi)
    rw [if_neg c, if_neg c, if_neg n1, if_neg n2]
theorem get_out {σ : L2.St} {vs : List Nat} {i j k : Nat} {x y : Option V} (h1 : i ≠ k) (h2 : j ≠ k) (hv : k ∉ vs) : (((wipe σ vs).set i x).set j y)[k]? = σ[k]? := by
  rw [List.getElem?_set_ne h2, List.getElem?_set_ne h1, wipe_get, if_neg hv]
theorem get_in {σ : L2.St} {vs : List Nat} {i j : Nat} {x y : Option V} (h : i < σ.length) (h2 : j ≠ i) : (((wipe σ vs).set i x).set j y)[i]? = some x := by
  rw [List.getElem?_set_ne h2, List.getElem?_set_self (by rw [wipe_length]; exact h)]
theorem get_in2 {σ : L2.St} {vs : List Nat} {i j : Nat} {x y : Option V} (h : j < σ.length) : (((wipe σ vs).set i x).set j y)[j]? = some y := by
  rw [List.getElem?_set_self (by rw [List.length_set, wipe_length]; exact h)]
theorem wt_one {bs : List Bool} {ts : List (Str × Int)} {t w : Str × Int} (h : decide (t.1 = w.1) = true) : (bs ++ (ts.filter fun t => decide (t.1 = w.1)).map fun t => decide (w.2 ≤ t.2)).map V.bl ++ [V.bl (decide (w.2 ≤ t.2))] = (bs ++ ((ts ++ [t]).filter fun t => decide (t.1 = w.1)).map fun t => decide (w.2 ≤ t.2)).map V.bl := by
  rw [List.filter_append, List.filter_cons_of_pos (p := fun t : Str × Int => decide (t.1 = w.1)) h, List.filter_nil, List.map_append, List.map_append, List.map_append, List.map_append, List.append_assoc]
  rfl
section
variable {P : Program} {w : World} {K : PySem.W.Frag} {mg : Str → Option Value} {base : Heap}
abbrev sWt : Stmt := top 16
abbrev nmWt : List Str := ["rulebook", "struck", "needs", "kind", "ground", "need", "threads", "name", "_", "waits", "tells", "after", "other", "tell"]
theorem scWt : FnScope nmWt ["rulebook", "struck"] (defScope sWt) := ⟨rfl, rfl, rfl, by decide +kernel, rfl, by decide +kernel, by decide +kernel⟩
def spWt (T : List NTab) : Sp := fun vs H Q _ => ∃ (b sa : Addr) (rows : List Str) (ks : List Kd) (S : List Str), vs = [.ref b, .ref sa] ∧ BookAt H b rows ks ∧ BookOk rows ks ∧ Sq2 H sa (S.map V.str) ∧ TabsN T H ∧ ∀ H', Ex T H H' → Q (.bl (timedB ks S)) H'
theorem ok_Wt {T : List NTab} {f fI fN fL fK : Addr} {fd fdI fdN fdL fdK : FuncData} (F : Fun K "is_well_timed" "is_well_timed" sWt f fd) (hall : mg "all" = none) (Z : FgQ mg) (CI : Ct P w K mg base "is_threaded" 2 ["rulebook", "struck"] spIth fI fdI) (CN : Ct P w K mg base "needs_threaded" 1 ["struck", "ground"] spNt fN fdN)
    (CL : Ct P w K mg base "_live_threads" 7 ["rulebook", "struck"] (spLt T) fL fdL) (CK : Ct P w K mg base "kind_of" 1 ["rulebook", "name"] spKindN fK fdK) : FnOk P w K mg base CX0 8 f fd ["rulebook", "struck"] (spWt T) := by
  refine F.ok scWt (fun vs H Q E h => ?_) (fun cdv A outer s H vs Q E hr h => ?_)
  · obtain ⟨b, sa, rows, ks, S, rfl, _⟩ := h
    rfl
  · obtain ⟨b, sa, rows, ks, S, rfl, hA, hO, hS, hT, k⟩ := h
    have u1 := hu_of hr
    have hr2 : Room 2 (A.deeper (envOfC "is_well_timed" (defScope sWt) s.heap.objs.size f cdv)) := hr.mono (by decide)
    have hr1 : Room 1 (A.deeper (envOfC "is_well_timed" (defScope sWt) s.heap.objs.size f cdv)) := hr.mono (by decide)
    refine ⟨_, (pss_cons (ps_if (pt_not (pt_val (pe_call CI.G hr2 (by rfl) CI.m CI.kp CI.b .nil pass0 (pa_cons (pv 0) (pa_cons (pv 1) pa_nil))))) (pss_one (ps_ret pe_bl)) pss_nil)
      (pss_cons (ps_setLc3 (i := 2) [4, 5] [5] (own := [("kind", 3), ("ground", 4), ("need", 5)]) (g0 := gName 3) (g1 := gName 4) (g2 := gName 5) (w1 := iTup K (tOp (rIxT K) (tVar 3) (tC (.int 3))))
          (w2 := iList K (tCall spNt [] E0 (tCons (tVar 1) (tCons (tVar 4) tNil)))) (te := tVar 5)
          (by rfl) scWt.nd rfl rfl (sw_true rfl rfl rfl (by decide +kernel)) (pi_tup (pe_ix (r := rIxT K) ix_tup (pv 0) pe_int (fun _ _ => rfl))) (blkOk_by (own := [("kind", 3), ("ground", 4), ("need", 5)]) (N := nmWt) (sc := defScope sWt) (by decide +kernel)) (by decide) (by decide)
          (fun _ _ _ _ _ => pg_name (i := 3) scWt.nd rfl (Or.inl rfl)) (fun _ _ _ _ _ => pts_nil)
          (fun _ _ _ _ _ => pi_tup (pe_ix (r := rIxT K) ix_tup (pv 3) pe_int (fun _ _ => rfl)))
          (fun _ _ _ _ _ => pg_name (i := 4) scWt.nd rfl (Or.inl rfl)) (fun _ _ _ _ _ => pts_nil)
          (fun _ _ _ _ _ => pi_list (pe_call CN.G hr1 (by rfl) CN.m CN.kp CN.b .nil pass0 (pa_cons (pv 1) (pa_cons (pv 4) pa_nil))))
          (fun _ _ _ _ _ => pg_name (i := 5) scWt.nd rfl (Or.inl rfl)) (fun _ _ _ _ _ => pts_nil) (fun _ _ _ _ _ => pv 5))
      (pss_cons (ps_if (pt_not (pt_val (pe_callB (r := rAll K) (cr_all rfl) (by rfl) hall (by decide +kernel) (pa_cons (pe_lc (own := [("need", 5)]) (g := gName 5) (tt := tYes) (te := tOp rEq (tOp (rIxT K) (tVar 5) (tUn (rU fun i => V.int (-i)) (tC (.int 1)))) (tC (.int 9))) (by rfl) scWt.nd (pi_list (pv 2))
          (blkOk_by (own := [("need", 5)]) (N := nmWt) (sc := defScope sWt) (by decide +kernel)) (fun _ _ _ _ _ => pg_name (i := 5) scWt.nd rfl (Or.inl rfl)) (fun _ _ _ _ _ => pts_nil)
          (fun _ _ _ _ _ => pe_cmpR (r := rEq) op_eq (pe_ix (r := rIxT K) ix_tup (pv 5) (pe_un un_neg pe_int) (fun _ _ => rfl)) (C8.pe_gc (by rfl) Z) (nomark _))) pa_nil)))) (pss_one (ps_ret pe_bl)) pss_nil)
      (pss_cons (ps_set (i := 6) scWt.nd rfl (Or.inl rfl) (pe_call CL.G hr (by rfl) CL.m CL.kp CL.b .nil pass0 (pa_cons (pv 0) (pa_cons (pv 1) pa_nil))))
      (pss_cons (ps_if (pt_not (pt_val (pe_callB (r := rAll K) (cr_all rfl) (by rfl) hall (by decide +kernel) (pa_cons (pe_lc (own := [("name", 7), ("need", 5)]) (g := gTup K 2 (gCons (gName 7) (gCons (gName 5) gNil))) (tt := tYes)
          (te := tOp (rI0 fun i j => V.bl (decide (j < i))) (tOp (rIxT K) (tCall spKindN [] E0 (tCons (tVar 0) (tCons (tVar 7) tNil))) (tC (.int 1))) (tOp (rIxT K) (tVar 5) (tUn (rU fun i => V.int (-i)) (tC (.int 2))))) (by rfl) scWt.nd (pi_list (pv 6))
          (blkOk_by (own := [("name", 7), ("need", 5)]) (N := nmWt) (sc := defScope sWt) (by decide +kernel)) (fun _ _ _ _ _ => pg_tup (t := gCons (gName 7) (gCons (gName 5) gNil)) rfl (pgs_cons (pg_name (i := 7) scWt.nd rfl (Or.inl rfl)) (pgs_cons (pg_name (i := 5) scWt.nd rfl (Or.inl rfl)) pgs_nil))) (fun _ _ _ _ _ => pts_nil)
          (fun _ _ _ _ _ => pe_cmpR (r := rI0 fun i j => V.bl (decide (j < i))) op_gt (pe_ix (r := rIxT K) ix_tup (pe_call CK.G hr1 (by rfl) CK.m CK.kp CK.b .nil pass0 (pa_cons (pv 0) (pa_cons (pv 7) pa_nil))) pe_int (fun _ _ => rfl)) (pe_ix (r := rIxT K) ix_tup (pv 5) (pe_un un_neg pe_int) (fun _ _ => rfl)) (nomark _))) pa_nil)))) (pss_one (ps_ret pe_bl)) pss_nil)
      (pss_cons (ps_setLc (i := 9) (own := [("_", 8), ("need", 5)]) (g := gTup K 2 (gCons (gName 8) (gCons (gName 5) gNil))) (tt := tTest (tOp rEq (tOp (rIxT K) (tVar 5) (tC (.int 0))) (tC (.str "kind")))) (te := tTup (tCons (tOp (rIxT K) (tVar 5) (tC (.int 1))) (tCons (tOp (rIxT K) (tVar 5) (tC (.int 2))) tNil))) (by rfl) scWt.nd rfl rfl (sw_true rfl rfl rfl (by decide +kernel)) (pi_list (pv 6))
          (blkOk_by (own := [("_", 8), ("need", 5)]) (N := nmWt) (sc := defScope sWt) (by decide +kernel)) (fun _ _ _ _ _ => pg_tup (t := gCons (gName 8) (gCons (gName 5) gNil)) rfl (pgs_cons (pg_name (i := 8) scWt.nd rfl (Or.inl rfl)) (pgs_cons (pg_name (i := 5) scWt.nd rfl (Or.inl rfl)) pgs_nil)))
          (fun _ _ _ _ _ => pts_one (pt_cmpR (r := rEq) op_eq (pe_ix (r := rIxT K) ix_tup (pv 5) pe_int (fun _ _ => rfl)) pe_str (nomark _)))
          (fun _ _ _ _ _ => pe_tup (pa_cons (pe_ix (r := rIxT K) ix_tup (pv 5) pe_int (fun _ _ => rfl)) (pa_cons (pe_ix (r := rIxT K) ix_tup (pv 5) pe_int (fun _ _ => rfl)) pa_nil))))
      (pss_cons (ps_set (i := 10) scWt.nd rfl (Or.inr rfl) (pe_lc (own := [("name", 7), ("need", 5)]) (g := gTup K 2 (gCons (gName 7) (gCons (gName 5) gNil))) (tt := tTest (tOp rEq (tOp (rIxT K) (tVar 5) (tC (.int 0))) (tC (.str "kind")))) (te := tTup (tCons (tVar 7) (tCons (tOp (rIxT K) (tVar 5) (tC (.int 3))) tNil))) (by rfl) scWt.nd (pi_list (pv 6))
          (blkOk_by (own := [("name", 7), ("need", 5)]) (N := nmWt) (sc := defScope sWt) (by decide +kernel)) (fun _ _ _ _ _ => pg_tup (t := gCons (gName 7) (gCons (gName 5) gNil)) rfl (pgs_cons (pg_name (i := 7) scWt.nd rfl (Or.inl rfl)) (pgs_cons (pg_name (i := 5) scWt.nd rfl (Or.inl rfl)) pgs_nil)))
          (fun _ _ _ _ _ => pts_one (pt_cmpR (r := rEq) op_eq (pe_ix (r := rIxT K) ix_tup (pv 5) pe_int (fun _ _ => rfl)) pe_str (nomark _)))
          (fun _ _ _ _ _ => pe_tup (pa_cons (pv 7) (pa_cons (pe_ix (r := rIxT K) ix_tup (pv 5) pe_int (fun _ _ => rfl)) pa_nil)))))
      (pss_one (ps_ret (pe_callB (r := rAll K) (cr_all rfl) (by rfl) hall (by decide +kernel) (pa_cons (pe_lc2n [12, 13] (own := [("name", 7), ("after", 11), ("other", 12), ("tell", 13)]) (g0 := gTup K 2 (gCons (gName 7) (gCons (gName 11) gNil))) (g1 := gTup K 2 (gCons (gName 12) (gCons (gName 13) gNil))) (w1 := iList K (tVar 10))
          (tt1 := tTest (tOp rEq (tVar 12) (tVar 7))) (te := tOp (rI0 fun i j => V.bl (decide (i ≤ j))) (tVar 11) (tVar 13))
          (by rfl) scWt.nd (pi_list (pv 9)) (blkOk_by (own := [("name", 7), ("after", 11), ("other", 12), ("tell", 13)]) (N := nmWt) (sc := defScope sWt) (by decide +kernel)) (by decide)
          (fun _ _ _ _ _ => pg_tup (t := gCons (gName 7) (gCons (gName 11) gNil)) rfl (pgs_cons (pg_name (i := 7) scWt.nd rfl (Or.inl rfl)) (pgs_cons (pg_name (i := 11) scWt.nd rfl (Or.inl rfl)) pgs_nil))) (fun _ _ _ _ _ => pts_nil)
          (fun _ _ _ _ _ => pi_list (pv 10))
          (fun _ _ _ _ _ => pg_tup (t := gCons (gName 12) (gCons (gName 13) gNil)) rfl (pgs_cons (pg_name (i := 12) scWt.nd rfl (Or.inl rfl)) (pgs_cons (pg_name (i := 13) scWt.nd rfl (Or.inl rfl)) pgs_nil)))
          (fun _ _ _ _ _ => pts_one (pt_cmpR (r := rEq) op_eq (pv 12) (pv 7) (nomark _)))
          (fun _ _ _ _ _ => pe_cmpR (r := rI0 fun i j => V.bl (decide (i ≤ j))) op_le (pv 11) (pv 13) (nomark _))) pa_nil))))))))))), ?_⟩
    have sz : ∀ {m : Nat}, m ≤ 900 → m ≤ sizeLine := fun h => Nat.le_of_lt (small1000 (by omega))
    have hk5 := hO.k5
    have nd := hO.nm.nd
    have decI : ∀ i j : Int, decide (V.int i = V.int j) = decide (i = j) := fun i j => decide_eq_decide.mpr ⟨fun e => by injection e, fun e => by rw [e]⟩
    have decS : ∀ i j : Str, decide (V.str i = V.str j) = decide (i = j) := fun i j => decide_eq_decide.mpr ⟨fun e => by injection e, fun e => by rw [e]⟩
    have kf : ∀ H', Ex T H H' → timedB ks S = false → Q (.bl false) H' := fun H' X e => by
      have q := k H' X
      rw [e] at q
      exact q
    refine ⟨_, rfl, _, rfl, b, sa, rows, ks, S, rfl, hA, hO, hS, fun H1 S1 => ⟨_, rfl, ?_⟩⟩
    have X1 := Ex.same hT S1
    by_cases hth : thB ks S = true
    rotate_left
    · rw [eq_false_of_ne_true hth]
      exact iteD rfl (kf H1 X1 (by unfold timedB; rw [eq_false_of_ne_true hth]; rfl))
    rw [hth]
    refine iteDF rfl ?_
    obtain ⟨t20, n20⟩ := thr_le hO hth
    have hA1 := hA.ts (TSame.of S1)
    have hS1 := hS.same S1
    obtain ⟨r, kt, kas, e1, e2, e3, pk⟩ := id hA1
    have hlen := paired_len pk
    refine ⟨_, rfl, b, _, 1, .ref kt, rfl, rfl, SqT.of e1, rfl, kt, rfl, ⟨_, SqT.of e3⟩, fun D nD => go_tup (K := K) (a := kt) (xs := kas.map V.ref) (fun i J => Same H1 J ∧ ∃ as : List Addr, J D = some (.lst (as.map V.ref)) ∧ as.length ≤ 12 * i ∧ NdsAt J as ((ks.take i).flatMap (ndsK S))) ?_ ?_ ?_ ?_⟩
    · exact ⟨same_upd nD, [], upd_same, Nat.le_refl _, .nil⟩
    · rintro i J _ ⟨SJ, _⟩
      exact SqT.of (SJ _ _ e3)
    · rintro i x J hx ⟨SJ, as, jD, la, pa⟩
      rw [List.getElem?_map] at hx
      obtain ⟨ka, ha, rfl⟩ := Option.map_eq_some_iff.mp hx
      obtain ⟨kd, hkd, gt, gas, f1, f2, f3⟩ := paired_at pk ha
      have mk := List.mem_of_getElem? hkd
      have hi : i < kas.length := (List.getElem?_eq_some_iff.mp ha).1
      have hgl := paired_len f3
      have hg4 := (hO.num kd mk).2.2.2.2
      have tk : ks.take (i + 1) = ks.take i ++ [kd] := by rw [List.take_add_one, hkd]; rfl
      refine ⟨rfl, tYes_go (iteT ?_)⟩
      refine ⟨_, rfl, ka, _, 3, .ref gt, rfl, rfl, SqT.of (SJ _ _ f1), rfl, gt, rfl, ⟨_, SqT.of (SJ _ _ f2)⟩, go_tup (K := K) (a := gt) (xs := gas.map V.ref) (fun q G => Same H1 G ∧ ∃ as2 : List Addr, G D = some (.lst (as2.map V.ref)) ∧ as2.length ≤ 12 * i + 3 * q ∧ NdsAt G as2 ((ks.take i).flatMap (ndsK S) ++ (kd.gs.take q).flatMap fun g => g.filter (ndTh S))) ?_ ?_ ?_ ?_⟩
      · exact ⟨SJ, as, jD, by omega, by simpa using pa⟩
      · rintro q G _ ⟨SG, _⟩
        exact SqT.of (SG _ _ f2)
      · rintro q x G hx ⟨SG, as2, gD, la2, pa2⟩
        rw [List.getElem?_map] at hx
        obtain ⟨ga, hga, rfl⟩ := Option.map_eq_some_iff.mp hx
        obtain ⟨g, hg, eG⟩ := paired_at f3 hga
        have mg' := List.mem_of_getElem? hg
        have hq := (List.getElem?_eq_some_iff.mp hg).1
        obtain ⟨g0, g3, gn⟩ := hO.grd kd mk g mg'
        have tk2 : kd.gs.take (q + 1) = kd.gs.take q ++ [g] := by rw [List.take_add_one, hg]; rfl
        refine ⟨rfl, tYes_go (iteT ?_)⟩
        refine ⟨_, rfl, _, rfl, sa, ga, S, g, rows, nmsOf ks, rfl, hS1.same SG, Grd.ts eG (TSame.of SG), gn, g3, fun p ns G3 S3 np ep pn => ?_⟩
        have ln := paired_len pn
        have lf := List.length_filter_le (ndTh S) g
        have pD : p ≠ D := fun z => by rw [z, gD] at np; cases np
        refine ⟨p, rfl, ⟨_, SqL.of ep⟩, go_list (K := K) (a := p) (xs := ns.map V.ref) (fun u J4 => Same H1 J4 ∧ TSame G3 J4 ∧ J4 p = some (.lst (ns.map V.ref)) ∧ ∃ as3 : List Addr, J4 D = some (.lst (as3.map V.ref)) ∧ as3.length ≤ 12 * i + 3 * q + u ∧ NdsAt J4 as3 (((ks.take i).flatMap (ndsK S) ++ (kd.gs.take q).flatMap fun g => g.filter (ndTh S)) ++ (g.filter (ndTh S)).take u)) ?_ ?_ ?_ ?_⟩
        · exact ⟨KaG.Same.tr SG S3, fun _ _ e => e, ep, as2, S3 _ _ gD, by omega, by simpa using Paired.mono' (fun _ _ e => S3 _ _ e) pa2⟩
        · rintro u J4 _ ⟨_, _, j4, _⟩
          exact SqL.of j4
        · rintro u y J4 hy ⟨S4, t4, j4, as3, jD4, la3, pa3⟩
          have hu := (List.getElem?_eq_some_iff.mp hy).1
          rw [List.length_map] at hu
          rw [List.getElem?_map] at hy
          obtain ⟨na, hna, rfl⟩ := Option.map_eq_some_iff.mp hy
          obtain ⟨it, hit, en⟩ := paired_at pn hna
          have enJ := t4 _ _ en
          have tsl := ts_lst (ys := as3.map V.ref ++ [V.ref na]) jD4
          refine ⟨rfl, tYes_go (iteT ?_)⟩
          refine ⟨_, rfl, _, jD4, small1000 (by rw [List.length_map]; omega), fun b u e => by rw [upd_ne (ne_of_none e nD)]; exact S4 b u e, fun b u e => tsl _ _ (t4 b u e), by rw [upd_ne pD]; exact j4, as3 ++ [na], by rw [upd_same, List.map_append]; rfl, by rw [List.length_append, List.length_singleton]; omega, ?_⟩
          rw [List.take_add_one, hit, Option.toList_some, ← List.append_assoc]
          exact paired_app (Paired.mono' (fun _ _ e => tsl _ _ e) pa3) (.cons (tsl _ _ enJ) .nil)
        · rintro J4 ⟨S4, t4, j4, as3, jD4, la3, pa3⟩
          rw [List.length_map, ln, List.take_length] at pa3
          rw [List.length_map] at la3
          refine ⟨S4, as3, jD4, by omega, ?_⟩
          rw [tk2, List.flatMap_append, ← List.append_assoc]
          have e : [g].flatMap (fun g => g.filter (ndTh S)) = g.filter (ndTh S) := by simp
          rw [e]
          exact pa3
      · rintro G ⟨SG, as2, gD, la2, pa2⟩
        rw [List.length_map, hgl, List.take_length] at pa2
        rw [List.length_map] at la2
        refine ⟨SG, as2, gD, by omega, ?_⟩
        rw [tk, List.flatMap_append]
        have e : [kd].flatMap (ndsK S) = kd.gs.flatMap fun g => g.filter (ndTh S) := by simp [ndsK]
        rw [e]
        exact pa2
    · rintro J ⟨SJ, as, jD, _, pa⟩
      rw [List.length_map, hlen, List.take_length] at pa
      have inN : ∀ it ∈ ks.flatMap (ndsK S), NeedV rows (nmsOf ks) it := fun it m => nds_in hO m
      generalize hN : ks.flatMap (ndsK S) = N at pa n20 inN
      have la := paired_len pa
      have XJ := X1.tr (Ex.same X1.tab SJ)
      -- all for good
      refine ⟨_, rfl, D, rfl, ⟨_, SqL.of jD⟩, fun D2 nD2 => ?_⟩
      dsimp only [tNil]
      refine go_list (K := K) (a := D) (xs := as.map V.ref) (fun i G => Same J G ∧ G D2 = some (.lst (((N.take i).map fun it => decide (ndMost it = 9)).map V.bl))) ?_ ?_ ?_ ?_
      · exact ⟨same_upd nD2, upd_same⟩
      · rintro i G _ ⟨SG, _⟩
        exact SqL.of (SG _ _ jD)
      · rintro i v G hv ⟨SG, gD⟩
        rw [List.getElem?_map] at hv
        obtain ⟨n, hn, rfl⟩ := Option.map_eq_some_iff.mp hv
        obtain ⟨it, hit, en⟩ := paired_at pa hn
        have tk : N.take (i + 1) = N.take i ++ [it] := by rw [List.take_add_one, hit]; rfl
        refine ⟨rfl, tYes_go (iteT ?_)⟩
        refine ⟨_, rfl, _, rfl, n, _, _, .int (ndMost it), rfl, rfl, SqT.of (SG _ _ en), (inN it (List.mem_of_getElem? hit)).most.1, rfl, ?_⟩
        refine ⟨_, gD, small1000 (by rw [List.length_map, List.length_map, List.length_take]; omega), fun b u e => by rw [upd_ne (ne_of_none e nD2)]; exact SG b u e, ?_⟩
        rw [upd_same, tk, List.map_append, List.map_append]
        show _ = some (HO.lst (_ ++ [V.bl (decide (ndMost it = 9))]))
        rw [← decI]
      · rintro G ⟨SG, gD⟩
        rw [List.length_map, la, List.take_length] at gD
        have XG := XJ.tr (Ex.same XJ.tab SG)
        refine ⟨D2, _, rfl, SqL.of gD, _, rfl, ?_⟩
        have e9 : ((N.map fun it => decide (ndMost it = 9)).all id) = N.all fun it => decide (ndMost it = 9) := by rw [List.all_map]; rfl
        rw [e9]
        by_cases h9 : (N.all fun it => decide (ndMost it = 9)) = true
        rotate_left
        · rw [eq_false_of_ne_true h9]
          exact iteD rfl (kf G XG (by unfold timedB; rw [hN, eq_false_of_ne_true h9, hth]; rfl))
        rw [h9]
        refine iteDF rfl ?_
        refine ⟨_, rfl, _, rfl, b, sa, rows, ks, S, rfl, hA.ts XG.ts, hO, hS.imp (fun e => XG.lst e) (fun e => XG.ts _ _ e), XG.tab, fun pt ths G2 X2 npt ept pth => ?_⟩
        have X2' := XG.tr X2
        have hA2 := hA.ts X2'.ts
        have inT : ∀ p ∈ thr ks S, p.1 ∈ nmsOf ks ∧ NeedV rows (nmsOf ks) p.2 := fun p m => thr_in hO m
        have etm : timedB ks S = (((thr ks S).all fun p => keepLt ks p.1 (ndTell p.2)) && wtB ((thr ks S).filterMap thW) ((thr ks S).filterMap thT)) := by
          unfold timedB
          rw [hN, h9, hth]
          rfl
        generalize thr ks S = TH at pth inT etm t20
        have lt := paired_len pth
        -- kept longer
        refine ⟨_, rfl, pt, rfl, ⟨_, SqL.of ept⟩, fun D3 nD3 => ?_⟩
        dsimp only [tNil]
        refine go_list (K := K) (a := pt) (xs := ths.map V.ref) (fun i G => Same G2 G ∧ G D3 = some (.lst (((TH.take i).map fun p => keepLt ks p.1 (ndTell p.2)).map V.bl))) ?_ ?_ ?_ ?_
        · exact ⟨same_upd nD3, upd_same⟩
        · rintro i G _ ⟨SG, _⟩
          exact SqL.of (SG _ _ ept)
        · rintro i v G hv ⟨SG, gD⟩
          rw [List.getElem?_map] at hv
          obtain ⟨a, ha, rfl⟩ := Option.map_eq_some_iff.mp hv
          obtain ⟨p, hp, na, ea, en⟩ := paired_at pth ha
          have tk : TH.take (i + 1) = TH.take i ++ [p] := by rw [List.take_add_one, hp]; rfl
          obtain ⟨pn, pv⟩ := inT p (List.mem_of_getElem? hp)
          refine ⟨a, _, rfl, SqT.of (SG _ _ ea), rfl, _, _, rfl, _, _, rfl, rfl, rfl, tYes_go (iteT ?_)⟩
          refine ⟨_, rfl, _, rfl, b, rows, ks, p.1, rfl, hA2.ts (TSame.of SG), nd, pn, fun ka kd mk ekd hK => ?_⟩
          obtain ⟨gt, gas, f1, f2, f3⟩ := hK
          refine ⟨ka, _, 1, .int kd.keep, rfl, rfl, SqT.of f1, rfl, _, rfl, _, rfl, na, _, _, .int (ndTell p.2), rfl, rfl, SqT.of (SG _ _ en), pv.most.2, _, _, rfl, rfl, ?_⟩
          refine ⟨_, gD, small1000 (by rw [List.length_map, List.length_map, List.length_take]; omega), fun b u e => by rw [upd_ne (ne_of_none e nD3)]; exact SG b u e, ?_⟩
          rw [upd_same, tk, List.map_append, List.map_append]
          show _ = some (HO.lst (_ ++ [V.bl (keepLt ks p.1 (ndTell p.2))]))
          rw [← ekd, keepLt_eq nd mk]
        · rintro G3 ⟨SG3, gD3⟩
          rw [List.length_map, lt, List.take_length] at gD3
          have X3 := X2'.tr (Ex.same X2'.tab SG3)
          refine ⟨D3, _, rfl, SqL.of gD3, _, rfl, ?_⟩
          have ek : ((TH.map fun p => keepLt ks p.1 (ndTell p.2)).all id) = TH.all fun p => keepLt ks p.1 (ndTell p.2) := by rw [List.all_map]; rfl
          rw [ek]
          by_cases hk : (TH.all fun p => keepLt ks p.1 (ndTell p.2)) = true
          rotate_left
          · rw [eq_false_of_ne_true hk] at etm ⊢
            exact iteD rfl (kf G3 X3 (by rw [etm]; rfl))
          rw [hk] at etm ⊢
          refine iteDF rfl ?_
          have ept3 := SG3 _ _ ept
          have pth3 := Paired.mono' (fun _ _ e => ThAt.ts e (TSame.of SG3)) pth
          -- waits
          refine ⟨_, rfl, pt, rfl, ⟨_, SqL.of ept3⟩, fun D4 nD4 => ?_⟩
          dsimp only [tNil]
          refine go_list (K := K) (a := pt) (xs := ths.map V.ref) (fun i G => Same G3 G ∧ ∃ ws : List Addr, G D4 = some (.lst (ws.map V.ref)) ∧ NiAt G ws ((TH.take i).filterMap thW)) ?_ ?_ ?_ ?_
          · exact ⟨same_upd nD4, [], upd_same, .nil⟩
          · rintro i G _ ⟨SG, _⟩
            exact SqL.of (SG _ _ ept3)
          · rintro i v G hv ⟨SG, ws, gD, pw⟩
            rw [List.getElem?_map] at hv
            obtain ⟨a, ha, rfl⟩ := Option.map_eq_some_iff.mp hv
            obtain ⟨p, hp, na, ea, en⟩ := paired_at pth3 ha
            have tk : TH.take (i + 1) = TH.take i ++ [p] := by rw [List.take_add_one, hp]; rfl
            have hi := (List.getElem?_eq_some_iff.mp hp).1
            have lw := paired_len pw
            have lf := List.length_filterMap_le thW (TH.take i)
            rw [List.length_take] at lf
            have enG := SG _ _ en
            refine ⟨a, _, rfl, SqT.of (SG _ _ ea), rfl, _, _, rfl, _, _, rfl, rfl, rfl, ?_⟩
            obtain ⟨pn, pv⟩ := inT p (List.mem_of_getElem? hp)
            obtain ⟨pnm, it⟩ := p
            dsimp only at enG pv
            cases pv with
            | row nm t m =>
              refine ⟨_, rfl, na, _, 0, .str "row", rfl, rfl, SqT.of enG, rfl, rfl, _, rfl, iteDF (by decide +kernel) ⟨SG, ws, gD, ?_⟩⟩
              rw [tk, List.filterMap_append]
              show NiAt G ws (_ ++ [])
              rw [List.append_nil]
              exact pw
            | kind nm af t m =>
              refine ⟨_, rfl, na, _, 0, .str "kind", rfl, rfl, SqT.of enG, rfl, rfl, _, rfl, iteD (by decide +kernel) ?_⟩
              refine ⟨_, rfl, na, _, 1, .str nm, rfl, rfl, SqT.of enG, rfl, _, rfl, na, _, 2, .int af, rfl, rfl, SqT.of enG, rfl, sz (by show 2 ≤ 900; decide), fun t2 nt => ?_⟩
              have St := same_upd (o := .tup [.str nm, .int af]) nt
              have et : upd G t2 (.tup [.str nm, .int af]) t2 = some (.tup [.str nm, .int af]) := upd_same
              have gD2 := St _ _ gD
              have SG2 := KaG.Same.tr SG St
              have pw2 := Paired.mono' (fun _ _ e => St _ _ e) pw
              generalize upd G t2 (.tup [.str nm, .int af]) = G5 at et gD2 SG2 pw2 ⊢
              have tsl := ts_lst (ys := ws.map V.ref ++ [V.ref t2]) gD2
              refine ⟨_, gD2, small1000 (by rw [List.length_map]; omega), fun b u e => by rw [upd_ne (ne_of_none e nD4)]; exact SG2 b u e, ws ++ [t2], by rw [upd_same, List.map_append]; rfl, ?_⟩
              rw [tk, List.filterMap_append]
              exact paired_app (Paired.mono' (fun _ _ e => tsl _ _ e) pw2) (.cons (tsl _ _ et) .nil)
          · rintro G4 ⟨SG4, ws, gD4, pw⟩
            rw [List.length_map, lt, List.take_length] at pw
            have X4 := X3.tr (Ex.same X3.tab SG4)
            have ept4 := SG4 _ _ ept3
            have pth4 := Paired.mono' (fun _ _ e => ThAt.ts e (TSame.of SG4)) pth3
            -- tells
            refine ⟨_, rfl, pt, rfl, ⟨_, SqL.of ept4⟩, fun D5 nD5 => ?_⟩
            dsimp only [tNil]
            refine go_list (K := K) (a := pt) (xs := ths.map V.ref) (fun i G => Same G4 G ∧ ∃ ts : List Addr, G D5 = some (.lst (ts.map V.ref)) ∧ NiAt G ts ((TH.take i).filterMap thT)) ?_ ?_ ?_ ?_
            · exact ⟨same_upd nD5, [], upd_same, .nil⟩
            · rintro i G _ ⟨SG, _⟩
              exact SqL.of (SG _ _ ept4)
            · rintro i v G hv ⟨SG, ws, gD, pw⟩
              rw [List.getElem?_map] at hv
              obtain ⟨a, ha, rfl⟩ := Option.map_eq_some_iff.mp hv
              obtain ⟨p, hp, na, ea, en⟩ := paired_at pth4 ha
              have tk : TH.take (i + 1) = TH.take i ++ [p] := by rw [List.take_add_one, hp]; rfl
              have hi := (List.getElem?_eq_some_iff.mp hp).1
              have lw := paired_len pw
              have lf := List.length_filterMap_le thT (TH.take i)
              rw [List.length_take] at lf
              have enG := SG _ _ en
              refine ⟨a, _, rfl, SqT.of (SG _ _ ea), rfl, _, _, rfl, _, _, rfl, rfl, rfl, ?_⟩
              obtain ⟨pn, pv⟩ := inT p (List.mem_of_getElem? hp)
              obtain ⟨pnm, it⟩ := p
              dsimp only at enG pv
              cases pv with
              | row nm t m =>
                refine ⟨_, rfl, na, _, 0, .str "row", rfl, rfl, SqT.of enG, rfl, rfl, _, rfl, iteDF (by decide +kernel) ⟨SG, ws, gD, ?_⟩⟩
                rw [tk, List.filterMap_append]
                show NiAt G ws (_ ++ [])
                rw [List.append_nil]
                exact pw
              | kind nm af t m =>
                refine ⟨_, rfl, na, _, 0, .str "kind", rfl, rfl, SqT.of enG, rfl, rfl, _, rfl, iteD (by decide +kernel) ?_⟩
                refine ⟨_, rfl, _, rfl, na, _, 3, .int t, rfl, rfl, SqT.of enG, rfl, sz (by show 2 ≤ 900; decide), fun t2 nt => ?_⟩
                have St := same_upd (o := .tup [.str pnm, .int t]) nt
                have et : upd G t2 (.tup [.str pnm, .int t]) t2 = some (.tup [.str pnm, .int t]) := upd_same
                have gD2 := St _ _ gD
                have SG2 := KaG.Same.tr SG St
                have pw2 := Paired.mono' (fun _ _ e => St _ _ e) pw
                generalize upd G t2 (.tup [.str pnm, .int t]) = G5 at et gD2 SG2 pw2 ⊢
                have tsl := ts_lst (ys := ws.map V.ref ++ [V.ref t2]) gD2
                refine ⟨_, gD2, small1000 (by rw [List.length_map]; omega), fun b u e => by rw [upd_ne (ne_of_none e nD5)]; exact SG2 b u e, ws ++ [t2], by rw [upd_same, List.map_append]; rfl, ?_⟩
                rw [tk, List.filterMap_append]
                exact paired_app (Paired.mono' (fun _ _ e => tsl _ _ e) pw2) (.cons (tsl _ _ et) .nil)
            · rintro G5 ⟨SG5, ts, gD5, ptl⟩
              rw [List.length_map, lt, List.take_length] at ptl
              have X5 := X4.tr (Ex.same X4.tab SG5)
              have gD45 := SG5 _ _ gD4
              have pw5 := Paired.mono' (fun _ _ e => SG5 _ _ e) pw
              have lW := List.length_filterMap_le thW TH
              have lT := List.length_filterMap_le thT TH
              generalize TH.filterMap thW = WS at pw5 lW etm
              generalize TH.filterMap thT = TS at ptl lT etm
              have lw := paired_len pw5
              have lts := paired_len ptl
              let wB : Str × Int → List Bool := fun w => (TS.filter fun t => decide (t.1 = w.1)).map fun t => decide (w.2 ≤ t.2)
              refine ⟨_, rfl, D4, rfl, ⟨_, SqL.of gD45⟩, fun D6 nD6 => go_list (K := K) (a := D4) (xs := ws.map V.ref) (fun i G => Same G5 G ∧ ((WS.take i).flatMap wB).length ≤ 20 * i ∧ G D6 = some (.lst (((WS.take i).flatMap wB).map V.bl))) ?_ ?_ ?_ ?_⟩
              · exact ⟨same_upd nD6, Nat.le_refl _, upd_same⟩
              · rintro i G _ ⟨SG, _⟩
                exact SqL.of (SG _ _ gD45)
              · rintro i v G hv ⟨SG, lG, gD⟩
                rw [List.getElem?_map] at hv
                obtain ⟨a, ha, rfl⟩ := Option.map_eq_some_iff.mp hv
                obtain ⟨wz, hw, ea⟩ := paired_at pw5 ha
                have hi := (List.getElem?_eq_some_iff.mp hw).1
                have tk : WS.take (i + 1) = WS.take i ++ [wz] := by rw [List.take_add_one, hw]; rfl
                generalize hbs : (WS.take i).flatMap wB = bs at lG gD
                refine ⟨a, [.str wz.1, .int wz.2], rfl, SqT.of (SG _ _ ea), rfl, ?_⟩
                refine ⟨_, _, rfl, ?_⟩
                refine ⟨_, _, rfl, rfl, ?_⟩
                refine ⟨wipe2 (by decide) (by decide), ?_⟩
                refine tYes_go (iteT ?_)
                refine ⟨_, rfl, D5, rfl, ⟨_, SqL.of (SG _ _ gD5)⟩, go_list (K := K) (a := D5) (xs := ts.map V.ref) (fun q G6 => Same G5 G6 ∧ G6 D6 = some (.lst ((bs ++ ((TS.take q).filter fun t => decide (t.1 = wz.1)).map fun t => decide (wz.2 ≤ t.2)).map V.bl))) ?_ ?_ ?_ ?_⟩
                · exact ⟨SG, by simpa using gD⟩
                · rintro q G6 _ ⟨S6, _⟩
                  exact SqL.of (S6 _ _ gD5)
                · rintro q v G6 hv ⟨S6, gD6⟩
                  rw [List.getElem?_map] at hv
                  obtain ⟨a2, ha2, rfl⟩ := Option.map_eq_some_iff.mp hv
                  obtain ⟨tz, htz, ea2⟩ := paired_at ptl ha2
                  have hq := (List.getElem?_eq_some_iff.mp htz).1
                  have tk2 : TS.take (q + 1) = TS.take q ++ [tz] := by rw [List.take_add_one, htz]; rfl
                  have lf := List.length_filter_le (fun t : Str × Int => decide (t.1 = wz.1)) (TS.take q)
                  rw [List.length_take] at lf
                  refine ⟨a2, [.str tz.1, .int tz.2], rfl, SqT.of (S6 _ _ ea2), rfl, ?_⟩
                  refine ⟨_, _, rfl, ?_⟩
                  refine ⟨_, _, rfl, rfl, ?_⟩
                  refine ⟨wipe2 (by decide) (by decide), ?_⟩
                  refine ⟨.str tz.1, get_in (by rw [List.length_set, List.length_set, wipe_length]; simp only [List.length_set]; exact (by show 12 < 14; decide)) (by decide), ?_⟩
                  refine ⟨.str wz.1, (get_out (by decide) (by decide) (by decide)).trans (get_in (by simp only [List.length_set]; exact (by show 7 < 14; decide)) (by decide)), ?_⟩
                  refine ⟨rfl, ?_⟩
                  refine ⟨_, rfl, ?_⟩
                  rw [decS]
                  refine ite2 (fun hb => ?_) fun hb => ?_
                  · refine ⟨.int wz.2, (get_out (by decide) (by decide) (by decide)).trans (get_in2 (by simp only [List.length_set]; exact (by show 11 < 14; decide))), ?_⟩
                    refine ⟨.int tz.2, get_in2 (by rw [List.length_set, List.length_set, wipe_length]; simp only [List.length_set]; exact (by show 13 < 14; decide)), ?_⟩
                    refine ⟨_, _, rfl, rfl, ?_⟩
                    refine ⟨_, gD6, small1000 (by rw [List.length_map, List.length_append, List.length_map]; omega), fun b u e => by rw [upd_ne (ne_of_none e nD6)]; exact S6 b u e, ?_⟩
                    rw [upd_same, tk2]
                    exact congrArg (fun x => some (HO.lst x)) (wt_one hb)
                  · rw [tk2, List.filter_append, List.filter_cons_of_neg (p := fun t : Str × Int => decide (t.1 = wz.1)) hb, List.filter_nil, List.append_nil]
                    exact ⟨S6, gD6⟩
                · rintro G6 ⟨S6, gD6⟩
                  rw [List.length_map, lts, List.take_length] at gD6
                  have e : (WS.take (i + 1)).flatMap wB = bs ++ wB wz := by
                    rw [tk, List.flatMap_append, hbs]
                    simp
                  have lf := List.length_filter_le (fun t : Str × Int => decide (t.1 = wz.1)) TS
                  rw [e]
                  refine ⟨S6, ?_, gD6⟩
                  rw [List.length_append]
                  have : (wB wz).length = (TS.filter fun t => decide (t.1 = wz.1)).length := List.length_map ..
                  omega
              · rintro G6 ⟨S6, _, gD6⟩
                rw [List.length_map, lw, List.take_length] at gD6
                refine ⟨D6, _, rfl, SqL.of gD6, ?_⟩
                rw [wt_flat]
                have q := k G6 (X5.tr (Ex.same X5.tab S6))
                rw [etm] at q
                exact q
end
end KaG
set_option maxRecDepth 100000
set_option maxHeartbeats 4000000
namespace KaG
open PySem PySem.Spec PyProof.Rows L2 KaC KaN LamX NdefX
/-- the live grounds with their kinds' names -/
noncomputable def lvpK (ks : List Kd) (k : Kd) : List (Str × Gr) := (k.gs.filter (grLive ks (bearOf ks))).map fun g => (k.name, g)
noncomputable def lvp (ks : List Kd) : List (Str × Gr) := ks.flatMap (lvpK ks)
abbrev LgAt (H : Hp) (a : Addr) (p : Str × Gr) : Prop := ∃ ga : Addr, H a = some (.tup [.str p.1, .ref ga]) ∧ Grd H ga p.2
theorem LgAt.ts {H H' : Hp} {a : Addr} {p : Str × Gr} (h : LgAt H a p) (s : TSame H H') : LgAt H' a p := by
  obtain ⟨ga, e1, e2⟩ := h
  exact ⟨ga, s _ _ e1, Grd.ts e2 s⟩
theorem lvp_in {rows : List Str} {ks : List Kd} (hO : BookOk rows ks) {p : Str × Gr} (m : p ∈ lvp ks) : p.1 ∈ nmsOf ks ∧ p.2.length ≤ 3 ∧ (∀ it ∈ p.2, NeedV rows (nmsOf ks) it) ∧ grLive ks (bearOf ks) p.2 = true := by
  obtain ⟨k, mk, m⟩ := List.mem_flatMap.mp m
  obtain ⟨g, mg', rfl⟩ := List.mem_map.mp m
  obtain ⟨m1, m2⟩ := List.mem_filter.mp mg'
  obtain ⟨_, h2, h3⟩ := hO.grd k mk g m1
  exact ⟨List.mem_map_of_mem mk, h2, h3, m2⟩
theorem lvp_le {rows : List Str} {ks : List Kd} (hO : BookOk rows ks) : (lvp ks).length ≤ 20 := by
  have : ∀ l : List Kd, (∀ k ∈ l, k.gs.length ≤ 4) → (l.flatMap (lvpK ks)).length ≤ 4 * l.length := fun l => by
    induction l with
    | nil => exact fun _ => Nat.le_refl _
    | cons k r ih =>
      intro h
      have h1 := h k List.mem_cons_self
      have h2 := ih fun q m => h q (List.mem_cons_of_mem _ m)
      have h3 := List.length_filter_le (grLive ks (bearOf ks)) k.gs
      have h4 : (lvpK ks k).length = (k.gs.filter (grLive ks (bearOf ks))).length := List.length_map ..
      rw [List.flatMap_cons, List.length_append, List.length_cons]
      omega
  have := this ks fun k m => (hO.num k m).2.2.2.2
  have := hO.k5
  unfold lvp
  omega
theorem thr_lvp {rows : List Str} {ks : List Kd} {S : List Str} (hO : BookOk rows ks) : thr ks S = (lvp ks).flatMap fun p => thG S p.1 p.2 := by
  unfold thr lvp
  have : ∀ l : List Kd, (∀ k ∈ l, k ∈ ks) → l.flatMap (thK ks S) = (l.flatMap (lvpK ks)).flatMap fun p => thG S p.1 p.2 := fun l => by
    induction l with
    | nil => exact fun _ => rfl
    | cons k r ih =>
      intro h
      rw [List.flatMap_cons, List.flatMap_cons, List.flatMap_append, ih fun q m => h q (List.mem_cons_of_mem _ m)]
      congr 1
      unfold thK lvpK
      rw [lvG_filter, gsOf_eq hO.nm.nd (h k List.mem_cons_self), List.flatMap_map]
  exact this ks fun _ m => m
def isKn : List V → Bool
  | [_, _, _, _, _] => true
  | _ => false
/-- what the law looks at -/
def lateB (afs : List Int) (kp : Int) (it : List V) : Bool := afs.any fun a => (decide (ndTell it < a) && isKn it) || decide (kp ≤ a)
def afsOf (us : List (List V)) (n : Str) : List Int := (us.filterMap ndWait).filterMap fun z => if z.1 = n then some z.2 else none
noncomputable def lawT (ks : List Kd) (S : List Str) (us : List (List V)) : Bool := (lvp ks).all fun p => (p.2.filter (ndTh S)).all fun it => !(decide (keepK ks p.1 ≤ ndTell it) || lateB (afsOf us p.1) (keepK ks p.1) it)
noncomputable def usedOf (ks : List Kd) : List (List V) := ((lvp ks).flatMap fun p => p.2).filter isKn
theorem isKn_wait {rows names : List Str} {it : List V} (h : NeedV rows names it) : (ndWait it).isSome = isKn it := by
  cases h <;> rfl
theorem used_waits {rows : List Str} {ks : List Kd} {S : List Str} (hO : BookOk rows ks) : (usedOf ks).filterMap ndWait = (thr ks S).filterMap thW := by
  rw [thr_lvp hO]
  unfold usedOf
  have key : ∀ l : List (Str × Gr), (∀ p ∈ l, ∀ it ∈ p.2, NeedV rows (nmsOf ks) it) → ((l.flatMap fun p => p.2).filter isKn).filterMap ndWait = (l.flatMap fun p => thG S p.1 p.2).filterMap thW := fun l => by
    induction l with
    | nil => exact fun _ => rfl
    | cons p r ih =>
      intro h
      rw [List.flatMap_cons, List.flatMap_cons, List.filter_append, List.filterMap_append, List.filterMap_append, ih fun q m => h q (List.mem_cons_of_mem _ m)]
      congr 1
      have hp := h p List.mem_cons_self
      have k2 : ∀ g : List (List V), (∀ it ∈ g, NeedV rows (nmsOf ks) it) → (g.filter isKn).filterMap ndWait = (thG S p.1 g).filterMap thW := fun g => by
        induction g with
        | nil => exact fun _ => rfl
        | cons it r ih2 =>
          intro h2
          have h3 := h2 it List.mem_cons_self
          have ih2 := ih2 fun q m => h2 q (List.mem_cons_of_mem _ m)
          unfold thG at ih2 ⊢
          cases h3 with
          | row n t m =>
            rw [List.filter_cons_of_neg (show ¬ isKn [V.str "row", .str n, .int t, .int m] = true from Bool.false_ne_true), ih2]
            by_cases c : ndTh S [V.str "row", .str n, .int t, .int m] = true
            · rw [List.filter_cons_of_pos c]; rfl
            · rw [List.filter_cons_of_neg c]
          | kind n a t m =>
            rw [List.filter_cons_of_pos (by rfl), List.filter_cons_of_pos (by rfl), List.map_cons, List.filterMap_cons_some (f := ndWait) (b := (n, a)) rfl, List.filterMap_cons_some (f := thW) (b := (n, a)) rfl, ih2]
      exact k2 p.2 hp
  exact key (lvp ks) fun p m => (lvp_in hO m).2.2.1
theorem law_timed {rows : List Str} {ks : List Kd} {S : List Str} (hO : BookOk rows ks) : lawT ks S (usedOf ks) = (((thr ks S).all fun p => keepLt ks p.1 (ndTell p.2)) && wtB ((thr ks S).filterMap thW) ((thr ks S).filterMap thT)) := by
  have nd := hO.nm.nd
  have kl : ∀ n ∈ nmsOf ks, ∀ a, keepLt ks n a = decide (a < keepK ks n) := fun n m a => by
    obtain ⟨k, mk, rfl⟩ := List.mem_map.mp m
    rw [keepK_at nd mk, keepLt_eq nd mk]
  have mth : ∀ p, p ∈ thr ks S ↔ ∃ q ∈ lvp ks, p.1 = q.1 ∧ p.2 ∈ q.2 ∧ ndTh S p.2 = true := fun p => by
    rw [thr_lvp hO, List.mem_flatMap]
    constructor
    · rintro ⟨q, mq, m⟩
      obtain ⟨it, mi, rfl⟩ := List.mem_map.mp m
      obtain ⟨h1, h2⟩ := List.mem_filter.mp mi
      exact ⟨q, mq, rfl, h1, h2⟩
    · rintro ⟨q, mq, h1, h2, h3⟩
      exact ⟨q, mq, List.mem_map.mpr ⟨p.2, List.mem_filter.mpr ⟨h2, h3⟩, by rw [← h1]⟩⟩
  have afm : ∀ n a, a ∈ afsOf (usedOf ks) n ↔ (n, a) ∈ (thr ks S).filterMap thW := fun n a => by
    unfold afsOf
    rw [used_waits (S := S) hO, List.mem_filterMap]
    constructor
    · rintro ⟨z, mz, e⟩
      by_cases c : z.1 = n
      · rw [if_pos c] at e
        injection e with e
        rw [← c, ← e]
        exact mz
      · rw [if_neg c] at e; cases e
    · intro m
      exact ⟨(n, a), m, if_pos rfl⟩
  -- a wait is shorter than what is kept
  have short : ∀ n a, (n, a) ∈ (thr ks S).filterMap thW → a < keepK ks n := fun n a m => by
    obtain ⟨p, mp, e⟩ := List.mem_filterMap.mp m
    obtain ⟨q, mq, h1, h2, h3⟩ := (mth p).mp mp
    obtain ⟨g1, g2, g3, g4⟩ := lvp_in hO mq
    have hl := List.all_eq_true.mp g4 p.2 h2
    have nv := g3 p.2 h2
    unfold thW at e
    generalize p.2 = it at hl nv e
    cases nv with
    | row => cases e
    | kind nm af t mm hnm =>
      have e : some (nm, af) = some (n, a) := e
      injection e with e
      injection e with ea eb
      subst ea
      subst eb
      have hl : (decide (nm ∈ bearOf ks) && keepLt ks nm af) = true := hl
      rw [Bool.and_eq_true, kl nm hnm] at hl
      exact of_decide_eq_true hl.2
  cases c : (((thr ks S).all fun p => keepLt ks p.1 (ndTell p.2)) && wtB ((thr ks S).filterMap thW) ((thr ks S).filterMap thT)) with
  | true =>
    rw [Bool.and_eq_true] at c
    obtain ⟨c1, c2⟩ := c
    refine List.all_eq_true.mpr fun q mq => List.all_eq_true.mpr fun it mi => ?_
    obtain ⟨m1, m2⟩ := List.mem_filter.mp mi
    have mp : (q.1, it) ∈ thr ks S := (mth _).mpr ⟨q, mq, rfl, m1, m2⟩
    obtain ⟨g1, g2, g3, g4⟩ := lvp_in hO mq
    have h1 := List.all_eq_true.mp c1 _ mp
    rw [kl _ g1] at h1
    have h1 : ndTell it < keepK ks q.1 := of_decide_eq_true h1
    rw [Bool.not_eq_true', Bool.or_eq_false_iff]
    refine ⟨decide_eq_false (by show ¬ keepK ks q.1 ≤ ndTell it; omega), ?_⟩
    unfold lateB
    refine List.any_eq_false.mpr fun a ma => ?_
    have mw := (afm q.1 a).mp ma
    have hs := short _ _ mw
    rw [decide_eq_false (show ¬ keepK ks q.1 ≤ a by omega), Bool.or_false]
    intro hb
    rw [Bool.and_eq_true] at hb
    obtain ⟨hb1, hb2⟩ := hb
    have hb1 := of_decide_eq_true hb1
    have nv := g3 it m1
    have mt : (q.1, ndTell it) ∈ (thr ks S).filterMap thT := by
      refine List.mem_filterMap.mpr ⟨(q.1, it), mp, ?_⟩
      have := isKn_wait nv
      rw [hb2] at this
      obtain ⟨z, hz⟩ := Option.isSome_iff_exists.mp this
      show (ndWait it).map _ = _
      rw [hz]
      rfl
    have h3 := List.all_eq_true.mp (List.all_eq_true.mp c2 _ mw) _ mt
    rw [decide_eq_true (show (q.1, ndTell it).1 = (q.1, a).1 from rfl)] at h3
    have h3 : decide (a ≤ ndTell it) = true := h3
    have := of_decide_eq_true h3
    omega
  | false =>
    refine eq_false_of_ne_true fun hT => ?_
    have hq : ∀ q ∈ lvp ks, ∀ it ∈ q.2, ndTh S it = true → ndTell it < keepK ks q.1 ∧ ∀ a ∈ afsOf (usedOf ks) q.1, isKn it = true → a ≤ ndTell it := fun q mq it m1 m2 => by
      have := List.all_eq_true.mp (List.all_eq_true.mp hT q mq) it (List.mem_filter.mpr ⟨m1, m2⟩)
      rw [Bool.not_eq_true', Bool.or_eq_false_iff] at this
      obtain ⟨h1, h2⟩ := this
      refine ⟨by have := of_decide_eq_false h1; omega, fun a ma hk => ?_⟩
      unfold lateB at h2
      have := List.any_eq_false.mp h2 a ma
      rw [hk, Bool.and_true, Bool.or_eq_true, not_or] at this
      have h3 : ¬ ndTell it < a := fun z => this.1 (decide_eq_true z)
      omega
    have c1 : ((thr ks S).all fun p => keepLt ks p.1 (ndTell p.2)) = true := List.all_eq_true.mpr fun p mp => by
      obtain ⟨q, mq, h1, h2, h3⟩ := (mth p).mp mp
      rw [h1, kl _ (lvp_in hO mq).1]
      exact decide_eq_true (hq q mq p.2 h2 h3).1
    have c2 : wtB ((thr ks S).filterMap thW) ((thr ks S).filterMap thT) = true := List.all_eq_true.mpr fun w mw => List.all_eq_true.mpr fun t mt => by
      by_cases e : t.1 = w.1
      · rw [decide_eq_true e]
        obtain ⟨p, mp, et⟩ := List.mem_filterMap.mp mt
        obtain ⟨q, mq, h1, h2, h3⟩ := (mth p).mp mp
        have nv := (lvp_in hO mq).2.2.1 p.2 h2
        unfold thT at et
        cases ew : ndWait p.2 with
        | none => rw [ew] at et; cases et
        | some z =>
          rw [ew] at et
          have et : some (p.1, ndTell p.2) = some t := et
          injection et with et
          have hk : isKn p.2 = true := by rw [← isKn_wait nv, ew]; rfl
          have ma : w.2 ∈ afsOf (usedOf ks) q.1 := (afm _ _).mpr (by rw [← h1, show p.1 = w.1 by rw [← e, ← et]]; exact mw)
          have := (hq q mq p.2 h2 h3).2 w.2 ma hk
          show decide (w.2 ≤ t.2) = true
          rw [← et]
          exact decide_eq_true this
      · rw [decide_eq_false e]
        rfl
    rw [c1, c2] at c
    cases c
end KaG
set_option maxRecDepth 100000
set_option maxHeartbeats 4000000
namespace KaG
open PySem PySem.Spec PyProof.Rows L2 KaC KaN LamX NdefX
/-- the kinds' keeps as pairs, put into a dict -/
theorem keeps_read {K : PySem.W.Frag} {J : Hp} {qs : List Addr} {ks : List Kd} (nd : (ks.map Kd.name).Nodup) (pq : Paired (fun q (k : Kd) => J q = some (.tup [.str k.name, .int k.keep])) qs ks) :
    Paired (fun p (kv : Key × V) => SqT K J p [kV kv.1, kv.2]) qs (kpD ks (nmsOf ks)) ∧ mergeK [] (kpD ks (nmsOf ks)) = kpD ks (nmsOf ks) := by
  have ndk : ((kpD ks (nmsOf ks)).map (·.1)).Nodup := by
    unfold kpD
    rw [List.map_map]
    exact List.pairwise_map.mpr (nd.imp fun h z => h (Sum.inr.inj z))
  refine ⟨?_, by rw [merge_new _ _ (by rw [List.nil_append]; exact ndk), List.nil_append]⟩
  have key : ∀ (l : List Kd) (qs : List Addr), (∀ k ∈ l, k ∈ ks) → Paired (fun q (k : Kd) => J q = some (.tup [.str k.name, .int k.keep])) qs l → Paired (fun p (kv : Key × V) => SqT K J p [kV kv.1, kv.2]) qs (kpD ks (l.map Kd.name)) := fun l => by
    induction l with
    | nil => intro qs _ p; cases p; exact .nil
    | cons k r ih =>
      intro qs h p
      cases p with
      | cons e t =>
        refine .cons ?_ (ih _ (fun q m => h q (List.mem_cons_of_mem _ m)) t)
        show SqT K J _ [.str k.name, .int (keepK ks k.name)]
        rw [keepK_at nd (h k List.mem_cons_self)]
        exact SqT.of e
  exact key ks qs (fun _ m => m) pq
section
variable {P : Program} {w : World} {K : PySem.W.Frag} {mg : Str → Option Value} {base : Heap}
abbrev sLlv5 : Stmt := top 35
abbrev nmLlv5 : List Str := ["rulebook", "keeps", "bearing", "found", "name", "keep", "bar", "grounds", "ground", "kind"]
theorem scLlv5 : FnScope nmLlv5 ["rulebook"] (defScope sLlv5) := ⟨rfl, rfl, rfl, by decide +kernel, rfl, by decide +kernel, by decide +kernel⟩
def spLlv5 : Sp := fun vs H Q _ => ∃ (b : Addr) (rows : List Str) (ks : List Kd), vs = [.ref b] ∧ BookAt H b rows ks ∧ BookOk rows ks ∧ ∀ (p : Addr) (as : List Addr) (H' : Hp), Same H H' → H p = none → H' p = some (.lst (as.map V.ref)) → Paired (LgAt H') as (lvp ks) → Q (.ref p) H'
theorem ok_Llv5 {f fL fB : Addr} {fd fdL fdB : FuncData} (F : Fun K "_law_live" "_law_live" sLlv5 f fd) (TC : TxtC mg) (CL : Ct P w K mg base "_law_is_live" 1 ["ground", "keeps", "bearing"] spLil fL fdL) (CB : Ct P w K mg base "_law_bearing" 2 ["rulebook"] spLbe fB fdB) : FnOk P w K mg base CX0 3 f fd ["rulebook"] spLlv5 := by
  refine F.ok scLlv5 (fun vs H Q E h => ?_) (fun cdv A outer s H vs Q E hr h => ?_)
  · obtain ⟨b, rows, ks, rfl, _⟩ := h
    rfl
  · obtain ⟨b, rows, ks, rfl, hA, hO, k⟩ := h
    have u1 := hu_of hr
    have hr1 : Room 1 (A.deeper (envOfC "_law_live" (defScope sLlv5) s.heap.objs.size f cdv)) := hr.mono (by decide)
    refine ⟨_, (pss_cons (ps_asg (pe_tup (pa_cons (pe_callTy (call_dictP rfl) (by rfl) TC.dct (by decide +kernel) (pa_cons (pe_lc (own := [("kind", 9)]) (g := gName 9) (tt := tYes) (te := tTup (tCons (tOp (rIxT K) (tVar 9) (tC (.int 0))) (tCons (tOp (rIxT K) (tVar 9) (tC (.int 1))) tNil))) (by rfl) scLlv5.nd (pi_tup (pe_ix (r := rIxT K) ix_tup (pv 0) pe_int (fun _ _ => rfl)))
          (blkOk_by (own := [("kind", 9)]) (N := nmLlv5) (sc := defScope sLlv5) (by decide +kernel)) (fun _ _ _ _ _ => pg_name (i := 9) scLlv5.nd rfl (Or.inl rfl)) (fun _ _ _ _ _ => pts_nil)
          (fun _ _ _ _ _ => pe_tup (pa_cons (pe_ix (r := rIxT K) ix_tup (pv 9) pe_int (fun _ _ => rfl)) (pa_cons (pe_ix (r := rIxT K) ix_tup (pv 9) pe_int (fun _ _ => rfl)) pa_nil)))) pa_nil)) (pa_cons (pe_call CB.G hr (by rfl) CB.m CB.kp CB.b .nil pass0 (pa_cons (pv 0) pa_nil)) (pa_cons (pe_lst pa_nil) pa_nil))))
          (pg_tup (by rfl) (pgs_cons (pg_name (i := 1) scLlv5.nd rfl (Or.inr rfl)) (pgs_cons (pg_name (i := 2) scLlv5.nd rfl (Or.inr rfl)) (pgs_cons (pg_name (i := 3) scLlv5.nd rfl (Or.inl rfl)) pgs_nil)))))
      (pss_cons (ps_for PassesOwn.never rfl (pi_tup (pe_ix (r := rIxT K) ix_tup (pv 0) pe_int (fun _ _ => rfl))) (pg_tup (by rfl) (pgs_cons (pg_name (i := 4) scLlv5.nd rfl (Or.inr rfl)) (pgs_cons (pg_name (i := 5) scLlv5.nd rfl (Or.inl rfl)) (pgs_cons (pg_name (i := 6) scLlv5.nd rfl (Or.inl rfl)) (pgs_cons (pg_name (i := 7) scLlv5.nd rfl (Or.inl rfl)) pgs_nil)))))
          (pss_one (ps_expr (pe_bm PySem.F.plainAttrs_list PySem.F.slot_list_extend PySem.F.type_list_extend mt_extend (pv 3) (pa_cons (pe_lc (own := [("ground", 8)]) (g := gName 8) (tt := tB (tCall spLil [] E0 (tCons (tVar 8) (tCons (tVar 1) (tCons (tVar 2) tNil))))) (te := tTup (tCons (tVar 4) (tCons (tVar 8) tNil))) (by rfl) scLlv5.nd (pi_tup (pv 7))
              (blkOk_by (own := [("ground", 8)]) (N := nmLlv5) (sc := defScope sLlv5) (by decide +kernel)) (fun _ _ _ _ _ => pg_name (i := 8) scLlv5.nd rfl (Or.inl rfl))
              (fun _ _ _ _ _ => pts_one (pt_val (pe_call CL.G hr1 (by rfl) CL.m CL.kp CL.b .nil pass0 (pa_cons (pv 8) (pa_cons (pv 1) (pa_cons (pv 2) pa_nil)))))) (fun _ _ _ _ _ => pe_tup (pa_cons (pv 4) (pa_cons (pv 8) pa_nil)))) pa_nil)))))
      (pss_one (ps_ret (pv 3))))), ?_⟩
    have sz : ∀ {m : Nat}, m ≤ 900 → m ≤ sizeLine := fun h => Nat.le_of_lt (small1000 (by omega))
    have nd := hO.nm.nd
    have hk5 := hO.k5
    obtain ⟨r, kt, kas, e1, e2, e3, pk⟩ := id hA
    have hlen := paired_len pk
    refine ⟨_, rfl, b, _, 1, .ref kt, rfl, rfl, SqT.of e1, rfl, kt, rfl, ⟨_, SqT.of e3⟩, fun D nD => ?_⟩
    dsimp only [tNil]
    refine go_tup (K := K) (a := kt) (xs := kas.map V.ref) (fun i J => Same H J ∧ ∃ qs : List Addr, J D = some (.lst (qs.map V.ref)) ∧ Paired (fun q (k : Kd) => J q = some (.tup [.str k.name, .int k.keep])) qs (ks.take i)) ?_ ?_ ?_ ?_
    · exact ⟨same_upd nD, [], upd_same, .nil⟩
    · rintro i J _ ⟨SJ, _⟩
      exact SqT.of (SJ _ _ e3)
    · rintro i x J hx ⟨SJ, qs, jD, pq⟩
      rw [List.getElem?_map] at hx
      obtain ⟨ka, ha, rfl⟩ := Option.map_eq_some_iff.mp hx
      obtain ⟨kd, hkd, gt, gas, f1, f2, f3⟩ := paired_at pk ha
      have tk : ks.take (i + 1) = ks.take i ++ [kd] := by rw [List.take_add_one, hkd]; rfl
      have lq := paired_len pq
      rw [List.length_take] at lq
      refine ⟨rfl, tYes_go (iteT ?_)⟩
      refine ⟨_, rfl, ka, _, 0, .str kd.name, rfl, rfl, SqT.of (SJ _ _ f1), rfl, _, rfl, ka, _, 1, .int kd.keep, rfl, rfl, SqT.of (SJ _ _ f1), rfl, sz (by show 2 ≤ 900; decide), fun t nt => ?_⟩
      have St := same_upd (o := .tup [.str kd.name, .int kd.keep]) nt
      have et : upd J t (.tup [.str kd.name, .int kd.keep]) t = some (.tup [.str kd.name, .int kd.keep]) := upd_same
      have jD2 := St _ _ jD
      have S2 := KaG.Same.tr SJ St
      have pq2 := Paired.mono' (fun _ _ e => St _ _ e) pq
      generalize upd J t (.tup [.str kd.name, .int kd.keep]) = J2 at et jD2 S2 pq2 ⊢
      have tsl := ts_lst (ys := qs.map V.ref ++ [V.ref t]) jD2
      refine ⟨_, jD2, small1000 (by rw [List.length_map]; omega), fun b u e => by rw [upd_ne (ne_of_none e nD)]; exact S2 b u e, qs ++ [t], by rw [upd_same, List.map_append]; rfl, ?_⟩
      rw [tk]
      exact paired_app (Paired.mono' (fun _ _ e => tsl _ _ e) pq2) (.cons (tsl _ _ et) .nil)
    · rintro J ⟨SJ, qs, jD, pq⟩
      rw [List.length_map, hlen, List.take_length] at pq
      obtain ⟨pkv, emg⟩ := keeps_read (K := K) nd pq
      refine ⟨D, qs, _, rfl, SqL.of jD, pkv, fun kp nkp => ?_⟩
      rw [emg]
      have Sk := same_upd (o := .dK (kpD ks (nmsOf ks))) nkp
      have ek : upd J kp (.dK (kpD ks (nmsOf ks))) kp = some (.dK (kpD ks (nmsOf ks))) := upd_same
      have S2 := KaG.Same.tr SJ Sk
      generalize upd J kp (.dK (kpD ks (nmsOf ks))) = J2 at ek S2 ⊢
      refine ⟨_, rfl, b, rows, ks, rfl, hA.ts (TSame.of S2), hO, fun bp FB J3 S3 nbp eb _ hFB => ?_⟩
      refine ⟨Nat.zero_le _, fun fp nfp => ⟨sz (by show 3 ≤ 900; decide), fun t nt => ?_⟩⟩
      have Sf := same_upd (o := .lst []) nfp
      have ef0 : upd J3 fp (.lst []) fp = some (.lst []) := upd_same
      have St := same_upd (o := .tup [.ref kp, .ref bp, .ref fp]) nt
      have et : upd (upd J3 fp (.lst [])) t (.tup [.ref kp, .ref bp, .ref fp]) t = some (.tup [.ref kp, .ref bp, .ref fp]) := upd_same
      have S4 := KaG.Same.tr S2 (KaG.Same.tr S3 (KaG.Same.tr Sf St))
      have ek4 := St _ _ (Sf _ _ (S3 _ _ ek))
      have eb4 := St _ _ (Sf _ _ eb)
      have ef4 := St _ _ ef0
      have nfpH : H fp = none := same_non (KaG.Same.tr S2 S3) _ nfp
      generalize upd (upd J3 fp (.lst [])) t (.tup [.ref kp, .ref bp, .ref fp]) = J4 at et S4 ek4 eb4 ef4 ⊢
      refine ⟨t, _, rfl, SqT.of et, rfl, _, _, rfl, _, _, rfl, _, _, rfl, rfl, ?_⟩
      refine ⟨_, rfl, b, _, 1, .ref kt, rfl, rfl, SqT.of (S4 _ _ e1), rfl, kt, rfl, ⟨_, SqT.of (S4 _ _ e3)⟩, for_tup (K := K) (a := kt) (xs := kas.map V.ref) (fun i σ' G => (∃ x4 x5 x6 x7 : Option V, σ' = [some (.ref b), some (.ref kp), some (.ref bp), some (.ref fp), x4, x5, x6, x7, none, none]) ∧ Same H G ∧ G kp = some (.dK (kpD ks (nmsOf ks))) ∧ G bp = some (.dK (kpD ks FB)) ∧ ∃ as : List Addr, G fp = some (.lst (as.map V.ref)) ∧ as.length ≤ 4 * i ∧ Paired (LgAt G) as ((ks.take i).flatMap (lvpK ks))) ?_ ?_ ?_ ?_⟩
      · exact ⟨⟨_, _, _, _, rfl⟩, S4, ek4, eb4, [], ef4, Nat.le_refl _, .nil⟩
      · rintro i σ' G _ ⟨_, SG, _⟩
        exact SqT.of (SG _ _ e3)
      · rintro i v σ' G hv ⟨⟨x4, x5, x6, x7, rfl⟩, SG, ekG, ebG, as, efG, las, pas⟩
        rw [List.getElem?_map] at hv
        obtain ⟨ka, ha, rfl⟩ := Option.map_eq_some_iff.mp hv
        obtain ⟨kd, hkd, gt, gas, f1, f2, f3⟩ := paired_at pk ha
        have hi := (List.getElem?_eq_some_iff.mp ha).1
        have mk := List.mem_of_getElem? hkd
        have g4 := (hO.num kd mk).2.2.2.2
        have hgl := paired_len f3
        have tk : ks.take (i + 1) = ks.take i ++ [kd] := by rw [List.take_add_one, hkd]; rfl
        refine ⟨ka, _, rfl, SqT.of (SG _ _ f1), rfl, _, _, rfl, _, _, rfl, _, _, rfl, _, _, rfl, rfl, ?_⟩
        refine ⟨_, rfl, .inl ⟨rfl, _, SqL.of efG⟩, ?_⟩
        refine ⟨_, rfl, gt, rfl, ⟨_, SqT.of (SG _ _ f2)⟩, fun D2 nD2 => ?_⟩
        dsimp only [tNil]
        have fD2 : fp ≠ D2 := fun z => by rw [z, nD2] at efG; cases efG
        let gp : Gr → Str × Gr := fun g => (kd.name, g)
        refine go_tup (K := K) (a := gt) (xs := gas.map V.ref) (fun q G2 => Same G G2 ∧ ∃ ts : List Addr, G2 D2 = some (.lst (ts.map V.ref)) ∧ Paired (LgAt G2) ts (((kd.gs.take q).filter (grLive ks (bearOf ks))).map gp)) ?_ ?_ ?_ ?_
        · exact ⟨same_upd nD2, [], upd_same, .nil⟩
        · rintro q G2 _ ⟨SG2, _⟩
          exact SqT.of (SG2 _ _ (SG _ _ f2))
        · rintro q x G2 hx ⟨SG2, ts, gD, pt⟩
          rw [List.getElem?_map] at hx
          obtain ⟨ga, hga, rfl⟩ := Option.map_eq_some_iff.mp hx
          obtain ⟨g, hg, eG⟩ := paired_at f3 hga
          have mg' := List.mem_of_getElem? hg
          have hq := (List.getElem?_eq_some_iff.mp hg).1
          obtain ⟨g0, g3, gn⟩ := hO.grd kd mk g mg'
          have tk2 : kd.gs.take (q + 1) = kd.gs.take q ++ [g] := by rw [List.take_add_one, hg]; rfl
          have la := paired_len pt
          rw [List.length_map] at la
          have lf := List.length_filter_le (grLive ks (bearOf ks)) (kd.gs.take q)
          rw [List.length_take] at lf
          have SHG2 := KaG.Same.tr SG SG2
          have eG2 := Grd.ts eG (TSame.of SHG2)
          refine ⟨rfl, ?_⟩
          refine ⟨_, rfl, _, rfl, _, rfl, ga, kp, bp, rows, ks, g, FB, rfl, hO, eG2, gn, g3, SG2 _ _ ekG, SG2 _ _ ebG, fun G3 S3 => ⟨_, rfl, ?_⟩⟩
          have S23 := KaG.Same.tr SG2 S3
          rw [grLive_eq hFB g]
          refine ite2 (fun hb => ?_) fun hb => ?_
          · refine ⟨_, rfl, _, rfl, sz (by show 2 ≤ 900; decide), fun t2 nt2 => ?_⟩
            have St2 := same_upd (o := .tup [.str kd.name, .ref ga]) nt2
            have et2 : upd G3 t2 (.tup [.str kd.name, .ref ga]) t2 = some (.tup [.str kd.name, .ref ga]) := upd_same
            have gD3 := St2 _ _ (S3 _ _ gD)
            have S24 := KaG.Same.tr S23 St2
            have S34 := KaG.Same.tr S3 St2
            have eG4 := Grd.ts eG2 (TSame.of S34)
            have pt4 := Paired.mono' (fun _ _ e => LgAt.ts e (TSame.of S34)) pt
            generalize upd G3 t2 (.tup [.str kd.name, .ref ga]) = G4 at et2 gD3 S24 eG4 pt4 ⊢
            have tsl := ts_lst (ys := ts.map V.ref ++ [V.ref t2]) gD3
            refine ⟨_, gD3, small1000 (by rw [List.length_map]; omega), fun b u e => by rw [upd_ne (ne_of_none e nD2)]; exact S24 b u e, ts ++ [t2], by rw [upd_same, List.map_append]; rfl, ?_⟩
            rw [tk2, List.filter_append, List.filter_cons_of_pos hb, List.filter_nil, List.map_append]
            exact paired_app (Paired.mono' (fun _ _ e => LgAt.ts e tsl) pt4) (.cons ⟨ga, tsl _ _ et2, Grd.ts eG4 tsl⟩ .nil)
          · refine ⟨S23, ts, S3 _ _ gD, ?_⟩
            rw [tk2, List.filter_append, List.filter_cons_of_neg hb, List.filter_nil, List.append_nil]
            exact Paired.mono' (fun _ _ e => LgAt.ts e (TSame.of S3)) pt
        · rintro G2 ⟨SG2, ts, gD, pt⟩
          rw [List.length_map, hgl, List.take_length] at pt
          have la := paired_len pt
          rw [List.length_map] at la
          have lf := List.length_filter_le (grLive ks (bearOf ks)) kd.gs
          have efG2 := SG2 _ _ efG
          have tsl := ts_lst (ys := as.map V.ref ++ ts.map V.ref) efG2
          refine ⟨fp, D2, _, _, rfl, rfl, efG2, gD, sz (by rw [List.length_map, List.length_map]; omega), ⟨_, _, _, _, rfl⟩, ?_, ?_, ?_, as ++ ts, by rw [upd_same, List.map_append], by rw [List.length_append]; omega, ?_⟩
          · exact fun b u e => by rw [upd_ne (ne_of_none e nfpH)]; exact SG2 b u (SG b u e)
          · rw [upd_ne (fun z => by rw [← z, ekG] at efG; cases efG)]; exact SG2 _ _ ekG
          · rw [upd_ne (fun z => by rw [← z, ebG] at efG; cases efG)]; exact SG2 _ _ ebG
          · rw [tk, List.flatMap_append]
            have e : [kd].flatMap (lvpK ks) = (kd.gs.filter (grLive ks (bearOf ks))).map gp := by simp [lvpK, gp]
            rw [e]
            exact paired_app (Paired.mono' (fun _ _ e => LgAt.ts (LgAt.ts e (TSame.of SG2)) tsl) pas) (Paired.mono' (fun _ _ e => LgAt.ts e tsl) pt)
      · rintro σ' G ⟨⟨x4, x5, x6, x7, rfl⟩, SG, ekG, ebG, as, efG, las, pas⟩
        rw [List.length_map, hlen, List.take_length] at pas
        exact ⟨_, rfl, k fp as G SG nfpH efG pas⟩
end
end KaG
set_option maxRecDepth 100000
set_option maxHeartbeats 4000000
namespace KaG
open PySem PySem.Spec PyProof.Rows L2 KaC KaN LamX NdefX
abbrev LedAt (H : Hp) (l : Addr) (its : List (List V)) : Prop := ∃ as : List Addr, H l = some (.lst (as.map V.ref)) ∧ NdsAt H as its
theorem LedAt.same {H H' : Hp} {l : Addr} {its : List (List V)} (h : LedAt H l its) (s : Same H H') : LedAt H' l its := by
  obtain ⟨as, e, p⟩ := h
  exact ⟨as, s _ _ e, Paired.mono' (fun _ _ q => s _ _ q) p⟩
theorem LedAt.up {H : Hp} {l D : Addr} {its : List (List V)} {xs ys : List V} (h : LedAt H l its) (n : l ≠ D) (e : H D = some (.lst xs)) : LedAt (upd H D (.lst ys)) l its := by
  obtain ⟨as, e1, p⟩ := h
  exact ⟨as, by rw [upd_ne n]; exact e1, Paired.mono' (fun _ _ q => ts_lst e _ _ q) p⟩
theorem led_split {H : Hp} : ∀ {ls : List Addr} {itss : List (List (List V))}, Paired (LedAt H) ls itss → ∃ ass : List (List Addr), Paired (fun l (as : List Addr) => H l = some (.lst (as.map V.ref))) ls ass ∧ NdsAt H ass.flatten itss.flatten
  | _, _, .nil => ⟨[], .nil, .nil⟩
  | _, _, .cons h t => by
    obtain ⟨as, e, p⟩ := h
    obtain ⟨ass, h1, h2⟩ := led_split t
    exact ⟨as :: ass, .cons e h1, by rw [List.flatten_cons, List.flatten_cons]; exact paired_app p h2⟩
theorem paired_flatK {α : Type} {R : α → List (List V) → Prop} {q : List (List V) → List (List V)} : ∀ {xss : List (List α)} {ks : List Kd}, Paired (fun (xs : List α) (k : Kd) => Paired R xs (k.gs.map q)) xss ks → Paired R xss.flatten (ks.flatMap fun k => k.gs.map q)
  | _, _, .nil => .nil
  | _, _, .cons a r => by
    rw [List.flatten_cons, List.flatMap_cons]
    exact paired_app a (paired_flatK r)
theorem flat_nds {ks : List Kd} {S : List Str} : (ks.flatMap fun k => k.gs.map fun g => g.filter (ndTh S)).flatten = ks.flatMap (ndsK S) := by
  induction ks with
  | nil => rfl
  | cons k r ih =>
    rw [List.flatMap_cons, List.flatMap_cons, List.flatten_append, ih]
    rfl
theorem intsD_dp {K : PySem.W.Frag} {H : Hp} : ∀ (xs : List Int), DpAll K H (xs.map V.int) (xs.map PyData.int) ∧ (∀ d ∈ xs.map PyData.int, d.canLay0 = true) ∧ PyData.depthAll (xs.map PyData.int) ≤ 1
  | [] => ⟨.nil, (fun _ z => nomatch z), by simp [PyData.depthAll]⟩
  | i :: r => by
    obtain ⟨h1, h2, h3⟩ := intsD_dp (K := K) (H := H) r
    refine ⟨.cons (.int i) h1, fun d m => ?_, by show max _ _ ≤ 1; exact Nat.max_le.mpr ⟨by simp [PyData.depth], h3⟩⟩
    rcases List.mem_cons.mp m with c | c
    · rw [c]; simp [PyData.canLay0]
    · exact h2 d c
theorem ints_ne {K : PySem.W.Frag} {H : Hp} {l z : Addr} {xs : List Int} {Q : VK} (el : H l = some (.lst (xs.map V.int))) (ez : H z = some (.lst [])) (k : Q (.bl (!decide (xs.length = 0))) H) : rNeD K (.ref l) (.ref z) H Q := by
  obtain ⟨h1, h2, h3⟩ := intsD_dp (K := K) (H := H) xs
  refine ⟨.list (xs.map PyData.int), .list [], .lst (SqL.of el) h1, .lst (SqL.of ez) .nil, shaped_list h2 (by omega), shaped_list (fun _ z => (by cases z)) (by simp [PyData.depthAll]), ?_⟩
  rw [eqv_empty, List.length_map]
  exact k
theorem late_any {afs : List Int} {q : Int → Bool} : (!decide ((afs.filter q).length = 0)) = afs.any q := by
  cases c : afs.any q with
  | true =>
    obtain ⟨g, m, h⟩ := List.any_eq_true.mp c
    rw [decide_eq_false (fun z => by
      rw [List.length_eq_zero_iff, List.filter_eq_nil_iff] at z
      exact z g m h)]
    rfl
  | false =>
    rw [decide_eq_true]
    · rfl
    · rw [List.length_eq_zero_iff, List.filter_eq_nil_iff]
      intro g m h
      have := List.any_eq_true.mpr ⟨g, m, h⟩
      rw [c] at this
      cases this
theorem nds_any {N : List (List V)} : (!decide ((N.filter fun it => !decide (ndMost it = 9)).length = 0)) = !(N.all fun it => decide (ndMost it = 9)) := by
  cases c : N.all fun it => decide (ndMost it = 9) with
  | true =>
    have e : decide ((N.filter fun it => !decide (ndMost it = 9)).length = 0) = true := decide_eq_true (by
      rw [List.length_eq_zero_iff, List.filter_eq_nil_iff]
      intro it m h
      rw [List.all_eq_true.mp c it m] at h
      cases h)
    rw [e]
  | false =>
    have e : decide ((N.filter fun it => !decide (ndMost it = 9)).length = 0) = false := decide_eq_false (by
      intro z
      rw [List.length_eq_zero_iff, List.filter_eq_nil_iff] at z
      have : (N.all fun it => decide (ndMost it = 9)) = true := List.all_eq_true.mpr fun it m => by
        cases q : decide (ndMost it = 9) with
        | true => rfl
        | false => exact absurd (by rw [q]; rfl) (z it m)
      rw [c] at this
      cases this)
    rw [e]
theorem afs_snoc {us : List (List V)} {it : List V} {n m : Str} {a : Int} (h : ndWait it = some (m, a)) : afsOf (us ++ [it]) n = afsOf us n ++ if m = n then [a] else [] := by
  unfold afsOf
  rw [List.filterMap_append, List.filterMap_append]
  congr 1
  rw [List.filterMap_cons_some (f := ndWait) h]
  by_cases c : m = n
  · rw [if_pos c]
    exact List.filterMap_cons_some (if_pos c)
  · rw [if_neg c]
    exact List.filterMap_cons_none (if_neg c)
theorem afs_len {us : List (List V)} {n : Str} : (afsOf us n).length ≤ us.length := Nat.le_trans (List.length_filterMap_le ..) (List.length_filterMap_le ..)
section
variable {P : Program} {w : World} {K : PySem.W.Frag} {mg : Str → Option Value} {base : Heap}
abbrev sLtm : Stmt := top 39
abbrev nmLtm : List Str := ["rulebook", "struck", "needs", "kind", "ground", "need", "keeps", "live", "used", "row", "name", "afters", "late", "after"]
theorem scLtm : FnScope nmLtm ["rulebook", "struck"] (defScope sLtm) := ⟨rfl, rfl, rfl, by decide +kernel, rfl, by decide +kernel, by decide +kernel⟩
abbrev scLtm1 : Scope := { kind := .function, names := [(".0", .local), ("kind", .local), ("struck", .cell)], isGenerator := false, isCoroutine := false, more := [] }
def spLtm : Sp := fun vs H Q _ => ∃ (b sa : Addr) (rows : List Str) (ks : List Kd) (S : List Str), vs = [.ref b, .ref sa] ∧ BookAt H b rows ks ∧ BookOk rows ks ∧ Sq2 H sa (S.map V.str) ∧ ∀ H', Same H H' → Q (.bl (timedB ks S)) H'
theorem ok_Ltm {f fI fL fF fV : Addr} {fd fdI fdL fdF fdV : FuncData} (F : Fun K "_law_is_timed" "_law_is_timed" sLtm f fd) (TC : TxtC mg) (hlist : mg "list" = none) (CI : Ct P w K mg base "_law_is_threaded" 2 ["rulebook", "struck"] spIth fI fdI) (CL : Ct P w K mg base "_law_led_needs" 1 ["ground", "struck"] spLed fL fdL)
    (CF : Ct P w K mg base "_law_flat" 1 ["rows"] spFl fF fdF) (CV : Ct P w K mg base "_law_live" 3 ["rulebook"] spLlv5 fV fdV) : FnOk P w K mg base CX0 4 f fd ["rulebook", "struck"] spLtm := by
  refine F.ok scLtm (fun vs H Q E h => ?_) (fun cdv A outer s H vs Q E hr h => ?_)
  · obtain ⟨b, sa, rows, ks, S, rfl, _⟩ := h
    rfl
  · obtain ⟨b, sa, rows, ks, S, rfl, hA, hO, hS, k⟩ := h
    have u1 := hu_of hr
    have hu : (A.deeper (envOfC "_law_is_timed" (defScope sLtm) s.heap.objs.size f cdv)).units + 64 < cLine := hr.units
    have hr2 : Room 2 (A.deeper (envOfC "_law_is_timed" (defScope sLtm) s.heap.objs.size f cdv)) := hr.mono (by decide)
    have hr1 : Room 1 (A.deeper (envOfC "_law_is_timed" (defScope sLtm) s.heap.objs.size f cdv)) := hr.mono (by decide)
    refine ⟨_, (pss_cons (ps_if (pt_not (pt_val (pe_call CI.G hr2 (by rfl) CI.m CI.kp CI.b .nil pass0 (pa_cons (pv 0) (pa_cons (pv 1) pa_nil))))) (pss_one (ps_ret pe_bl)) pss_nil)
      (pss_cons (ps_set (i := 2) scLtm.nd rfl (Or.inl rfl) (pe_call CF.G hr1 (by rfl) CF.m CF.kp CF.b .nil pass0 (pa_cons (pe_call CF.G hr1 (by rfl) CF.m CF.kp CF.b .nil pass0 (pa_cons
          (pe_lc (own := [("kind", 3), ("ground", 4)]) (g := gName 3) (tt := tYes) (te := tLc (iTup K (tOp (rIxT K) (tVar 3) (tC (.int 3)))) (gName 4) tYes (tCall spLed [] E0 (tCons (tVar 4) (tCons (tVar 1) tNil))) [4]) (by rfl) scLtm.nd (pi_tup (pe_ix (r := rIxT K) ix_tup (pv 0) pe_int (fun _ _ => rfl)))
            (blkOk_by (own := [("kind", 3), ("ground", 4)]) (N := nmLtm) (sc := defScope sLtm) (by decide +kernel)) (fun _ _ _ _ _ => pg_name (i := 3) scLtm.nd rfl (Or.inl rfl)) (fun _ _ _ _ _ => pts_nil)
            (fun _ _ _ _ _ => pe_lc (own := [("ground", 4)]) (g := gName 4) (wi := iTup K (tOp (rIxT K) (tVar 3) (tC (.int 3)))) (tt := tYes) (te := tCall spLed [] E0 (tCons (tVar 4) (tCons (tVar 1) tNil))) (by rfl) scLtm.nd (pi_tup (pe_ix (r := rIxT K) ix_tup (pv 3) pe_int (fun _ _ => rfl)))
              (blkOk_by (own := [("ground", 4)]) (N := nmLtm) (sc := scLtm1) (by decide +kernel)) (fun _ _ _ _ _ => pg_name (i := 4) scLtm.nd rfl (Or.inl rfl)) (fun _ _ _ _ _ => pts_nil)
              (fun _ _ _ _ _ => pe_call CL.G hr1 (by rfl) CL.m CL.kp CL.b .nil pass0 (pa_cons (pv 4) (pa_cons (pv 1) pa_nil))))) pa_nil)) pa_nil)))
      (pss_cons (ps_if (pt_cmpR (r := rNeD K) (op_neD hu) (pe_lc (own := [("need", 5)]) (g := gName 5) (tt := tTest (tOp rNe (tOp (rIxT K) (tVar 5) (tUn (rU fun i => V.int (-i)) (tC (.int 1)))) (tC (.int 9)))) (te := tVar 5) (by rfl) scLtm.nd (pi_list (pv 2))
          (blkOk_by (own := [("need", 5)]) (N := nmLtm) (sc := defScope sLtm) (by decide +kernel)) (fun _ _ _ _ _ => pg_name (i := 5) scLtm.nd rfl (Or.inl rfl))
          (fun _ _ _ _ _ => pts_one (pt_cmpR (r := rNe) op_ne (pe_ix (r := rIxT K) ix_tup (pv 5) (pe_un un_neg pe_int) (fun _ _ => rfl)) pe_int (nomark _))) (fun _ _ _ _ _ => pv 5)) (pe_lst pa_nil) (nomark _)) (pss_one (ps_ret pe_bl)) pss_nil)
      (pss_cons (ps_asg (pe_tup (pa_cons (pe_callTy (call_dictP rfl) (by rfl) TC.dct (by decide +kernel) (pa_cons (pe_lc (own := [("kind", 3)]) (g := gName 3) (tt := tYes) (te := tTup (tCons (tOp (rIxT K) (tVar 3) (tC (.int 0))) (tCons (tOp (rIxT K) (tVar 3) (tC (.int 1))) tNil))) (by rfl) scLtm.nd (pi_tup (pe_ix (r := rIxT K) ix_tup (pv 0) pe_int (fun _ _ => rfl)))
          (blkOk_by (own := [("kind", 3)]) (N := nmLtm) (sc := defScope sLtm) (by decide +kernel)) (fun _ _ _ _ _ => pg_name (i := 3) scLtm.nd rfl (Or.inl rfl)) (fun _ _ _ _ _ => pts_nil)
          (fun _ _ _ _ _ => pe_tup (pa_cons (pe_ix (r := rIxT K) ix_tup (pv 3) pe_int (fun _ _ => rfl)) (pa_cons (pe_ix (r := rIxT K) ix_tup (pv 3) pe_int (fun _ _ => rfl)) pa_nil)))) pa_nil)) (pa_cons (pe_call CV.G hr (by rfl) CV.m CV.kp CV.b .nil pass0 (pa_cons (pv 0) pa_nil)) pa_nil)))
          (pg_tup (by rfl) (pgs_cons (pg_name (i := 6) scLtm.nd rfl (Or.inr rfl)) (pgs_cons (pg_name (i := 7) scLtm.nd rfl (Or.inl rfl)) pgs_nil))))
      (pss_cons (ps_setLc (i := 8) (own := [("need", 5)]) (g := gName 5) (tt := tTest (tOp rEq (tOp (rIxT K) (tVar 5) (tC (.int 0))) (tC (.str "kind")))) (te := tVar 5) (by rfl) scLtm.nd rfl rfl (sw_true rfl rfl rfl (by decide +kernel)) (pi_list (pe_call CF.G hr1 (by rfl) CF.m CF.kp CF.b .nil pass0 (pa_cons
            (pe_lc (own := [("row", 9)]) (g := gName 9) (tt := tYes) (te := tCB (rLstOf K) (tCons (tOp (rIxT K) (tVar 9) (tC (.int 1))) tNil)) (by rfl) scLtm.nd (pi_list (pv 7))
              (blkOk_by (own := [("row", 9)]) (N := nmLtm) (sc := defScope sLtm) (by decide +kernel)) (fun _ _ _ _ _ => pg_name (i := 9) scLtm.nd rfl (Or.inl rfl)) (fun _ _ _ _ _ => pts_nil)
              (fun _ _ _ _ _ => pe_callTy (T := "list") (r := rLstOf K) call_lstOf (by rfl) hlist (by decide +kernel) (pa_cons (pe_ix (r := rIxT K) ix_tup (pv 9) pe_int (fun _ _ => rfl)) pa_nil))) pa_nil)))
          (blkOk_by (own := [("need", 5)]) (N := nmLtm) (sc := defScope sLtm) (by decide +kernel)) (fun _ _ _ _ _ => pg_name (i := 5) scLtm.nd rfl (Or.inl rfl))
          (fun _ _ _ _ _ => pts_one (pt_cmpR (r := rEq) op_eq (pe_ix (r := rIxT K) ix_tup (pv 5) pe_int (fun _ _ => rfl)) pe_str (nomark _))) (fun _ _ _ _ _ => pv 5))
      (pss_cons (ps_for PassesOwn.never rfl (pi_list (pv 7)) (pg_tup (by rfl) (pgs_cons (pg_name (i := 10) scLtm.nd rfl (Or.inr rfl)) (pgs_cons (pg_name (i := 4) scLtm.nd rfl (Or.inl rfl)) pgs_nil)))
        (pss_cons (ps_setLc (i := 11) (own := [("need", 5)]) (g := gName 5) (tt := tTest (tOp rEq (tOp (rIxT K) (tVar 5) (tC (.int 1))) (tVar 10))) (te := tOp (rIxT K) (tVar 5) (tC (.int 2))) (by rfl) scLtm.nd rfl rfl (sw_true rfl rfl rfl (by decide +kernel)) (pi_list (pv 8))
            (blkOk_by (own := [("need", 5)]) (N := nmLtm) (sc := defScope sLtm) (by decide +kernel)) (fun _ _ _ _ _ => pg_name (i := 5) scLtm.nd rfl (Or.inl rfl))
            (fun _ _ _ _ _ => pts_one (pt_cmpR (r := rEq) op_eq (pe_ix (r := rIxT K) ix_tup (pv 5) pe_int (fun _ _ => rfl)) (pv 10) (nomark _))) (fun _ _ _ _ _ => pe_ix (r := rIxT K) ix_tup (pv 5) pe_int (fun _ _ => rfl)))
        (pss_one (ps_for PassesOwn.never rfl (pi_list (pe_call CL.G hr1 (by rfl) CL.m CL.kp CL.b .nil pass0 (pa_cons (pv 4) (pa_cons (pv 1) pa_nil)))) (pg_name (i := 5) scLtm.nd rfl (Or.inr rfl))
          (pss_cons (ps_setLc (i := 12) (own := [("after", 13)]) (g := gName 13) (te := tVar 13) (by rfl) scLtm.nd rfl rfl (sw_true rfl rfl rfl (by decide +kernel)) (pi_list (pv 11))
              (blkOk_by (own := [("after", 13)]) (N := nmLtm) (sc := defScope sLtm) (by decide +kernel)) (fun _ _ _ _ _ => pg_name (i := 13) scLtm.nd rfl (Or.inl rfl))
              (fun _ _ _ _ _ => pts_one (PW.pt (pw_or (PW.pt (pw_and (pt_cmpR (r := rI0 fun i j => V.bl (decide (j < i))) op_gt (pv 13) (pe_ix (r := rIxT K) ix_tup (pv 5) (pe_un un_neg pe_int) (fun _ _ => rfl)) (nomark _))
                  (pw_and1 (pt_cmpR (r := rEq) op_eq (pe_ix (r := rIxT K) ix_tup (pv 5) pe_int (fun _ _ => rfl)) pe_str (nomark _)))))
                (pw_or1 (pt_cmpR (r := rI0 fun i j => V.bl (decide (j ≤ i))) op_ge (pv 13) (pe_dget u1 (pv 6) (pv 10) (fun _ _ => rfl)) (nomark _)))))) (fun _ _ _ _ _ => pv 13))
          (pss_one (ps_if (PW.pt (pw_or (pt_cmpR (r := rI0 fun i j => V.bl (decide (i ≤ j))) op_le (pe_dget u1 (pv 6) (pv 10) (fun _ _ => rfl)) (pe_ix (r := rIxT K) ix_tup (pv 5) (pe_un un_neg pe_int) (fun _ _ => rfl)) (nomark _))
            (pw_or1 (pt_cmpR (r := rNeD K) (op_neD hu) (pv 12) (pe_lst pa_nil) (nomark _))))) (pss_one (ps_ret pe_bl)) pss_nil)))))))
      (pss_one (ps_ret pe_bl)))))))), ?_⟩
    have sz : ∀ {m : Nat}, m ≤ 900 → m ≤ sizeLine := fun h => Nat.le_of_lt (small1000 (by omega))
    have nd := hO.nm.nd
    have hk5 := hO.k5
    have decI : ∀ i j : Int, decide (V.int i = V.int j) = decide (i = j) := fun i j => decide_eq_decide.mpr ⟨fun e => by injection e, fun e => by rw [e]⟩
    have decS : ∀ i j : Str, decide (V.str i = V.str j) = decide (i = j) := fun i j => decide_eq_decide.mpr ⟨fun e => by injection e, fun e => by rw [e]⟩
    have kf : ∀ H', Same H H' → timedB ks S = false → Q (.bl false) H' := fun H' X e => by
      have q := k H' X
      rw [e] at q
      exact q
    refine ⟨_, rfl, _, rfl, b, sa, rows, ks, S, rfl, hA, hO, hS, fun H1 S1 => ⟨_, rfl, ?_⟩⟩
    by_cases hth : thB ks S = true
    rotate_left
    · rw [eq_false_of_ne_true hth]
      exact iteD rfl (kf H1 S1 (by unfold timedB; rw [eq_false_of_ne_true hth]; rfl))
    rw [hth]
    refine iteDF rfl ?_
    obtain ⟨_, n20⟩ := thr_le hO hth
    have hA1 := hA.ts (TSame.of S1)
    have hS1 := hS.same S1
    obtain ⟨r, kt, kas, e1, e2, e3, pk⟩ := id hA1
    have hlen := paired_len pk
    let ft : List (List V) → List (List V) := fun g => g.filter (ndTh S)
    refine ⟨_, rfl, b, _, 1, .ref kt, rfl, rfl, SqT.of e1, rfl, kt, rfl, ⟨_, SqT.of e3⟩, fun D nD => ?_⟩
    dsimp only [tNil]
    refine go_tup (K := K) (a := kt) (xs := kas.map V.ref) (fun i J => Same H1 J ∧ ∃ (qs : List Addr) (lss : List (List Addr)), J D = some (.lst (qs.map V.ref)) ∧ (∀ q ∈ qs, q ≠ D) ∧ (∀ ls ∈ lss, ∀ l ∈ ls, l ≠ D) ∧ Paired (fun q (ls : List Addr) => J q = some (.lst (ls.map V.ref))) qs lss ∧ Paired (fun (ls : List Addr) (k : Kd) => Paired (LedAt J) ls (k.gs.map ft)) lss (ks.take i)) ?_ ?_ ?_ ?_
    · exact ⟨same_upd nD, [], [], upd_same, (fun _ z => nomatch z), (fun _ z => nomatch z), .nil, .nil⟩
    · rintro i J _ ⟨SJ, _⟩
      exact SqT.of (SJ _ _ e3)
    · rintro i x J hx ⟨SJ, qs, lss, jD, nqs, nls, pq, px⟩
      rw [List.getElem?_map] at hx
      obtain ⟨ka, ha, rfl⟩ := Option.map_eq_some_iff.mp hx
      obtain ⟨kd, hkd, gt, gas, f1, f2, f3⟩ := paired_at pk ha
      have mk := List.mem_of_getElem? hkd
      have hi := (List.getElem?_eq_some_iff.mp ha).1
      have hgl := paired_len f3
      have g4 := (hO.num kd mk).2.2.2.2
      have tk : ks.take (i + 1) = ks.take i ++ [kd] := by rw [List.take_add_one, hkd]; rfl
      have lq := paired_len pq
      have lx := paired_len px
      rw [List.length_take] at lx
      refine ⟨rfl, tYes_go (iteT ?_)⟩
      refine ⟨_, rfl, ka, _, 3, .ref gt, rfl, rfl, SqT.of (SJ _ _ f1), rfl, gt, rfl, ⟨_, SqT.of (SJ _ _ f2)⟩, fun D2 nD2 => ?_⟩
      dsimp only [tNil]
      have D2D : D2 ≠ D := fun z => by rw [z, jD] at nD2; cases nD2
      refine go_tup (K := K) (a := gt) (xs := gas.map V.ref) (fun u G => Same J G ∧ ∃ ls : List Addr, G D2 = some (.lst (ls.map V.ref)) ∧ (∀ l ∈ ls, l ≠ D2 ∧ l ≠ D) ∧ Paired (LedAt G) ls ((kd.gs.take u).map ft)) ?_ ?_ ?_ ?_
      · exact ⟨same_upd nD2, [], upd_same, (fun _ z => nomatch z), .nil⟩
      · rintro u G _ ⟨SG, _⟩
        exact SqT.of (SG _ _ (SJ _ _ f2))
      · rintro u x G hx ⟨SG, ls, gD, nl, pl⟩
        rw [List.getElem?_map] at hx
        obtain ⟨ga, hga, rfl⟩ := Option.map_eq_some_iff.mp hx
        obtain ⟨g, hg, eG⟩ := paired_at f3 hga
        have mg' := List.mem_of_getElem? hg
        have hu' := (List.getElem?_eq_some_iff.mp hg).1
        obtain ⟨g0, g3, gn⟩ := hO.grd kd mk g mg'
        have tk2 : kd.gs.take (u + 1) = kd.gs.take u ++ [g] := by rw [List.take_add_one, hg]; rfl
        have ll := paired_len pl
        rw [List.length_map, List.length_take] at ll
        have SHG := KaG.Same.tr SJ SG
        refine ⟨rfl, tYes_go (iteT ?_)⟩
        refine ⟨_, rfl, _, rfl, ga, sa, S, g, rows, nmsOf ks, rfl, hS1.same SHG, Grd.ts eG (TSame.of SHG), gn, g3, fun p as G3 S3 np ep pa => ?_⟩
        have pD2 : p ≠ D2 := fun z => by rw [z, gD] at np; cases np
        have pD : p ≠ D := fun z => by have h0 := SG _ _ jD; rw [← z, np] at h0; cases h0
        have gD3 := S3 _ _ gD
        have S23 := KaG.Same.tr SG S3
        refine ⟨_, gD3, small1000 (by rw [List.length_map]; omega), fun b u e => by rw [upd_ne (ne_of_none e nD2)]; exact S23 b u e, ls ++ [p], by rw [upd_same, List.map_append]; rfl, fun l m => ?_, ?_⟩
        · rcases List.mem_append.mp m with z | z
          · exact nl l z
          · rw [List.mem_singleton.mp z]; exact ⟨pD2, pD⟩
        · rw [tk2, List.map_append]
          refine paired_app (paired_inL (fun l its m e => (LedAt.same e S3).up (nl l m).1 gD3) pl) (.cons ?_ .nil)
          exact LedAt.up ⟨as, ep, pa⟩ pD2 gD3
      · rintro G ⟨SG, ls, gD, nl, pl⟩
        rw [List.length_map, hgl, List.take_length] at pl
        have jDG := SG _ _ jD
        have SJ2 := KaG.Same.tr SJ SG
        refine ⟨_, jDG, small1000 (by rw [List.length_map]; omega), fun b u e => by rw [upd_ne (ne_of_none e nD)]; exact SJ2 b u e, qs ++ [D2], lss ++ [ls], by rw [upd_same, List.map_append]; rfl, fun q m => ?_, fun l2 m => ?_, ?_, ?_⟩
        · rcases List.mem_append.mp m with z | z
          · exact nqs q z
          · rw [List.mem_singleton.mp z]; exact D2D
        · rcases List.mem_append.mp m with z | z
          · exact nls l2 z
          · rw [List.mem_singleton.mp z]; exact fun l ml => (nl l ml).2
        · exact paired_app (paired_inL (fun a xs m e => by rw [upd_ne (nqs a m)]; exact SG _ _ e) pq) (.cons (by rw [upd_ne D2D]; exact gD) .nil)
        · rw [tk]
          exact paired_app (paired_inL (fun l2 k2 m e => paired_inL (fun l its m2 e2 => (LedAt.same e2 SG).up (nls l2 m l m2) jDG) e) px) (.cons (paired_inL (fun l its m2 e2 => LedAt.up e2 (nl l m2).2 jDG) pl) .nil)
    · rintro J ⟨SJ, qs, lss, jD, nqs, nls, pq, px⟩
      rw [List.length_map, hlen, List.take_length] at px
      have pf := paired_flatK (q := ft) px
      have lf := paired_len pf
      have l20 : (ks.flatMap fun k => k.gs.map ft).length ≤ 20 := by
        have : ∀ l : List Kd, (∀ k ∈ l, k.gs.length ≤ 4) → (l.flatMap fun k => k.gs.map ft).length ≤ 4 * l.length := fun l => by
          induction l with
          | nil => exact fun _ => Nat.le_refl _
          | cons k r ih =>
            intro h
            have h1 := h k List.mem_cons_self
            have h2 := ih fun q m => h q (List.mem_cons_of_mem _ m)
            rw [List.flatMap_cons, List.length_append, List.length_cons, List.length_map]
            omega
        have := this ks fun k m => (hO.num k m).2.2.2.2
        omega
      have efl : ∀ lss : List (List Addr), (lss.map fun xs => xs.map V.ref).flatten = lss.flatten.map V.ref := fun lss => by rw [List.map_flatten]
      refine ⟨D, qs, lss.map fun xs => xs.map V.ref, rfl, jD, paired_mapR pq, by rw [efl, List.length_map]; omega, fun p1 J1 S2 np1 ep1 => ?_⟩
      rw [efl] at ep1
      obtain ⟨ass, ha1, ha2⟩ := led_split (Paired.mono' (fun _ _ e => LedAt.same e S2) pf)
      rw [flat_nds] at ha2
      have la2 := paired_len ha2
      refine ⟨p1, lss.flatten, ass.map fun xs => xs.map V.ref, rfl, ep1, paired_mapR ha1, by rw [efl, List.length_map]; omega, fun p2 J2 S3 np2 ep2 => ?_⟩
      rw [efl] at ep2
      have pN := Paired.mono' (fun _ _ e => S3 _ _ e) ha2
      have SH2 := KaG.Same.tr S1 (KaG.Same.tr SJ (KaG.Same.tr S2 S3))
      have inN : ∀ it ∈ ks.flatMap (ndsK S), NeedV rows (nmsOf ks) it := fun it m => nds_in hO m
      generalize hN : ks.flatMap (ndsK S) = N at pN n20 inN la2
      generalize ass.flatten = nas at ep2 pN la2
      -- all for good
      refine ⟨_, rfl, p2, rfl, ⟨_, SqL.of ep2⟩, fun D3 nD3 => ?_⟩
      dsimp only [tNil]
      let gB : List V → Bool := fun it => !decide (ndMost it = 9)
      refine go_list (K := K) (a := p2) (xs := nas.map V.ref) (fun i G => Same J2 G ∧ ∃ as : List Addr, G D3 = some (.lst (as.map V.ref)) ∧ NdsAt G as ((N.take i).filter gB)) ?_ ?_ ?_ ?_
      · exact ⟨same_upd nD3, [], upd_same, .nil⟩
      · rintro i G _ ⟨SG, _⟩
        exact SqL.of (SG _ _ ep2)
      · rintro i v G hv ⟨SG, as, gD, pa⟩
        rw [List.getElem?_map] at hv
        obtain ⟨n, hn, rfl⟩ := Option.map_eq_some_iff.mp hv
        obtain ⟨it, hit, en⟩ := paired_at pN hn
        have tk : N.take (i + 1) = N.take i ++ [it] := by rw [List.take_add_one, hit]; rfl
        have hi := (List.getElem?_eq_some_iff.mp hit).1
        have la := paired_len pa
        have lf := List.length_filter_le gB (N.take i)
        rw [List.length_take] at lf
        have enG := SG _ _ en
        refine ⟨rfl, ?_⟩
        refine ⟨_, rfl, _, rfl, n, _, _, .int (ndMost it), rfl, rfl, SqT.of enG, (inN it (List.mem_of_getElem? hit)).most.1, rfl, _, rfl, ?_⟩
        rw [decI]
        refine ite2 (fun hb => ?_) fun hb => ?_
        · have tsl := ts_lst (ys := as.map V.ref ++ [V.ref n]) gD
          refine ⟨_, rfl, _, gD, small1000 (by rw [List.length_map]; omega), fun b u e => by rw [upd_ne (ne_of_none e nD3)]; exact SG b u e, as ++ [n], by rw [upd_same, List.map_append]; rfl, ?_⟩
          rw [tk, List.filter_append, List.filter_cons_of_pos (p := gB) hb, List.filter_nil]
          exact paired_app (Paired.mono' (fun _ _ e => tsl _ _ e) pa) (.cons (tsl _ _ enG) .nil)
        · refine ⟨SG, as, gD, ?_⟩
          rw [tk, List.filter_append, List.filter_cons_of_neg (p := gB) hb, List.filter_nil, List.append_nil]
          exact pa
      · rintro G ⟨SG, as, gD, pa⟩
        rw [List.length_map, la2, List.take_length] at pa
        refine ⟨Nat.zero_le _, fun z nz => ?_⟩
        have Sz := same_upd (o := .lst []) nz
        refine nds_empty (rows := rows) (names := nmsOf ks) hO.rw.of hO.nm.of (Sz _ _ gD) (Paired.mono' (fun _ _ e => Sz _ _ e) pa) (fun it m => inN it (List.mem_filter.mp m).1) upd_same ⟨_, rfl, ?_⟩
        rw [nds_any]
        have SH3 := KaG.Same.tr SH2 (KaG.Same.tr SG Sz)
        clear pa
        generalize upd G z (.lst []) = G3 at SH3 ⊢
        by_cases h9 : (N.all fun it => decide (ndMost it = 9)) = true
        rotate_left
        · rw [eq_false_of_ne_true h9]
          exact iteD rfl (kf G3 SH3 (by unfold timedB; rw [hN, eq_false_of_ne_true h9, hth]; rfl))
        rw [h9]
        refine iteDF rfl ?_
        have etm : timedB ks S = lawT ks S (usedOf ks) := by
          rw [law_timed hO]
          unfold timedB
          rw [hN, h9, hth]
          rfl
        obtain ⟨r, kt, kas, e1, e2, e3, pk⟩ := id (hA.ts (TSame.of SH3))
        have hlen := paired_len pk
        refine ⟨_, rfl, b, _, 1, .ref kt, rfl, rfl, SqT.of e1, rfl, kt, rfl, ⟨_, SqT.of e3⟩, fun D nD => ?_⟩
        dsimp only [tNil]
        refine go_tup (K := K) (a := kt) (xs := kas.map V.ref) (fun i J => Same G3 J ∧ ∃ qs : List Addr, J D = some (.lst (qs.map V.ref)) ∧ Paired (fun q (k : Kd) => J q = some (.tup [.str k.name, .int k.keep])) qs (ks.take i)) ?_ ?_ ?_ ?_
        · exact ⟨same_upd nD, [], upd_same, .nil⟩
        · rintro i J _ ⟨SJ, _⟩
          exact SqT.of (SJ _ _ e3)
        · rintro i x J hx ⟨SJ, qs, jD, pq⟩
          rw [List.getElem?_map] at hx
          obtain ⟨ka, ha, rfl⟩ := Option.map_eq_some_iff.mp hx
          obtain ⟨kd, hkd, gt, gas, f1, f2, f3⟩ := paired_at pk ha
          have tk : ks.take (i + 1) = ks.take i ++ [kd] := by rw [List.take_add_one, hkd]; rfl
          have lq := paired_len pq
          rw [List.length_take] at lq
          refine ⟨rfl, tYes_go (iteT ?_)⟩
          refine ⟨_, rfl, ka, _, 0, .str kd.name, rfl, rfl, SqT.of (SJ _ _ f1), rfl, _, rfl, ka, _, 1, .int kd.keep, rfl, rfl, SqT.of (SJ _ _ f1), rfl, sz (by show 2 ≤ 900; decide), fun t nt => ?_⟩
          have St := same_upd (o := .tup [.str kd.name, .int kd.keep]) nt
          have et : upd J t (.tup [.str kd.name, .int kd.keep]) t = some (.tup [.str kd.name, .int kd.keep]) := upd_same
          have jD2 := St _ _ jD
          have S2 := KaG.Same.tr SJ St
          have pq2 := Paired.mono' (fun _ _ e => St _ _ e) pq
          generalize upd J t (.tup [.str kd.name, .int kd.keep]) = J2 at et jD2 S2 pq2 ⊢
          have tsl := ts_lst (ys := qs.map V.ref ++ [V.ref t]) jD2
          refine ⟨_, jD2, small1000 (by rw [List.length_map]; omega), fun b u e => by rw [upd_ne (ne_of_none e nD)]; exact S2 b u e, qs ++ [t], by rw [upd_same, List.map_append]; rfl, ?_⟩
          rw [tk]
          exact paired_app (Paired.mono' (fun _ _ e => tsl _ _ e) pq2) (.cons (tsl _ _ et) .nil)
        · rintro J ⟨SJ, qs, jD, pq⟩
          rw [List.length_map, hlen, List.take_length] at pq
          obtain ⟨pkv, emg⟩ := keeps_read (K := K) nd pq
          refine ⟨D, qs, _, rfl, SqL.of jD, pkv, fun kp nkp => ?_⟩
          rw [emg]
          have Sk := same_upd (o := .dK (kpD ks (nmsOf ks))) nkp
          have ek : upd J kp (.dK (kpD ks (nmsOf ks))) kp = some (.dK (kpD ks (nmsOf ks))) := upd_same
          have S4 := KaG.Same.tr SH3 (KaG.Same.tr SJ Sk)
          generalize upd J kp (.dK (kpD ks (nmsOf ks))) = J4 at ek S4 ⊢
          refine ⟨_, rfl, b, rows, ks, rfl, hA.ts (TSame.of S4), hO, fun lv lvs J5 S5 nlv elv plv => ?_⟩
          refine ⟨sz (by show 2 ≤ 900; decide), fun t nt => ?_⟩
          have St := same_upd (o := .tup [.ref kp, .ref lv]) nt
          have et : upd J5 t (.tup [.ref kp, .ref lv]) t = some (.tup [.ref kp, .ref lv]) := upd_same
          have S6 := KaG.Same.tr S4 (KaG.Same.tr S5 St)
          have ek6 := St _ _ (S5 _ _ ek)
          have elv6 := St _ _ elv
          have plv6 := Paired.mono' (fun _ _ e => LgAt.ts e (TSame.of St)) plv
          generalize upd J5 t (.tup [.ref kp, .ref lv]) = J6 at et S6 ek6 elv6 plv6 ⊢
          refine ⟨t, _, rfl, SqT.of et, rfl, _, _, rfl, _, _, rfl, rfl, ?_⟩
          -- used
          have llv := paired_len plv6
          have lv20 := lvp_le hO
          have inL : ∀ p ∈ lvp ks, _ := fun p m => lvp_in hO (p := p) m
          have elaw : lawT ks S (usedOf ks) = (lvp ks).all fun p => (p.2.filter (ndTh S)).all fun it => !(decide (keepK ks p.1 ≤ ndTell it) || lateB (afsOf (usedOf ks) p.1) (keepK ks p.1) it) := rfl
          have eus : usedOf ks = ((lvp ks).flatMap fun p => p.2).filter isKn := rfl
          rw [elaw] at etm
          clear elaw
          generalize lvp ks = LV at plv6 llv lv20 inL etm eus
          refine ⟨_, rfl, lv, rfl, ⟨_, SqL.of elv6⟩, fun D7 nD7 => ?_⟩
          dsimp only [tNil]
          refine go_list (K := K) (a := lv) (xs := lvs.map V.ref) (fun i G => Same J6 G ∧ ∃ (qs : List Addr) (nss : List (List Addr)), G D7 = some (.lst (qs.map V.ref)) ∧ (∀ q ∈ qs, q ≠ D7) ∧ Paired (fun q (ns : List Addr) => G q = some (.lst (ns.map V.ref))) qs nss ∧ Paired (fun (ns : List Addr) (p : Str × Gr) => NdsAt J6 ns p.2) nss (LV.take i)) ?_ ?_ ?_ ?_
          · exact ⟨same_upd nD7, [], [], upd_same, (fun _ z => nomatch z), .nil, .nil⟩
          · rintro i G _ ⟨SG, _⟩
            exact SqL.of (SG _ _ elv6)
          · rintro i v G hv ⟨SG, qs, nss, gD, nqs, pq, px⟩
            rw [List.getElem?_map] at hv
            obtain ⟨a, ha, rfl⟩ := Option.map_eq_some_iff.mp hv
            obtain ⟨p, hp, ga, ea, ns, eg, pn⟩ := paired_at plv6 ha
            have hi := (List.getElem?_eq_some_iff.mp hp).1
            have tk : LV.take (i + 1) = LV.take i ++ [p] := by rw [List.take_add_one, hp]; rfl
            have lq := paired_len pq
            have lx := paired_len px
            rw [List.length_take] at lx
            refine ⟨rfl, tYes_go (iteT ?_)⟩
            refine ⟨_, rfl, a, _, 1, .ref ga, rfl, rfl, SqT.of (SG _ _ ea), rfl, ga, _, rfl, .inr (SqT.of (SG _ _ eg)), fun q nq => ?_⟩
            have Sq := same_upd (o := .lst (ns.map V.ref)) nq
            have eq : upd G q (.lst (ns.map V.ref)) q = some (.lst (ns.map V.ref)) := upd_same
            have S2 := KaG.Same.tr SG Sq
            have gD2 := Sq _ _ gD
            have pq2 := Paired.mono' (fun _ _ e => Sq _ _ e) pq
            have qD : q ≠ D7 := fun z => by rw [z, gD] at nq; cases nq
            generalize upd G q (.lst (ns.map V.ref)) = G2 at eq S2 gD2 pq2 ⊢
            refine ⟨_, gD2, small1000 (by rw [List.length_map]; omega), fun b u e => by rw [upd_ne (ne_of_none e nD7)]; exact S2 b u e, qs ++ [q], nss ++ [ns], by rw [upd_same, List.map_append]; rfl, fun q2 m => ?_, ?_, ?_⟩
            · rcases List.mem_append.mp m with z | z
              · exact nqs q2 z
              · rw [List.mem_singleton.mp z]; exact qD
            · exact paired_app (paired_inL (fun a xs m e => by rw [upd_ne (nqs a m)]; exact e) pq2) (.cons (by rw [upd_ne qD]; exact eq) .nil)
            · rw [tk]
              exact paired_app px (.cons pn .nil)
          · rintro G7 ⟨SG7, qs, nss, gD7, nqs, pq, px⟩
            rw [List.length_map, llv, List.take_length] at px
            have pfl : NdsAt J6 nss.flatten (LV.flatMap fun p => p.2) := by
              clear pq etm eus inL lv20 llv plv6
              induction px with
              | nil => exact .nil
              | cons h t ih =>
                rw [List.flatten_cons, List.flatMap_cons]
                exact paired_app h ih
            have lfl := paired_len pfl
            have l60 : (LV.flatMap fun p => p.2).length ≤ 60 := by
              have : ∀ l : List (Str × Gr), (∀ p ∈ l, p.2.length ≤ 3) → (l.flatMap fun p => p.2).length ≤ 3 * l.length := fun l => by
                induction l with
                | nil => exact fun _ => Nat.le_refl _
                | cons p r ih =>
                  intro h
                  have h1 := h p List.mem_cons_self
                  have h2 := ih fun q m => h q (List.mem_cons_of_mem _ m)
                  rw [List.flatMap_cons, List.length_append, List.length_cons]
                  omega
              have := this LV fun p m => (inL p m).2.1
              omega
            have inF : ∀ it ∈ LV.flatMap fun p => p.2, NeedV rows (nmsOf ks) it := fun it m => by
              obtain ⟨p, mp, m⟩ := List.mem_flatMap.mp m
              exact (inL p mp).2.2.1 it m
            refine ⟨D7, qs, nss.map fun xs => xs.map V.ref, rfl, gD7, paired_mapR pq, by rw [efl, List.length_map]; omega, fun fl G8 S8 nfl efl8 => ?_⟩
            rw [efl] at efl8
            have S68 := KaG.Same.tr SG7 S8
            have pfl8 := Paired.mono' (fun _ _ e => S68 _ _ e) pfl
            generalize nss.flatten = fas at efl8 pfl8 lfl
            generalize hFL : (LV.flatMap fun p => p.2) = FL at pfl8 lfl l60 inF eus
            refine ⟨fl, rfl, ⟨_, SqL.of efl8⟩, fun D9 nD9 => ?_⟩
            refine go_list (K := K) (a := fl) (xs := fas.map V.ref) (fun i G => Same G8 G ∧ ∃ as : List Addr, G D9 = some (.lst (as.map V.ref)) ∧ NdsAt G as ((FL.take i).filter isKn)) ?_ ?_ ?_ ?_
            · exact ⟨same_upd nD9, [], upd_same, .nil⟩
            · rintro i G _ ⟨SG, _⟩
              exact SqL.of (SG _ _ efl8)
            · rintro i v G hv ⟨SG, as, gD, pa⟩
              rw [List.getElem?_map] at hv
              obtain ⟨n, hn, rfl⟩ := Option.map_eq_some_iff.mp hv
              obtain ⟨it, hit, en⟩ := paired_at pfl8 hn
              have tk : FL.take (i + 1) = FL.take i ++ [it] := by rw [List.take_add_one, hit]; rfl
              have hi := (List.getElem?_eq_some_iff.mp hit).1
              have la := paired_len pa
              have lf := List.length_filter_le isKn (FL.take i)
              rw [List.length_take] at lf
              have enG := SG _ _ en
              have nv := inF it (List.mem_of_getElem? hit)
              refine ⟨rfl, ?_⟩
              cases nv with
              | row nm t m =>
                refine ⟨_, rfl, n, _, 0, .str "row", rfl, rfl, SqT.of enG, rfl, rfl, _, rfl, iteDF (by decide +kernel) ⟨SG, as, gD, ?_⟩⟩
                rw [tk, List.filter_append, List.filter_cons_of_neg (show ¬ isKn [V.str "row", .str nm, .int t, .int m] = true from Bool.false_ne_true), List.filter_nil, List.append_nil]
                exact pa
              | kind nm a t m =>
                have tsl := ts_lst (ys := as.map V.ref ++ [V.ref n]) gD
                refine ⟨_, rfl, n, _, 0, .str "kind", rfl, rfl, SqT.of enG, rfl, rfl, _, rfl, iteD (by decide +kernel) ⟨_, rfl, _, gD, small1000 (by rw [List.length_map]; omega), fun b u e => by rw [upd_ne (ne_of_none e nD9)]; exact SG b u e, as ++ [n], by rw [upd_same, List.map_append]; rfl, ?_⟩⟩
                rw [tk, List.filter_append, List.filter_cons_of_pos (p := isKn) rfl, List.filter_nil]
                exact paired_app (Paired.mono' (fun _ _ e => tsl _ _ e) pa) (.cons (tsl _ _ enG) .nil)
            · rintro G9 ⟨SG9, uas, gD9, pua⟩
              rw [List.length_map, lfl, List.take_length, ← eus] at pua
              have inU : ∀ it ∈ usedOf ks, NeedV rows (nmsOf ks) it ∧ isKn it = true := fun it m => by
                rw [eus] at m
                obtain ⟨m1, m2⟩ := List.mem_filter.mp m
                exact ⟨inF it m1, m2⟩
              have lus : (usedOf ks).length ≤ 60 := by
                rw [eus]
                exact Nat.le_trans (List.length_filter_le ..) l60
              generalize usedOf ks = US at pua inU lus etm
              have lua := paired_len pua
              have S69 := KaG.Same.tr S68 SG9
              have elv9 := S69 _ _ elv6
              have ek9 := S69 _ _ ek6
              have plv9 := Paired.mono' (fun _ _ e => LgAt.ts e (TSame.of S69)) plv6
              have SH9 := KaG.Same.tr S6 S69
              have hS9 := hS.same SH9
              clear pq px pfl pfl8 plv6
              let okI : Str → List V → Bool := fun n it => !(decide (keepK ks n ≤ ndTell it) || lateB (afsOf US n) (keepK ks n) it)
              have bad : ∀ p ∈ LV, ∀ it ∈ p.2.filter (ndTh S), okI p.1 it = false → timedB ks S = false := fun p mp it mi h => by
                rw [etm]
                refine eq_false_of_ne_true fun z => ?_
                have := List.all_eq_true.mp (List.all_eq_true.mp z p mp) it mi
                have h : (!(decide (keepK ks p.1 ≤ ndTell it) || lateB (afsOf US p.1) (keepK ks p.1) it)) = false := h
                rw [h] at this
                cases this
              refine ⟨_, rfl, lv, rfl, ⟨_, SqL.of elv9⟩, for_list (K := K) (a := lv) (xs := lvs.map V.ref) (fun i σ' G => (∃ x4 x5 x10 x11 x12 : Option V, σ' = [some (.ref b), some (.ref sa), some (.ref p2), none, x4, x5, some (.ref kp), some (.ref lv), some (.ref D9), none, x10, x11, x12, none]) ∧ Same G9 G ∧ ∀ p ∈ LV.take i, (p.2.filter (ndTh S)).all (okI p.1) = true) ?_ ?_ ?_ ?_⟩
              · exact ⟨⟨_, _, _, _, _, rfl⟩, Same.refl', fun p m => by rw [List.take_zero] at m; cases m⟩
              · rintro i σ' G _ ⟨_, SG, _⟩
                exact SqL.of (SG _ _ elv9)
              · rintro i v σ' G hv ⟨⟨x4, x5, x10, x11, x12, rfl⟩, SG, hok⟩
                rw [List.getElem?_map] at hv
                obtain ⟨a, ha, rfl⟩ := Option.map_eq_some_iff.mp hv
                obtain ⟨p, hp, ga, ea, eG⟩ := paired_at plv9 ha
                have mp := List.mem_of_getElem? hp
                have tk : LV.take (i + 1) = LV.take i ++ [p] := by rw [List.take_add_one, hp]; rfl
                obtain ⟨pn, g3, gn, _⟩ := inL p mp
                have eGG := Grd.ts eG (TSame.of SG)
                refine ⟨a, _, rfl, SqT.of (SG _ _ ea), rfl, _, _, rfl, _, _, rfl, rfl, ?_⟩
                -- afters
                refine ⟨_, rfl, D9, rfl, ⟨_, SqL.of (SG _ _ gD9)⟩, fun Da nDa => ?_⟩
                dsimp only [tNil]
                refine go_list (K := K) (a := D9) (xs := uas.map V.ref) (fun u G2 => Same G G2 ∧ G2 Da = some (.lst ((afsOf (US.take u) p.1).map V.int))) ?_ ?_ ?_ ?_
                · exact ⟨same_upd nDa, upd_same⟩
                · rintro u G2 _ ⟨SG2, _⟩
                  exact SqL.of (SG2 _ _ (SG _ _ gD9))
                · rintro u v G2 hv ⟨SG2, gD⟩
                  rw [List.getElem?_map] at hv
                  obtain ⟨n, hn, rfl⟩ := Option.map_eq_some_iff.mp hv
                  obtain ⟨it, hit, en⟩ := paired_at pua hn
                  have tku : US.take (u + 1) = US.take u ++ [it] := by rw [List.take_add_one, hit]; rfl
                  have hu' := (List.getElem?_eq_some_iff.mp hit).1
                  have la := afs_len (us := US.take u) (n := p.1)
                  rw [List.length_take] at la
                  have enG := SG2 _ _ (SG _ _ en)
                  obtain ⟨nv, kv⟩ := inU it (List.mem_of_getElem? hit)
                  refine ⟨rfl, ?_⟩
                  cases nv with
                  | row nm t m => cases kv
                  | kind nm af t m =>
                    refine ⟨_, rfl, n, _, 1, .str nm, rfl, rfl, SqT.of enG, rfl, _, rfl, rfl, _, rfl, ?_⟩
                    rw [decS]
                    have esn := afs_snoc (us := US.take u) (n := p.1) (show ndWait [V.str "kind", .str nm, .int af, .int t, .int m] = some (nm, af) from rfl)
                    by_cases c : nm = p.1
                    · refine iteD (decide_eq_true c) ⟨_, rfl, n, _, 2, .int af, rfl, rfl, SqT.of enG, rfl, ?_⟩
                      refine ⟨_, gD, small1000 (by rw [List.length_map]; omega), fun b u e => by rw [upd_ne (ne_of_none e nDa)]; exact SG2 b u e, ?_⟩
                      rw [upd_same, tku, esn, if_pos c, List.map_append]
                      rfl
                    · refine iteDF (decide_eq_false c) ⟨SG2, ?_⟩
                      rw [tku, esn, if_neg c, List.append_nil]
                      exact gD
                · rintro G2 ⟨SG2, gDa⟩
                  rw [List.length_map, lua, List.take_length] at gDa
                  have SGG2 := KaG.Same.tr SG SG2
                  have laf := afs_len (us := US) (n := p.1)
                  generalize hafs : afsOf US p.1 = AF at gDa laf
                  refine ⟨_, rfl, _, rfl, ga, sa, S, p.2, rows, nmsOf ks, rfl, hS9.same SGG2, Grd.ts eGG (TSame.of SG2), gn, g3, fun lp las G3 S3 nlp elp pls => ?_⟩
                  have SG3 := KaG.Same.tr SGG2 S3
                  have lls := paired_len pls
                  have lft := List.length_filter_le (ndTh S) p.2
                  have inT : ∀ it ∈ p.2.filter (ndTh S), NeedV rows (nmsOf ks) it := fun it m => gn it (List.mem_filter.mp m).1
                  have bad2 := bad p mp
                  generalize hTI : p.2.filter (ndTh S) = TI at pls lls lft inT bad2
                  have gDa3 := S3 _ _ gDa
                  have hget : ∀ {J : Hp}, Same G3 J → DGet J kp (.str p.1) (some (.int (keepK ks p.1))) := fun {J} sj => by
                    have h1 := DGet.k (k := Sum.inr p.1) (sj _ _ (SG3 _ _ ek9))
                    rw [kpD_val, if_pos pn] at h1
                    exact h1
                  refine ⟨lp, rfl, ⟨_, SqL.of elp⟩, for_list (K := K) (a := lp) (xs := las.map V.ref) (fun q σ' J => (∃ x5 x12 : Option V, σ' = [some (.ref b), some (.ref sa), some (.ref p2), none, some (.ref ga), x5, some (.ref kp), some (.ref lv), some (.ref D9), none, some (.str p.1), some (.ref Da), x12, none]) ∧ Same G3 J ∧ ∀ it ∈ TI.take q, okI p.1 it = true) ?_ ?_ ?_ ?_⟩
                  · exact ⟨⟨_, _, rfl⟩, Same.refl', fun it m => by rw [List.take_zero] at m; cases m⟩
                  · rintro q σ' J _ ⟨_, SJ, _⟩
                    exact SqL.of (SJ _ _ elp)
                  · rintro q v σ' J hv ⟨⟨x5', x12', rfl⟩, SJ, hokI⟩
                    rw [List.getElem?_map] at hv
                    obtain ⟨n, hn, rfl⟩ := Option.map_eq_some_iff.mp hv
                    obtain ⟨it, hit, en⟩ := paired_at pls hn
                    have mit := List.mem_of_getElem? hit
                    have tkq : TI.take (q + 1) = TI.take q ++ [it] := by rw [List.take_add_one, hit]; rfl
                    have nv := inT it mit
                    let lq : Int → Bool := fun a => (decide (ndTell it < a) && isKn it) || decide (keepK ks p.1 ≤ a)
                    refine ⟨_, rfl, Da, rfl, ⟨_, SqL.of (SJ _ _ gDa3)⟩, fun Dl nDl => ?_⟩
                    dsimp only [tNil]
                    refine go_list (K := K) (a := Da) (xs := AF.map V.int) (fun u G5 => Same J G5 ∧ G5 Dl = some (.lst (((AF.take u).filter lq).map V.int))) ?_ ?_ ?_ ?_
                    · exact ⟨same_upd nDl, upd_same⟩
                    · rintro u G5 _ ⟨S5, _⟩
                      exact SqL.of (S5 _ _ (SJ _ _ gDa3))
                    · rintro u v G5 hv ⟨S5, gD⟩
                      rw [List.getElem?_map] at hv
                      obtain ⟨af, haf, rfl⟩ := Option.map_eq_some_iff.mp hv
                      have tku : AF.take (u + 1) = AF.take u ++ [af] := by rw [List.take_add_one, haf]; rfl
                      have hu' := (List.getElem?_eq_some_iff.mp haf).1
                      have lf := List.length_filter_le lq (AF.take u)
                      rw [List.length_take] at lf
                      have SJ5 := KaG.Same.tr SJ S5
                      have enG := SJ5 _ _ en
                      have yes : lq af = true → ∃ acc, G5 Dl = some (.lst acc) ∧ acc.length < sizeLine ∧ Same J (upd G5 Dl (.lst (acc ++ [.int af]))) ∧ upd G5 Dl (.lst (acc ++ [.int af])) Dl = some (.lst (((AF.take (u + 1)).filter lq).map V.int)) := fun h => by
                        refine ⟨_, gD, small1000 (by rw [List.length_map]; omega), fun b u e => by rw [upd_ne (ne_of_none e nDl)]; exact S5 b u e, ?_⟩
                        rw [upd_same, tku, List.filter_append, List.filter_cons_of_pos h, List.filter_nil, List.map_append]
                        rfl
                      have no : lq af = false → Same J G5 ∧ G5 Dl = some (.lst (((AF.take (u + 1)).filter lq).map V.int)) := fun h => by
                        refine ⟨S5, ?_⟩
                        rw [tku, List.filter_append, List.filter_cons_of_neg (by rw [h]; decide), List.filter_nil, List.append_nil]
                        exact gD
                      refine ⟨rfl, ?_⟩
                      refine ⟨_, rfl, _, rfl, _, rfl, n, _, _, .int (ndTell it), rfl, rfl, SqT.of enG, nv.most.2, _, _, rfl, rfl, _, rfl, ?_⟩
                      have third : (decide (ndTell it < af) && isKn it) = false → decide (keepK ks p.1 ≤ af) = lq af := fun h => by
                        show _ = ((decide (ndTell it < af) && isKn it) || _)
                        rw [h, Bool.false_or]
                      by_cases c1 : ndTell it < af
                      · refine iteD (decide_eq_true c1) ?_
                        cases nv with
                        | row nm t m =>
                          refine ⟨_, rfl, n, _, 0, .str "row", rfl, rfl, SqT.of enG, rfl, rfl, _, rfl, iteDF (by decide +kernel) ?_⟩
                          refine ⟨_, rfl, _, rfl, _, rfl, kp, _, rfl, hget SJ5, _, _, rfl, rfl, _, rfl, ?_⟩
                          show (if decide (keepK ks p.1 ≤ af) = true then _ else _)
                          rw [third (by show (_ && false) = false; rw [Bool.and_false])]
                          exact ite2 (fun hb => ⟨_, rfl, yes hb⟩) fun hb => no (eq_false_of_ne_true hb)
                        | kind nm a t m =>
                          refine ⟨_, rfl, n, _, 0, .str "kind", rfl, rfl, SqT.of enG, rfl, rfl, _, rfl, iteD (by decide +kernel) ?_⟩
                          refine ⟨_, rfl, yes ?_⟩
                          show ((decide _ && true) || _) = true
                          rw [decide_eq_true c1]
                          rfl
                      · refine iteDF (decide_eq_false c1) ?_
                        refine ⟨_, rfl, _, rfl, _, rfl, kp, _, rfl, hget SJ5, _, _, rfl, rfl, _, rfl, ?_⟩
                        show (if decide (keepK ks p.1 ≤ af) = true then _ else _)
                        rw [third (by rw [decide_eq_false c1]; rfl)]
                        exact ite2 (fun hb => ⟨_, rfl, yes hb⟩) fun hb => no (eq_false_of_ne_true hb)
                    · rintro G5 ⟨S5, gDl⟩
                      rw [List.length_map, List.take_length] at gDl
                      have SJ5 := KaG.Same.tr SJ S5
                      have enG := SJ5 _ _ en
                      have SH5 := KaG.Same.tr SH9 (KaG.Same.tr SG3 SJ5)
                      have lateq : lateB AF (keepK ks p.1) it = AF.any lq := rfl
                      refine ⟨_, rfl, _, rfl, kp, _, rfl, hget SJ5, _, rfl, _, rfl, n, _, _, .int (ndTell it), rfl, rfl, SqT.of enG, nv.most.2, _, _, rfl, rfl, _, rfl, ?_⟩
                      by_cases c1 : keepK ks p.1 ≤ ndTell it
                      · refine iteD (decide_eq_true c1) (iteT ?_)
                        refine kf G5 SH5 (bad2 it mit ?_)
                        show (!(decide (keepK ks p.1 ≤ ndTell it) || _)) = false
                        rw [decide_eq_true c1]
                        rfl
                      · refine iteDF (decide_eq_false c1) ?_
                        refine ⟨_, rfl, Nat.zero_le _, fun z nz => ?_⟩
                        have Sz := same_upd (o := .lst []) nz
                        refine ints_ne (Sz _ _ gDl) upd_same ⟨_, rfl, ?_⟩
                        rw [late_any]
                        cases hl : AF.any lq with
                        | true =>
                          refine iteT ?_
                          refine kf _ (KaG.Same.tr SH5 Sz) (bad2 it mit ?_)
                          show (!(_ || lateB (afsOf US p.1) (keepK ks p.1) it)) = false
                          rw [hafs, lateq, hl, Bool.or_true]
                          rfl
                        | false =>
                          refine iteF ⟨⟨_, _, rfl⟩, KaG.Same.tr SJ5 Sz, fun it2 m => ?_⟩
                          rw [tkq] at m
                          rcases List.mem_append.mp m with y | y
                          · exact hokI it2 y
                          · rw [List.mem_singleton.mp y]
                            show (!(decide (keepK ks p.1 ≤ ndTell it) || lateB (afsOf US p.1) (keepK ks p.1) it)) = true
                            rw [hafs, lateq, hl, decide_eq_false c1]
                            rfl
                  · rintro σ' J ⟨⟨x5', x12', rfl⟩, SJ, hokI⟩
                    rw [List.length_map, lls, List.take_length] at hokI
                    refine ⟨⟨_, _, _, _, _, rfl⟩, KaG.Same.tr SG3 SJ, fun p' m => ?_⟩
                    rw [tk] at m
                    rcases List.mem_append.mp m with y | y
                    · exact hok p' y
                    · rw [List.mem_singleton.mp y, hTI]
                      exact List.all_eq_true.mpr hokI
              · rintro σ' G ⟨⟨x4, x5, x10, x11, x12, rfl⟩, SG, hok⟩
                rw [List.length_map, llv, List.take_length] at hok
                have q := k G (KaG.Same.tr SH9 SG)
                rw [etm, List.all_eq_true.mpr hok] at q
                exact q
end
end KaG
set_option maxRecDepth 100000
set_option maxHeartbeats 4000000
namespace KaG
open PySem PySem.Spec PyProof.Rows L2 KaN
theorem catA_go {K : PySem.W.Frag} {H : Hp} {a b : Addr} {xs ys : List V} {Q : VK} (ha : H a = some (.tup xs)) (hb : H b = some (.tup ys)) (l : xs.length + ys.length ≤ 900) (k : ∀ p H', Same H H' → H' p = some (.tup (xs ++ ys)) → Q (.ref p) H') : rCatA K (.ref a) (.ref b) H Q := by
  refine ⟨a, b, xs, ys, rfl, rfl, SqT.of ha, SqT.of hb, Nat.le_of_lt (small1000 (by omega)), fun e => ?_, fun _ e => ?_, fun _ _ p np => k p _ (same_upd np) upd_same⟩
  · subst e; exact k b H Same.refl' hb
  · subst e; exact k a H Same.refl' (by rw [List.append_nil]; exact ha)
theorem slA_go {K : PySem.W.Frag} {H : Hp} {a : Addr} {xs : List V} {lo hi : Option Int} {Q : VK} (ha : H a = some (.tup xs)) (k : ∀ p H', Same H H' → H' p = some (.tup (cutV xs lo hi)) → Q (.ref p) H') : rSlA K (.ref a) lo hi H Q := by
  refine ⟨a, xs, rfl, SqT.of ha, fun h => k a H Same.refl' ?_, fun _ p np => k p _ (same_upd np) upd_same⟩
  have : cutV xs lo hi = xs := by
    unfold cutV
    rw [h.1, h.2, List.drop_zero, Nat.sub_zero, List.take_length]
  rw [this]; exact ha
theorem cut_drop (xs : List V) (j : Nat) : cutV xs (some (j : Int)) none = xs.drop j := by
  unfold cutV
  rw [HT.sIx_none, HT.sIx_nat]
  by_cases c : j ≤ xs.length
  · rw [Nat.min_eq_left c, List.take_of_length_le (by rw [List.length_drop]; omega)]
  · rw [Nat.min_eq_right (by omega), List.drop_length, List.drop_of_length_le (by omega), List.take_nil]
theorem sIx_neg (n d j : Nat) (h : 0 < j) : HT.sIx n d (some (-(j : Int))) = n - j := by
  show (if (-(j : Int)) < 0 then ((-(j : Int)) + (n : Int)).toNat else min (-(j : Int)).toNat n) = n - j
  rw [if_pos (by omega)]
  omega
theorem cut_last (xs : List V) (j : Nat) (h : 0 < j) : cutV xs (some (-(j : Int))) none = xs.drop (xs.length - j) := by
  unfold cutV
  rw [HT.sIx_none, sIx_neg _ _ _ h, List.take_of_length_le (by rw [List.length_drop]; omega)]
theorem cut_but (xs : List V) (j : Nat) (h : 0 < j) : cutV xs none (some (-(j : Int))) = xs.take (xs.length - j) := by
  unfold cutV
  rw [HT.sIx_none, sIx_neg _ _ _ h, List.drop_zero, Nat.sub_zero]
theorem paired_drop {α β : Type} {R : α → β → Prop} : ∀ (n : Nat) {xs : List α} {ys : List β}, Paired R xs ys → Paired R (xs.drop n) (ys.drop n)
  | 0, _, _, h => h
  | n + 1, _, _, .nil => by rw [List.drop_nil, List.drop_nil]; exact .nil
  | n + 1, _, _, .cons h r => by rw [List.drop_succ_cons, List.drop_succ_cons]; exact paired_drop n r
theorem order_ofw {α : Type} {K : PySem.W.Frag} {w : World} {H : Hp} {l : Addr} {Q : VK} (enc : α → PyData) (zs : List (Addr × α)) (hl : SqL K H l (zs.map fun z => V.ref z.1) ∨ SqT K H l (zs.map fun z => V.ref z.1)) (hk : ∀ z ∈ zs, Ky K H (.ref z.1) (enc z.2) ∧ (enc z.2).depth ≤ 8)
    (hal : ∀ z ∈ zs, ∀ y ∈ zs, PySem.W.alike (enc z.2) (enc y.2) = true) (hso : ∀ z ∈ zs, ∃ x r, enc z.2 = .tuple (x :: r)) (h4 : zs.length < 64)
    (k : ∀ (ys : List (Addr × α)) (p : Addr) (H' : Hp), Same H H' → H p = none → H' p = some (.tup (ys.map fun z => V.ref z.1)) → (∀ z ∈ ys, z ∈ zs) → (0 < zs.length → 0 < ys.length) → ys.length ≤ zs.length → Q (.ref p) H') :
    rSetNw K w [V.ref l] H fun v H1 => rSortN K w [v] H1 fun v2 H2 => rTupOf K [v2] H2 Q := by
  refine ⟨l, zs.map fun z => (z.1, enc z.2), rfl, by rw [List.map_map]; exact hl, fun p m => ?_, by rw [List.length_map]; exact h4, fun a D ha hsub hall hnd hlen => ?_⟩
  · obtain ⟨z, hz, rfl⟩ := List.mem_map.mp m
    exact hk z hz
  · have back : ∀ D' : List Dw, (∀ p ∈ D', p ∈ zs.map fun z => (z.1, enc z.2)) → ∃ ys : List (Addr × α), D' = ys.map (fun z => (z.1, enc z.2)) ∧ ∀ z ∈ ys, z ∈ zs := by
      intro D'
      induction D' with
      | nil => exact fun _ => ⟨[], rfl, fun _ z => nomatch z⟩
      | cons p D' ih =>
        intro h
        obtain ⟨z, hz, e⟩ := List.mem_map.mp (h p (List.mem_cons_self ..))
        obtain ⟨ys, e2, hs⟩ := ih fun q m => h q (List.mem_cons_of_mem _ m)
        refine ⟨z :: ys, by rw [List.map_cons, e, e2], fun q m => ?_⟩
        rcases List.mem_cons.mp m with c | c
        · rw [c]; exact hz
        · exact hs q c
    have of : ∀ p ∈ D, ∃ z ∈ zs, p = (z.1, enc z.2) := fun p m => by
      obtain ⟨z, hz, e⟩ := List.mem_map.mp (hsub p m)
      exact ⟨z, hz, e.symm⟩
    refine ⟨a, D, rfl, upd_same, fun p m => ?_, fun d m d' m' => ?_, .inl fun d m => ?_, fun D1 p pD hp => ?_⟩
    · obtain ⟨z, hz, rfl⟩ := of p m
      exact ⟨Ky.sm (same_upd ha) (hk z hz).1, (hk z hz).2⟩
    · obtain ⟨p, hp, rfl⟩ := List.mem_map.mp m
      obtain ⟨p', hp', rfl⟩ := List.mem_map.mp m'
      obtain ⟨z, hz, rfl⟩ := of p hp
      obtain ⟨y, hy, rfl⟩ := of p' hp'
      exact hal z hz y hy
    · obtain ⟨p, hp, rfl⟩ := List.mem_map.mp m
      obtain ⟨z, hz, rfl⟩ := of p hp
      exact hso z hz
    · have pm : (D1.mergeSort (PySem.W.dataLe false (fun z : Dw => z.2))).Perm D := (List.mergeSort_perm ..).trans pD
      obtain ⟨ys, ey, hy⟩ := back _ fun q m => hsub q (pm.mem_iff.mp m)
      have hz : ys.length = D.length := by rw [← pm.length_eq, ey, List.length_map]
      rw [ey, List.map_map]
      have n1 : H p = none := by
        cases e : H p with
        | none => rfl
        | some u => rw [same_upd ha _ _ e] at hp; cases hp
      refine ⟨p, ys.map fun z => V.ref z.1, rfl, .inl ⟨SqL.of upd_same, fun q hq => ?_⟩⟩
      have S2 := KaG.Same.tr (same_upd (o := SetNO w a D) ha) (same_upd (o := .lst (ys.map fun z => V.ref z.1)) hp)
      have n2 : H q = none := by
        cases e : H q with
        | none => rfl
        | some u =>
          have := S2 _ _ e
          rw [show (upd (upd H a (SetNO w a D)) p (.lst (ys.map fun z => V.ref z.1))) q = none from hq] at this
          cases this
      refine k ys q _ (KaG.Same.tr S2 (same_upd hq)) n2 upd_same hy (fun h0 => ?_) (by rw [hz]; simpa using hlen)
      obtain ⟨z, hz1⟩ : ∃ z, z ∈ zs := ⟨_, List.getElem_mem h0⟩
      obtain ⟨q2, hq2, _⟩ := hall (z.1, enc z.2) (List.mem_map.mpr ⟨z, hz1, rfl⟩)
      rw [hz]
      exact List.length_pos_of_mem hq2
/-- grounds in a list, put in order -/
theorem order_groundsw {K : PySem.W.Frag} {w : World} {H : Hp} {l : Addr} {Q : VK} {rows names : List Str} {as : List Addr} {gs : List (List (List V))} (hl : SqL K H l (as.map V.ref) ∨ SqT K H l (as.map V.ref)) (pg : Paired (fun a g => Grd H a g) as gs)
    (hn : ∀ g ∈ gs, 0 < g.length ∧ ∀ n ∈ g, NeedV rows names n) (h4 : as.length < 64)
    (k : ∀ (p : Addr) (bs : List Addr) (gs' : List (List (List V))) (H' : Hp), Same H H' → H p = none → H' p = some (.tup (bs.map V.ref)) → Paired (fun a g => Grd H' a g) bs gs' → (∀ g ∈ gs', g ∈ gs) → gs'.length ≤ gs.length → Q (.ref p) H') :
    rSetNw K w [V.ref l] H fun v H1 => rSortN K w [v] H1 fun v2 H2 => rTupOf K [v2] H2 Q := by
  have hz : (as.zip gs).length = gs.length := by rw [List.length_zip, paired_len pg, Nat.min_self]
  refine order_ofw grdD (as.zip gs) (by rw [zip_fst V.ref pg]; exact hl) (fun z m => ?_) (fun z m y m' => ?_) (fun z m => ?_) (by rw [hz, ← paired_len pg]; exact h4) fun ys p H' S np ep sub pos le => ?_
  · have hv := (hn _ (zip_snd m)).2
    exact ⟨grd_ky (paired_zip pg z m) hv, Nat.le_trans (grd_deep hv) (by decide)⟩
  · exact grd_like (hn _ (zip_snd m)).2 (hn _ (zip_snd m')).2
  · have h1 := (hn _ (zip_snd m)).1
    cases hg : z.2 with
    | nil => rw [hg] at h1; exact absurd h1 (by decide)
    | cons n r => exact ⟨needD n, r.map needD, by rw [grdD, List.map_cons]⟩
  · refine k p (ys.map (·.1)) (ys.map (·.2)) H' S np (by rw [ep, List.map_map]; rfl) (paired_of fun z m => Grd.ts (paired_zip pg z (sub z m)) (TSame.of S)) (fun n m => ?_) (by rw [List.length_map, ← hz]; exact le)
    obtain ⟨z, hz2, rfl⟩ := List.mem_map.mp m
    exact zip_snd (sub z hz2)
end KaG
set_option maxRecDepth 100000
set_option maxHeartbeats 4000000
namespace KaG
open PySem PySem.Spec PyProof.Rows L2 KaC KaN LamX NdefX
theorem book_put {rows : List Str} {ks : List Kd} {i : Nat} {kd kd' : Kd} (h : BookOk rows ks) (hi : ks[i]? = some kd) (en : kd'.name = kd.name) (num : 1 ≤ kd'.keep ∧ kd'.keep ≤ 8 ∧ 0 ≤ kd'.bar ∧ kd'.bar ≤ 60 ∧ kd'.gs.length ≤ 4) (grd : ∀ g ∈ kd'.gs, 0 < g.length ∧ g.length ≤ 3 ∧ ∀ n ∈ g, NeedV rows (ks.map Kd.name) n) : BookOk rows (ks.set i kd') := by
  have enm : (ks.set i kd').map Kd.name = ks.map Kd.name := by
    refine List.ext_getElem? fun q => ?_
    rw [List.getElem?_map, List.getElem?_map, List.getElem?_set]
    by_cases c : i = q
    · subst c
      rw [if_pos rfl, hi, if_pos (List.getElem?_eq_some_iff.mp hi).1]
      show some kd'.name = some kd.name
      rw [en]
    · rw [if_neg c]
  refine ⟨h.rw, by rw [enm]; exact h.nm, h.r0, by rw [List.length_set]; exact h.k0, by rw [List.length_set]; exact h.k5, fun k m => ?_, fun k m g mg => ?_⟩
  · rcases List.mem_or_eq_of_mem_set m with c | c
    · exact h.num k c
    · rw [c]; exact num
  · rw [enm]
    rcases List.mem_or_eq_of_mem_set m with c | c
    · exact h.grd k c g mg
    · rw [c] at mg; exact grd g mg
theorem put_te {K : PySem.W.Frag} {σ : L2.St} {H : Hp} {Q : VK} {b : Addr} {rows : List Str} {ks : List Kd} {i : Nat} {kd' : Kd} {kn : Nat} {tx : TE} (hb : σ[1]? = some (some (.ref b))) (hk : σ[kn]? = some (some (.int (i : Int)))) (hA : BookAt H b rows ks) (hi : i < ks.length) (k5 : ks.length ≤ 5)
    (htx : ∀ H1 (Q' : VK), Same H H1 → (∀ ka H2, Same H1 H2 → KdAt H2 ka kd' → Q' (.ref ka) H2) → tx σ H1 Q') (k : ∀ p H', Same H H' → BookAt H' p rows (ks.set i kd') → Q (.ref p) H') :
    tTup (tCons (tOp (rIxT K) (tVar 1) (tC (.int 0))) (tCons (tOp (rCatA K) (tOp (rCatA K) (tSl (rSlA K) (tOp (rIxT K) (tVar 1) (tC (.int 1))) tNoPart (tPart (tVar kn))) (tTup (tCons tx tNil))) (tSl (rSlA K) (tOp (rIxT K) (tVar 1) (tC (.int 1))) (tPart (tOp (rI0 fun i j => V.int (i + j)) (tVar kn) (tC (.int 1)))) tNoPart)) tNil)) σ H Q := by
  have sz : ∀ {m : Nat}, m ≤ 900 → m ≤ sizeLine := fun h => Nat.le_of_lt (small1000 (by omega))
  obtain ⟨r, kt, kas, e1, e2, e3, pk⟩ := id hA
  have hlen := paired_len pk
  refine ⟨_, hb, b, _, 0, .ref r, rfl, rfl, SqT.of e1, rfl, ?_⟩
  refine ⟨_, hb, b, _, 1, .ref kt, rfl, rfl, SqT.of e1, rfl, ?_⟩
  refine ⟨_, hk, _, rfl, slA_go e3 fun p1 H1 S1 ep1 => ?_⟩
  rw [cut_to _ _ (by omega), Int.toNat_natCast] at ep1
  refine htx H1 _ S1 fun ka H2 S2 ek => ?_
  refine ⟨sz (by show 1 ≤ 900; decide), fun t nt => ?_⟩
  have St := same_upd (o := .tup [.ref ka]) nt
  have et : upd H2 t (.tup [.ref ka]) t = some (.tup [.ref ka]) := upd_same
  have ek3 := ek.ts (TSame.of St)
  have S03 := KaG.Same.tr S1 (KaG.Same.tr S2 St)
  have ep3 := St _ _ (S2 _ _ ep1)
  generalize upd H2 t (.tup [.ref ka]) = H3 at et ek3 S03 ep3 ⊢
  refine catA_go ep3 et (by rw [List.length_take, List.length_map]; show _ + 1 ≤ 900; omega) fun p2 H4 S4 ep4 => ?_
  have S04 := KaG.Same.tr S03 S4
  refine ⟨_, hb, b, _, 1, .ref kt, rfl, rfl, SqT.of (S04 _ _ e1), rfl, ?_⟩
  refine ⟨_, hk, _, _, rfl, rfl, _, rfl, ?_⟩
  dsimp only [tNoPart]
  refine slA_go (S04 _ _ e3) fun p5 H5 S5 ep5 => ?_
  rw [show ((i : Int) + 1) = ((i + 1 : Nat) : Int) from rfl, cut_drop] at ep5
  refine catA_go (S5 _ _ ep4) ep5 (by rw [List.length_append, List.length_take, List.length_drop, List.length_map]; show _ + 1 + _ ≤ 900; omega) fun q H6 S6 eq => ?_
  refine ⟨sz (by show 2 ≤ 900; decide), fun p np => ?_⟩
  have S7 := same_upd (o := .tup [.ref r, .ref q]) np
  have S47 := KaG.Same.tr S5 (KaG.Same.tr S6 S7)
  have S07 := KaG.Same.tr S04 S47
  refine k p _ S07 ⟨r, q, kas.take i ++ [ka] ++ kas.drop (i + 1), upd_same, S07 _ _ e2, ?_, ?_⟩
  · rw [S7 _ _ eq]
    simp [List.map_append, List.map_take, List.map_drop]
  · rw [List.set_eq_take_append_cons_drop, if_pos hi, List.append_assoc]
    have pk' := Paired.mono' (fun _ _ e => KdAt.ts e (TSame.of S07)) pk
    exact paired_app (paired_take i pk') (.cons (ek3.ts (TSame.of (KaG.Same.tr S4 S47))) (paired_drop (i + 1) pk'))
end KaG
set_option maxRecDepth 100000
set_option maxHeartbeats 4000000
namespace KaG
open PySem PySem.Spec PyProof.Rows L2 KaC KaN LamX NdefX
theorem nds_flat {H : Hp} : ∀ {nss : List (List Addr)} {gs : List (List (List V))}, Paired (fun (ns : List Addr) (g : List (List V)) => NdsAt H ns g) nss gs → NdsAt H nss.flatten gs.flatten
  | _, _, .nil => .nil
  | _, _, .cons h t => by
    rw [List.flatten_cons, List.flatten_cons]
    exact paired_app h (nds_flat t)
theorem flat_le3 : ∀ {l : List (List (List V))}, (∀ g ∈ l, g.length ≤ 3) → l.flatten.length ≤ 3 * l.length
  | [], _ => Nat.le_refl _
  | p :: r, h => by
    have h1 := h p List.mem_cons_self
    have h2 := flat_le3 fun q m => h q (List.mem_cons_of_mem p m)
    rw [List.flatten_cons, List.length_append, List.length_cons]
    omega
theorem paired_mem {α β : Type} {R : α → β → Prop} : ∀ {xs : List α} {ys : List β} {x : α}, Paired R xs ys → x ∈ xs → ∃ y ∈ ys, R x y
  | _, _, _, .nil, m => nomatch m
  | _, _, _, .cons h r, m => by
    rcases List.mem_cons.mp m with c | c
    · rw [c]; exact ⟨_, List.mem_cons_self, h⟩
    · obtain ⟨y, my, q⟩ := paired_mem r c
      exact ⟨y, List.mem_cons_of_mem _ my, q⟩
theorem ifGoP {tt : TT} {b e : TS} {D : Ends} {σ : L2.St} {H : Hp} (c : Prop) (R : Hp → Prop) (hb : c → ∀ M, R M → b D σ M) (he : ∀ M, R M → e D σ M) (hm : ∀ Q : Bool → Hp → Prop, (c → ∀ M, R M → Q true M) → (∀ M, R M → Q false M) → tt σ H Q) : tIfS tt b e D σ H :=
  hm _ (fun hc M r => iteT (hb hc M r)) (fun M r => iteDF rfl (he M r))
theorem add_gr {K : PySem.W.Frag} {rows names : List Str} {M : Hp} {Q : VK} {gt nx : Addr} {gas : List Addr} {gs : List (List (List V))} {it : List V} (eg : M gt = some (.tup (gas.map V.ref))) (hg : GsAt M rows names gas gs) (l : gas.length ≤ 100) (en : M nx = some (.tup it)) (nv : NeedV rows names it)
    (k : ∀ p gx M', Same M M' → M' p = some (.tup ((gas ++ [gx]).map V.ref)) → GsAt M' rows names (gas ++ [gx]) (gs ++ [[it]]) → Q (.ref p) M') :
    ([V.ref nx] : List V).length ≤ sizeLine ∧ ∀ gx, M gx = none → ([V.ref gx] : List V).length ≤ sizeLine ∧ ∀ tx, upd M gx (.tup [.ref nx]) tx = none → rCatA K (.ref gt) (.ref tx) (upd (upd M gx (.tup [.ref nx])) tx (.tup [.ref gx])) Q := by
  have sz : ∀ {m : Nat}, m ≤ 900 → m ≤ sizeLine := fun h => Nat.le_of_lt (small1000 (by omega))
  refine ⟨sz (by show 1 ≤ 900; decide), fun gx ngx => ⟨sz (by show 1 ≤ 900; decide), fun tx ntx => ?_⟩⟩
  have S1 := same_upd (o := .tup [.ref nx]) ngx
  have S2 := same_upd (o := .tup [.ref gx]) ntx
  have S12 := KaG.Same.tr S1 S2
  have egx : upd (upd M gx (.tup [.ref nx])) tx (.tup [.ref gx]) gx = some (.tup [.ref nx]) := S2 _ _ upd_same
  have etx : upd (upd M gx (.tup [.ref nx])) tx (.tup [.ref gx]) tx = some (.tup [.ref gx]) := upd_same
  generalize upd (upd M gx (.tup [.ref nx])) tx (.tup [.ref gx]) = M2 at S12 egx etx ⊢
  refine catA_go (S12 _ _ eg) etx (by rw [List.length_map]; show _ + 1 ≤ 900; omega) fun p M3 S3 ep => ?_
  have S13 := KaG.Same.tr S12 S3
  refine k p gx M3 S13 (by rw [ep, List.map_append]; rfl) ((hg.ts (TSame.of S13)).snoc (grd_one (S3 _ _ egx) (S13 _ _ en)) ⟨by show 0 < 1; decide, by show 1 ≤ 3; decide, fun n2 m2 => ?_⟩)
  rw [List.mem_singleton.mp m2]
  exact nv
section
variable {P : Program} {w : World} {K : PySem.W.Frag} {mg : Str → Option Value} {base : Heap}
abbrev sMgr : Stmt := top 42
abbrev nmMgr : List Str := ["bag", "rulebook", "struck", "k", "way", "name", "keep", "bar", "grounds", "need", "needs", "kind", "ground"]
theorem scMgr : FnScope nmMgr ["bag", "rulebook", "struck"] (defScope sMgr) := ⟨rfl, rfl, rfl, by decide +kernel, rfl, by decide +kernel, by decide +kernel⟩
abbrev scMgr1 : Scope := { kind := .function, names := [(".0", .local), ("ground", .local), ("tuple", .globalImplicit)], isGenerator := false, isCoroutine := false, more := [] }
/-- a lot of rows, and a rulebook's rows -/
def spMgr : Sp := fun vs H Q _ => ∃ (bg b sa : Addr) (rows S : List Str) (ks : List Kd), vs = [.ref bg, .ref b, .ref sa] ∧ Bag H bg ∧ BookAt H b rows ks ∧ BookOk rows ks ∧ rows.length ≤ 5 ∧ 2 ≤ rows.length ∧ H sa = some (.tup (S.map V.str)) ∧ (∀ x ∈ S, x ∈ rows) ∧ 0 < S.length ∧ ∀ (p : Addr) (ks' : List Kd) (H' : Hp), Ext bg H H' → BookAt H' p rows ks' → BookOk rows ks' → Q (.ref p) H'
theorem ok_Mgr {f fT fS fF : Addr} {fd fdT fdS fdF : FuncData} (F : Fun K "_law_more_grounds" "_law_more_grounds" sMgr f fd) (T : TxtC mg) (hlist : mg "list" = none) (C : Ct P w K mg base "_law_some" 2 ["bag", "things"] spSome2 fS fdS) (CT : Ct P w K mg base "_law_take" 1 ["bag", "upto"] spTake fT fdT) (CF : Ct P w K mg base "_law_flat" 1 ["rows"] spFl fF fdF) : FnOk P w K mg base CX0 3 f fd ["bag", "rulebook", "struck"] spMgr := by
  refine F.ok scMgr (fun vs H Q E h => ?_) (fun cdv A outer s H vs Q E hr h => ?_)
  · obtain ⟨bg, b, sa, rows, S, ks, rfl, _⟩ := h
    rfl
  · obtain ⟨bg, b, sa, rows, S, ks, rfl, hB, hA, hO, r5, r2, eS, hS, s0, k⟩ := h
    have hu := hu_of hr
    have hr2 : Room 2 (A.deeper (envOfC "_law_more_grounds" (defScope sMgr) s.heap.objs.size f cdv)) := hr.mono (by decide)
    have hr1 : Room 1 (A.deeper (envOfC "_law_more_grounds" (defScope sMgr) s.heap.objs.size f cdv)) := hr.mono (by decide)
    have u1 : (A.deeper (envOfC "_law_more_grounds" (defScope sMgr) s.heap.objs.size f cdv)).units + 64 < cLine := by have := hr.3; omega
    refine ⟨_, (pss_cons (ps_par (i := 3) (j := 4) rfl scMgr.nd rfl rfl (by decide) rfl rfl (pa_cons (pe_call CT.G hr1 (by rfl) CT.m CT.kp CT.b .nil pass0 (pa_cons (pv 0) (pa_cons (pe_callB call_len_seq (by rfl) T.b.len PySem.boot_len (pa_cons (pe_ix (r := rIxT K) ix_tup (pv 1) pe_int (fun _ _ => rfl)) pa_nil)) pa_nil)))
          (pa_cons (pe_call CT.G hr1 (by rfl) CT.m CT.kp CT.b .nil pass0 (pa_cons (pv 0) (pa_cons pe_int pa_nil))) pa_nil)) rfl)
      (pss_cons (ps_asg (pe_ix (r := rIxT K) ix_tup (pe_ix (r := rIxT K) ix_tup (pv 1) pe_int (fun _ _ => rfl)) (pv 3) (fun _ _ => rfl))
          (pg_tup (by rfl) (pgs_cons (pg_name (i := 5) scMgr.nd rfl (Or.inl rfl)) (pgs_cons (pg_name (i := 6) scMgr.nd rfl (Or.inl rfl)) (pgs_cons (pg_name (i := 7) scMgr.nd rfl (Or.inl rfl)) (pgs_cons (pg_name (i := 8) scMgr.nd rfl (Or.inl rfl)) pgs_nil))))))
      (pss_cons (ps_setLc (i := 10) (own := [("need", 9)]) (g := gName 9) (tt := tTest (tOp rEq (tOp (rIxT K) (tVar 9) (tC (.int 0))) (tC (.str "kind")))) (te := tVar 9) (by rfl) scMgr.nd rfl rfl (sw_true rfl rfl rfl (by decide +kernel)) (pi_list (pe_call CF.G hr1 (by rfl) CF.m CF.kp CF.b .nil pass0 (pa_cons
            (pe_lc (own := [("ground", 12)]) (g := gName 12) (tt := tYes) (te := tCB (rLstOf K) (tCons (tVar 12) tNil)) (by rfl) scMgr.nd (pi_tup (pv 8))
              (blkOk_by (own := [("ground", 12)]) (N := nmMgr) (sc := defScope sMgr) (by decide +kernel)) (fun _ _ _ _ _ => pg_name (i := 12) scMgr.nd rfl (Or.inl rfl)) (fun _ _ _ _ _ => pts_nil)
              (fun _ _ _ _ _ => pe_callTy (T := "list") (r := rLstOf K) call_lstOf (by rfl) hlist (by decide +kernel) (pa_cons (pv 12) pa_nil))) pa_nil)))
          (blkOk_by (own := [("need", 9)]) (N := nmMgr) (sc := defScope sMgr) (by decide +kernel)) (fun _ _ _ _ _ => pg_name (i := 9) scMgr.nd rfl (Or.inl rfl))
          (fun _ _ _ _ _ => pts_one (pt_cmpR (r := rEq) op_eq (pe_ix (r := rIxT K) ix_tup (pv 9) pe_int (fun _ _ => rfl)) pe_str (nomark _))) (fun _ _ _ _ _ => pv 9))
      (pss_cons (ps_if (PW.pt (pw_and (pt_cmpR op_lt (pv 4) pe_int (nomark _)) (pw_and1 (pt_cmpR (r := rNeD K) (op_neD u1) (pv 10) (pe_lst pa_nil) (nomark _)))))
          (pss_cons (ps_set (i := 9) scMgr.nd rfl (Or.inl rfl) (pe_call C.G hr2 (by rfl) C.m C.kp C.b .nil pass0 (pa_cons (pv 0) (pa_cons (pv 10) pa_nil))))
          (pss_one (ps_set (i := 8) scMgr.nd rfl (Or.inl rfl) (pe_op (r := rCatA K) op_catA (pv 8) (pe_tup (pa_cons (pe_tup (pa_cons (pe_op (r := rCatA K) op_catA (pe_slice (r := rSlA K) sl_tupA (pv 9) po_none (po_some pe_int))
              (pe_tup (pa_cons (pe_op op_add pe_int (pe_call CT.G hr1 (by rfl) CT.m CT.kp CT.b .nil pass0 (pa_cons (pv 0) (pa_cons pe_int pa_nil)))) (pa_cons (pe_call CT.G hr1 (by rfl) CT.m CT.kp CT.b .nil pass0 (pa_cons (pv 0) (pa_cons pe_int pa_nil))) (pa_cons pe_int pa_nil))))) pa_nil)) pa_nil))))))
          (pss_one (ps_if (pt_cmpR op_eq (pv 4) pe_int (nomark _))
            (pss_one (ps_set (i := 8) scMgr.nd rfl (Or.inl rfl) (pe_op (r := rCatA K) op_catA (pv 8) (pe_tup (pa_cons (pe_tup (pa_cons (pe_tup (pa_cons pe_str (pa_cons (pe_ix (r := rIxT K) ix_tup (pv 2) pe_int (fun _ _ => rfl)) (pa_cons (pe_call CT.G hr1 (by rfl) CT.m CT.kp CT.b .nil pass0 (pa_cons (pv 0) (pa_cons pe_int pa_nil))) (pa_cons pe_int pa_nil))))) pa_nil)) pa_nil)))))
          (pss_one (ps_if (pt_cmpR op_eq (pv 4) pe_int (nomark _))
            (pss_one (ps_set (i := 8) scMgr.nd rfl (Or.inl rfl) (pe_op (r := rCatA K) op_catA (pv 8) (pe_tup (pa_cons (pe_tup (pa_cons (pe_tup (pa_cons pe_str (pa_cons (pe_call C.G hr2 (by rfl) C.m C.kp C.b .nil pass0 (pa_cons (pv 0) (pa_cons (pe_slice (r := rSlA K) sl_tupA (pe_ix (r := rIxT K) ix_tup (pv 1) pe_int (fun _ _ => rfl)) (po_some pe_int) po_none) pa_nil)))
                (pa_cons (pe_call CT.G hr1 (by rfl) CT.m CT.kp CT.b .nil pass0 (pa_cons (pv 0) (pa_cons pe_int pa_nil))) (pa_cons (pe_call C.G hr2 (by rfl) C.m C.kp C.b .nil pass0 (pa_cons (pv 0) (pa_cons (pe_lst (pa_cons pe_int (pa_cons pe_int (pa_cons pe_int pa_nil)))) pa_nil))) pa_nil))))) pa_nil)) pa_nil)))))
          (pss_one (ps_if (pt_cmpR op_eq (pv 4) pe_int (nomark _))
            (pss_one (ps_set (i := 8) scMgr.nd rfl (Or.inl rfl) (pe_op (r := rCatA K) op_catA (pv 8) (pe_tup (pa_cons (pe_tup (pa_cons (pe_tup (pa_cons pe_str (pa_cons (pe_ix (r := rIxT K) ix_tup (pe_call C.G hr2 (by rfl) C.m C.kp C.b .nil pass0 (pa_cons (pv 0) (pa_cons (pe_ix (r := rIxT K) ix_tup (pv 1) pe_int (fun _ _ => rfl)) pa_nil))) pe_int (fun _ _ => rfl))
                (pa_cons pe_int (pa_cons (pe_call C.G hr2 (by rfl) C.m C.kp C.b .nil pass0 (pa_cons (pv 0) (pa_cons (pe_lst (pa_cons pe_int (pa_cons pe_int (pa_cons pe_int (pa_cons pe_int pa_nil))))) pa_nil))) (pa_cons pe_int pa_nil)))))) pa_nil)) pa_nil)))))
          (pss_one (ps_if (pt_cmpR op_lt (pv 4) pe_int (nomark _))
            (pss_one (ps_set (i := 6) scMgr.nd rfl (Or.inl rfl) (pe_op op_add pe_int (pe_call CT.G hr1 (by rfl) CT.m CT.kp CT.b .nil pass0 (pa_cons (pv 0) (pa_cons pe_int pa_nil))))))
            (pss_one (ps_set (i := 8) scMgr.nd rfl (Or.inl rfl) (pe_callTy (T := "tuple") (r := rTupOf K) call_tupOf (by rfl) T.tup (by decide +kernel) (pa_cons (pe_lc (own := [("ground", 12), ("need", 9)]) (g := gName 12) (tt := tYes)
                (te := tCB (rTupOf K) (tCons (tLc (iTup K (tVar 12)) (gName 9) tYes (tIf (tTest (tOp rEq (tOp (rIxT K) (tVar 9) (tC (.int 0))) (tC (.str "kind")))) (tOp (rCatA K) (tSl (rSlA K) (tVar 9) tNoPart (tPart (tUn (rU fun i => V.int (-i)) (tC (.int 2))))) (tTup (tCons (tC (.int 0)) (tCons (tOp (rIxT K) (tVar 9) (tUn (rU fun i => V.int (-i)) (tC (.int 1)))) tNil)))) (tVar 9)) [9]) tNil)) (by rfl) scMgr.nd (pi_tup (pv 8))
                (blkOk_by (own := [("ground", 12), ("need", 9)]) (N := nmMgr) (sc := defScope sMgr) (by decide +kernel)) (fun _ _ _ _ _ => pg_name (i := 12) scMgr.nd rfl (Or.inl rfl)) (fun _ _ _ _ _ => pts_nil)
                (fun _ _ _ _ _ => pe_callTy (T := "tuple") (r := rTupOf K) call_tupOf (by rfl) T.tup (by decide +kernel) (pa_cons (pe_lc (own := [("need", 9)]) (g := gName 9) (wi := iTup K (tVar 12)) (tt := tYes) (by rfl) scMgr.nd (pi_tup (pv 12))
                    (blkOk_by (own := [("need", 9)]) (N := nmMgr) (sc := scMgr1) (by decide +kernel)) (fun _ _ _ _ _ => pg_name (i := 9) scMgr.nd rfl (Or.inl rfl)) (fun _ _ _ _ _ => pts_nil)
                    (fun _ _ _ _ _ => pe_ifExp (pt_cmpR (r := rEq) op_eq (pe_ix (r := rIxT K) ix_tup (pv 9) pe_int (fun _ _ => rfl)) pe_str (nomark _)) (pe_op (r := rCatA K) op_catA (pe_slice (r := rSlA K) sl_tupA (pv 9) po_none (po_some (pe_un un_neg pe_int))) (pe_tup (pa_cons pe_int (pa_cons (pe_ix (r := rIxT K) ix_tup (pv 9) (pe_un un_neg pe_int) (fun _ _ => rfl)) pa_nil)))) (pv 9))) pa_nil))) pa_nil)))))))))))))
      (pss_cons (ps_set (i := 11) scMgr.nd rfl (Or.inl rfl) (pe_tup (pa_cons (pv 5) (pa_cons (pv 6) (pa_cons (pv 7) (pa_cons (pe_slice (r := rSlA K) sl_tupA (pe_callTy (T := "tuple") (r := rTupOf K) call_tupOf (by rfl) T.tup (by decide +kernel) (pa_cons (pe_callB (cr_sortN rfl u1) (by rfl) T.sor (by decide +kernel) (pa_cons (pe_callTy (cr_setNw rfl u1) (by rfl) T.set (by decide +kernel) (pa_cons (pv 8) pa_nil)) pa_nil)) pa_nil)) (po_some (pe_un un_neg pe_int)) po_none) pa_nil))))))
      (pss_one (ps_ret (pe_tup (pa_cons (pe_ix (r := rIxT K) ix_tup (pv 1) pe_int (fun _ _ => rfl)) (pa_cons (pe_op (r := rCatA K) op_catA (pe_op (r := rCatA K) op_catA (pe_slice (r := rSlA K) sl_tupA (pe_ix (r := rIxT K) ix_tup (pv 1) pe_int (fun _ _ => rfl)) po_none (po_some (pv 3))) (pe_tup (pa_cons (pv 11) pa_nil))) (pe_slice (r := rSlA K) sl_tupA (pe_ix (r := rIxT K) ix_tup (pv 1) pe_int (fun _ _ => rfl)) (po_some (pe_op op_add (pv 3) pe_int)) po_none)) pa_nil)))))))))), ?_⟩
    have sz : ∀ {m : Nat}, m ≤ 900 → m ≤ sizeLine := fun h => Nat.le_of_lt (small1000 (by omega))
    have hk5 := hO.k5
    have hk0 := hO.k0
    obtain ⟨r, kt, kas, e1, e2, e3, pk⟩ := id hA
    have hlen := paired_len pk
    refine ⟨_, rfl, _, rfl, b, _, 1, .ref kt, rfl, rfl, SqT.of e1, rfl, kt, kas.map V.ref, rfl, .inr (SqT.of e3), bg, _, rfl, hB, by rw [List.length_map]; omega, by rw [List.length_map]; omega, fun z H1 E1 z0 z1 => ?_⟩
    rw [List.length_map] at z1
    refine ⟨_, rfl, bg, 8, rfl, E1.bag, by decide, by decide, fun way H2 E2 w0 w8 => ?_⟩
    have E12 := E1.trans E2
    refine ⟨_, _, rfl, ?_⟩
    obtain ⟨i, rfl⟩ := Int.eq_ofNat_of_zero_le z0
    have hi : i < ks.length := by omega
    have ha : kas[i]? = some kas[i] := List.getElem?_eq_getElem (by omega)
    obtain ⟨kd, hkd, gt, gas, f1, f2, f3⟩ := paired_at pk ha
    have mk := List.mem_of_getElem? hkd
    obtain ⟨p1, p8, b0, b60, g4⟩ := hO.num kd mk
    have hgr := hO.grd kd mk
    have hgl := paired_len f3
    have T2 := TSame.ext hB E12
    have hr' := hO.rw.of
    have hn' := hO.nm.of
    refine ⟨_, rfl, b, _, 1, .ref kt, rfl, rfl, SqT.of (T2 _ _ e1), rfl, _, rfl, kt, _, (i : Int), .ref kas[i], rfl, rfl, SqT.of (T2 _ _ e3), atI_nat (by rw [List.getElem?_map, ha]; rfl), ?_⟩
    refine ⟨kas[i], _, rfl, SqT.of (T2 _ _ f1), rfl, _, _, rfl, _, _, rfl, _, _, rfl, _, _, rfl, rfl, ?_⟩
    have hg2 : GsAt H2 rows (nmsOf ks) gas kd.gs := ⟨Paired.mono' (fun _ _ e => Grd.ts e T2) f3, hgr⟩
    have eg2 := T2 _ _ f2
    -- the kind needs
    refine ⟨_, rfl, gt, rfl, ⟨_, SqT.of eg2⟩, fun D nD => ?_⟩
    dsimp only [tNil]
    refine go_tup (K := K) (a := gt) (xs := gas.map V.ref) (fun i G => Same H2 G ∧ ∃ (qs : List Addr) (nss : List (List Addr)), G D = some (.lst (qs.map V.ref)) ∧ (∀ q ∈ qs, q ≠ D) ∧ Paired (fun q (ns : List Addr) => G q = some (.lst (ns.map V.ref))) qs nss ∧ Paired (fun (ns : List Addr) (g : List (List V)) => NdsAt H2 ns g) nss (kd.gs.take i)) ?_ ?_ ?_ ?_
    · exact ⟨same_upd nD, [], [], upd_same, (fun _ z => nomatch z), .nil, .nil⟩
    · rintro i G _ ⟨SG, _⟩
      exact SqT.of (SG _ _ eg2)
    · rintro j v G hv ⟨SG, qs, nss, gD, nqs, pq, px⟩
      rw [List.getElem?_map] at hv
      obtain ⟨ga, hga, rfl⟩ := Option.map_eq_some_iff.mp hv
      obtain ⟨g, hg, ns, eg, pn⟩ := paired_at hg2.pr hga
      have hj := (List.getElem?_eq_some_iff.mp hg).1
      have gin := hg2.ok g (List.mem_of_getElem? hg)
      have tk : kd.gs.take (j + 1) = kd.gs.take j ++ [g] := by rw [List.take_add_one, hg]; rfl
      have lq := paired_len pq
      have lx := paired_len px
      rw [List.length_take] at lx
      refine ⟨rfl, tYes_go (iteT ?_)⟩
      refine ⟨_, rfl, ga, _, rfl, .inr (SqT.of (SG _ _ eg)), fun q nq => ?_⟩
      have Sq := same_upd (o := .lst (ns.map V.ref)) nq
      have eq : upd G q (.lst (ns.map V.ref)) q = some (.lst (ns.map V.ref)) := upd_same
      have S2 := KaG.Same.tr SG Sq
      have gD2 := Sq _ _ gD
      have pq2 := Paired.mono' (fun _ _ e => Sq _ _ e) pq
      have qD : q ≠ D := fun z => by rw [z, gD] at nq; cases nq
      generalize upd G q (.lst (ns.map V.ref)) = G2 at eq S2 gD2 pq2 ⊢
      refine ⟨_, gD2, small1000 (by rw [List.length_map]; omega), fun b u e => by rw [upd_ne (ne_of_none e nD)]; exact S2 b u e, qs ++ [q], nss ++ [ns], by rw [upd_same, List.map_append]; rfl, fun q2 m => ?_, ?_, ?_⟩
      · rcases List.mem_append.mp m with z | z
        · exact nqs q2 z
        · rw [List.mem_singleton.mp z]; exact qD
      · exact paired_app (paired_inL (fun a xs m e => by rw [upd_ne (nqs a m)]; exact e) pq2) (.cons (by rw [upd_ne qD]; exact eq) .nil)
      · rw [tk]
        exact paired_app px (.cons pn .nil)
    · rintro G7 ⟨SG7, qs, nss, gD7, nqs, pq, px⟩
      rw [List.length_map, hgl, List.take_length] at px
      have efl : ∀ lss : List (List Addr), (lss.map fun xs => xs.map V.ref).flatten = lss.flatten.map V.ref := fun lss => by rw [List.map_flatten]
      have pfl := nds_flat px
      have lfl := paired_len pfl
      have l12 : kd.gs.flatten.length ≤ 12 := by
        have := flat_le3 (l := kd.gs) fun g m => (hgr g m).2.1
        omega
      have inF : ∀ it ∈ kd.gs.flatten, NeedV rows (nmsOf ks) it := fun it m => by
        obtain ⟨g, mg', m⟩ := List.mem_flatten.mp m
        exact (hgr g mg').2.2 it m
      refine ⟨D, qs, nss.map fun xs => xs.map V.ref, rfl, gD7, paired_mapR pq, by rw [efl, List.length_map]; omega, fun fl G8 S8 nfl efl8 => ?_⟩
      rw [efl] at efl8
      have S68 := KaG.Same.tr SG7 S8
      have pfl8 := Paired.mono' (fun _ _ e => S68 _ _ e) pfl
      generalize nss.flatten = fas at efl8 pfl8 lfl
      generalize hFL : kd.gs.flatten = FL at pfl8 lfl l12 inF
      clear px pfl
      refine ⟨fl, rfl, ⟨_, SqL.of efl8⟩, fun D9 nD9 => ?_⟩
      refine go_list (K := K) (a := fl) (xs := fas.map V.ref) (fun i G => Same G8 G ∧ ∃ as : List Addr, G D9 = some (.lst (as.map V.ref)) ∧ NdsAt G as ((FL.take i).filter isKn)) ?_ ?_ ?_ ?_
      · exact ⟨same_upd nD9, [], upd_same, .nil⟩
      · rintro i G _ ⟨SG, _⟩
        exact SqL.of (SG _ _ efl8)
      · rintro j v G hv ⟨SG, as, gD, pa⟩
        rw [List.getElem?_map] at hv
        obtain ⟨n, hn, rfl⟩ := Option.map_eq_some_iff.mp hv
        obtain ⟨it, hit, en⟩ := paired_at pfl8 hn
        have tk : FL.take (j + 1) = FL.take j ++ [it] := by rw [List.take_add_one, hit]; rfl
        have la := paired_len pa
        have lf := List.length_filter_le isKn (FL.take j)
        rw [List.length_take] at lf
        have enG := SG _ _ en
        have nv := inF it (List.mem_of_getElem? hit)
        refine ⟨rfl, ?_⟩
        cases nv with
        | row n' t m h h0 h4 m0 m9 =>
          refine ⟨_, rfl, n, _, 0, .str "row", rfl, rfl, SqT.of enG, rfl, rfl, _, rfl, ?_⟩
          refine iteDF (by decide +kernel) ⟨SG, as, gD, ?_⟩
          rw [tk, List.filter_append, List.filter_cons_of_neg (show ¬ isKn [V.str "row", .str n', .int t, .int m] = true from Bool.false_ne_true), List.filter_nil, List.append_nil]
          exact pa
        | kind n' a t m h a1 a9 h0 h4 m0 m9 =>
          refine ⟨_, rfl, n, _, 0, .str "kind", rfl, rfl, SqT.of enG, rfl, rfl, _, rfl, ?_⟩
          have tsl := ts_lst (ys := as.map V.ref ++ [V.ref n]) gD
          refine iteD (by decide +kernel) ⟨_, rfl, _, gD, small1000 (by rw [List.length_map]; omega), fun b u e => by rw [upd_ne (ne_of_none e nD9)]; exact SG b u e, as ++ [n], by rw [upd_same, List.map_append]; rfl, ?_⟩
          rw [tk, List.filter_append, List.filter_cons_of_pos (p := isKn) rfl, List.filter_nil]
          exact paired_app (Paired.mono' (fun _ _ e => tsl _ _ e) pa) (.cons (tsl _ _ enG) .nil)
      · rintro G9 ⟨SG9, as, gD9, pa⟩
        rw [List.length_map, lfl, List.take_length] at pa
        have inK : ∀ it ∈ FL.filter isKn, NeedV rows (nmsOf ks) it ∧ isKn it = true := fun it m => ⟨inF it (List.mem_filter.mp m).1, (List.mem_filter.mp m).2⟩
        have lK : (FL.filter isKn).length ≤ 12 := by have := List.length_filter_le isKn FL; omega
        generalize FL.filter isKn = NK at pa inK lK
        have S29 := KaG.Same.tr S68 SG9
        have E9 := E12.trans (Ext.of_same E12.bag S29)
        have eg9 := S29 _ _ eg2
        have hg9 := hg2.ts (TSame.of S29)
        dsimp only [gName]
        refine seqGo (fun bT D' => ∀ (kp : Int) (ga : Addr) (bs : List Addr) (hs : List (List (List V))) (x9 : Option V) (G : Hp), Ext bg H G → 1 ≤ kp → kp ≤ 8 → G ga = some (.tup (bs.map V.ref)) → GsAt G rows (nmsOf ks) bs hs → hs.length ≤ 5 →
          bT D' [some (.ref bg), some (.ref b), some (.ref sa), some (.int (i : Int)), some (.int way), some (.str kd.name), some (.int kp), some (.int kd.bar), some (.ref ga), x9, some (.ref D9), none, none] G) (fun kp ga bs hs x9 G EG k1 k8 ega hgs l5 => ?_) (fun rest => ?_)
        · have lbs := paired_len hgs.pr
          refine ⟨_, rfl, _, rfl, _, rfl, _, rfl, ?_⟩
          dsimp only [tCB, tCons, tNil]
          refine order_groundsw (K := K) (w := w) (rows := rows) (names := nmsOf ks) (.inr (SqT.of ega)) hgs.pr (fun g m => ⟨(hgs.ok g m).1, (hgs.ok g m).2.2⟩) (by omega) fun a2 bs2 gs2 J1 S1 na2 ea2 pr2 sub le => ?_
          refine ⟨_, rfl, _, rfl, ?_⟩
          dsimp only [tNoPart]
          refine slA_go ea2 fun a3 J2 S2 ea3 => ?_
          have ec : cutV (bs2.map V.ref) (some (-4)) none = (bs2.drop (bs2.length - 4)).map V.ref := by
            rw [show (-4 : Int) = -((4 : Nat) : Int) from rfl, cut_last _ 4 (by decide), List.length_map, List.map_drop]
          rw [ec] at ea3
          refine ⟨sz (by show 4 ≤ 900; decide), fun ka nka => ?_⟩
          have S3 := same_upd (o := .tup [.str kd.name, .int kp, .int kd.bar, .ref a3]) nka
          have eka : upd J2 ka (.tup [.str kd.name, .int kp, .int kd.bar, .ref a3]) ka = some (.tup [.str kd.name, .int kp, .int kd.bar, .ref a3]) := upd_same
          have ea4 := S3 _ _ ea3
          have S13 := KaG.Same.tr S1 (KaG.Same.tr S2 S3)
          have S23 := KaG.Same.tr S2 S3
          generalize upd J2 ka (.tup [.str kd.name, .int kp, .int kd.bar, .ref a3]) = J3 at eka ea4 S13 S23 ⊢
          have E3 := EG.trans (Ext.of_same EG.bag S13)
          have lbs2 := paired_len pr2
          have pr3 : Paired (fun a g => Grd J3 a g) (bs2.drop (bs2.length - 4)) (gs2.drop (bs2.length - 4)) := paired_drop _ (Paired.mono' (fun _ _ e => Grd.ts e (TSame.of S23)) pr2)
          dsimp only [gName]
          refine put_te (kn := 3) (kd' := ⟨kd.name, kp, kd.bar, gs2.drop (bs2.length - 4)⟩) rfl rfl (hA.ts (TSame.ext hB E3)) hi hk5 (fun J4 Q' S4 q => ⟨_, rfl, q ka J4 Same.refl' ⟨a3, _, S4 _ _ eka, S4 _ _ ea4, Paired.mono' (fun _ _ e => Grd.ts e (TSame.of S4)) pr3⟩⟩) fun p J5 S5 hA5 => ?_
          refine k p _ J5 (E3.trans (Ext.of_same E3.bag S5)) hA5 (book_put hO hkd rfl ⟨k1, k8, b0, b60, ?_⟩ fun g m => ?_)
          · show (gs2.drop (bs2.length - 4)).length ≤ 4
            rw [List.length_drop]; omega
          · exact hgs.ok g (sub g (List.mem_of_mem_drop m))
        · have D9b : D9 ≠ bg := fun z => (E12.trans (Ext.of_same E12.bag S68)).bag.there (z ▸ nD9)
          have gtb : gt ≠ bg := tup_ne E12.bag eg2
          have ktb : kt ≠ bg := tup_ne hB e3
          have rb : r ≠ bg := tup_ne hB e2
          have lga : gas.length ≤ 4 := by omega
          have lpa := paired_len pa
          -- an added ground
          have addEnd : ∀ (x9 : Option V) (M : Hp) (p gx : Addr) (it : List V), Ext bg H M → M p = some (.tup ((gas ++ [gx]).map V.ref)) → GsAt M rows (nmsOf ks) (gas ++ [gx]) (kd.gs ++ [[it]]) → _ := fun x9 M p gx it EM ep hgs => rest kd.keep p (gas ++ [gx]) (kd.gs ++ [[it]]) x9 M EM p1 p8 ep hgs (by rw [List.length_append]; show _ + 1 ≤ 5; omega)
          refine ifGoP (σ := [some (.ref bg), some (.ref b), some (.ref sa), some (.int (i : Int)), some (.int way), some (.str kd.name), some (.int kd.keep), some (.int kd.bar), some (.ref gt), none, some (.ref D9), none, none]) (NK ≠ []) (fun M => Same G9 M) (fun hne M SM => ?_) (fun M SM => ?_) (fun Q' q1 q2 => ?_)
          · have EM := E9.trans (Ext.of_same E9.bag SM)
            have l0 : 0 < NK.length := List.length_pos_iff.mpr hne
            refine ⟨_, rfl, _, rfl, bg, D9, _, rfl, EM.bag, D9b, .inl (SM _ _ gD9), by rw [List.length_map]; omega, by rw [List.length_map]; omega, fun v M1 mv E1 => ?_⟩
            obtain ⟨n, mn, rfl⟩ := List.mem_map.mp mv
            obtain ⟨it, mit, en⟩ := paired_mem pa mn
            obtain ⟨nv, kn⟩ := inK it mit
            have T1 : TSame G9 M1 := TSame.ext E9.bag ((Ext.of_same E9.bag SM).trans E1)
            have EM1 := EM.trans E1
            cases nv with
            | row n' t m h h0 h4 m0 m9 => exact absurd kn Bool.false_ne_true
            | kind n' a t m h a1 a9 h0 h4 m0 m9 =>
              dsimp only [gName]
              refine ⟨_, rfl, _, rfl, _, rfl, slA_go (T1 _ _ en) fun q1 M2 S2 eq1 => ?_⟩
              rw [cut_to _ 2 (by decide)] at eq1
              have EM2 := EM1.trans (Ext.of_same EM1.bag S2)
              refine ⟨_, rfl, bg, 3, rfl, EM2.bag, by decide, by decide, fun y M3 E3 c0 c1 => ⟨_, _, rfl, rfl, _, rfl, bg, 5, rfl, E3.bag, by decide, by decide, fun t2 M4 E4 d0 d1 => ⟨sz (by show 3 ≤ 900; decide), fun tt ntt => ?_⟩⟩⟩
              have St := same_upd (o := .tup [.int (1 + y), .int t2, .int 9]) ntt
              have EM5 := ((EM2.trans E3).trans E4).new (o := .tup [.int (1 + y), .int t2, .int 9]) ntt
              have T25 : TSame M2 (upd M4 tt (.tup [.int (1 + y), .int t2, .int 9])) := TSame.ext EM2.bag ((E3.trans E4).new ntt)
              refine catA_go (T25 _ _ eq1) upd_same (by show 2 + 3 ≤ 900; decide) fun nx M6 S6 enx => ?_
              have T6 : TSame H2 M6 := (TSame.of S29).tr (T1.tr ((TSame.of S2).tr (T25.tr (TSame.of S6))))
              have EM6 := EM5.trans (Ext.of_same EM5.bag S6)
              exact add_gr (it := [.str "kind", .str n', .int (1 + y), .int t2, .int 9]) (T6 _ _ eg2) (hg2.ts T6) (by omega) enx (.kind n' (1 + y) t2 9 h (by omega) (by omega) d0 (by omega) (by decide) (by decide)) fun p gx M7 S7 ep hgs => addEnd _ M7 p gx _ (EM6.trans (Ext.of_same EM6.bag S7)) ep hgs
          · have EM := E9.trans (Ext.of_same E9.bag SM)
            have TM : TSame H M := TSame.ext hB EM
            have TM2 : TSame H2 M := TSame.of (KaG.Same.tr S29 SM)
            refine ⟨_, rfl, rfl, _, rfl, ite2 (fun _ => ?_) fun _ => ?_⟩
            · obtain ⟨x0, mx0, ex0⟩ := at_str (ns := S) (z := 0) (by decide) (by omega)
              refine ⟨_, rfl, _, rfl, sa, _, 0, .str x0, rfl, rfl, SqT.of (TM _ _ eS), ex0, _, rfl, bg, 5, rfl, EM.bag, by decide, by decide, fun t2 M1 E1 d0 d1 => ⟨sz (by show 4 ≤ 900; decide), fun nx nnx => ?_⟩⟩
              have EM2 := (EM.trans E1).new (o := .tup [.str "row", .str x0, .int t2, .int 9]) nnx
              have T2 : TSame H2 _ := TM2.tr (TSame.ext EM.bag (E1.new (o := .tup [.str "row", .str x0, .int t2, .int 9]) nnx))
              exact add_gr (it := [.str "row", .str x0, .int t2, .int 9]) (T2 _ _ eg2) (hg2.ts T2) (by omega) upd_same (.row x0 t2 9 (hS x0 mx0) d0 (by omega) (by decide) (by decide)) fun p gx M7 S7 ep hgs => addEnd _ M7 p gx _ (EM2.trans (Ext.of_same EM2.bag S7)) ep hgs
            refine ⟨_, rfl, rfl, _, rfl, ite2 (fun _ => ?_) fun _ => ?_⟩
            · refine ⟨_, rfl, _, rfl, _, rfl, b, _, 0, .ref r, rfl, rfl, SqT.of (TM _ _ e1), rfl, _, rfl, ?_⟩
              dsimp only [tNoPart]
              refine slA_go (TM _ _ e2) fun rx M1 S1 erx => ?_
              rw [show (1 : Int) = ((1 : Nat) : Int) from rfl, cut_drop, ← List.map_drop] at erx
              have EM1 := EM.trans (Ext.of_same EM.bag S1)
              refine ⟨bg, rx, _, rfl, EM1.bag, tup_ne EM1.bag erx, .inr erx, by rw [List.length_map, List.length_drop]; omega, by rw [List.length_map, List.length_drop]; omega, fun v M2 mv E2 => ?_⟩
              obtain ⟨x0, rfl, mx0⟩ := strs_in mv
              have mx0 := List.mem_of_mem_drop mx0
              have EM2 := EM1.trans E2
              refine ⟨_, rfl, bg, 5, rfl, EM2.bag, by decide, by decide, fun t2 M3 E3 d0 d1 => ?_⟩
              have EM3 := EM2.trans E3
              refine ⟨_, rfl, sz (by show 3 ≤ 900; decide), fun q nq => ?_⟩
              have EM4 := EM3.new (o := .lst [.int 9, .int 9, .int 2]) nq
              refine ⟨bg, q, _, rfl, EM4.bag, fun z => EM3.bag.there (z ▸ nq), .inl upd_same, by decide, by decide, fun u M5 mu E5 => ?_⟩
              obtain ⟨y, rfl, y0, y9⟩ := ints_in (ns := [9, 9, 2]) (lo := 2) (hi := 9) (by decide) mu
              have EM5 := EM4.trans E5
              refine ⟨sz (by show 4 ≤ 900; decide), fun nx nnx => ?_⟩
              have EM6 := EM5.new (o := .tup [.str "row", .str x0, .int t2, .int y]) nnx
              have T2 : TSame H2 _ := TSame.ext E12.bag ((Ext.of_same E12.bag (KaG.Same.tr S29 (KaG.Same.tr SM S1))).trans ((E2.trans (E3.new (o := .lst [.int 9, .int 9, .int 2]) nq)).trans (E5.new (o := .tup [.str "row", .str x0, .int t2, .int y]) nnx)))
              exact add_gr (it := [.str "row", .str x0, .int t2, .int y]) (T2 _ _ eg2) (hg2.ts T2) (by omega) upd_same (.row x0 t2 y mx0 d0 (by omega) (by omega) y9) fun p gx M7 S7 ep hgs => addEnd _ M7 p gx _ (EM6.trans (Ext.of_same EM6.bag S7)) ep hgs
            refine ⟨_, rfl, rfl, _, rfl, ite2 (fun _ => ?_) fun _ => ?_⟩
            · refine ⟨_, rfl, _, rfl, _, rfl, b, _, 1, .ref kt, rfl, rfl, SqT.of (TM _ _ e1), rfl, bg, kt, _, rfl, EM.bag, ktb, .inr (TM _ _ e3), by rw [List.length_map]; omega, by rw [List.length_map]; omega, fun v M1 mv E1 => ?_⟩
              obtain ⟨ka2, mka2, rfl⟩ := List.mem_map.mp mv
              obtain ⟨kd2, mkd2, gt2, gas2, v1, v2, v3⟩ := paired_mem pk mka2
              have EM1 := EM.trans E1
              refine ⟨ka2, _, 0, .str kd2.name, rfl, rfl, SqT.of (TSame.ext hB EM1 _ _ v1), rfl, ?_⟩
              refine ⟨_, rfl, sz (by show 4 ≤ 900; decide), fun q nq => ?_⟩
              have EM4 := EM1.new (o := .lst [.int 4, .int 0, .int 3, .int 4]) nq
              refine ⟨bg, q, _, rfl, EM4.bag, fun z => EM1.bag.there (z ▸ nq), .inl upd_same, by decide, by decide, fun u M5 mu E5 => ?_⟩
              obtain ⟨y, rfl, y0, y4⟩ := ints_in (ns := [4, 0, 3, 4]) (lo := 0) (hi := 4) (by decide) mu
              have EM5 := EM4.trans E5
              refine ⟨sz (by show 5 ≤ 900; decide), fun nx nnx => ?_⟩
              have EM6 := EM5.new (o := .tup [.str "kind", .str kd2.name, .int 9, .int y, .int 9]) nnx
              have T2 : TSame H2 _ := TM2.tr (TSame.ext EM.bag ((E1.new (o := .lst [.int 4, .int 0, .int 3, .int 4]) nq).trans (E5.new (o := .tup [.str "kind", .str kd2.name, .int 9, .int y, .int 9]) nnx)))
              exact add_gr (it := [.str "kind", .str kd2.name, .int 9, .int y, .int 9]) (T2 _ _ eg2) (hg2.ts T2) (by omega) upd_same (.kind kd2.name 9 y 9 (List.mem_map_of_mem mkd2) (by decide) (by decide) y0 y4 (by decide) (by decide)) fun p gx M7 S7 ep hgs => addEnd _ M7 p gx _ (EM6.trans (Ext.of_same EM6.bag S7)) ep hgs
            refine ⟨_, rfl, _, _, rfl, rfl, _, rfl, ite2 (fun _ => ?_) fun _ => ?_⟩
            · refine ⟨_, rfl, bg, 4, rfl, EM.bag, by decide, by decide, fun y M1 E1 c0 c1 => ⟨_, _, rfl, rfl, ?_⟩⟩
              have T1 := TM2.tr (TSame.ext EM.bag E1)
              exact rest (2 + y) gt gas kd.gs _ M1 (EM.trans E1) (by omega) (by omega) (T1 _ _ eg2) (hg2.ts T1) (by omega)
            · have eM := TM2 _ _ eg2
              have hgM := hg2.ts TM2
              refine ⟨_, rfl, gt, rfl, ⟨_, SqT.of eM⟩, fun D nD => ?_⟩
              dsimp only [tNil]
              refine go_tup (K := K) (a := gt) (xs := gas.map V.ref) (fun j J => Same M J ∧ ∃ (as : List Addr) (hs : List (List (List V))), J D = some (.lst (as.map V.ref)) ∧ GsAt J rows (nmsOf ks) as hs ∧ hs.length = j) ?_ ?_ ?_ ?_
              · exact ⟨same_upd nD, [], [], upd_same, GsAt.nil, rfl⟩
              · rintro j J _ ⟨SJ, _⟩
                exact SqT.of (SJ _ _ eM)
              · rintro j v J hv ⟨SJ, as, hs, jD, hgs, lj⟩
                rw [List.getElem?_map] at hv
                obtain ⟨ga, hga, rfl⟩ := Option.map_eq_some_iff.mp hv
                obtain ⟨g, hg, ns, eg, pn⟩ := paired_at hgM.pr hga
                have hj := (List.getElem?_eq_some_iff.mp hg).1
                obtain ⟨g0, g3, gn⟩ := hgM.ok g (List.mem_of_getElem? hg)
                have las := paired_len hgs.pr
                have lns := paired_len pn
                refine ⟨rfl, tYes_go (iteT ?_)⟩
                refine ⟨_, rfl, ga, rfl, ⟨_, SqT.of (SJ _ _ eg)⟩, fun D2 nD2 => ?_⟩
                refine go_tup (K := K) (a := ga) (xs := ns.map V.ref) (fun q G => Same J G ∧ ∃ (ms : List Addr) (its : List (List V)), G D2 = some (.lst (ms.map V.ref)) ∧ NdsAt G ms its ∧ (∀ it ∈ its, NeedV rows (nmsOf ks) it) ∧ its.length = q) ?_ ?_ ?_ ?_
                · exact ⟨same_upd nD2, [], [], upd_same, .nil, (fun _ z => nomatch z), rfl⟩
                · rintro q G _ ⟨SG, _⟩
                  exact SqT.of (SG _ _ (SJ _ _ eg))
                · rintro q v G hv ⟨SG, ms, its, gD, pm, hit, lq⟩
                  rw [List.getElem?_map] at hv
                  obtain ⟨n, hn, rfl⟩ := Option.map_eq_some_iff.mp hv
                  obtain ⟨it, hi2, en⟩ := paired_at pn hn
                  have hq := (List.getElem?_eq_some_iff.mp hi2).1
                  have nv := gn it (List.mem_of_getElem? hi2)
                  have lm := paired_len pm
                  have enG := SG _ _ (SJ _ _ en)
                  have put : ∀ (n' : Addr) (it' : List V) (G' : Hp), Same G G' → G' n' = some (.tup it') → NeedV rows (nmsOf ks) it' → ∃ acc, G' D2 = some (.lst acc) ∧ acc.length < sizeLine ∧ Same J (upd G' D2 (.lst (acc ++ [.ref n']))) ∧ ∃ (ms : List Addr) (its : List (List V)), upd G' D2 (.lst (acc ++ [.ref n'])) D2 = some (.lst (ms.map V.ref)) ∧ NdsAt (upd G' D2 (.lst (acc ++ [.ref n']))) ms its ∧ (∀ it ∈ its, NeedV rows (nmsOf ks) it) ∧ its.length = q + 1 := fun n' it' G' S' e' v' => by
                    have gD' := S' _ _ gD
                    have tsl := ts_lst (ys := ms.map V.ref ++ [V.ref n']) gD'
                    refine ⟨_, gD', small1000 (by rw [List.length_map]; omega), fun b u e => by rw [upd_ne (ne_of_none e nD2)]; exact S' b u (SG b u e), ms ++ [n'], its ++ [it'], by rw [upd_same, List.map_append]; rfl, ?_, fun x m => ?_, by rw [List.length_append, lq]; rfl⟩
                    · exact paired_app (Paired.mono' (fun _ _ e => tsl _ _ (S' _ _ e)) pm) (.cons (tsl _ _ e') .nil)
                    · rcases List.mem_append.mp m with c | c
                      · exact hit x c
                      · rw [List.mem_singleton.mp c]; exact v'
                  refine ⟨rfl, tYes_go (iteT ?_)⟩
                  cases nv with
                  | row n' t m h h0 h4 m0 m9 =>
                    refine ⟨_, rfl, n, _, 0, .str "row", rfl, rfl, SqT.of enG, rfl, rfl, _, rfl, iteDF (by decide +kernel) ⟨_, rfl, ?_⟩⟩
                    exact put n _ G Same.refl' enG (.row n' t m h h0 h4 m0 m9)
                  | kind n' a t m h a1 a9 h0 h4 m0 m9 =>
                    refine ⟨_, rfl, n, _, 0, .str "kind", rfl, rfl, SqT.of enG, rfl, rfl, _, rfl, iteD (by decide +kernel) ⟨_, rfl, _, rfl, _, rfl, slA_go enG fun s1 G1 S1 es1 => ?_⟩⟩
                    rw [show (-2 : Int) = -((2 : Nat) : Int) from rfl, cut_but _ 2 (by decide)] at es1
                    refine ⟨_, rfl, _, rfl, n, _, _, .int m, rfl, rfl, SqT.of (S1 _ _ enG), rfl, sz (by show 2 ≤ 900; decide), fun t1 nt1 => ?_⟩
                    have St := same_upd (o := .tup [.int 0, .int m]) nt1
                    refine catA_go (St _ _ es1) upd_same (by show 3 + 2 ≤ 900; decide) fun n2 G2 S2 en2 => ?_
                    exact put n2 [.str "kind", .str n', .int a, .int 0, .int m] G2 (KaG.Same.tr S1 (KaG.Same.tr St S2)) en2 (.kind n' a 0 m h a1 a9 (by decide) (by decide) m0 m9)
                · rintro G ⟨SG, ms, its, gD, pm, hit, lq⟩
                  rw [List.length_map] at lq
                  have lm := paired_len pm
                  refine ⟨D2, _, rfl, .inl ⟨SqL.of gD, fun t nt => ?_⟩⟩
                  have St := same_upd (o := .tup (ms.map V.ref)) nt
                  have et : upd G t (.tup (ms.map V.ref)) t = some (.tup (ms.map V.ref)) := upd_same
                  have S2 := KaG.Same.tr SJ (KaG.Same.tr SG St)
                  have jD2 := St _ _ (SG _ _ jD)
                  have hgs2 := hgs.ts (TSame.of (KaG.Same.tr SG St))
                  have pm2 := Paired.mono' (fun _ _ e => St _ _ e) pm
                  generalize upd G t (.tup (ms.map V.ref)) = G2 at et S2 jD2 hgs2 pm2 ⊢
                  have tsl := ts_lst (ys := as.map V.ref ++ [V.ref t]) jD2
                  exact ⟨_, jD2, small1000 (by rw [List.length_map]; omega), fun b u e => by rw [upd_ne (ne_of_none e nD)]; exact S2 b u e, as ++ [t], hs ++ [its], by rw [upd_same, List.map_append]; rfl, (hgs2.snoc (g := its) ⟨ms, et, pm2⟩ ⟨by omega, by omega, hit⟩).ts tsl, by rw [List.length_append, lj]; rfl⟩
              · rintro J ⟨SJ, as, hs, jD, hgs, lj⟩
                rw [List.length_map] at lj
                refine ⟨D, _, rfl, .inl ⟨SqL.of jD, fun t nt => ?_⟩⟩
                have St := same_upd (o := .tup (as.map V.ref)) nt
                exact rest kd.keep t as hs _ _ (EM.trans (Ext.of_same EM.bag (KaG.Same.tr SJ St))) p1 p8 upd_same (hgs.ts (TSame.of St)) (by omega)
          · refine ⟨_, rfl, _, _, rfl, rfl, _, rfl, ite2 (fun _ => ?_) fun _ => q2 _ Same.refl'⟩
            refine ⟨_, rfl, Nat.zero_le _, fun z nz => ?_⟩
            have Sz := same_upd (o := .lst []) nz
            refine nds_empty hr' hn' (Sz _ _ gD9) (Paired.mono' (fun _ _ e => Sz _ _ e) pa) (fun it m => (inK it m).1) upd_same ⟨_, rfl, ?_⟩
            cases NK with
            | nil => exact q2 _ Sz
            | cons x r => exact q1 (fun e => by cases e) _ Sz
end
end KaG
set_option maxRecDepth 100000
set_option maxHeartbeats 4000000
namespace KaG
open PySem PySem.Spec PyProof.Rows L2 KaC KaN LamX NdefX
theorem grds_emptyT {K : PySem.W.Frag} {H : Hp} {rows names : List Str} (hr : ∀ n ∈ rows, n ∈ nmAll) (hn : ∀ n ∈ names, n ∈ nmAll) {l z : Addr} {gas : List Addr} {gs : List (List (List V))} {Q : VK} (el : H l = some (.tup (gas.map V.ref))) (pg : Paired (Grd H) gas gs) (h : ∀ g ∈ gs, ∀ it ∈ g, NeedV rows names it) (ez : H z = some (.tup [])) (k : Q (.bl (decide (gs.length = 0))) H) : rEqD K (.ref l) (.ref z) H Q := by
  obtain ⟨ds, g1, g2, g3, g4⟩ := grds_dp (K := K) hr hn pg h
  refine ⟨.tuple ds, .tuple [], .tup (SqT.of el) g1, .tup (SqT.of ez) .nil, ?_, ?_, ?_⟩
  · unfold SeqAt.shaped
    rw [(tup_lay ds g2).1, Bool.true_and, decide_eq_true_eq, PyData.depth]
    omega
  · unfold SeqAt.shaped
    rw [(tup_lay [] (fun _ z => nomatch z)).1, Bool.true_and, decide_eq_true_eq, PyData.depth]
    simp [PyData.depthAll]
  · have : ∀ ds : List PyData, PyData.eqv (.tuple ds) (.tuple []) = decide (ds.length = 0) := fun ds => by cases ds <;> rfl
    rw [this, g4]
    exact k
theorem paired_set2 {α β : Type} {R : α → β → Prop} {x : α} {y : β} (h : R x y) : ∀ (j : Nat) {xs : List α} {ys : List β}, Paired R xs ys → Paired R (xs.set j x) (ys.set j y)
  | _, _, _, .nil => .nil
  | 0, _, _, .cons _ r => .cons h r
  | j + 1, _, _, .cons a r => .cons a (paired_set2 h j r)
theorem ifGoP2 {tt : TT} {b e : TS} {D : Ends} {σ : L2.St} {H : Hp} (c c' : Prop) (R : Hp → Prop) (hb : c → ∀ M, R M → b D σ M) (he : c' → ∀ M, R M → e D σ M) (hm : ∀ Q : Bool → Hp → Prop, (c → ∀ M, R M → Q true M) → (c' → ∀ M, R M → Q false M) → tt σ H Q) : tIfS tt b e D σ H :=
  hm _ (fun hc M r => iteT (hb hc M r)) (fun hc M r => iteDF rfl (he hc M r))
theorem NeedV.split {rows names : List Str} {it : List V} (h : NeedV rows names it) : ∃ (pre : List V) (t m : Int), cutV it none (some (-2)) = pre ∧ cutV it none (some (-1)) = pre ++ [.int t] ∧ atI it (-1) = some (.int m) ∧ 0 ≤ t ∧ t ≤ 4 ∧ 0 ≤ m ∧ m ≤ 9 ∧ pre.length ≤ 3 ∧ ∀ t' m' : Int, 0 ≤ t' → t' ≤ 4 → 0 ≤ m' → m' ≤ 9 → NeedV rows names (pre ++ [.int t', .int m']) := by
  cases h with
  | row n t m h h0 h4 m0 m9 => exact ⟨[.str "row", .str n], t, m, rfl, rfl, rfl, h0, h4, m0, m9, by show 2 ≤ 3; decide, fun t' m' a b c d => .row n t' m' h a b c d⟩
  | kind n a t m h a1 a9 h0 h4 m0 m9 => exact ⟨[.str "kind", .str n, .int a], t, m, rfl, rfl, rfl, h0, h4, m0, m9, by show 3 ≤ 3; decide, fun t' m' b c d e => .kind n a t' m' h a1 a9 b c d e⟩
theorem GsAt.put {H : Hp} {rs ns : List Str} {as : List Addr} {gs : List (List (List V))} {p : Addr} {g : List (List V)} (h : GsAt H rs ns as gs) (e : Grd H p g) (o : 0 < g.length ∧ g.length ≤ 3 ∧ ∀ n ∈ g, NeedV rs ns n) (a : Nat) : GsAt H rs ns (as.take a ++ [p] ++ as.drop (a + 1)) (gs.take a ++ [g] ++ gs.drop (a + 1)) := by
  refine ⟨?_, fun x m => ?_⟩
  · rw [List.append_assoc, List.append_assoc]
    exact paired_app (paired_take a h.pr) (.cons e (paired_drop (a + 1) h.pr))
  · rcases List.mem_append.mp m with c | c
    · rcases List.mem_append.mp c with c | c
      · exact h.ok x (List.mem_of_mem_take c)
      · rw [List.mem_singleton.mp c]; exact o
    · exact h.ok x (List.mem_of_mem_drop c)
theorem ixN_nat {n j : Nat} (h : j < n) : ixN n (j : Int) = some j := by
  unfold ixN
  rw [if_pos (by omega), if_pos (by omega), Int.toNat_natCast]
section
variable {P : Program} {w : World} {K : PySem.W.Frag} {mg : Str → Option Value} {base : Heap}
abbrev sBnt : Stmt := top 41
abbrev nmBnt : List Str := ["bag", "rulebook", "k", "name", "keep", "bar", "grounds", "way", "at", "ground", "j", "need"]
theorem scBnt : FnScope nmBnt ["bag", "rulebook"] (defScope sBnt) := ⟨rfl, rfl, rfl, by decide +kernel, rfl, by decide +kernel, by decide +kernel⟩
def spBnt : Sp := fun vs H Q _ => ∃ (bg b : Addr) (rows : List Str) (ks : List Kd), vs = [.ref bg, .ref b] ∧ Bag H bg ∧ BookAt H b rows ks ∧ BookOk rows ks ∧ rows.length ≤ 5 ∧ ∀ (p : Addr) (ks' : List Kd) (H' : Hp), Ext bg H H' → BookAt H' p rows ks' → BookOk rows ks' → Q (.ref p) H'
theorem ok_Bnt {f fT fS : Addr} {fd fdT fdS : FuncData} (F : Fun K "_law_bent_rulebook" "_law_bent_rulebook" sBnt f fd) (T : TxtC mg) (hlist : mg "list" = none) (C : Ct P w K mg base "_law_some" 2 ["bag", "things"] spSome2 fS fdS) (CT : Ct P w K mg base "_law_take" 1 ["bag", "upto"] spTake fT fdT) : FnOk P w K mg base CX0 3 f fd ["bag", "rulebook"] spBnt := by
  refine F.ok scBnt (fun vs H Q E h => ?_) (fun cdv A outer s H vs Q E hr h => ?_)
  · obtain ⟨bg, b, rows, ks, rfl, _⟩ := h
    rfl
  · obtain ⟨bg, b, rows, ks, rfl, hB, hA, hO, r5, k⟩ := h
    have hr2 : Room 2 (A.deeper (envOfC "_law_bent_rulebook" (defScope sBnt) s.heap.objs.size f cdv)) := hr.mono (by decide)
    have hr1 : Room 1 (A.deeper (envOfC "_law_bent_rulebook" (defScope sBnt) s.heap.objs.size f cdv)) := hr.mono (by decide)
    have u1 : (A.deeper (envOfC "_law_bent_rulebook" (defScope sBnt) s.heap.objs.size f cdv)).units + 64 < cLine := by have := hr.3; omega
    refine ⟨_, (pss_cons (ps_set (i := 2) scBnt.nd rfl (Or.inl rfl) (pe_call CT.G hr1 (by rfl) CT.m CT.kp CT.b .nil pass0 (pa_cons (pv 0) (pa_cons (pe_callB call_len_seq (by rfl) T.b.len PySem.boot_len (pa_cons (pe_ix (r := rIxT K) ix_tup (pv 1) pe_int (fun _ _ => rfl)) pa_nil)) pa_nil))))
      (pss_cons (ps_asg (pe_ix (r := rIxT K) ix_tup (pe_ix (r := rIxT K) ix_tup (pv 1) pe_int (fun _ _ => rfl)) (pv 2) (fun _ _ => rfl))
          (pg_tup (by rfl) (pgs_cons (pg_name (i := 3) scBnt.nd rfl (Or.inl rfl)) (pgs_cons (pg_name (i := 4) scBnt.nd rfl (Or.inl rfl)) (pgs_cons (pg_name (i := 5) scBnt.nd rfl (Or.inl rfl)) (pgs_cons (pg_name (i := 6) scBnt.nd rfl (Or.inl rfl)) pgs_nil))))))
      (pss_cons (ps_set (i := 7) scBnt.nd rfl (Or.inl rfl) (pe_call CT.G hr1 (by rfl) CT.m CT.kp CT.b .nil pass0 (pa_cons (pv 0) (pa_cons pe_int pa_nil))))
      (pss_cons (ps_if (PW.pt (pw_or (pt_cmpR op_eq (pv 7) pe_int (nomark _)) (pw_or1 (pt_cmpR (r := rEqD K) (op_eqD u1) (pv 6) (pe_tup pa_nil) (nomark _)))))
          (pss_one (ps_set (i := 4) scBnt.nd rfl (Or.inl rfl) (pe_op op_add pe_int (pe_call CT.G hr1 (by rfl) CT.m CT.kp CT.b .nil pass0 (pa_cons (pv 0) (pa_cons pe_int pa_nil))))))
          (pss_cons (ps_set (i := 8) scBnt.nd rfl (Or.inl rfl) (pe_call CT.G hr1 (by rfl) CT.m CT.kp CT.b .nil pass0 (pa_cons (pv 0) (pa_cons (pe_callB call_len_seq (by rfl) T.b.len PySem.boot_len (pa_cons (pv 6) pa_nil)) pa_nil))))
          (pss_cons (ps_par (i := 9) (j := 10) rfl scBnt.nd rfl rfl (by decide) rfl rfl (pa_cons (pe_callTy (T := "list") (r := rLstOf K) call_lstOf (by rfl) hlist (by decide +kernel) (pa_cons (pe_ix (r := rIxT K) ix_tup (pv 6) (pv 8) (fun _ _ => rfl)) pa_nil))
              (pa_cons (pe_call CT.G hr1 (by rfl) CT.m CT.kp CT.b .nil pass0 (pa_cons (pv 0) (pa_cons (pe_callB call_len_seq (by rfl) T.b.len PySem.boot_len (pa_cons (pe_ix (r := rIxT K) ix_tup (pv 6) (pv 8) (fun _ _ => rfl)) pa_nil)) pa_nil))) pa_nil)) rfl)
          (pss_cons (ps_set (i := 11) scBnt.nd rfl (Or.inl rfl) (pe_ix (r := rIxL K) ix_list (pv 9) (pv 10) (fun _ _ => rfl)))
          (pss_cons (ps_if (pt_cmpR op_eq (pv 7) pe_int (nomark _))
            (pss_one (ps_asg (pe_op (r := rCatA K) op_catA (pe_slice (r := rSlA K) sl_tupA (pv 11) po_none (po_some (pe_un un_neg pe_int))) (pe_tup (pa_cons (pe_call CT.G hr1 (by rfl) CT.m CT.kp CT.b .nil pass0 (pa_cons (pv 0) (pa_cons pe_int pa_nil))) (pa_cons (pe_ix (r := rIxT K) ix_tup (pv 11) (pe_un un_neg pe_int) (fun _ _ => rfl)) pa_nil)))) (pg_sub (pv 9) (pv 10) set_list)))
            (pss_one (ps_if (pt_cmpR op_eq (pv 7) pe_int (nomark _))
            (pss_one (ps_asg (pe_op (r := rCatA K) op_catA (pe_slice (r := rSlA K) sl_tupA (pv 11) po_none (po_some (pe_un un_neg pe_int))) (pe_tup (pa_cons (pe_call C.G hr2 (by rfl) C.m C.kp C.b .nil pass0 (pa_cons (pv 0) (pa_cons (pe_lst (pa_cons pe_int (pa_cons pe_int (pa_cons pe_int pa_nil)))) pa_nil))) pa_nil))) (pg_sub (pv 9) (pv 10) set_list)))
            (pss_one (ps_if (PW.pt (pw_and (pt_cmpR op_eq (pv 7) pe_int (nomark _)) (pw_and1 (pt_cmpR (r := rEq) op_eq (pe_ix (r := rIxT K) ix_tup (pv 11) pe_int (fun _ _ => rfl)) pe_str (nomark _)))))
            (pss_one (ps_asg (pe_op (r := rCatA K) op_catA (pe_op (r := rCatA K) op_catA (pe_slice (r := rSlA K) sl_tupA (pv 11) po_none (po_some pe_int)) (pe_tup (pa_cons (pe_op op_add pe_int (pe_call CT.G hr1 (by rfl) CT.m CT.kp CT.b .nil pass0 (pa_cons (pv 0) (pa_cons pe_int pa_nil)))) pa_nil))) (pe_slice (r := rSlA K) sl_tupA (pv 11) (po_some pe_int) po_none)) (pg_sub (pv 9) (pv 10) set_list)))
            (pss_one (ps_if (pt_cmpR op_eq (pv 7) pe_int (nomark _))
            (pss_one (ps_set (i := 9) scBnt.nd rfl (Or.inl rfl) (pe_op op_cat (pe_slice sl_list (pv 9) po_none (po_some pe_int)) (pe_lst (pa_cons (pe_tup (pa_cons pe_str (pa_cons (pe_call C.G hr2 (by rfl) C.m C.kp C.b .nil pass0 (pa_cons (pv 0) (pa_cons (pe_ix (r := rIxT K) ix_tup (pv 1) pe_int (fun _ _ => rfl)) pa_nil)))
                (pa_cons (pe_call CT.G hr1 (by rfl) CT.m CT.kp CT.b .nil pass0 (pa_cons (pv 0) (pa_cons pe_int pa_nil))) (pa_cons (pe_call C.G hr2 (by rfl) C.m C.kp C.b .nil pass0 (pa_cons (pv 0) (pa_cons (pe_lst (pa_cons pe_int (pa_cons pe_int (pa_cons pe_int pa_nil)))) pa_nil))) pa_nil))))) pa_nil)))))
            (pss_one (ps_set (i := 9) scBnt.nd rfl (Or.inl rfl) (pe_op op_cat (pe_slice sl_list (pv 9) po_none (po_some pe_int)) (pe_lst (pa_cons (pe_tup (pa_cons pe_str (pa_cons (pe_ix (r := rIxT K) ix_tup (pe_call C.G hr2 (by rfl) C.m C.kp C.b .nil pass0 (pa_cons (pv 0) (pa_cons (pe_ix (r := rIxT K) ix_tup (pv 1) pe_int (fun _ _ => rfl)) pa_nil))) pe_int (fun _ _ => rfl))
                (pa_cons (pe_op op_add pe_int (pe_call CT.G hr1 (by rfl) CT.m CT.kp CT.b .nil pass0 (pa_cons (pv 0) (pa_cons pe_int pa_nil)))) (pa_cons (pe_call CT.G hr1 (by rfl) CT.m CT.kp CT.b .nil pass0 (pa_cons (pv 0) (pa_cons pe_int pa_nil))) (pa_cons pe_int pa_nil)))))) pa_nil))))))))))))
          (pss_one (ps_set (i := 6) scBnt.nd rfl (Or.inl rfl) (pe_callTy (T := "tuple") (r := rTupOf K) call_tupOf (by rfl) T.tup (by decide +kernel) (pa_cons (pe_callB (cr_sortN rfl u1) (by rfl) T.sor (by decide +kernel) (pa_cons (pe_callTy (cr_setN rfl u1) (by rfl) T.set (by decide +kernel) (pa_cons
              (pe_op (r := rCatA K) op_catA (pe_op (r := rCatA K) op_catA (pe_slice (r := rSlA K) sl_tupA (pv 6) po_none (po_some (pv 8))) (pe_tup (pa_cons
                (pe_callTy (T := "tuple") (r := rTupOf K) call_tupOf (by rfl) T.tup (by decide +kernel) (pa_cons (pe_callB (cr_sortN rfl u1) (by rfl) T.sor (by decide +kernel) (pa_cons (pe_callTy (cr_setN rfl u1) (by rfl) T.set (by decide +kernel) (pa_cons (pv 9) pa_nil)) pa_nil)) pa_nil)) pa_nil)))
                (pe_slice (r := rSlA K) sl_tupA (pv 6) (po_some (pe_op op_add (pv 8) pe_int)) po_none)) pa_nil)) pa_nil)) pa_nil)))))))))
      (pss_one (ps_ret (pe_tup (pa_cons (pe_ix (r := rIxT K) ix_tup (pv 1) pe_int (fun _ _ => rfl)) (pa_cons (pe_op (r := rCatA K) op_catA (pe_op (r := rCatA K) op_catA (pe_slice (r := rSlA K) sl_tupA (pe_ix (r := rIxT K) ix_tup (pv 1) pe_int (fun _ _ => rfl)) po_none (po_some (pv 2))) (pe_tup (pa_cons (pe_tup (pa_cons (pv 3) (pa_cons (pv 4) (pa_cons (pv 5) (pa_cons (pv 6) pa_nil))))) pa_nil))) (pe_slice (r := rSlA K) sl_tupA (pe_ix (r := rIxT K) ix_tup (pv 1) pe_int (fun _ _ => rfl)) (po_some (pe_op op_add (pv 2) pe_int)) po_none)) pa_nil))))))))), ?_⟩
    have sz : ∀ {m : Nat}, m ≤ 900 → m ≤ sizeLine := fun h => Nat.le_of_lt (small1000 (by omega))
    have hk5 := hO.k5
    have hk0 := hO.k0
    obtain ⟨r, kt, kas, e1, e2, e3, pk⟩ := id hA
    have hlen := paired_len pk
    refine ⟨_, rfl, _, rfl, b, _, 1, .ref kt, rfl, rfl, SqT.of e1, rfl, kt, kas.map V.ref, rfl, .inr (SqT.of e3), bg, _, rfl, hB, by rw [List.length_map]; omega, by rw [List.length_map]; omega, fun z H2 E12 z0 z1 => ?_⟩
    rw [List.length_map] at z1
    obtain ⟨i, rfl⟩ := Int.eq_ofNat_of_zero_le z0
    have hi : i < ks.length := by omega
    have ha : kas[i]? = some kas[i] := List.getElem?_eq_getElem (by omega)
    obtain ⟨kd, hkd, gt, gas, f1, f2, f3⟩ := paired_at pk ha
    have mk := List.mem_of_getElem? hkd
    obtain ⟨p1, p8, b0, b60, g4⟩ := hO.num kd mk
    have hgr := hO.grd kd mk
    have hgl := paired_len f3
    have T2 := TSame.ext hB E12
    have hr' := hO.rw.of
    have hn' := hO.nm.of
    refine ⟨_, rfl, b, _, 1, .ref kt, rfl, rfl, SqT.of (T2 _ _ e1), rfl, _, rfl, kt, _, (i : Int), .ref kas[i], rfl, rfl, SqT.of (T2 _ _ e3), atI_nat (by rw [List.getElem?_map, ha]; rfl), ?_⟩
    refine ⟨kas[i], _, rfl, SqT.of (T2 _ _ f1), rfl, _, _, rfl, _, _, rfl, _, _, rfl, _, _, rfl, rfl, ?_⟩
    have hg2 : GsAt H2 rows (nmsOf ks) gas kd.gs := ⟨Paired.mono' (fun _ _ e => Grd.ts e T2) f3, hgr⟩
    have eg2 := T2 _ _ f2
    dsimp only [gName]
    refine ⟨_, rfl, bg, 6, rfl, E12.bag, by decide, by decide, fun way H3 E3 w0 w6 => ?_⟩
    have E13 := E12.trans E3
    have T3 := TSame.ext E12.bag E3
    have eg3 := T3 _ _ eg2
    have hg3 := hg2.ts T3
    have ktb : kt ≠ bg := tup_ne hB e3
    have rb : r ≠ bg := tup_ne hB e2
    dsimp only [gName]
    refine seqGo (fun bT D' => ∀ (kp : Int) (ga : Addr) (bs : List Addr) (hs : List (List (List V))) (x8 x9 x10 x11 : Option V) (G : Hp), Ext bg H G → 1 ≤ kp → kp ≤ 8 → G ga = some (.tup (bs.map V.ref)) → GsAt G rows (nmsOf ks) bs hs → hs.length ≤ 4 →
      bT D' [some (.ref bg), some (.ref b), some (.int (i : Int)), some (.str kd.name), some (.int kp), some (.int kd.bar), some (.ref ga), some (.int way), x8, x9, x10, x11] G) (fun kp ga bs hs x8 x9 x10 x11 G EG k1 k8 ega hgs l4 => ?_) (fun rest => ?_)
    · refine put_te (kn := 2) (kd' := ⟨kd.name, kp, kd.bar, hs⟩) rfl rfl (hA.ts (TSame.ext hB EG)) hi hk5 (fun J4 Q' S4 q => ?_) fun p J5 S5 hA5 => ?_
      · refine ⟨_, rfl, _, rfl, _, rfl, _, rfl, sz (by show 4 ≤ 900; decide), fun ka nka => ?_⟩
        have S5 := same_upd (o := .tup [.str kd.name, .int kp, .int kd.bar, .ref ga]) nka
        have S45 := KaG.Same.tr S4 S5
        exact q ka _ S5 ⟨ga, bs, upd_same, S45 _ _ ega, Paired.mono' (fun _ _ e => Grd.ts e (TSame.of S45)) hgs.pr⟩
      · exact k p _ J5 (EG.trans (Ext.of_same EG.bag S5)) hA5 (book_put hO hkd rfl ⟨k1, k8, b0, b60, l4⟩ hgs.ok)
    · refine ifGoP2 (σ := [some (.ref bg), some (.ref b), some (.int (i : Int)), some (.str kd.name), some (.int kd.keep), some (.int kd.bar), some (.ref gt), some (.int way), none, none, none, none]) True (0 < kd.gs.length) (fun M => Same H3 M) (fun _ M SM => ?_) (fun hgs0 M SM => ?_) (fun Q' q1 q2 => ?_)
      · have EM := E13.trans (Ext.of_same E13.bag SM)
        refine ⟨_, rfl, bg, 8, rfl, EM.bag, by decide, by decide, fun y M1 E1 c0 c1 => ⟨_, _, rfl, rfl, ?_⟩⟩
        have T4 := (TSame.of SM).tr (TSame.ext EM.bag E1)
        exact rest (1 + y) gt gas kd.gs _ _ _ _ M1 (EM.trans E1) (by omega) (by omega) (T4 _ _ eg3) (hg3.ts T4) g4
      · have EM := E13.trans (Ext.of_same E13.bag SM)
        have egM := SM _ _ eg3
        have hgM := hg3.ts (TSame.of SM)
        have lga : gas.length ≤ 4 := by omega
        refine ⟨_, rfl, _, rfl, gt, gas.map V.ref, rfl, .inr (SqT.of egM), bg, _, rfl, EM.bag, by rw [List.length_map]; omega, by rw [List.length_map]; omega, fun at' M1 E1 a0 a1 => ?_⟩
        rw [List.length_map] at a1
        obtain ⟨a, rfl⟩ := Int.eq_ofNat_of_zero_le a0
        have hga : gas[a]? = some gas[a] := List.getElem?_eq_getElem (by omega)
        have EM1 := EM.trans E1
        have T1 := TSame.ext EM.bag E1
        have egM1 := T1 _ _ egM
        have hgM1 := hgM.ts T1
        obtain ⟨g, hg, ns, eg, pn⟩ := paired_at hgM1.pr hga
        have mg' := List.mem_of_getElem? hg
        obtain ⟨g0, g3, gn⟩ := hgr g mg'
        have lns := paired_len pn
        have atg : atI (gas.map V.ref) (a : Int) = some (.ref gas[a]) := atI_nat (by rw [List.getElem?_map, hga]; rfl)
        dsimp only [gName]
        refine ⟨_, rfl, _, rfl, gt, _, (a : Int), .ref gas[a], rfl, rfl, SqT.of egM1, atg, gas[a], _, rfl, .inr (SqT.of eg), fun la nla => ?_⟩
        have Sl := same_upd (o := .lst (ns.map V.ref)) nla
        have ela : upd M1 la (.lst (ns.map V.ref)) la = some (.lst (ns.map V.ref)) := upd_same
        have EM2 := EM1.new (o := .lst (ns.map V.ref)) nla
        have nlaH : H la = none := newAt EM1 nla
        have T2' : TSame M1 _ := TSame.of Sl
        generalize upd M1 la (.lst (ns.map V.ref)) = M2 at Sl ela EM2 T2' ⊢
        refine ⟨_, rfl, _, rfl, _, rfl, gt, _, (a : Int), .ref gas[a], rfl, rfl, SqT.of (Sl _ _ egM1), atg, gas[a], ns.map V.ref, rfl, .inr (SqT.of (Sl _ _ eg)), bg, _, rfl, EM2.bag, by rw [List.length_map]; omega, by rw [List.length_map]; omega, fun j' M3 E3 j0 j1 => ⟨_, _, rfl, ?_⟩⟩
        rw [List.length_map] at j1
        obtain ⟨j, rfl⟩ := Int.eq_ofNat_of_zero_le j0
        have lab : la ≠ bg := fun z => hB.there (z ▸ nlaH)
        have ela3 := E3.keep la _ lab ela
        have EM3 := EM2.trans E3
        have T3' := TSame.ext EM2.bag E3
        have hnj : ns[j]? = some ns[j] := List.getElem?_eq_getElem (by omega)
        refine ⟨_, rfl, _, rfl, la, _, (j : Int), .ref ns[j], rfl, rfl, SqL.of ela3, atI_nat (by rw [List.getElem?_map, hnj]; rfl), ?_⟩
        have pn3 : NdsAt M3 ns g := Paired.mono' (fun _ _ e => T3' _ _ (T2' _ _ e)) pn
        obtain ⟨it, hit, en⟩ := paired_at pn3 hnj
        have mit := List.mem_of_getElem? hit
        have nv := gn it mit
        dsimp only [gName]
        refine seqGo (fun bT D' => ∀ (lb : Addr) (ms : List Addr) (its : List (List V)) (G : Hp), Ext bg H G → G lb = some (.lst (ms.map V.ref)) → NdsAt G ms its → (∀ it ∈ its, NeedV rows (nmsOf ks) it) → 0 < its.length → its.length ≤ 3 →
          bT D' [some (.ref bg), some (.ref b), some (.int (i : Int)), some (.str kd.name), some (.int kd.keep), some (.int kd.bar), some (.ref gt), some (.int way), some (.int (a : Int)), some (.ref lb), some (.int (j : Int)), some (.ref ns[j])] G) (fun lb ms its G EG elb pm hits i0 i3 => ?_) (fun rest2 => ?_)
        · have TG := TSame.ext hB EG
          have lms := paired_len pm
          have egG := TG _ _ f2
          have hgG : GsAt G rows (nmsOf ks) gas kd.gs := ⟨Paired.mono' (fun _ _ e => Grd.ts e TG) f3, hgr⟩
          refine ⟨_, rfl, _, rfl, _, rfl, slA_go egG fun q1 G1 S1 eq1 => ?_⟩
          rw [cut_to _ _ (by omega), Int.toNat_natCast, ← List.map_take] at eq1
          refine ⟨_, rfl, ?_⟩
          dsimp only [tCB, tCons, tNil]
          refine order_needs (K := K) (w := w) (rows := rows) (names := nmsOf ks) (.inl (SqL.of (S1 _ _ elb))) (Paired.mono' (fun _ _ e => S1 _ _ e) pm) hits (by omega) fun p1' g' G2 S2 np1 eg' sub pos le => ?_
          refine ⟨sz (by show 1 ≤ 900; decide), fun t nt => ?_⟩
          have St := same_upd (o := .tup [.ref p1']) nt
          have et : upd G2 t (.tup [.ref p1']) t = some (.tup [.ref p1']) := upd_same
          have S02 := KaG.Same.tr S1 (KaG.Same.tr S2 St)
          have eq3 := St _ _ (S2 _ _ eq1)
          have eg3' := Grd.ts eg' (TSame.of St)
          generalize upd G2 t (.tup [.ref p1']) = G3 at et S02 eq3 eg3' ⊢
          refine catA_go eq3 et (by rw [List.length_map, List.length_take]; show _ + 1 ≤ 900; omega) fun q2 G4 S4 eq2 => ?_
          have S04 := KaG.Same.tr S02 S4
          refine ⟨_, rfl, _, rfl, _, _, rfl, rfl, _, rfl, ?_⟩
          dsimp only [tNoPart]
          refine slA_go (S04 _ _ egG) fun q5 G5 S5 eq5 => ?_
          rw [show ((a : Int) + 1) = ((a + 1 : Nat) : Int) from rfl, cut_drop, ← List.map_drop] at eq5
          refine catA_go (S5 _ _ eq2) eq5 (by rw [List.length_append, List.length_map, List.length_map, List.length_take, List.length_drop]; show _ + 1 + _ ≤ 900; omega) fun q6 G6 S6 eq6 => ?_
          have S36 := KaG.Same.tr S4 (KaG.Same.tr S5 S6)
          have S06 := KaG.Same.tr S02 S36
          have h6 : GsAt G6 rows (nmsOf ks) (gas.take a ++ [p1'] ++ gas.drop (a + 1)) (kd.gs.take a ++ [g'] ++ kd.gs.drop (a + 1)) := (hgG.ts (TSame.of S06)).put (Grd.ts eg3' (TSame.of S36)) ⟨pos i0, by omega, fun n m => hits n (sub n m)⟩ a
          have l6 : (gas.take a ++ [p1'] ++ gas.drop (a + 1)).length ≤ 4 := by
            rw [List.length_append, List.length_append, List.length_take, List.length_drop]
            show _ + 1 + _ ≤ 4
            omega
          have lh6 := paired_len h6.pr
          have eq6' : G6 q6 = some (.tup ((gas.take a ++ [p1'] ++ gas.drop (a + 1)).map V.ref)) := by rw [eq6, List.map_append, List.map_append]; rfl
          refine order_grounds (K := K) (w := w) (rows := rows) (names := nmsOf ks) (.inr (SqT.of eq6')) h6.pr (fun g m => ⟨(h6.ok g m).1, (h6.ok g m).2.2⟩) l6 fun a2 bs2 gs2 G7 S7 na2 ea2 pr2 sub2 le2 => ?_
          exact rest kd.keep a2 bs2 gs2 _ _ _ _ G7 (EG.trans (Ext.of_same EG.bag (KaG.Same.tr S06 S7))) p1 p8 ea2 ⟨pr2, fun g m => h6.ok g (sub2 g m)⟩ (by omega)
        · -- a need written over
          have wr : ∀ (n2 : Addr) (it2 : List V) (G : Hp), Ext bg M3 G → G n2 = some (.tup it2) → NeedV rows (nmsOf ks) it2 → _ := fun n2 it2 G EG en2 nv2 =>
            rest2 la (ns.set j n2) (g.set j it2) (upd G la (.lst ((ns.map V.ref).set j (.ref n2)))) (Ext.write hB (EM3.trans EG) nlaH) (by rw [upd_same, List.map_set]) (by
              have tsl := ts_lst (ys := (ns.map V.ref).set j (.ref n2)) (EG.keep la _ lab ela3)
              exact paired_set2 (R := fun n its => upd G la (.lst ((ns.map V.ref).set j (.ref n2))) n = some (.tup its)) (tsl _ _ en2) j (Paired.mono' (fun _ _ e => tsl _ _ (TSame.ext EM3.bag EG _ _ e)) pn3)) (fun x m => by
              rcases List.mem_or_eq_of_mem_set m with c | c
              · exact gn x c
              · rw [c]; exact nv2) (by rw [List.length_set]; exact g0) (by rw [List.length_set]; exact g3)
          have ixj : ixN (ns.map V.ref).length (j : Int) = some j := ixN_nat (by rw [List.length_map]; omega)
          obtain ⟨pre, t0, m0, ec2, ec1, em, t0', t4', m0', m9', lpre, nvv⟩ := nv.split
          refine ⟨_, rfl, rfl, _, rfl, ite2 (fun _ => ?_) fun _ => ?_⟩
          · refine ⟨_, rfl, _, rfl, _, rfl, slA_go en fun s1 G1 S1 es1 => ?_⟩
            rw [ec2] at es1
            have EG1 := Ext.of_same EM3.bag S1
            refine ⟨_, rfl, bg, 5, rfl, EG1.bag, by decide, by decide, fun y G2 E2 c0 c1 => ⟨_, rfl, _, rfl, ns[j], _, _, .int m0, rfl, rfl, SqT.of (TSame.ext EM3.bag (EG1.trans E2) _ _ en), em, sz (by show 2 ≤ 900; decide), fun t nt => ?_⟩⟩
            have EG3 := (EG1.trans E2).new (o := .tup [.int y, .int m0]) nt
            refine catA_go (TSame.ext EG1.bag (E2.new (o := .tup [.int y, .int m0]) nt) _ _ es1) upd_same (by show _ + 2 ≤ 900; omega) fun n2 G4 S4 en2 => ?_
            have EG4 := EG3.trans (Ext.of_same EG3.bag S4)
            exact ⟨_, rfl, _, rfl, la, _, (j : Int), j, rfl, rfl, EG4.keep la _ lab ela3, ixj, wr n2 _ G4 EG4 en2 (nvv y m0 c0 (by omega) m0' m9')⟩
          refine ⟨_, rfl, rfl, _, rfl, ite2 (fun _ => ?_) fun _ => ?_⟩
          · refine ⟨_, rfl, _, rfl, _, rfl, slA_go en fun s1 G1 S1 es1 => ?_⟩
            rw [ec1] at es1
            have EG1 := Ext.of_same EM3.bag S1
            refine ⟨_, rfl, sz (by show 3 ≤ 900; decide), fun q nq => ?_⟩
            have EG2 := EG1.new (o := .lst [.int 8, .int 0, .int 3]) nq
            refine ⟨bg, q, _, rfl, EG2.bag, fun z => EG1.bag.there (z ▸ nq), .inl upd_same, by decide, by decide, fun u G3 mu E3' => ?_⟩
            obtain ⟨y, rfl, y0, y9⟩ := ints_in (ns := [8, 0, 3]) (lo := 0) (hi := 8) (by decide) mu
            refine ⟨sz (by show 1 ≤ 900; decide), fun t nt => ?_⟩
            have EG4 := (EG2.trans E3').new (o := .tup [.int y]) nt
            refine catA_go (TSame.ext EG1.bag ((((Ext.of_same EG1.bag Same.refl').new (o := .lst [.int 8, .int 0, .int 3]) nq).trans E3').new (o := .tup [.int y]) nt) _ _ es1) upd_same (by rw [List.length_append]; show _ + 1 + 1 ≤ 900; omega) fun n2 G5 S5 en2 => ?_
            have EG5 := EG4.trans (Ext.of_same EG4.bag S5)
            exact ⟨_, rfl, _, rfl, la, _, (j : Int), j, rfl, rfl, EG5.keep la _ lab ela3, ixj, wr n2 _ G5 EG5 en2 (by rw [List.append_assoc]; exact nvv t0 y t0' t4' y0 (by omega))⟩
          refine ifGoP (isKn it = true) (fun G => M3 = G) (fun kn G eG => ?_) (fun G eG => ?_) (fun Q' q1 q2 => ?_)
          · subst eG
            cases nv with
            | row n' t m h h0 h4 m0 m9 => exact absurd kn Bool.false_ne_true
            | kind n' ak t m h a1 a9 h0 h4 m0 m9 =>
              refine ⟨_, rfl, _, rfl, slA_go en fun s1 G1 S1 es1 => ?_⟩
              rw [cut_to _ 2 (by decide)] at es1
              have EG1 := Ext.of_same EM3.bag S1
              refine ⟨_, rfl, bg, 9, rfl, EG1.bag, by decide, by decide, fun y G2 E2 c0 c1 => ⟨_, _, rfl, rfl, sz (by show 1 ≤ 900; decide), fun t1 nt => ?_⟩⟩
              have EG3 := (EG1.trans E2).new (o := .tup [.int (1 + y)]) nt
              have T13 := TSame.ext EG1.bag (E2.new (o := .tup [.int (1 + y)]) nt)
              refine catA_go (T13 _ _ es1) upd_same (by show 2 + 1 ≤ 900; decide) fun s2 G4 S4 es2 => ?_
              have EG4 := EG3.trans (Ext.of_same EG3.bag S4)
              refine ⟨_, rfl, _, rfl, ?_⟩
              dsimp only [tNoPart]
              refine slA_go (TSame.ext EM3.bag EG4 _ _ en) fun s3 G5 S5 es3 => ?_
              rw [show (3 : Int) = ((3 : Nat) : Int) from rfl, cut_drop] at es3
              refine catA_go (S5 _ _ es2) es3 (by show 3 + 2 ≤ 900; decide) fun n2 G6 S6 en2 => ?_
              have EG6 := EG4.trans (Ext.of_same EG4.bag (KaG.Same.tr S5 S6))
              exact ⟨_, rfl, _, rfl, la, _, (j : Int), j, rfl, rfl, EG6.keep la _ lab ela3, ixj, wr n2 [.str "kind", .str n', .int (1 + y), .int t, .int m] G6 EG6 en2 (.kind n' (1 + y) t m h (by omega) (by omega) h0 h4 m0 m9)⟩
          · subst eG
            have TM := TSame.ext hB EM3
            -- a need put behind
            have bh : ∀ (l1 l2 n2 : Addr) (it2 : List V) (G : Hp), Ext bg M3 G → G l1 = some (.lst ((ns.take 2).map V.ref)) → G l2 = some (.lst [.ref n2]) → G n2 = some (.tup it2) → NeedV rows (nmsOf ks) it2 → ∀ q3, G q3 = none → _ := fun l1 l2 n2 it2 G EG e1' e2' en2 nv2 q3 nq3 =>
              rest2 q3 (ns.take 2 ++ [n2]) (g.take 2 ++ [it2]) (upd G q3 (.lst ((ns.take 2).map V.ref ++ [.ref n2]))) ((EM3.trans EG).new nq3) (by rw [upd_same, List.map_append]; rfl) (by
                have Sq := same_upd (o := .lst ((ns.take 2).map V.ref ++ [.ref n2])) nq3
                exact paired_app (Paired.mono' (fun _ _ e => Sq _ _ (TSame.ext EM3.bag EG _ _ e)) (paired_take 2 pn3)) (.cons (Sq _ _ en2) .nil)) (fun x m => by
                rcases List.mem_append.mp m with c | c
                · exact gn x (List.mem_of_mem_take c)
                · rw [List.mem_singleton.mp c]; exact nv2) (by rw [List.length_append]; show 0 < _ + 1; omega) (by rw [List.length_append, List.length_take]; show _ + 1 ≤ 3; omega)
            refine ⟨_, rfl, rfl, _, rfl, ite2 (fun _ => ?_) fun _ => ?_⟩
            · refine ⟨_, rfl, _, rfl, _, _, rfl, SqL.of ela3, fun l1 nl1 => ?_⟩
              rw [cut_to _ 2 (by decide), ← List.map_take, show (2 : Int).toNat = 2 from rfl]
              have el1 : upd M3 l1 (.lst ((ns.take 2).map V.ref)) l1 = some (.lst ((ns.take 2).map V.ref)) := upd_same
              have l1b : l1 ≠ bg := fun z => EM3.bag.there (z ▸ nl1)
              have EG1 := (Ext.of_same EM3.bag Same.refl' : Ext bg M3 M3).new (o := .lst ((ns.take 2).map V.ref)) nl1
              generalize upd M3 l1 (.lst ((ns.take 2).map V.ref)) = G1 at el1 EG1 ⊢
              have TG1 := TM.tr (TSame.ext EM3.bag EG1)
              refine ⟨_, rfl, _, rfl, b, _, 0, .ref r, rfl, rfl, SqT.of (TG1 _ _ e1), rfl, bg, r, rows.map V.str, rfl, EG1.bag, rb, .inr (TG1 _ _ e2), by rw [List.length_map]; have := hO.r0; omega, by rw [List.length_map]; omega, fun v G2 mv E2 => ?_⟩
              obtain ⟨x0, rfl, mx0⟩ := strs_in mv
              refine ⟨_, rfl, bg, 5, rfl, E2.bag, by decide, by decide, fun t2 G3 E3' d0 d1 => ?_⟩
              refine ⟨_, rfl, sz (by show 3 ≤ 900; decide), fun q nq => ?_⟩
              have EG4 := (E2.trans E3').new (o := .lst [.int 9, .int 9, .int 2]) nq
              refine ⟨bg, q, _, rfl, EG4.bag, fun z => E3'.bag.there (z ▸ nq), .inl upd_same, by decide, by decide, fun u G5 mu E5 => ?_⟩
              obtain ⟨y, rfl, y0, y9⟩ := ints_in (ns := [9, 9, 2]) (lo := 2) (hi := 9) (by decide) mu
              refine ⟨sz (by show 4 ≤ 900; decide), fun n2 nn2 => ⟨sz (by show 1 ≤ 900; decide), fun l2 nl2 => ?_⟩⟩
              have EG6 := (((EG4.trans E5).new (o := .tup [.str "row", .str x0, .int t2, .int y]) nn2).new (o := .lst [.ref n2]) nl2)
              have S2 := same_upd (o := .lst [.ref n2]) nl2
              refine ⟨_, _, _, _, rfl, rfl, EG6.keep l1 _ l1b el1, upd_same, sz (by rw [List.length_map, List.length_take]; show _ + 1 ≤ 900; omega), fun q3 nq3 => ?_⟩
              exact bh l1 l2 n2 _ _ (EG1.trans EG6) (EG6.keep l1 _ l1b el1) upd_same (S2 _ _ upd_same) (.row x0 t2 y mx0 d0 (by omega) (by omega) y9) q3 nq3
            · refine ⟨_, rfl, _, rfl, _, _, rfl, SqL.of ela3, fun l1 nl1 => ?_⟩
              rw [cut_to _ 2 (by decide), ← List.map_take, show (2 : Int).toNat = 2 from rfl]
              have el1 : upd M3 l1 (.lst ((ns.take 2).map V.ref)) l1 = some (.lst ((ns.take 2).map V.ref)) := upd_same
              have l1b : l1 ≠ bg := fun z => EM3.bag.there (z ▸ nl1)
              have EG1 := (Ext.of_same EM3.bag Same.refl' : Ext bg M3 M3).new (o := .lst ((ns.take 2).map V.ref)) nl1
              generalize upd M3 l1 (.lst ((ns.take 2).map V.ref)) = G1 at el1 EG1 ⊢
              have TG1 := TM.tr (TSame.ext EM3.bag EG1)
              refine ⟨_, rfl, _, rfl, b, _, 1, .ref kt, rfl, rfl, SqT.of (TG1 _ _ e1), rfl, bg, kt, _, rfl, EG1.bag, ktb, .inr (TG1 _ _ e3), by rw [List.length_map]; omega, by rw [List.length_map]; omega, fun v G2 mv E2 => ?_⟩
              obtain ⟨ka2, mka2, rfl⟩ := List.mem_map.mp mv
              obtain ⟨kd2, mkd2, gt2, gas2, v1, v2, v3⟩ := paired_mem pk mka2
              refine ⟨ka2, _, 0, .str kd2.name, rfl, rfl, SqT.of (TG1.tr (TSame.ext EG1.bag E2) _ _ v1), rfl, ?_⟩
              refine ⟨_, rfl, bg, 9, rfl, E2.bag, by decide, by decide, fun y G3 E3' c0 c1 => ⟨_, _, rfl, rfl, ?_⟩⟩
              refine ⟨_, rfl, bg, 5, rfl, E3'.bag, by decide, by decide, fun t2 G4 E4 d0 d1 => ?_⟩
              have EG4 := (E2.trans E3').trans E4
              refine ⟨sz (by show 5 ≤ 900; decide), fun n2 nn2 => ⟨sz (by show 1 ≤ 900; decide), fun l2 nl2 => ?_⟩⟩
              have EG6 := ((EG4.new (o := .tup [.str "kind", .str kd2.name, .int (1 + y), .int t2, .int 9]) nn2).new (o := .lst [.ref n2]) nl2)
              have S2 := same_upd (o := .lst [.ref n2]) nl2
              refine ⟨_, _, _, _, rfl, rfl, EG6.keep l1 _ l1b el1, upd_same, sz (by rw [List.length_map, List.length_take]; show _ + 1 ≤ 900; omega), fun q3 nq3 => ?_⟩
              exact bh l1 l2 n2 _ _ (EG1.trans EG6) (EG6.keep l1 _ l1b el1) upd_same (S2 _ _ upd_same) (.kind kd2.name (1 + y) t2 9 (List.mem_map_of_mem mkd2) (by omega) (by omega) d0 (by omega) (by decide) (by decide)) q3 nq3
          · refine ⟨_, rfl, rfl, _, rfl, ite2 (fun _ => ?_) fun _ => q2 _ rfl⟩
            cases nv with
            | row n' t m h h0 h4 m0 m9 =>
              refine ⟨_, rfl, ns[j], _, 0, .str "row", rfl, rfl, SqT.of en, rfl, rfl, _, rfl, ?_⟩
              exact q2 _ rfl
            | kind n' ak t m h a1 a9 h0 h4 m0 m9 =>
              refine ⟨_, rfl, ns[j], _, 0, .str "kind", rfl, rfl, SqT.of en, rfl, rfl, _, rfl, ?_⟩
              exact q1 rfl _ rfl
      · refine ⟨_, rfl, rfl, _, rfl, ite2 (fun _ => q1 trivial _ Same.refl') fun _ => ?_⟩
        refine ⟨_, rfl, Nat.zero_le _, fun z nz => ?_⟩
        have Sz := same_upd (o := .tup []) nz
        refine grds_emptyT hr' hn' (Sz _ _ eg3) (Paired.mono' (fun _ _ e => Grd.ts e (TSame.of Sz)) hg3.pr) (fun g m => (hgr g m).2.2) upd_same ⟨_, rfl, ?_⟩
        by_cases c : kd.gs.length = 0
        · rw [decide_eq_true c]; exact q1 trivial _ Sz
        · rw [decide_eq_false c]; exact q2 (by omega) _ Sz
end
end KaG
set_option maxRecDepth 100000
set_option maxHeartbeats 4000000
namespace KaG
open PySem PySem.Spec PyProof.Rows L2 KaC KaN LamX NdefX
section
variable {P : Program} {w : World} {K : PySem.W.Frag} {mg : Str → Option Value} {base : Heap}
abbrev sWd : Stmt := top 44
abbrev nmWd : List Str := ["bag", "rulebook", "k", "giver", "name", "keep", "bar", "grounds"]
theorem scWd : FnScope nmWd ["bag", "rulebook"] (defScope sWd) := ⟨rfl, rfl, rfl, by decide +kernel, rfl, by decide +kernel, by decide +kernel⟩
theorem ok_Wd {f fT fS : Addr} {fd fdT fdS : FuncData} (F : Fun K "_law_with_dead" "_law_with_dead" sWd f fd) (T : TxtC mg) (C : Ct P w K mg base "_law_some" 2 ["bag", "things"] spSome2 fS fdS) (CT : Ct P w K mg base "_law_take" 1 ["bag", "upto"] spTake fT fdT) : FnOk P w K mg base CX0 3 f fd ["bag", "rulebook"] spBnt := by
  refine F.ok scWd (fun vs H Q E h => ?_) (fun cdv A outer s H vs Q E hr h => ?_)
  · obtain ⟨bg, b, rows, ks, rfl, _⟩ := h
    rfl
  · obtain ⟨bg, b, rows, ks, rfl, hB, hA, hO, r5, k⟩ := h
    have hr2 : Room 2 (A.deeper (envOfC "_law_with_dead" (defScope sWd) s.heap.objs.size f cdv)) := hr.mono (by decide)
    have hr1 : Room 1 (A.deeper (envOfC "_law_with_dead" (defScope sWd) s.heap.objs.size f cdv)) := hr.mono (by decide)
    have u1 : (A.deeper (envOfC "_law_with_dead" (defScope sWd) s.heap.objs.size f cdv)).units + 64 < cLine := by have := hr.3; omega
    refine ⟨_, (pss_cons (ps_par (i := 2) (j := 3) rfl scWd.nd rfl rfl (by decide) rfl rfl (pa_cons (pe_call CT.G hr1 (by rfl) CT.m CT.kp CT.b .nil pass0 (pa_cons (pv 0) (pa_cons (pe_callB call_len_seq (by rfl) T.b.len PySem.boot_len (pa_cons (pe_ix (r := rIxT K) ix_tup (pv 1) pe_int (fun _ _ => rfl)) pa_nil)) pa_nil)))
          (pa_cons (pe_ix (r := rIxT K) ix_tup (pe_call C.G hr2 (by rfl) C.m C.kp C.b .nil pass0 (pa_cons (pv 0) (pa_cons (pe_ix (r := rIxT K) ix_tup (pv 1) pe_int (fun _ _ => rfl)) pa_nil))) pe_int (fun _ _ => rfl)) pa_nil)) rfl)
      (pss_cons (ps_asg (pe_ix (r := rIxT K) ix_tup (pe_ix (r := rIxT K) ix_tup (pv 1) pe_int (fun _ _ => rfl)) (pv 2) (fun _ _ => rfl))
          (pg_tup (by rfl) (pgs_cons (pg_name (i := 4) scWd.nd rfl (Or.inl rfl)) (pgs_cons (pg_name (i := 5) scWd.nd rfl (Or.inl rfl)) (pgs_cons (pg_name (i := 6) scWd.nd rfl (Or.inl rfl)) (pgs_cons (pg_name (i := 7) scWd.nd rfl (Or.inl rfl)) pgs_nil))))))
      (pss_cons (ps_set (i := 7) scWd.nd rfl (Or.inl rfl) (pe_callTy (T := "tuple") (r := rTupOf K) call_tupOf (by rfl) T.tup (by decide +kernel) (pa_cons (pe_callB (cr_sortN rfl u1) (by rfl) T.sor (by decide +kernel) (pa_cons (pe_callTy (cr_setN rfl u1) (by rfl) T.set (by decide +kernel) (pa_cons
              (pe_op (r := rCatA K) op_catA (pe_slice (r := rSlA K) sl_tupA (pv 7) po_none (po_some pe_int)) (pe_tup (pa_cons (pe_tup (pa_cons (pe_tup (pa_cons pe_str (pa_cons (pv 3) (pa_cons pe_int (pa_cons (pe_call CT.G hr1 (by rfl) CT.m CT.kp CT.b .nil pass0 (pa_cons (pv 0) (pa_cons pe_int pa_nil)))
                (pa_cons (pe_call C.G hr2 (by rfl) C.m C.kp C.b .nil pass0 (pa_cons (pv 0) (pa_cons (pe_lst (pa_cons pe_int (pa_cons pe_int (pa_cons pe_int pa_nil)))) pa_nil))) pa_nil)))))) pa_nil)) pa_nil))) pa_nil)) pa_nil)) pa_nil)))
      (pss_one (ps_ret (pe_tup (pa_cons (pe_ix (r := rIxT K) ix_tup (pv 1) pe_int (fun _ _ => rfl)) (pa_cons (pe_op (r := rCatA K) op_catA (pe_op (r := rCatA K) op_catA (pe_slice (r := rSlA K) sl_tupA (pe_ix (r := rIxT K) ix_tup (pv 1) pe_int (fun _ _ => rfl)) po_none (po_some (pv 2))) (pe_tup (pa_cons (pe_tup (pa_cons (pv 4) (pa_cons (pv 5) (pa_cons (pv 6) (pa_cons (pv 7) pa_nil))))) pa_nil))) (pe_slice (r := rSlA K) sl_tupA (pe_ix (r := rIxT K) ix_tup (pv 1) pe_int (fun _ _ => rfl)) (po_some (pe_op op_add (pv 2) pe_int)) po_none)) pa_nil)))))))), ?_⟩
    have sz : ∀ {m : Nat}, m ≤ 900 → m ≤ sizeLine := fun h => Nat.le_of_lt (small1000 (by omega))
    have hk5 := hO.k5
    have hk0 := hO.k0
    obtain ⟨r, kt, kas, e1, e2, e3, pk⟩ := id hA
    have hlen := paired_len pk
    have ktb : kt ≠ bg := tup_ne hB e3
    refine ⟨_, rfl, _, rfl, b, _, 1, .ref kt, rfl, rfl, SqT.of e1, rfl, kt, kas.map V.ref, rfl, .inr (SqT.of e3), bg, _, rfl, hB, by rw [List.length_map]; omega, by rw [List.length_map]; omega, fun z H1 E1 z0 z1 => ?_⟩
    rw [List.length_map] at z1
    have T1 := TSame.ext hB E1
    refine ⟨_, rfl, _, rfl, b, _, 1, .ref kt, rfl, rfl, SqT.of (T1 _ _ e1), rfl, bg, kt, _, rfl, E1.bag, ktb, .inr (T1 _ _ e3), by rw [List.length_map]; omega, by rw [List.length_map]; omega, fun v H2 mv E2 => ?_⟩
    obtain ⟨ka2, mka2, rfl⟩ := List.mem_map.mp mv
    obtain ⟨kd2, mkd2, gt2, gas2, v1, v2, v3⟩ := paired_mem pk mka2
    have E12 := E1.trans E2
    have T2 := TSame.ext hB E12
    refine ⟨ka2, _, 0, .str kd2.name, rfl, rfl, SqT.of (T2 _ _ v1), rfl, _, _, rfl, ?_⟩
    obtain ⟨i, rfl⟩ := Int.eq_ofNat_of_zero_le z0
    have hi : i < ks.length := by omega
    have ha : kas[i]? = some kas[i] := List.getElem?_eq_getElem (by omega)
    obtain ⟨kd, hkd, gt, gas, f1, f2, f3⟩ := paired_at pk ha
    have mk := List.mem_of_getElem? hkd
    obtain ⟨p1, p8, b0, b60, g4⟩ := hO.num kd mk
    have hgr := hO.grd kd mk
    have hgl := paired_len f3
    refine ⟨_, rfl, b, _, 1, .ref kt, rfl, rfl, SqT.of (T2 _ _ e1), rfl, _, rfl, kt, _, (i : Int), .ref kas[i], rfl, rfl, SqT.of (T2 _ _ e3), atI_nat (by rw [List.getElem?_map, ha]; rfl), ?_⟩
    refine ⟨kas[i], _, rfl, SqT.of (T2 _ _ f1), rfl, _, _, rfl, _, _, rfl, _, _, rfl, _, _, rfl, rfl, ?_⟩
    dsimp only [gName]
    refine ⟨_, rfl, _, rfl, slA_go (T2 _ _ f2) fun q1 G1 S1 eq1 => ?_⟩
    rw [cut_to _ 3 (by decide), ← List.map_take, show (3 : Int).toNat = 3 from rfl] at eq1
    have EG1 := E12.trans (Ext.of_same E12.bag S1)
    refine ⟨_, rfl, _, rfl, bg, 5, rfl, EG1.bag, by decide, by decide, fun t2 G2 E2' d0 d1 => ?_⟩
    have EG2 := EG1.trans E2'
    refine ⟨_, rfl, sz (by show 3 ≤ 900; decide), fun q nq => ?_⟩
    have EG3 := EG2.new (o := .lst [.int 3, .int 0, .int 9]) nq
    refine ⟨bg, q, _, rfl, EG3.bag, fun z => EG2.bag.there (z ▸ nq), .inl upd_same, by decide, by decide, fun u G4 mu E4 => ?_⟩
    obtain ⟨y, rfl, y0, y9⟩ := ints_in (ns := [3, 0, 9]) (lo := 0) (hi := 9) (by decide) mu
    refine ⟨sz (by show 5 ≤ 900; decide), fun na nna => ⟨sz (by show 1 ≤ 900; decide), fun ga nga => ⟨sz (by show 1 ≤ 900; decide), fun t nt => ?_⟩⟩⟩
    have E14 := (((E2'.new (o := .lst [.int 3, .int 0, .int 9]) nq).trans E4).new (o := .tup [.str "kind", .str kd2.name, .int 9, .int t2, .int y]) nna).new (o := .tup [.ref na]) nga |>.new (o := .tup [.ref ga]) nt
    have T14 := TSame.ext EG1.bag E14
    have Sg := same_upd (o := .tup [.ref na]) nga
    have St := same_upd (o := .tup [.ref ga]) nt
    have ena := St _ _ (Sg _ _ upd_same)
    have ega := St _ _ (show _ = some (HO.tup [.ref na]) from upd_same)
    have et : upd (upd (upd G4 na (.tup [.str "kind", .str kd2.name, .int 9, .int t2, .int y])) ga (.tup [.ref na])) t (.tup [.ref ga]) t = some (.tup [.ref ga]) := upd_same
    generalize upd (upd (upd G4 na (.tup [.str "kind", .str kd2.name, .int 9, .int t2, .int y])) ga (.tup [.ref na])) t (.tup [.ref ga]) = G5 at E14 T14 ena ega et ⊢
    have EG5 := EG1.trans E14
    refine catA_go (T14 _ _ eq1) et (by rw [List.length_map, List.length_take]; show _ + 1 ≤ 900; omega) fun q6 G6 S6 eq6 => ?_
    have EG6 := EG5.trans (Ext.of_same EG5.bag S6)
    have T6 := TSame.ext hB EG6
    have hgG : GsAt G6 rows (nmsOf ks) gas kd.gs := ⟨Paired.mono' (fun _ _ e => Grd.ts e T6) f3, hgr⟩
    have h6 : GsAt G6 rows (nmsOf ks) (gas.take 3 ++ [ga]) (kd.gs.take 3 ++ [[[.str "kind", .str kd2.name, .int 9, .int t2, .int y]]]) := (hgG.cut 3).snoc (grd_one (S6 _ _ ega) (S6 _ _ ena)) ⟨by show 0 < 1; decide, by show 1 ≤ 3; decide, fun n2 m2 => by
      rw [List.mem_singleton.mp m2]
      exact .kind kd2.name 9 t2 y (List.mem_map_of_mem mkd2) (by decide) (by decide) d0 (by omega) y0 y9⟩
    have l6 : (gas.take 3 ++ [ga]).length ≤ 4 := by rw [List.length_append, List.length_take]; show _ + 1 ≤ 4; omega
    have lh6 := paired_len h6.pr
    have eq6' : G6 q6 = some (.tup ((gas.take 3 ++ [ga]).map V.ref)) := by rw [eq6, List.map_append]; rfl
    dsimp only [tCB, tCons, tNil]
    refine order_grounds (K := K) (w := w) (rows := rows) (names := nmsOf ks) (.inr (SqT.of eq6')) h6.pr (fun g m => ⟨(h6.ok g m).1, (h6.ok g m).2.2⟩) l6 fun a2 bs2 gs2 G7 S7 na2 ea2 pr2 sub2 le2 => ?_
    have EG7 := EG6.trans (Ext.of_same EG6.bag S7)
    dsimp only [gName]
    refine put_te (kn := 2) (kd' := ⟨kd.name, kd.keep, kd.bar, gs2⟩) rfl rfl (hA.ts (TSame.ext hB EG7)) hi hk5 (fun J4 Q' S4 q => ?_) fun p J5 S5 hA5 => ?_
    · refine ⟨_, rfl, _, rfl, _, rfl, _, rfl, sz (by show 4 ≤ 900; decide), fun ka nka => ?_⟩
      have S5 := same_upd (o := .tup [.str kd.name, .int kd.keep, .int kd.bar, .ref a2]) nka
      have S45 := KaG.Same.tr S4 S5
      exact q ka _ S5 ⟨a2, bs2, upd_same, S45 _ _ ea2, Paired.mono' (fun _ _ e => Grd.ts e (TSame.of S45)) pr2⟩
    · exact k p _ J5 (EG7.trans (Ext.of_same EG7.bag S5)) hA5 (book_put hO hkd rfl ⟨p1, p8, b0, b60, by show gs2.length ≤ 4; omega⟩ fun g m => h6.ok g (sub2 g m))
end
end KaG
set_option maxRecDepth 100000
set_option maxHeartbeats 4000000
namespace KaG
open PySem PySem.Spec PyProof.Rows L2 KaC KaN LamX NdefX
section
variable {P : Program} {w : World} {K : PySem.W.Frag} {mg : Str → Option Value} {base : Heap}
abbrev sTmd : Stmt := top 40
abbrev nmTmd : List Str := ["bag", "kinds", "found", "struck", "turn", "more", "other"]
theorem scTmd : FnScope nmTmd ["bag", "kinds"] (defScope sTmd) := ⟨rfl, rfl, rfl, by decide +kernel, rfl, by decide +kernel, by decide +kernel⟩
def spTmd : Sp := fun vs H Q _ => ∃ (bg : Addr) (n : Int), vs = [.ref bg, .int n] ∧ Bag H bg ∧ 1 ≤ n ∧ n ≤ 5 ∧ ∀ (t p sa : Addr) (rs S : List Str) (ks : List Kd) (H' : Hp), Ext bg H H' → H' t = some (.tup [.ref p, .ref sa]) → H' sa = some (.tup (S.map V.str)) → S.length ≤ 5 → (∀ x ∈ S, x ∈ nmAll) → rs.length ≤ 5 → BookAt H' p rs ks → BookOk rs ks → Q (.ref t) H'
theorem ok_Tmd {f fS fH fM fI : Addr} {fd fdS fdH fdM fdI : FuncData} (F : Fun K "_law_timed" "_law_timed" sTmd f fd) (T : TxtC mg) (C : Ct P w K mg base "_law_some" 2 ["bag", "things"] spSome2 fS fdS) (CH : Ct P w K mg base "_law_threaded" 6 ["bag", "kinds"] spTh fH fdH)
    (CM : Ct P w K mg base "_law_more_grounds" 3 ["bag", "rulebook", "struck"] spMgr fM fdM) (CI : Ct P w K mg base "_law_is_timed" 4 ["rulebook", "struck"] spLtm fI fdI) : FnOk P w K mg base CX0 7 f fd ["bag", "kinds"] spTmd := by
  refine F.ok scTmd (fun vs H Q E h => ?_) (fun cdv A outer s H vs Q E hr h => ?_)
  · obtain ⟨bg, n, rfl, _⟩ := h
    rfl
  · obtain ⟨bg, n, rfl, hB, n1, n5, k⟩ := h
    have hr6 : Room 6 (A.deeper (envOfC "_law_timed" (defScope sTmd) s.heap.objs.size f cdv)) := hr.mono (by decide)
    have hr4 : Room 4 (A.deeper (envOfC "_law_timed" (defScope sTmd) s.heap.objs.size f cdv)) := hr.mono (by decide)
    have hr3 : Room 3 (A.deeper (envOfC "_law_timed" (defScope sTmd) s.heap.objs.size f cdv)) := hr.mono (by decide)
    have hr2 : Room 2 (A.deeper (envOfC "_law_timed" (defScope sTmd) s.heap.objs.size f cdv)) := hr.mono (by decide)
    refine ⟨_, (pss_cons (ps_set (i := 2) scTmd.nd rfl (Or.inl rfl) (pe_call CH.G hr6 (by rfl) CH.m CH.kp CH.b .nil pass0 (pa_cons (pv 0) (pa_cons (pv 1) pa_nil))))
      (pss_cons (ps_set (i := 3) scTmd.nd rfl (Or.inl rfl) (pe_slice (r := rSlA K) sl_tupA (pe_ix (r := rIxT K) ix_tup (pv 2) pe_int (fun _ _ => rfl)) po_none (po_some pe_int)))
      (pss_cons (ps_for PassesOwn.never rfl (pi_range1 rfl T.b.range (pa_cons (pe_call C.G hr2 (by rfl) C.m C.kp C.b .nil pass0 (pa_cons (pv 0) (pa_cons (pe_lst (pa_cons pe_int (pa_cons pe_int (pa_cons pe_int (pa_cons pe_int (pa_cons pe_int pa_nil)))))) pa_nil))) pa_nil)) (pg_name (i := 4) scTmd.nd rfl (Or.inl rfl))
        (pss_cons (ps_set (i := 5) scTmd.nd rfl (Or.inl rfl) (pe_call CM.G hr3 (by rfl) CM.m CM.kp CM.b .nil pass0 (pa_cons (pv 0) (pa_cons (pv 2) (pa_cons (pv 3) pa_nil)))))
        (pss_one (ps_set (i := 2) scTmd.nd rfl (Or.inl rfl) (pe_ifExp (pt_val (pe_call CI.G hr4 (by rfl) CI.m CI.kp CI.b .nil pass0 (pa_cons (pv 5) (pa_cons (pv 3) pa_nil)))) (pv 5) (pv 2))))))
      (pss_cons (ps_set (i := 6) scTmd.nd rfl (Or.inl rfl) (pe_call C.G hr2 (by rfl) C.m C.kp C.b .nil pass0 (pa_cons (pv 0) (pa_cons (pe_lst (pa_cons (pv 3) (pa_cons (pv 3) (pa_cons (pv 3) (pa_cons (pe_ix (r := rIxT K) ix_tup (pv 2) pe_int (fun _ _ => rfl)) (pa_cons (pe_slice (r := rSlA K) sl_tupA (pe_ix (r := rIxT K) ix_tup (pv 2) pe_int (fun _ _ => rfl)) (po_some pe_int) po_none) pa_nil)))))) pa_nil))))
      (pss_one (ps_ret (pe_tup (pa_cons (pv 2) (pa_cons (pe_ifExp (pt_val (pe_call CI.G hr4 (by rfl) CI.m CI.kp CI.b .nil pass0 (pa_cons (pv 2) (pa_cons (pv 6) pa_nil)))) (pv 6) (pv 3)) pa_nil))))))))), ?_⟩
    have sz : ∀ {m : Nat}, m ≤ 900 → m ≤ sizeLine := fun h => Nat.le_of_lt (small1000 (by omega))
    refine ⟨_, rfl, _, rfl, bg, n, rfl, hB, n1, n5, fun p rs ks H1 E1 np l5 l2 hA hO => ?_⟩
    obtain ⟨r, kt, kas, e1, e2, e3, pk⟩ := id hA
    refine ⟨_, rfl, p, _, 0, .ref r, rfl, rfl, SqT.of e1, rfl, ?_⟩
    refine ⟨_, rfl, ?_⟩
    refine slA_go e2 fun sa H2 S2 esa => ?_
    rw [cut_to _ 1 (by decide), ← List.map_take, show (1 : Int).toNat = 1 from rfl] at esa
    have E2 := E1.trans (Ext.of_same E1.bag S2)
    have T12 := TSame.of S2
    have hsub : ∀ x ∈ rs.take 1, x ∈ rs := fun x m => List.mem_of_mem_take m
    have hlS : (rs.take 1).length ≤ 5 := by rw [List.length_take]; omega
    have h0S : 0 < (rs.take 1).length := by rw [List.length_take]; omega
    generalize rs.take 1 = S at esa hsub hlS h0S
    refine ⟨_, rfl, sz (by show 5 ≤ 900; decide), fun q nq => ?_⟩
    have E3 := E2.new (o := .lst [.int 2, .int 4, .int 6, .int 0, .int 8]) nq
    refine ⟨bg, q, _, rfl, E3.bag, fun z => E2.bag.there (z ▸ nq), .inl upd_same, by decide, by decide, fun u H4 mu E4 => ?_⟩
    obtain ⟨y, rfl, y0, y9⟩ := ints_in (ns := [2, 4, 6, 0, 8]) (lo := 0) (hi := 8) (by decide) mu
    have E24 := ((Ext.of_same E2.bag Same.refl' : Ext bg H2 H2).new (o := .lst [.int 2, .int 4, .int 6, .int 0, .int 8]) nq).trans E4
    have esab : sa ≠ bg := tup_ne E2.bag esa
    refine ⟨_, rfl, by omega, by omega, for_range (fun i σ' G => (∃ (p' : Addr) (ks' : List Kd) (x4 x5 : Option V), σ' = [some (.ref bg), some (.int n), some (.ref p'), some (.ref sa), x4, x5, none] ∧ BookAt G p' rs ks' ∧ BookOk rs ks') ∧ Ext bg H2 G) ?_ ?_ ?_⟩
    · exact ⟨⟨p, ks, none, none, rfl, hA.ts (T12.tr (TSame.ext E2.bag E24)), hO⟩, E24⟩
    · rintro i σ' G hi ⟨⟨p', ks', x4, x5, rfl, hA', hO'⟩, EG⟩
      have esG := EG.keep sa _ esab esa
      refine ⟨_, rfl, _, rfl, _, rfl, bg, p', sa, rs, S, ks', rfl, EG.bag, hA', hO', l5, l2, esG, hsub, h0S, fun p2 ks2 G2 E2' hA2 hO2 => ?_⟩
      have EG2 := EG.trans E2'
      refine ⟨_, rfl, _, rfl, p2, sa, rs, ks2, S, rfl, hA2, hO2, .inr (EG2.keep sa _ esab esa), fun G3 S3 => ⟨_, rfl, ?_⟩⟩
      have EG3 := EG2.trans (Ext.of_same EG2.bag S3)
      refine ite2 (fun _ => ⟨_, rfl, ?_⟩) fun _ => ⟨_, rfl, ?_⟩
      · exact ⟨⟨p2, ks2, _, _, rfl, hA2.ts (TSame.of S3), hO2⟩, EG3⟩
      · exact ⟨⟨p', ks', _, _, rfl, hA'.ts ((TSame.ext EG.bag E2').tr (TSame.of S3)), hO'⟩, EG3⟩
    · rintro σ' G ⟨⟨p', ks', x4, x5, rfl, hA', hO'⟩, EG⟩
      obtain ⟨r', kt', kas', g1, g2, g3, pk'⟩ := id hA'
      have esG := EG.keep sa _ esab esa
      refine ⟨_, rfl, _, rfl, _, rfl, _, rfl, _, rfl, p', _, 0, .ref r', rfl, rfl, SqT.of g1, rfl, _, rfl, p', _, 0, .ref r', rfl, rfl, SqT.of g1, rfl, ?_⟩
      refine ⟨_, rfl, ?_⟩
      dsimp only [tNoPart]
      refine slA_go g2 fun rx G1 S1 erx => ?_
      rw [show (1 : Int) = ((1 : Nat) : Int) from rfl, cut_drop, ← List.map_drop] at erx
      have EG1 := EG.trans (Ext.of_same EG.bag S1)
      refine ⟨sz (by show 5 ≤ 900; decide), fun l nl => ?_⟩
      have Sl := same_upd (o := .lst [.ref sa, .ref sa, .ref sa, .ref r', .ref rx]) nl
      have EG2 := EG1.new (o := .lst [.ref sa, .ref sa, .ref sa, .ref r', .ref rx]) nl
      refine ⟨bg, l, _, rfl, EG2.bag, fun z => EG1.bag.there (z ▸ nl), .inl upd_same, by show 0 < 5; decide, by show 5 ≤ 1000; decide, fun v G3 mv E3' => ?_⟩
      have EG3 := EG2.trans E3'
      have TG1 : TSame G1 G3 := (TSame.of Sl).tr (TSame.ext EG2.bag E3')
      have TG : TSame G G3 := (TSame.of S1).tr TG1
      have some' : ∃ (oa : Addr) (O : List Str), v = .ref oa ∧ G3 oa = some (.tup (O.map V.str)) ∧ O.length ≤ 5 ∧ ∀ x ∈ O, x ∈ rs := by
        simp only [List.mem_cons, List.not_mem_nil, or_false] at mv
        rcases mv with rfl | rfl | rfl | rfl | rfl
        · exact ⟨_, S, rfl, TG _ _ esG, hlS, hsub⟩
        · exact ⟨_, S, rfl, TG _ _ esG, hlS, hsub⟩
        · exact ⟨_, S, rfl, TG _ _ esG, hlS, hsub⟩
        · exact ⟨_, rs, rfl, TG _ _ g2, l5, fun x m => m⟩
        · exact ⟨_, rs.drop 1, rfl, TG1 _ _ erx, by rw [List.length_drop]; omega, fun x m => List.mem_of_mem_drop m⟩
      obtain ⟨oa, O, rfl, eO, lO, hOr⟩ := some'
      have hA3 := hA'.ts TG
      dsimp only [gName]
      refine ⟨_, rfl, _, rfl, _, rfl, p', oa, rs, ks', O, rfl, hA3, hO', .inr eO, fun G4 S4 => ⟨_, rfl, ?_⟩⟩
      have EG4 := (E2.trans EG3).trans (Ext.of_same EG3.bag S4)
      have hA4 := hA3.ts (TSame.of S4)
      refine ite2 (fun _ => ⟨_, rfl, sz (by show 2 ≤ 900; decide), fun t nt => ?_⟩) fun _ => ⟨_, rfl, sz (by show 2 ≤ 900; decide), fun t nt => ?_⟩
      · have St := same_upd (o := .tup [.ref p', .ref oa]) nt
        exact k t p' oa rs O ks' _ (EG4.new nt) upd_same (St _ _ (S4 _ _ eO)) lO (fun x m => hO'.rw.of x (hOr x m)) l5 (hA4.ts (TSame.of St)) hO'
      · have St := same_upd (o := .tup [.ref p', .ref sa]) nt
        exact k t p' sa rs S ks' _ (EG4.new nt) upd_same (St _ _ (S4 _ _ (TG _ _ esG))) hlS (fun x m => hO'.rw.of x (hsub x m)) l5 (hA4.ts (TSame.of St)) hO'
end
end KaG
set_option maxRecDepth 100000
set_option maxHeartbeats 4000000
namespace KaG
open PySem PySem.Spec PyProof.Rows L2 KaC KaN LamX NdefX
def BagC (xs : List V) : Prop := ∃ (c st i : Int) (b : Addr), xs = [.int c, .int st, .int i, .ref b]
theorem refs_nb {ns : List Addr} : ¬ BagC (ns.map V.ref) := fun ⟨c, st, i, b, e⟩ => by
  cases ns with
  | nil => cases e
  | cons n r => exact absurd (List.cons.inj e).1 fun z => nomatch z
structure Bg (T : List NTab) (bg : Addr) (H J : Hp) : Prop where
  k : ∀ b o, b ≠ bg → (∀ ps, o ≠ .tbl ps) → H b = some o → J b = some o
  bag : Bag J bg
  tab : TabsN T J
  non : ∀ b, J b = none → H b = none
  inn : ∀ b, Inn H bg b → Inn J bg b
theorem Bg.refl {T : List NTab} {bg : Addr} {H : Hp} (b : Bag H bg) (t : TabsN T H) : Bg T bg H H := ⟨fun _ _ _ _ e => e, b, t, fun _ e => e, fun _ e => e⟩
theorem Bg.tr {T : List NTab} {bg : Addr} {H J G : Hp} (a : Bg T bg H J) (b : Bg T bg J G) : Bg T bg H G := ⟨fun c o n m e => b.k c o n m (a.k c o n m e), b.bag, b.tab, fun c e => a.non c (b.non c e), fun c e => b.inn c (a.inn c e)⟩
theorem Bg.ex {T : List NTab} {bg : Addr} {H J : Hp} (b : Bag H bg) (x : Ex T H J) : Bg T bg H J := by
  obtain ⟨c, st, i, a, ns, h1, h2, h3⟩ := b
  exact ⟨fun d o _ m e => x.ext d o e m, ⟨c, st, i, a, ns, x.lst h1, x.lst h2, h3⟩, x.tab, x.non, fun d ⟨c, s, j, e⟩ => ⟨c, s, j, x.lst e⟩⟩
theorem Bg.ext {T : List NTab} {bg : Addr} {H J : Hp} (b : Bag H bg) (t : TabsN T H) (x : KaG.Ext bg H J) : Bg T bg H J := by
  refine ⟨fun d o n _ e => x.keep d o n e, x.bag, fun q hq => ?_, fun d e => newAt x e, x.inn⟩
  obtain ⟨c, st, i, a, ns, h1, _⟩ := b
  obtain ⟨ps, e1, e2, e3⟩ := t q hq
  refine ⟨ps, x.keep _ _ (fun z => by rw [z, h1] at e1; cases e1) e1, e2, fun pos cv hc => ?_⟩
  obtain ⟨c0, g1, g2⟩ := e3 pos cv hc
  exact ⟨c0, g1, x.keep _ _ (fun z => by rw [z, h1] at g2; injection g2 with g2; unfold CodeO at g2; cases g2) g2⟩
theorem Bg.ts {T : List NTab} {bg : Addr} {H J : Hp} (a : Bg T bg H J) (b : Bag H bg) : TSame H J := fun d xs e => by
  obtain ⟨c, st, i, a0, ns, h1, _⟩ := b
  exact a.k d _ (fun z => by rw [z, h1] at e; cases e) (fun _ z => nomatch z) e
theorem Bg.dk {T : List NTab} {bg : Addr} {H J : Hp} (a : Bg T bg H J) (b : Bag H bg) {d : Addr} {xs : List (Key × V)} (e : H d = some (.dK xs)) : J d = some (.dK xs) := by
  obtain ⟨c, st, i, a0, ns, h1, _⟩ := b
  exact a.k d _ (fun z => by rw [z, h1] at e; cases e) (fun _ z => nomatch z) e
theorem Bg.lst {T : List NTab} {bg : Addr} {H J : Hp} (a : Bg T bg H J) (b : Bag H bg) {d : Addr} {xs : List V} (e : H d = some (.lst xs)) (n : ¬ BagC xs) : J d = some (.lst xs) := by
  obtain ⟨c, st, i, a0, ns, h1, _⟩ := b
  refine a.k d _ (fun z => n ?_) (fun _ z => nomatch z) e
  rw [z, h1] at e
  injection e with e
  injection e with e
  exact ⟨c, st, i, a0, e.symm⟩
end KaG
set_option maxRecDepth 100000
set_option maxHeartbeats 4000000
namespace KaG
open PySem PySem.Spec PyProof.Rows L2 KaC KaN LamX NdefX RZ
theorem go_zipT {K : PySem.W.Frag} {a b : Addr} {xs ys : List V} {Hs : Hp} {Qd : Hp → Prop} {F : V → Hp → (Hp → Prop) → Prop} (hxy : xs.length = ys.length) (Pv : Nat → Hp → Prop) (h0 : Pv 0 Hs) (hl : ∀ i H, i ≤ xs.length → Pv i H → SqT K H a xs ∧ SqT K H b ys) (hs : ∀ i x y T H, xs[i]? = some x → ys[i]? = some y → Pv i H → H T = none → F (.ref T) (upd H T (.tup [x, y])) (Pv (i + 1))) (hd : ∀ H, Pv xs.length H → Qd H) :
    ∃ W : Nat → Nat → Hp → Prop, (∃ m, W 0 m Hs) ∧ ∀ i m H, W i m H → ((ItzT K a b).stop i H ∧ Qd H) ∨ ((ItzT K a b).go i H ∧ ∃ N : Hp → Prop, (∀ H', N H' → ∃ m', m' < m ∧ W (i + 1) m' H') ∧ ∀ x H', (ItzT K a b).yld i H x H' → F x H' N) := by
  refine ⟨fun i m H => m = xs.length - i ∧ i ≤ xs.length ∧ Pv i H, ⟨_, rfl, Nat.zero_le _, h0⟩, fun i m H ⟨em, hi, p⟩ => ?_⟩
  obtain ⟨qx, qy⟩ := hl i H hi p
  rcases Nat.lt_or_ge i xs.length with lt | ge
  · refine .inr ⟨⟨xs, ys, xs[i], ys[i], qx, qy, List.getElem?_eq_getElem lt, List.getElem?_eq_getElem (by omega)⟩, Pv (i + 1), fun H' p' => ⟨xs.length - (i + 1), by omega, rfl, lt, p'⟩, fun v H' ⟨T, x, y, e1, e2, e3, f1, f2⟩ => ?_⟩
    subst e1; subst e3
    exact hs i x y T H (f1 xs qx) (f2 ys qy) p e2
  · obtain rfl : i = xs.length := by omega
    exact .inl ⟨⟨xs, ys, qx, qy, .inl (Nat.le_refl _)⟩, hd H p⟩
def zipB (ks : List Kd) (bs : List Int) : List Kd := (ks.zip bs).map fun z => ⟨z.1.name, z.1.keep, z.2, z.1.gs⟩
theorem zipB_nm : ∀ {ks : List Kd} {bs : List Int}, bs.length = ks.length → (zipB ks bs).map Kd.name = ks.map Kd.name
  | [], _, _ => rfl
  | _ :: _, [], h => nomatch h
  | k :: ks, b :: bs, h => by
    show k.name :: (zipB ks bs).map Kd.name = _
    rw [zipB_nm (Nat.succ.inj h)]; rfl
theorem zipB_len {ks : List Kd} {bs : List Int} (h : bs.length = ks.length) : (zipB ks bs).length = ks.length := by
  rw [zipB, List.length_map, List.length_zip, h, Nat.min_self]
theorem zipB_in {ks : List Kd} {bs : List Int} {k : Kd} (m : k ∈ zipB ks bs) : ∃ k0 ∈ ks, ∃ b ∈ bs, k = ⟨k0.name, k0.keep, b, k0.gs⟩ := by
  obtain ⟨z, hz, rfl⟩ := List.mem_map.mp m
  exact ⟨z.1, (List.of_mem_zip hz).1, z.2, (List.of_mem_zip hz).2, rfl⟩
theorem zipB_ok {rows : List Str} {ks : List Kd} {bs : List Int} (h : BookOk rows ks) (hl : bs.length = ks.length) (hb : ∀ b ∈ bs, 0 ≤ b ∧ b ≤ 60) : BookOk rows (zipB ks bs) := by
  have en := zipB_nm hl
  have el := zipB_len hl
  refine ⟨h.rw, by rw [en]; exact h.nm, h.r0, by rw [el]; exact h.k0, by rw [el]; exact h.k5, fun k m => ?_, fun k m g mg => ?_⟩
  · obtain ⟨k0, m0, b, mb, rfl⟩ := zipB_in m
    have n := h.num k0 m0
    exact ⟨n.1, n.2.1, (hb b mb).1, (hb b mb).2, n.2.2.2.2⟩
  · obtain ⟨k0, m0, b, mb, rfl⟩ := zipB_in m
    rw [en]
    exact h.grd k0 m0 g mg
theorem zipB_take {ks : List Kd} {bs : List Int} {i : Nat} {k : Kd} {b : Int} (hk : ks[i]? = some k) (hb : bs[i]? = some b) : (zipB ks bs).take (i + 1) = (zipB ks bs).take i ++ [⟨k.name, k.keep, b, k.gs⟩] := by
  have hz : (zipB ks bs)[i]? = some ⟨k.name, k.keep, b, k.gs⟩ := by
    rw [zipB, List.getElem?_map, (List.getElem?_zip_eq_some (z := (k, b))).mpr ⟨hk, hb⟩]; rfl
  rw [List.take_add_one, hz]; rfl
section
variable {P : Program} {w : World} {K : PySem.W.Frag} {mg : Str → Option Value} {base : Heap}
abbrev sWb : Stmt := top 17
abbrev nmWb : List Str := ["rulebook", "bars", "kinds", "kind", "bar"]
theorem scWb : FnScope nmWb ["rulebook", "bars"] (defScope sWb) := ⟨rfl, rfl, rfl, by decide +kernel, rfl, by decide +kernel, by decide +kernel⟩
def spWb : Sp := fun vs H Q _ => ∃ (b bt : Addr) (rows : List Str) (ks : List Kd) (bs : List Int), vs = [.ref b, .ref bt] ∧ BookAt H b rows ks ∧ BookOk rows ks ∧ H bt = some (.tup (bs.map V.int)) ∧ bs.length = ks.length ∧ ∀ (p : Addr) (H' : Hp), Same H H' → H p = none → BookAt H' p rows (zipB ks bs) → Q (.ref p) H'
theorem ok_Wb {f : Addr} {fd : FuncData} (F : Fun K "with_bars" "with_bars" sWb f fd) (T : TxtC mg) (hzip : mg "zip" = none) : FnOk P w K mg base CX0 1 f fd ["rulebook", "bars"] spWb := by
  refine F.ok scWb (fun vs H Q E h => ?_) (fun cdv A outer s H vs Q E hr h => ?_)
  · obtain ⟨b, bt, rows, ks, bs, rfl, _⟩ := h
    rfl
  · obtain ⟨b, bt, rows, ks, bs, rfl, hA, hO, eb, lb, k⟩ := h
    refine ⟨_, (pss_cons (ps_setLc (i := 2) (own := [("kind", 3), ("bar", 4)]) (g := gTup K 2 (gCons (gName 3) (gCons (gName 4) gNil))) (tt := tYes) (te := tTup (tCons (tOp (rIxT K) (tVar 3) (tC (.int 0))) (tCons (tOp (rIxT K) (tVar 3) (tC (.int 1))) (tCons (tVar 4) (tCons (tOp (rIxT K) (tVar 3) (tC (.int 3))) tNil))))) (by rfl) scWb.nd rfl rfl (sw_true rfl rfl rfl (by decide +kernel))
        (pi_zipA (by rfl) hzip (pa_cons (pe_ix (r := rIxT K) ix_tup (pv 0) pe_int (fun _ _ => rfl)) (pa_cons (pv 1) pa_nil)))
        (blkOk_by (own := [("kind", 3), ("bar", 4)]) (N := nmWb) (sc := defScope sWb) (by decide +kernel))
        (fun _ _ _ _ _ => pg_tup (t := gCons (gName 3) (gCons (gName 4) gNil)) rfl (pgs_cons (pg_name (i := 3) scWb.nd rfl (Or.inl rfl)) (pgs_cons (pg_name (i := 4) scWb.nd rfl (Or.inl rfl)) pgs_nil))) (fun _ _ _ _ _ => pts_nil)
        (fun _ _ _ _ _ => pe_tup (pa_cons (pe_ix (r := rIxT K) ix_tup (pv 3) pe_int (fun _ _ => rfl)) (pa_cons (pe_ix (r := rIxT K) ix_tup (pv 3) pe_int (fun _ _ => rfl)) (pa_cons (pv 4) (pa_cons (pe_ix (r := rIxT K) ix_tup (pv 3) pe_int (fun _ _ => rfl)) pa_nil))))))
      (pss_one (ps_ret (pe_tup (pa_cons (pe_ix (r := rIxT K) ix_tup (pv 0) pe_int (fun _ _ => rfl)) (pa_cons (pe_callTy call_tuple_of (by rfl) T.tup (by decide +kernel) (pa_cons (pv 2) pa_nil)) pa_nil)))))), ?_⟩
    have sz : ∀ {m : Nat}, m ≤ 900 → m ≤ sizeLine := fun h => Nat.le_of_lt (small1000 (by omega))
    have hk5 := hO.k5
    obtain ⟨r, kt, kas, e1, e2, e3, pk⟩ := id hA
    have hlen := paired_len pk
    refine ⟨_, rfl, b, _, 1, .ref kt, rfl, rfl, SqT.of e1, rfl, ?_⟩
    refine ⟨_, rfl, kt, bt, kas.map V.ref, bs.map V.int, rfl, .inr ⟨SqT.of e3, SqT.of eb, fun D nD => ?_⟩⟩
    refine go_zipT (K := K) (a := kt) (b := bt) (xs := kas.map V.ref) (ys := bs.map V.int) (by rw [List.length_map, List.length_map]; omega) (fun i J => Same H J ∧ ∃ qs : List Addr, J D = some (.lst (qs.map V.ref)) ∧ Paired (fun a k => KdAt J a k) qs ((zipB ks bs).take i)) ?_ ?_ ?_ ?_
    · exact ⟨same_upd nD, [], upd_same, .nil⟩
    · rintro i J _ ⟨SJ, _⟩
      exact ⟨SqT.of (SJ _ _ e3), SqT.of (SJ _ _ eb)⟩
    · rintro i x y T0 J hx hy ⟨SJ, qs, jD, pq⟩ nT0
      rw [List.getElem?_map] at hx hy
      obtain ⟨ka, ha, rfl⟩ := Option.map_eq_some_iff.mp hx
      obtain ⟨bar, hbar, rfl⟩ := Option.map_eq_some_iff.mp hy
      obtain ⟨kd, hkd, gt, gas, f1, f2, f3⟩ := paired_at pk ha
      have ST := same_upd (o := .tup [.ref ka, .int bar]) nT0
      have eT : upd J T0 (.tup [.ref ka, .int bar]) T0 = some (.tup [.ref ka, .int bar]) := upd_same
      have lq := paired_len pq
      rw [List.length_take, zipB_len lb] at lq
      have S1 := KaG.Same.tr SJ ST
      have jD1 := ST _ _ jD
      have pq1 := Paired.mono' (fun _ _ e => KdAt.ts e (TSame.of ST)) pq
      generalize upd J T0 (.tup [.ref ka, .int bar]) = J1 at eT S1 jD1 pq1 ⊢
      refine ⟨T0, _, rfl, SqT.of eT, rfl, _, _, rfl, _, _, rfl, rfl, rfl, tYes_go (iteT ?_)⟩
      have q1 := SqT.of (K := K) (S1 _ _ f1)
      refine ⟨_, rfl, ka, _, 0, .str kd.name, rfl, rfl, q1, rfl, _, rfl, ka, _, 1, .int kd.keep, rfl, rfl, q1, rfl, _, rfl, _, rfl, ka, _, 3, .ref gt, rfl, rfl, q1, rfl, sz (by show 4 ≤ 900; decide), fun t nt => ?_⟩
      have St := same_upd (o := .tup [.str kd.name, .int kd.keep, .int bar, .ref gt]) nt
      have et : upd J1 t (.tup [.str kd.name, .int kd.keep, .int bar, .ref gt]) t = some (.tup [.str kd.name, .int kd.keep, .int bar, .ref gt]) := upd_same
      have jD2 := St _ _ jD1
      have S2 := KaG.Same.tr S1 St
      have pq2 := Paired.mono' (fun _ _ e => KdAt.ts e (TSame.of St)) pq1
      generalize upd J1 t (.tup [.str kd.name, .int kd.keep, .int bar, .ref gt]) = J2 at et jD2 S2 pq2 ⊢
      have tsl := ts_lst (ys := qs.map V.ref ++ [V.ref t]) jD2
      refine ⟨_, jD2, small1000 (by rw [List.length_map]; omega), fun b u e => by rw [upd_ne (ne_of_none e nD)]; exact S2 b u e, qs ++ [t], by rw [upd_same, List.map_append]; rfl, ?_⟩
      rw [zipB_take hkd hbar]
      refine paired_app (Paired.mono' (fun _ _ e => KdAt.ts e tsl) pq2) (.cons ?_ .nil)
      exact KdAt.ts (k := ⟨kd.name, kd.keep, bar, kd.gs⟩) ⟨gt, gas, et, S2 _ _ f2, Paired.mono' (fun _ _ e => Grd.ts e (TSame.of S2)) f3⟩ tsl
    · rintro J ⟨SJ, qs, jD, pq⟩
      rw [List.length_map, hlen, ← zipB_len lb, List.take_length] at pq
      refine ⟨_, rfl, b, _, 0, .ref r, rfl, rfl, SqT.of (SJ _ _ e1), rfl, _, rfl, D, _, rfl, .inl ⟨SqL.of jD, fun t nt => ?_⟩⟩
      refine ⟨sz (by show 2 ≤ 900; decide), fun p np => ?_⟩
      have S1 := same_upd (o := .tup (qs.map V.ref)) nt
      have S2 := KaG.Same.tr S1 (same_upd (o := .tup [.ref r, .ref t]) np)
      exact k p _ (KaG.Same.tr SJ S2) (same_non (KaG.Same.tr SJ S1) _ np) ⟨r, t, qs, upd_same, KaG.Same.tr SJ S2 _ _ e2, same_upd np _ _ upd_same, Paired.mono' (fun _ _ e => KdAt.ts e (TSame.of S2)) pq⟩
end
end KaG
set_option maxRecDepth 100000
set_option maxHeartbeats 8000000
set_option maxRecDepth 100000
set_option maxHeartbeats 4000000
namespace KaG
open PySem PySem.Spec PyProof.Rows L2 KaC LamX NdefX
/-- a rulebook and a lot of its rows -/
def ItemAt (H : Hp) (p : Addr) : Prop := ∃ (b sa : Addr) (rows : List Str) (ks : List Kd) (S : List Str), H p = some (.tup [.ref b, .ref sa]) ∧ BookAt H b rows ks ∧ BookOk rows ks ∧ H sa = some (.tup (S.map V.str)) ∧ S.length ≤ 5 ∧ ∀ n ∈ S, n ∈ nmAll
theorem ItemAt.ts {H H' : Hp} {p : Addr} (h : ItemAt H p) (s : TSame H H') : ItemAt H' p := by
  obtain ⟨b, sa, rows, ks, S, h1, h2, h3, h4, h5⟩ := h
  exact ⟨b, sa, rows, ks, S, s _ _ h1, h2.ts s, h3, s _ _ h4, h5⟩
section
variable {P : Program} {w : World} {K : PySem.W.Frag} {mg : Str → Option Value} {base : Heap}
def spLaw (T : List NTab) (K : PySem.W.Frag) : Sp := fun vs H Q _ => ∃ (a : Addr) (ns : List Int), vs = [.ref a] ∧ SqL K H a (ns.map V.int) ∧ ns.length ≤ 63 ∧ TabsN T H ∧ ∀ H', Q (.bl true) H'
structure GnG (c : Bool) (P : Program) (w : World) (K : PySem.W.Frag) (mg : Str → Option Value) (base : Heap) (x : Str) (k : Nat) (ps : List Str) (sp : Sp) (f : Addr) (fd : FuncData) : Prop where
  G : FnG c P w K mg base CX0 k f fd ps sp
  m : mg x = some (.ref f)
  kp : PySem.W.keepIn K (.ref f) = true
  b : Binds K fd ps []
end
end KaG
set_option maxRecDepth 100000
set_option maxHeartbeats 4000000
namespace KaG
open PySem PySem.Spec PyProof.Rows L2 KaC KaN LamX NdefX RZ
theorem Gd.bl {H : Hp} (b : Bool) : Gd H (.bl b) (.bool b) 0 20 := ⟨.bl b, by simp [PyData.canLay0], by simp [PyData.depth], by cases b <;> decide +kernel⟩
theorem Gd.bls {H : Hp} {z : Addr} {a b : Bool} (e : H z = some (.lst [.bl a, .bl b])) : Gd H (.ref z) (.list [.bool a, .bool b]) 1 47 := Gd.lst (m := 0) (n := 20) (ds := [.bool a, .bool b]) e (.cons (Gd.bl a) (.cons (Gd.bl b) .nil)) (c := 2) (Nat.le_refl 2)
theorem zipB_kl {p : Str} {a : Int} : ∀ {ks : List Kd} {bs : List Int}, bs.length = ks.length → keepLt (zipB ks bs) p a = keepLt ks p a
  | [], _, _ => rfl
  | _ :: _, [], h => nomatch h
  | k :: ks, b :: bs, h => by
    have ih := zipB_kl (p := p) (a := a) (ks := ks) (bs := bs) (Nat.succ.inj h)
    unfold keepLt at ih ⊢
    rw [List.any_cons, ← ih]
    rfl
theorem zipB_gs {n : Str} : ∀ {ks : List Kd} {bs : List Int}, bs.length = ks.length → gsOf (zipB ks bs) n = gsOf ks n
  | [], _, _ => rfl
  | _ :: _, [], h => nomatch h
  | k :: ks, b :: bs, h => by
    have ih := zipB_gs (n := n) (ks := ks) (bs := bs) (Nat.succ.inj h)
    have e : zipB (k :: ks) (b :: bs) = ⟨k.name, k.keep, b, k.gs⟩ :: zipB ks bs := rfl
    unfold gsOf at ih ⊢
    rw [e, List.find?_cons, List.find?_cons]
    show (match (match decide (k.name = n) with | true => some (⟨k.name, k.keep, b, k.gs⟩ : Kd) | false => List.find? _ (zipB ks bs)) with | some k => k.gs | none => []) = _
    cases decide (k.name = n) with
    | true => rfl
    | false => exact ih
section
variable {ks : List Kd} {bs : List Int} {S : List Str}
theorem zipB_gr (h : bs.length = ks.length) : grLive (zipB ks bs) = grLive ks := by
  funext B g
  unfold grLive
  refine congrArg (fun f => g.all f) (funext fun it => ?_)
  unfold ndLive
  split
  · rw [zipB_kl h]
  · rfl
theorem zipB_bear (h : bs.length = ks.length) : bearOf (zipB ks bs) = bearOf ks := by
  have e : jB (zipB ks bs) = jB ks := by
    funext n B
    unfold jB
    rw [zipB_gs h, zipB_gr h]
  unfold bearOf nmsOf
  rw [e, zipB_nm h]
theorem zipB_lv (h : bs.length = ks.length) : lvG (zipB ks bs) = lvG ks := by
  funext n
  have e : grAt (zipB ks bs) n = grAt ks n := by
    funext i
    unfold grAt
    rw [zipB_gs h]
  unfold lvG liveIx
  rw [e, zipB_bear h, zipB_gs h, zipB_gr h]
theorem flat_nm {α : Type} {f : Str → List α} {l : List Kd} : (l.flatMap fun k => f k.name) = (l.map Kd.name).flatMap f := by
  rw [List.flatMap_map]
theorem zipB_thr (h : bs.length = ks.length) : thr (zipB ks bs) S = thr ks S := by
  have e : ∀ ks : List Kd, thr ks S = (ks.map Kd.name).flatMap fun n => (lvG ks n).flatMap (thG S n) := fun ks => by rw [← flat_nm]; rfl
  rw [e, e, zipB_nm h, zipB_lv h]
theorem zipB_map {α : Type} {f : List Gr → α} : ∀ {ks : List Kd} {bs : List Int}, bs.length = ks.length → ((zipB ks bs).map fun k => f k.gs) = ks.map fun k => f k.gs
  | [], _, _ => rfl
  | _ :: _, [], h => nomatch h
  | k :: ks, b :: bs, h => by
    rw [List.map_cons, ← zipB_map (ks := ks) (bs := bs) (Nat.succ.inj h)]
    rfl
theorem zipB_th (h : bs.length = ks.length) : thB (zipB ks bs) S = thB ks S := by
  have e : ∀ ks : List Kd, thB ks S = (ks.map fun k => k.gs.all fun g => decide ((g.filter (ndTh S)).length ≤ 1)).all id := fun ks => by
    unfold thB
    rw [List.all_map]
    rfl
  rw [e, e, zipB_map (f := fun gs => gs.all fun g => decide ((g.filter (ndTh S)).length ≤ 1)) h]
theorem zipB_tm (h : bs.length = ks.length) : timedB (zipB ks bs) S = timedB ks S := by
  have e : (zipB ks bs).flatMap (ndsK S) = ks.flatMap (ndsK S) := by
    have e : ∀ ks : List Kd, ks.flatMap (ndsK S) = (ks.map fun k => k.gs.flatMap fun g => g.filter (ndTh S)).flatten := fun ks => by
      rw [List.flatMap_def]
      rfl
    rw [e, e, zipB_map (f := fun gs => gs.flatMap fun g => g.filter (ndTh S)) h]
  have e2 : (fun p : Str × List V => keepLt (zipB ks bs) p.1 (ndTell p.2)) = fun p => keepLt ks p.1 (ndTell p.2) := funext fun p => zipB_kl h
  unfold timedB
  rw [zipB_th h, e, zipB_thr h, e2]
end
section
variable {P : Program} {w : World} {K : PySem.W.Frag} {mg : Str → Option Value} {base : Heap}
abbrev sRt5 : Stmt := top 43
abbrev nmRt5 : List Str := ["bag", "rulebook", "struck", "due", "bars", "other", "some", "kind", "bar"]
theorem scRt5 : FnScope nmRt5 ["bag", "rulebook", "struck"] (defScope sRt5) := ⟨rfl, rfl, rfl, by decide +kernel, rfl, by decide +kernel, by decide +kernel⟩
def spRt5 (T : List NTab) : Sp := fun vs H Q _ => ∃ (bg b sa : Addr) (rows S : List Str) (ks : List Kd), vs = [.ref bg, .ref b, .ref sa] ∧ Bag H bg ∧ TabsN T H ∧ BookAt H b rows ks ∧ BookOk rows ks ∧ H sa = some (.tup (S.map V.str)) ∧ ∀ H', Bg T bg H H' → Q (.bl true) H'
theorem ok_Rt5 {T : List NTab} {f fT fI fM fW fJ fV fA : Addr} {fd fdT fdI fdM fdW fdJ fdV fdA : FuncData} (F : Fun K "_law_right" "_law_right" sRt5 f fd) (TC : TxtC mg) (hzip : mg "zip" = none) (CT : Ct P w K mg base "_law_take" 1 ["bag", "upto"] spTake fT fdT) (CI : Ct P w K mg base "_law_is_threaded" 2 ["rulebook", "struck"] spIth fI fdI)
    (CM : Ct P w K mg base "_law_is_timed" 4 ["rulebook", "struck"] spLtm fM fdM) (CW : Ct P w K mg base "with_bars" 1 ["rulebook", "bars"] spWb fW fdW) (CJ : Ct P w K mg base "is_threaded" 2 ["rulebook", "struck"] spIth fJ fdJ) (CV : Ct P w K mg base "is_well_timed" 8 ["rulebook", "struck"] (spWt T) fV fdV)
    (CA : GnG false P w K mg base "_law_alike" 1 ["found", "due"] (spAlikeD K) fA fdA) : FnG true P w K mg base CX0 9 f fd ["bag", "rulebook", "struck"] (spRt5 T) := by
  refine fnG_of F scRt5 (fun vs H Q E h => ?_) (fun cdv A outer s H vs Q E hr hc h => ?_)
  · obtain ⟨bg, b, sa, rows, S, ks, rfl, _⟩ := h
    rfl
  · obtain ⟨bg, b, sa, rows, S, ks, rfl, hB, hT, hA, hO, eS, k⟩ := h
    have hR : Room 8 (A.deeper (envOfC "_law_right" (defScope sRt5) s.heap.objs.size f cdv)) := hr.room (hc rfl)
    have hR1 := hR.mono (show 1 ≤ 8 by decide)
    have hR2 := hR.mono (show 2 ≤ 8 by decide)
    have hR4 := hR.mono (show 4 ≤ 8 by decide)
    have gr1 : GR 1 (A.deeper (envOfC "_law_right" (defScope sRt5) s.heap.objs.size f cdv)) := hr.low (by decide)
    refine ⟨_, L2.PSs.nox (pss_cons (ps_set (i := 3) scRt5.nd rfl (Or.inl rfl) (pe_lst (pa_cons (pe_call CI.G hR2 (by rfl) CI.m CI.kp CI.b .nil pass0 (pa_cons (pv 1) (pa_cons (pv 2) pa_nil))) (pa_cons (pe_call CM.G hR4 (by rfl) CM.m CM.kp CM.b .nil pass0 (pa_cons (pv 1) (pa_cons (pv 2) pa_nil))) pa_nil))))
      (pss_cons (ps_set (i := 4) scRt5.nd rfl (Or.inl rfl) (pe_callTy (T := "tuple") (r := rTupOf K) call_tupOf (by rfl) TC.tup (by decide +kernel) (pa_cons (pe_lc (own := [("kind", 7)]) (g := gName 7) (tt := tYes) (te := tCall spTake [] E0 (tCons (tVar 0) (tCons (tC (.int 14)) tNil))) (by rfl) scRt5.nd (pi_tup (pe_ix (r := rIxT K) ix_tup (pv 1) pe_int (fun _ _ => rfl)))
          (blkOk_by (own := [("kind", 7)]) (N := nmRt5) (sc := defScope sRt5) (by decide +kernel)) (fun _ _ _ _ _ => pg_name (i := 7) scRt5.nd rfl (Or.inl rfl)) (fun _ _ _ _ _ => pts_nil)
          (fun _ _ _ _ _ => pe_call CT.G hR1 (by rfl) CT.m CT.kp CT.b .nil pass0 (pa_cons (pv 0) (pa_cons pe_int pa_nil)))) pa_nil)))
      (pss_cons (ps_set (i := 5) scRt5.nd rfl (Or.inl rfl) (pe_tup (pa_cons (pe_ix (r := rIxT K) ix_tup (pv 1) pe_int (fun _ _ => rfl)) (pa_cons (pe_callTy (T := "tuple") (r := rTupOf K) call_tupOf (by rfl) TC.tup (by decide +kernel) (pa_cons (pe_lc (own := [("kind", 7), ("bar", 8)]) (g := gTup K 2 (gCons (gName 7) (gCons (gName 8) gNil))) (tt := tYes)
          (te := tOp (rCatA K) (tOp (rCatA K) (tSl (rSlA K) (tVar 7) tNoPart (tPart (tC (.int 2)))) (tTup (tCons (tVar 8) tNil))) (tSl (rSlA K) (tVar 7) (tPart (tC (.int 3))) tNoPart)) (by rfl) scRt5.nd (pi_zipA (by rfl) hzip (pa_cons (pe_ix (r := rIxT K) ix_tup (pv 1) pe_int (fun _ _ => rfl)) (pa_cons (pv 4) pa_nil)))
          (blkOk_by (own := [("kind", 7), ("bar", 8)]) (N := nmRt5) (sc := defScope sRt5) (by decide +kernel))
          (fun _ _ _ _ _ => pg_tup (t := gCons (gName 7) (gCons (gName 8) gNil)) rfl (pgs_cons (pg_name (i := 7) scRt5.nd rfl (Or.inl rfl)) (pgs_cons (pg_name (i := 8) scRt5.nd rfl (Or.inl rfl)) pgs_nil))) (fun _ _ _ _ _ => pts_nil)
          (fun _ _ _ _ _ => pe_op (r := rCatA K) op_catA (pe_op (r := rCatA K) op_catA (pe_slice (r := rSlA K) sl_tupA (pv 7) po_none (po_some pe_int)) (pe_tup (pa_cons (pv 8) pa_nil))) (pe_slice (r := rSlA K) sl_tupA (pv 7) (po_some pe_int) po_none))) pa_nil)) pa_nil))))
      (pss_cons (ps_if (pt_not (pt_val (pe_callG CA.G gr1 (by intro z; cases z) (by rfl) CA.m CA.kp CA.b (pa_cons (pe_call CW.G hR1 (by rfl) CW.m CW.kp CW.b .nil pass0 (pa_cons (pv 1) (pa_cons (pv 4) pa_nil))) (pa_cons (pv 5) pa_nil))))) (pss_one (ps_ret pe_bl)) pss_nil)
      (pss_cons (ps_for PassesOwn.never rfl (pi_tup (pe_tup (pa_cons (pv 1) (pa_cons (pv 5) (pa_cons (pv 1) pa_nil))))) (pg_name (i := 6) scRt5.nd rfl (Or.inl rfl))
        (pss_one (ps_if (pt_not (pt_val (pe_callG CA.G gr1 (by intro z; cases z) (by rfl) CA.m CA.kp CA.b (pa_cons (pe_lst (pa_cons (pe_call CJ.G hR2 (by rfl) CJ.m CJ.kp CJ.b .nil pass0 (pa_cons (pv 6) (pa_cons (pv 2) pa_nil))) (pa_cons (pe_call CV.G hR (by rfl) CV.m CV.kp CV.b .nil pass0 (pa_cons (pv 6) (pa_cons (pv 2) pa_nil))) pa_nil))) (pa_cons (pv 3) pa_nil))))) (pss_one (ps_ret pe_bl)) pss_nil)))
      (pss_one (ps_ret pe_bl))))))), ?_⟩
    have sz : ∀ {m : Nat}, m ≤ 900 → m ≤ sizeLine := fun h => Nat.le_of_lt (small1000 (by omega))
    have hk5 := hO.k5
    obtain ⟨r, kt, kas, e1, e2, e3, pk⟩ := id hA
    have hlen := paired_len pk
    refine ⟨_, rfl, _, rfl, b, sa, rows, ks, S, rfl, hA, hO, .inr eS, fun H1 S1 => ⟨_, rfl, _, rfl, b, sa, rows, ks, S, rfl, hA.ts (TSame.of S1), hO, .inr (S1 _ _ eS), fun H2 S2 => ⟨sz (by show 2 ≤ 900; decide), fun du ndu => ?_⟩⟩⟩
    have S3 := KaG.Same.tr S1 (KaG.Same.tr S2 (same_upd (o := .lst [.bl (thB ks S), .bl (timedB ks S)]) ndu))
    have edu : upd H2 du (.lst [.bl (thB ks S), .bl (timedB ks S)]) du = some (.lst [.bl (thB ks S), .bl (timedB ks S)]) := upd_same
    have ndH : H du = none := same_non (KaG.Same.tr S1 S2) _ ndu
    have dub : du ≠ bg := fun z => hB.there (z ▸ ndH)
    generalize upd H2 du (.lst [.bl (thB ks S), .bl (timedB ks S)]) = H3 at S3 edu ⊢
    have B3 := hB.same S3
    refine ⟨_, rfl, b, _, 1, .ref kt, rfl, rfl, SqT.of (S3 _ _ e1), rfl, kt, rfl, ⟨_, SqT.of (S3 _ _ e3)⟩, fun D nD => ?_⟩
    have Db : D ≠ bg := fun z => B3.there (z ▸ nD)
    dsimp only [tNil]
    refine go_tup (K := K) (a := kt) (xs := kas.map V.ref) (fun i G => Ext bg H3 G ∧ ∃ bs : List Int, G D = some (.lst (bs.map V.int)) ∧ bs.length = i ∧ ∀ x ∈ bs, 0 ≤ x ∧ x ≤ 13) ?_ ?_ ?_ ?_
    · exact ⟨(Ext.of_same B3 Same.refl').new nD, [], upd_same, rfl, (fun _ z => nomatch z)⟩
    · rintro i G _ ⟨EG, _⟩
      exact SqT.of (TSame.ext B3 EG _ _ (S3 _ _ e3))
    · rintro i v G hv ⟨EG, bs, gD, lb, hbs⟩
      have hi := (List.getElem?_eq_some_iff.mp hv).1
      rw [List.length_map] at hi
      refine ⟨rfl, tYes_go (iteT ⟨_, rfl, bg, 14, rfl, EG.bag, by decide, by decide, fun y G2 E2 c0 c1 => ?_⟩)⟩
      have gD2 := E2.keep D _ Db gD
      refine ⟨_, gD2, small1000 (by rw [List.length_map]; omega), Ext.write B3 (EG.trans E2) nD, bs ++ [y], by rw [upd_same, List.map_append]; rfl, by rw [List.length_append, lb]; rfl, fun x m => ?_⟩
      rcases List.mem_append.mp m with z | z
      · exact hbs x z
      · rw [List.mem_singleton.mp z]; omega
    · rintro G ⟨EG, bs, gD, lb, hbs⟩
      rw [List.length_map, hlen] at lb
      refine ⟨D, _, rfl, .inl ⟨SqL.of gD, fun bt nbt => ?_⟩⟩
      have EG2 := EG.new (o := .tup (bs.map V.int)) nbt
      have ebt : upd G bt (.tup (bs.map V.int)) bt = some (.tup (bs.map V.int)) := upd_same
      generalize upd G bt (.tup (bs.map V.int)) = G2 at EG2 ebt ⊢
      have E02 := (Ext.of_same hB S3).trans EG2
      have T02 := TSame.ext hB E02
      have ed2 := EG2.keep du _ dub edu
      have hA2 := hA.ts T02
      -- the other book
      refine ⟨_, rfl, b, _, 0, .ref r, rfl, rfl, SqT.of (T02 _ _ e1), rfl, ?_⟩
      refine ⟨_, rfl, b, _, 1, .ref kt, rfl, rfl, SqT.of (T02 _ _ e1), rfl, ?_⟩
      refine ⟨_, rfl, kt, bt, kas.map V.ref, bs.map V.int, rfl, .inr ⟨SqT.of (T02 _ _ e3), SqT.of ebt, fun D2 nD2 => ?_⟩⟩
      refine go_zipT (K := K) (a := kt) (b := bt) (xs := kas.map V.ref) (ys := bs.map V.int) (by rw [List.length_map, List.length_map]; omega) (fun i J => Same G2 J ∧ ∃ qs : List Addr, J D2 = some (.lst (qs.map V.ref)) ∧ Paired (fun a k => KdAt J a k) qs ((zipB ks bs).take i)) ?_ ?_ ?_ ?_
      · exact ⟨same_upd nD2, [], upd_same, .nil⟩
      · rintro i J _ ⟨SJ, _⟩
        exact ⟨SqT.of (SJ _ _ (T02 _ _ e3)), SqT.of (SJ _ _ ebt)⟩
      · rintro i x y T0 J hx hy ⟨SJ, qs, jD, pq⟩ nT0
        rw [List.getElem?_map] at hx hy
        obtain ⟨ka, ha, rfl⟩ := Option.map_eq_some_iff.mp hx
        obtain ⟨bar, hbar, rfl⟩ := Option.map_eq_some_iff.mp hy
        obtain ⟨kd, hkd, gt, gas, f1, f2, f3⟩ := paired_at pk ha
        have ST := same_upd (o := .tup [.ref ka, .int bar]) nT0
        have eT : upd J T0 (.tup [.ref ka, .int bar]) T0 = some (.tup [.ref ka, .int bar]) := upd_same
        have lq := paired_len pq
        rw [List.length_take, zipB_len lb] at lq
        have Sa := KaG.Same.tr SJ ST
        have jD1 := ST _ _ jD
        have pq1 := Paired.mono' (fun _ _ e => KdAt.ts e (TSame.of ST)) pq
        generalize upd J T0 (.tup [.ref ka, .int bar]) = J1 at eT Sa jD1 pq1 ⊢
        have Ta := T02.tr (TSame.of Sa)
        refine ⟨T0, _, rfl, SqT.of eT, rfl, _, _, rfl, _, _, rfl, rfl, rfl, tYes_go (iteT ?_)⟩
        refine ⟨_, rfl, _, rfl, slA_go (Ta _ _ f1) fun s1 J2 S2' es1 => ?_⟩
        rw [cut_to _ 2 (by decide)] at es1
        refine ⟨_, rfl, sz (by show 1 ≤ 900; decide), fun t1 nt1 => ?_⟩
        have S3' := same_upd (o := .tup [.int bar]) nt1
        refine catA_go (S3' _ _ es1) upd_same (by show 2 + 1 ≤ 900; decide) fun s2 J4 S4 es2 => ?_
        have Sb := KaG.Same.tr S2' (KaG.Same.tr S3' S4)
        refine ⟨_, rfl, _, rfl, ?_⟩
        dsimp only [tNoPart]
        refine slA_go (TSame.of Sb _ _ (Ta _ _ f1)) fun s3 J5 S5 es3 => ?_
        rw [show (3 : Int) = ((3 : Nat) : Int) from rfl, cut_drop] at es3
        refine catA_go (S5 _ _ es2) es3 (by show 3 + 1 ≤ 900; decide) fun t J6 S6 et => ?_
        have Sc := KaG.Same.tr Sb (KaG.Same.tr S5 S6)
        have jD6 := Sc _ _ jD1
        have pq6 := Paired.mono' (fun _ _ e => KdAt.ts e (TSame.of Sc)) pq1
        have Sd := KaG.Same.tr Sa Sc
        have Td := T02.tr (TSame.of Sd)
        have tsl := ts_lst (ys := qs.map V.ref ++ [V.ref t]) jD6
        refine ⟨_, jD6, small1000 (by rw [List.length_map]; omega), fun b u e => by rw [upd_ne (ne_of_none e nD2)]; exact Sd b u e, qs ++ [t], by rw [upd_same, List.map_append]; rfl, ?_⟩
        rw [zipB_take hkd hbar]
        refine paired_app (Paired.mono' (fun _ _ e => KdAt.ts e tsl) pq6) (.cons ?_ .nil)
        exact KdAt.ts (k := ⟨kd.name, kd.keep, bar, kd.gs⟩) ⟨gt, gas, et, Td _ _ f2, Paired.mono' (fun _ _ e => Grd.ts e Td) f3⟩ tsl
      · rintro J ⟨SJ, qs, jD, pq⟩
        rw [List.length_map, hlen, ← zipB_len lb, List.take_length] at pq
        refine ⟨D2, _, rfl, .inl ⟨SqL.of jD, fun t nt => ⟨sz (by show 2 ≤ 900; decide), fun op nop => ?_⟩⟩⟩
        have S1' := same_upd (o := .tup (qs.map V.ref)) nt
        have S2' := KaG.Same.tr SJ (KaG.Same.tr S1' (same_upd (o := .tup [.ref r, .ref t]) nop))
        have T2' := T02.tr (TSame.of S2')
        have hAo : BookAt (upd (upd J t (.tup (qs.map V.ref))) op (.tup [.ref r, .ref t])) op rows (zipB ks bs) := ⟨r, t, qs, upd_same, T2' _ _ e2, same_upd nop _ _ upd_same, Paired.mono' (fun _ _ e => KdAt.ts e (TSame.of (KaG.Same.tr S1' (same_upd nop)))) pq⟩
        generalize upd (upd J t (.tup (qs.map V.ref))) op (.tup [.ref r, .ref t]) = J2 at S2' T2' hAo ⊢
        have hOo : BookOk rows (zipB ks bs) := zipB_ok hO lb fun x m => ⟨(hbs x m).1, by have := (hbs x m).2; omega⟩
        -- with_bars
        refine ⟨_, rfl, _, rfl, b, bt, rows, ks, bs, rfl, hA.ts T2', hO, S2' _ _ ebt, lb, fun wp J3 S3' nwp hAw => ?_⟩
        have g1 := Gd.book hAw hOo
        have g2 := Gd.book (hAo.ts (TSame.of S3')) hOo
        refine ⟨_, rfl, _, _, _, rfl, g1.rep, g2.rep, g1.lay, Nat.le_trans g1.dep (by decide), Nat.le_trans g1.len (by rw [sizeLine_eq]; decide), _, rfl, iteF ?_⟩
        have S23 := KaG.Same.tr S2' S3'
        have ed3 := S23 _ _ ed2
        have E03 := E02.trans (Ext.of_same E02.bag S23)
        have B3 := Bg.ext hB hT E03
        have hA3 := hA.ts (TSame.ext hB E03)
        have hAo3 := hAo.ts (TSame.of S3')
        have eS3 := TSame.ext hB E03 _ _ eS
        refine ⟨_, rfl, _, rfl, _, rfl, sz (by show 3 ≤ 900; decide), fun tp ntp => ?_⟩
        have St := same_upd (o := .tup [.ref b, .ref op, .ref b]) ntp
        have etp : upd J3 tp (.tup [.ref b, .ref op, .ref b]) tp = some (.tup [.ref b, .ref op, .ref b]) := upd_same
        have B4 := B3.tr (Bg.ex B3.bag (Ex.same B3.tab St))
        have ed4 := St _ _ ed3
        have hA4 := hA3.ts (TSame.of St)
        have hAo4 := hAo3.ts (TSame.of St)
        have eS4 := St _ _ eS3
        generalize upd J3 tp (.tup [.ref b, .ref op, .ref b]) = J4 at etp B4 ed4 hA4 hAo4 eS4 ⊢
        refine ⟨tp, rfl, ⟨_, SqT.of etp⟩, for_tup (K := K) (a := tp) (xs := [.ref b, .ref op, .ref b]) (fun i σ' G => (∃ x6 : Option V, σ' = [some (.ref bg), some (.ref b), some (.ref sa), some (.ref du), some (.ref bt), some (.ref op), x6, none, none]) ∧ Ex T J4 G) ?_ ?_ ?_ ?_⟩
        · exact ⟨⟨_, rfl⟩, Ex.refl B4.tab⟩
        · rintro i σ' G _ ⟨_, X⟩
          exact SqT.of (X.ts _ _ etp)
        · rintro i v σ' G hv ⟨⟨x6, rfl⟩, X⟩
          have mv := List.mem_of_getElem? hv
          have some' : ∃ (ba : Addr) (ks2 : List Kd), v = .ref ba ∧ BookAt J4 ba rows ks2 ∧ BookOk rows ks2 ∧ thB ks2 S = thB ks S ∧ timedB ks2 S = timedB ks S := by
            simp only [List.mem_cons, List.not_mem_nil, or_false] at mv
            rcases mv with rfl | rfl | rfl
            · exact ⟨_, ks, rfl, hA4, hO, rfl, rfl⟩
            · exact ⟨_, zipB ks bs, rfl, hAo4, hOo, zipB_th lb, zipB_tm lb⟩
            · exact ⟨_, ks, rfl, hA4, hO, rfl, rfl⟩
          obtain ⟨ba, ks2, rfl, hAb, hOb, et, em⟩ := some'
          have hAG := hAb.ts X.ts
          refine ⟨_, rfl, _, rfl, ba, sa, rows, ks2, S, rfl, hAG, hOb, .inr (X.ts _ _ eS4), fun G3 S3 => ⟨_, rfl, _, rfl, ba, sa, rows, ks2, S, rfl, hAG.ts (TSame.of S3), hOb, .inr (S3 _ _ (X.ts _ _ eS4)), X.tab.ext S3, fun G5 X5 => ?_⟩⟩
          have X35 := (X.trs S3).tr X5
          rw [et, em]
          refine ⟨sz (by show 2 ≤ 900; decide), fun z nz => ?_⟩
          have Sz := same_upd (o := .lst [.bl (thB ks S), .bl (timedB ks S)]) nz
          have g5 := Gd.bls (H := upd G5 z (.lst [.bl (thB ks S), .bl (timedB ks S)])) upd_same
          have g6 := Gd.bls (Sz _ _ (X35.lst ed4))
          refine ⟨_, rfl, _, _, _, rfl, g5.rep, g6.rep, g5.lay, Nat.le_trans g5.dep (by decide), Nat.le_trans g5.len (by rw [sizeLine_eq]; decide), _, rfl, iteF ?_⟩
          exact ⟨⟨_, rfl⟩, X35.trs Sz⟩
        · rintro σ' G ⟨_, X⟩
          exact k G (B4.tr (Bg.ex B4.bag X))
end
end KaG
set_option maxRecDepth 100000
set_option maxHeartbeats 4000000
namespace KaG
open PySem PySem.Spec PyProof.Rows L2 LamX
abbrev tabO (ys : Array Value) : Obj := { cls := .none, data := .fields ys }
abbrev scrO (us : List Value) : Obj := { cls := .type "list", data := .seq us.toArray }
/-- nothing is told of the heap but the script (frozen) and the tables (empty) -/
structure Ks (H : Hp) (a : Addr) (ts : List Addr) : Prop where
  tb : ∀ t ∈ ts, H t = some (.tbl #[])
  el : ∀ b, H b = none ∨ b ∈ ts ∨ (b = a ∧ ∃ o xs, H b = some (.frz o (.lst xs)))
/-- .. and so it is told -/
def ks0 (a : Addr) (ts : List Addr) (f : Option HO) : Hp := fun b => if b ∈ ts then some (.tbl #[]) else if b = a then f else none
section
variable {P : Program} {w : World} {K : PySem.W.Frag} {mg mb : Str → Option Value} {k : Nat} {fa a : Addr} {fd : FuncData} {x : Str} {sp : Sp} {s₁ : Shared} {us : List Value} {ns : List Int} {H : Hp} {cs : List (Addr × Addr)}
theorem ks_none (ho : Ks H a (cs.map Prod.snd)) (hT : ∀ p ∈ cs, s₁.heap.get? p.2 = some (tabO #[])) (ha : s₁.heap.get? a = some (scrO us)) {b : Addr} {o : Obj} (e : s₁.heap.get? b = some o) (n1 : o ≠ tabO #[]) (n2 : o ≠ scrO us) : H b = none := by
  rcases ho.el b with z | z | ⟨z, _⟩
  · exact z
  · obtain ⟨p, hp, rfl⟩ := List.mem_map.mp z
    exact absurd (Option.some.inj (e.symm.trans (hT p hp))) n1
  · exact absurd (Option.some.inj (e.symm.trans (z ▸ ha))) n2
theorem ks_run (hr : GR k callerA) (KX : K.In s₁.heap) (hns : s₁.heap.Ns mainGlobals mg) (hb : s₁.heap.Ns builtinsNs mb) (hbb : ∀ x : Str, x ≠ "__name__" → mb x = bootBuiltins x) (hlim : s₁.heap.NoLimit) (hg : s₁.gens = #[])
    (hT : ∀ p ∈ cs, s₁.heap.get? p.2 = some (tabO #[])) (nT : ∀ p ∈ cs, K.lookup p.2 = none) (C : ∀ p ∈ cs, PySem.W.CodeHd s₁.heap p.1 p.2) (hbm : ∃ (m : Addr) (ob : Obj), mg "__builtins__" = some (.ref m) ∧ m ≠ builtinsNs ∧ s₁.heap.get? m = some ob ∧ ob.cls = .type "module" ∧ ob.dict = some builtinsNs ∧ ob.data = .plain)
    (ha : s₁.heap.get? a = some (scrO us)) (F : ∀ base : Heap, K.In base → base.Ns mainGlobals mg → (∀ p ∈ cs, TabB base mg p.1 p.2) → FnG true P w K mg base CX0 k fa fd [x] sp) (hbind : ∀ (s : Shared) (u : Value), BindsTo s fd ⟨[u], []⟩ [(x, u)])
    (hsp : sp [.ref a] H (fun v _ => v = .bl true) fun _ _ _ => False) (ho : Ks H a (cs.map Prod.snd)) (hok : HOk P w H s₁.heap) (hK : H a ≠ none → K.lookup a = none) :
    codeAny (model P w) callerA (.call (.ref fa) ⟨[.ref a], []⟩) (fun r s' => r = .ok (.ret (.bool true)) ∧ OldK s₁.heap s'.heap ∧ s'.os = s₁.os ∧ AllBare s'.gens) s₁ := by
  have isT : ∀ t ∈ cs.map Prod.snd, s₁.heap.get? t = some (tabO #[]) := fun t m => by
    obtain ⟨p, hp, rfl⟩ := List.mem_map.mp m
    exact hT p hp
  have see : ∀ {b : Addr} {o : Obj}, s₁.heap.get? b = some o → o.data ≠ .fields #[] → (∀ v n, o.data ≠ .seq v n) → (hidT s₁.heap H).get? b = some o := fun e n1 n2 =>
    hidT_get e (ks_none ho hT ha e (fun z => n1 (by rw [z])) fun z => n2 us.toArray 0 (by rw [z]))
  have dct : ∀ {b : Addr} {o : Obj} {es : Array DictEntry} {ep : Nat}, s₁.heap.get? b = some o → o.data = .dict es ep → (hidT s₁.heap H).get? b = some o := fun e d => see e (by rw [d]; intro z; cases z) (by rw [d]; intro v n z; cases z)
  have nsK : ∀ {b : Addr} {m : Str → Option Value}, s₁.heap.Ns b m → (hidT s₁.heap H).Ns b m := fun ⟨o, es, ep, e, d, r⟩ => ⟨o, es, ep, dct e d, d, r⟩
  have hKb : K.In (hidT s₁.heap H) := fun b o e => by
    refine hidT_get (KX b o e) ?_
    cases q : H b with
    | none => rfl
    | some u =>
      rcases ho.el b with z | z | ⟨z, _⟩
      · rw [q] at z; cases z
      · obtain ⟨p, hp, rfl⟩ := List.mem_map.mp z
        rw [nT p hp] at e; cases e
      · rw [z] at e q
        rw [hK (by rw [q]; simp)] at e; cases e
  have md : Mod K mg (hidT s₁.heap H) := ⟨hKb, nsK hns, ⟨mb, nsK hb, hbb⟩, let ⟨mc, h1, h2⟩ := hlim; ⟨mc, nsK h1, h2⟩⟩
  have TB : ∀ p ∈ cs, TabB (hidT s₁.heap H) mg p.1 p.2 := fun p hp => by
    refine ⟨?_, ?_, fun z => ?_⟩
    · obtain ⟨o, v, fl, tf, gs, tg, inF, tx, tt, e, r1, r2, r3⟩ := C p hp
      refine ⟨o, v, fl, tf, gs, tg, inF, tx, tt, see e (fun z => ?_) (fun w n z => ?_), r1, r2, r3⟩
      · rw [r2] at z
        cases z
        simp at r3
      · rw [r2] at z
        cases z
    · obtain ⟨m, ob, b1, b2, b3, b4, b5, b6⟩ := hbm
      refine ⟨m, ob, b1, b2, fun q => ?_, fun q => ?_, see b3 (by rw [b6]; intro z; cases z) (by rw [b6]; intro v n z; cases z), b4, b5, b6⟩
      · obtain ⟨o, es, ep, e, hd, _⟩ := hns
        rw [q, e] at b3
        cases b3
        rw [hd] at b6
        cases b6
      · rw [q, hT p hp] at b3
        cases b3
        cases b6
    · obtain ⟨o, es, ep, e, hd, _⟩ := hns
      rw [z, hT p hp] at e
      cases e
      cases hd
  have e0 : Env0 P w K mg (hidT s₁.heap H) callerA [] s₁ H := ⟨rfl, md, fun b o e => of_hidT e, Nat.le_of_eq (hidT_size _ _), trivial, fun b hb => absurd (show b ∈ ([] : List Addr) from hb) (by simp), hok, .of_eq hg⟩
  have R := (F _ hKb (nsK hns) TB).run callerA [] s₁ H ⟨[.ref a], []⟩ [.ref a] [.ref a] _ _ hr (fun _ => rfl) e0 (hbind s₁ (.ref a)) (.cons rfl .nil) hsp
  refine codeAny_mono R fun r s' h => ?_
  rcases r with er | fl
  · exact h.elim
  cases fl with
  | next => exact h.elim
  | brk => exact h.elim
  | cont => exact h.elim
  | ret u =>
    obtain ⟨v, H', os, bare, un, hok', r', q⟩ := h
    have q' : v = .bl true := q
    subst q'
    obtain rfl : u = Value.bool true := r'
    have old : ∀ b o, b ∉ cs.map Prod.snd → s₁.heap.get? b = some o → s'.heap.get? b = some o := fun b o nb e => by
      rcases ho.el b with z | z | ⟨_, ob, xs, z⟩
      · exact un.keep b o e z (by intro z; exact absurd (show b ∈ ([] : List Addr) from z) (by simp)) (by simp)
      · exact absurd z nb
      · have g1 := (hok b _ z).1
        rw [e] at g1
        cases g1
        exact (hok' b _ (un.frzs b _ _ z)).1
    have more : ∀ p ∈ cs, ∃ ys : Array Value, s'.heap.get? p.2 = some (tabO (#[] ++ ys)) := fun p hp => by
      obtain ⟨ys, z⟩ := un.tbls p.2 #[] (ho.tb p.2 (List.mem_map_of_mem hp))
      exact ⟨ys, hok' p.2 _ z⟩
    refine ⟨rfl, ⟨fun b o e => ?_, fun b o e => ?_⟩, os, bare⟩
    · by_cases m : b ∈ cs.map Prod.snd
      · obtain ⟨p, hp, rfl⟩ := List.mem_map.mp m
        obtain ⟨ys, z⟩ := more p hp
        have e' := (hT p hp).symm.trans e
        cases e'
        exact .inr (.inl ⟨((C p hp).tab (hT p hp)).isCodeTable, rfl, #[], ys, rfl, z⟩)
      · exact .inl (old b o m e)
    · by_cases m : b ∈ cs.map Prod.snd
      · obtain ⟨p, hp, rfl⟩ := List.mem_map.mp m
        exact ⟨_, (more p hp).choose_spec⟩
      · exact ⟨o, old b o m e⟩
theorem law_GT (hr : GR k callerA) (KX : K.In s₁.heap) (hns : s₁.heap.Ns mainGlobals mg) (hb : s₁.heap.Ns builtinsNs mb) (hbb : ∀ x : Str, x ≠ "__name__" → mb x = bootBuiltins x) (hlim : s₁.heap.NoLimit) (hg : s₁.gens = #[])
    (hT : ∀ p ∈ cs, s₁.heap.get? p.2 = some (tabO #[])) (nT : ∀ p ∈ cs, K.lookup p.2 = none) (C : ∀ p ∈ cs, PySem.W.CodeHd s₁.heap p.1 p.2) (hbm : ∃ (m : Addr) (ob : Obj), mg "__builtins__" = some (.ref m) ∧ m ≠ builtinsNs ∧ s₁.heap.get? m = some ob ∧ ob.cls = .type "module" ∧ ob.dict = some builtinsNs ∧ ob.data = .plain)
    (ha : s₁.heap.get? a = some (scrO us)) (hi : IntsAre us ns) (hl : ns.length ≤ sizeLine) (F : ∀ base : Heap, K.In base → base.Ns mainGlobals mg → (∀ p ∈ cs, TabB base mg p.1 p.2) → FnG true P w K mg base CX0 k fa fd [x] sp) (hbind : ∀ (s : Shared) (u : Value), BindsTo s fd ⟨[u], []⟩ [(x, u)])
    (hsp : ∀ H : Hp, (∀ p ∈ cs, H p.2 = some (.tbl #[])) → SqL K H a (ns.map V.int) → sp [.ref a] H (fun v _ => v = .bl true) fun _ _ _ => False) :
    codeAny (model P w) callerA (.call (.ref fa) ⟨[.ref a], []⟩) (fun r s' => r = .ok (.ret (.bool true)) ∧ OldK s₁.heap s'.heap ∧ s'.os = s₁.os ∧ AllBare s'.gens) s₁ := by
  have rv := vals_ints hi
  have isT : ∀ t ∈ cs.map Prod.snd, s₁.heap.get? t = some (tabO #[]) := fun t m => by
    obtain ⟨p, hp, rfl⟩ := List.mem_map.mp m
    exact hT p hp
  have aT : a ∉ cs.map Prod.snd := fun m => by
    have e := ha.symm.trans (isT a m)
    have d := congrArg Obj.data (Option.some.inj e)
    cases d
  have tb0 : ∀ f, ∀ t ∈ cs.map Prod.snd, ks0 a (cs.map Prod.snd) f t = some (.tbl #[]) := fun f t m => if_pos m
  have at0 : ∀ f, ks0 a (cs.map Prod.snd) f a = f := fun f => (if_neg aT).trans (if_pos rfl)
  have no0 : ∀ f b, b ∉ cs.map Prod.snd → b ≠ a → ks0 a (cs.map Prod.snd) f b = none := fun f b m n => (if_neg m).trans (if_neg n)
  have hok : ∀ f, (∀ u, f = some u → ObjOk P w (ks0 a (cs.map Prod.snd) f) s₁.heap a u) → HOk P w (ks0 a (cs.map Prod.snd) f) s₁.heap := fun f hf b u z => by
    by_cases m : b ∈ cs.map Prod.snd
    · rw [tb0 f b m] at z
      cases z
      exact isT b m
    · by_cases n : b = a
      · subst n
        rw [at0] at z
        exact hf u z
      · rw [no0 f b m n] at z
        cases z
  have go : ∀ f, (f = none ∨ ∃ o xs, f = some (.frz o (.lst xs))) → (∀ u, f = some u → ObjOk P w (ks0 a (cs.map Prod.snd) f) s₁.heap a u) → SqL K (ks0 a (cs.map Prod.snd) f) a (ns.map V.int) → (f ≠ none → K.lookup a = none) →
      codeAny (model P w) callerA (.call (.ref fa) ⟨[.ref a], []⟩) (fun r s' => r = .ok (.ret (.bool true)) ∧ OldK s₁.heap s'.heap ∧ s'.os = s₁.os ∧ AllBare s'.gens) s₁ := fun f hf ok sq hK => by
    refine ks_run hr KX hns hb hbb hlim hg hT nT C hbm ha F hbind (hsp _ (fun p hp => tb0 f p.2 (List.mem_map_of_mem hp)) sq) ⟨tb0 f, fun b => ?_⟩ (hok f ok) (by rw [at0]; exact hK)
    by_cases m : b ∈ cs.map Prod.snd
    · exact .inr (.inl m)
    · by_cases n : b = a
      · subst n
        rw [at0]
        rcases hf with rfl | ⟨o, xs, rfl⟩
        · exact .inl rfl
        · exact .inr (.inr ⟨rfl, o, xs, rfl⟩)
      · exact .inl (no0 f b m n)
  cases hk : K.lookup a with
  | some o =>
    have e := (KX a o hk).symm.trans ha
    cases e
    exact go none (.inl rfl) (fun u z => nomatch z) (.inr ⟨_, us.toArray, _, hk, rfl, rfl, rfl, by rw [List.size_toArray, hi.length]; exact hl, by simpa using rv⟩) fun z => absurd rfl z
  | none =>
    refine go (some (.frz (scrO us) (.lst (ns.map V.int)))) (.inr ⟨_, _, rfl⟩) (fun u z => ?_) (.inl (.inr ⟨scrO us, at0 _⟩)) fun _ => hk
    cases z
    exact ⟨ha, by rw [List.length_map]; exact hl, us, _, rv, ha⟩
/-- what is known of the law at the head's heap -/
def LawG (l : PySem.W.OpenLaw) (w : World) (K : PySem.W.Frag) (k n : Nat) (x : Str) (mg : Str → Option Value) (fa : Addr) (h : Heap) : Prop :=
  ∃ (fd : FuncData) (cs : List (Addr × Addr)) (sp : Sp), (∀ p ∈ cs, h.get? p.2 = some (tabO #[])) ∧ (∀ p ∈ cs, K.lookup p.2 = none) ∧ (∀ p ∈ cs, PySem.W.CodeHd h p.1 p.2) ∧ (∀ (s : Shared) (u : Value), BindsTo s fd ⟨[u], []⟩ [(x, u)]) ∧
    (∀ (H : Hp) (a : Addr) (ns : List Int), ns.length ≤ n → (∀ p ∈ cs, H p.2 = some (.tbl #[])) → SqL K H a (ns.map V.int) → sp [.ref a] H (fun v _ => v = .bl true) fun _ _ _ => False) ∧ ∀ base : Heap, K.In base → base.Ns mainGlobals mg → (∀ p ∈ cs, TabB base mg p.1 p.2) → FnG true l.prog w K mg base CX0 k fa fd [x] sp
theorem walk_GT {l : PySem.W.OpenLaw} {n k : Nat} {q : Program} {loose : List Str} {XP : (Str → Option Value) → Heap → Prop} {YP : World → Heap → Prop} {d : DefRec} {K : Params → PySem.W.Frag} {x : Str} (hn : l.most = some n) (hn2 : n ≤ sizeLine) (hdf : d.params.defaults = []) (hr : GR k callerA) (hY : ∀ (w : World) (h : Heap), YP w h → (K w.params).In h)
    (F : ∀ (w : World) (mg : Str → Option Value) (fa : Addr) (h : Heap), YP w h → (K w.params).In h → h.Ns mainGlobals mg → mg d.name = some (.ref fa) → LawG l w (K w.params) k n x mg fa h) : PySem.W.WalkO q loose XP YP l.row.toRowW d [] (fun f vs => PySem.call f vs) := by
  refine Att.attach_call hn hdf fun w s₀ s₁ mg mb fa o pm cd doc a vs ns G Y ho hd hcd hmg hobj hints hlen hg => ?_
  have KX := hY w _ Y
  obtain ⟨fd, cs, sp, hT, nT, C, hb, hsp, hF⟩ := F w mg fa _ Y KX G.T.g hmg
  exact law_GT hr KX G.T.g G.T.b G.T.builtins G.T.nolimit hg hT nT C G.T.bmain hobj hints (Nat.le_trans hlen hn2) hF hb fun H hH hS => hsp H a ns hlen hH hS
end
end KaG
set_option maxRecDepth 100000
set_option maxHeartbeats 4000000
namespace KaG
open PySem PySem.Spec PyProof.Rows L2 KaC KaN LamX NdefX RZ
/-- a rulebook and a lot of its rows, as data -/
structure It5 where
  p : Addr
  b : Addr
  sa : Addr
  rows : List Str
  ks : List Kd
  S : List Str
structure It5.At (H : Hp) (r : It5) : Prop where
  e : H r.p = some (.tup [.ref r.b, .ref r.sa])
  bk : BookAt H r.b r.rows r.ks
  ok : BookOk r.rows r.ks
  st : H r.sa = some (.tup (r.S.map V.str))
  l5 : r.S.length ≤ 5
  nm : ∀ n ∈ r.S, n ∈ nmAll
theorem It5.At.ts {H H' : Hp} {r : It5} (h : r.At H) (s : TSame H H') : r.At H' := ⟨s _ _ h.e, h.bk.ts s, h.ok, s _ _ h.st, h.l5, h.nm⟩
def itD (r : It5) : PyData := .tuple [bkD r.rows r.ks, .tuple (r.S.map PyData.str)]
theorem Gd.it {H : Hp} {r : It5} (h : r.At H) : Gd H (.ref r.p) (itD r) 7 120007 := by
  have y := Gd.tup h.st (GdA.strs h.nm) (c := 5) (by rw [List.length_map]; exact h.l5)
  exact Gd.tup (m := 6) (n := 60000) h.e (.cons (Gd.book h.bk h.ok) (.cons (y.wk (m' := 6) (n' := 60000)) .nil)) (c := 2) (Nat.le_refl 2)
theorem Gd.its {H : Hp} {l : Addr} {rs : List It5} (e : H l = some (.lst ((rs.map It5.p).map V.ref))) (h : ∀ r ∈ rs, r.At H) (l8 : rs.length ≤ 8) : Gd H (.ref l) (.list (rs.map itD)) 8 960075 := by
  refine Gd.lst (m := 7) (n := 120007) e ?_ (c := 8) (by rw [List.length_map, List.length_map]; exact l8)
  clear e l8
  induction rs with
  | nil => exact .nil
  | cons r rs ih => exact .cons (Gd.it (h r List.mem_cons_self)) (ih fun q m => h q (List.mem_cons_of_mem _ m))
/-- what the draws of a turn leave -/
def Stt (J : Hp) (b sa : Addr) : Prop := ∃ (rows S : List Str) (ks : List Kd), BookAt J b rows ks ∧ BookOk rows ks ∧ rows.length ≤ 5 ∧ J sa = some (.tup (S.map V.str)) ∧ S.length ≤ 5 ∧ ∀ n ∈ S, n ∈ nmAll
section
variable {P : Program} {w : World} {K : PySem.W.Frag} {mg : Str → Option Value} {base : Heap} {CW : Addr} {NW : Str}
abbrev sLaw55 : Stmt := top 45
abbrev nmL55 : List Str := ["script", "bag", "worlds", "turn", "rulebook", "struck", "shown"]
theorem scL55 : FnScope nmL55 ["script"] (defScope sLaw55) := ⟨rfl, rfl, rfl, by decide +kernel, rfl, by decide +kernel, by decide +kernel⟩
theorem ok_law55 {T : List NTab} {f fB fT fM fR fN fD fG : Addr} {fd fdB fdT fdM fdR fdN fdD fdG : FuncData} (F : Fun K "law" "law" sLaw55 f fd) (TC : TxtC mg) (W : WrK K CW NW) (CB : Ct P w K mg base "_law_bag" 1 ["script"] (spBag K) fB fdB) (CT : Ct P w K mg base "_law_take" 1 ["bag", "upto"] spTake fT fdT)
    (CM : Ct P w K mg base "_law_timed" 7 ["bag", "kinds"] spTmd fM fdM) (CR : Ct P w K mg base "_law_rulebook" 7 ["bag", "kinds"] spRbS fR fdR) (CN : Ct P w K mg base "_law_bent_rulebook" 3 ["bag", "rulebook"] spBnt fN fdN) (CD : Ct P w K mg base "_law_with_dead" 3 ["bag", "rulebook"] spBnt fD fdD)
    (CG : GnG true P w K mg base "_law_right" 9 ["bag", "rulebook", "struck"] (spRt5 T) fG fdG) : FnG true P w K mg base CX0 10 f fd ["script"] (spLaw T K) := by
  refine fnG_of F scL55 (fun vs H Q E h => ?_) (fun cdv A outer s H vs Q E hr hc h => ?_)
  · obtain ⟨a, ns, rfl, _⟩ := h
    rfl
  · obtain ⟨a, ns, rfl, hS, hn, hT, k⟩ := h
    have hA : A.handled = none := hc rfl
    have hR : Room 9 (A.deeper (envOfC "law" (defScope sLaw55) s.heap.objs.size f cdv)) := hr.room (hc rfl)
    have hR1 := hR.mono (show 1 ≤ 9 by decide)
    have hR3 := hR.mono (show 3 ≤ 9 by decide)
    have hR7 := hR.mono (show 7 ≤ 9 by decide)
    have u60 : (A.deeper (envOfC "law" (defScope sLaw55) s.heap.objs.size f cdv)).units + 60 < cLine := by have := hr.un; omega
    refine ⟨_, L2.PSs.nox (pss_cons (ps_par (i := 1) (j := 2) (by rfl) scL55.nd rfl rfl (by decide) rfl rfl (pa_cons (pe_call CB.G hR1 (by rfl) CB.m CB.kp CB.b .nil pass0 (pa_cons (pv 0) pa_nil)) (pa_cons (pe_lst pa_nil) pa_nil)) (by rfl))
      (pss_cons (ps_for PassesOwn.never rfl (pi_range1 rfl TC.b.range (pa_cons pe_int pa_nil)) (pg_name (i := 3) scL55.nd rfl (Or.inl rfl))
        (pss_cons (ps_asg (pe_ifExp (pt_cmpR op_lt (pv 3) pe_int (nomark _)) (pe_call CM.G hR7 (by rfl) CM.m CM.kp CM.b .nil pass0 (pa_cons (pv 1) (pa_cons pe_int pa_nil))) (pe_call CR.G hR7 (by rfl) CR.m CR.kp CR.b .nil pass0 (pa_cons (pv 1) (pa_cons pe_int pa_nil))))
            (pg_tup (by rfl) (pgs_cons (pg_name (i := 4) scL55.nd rfl (Or.inl rfl)) (pgs_cons (pg_name (i := 5) scL55.nd rfl (Or.inl rfl)) pgs_nil))))
        (pss_cons (ps_if (PW.pt (pw_and (pt_cmpR op_gt (pv 3) pe_int (nomark _)) (pw_and1 (pt_cmpR op_lt (pv 3) pe_int (nomark _)))))
            (pss_one (ps_set (i := 4) scL55.nd rfl (Or.inl rfl) (pe_call CN.G hR3 (by rfl) CN.m CN.kp CN.b .nil pass0 (pa_cons (pv 1) (pa_cons (pv 4) pa_nil))))) pss_nil)
        (pss_cons (ps_if (pt_cmpR op_eq (pv 3) pe_int (nomark _))
            (pss_one (ps_set (i := 4) scL55.nd rfl (Or.inl rfl) (pe_call CD.G hR3 (by rfl) CD.m CD.kp CD.b .nil pass0 (pa_cons (pv 1) (pa_cons (pv 4) pa_nil))))) pss_nil)
        (pss_cons (ps_if (pt_cmpR op_eq (pe_call CT.G hR1 (by rfl) CT.m CT.kp CT.b .nil pass0 (pa_cons (pv 1) (pa_cons pe_int pa_nil))) pe_int (nomark _))
            (pss_one (ps_set (i := 5) scL55.nd rfl (Or.inl rfl) (pe_slice (r := rSlA K) sl_tupA (pe_ix (r := rIxT K) ix_tup (pv 4) pe_int (fun _ _ => rfl)) po_none (po_some pe_int)))) pss_nil)
        (pss_one (ps_expr (pe_bm PySem.F.plainAttrs_list PySem.F.slot_list_append PySem.F.type_list_append mt_append (pv 2) (pa_cons (pe_tup (pa_cons (pv 4) (pa_cons (pv 5) pa_nil))) pa_nil)))))))))
      (pss_cons (ps_set (i := 6) scL55.nd rfl (Or.inl rfl) (pe_callB (call_reprS (CW := CW) (NW := NW) (by exact W) hr.gd u60) (by rfl) TC.b.repr (by decide +kernel) (pa_cons (pv 2) pa_nil)))
      (pss_cons (ps_for PassesOwn.never rfl (pi_list (pe_op op_cat (pv 2) (pe_slice (r := rSlL K) sl_list (pv 2) po_none (po_some pe_int)))) (pg_tup (by rfl) (pgs_cons (pg_name (i := 4) scL55.nd rfl (Or.inl rfl)) (pgs_cons (pg_name (i := 5) scL55.nd rfl (Or.inl rfl)) pgs_nil)))
        (pss_one (ps_if (pt_not (pt_val (pe_callG CG.G hr (fun _ => hA) (by rfl) CG.m CG.kp CG.b (pa_cons (pv 1) (pa_cons (pv 4) (pa_cons (pv 5) pa_nil)))))) (pss_one (ps_ret pe_bl)) pss_nil)))
      (pss_one (ps_ret (pe_cmpR op_eq (pe_callB (call_reprS (CW := CW) (NW := NW) (by exact W) hr.gd u60) (by rfl) TC.b.repr (by decide +kernel) (pa_cons (pv 2) pa_nil)) (pv 6) (nomark _)))))))), ?_⟩
    have sz : ∀ {m : Nat}, m ≤ 900 → m ≤ sizeLine := fun h => Nat.le_of_lt (small1000 (by omega))
    refine ⟨_, rfl, a, ns, rfl, hS, hn, fun bg H1 s1 nb hB => ⟨Nat.zero_le _, fun wl nwl => ⟨_, _, rfl, ?_⟩⟩⟩
    have hT1 := hT.ext s1
    have wlb : wl ≠ bg := fun z => hB.there (z ▸ nwl)
    refine ⟨8, rfl, by decide, by decide, for_range (n := 8) (fun i σ' J => (∃ x3 x4 x5 : Option V, σ' = [some (.ref a), some (.ref bg), some (.ref wl), x3, x4, x5, none]) ∧ Ext bg H1 J ∧ ∃ rs : List It5, J wl = some (.lst ((rs.map It5.p).map V.ref)) ∧ (∀ r ∈ rs, r.At J) ∧ rs.length = i) ?_ ?_ ?_⟩
    · exact ⟨⟨_, _, _, rfl⟩, (Ext.of_same hB Same.refl').new nwl, [], upd_same, (fun _ z => nomatch z), rfl⟩
    · rintro i σ' J hi ⟨⟨x3, x4, x5, rfl⟩, EJ, rs, ew, hrs, li⟩
      refine seqGo (fun bT D' => ∀ (b sa : Addr) (G : Hp), Ext bg J G → Stt G b sa → bT D' [some (.ref a), some (.ref bg), some (.ref wl), some (.int (0 + (i : Int))), some (.ref b), some (.ref sa), none] G) (fun b sa G EG st => ?_) (fun rest => ?_)
      · refine seqGo (fun bT D' => ∀ (b : Addr) (G : Hp), Ext bg J G → Stt G b sa → bT D' [some (.ref a), some (.ref bg), some (.ref wl), some (.int (0 + (i : Int))), some (.ref b), some (.ref sa), none] G) (fun b G EG st => ?_) (fun rest => ?_)
        · refine seqGo (fun bT D' => ∀ (b : Addr) (G : Hp), Ext bg J G → Stt G b sa → bT D' [some (.ref a), some (.ref bg), some (.ref wl), some (.int (0 + (i : Int))), some (.ref b), some (.ref sa), none] G) (fun b G EG st => ?_) (fun rest => ?_)
          · refine seqGo (fun bT D' => ∀ (sa : Addr) (G : Hp), Ext bg J G → Stt G b sa → bT D' [some (.ref a), some (.ref bg), some (.ref wl), some (.int (0 + (i : Int))), some (.ref b), some (.ref sa), none] G) (fun sa G EG st => ?_) (fun rest => ?_)
            · -- append
              obtain ⟨rows, S, ks, hA', hO', r5, eS, l5, hnm⟩ := st
              have ewG := EG.keep wl _ wlb ew
              refine ⟨_, rfl, .inl ⟨rfl, _, SqL.of ewG⟩, _, rfl, _, rfl, sz (by show 2 ≤ 900; decide), fun t nt => ?_⟩
              have St := same_upd (o := .tup [.ref b, .ref sa]) nt
              have et : upd G t (.tup [.ref b, .ref sa]) t = some (.tup [.ref b, .ref sa]) := upd_same
              have EG2 := EG.new (o := .tup [.ref b, .ref sa]) nt
              have ew2 := St _ _ ewG
              have hr2 : ∀ r ∈ rs, r.At (upd G t (.tup [.ref b, .ref sa])) := fun r m => (hrs r m).ts (TSame.ext EJ.bag EG2)
              have hi2 : (It5.mk t b sa rows ks S).At (upd G t (.tup [.ref b, .ref sa])) := ⟨et, hA'.ts (TSame.of St), hO', St _ _ eS, l5, hnm⟩
              generalize upd G t (.tup [.ref b, .ref sa]) = G2 at et EG2 ew2 hr2 hi2 ⊢
              have tsl := ts_lst (ys := (rs.map It5.p).map V.ref ++ [V.ref t]) ew2
              refine ⟨wl, _, _, rfl, rfl, ew2, small1000 (by rw [List.length_map, List.length_map]; omega), ⟨_, _, _, rfl⟩, Ext.write hB (EJ.trans EG2) nwl, rs ++ [⟨t, b, sa, rows, ks, S⟩], by rw [upd_same, List.map_append, List.map_append]; rfl, fun r m => ?_, by rw [List.length_append, li]; rfl⟩
              rcases List.mem_append.mp m with c | c
              · exact (hr2 r c).ts tsl
              · rw [List.mem_singleton.mp c]; exact hi2.ts tsl
            · refine ⟨_, rfl, bg, 4, rfl, EG.bag, by decide, by decide, fun y M1 E1 c0 c1 => ⟨rfl, _, rfl, ?_⟩⟩
              obtain ⟨rows, S, ks, hA', hO', r5, eS, l5, hnm⟩ := st
              have T1 := TSame.ext EG.bag E1
              have hA1 := hA'.ts T1
              obtain ⟨r, kt, kas, g1, g2, g3, pk⟩ := id hA1
              refine ite2 (fun _ => ?_) fun _ => rest sa M1 (EG.trans E1) ⟨rows, S, ks, hA1, hO', r5, T1 _ _ eS, l5, hnm⟩
              refine ⟨_, rfl, b, _, 0, .ref r, rfl, rfl, SqT.of g1, rfl, _, rfl, slA_go g2 fun q M2 S2 eq => ?_⟩
              rw [cut_to _ 2 (by decide), ← List.map_take, show (2 : Int).toNat = 2 from rfl] at eq
              have EM := EG.trans E1
              exact rest q M2 (EM.trans (Ext.of_same EM.bag S2)) ⟨rows, rows.take 2, ks, hA1.ts (TSame.of S2), hO', r5, eq, by rw [List.length_take]; omega, fun n m => hO'.rw.of n (List.mem_of_mem_take m)⟩
          · refine ifGo (fun M => G = M) (fun M eM => ?_) (fun M eM => ?_) (fun Q' q => ?_)
            · subst eM
              obtain ⟨rows, S, ks, hA', hO', r5, eS, l5, hnm⟩ := st
              refine ⟨_, rfl, _, rfl, bg, b, rows, ks, rfl, EG.bag, hA', hO', r5, fun p ks2 M2 E2 hA2 hO2 => ?_⟩
              exact rest p M2 (EG.trans E2) ⟨rows, S, ks2, hA2, hO2, r5, TSame.ext EG.bag E2 _ _ eS, l5, hnm⟩
            · subst eM
              exact rest b G EG st
            · exact ⟨_, rfl, rfl, _, rfl, q _ _ rfl⟩
        · refine ifGo (fun M => G = M) (fun M eM => ?_) (fun M eM => ?_) (fun Q' q => ?_)
          · subst eM
            obtain ⟨rows, S, ks, hA', hO', r5, eS, l5, hnm⟩ := st
            refine ⟨_, rfl, _, rfl, bg, b, rows, ks, rfl, EG.bag, hA', hO', r5, fun p ks2 M2 E2 hA2 hO2 => ?_⟩
            exact rest p M2 (EG.trans E2) ⟨rows, S, ks2, hA2, hO2, r5, TSame.ext EG.bag E2 _ _ eS, l5, hnm⟩
          · subst eM
            exact rest b G EG st
          · refine ⟨_, rfl, _, _, rfl, rfl, _, rfl, ite2 (fun _ => ⟨_, rfl, _, _, rfl, rfl, _, rfl, q _ _ rfl⟩) fun _ => q _ _ rfl⟩
      · refine ⟨_, rfl, _, _, rfl, rfl, _, rfl, ite2 (fun _ => ?_) fun _ => ?_⟩
        · refine ⟨_, rfl, bg, 5, rfl, EJ.bag, by decide, by decide, fun t p sa rows S ks J2 E2 et eS l5 hnm r5 hA' hO' => ?_⟩
          refine ⟨t, _, rfl, SqT.of et, rfl, _, _, rfl, _, _, rfl, rfl, ?_⟩
          exact rest p sa J2 E2 ⟨rows, S, ks, hA', hO', r5, eS, l5, hnm⟩
        · refine ⟨_, rfl, bg, 5, rfl, EJ.bag, by decide, by decide, fun t p sa rows S ks J2 E2 et eS l5 hnm r5 hA' hO' => ?_⟩
          refine ⟨t, _, rfl, SqT.of et, rfl, _, _, rfl, _, _, rfl, rfl, ?_⟩
          exact rest p sa J2 E2 ⟨rows, S, ks, hA', hO', r5, eS, l5, hnm⟩
    · rintro σ' J ⟨⟨x3, x4, x5, rfl⟩, EJ, rs, ew, hrs, l8⟩
      have BJ := Bg.ext hB hT1 EJ
      have gW := Gd.its ew hrs (by omega)
      obtain ⟨as1, hS1, _⟩ := Rep.sh (CW := CW) (NW := NW) gW.rep
      refine ⟨_, rfl, _, as1, _, _, rfl, hS1, Nat.le_trans gW.dep (by decide), Nat.le_trans gW.len (by rw [sizeLine_eq]; decide), ?_⟩
      clear hS1 gW
      refine ⟨_, rfl, _, rfl, 1, rfl, wl, _, rfl, SqL.of ew, fun l1 nl1 => ?_⟩
      rw [cut_to _ 1 (by decide), ← List.map_take, ← List.map_take, show (1 : Int).toNat = 1 from rfl]
      have Sl1 := same_upd (o := .lst (((rs.take 1).map It5.p).map V.ref)) nl1
      refine ⟨wl, l1, _, _, rfl, rfl, Sl1 _ _ ew, upd_same, sz (by rw [List.length_map, List.length_map, List.length_map, List.length_map, List.length_take]; omega), fun l2 nl2 => ?_⟩
      have S12 := KaG.Same.tr Sl1 (same_upd (o := .lst ((rs.map It5.p).map V.ref ++ ((rs.take 1).map It5.p).map V.ref)) nl2)
      have el2 : upd (upd J l1 (.lst (((rs.take 1).map It5.p).map V.ref))) l2 (.lst ((rs.map It5.p).map V.ref ++ ((rs.take 1).map It5.p).map V.ref)) l2 = some (.lst (((rs ++ rs.take 1).map It5.p).map V.ref)) := by
        rw [upd_same, List.map_append, List.map_append]
      generalize upd (upd J l1 (.lst (((rs.take 1).map It5.p).map V.ref))) l2 (.lst ((rs.map It5.p).map V.ref ++ ((rs.take 1).map It5.p).map V.ref)) = J2 at S12 el2 ⊢
      have BJ2 := BJ.tr (Bg.ex BJ.bag (Ex.same BJ.tab S12))
      have ew2 := S12 _ _ ew
      have hrs2 : ∀ r ∈ rs, r.At J2 := fun r m => (hrs r m).ts (TSame.of S12)
      refine ⟨l2, rfl, ⟨_, SqL.of el2⟩, for_list (K := K) (a := l2) (xs := ((rs ++ rs.take 1).map It5.p).map V.ref) (fun i σ' G => (∃ x4 x5 : Option V, σ' = [some (.ref a), some (.ref bg), some (.ref wl), x3, x4, x5, some (.str (txt (.list (rs.map itD))))]) ∧ Bg T bg J2 G) ?_ ?_ ?_ ?_⟩
      · exact ⟨⟨_, _, rfl⟩, Bg.refl BJ2.bag BJ2.tab⟩
      · rintro i σ' G _ ⟨_, B⟩
        exact SqL.of (B.lst BJ2.bag el2 refs_nb)
      · rintro i v σ' G hv ⟨⟨x4, x5, rfl⟩, B⟩
        rw [List.getElem?_map, List.getElem?_map] at hv
        obtain ⟨rp, hv2, rfl⟩ := Option.map_eq_some_iff.mp hv
        obtain ⟨r, hr2, rfl⟩ := Option.map_eq_some_iff.mp hv2
        have mr : r ∈ rs := by
          rcases List.mem_append.mp (List.mem_of_getElem? hr2) with c | c
          · exact c
          · exact List.mem_of_mem_take c
        have at2 := (hrs2 r mr).ts (B.ts BJ2.bag)
        refine ⟨r.p, _, rfl, SqT.of at2.e, rfl, _, _, rfl, _, _, rfl, rfl, ?_⟩
        refine ⟨_, rfl, _, rfl, _, rfl, bg, r.b, r.sa, r.rows, r.S, r.ks, rfl, B.bag, B.tab, at2.bk, at2.ok, at2.st, fun G2 B2 => ⟨_, rfl, iteF ?_⟩⟩
        exact ⟨⟨_, _, rfl⟩, B.tr B2⟩
      · rintro σ' G ⟨⟨x4, x5, rfl⟩, B⟩
        have gW := Gd.its (B.lst BJ2.bag ew2 refs_nb) (fun r m => (hrs2 r m).ts (B.ts BJ2.bag)) (by omega)
        obtain ⟨as2, hS2, _⟩ := Rep.sh (CW := CW) (NW := NW) gW.rep
        refine ⟨_, rfl, _, as2, _, _, rfl, hS2, Nat.le_trans gW.dep (by decide), Nat.le_trans gW.len (by rw [sizeLine_eq]; decide), _, rfl, rfl, ?_⟩
        rw [decide_eq_true rfl]
        exact k G
end
end KaG
set_option maxRecDepth 100000
set_option maxHeartbeats 4000000
namespace KaG
open PySem PySem.Spec PyProof.Rows L2 KaC KaN LamX NdefX KaU
def wrB (K : PySem.W.Frag) (C : Addr) (NW : Str) : Bool := (match PySem.W.clsIn K C with | some cd => decide (Str.ofString ((cd.name.toString.cutAt '.').getLastD "") = NW) | none => false) &&
  (decide (PySem.W.subIn K (.ref C) (.type "BaseException") = some true) && (decide (PySem.W.findIn K (.ref C) "__repr__" = some (some (.builtin "BaseException.__repr__"))) && (decide (PySem.W.findIn K (.ref C) "__eq__" = some (some (.builtin "object.__eq__"))) && decide (PySem.W.subIn K (.ref C) (.type "object") = some true))))
theorem wrB_ok {K : PySem.W.Frag} {C : Addr} {NW : Str} (h : wrB K C NW = true) : WrK K C NW := by
  unfold wrB at h
  rw [Bool.and_eq_true] at h
  obtain ⟨h1, h2⟩ := h
  simp only [Bool.and_eq_true, decide_eq_true_eq] at h2
  obtain ⟨h0, h3, h4, h5⟩ := h2
  split at h1
  · rename_i cd hc
    exact ⟨⟨cd, hc, of_decide_eq_true h1⟩, h0, h3, h4, h5⟩
  · cases h1
section
variable {l : PySem.W.OpenLaw} {w : World} {K : PySem.W.Frag} {mg : Str → Option Value} {h : Heap}
theorem all_mk {fa C0 : Addr} {tF : Tok} {c4 P4 : Addr} {g0 : Addr} {god0 gan0 : Option Addr} {gsl0 : Array (Option Value)} {goc0 gkV0 gdc0 gpm0 gct0 : Value} {gcd0 : Value} {g1 : Addr} {god1 gan1 : Option Addr} {gsl1 : Array (Option Value)} {goc1 gkV1 gdc1 gpm1 gct1 : Value} {gcd1 : Value} {g2 : Addr} {god2 gan2 : Option Addr} {gsl2 : Array (Option Value)} {goc2 gkV2 gdc2 gpm2 gct2 : Value} {gcd2 : Value} {g3 : Addr} {god3 gan3 : Option Addr} {gsl3 : Array (Option Value)} {goc3 gkV3 gdc3 gpm3 gct3 : Value} {gcd3 : Value} {g4 : Addr} {god4 gan4 : Option Addr} {gsl4 : Array (Option Value)} {goc4 gkV4 gdc4 gpm4 gct4 : Value} {g5 : Addr} {god5 gan5 : Option Addr} {gsl5 : Array (Option Value)} {goc5 gkV5 gdc5 gpm5 gct5 : Value} {gcd5 : Value} {g6 : Addr} {god6 gan6 : Option Addr} {gsl6 : Array (Option Value)} {goc6 gkV6 gdc6 gpm6 gct6 : Value} {gcd6 : Value} {g7 : Addr} {god7 gan7 : Option Addr} {gsl7 : Array (Option Value)} {goc7 gkV7 gdc7 gpm7 gct7 : Value} {gcd7 : Value} {g8 : Addr} {god8 gan8 : Option Addr} {gsl8 : Array (Option Value)} {goc8 gkV8 gdc8 gpm8 gct8 : Value} {gcd8 : Value} {g9 : Addr} {god9 gan9 : Option Addr} {gsl9 : Array (Option Value)} {goc9 gkV9 gdc9 gpm9 gct9 : Value} {gcd9 : Value} {g10 : Addr} {god10 gan10 : Option Addr} {gsl10 : Array (Option Value)} {goc10 gkV10 gdc10 gpm10 gct10 : Value} {gcd10 : Value} {g11 : Addr} {god11 gan11 : Option Addr} {gsl11 : Array (Option Value)} {goc11 gkV11 gdc11 gpm11 gct11 : Value} {gcd11 : Value} {g12 : Addr} {god12 gan12 : Option Addr} {gsl12 : Array (Option Value)} {goc12 gkV12 gdc12 gpm12 gct12 : Value} {gcd12 : Value} {g13 : Addr} {god13 gan13 : Option Addr} {gsl13 : Array (Option Value)} {goc13 gkV13 gdc13 gpm13 gct13 : Value} {gcd13 : Value} {g14 : Addr} {god14 gan14 : Option Addr} {gsl14 : Array (Option Value)} {goc14 gkV14 gdc14 gpm14 gct14 : Value} {gcd14 : Value} {g15 : Addr} {god15 gan15 : Option Addr} {gsl15 : Array (Option Value)} {goc15 gkV15 gdc15 gpm15 gct15 : Value} {gcd15 : Value} {g16 : Addr} {god16 gan16 : Option Addr} {gsl16 : Array (Option Value)} {goc16 gkV16 gdc16 gpm16 gct16 : Value} {gcd16 : Value} {g17 : Addr} {god17 gan17 : Option Addr} {gsl17 : Array (Option Value)} {goc17 gkV17 gdc17 gpm17 gct17 : Value} {gcd17 : Value} {g18 : Addr} {god18 gan18 : Option Addr} {gsl18 : Array (Option Value)} {goc18 gkV18 gdc18 gpm18 gct18 : Value} {gcd18 : Value} {g19 : Addr} {god19 gan19 : Option Addr} {gsl19 : Array (Option Value)} {goc19 gkV19 gdc19 gpm19 gct19 : Value} {gcd19 : Value} {g20 : Addr} {god20 gan20 : Option Addr} {gsl20 : Array (Option Value)} {goc20 gkV20 gdc20 gpm20 gct20 : Value} {gcd20 : Value} {g21 : Addr} {god21 gan21 : Option Addr} {gsl21 : Array (Option Value)} {goc21 gkV21 gdc21 gpm21 gct21 : Value} {gcd21 : Value} {g22 : Addr} {god22 gan22 : Option Addr} {gsl22 : Array (Option Value)} {goc22 gkV22 gdc22 gpm22 gct22 : Value} {gcd22 : Value} {g23 : Addr} {god23 gan23 : Option Addr} {gsl23 : Array (Option Value)} {goc23 gkV23 gdc23 gpm23 gct23 : Value} {gcd23 : Value} {g24 : Addr} {god24 gan24 : Option Addr} {gsl24 : Array (Option Value)} {goc24 gkV24 gdc24 gpm24 gct24 : Value} {gcd24 : Value} {g25 : Addr} {god25 gan25 : Option Addr} {gsl25 : Array (Option Value)} {goc25 gkV25 gdc25 gpm25 gct25 : Value} {gcd25 : Value} {g26 : Addr} {god26 gan26 : Option Addr} {gsl26 : Array (Option Value)} {goc26 gkV26 gdc26 gpm26 gct26 : Value} {gcd26 : Value} {g27 : Addr} {god27 gan27 : Option Addr} {gsl27 : Array (Option Value)} {goc27 gkV27 gdc27 gpm27 gct27 : Value} {gcd27 : Value} {g28 : Addr} {god28 gan28 : Option Addr} {gsl28 : Array (Option Value)} {goc28 gkV28 gdc28 gpm28 gct28 : Value} {gcd28 : Value} {g29 : Addr} {god29 gan29 : Option Addr} {gsl29 : Array (Option Value)} {goc29 gkV29 gdc29 gpm29 gct29 : Value} {gcd29 : Value} {g30 : Addr} {god30 gan30 : Option Addr} {gsl30 : Array (Option Value)} {goc30 gkV30 gdc30 gpm30 gct30 : Value} {gcd30 : Value} {g31 : Addr} {god31 gan31 : Option Addr} {gsl31 : Array (Option Value)} {goc31 gkV31 gdc31 gpm31 gct31 : Value} {gcd31 : Value} {g32 : Addr} {god32 gan32 : Option Addr} {gsl32 : Array (Option Value)} {goc32 gkV32 gdc32 gpm32 gct32 : Value} {gcd32 : Value} {g33 : Addr} {god33 gan33 : Option Addr} {gsl33 : Array (Option Value)} {goc33 gkV33 gdc33 gpm33 gct33 : Value} {gcd33 : Value} {g34 : Addr} {god34 gan34 : Option Addr} {gsl34 : Array (Option Value)} {goc34 gkV34 gdc34 gpm34 gct34 : Value} {gcd34 : Value} {g35 : Addr} {god35 gan35 : Option Addr} {gsl35 : Array (Option Value)} {goc35 gkV35 gdc35 gpm35 gct35 : Value} {gcd35 : Value} {g36 : Addr} {god36 gan36 : Option Addr} {gsl36 : Array (Option Value)} {goc36 gkV36 gdc36 gpm36 gct36 : Value} {gcd36 : Value} {g37 : Addr} {god37 gan37 : Option Addr} {gsl37 : Array (Option Value)} {goc37 gkV37 gdc37 gpm37 gct37 : Value} {gcd37 : Value} (X : K.In h) (Gm : h.Ns mainGlobals mg) (hfa : mg "law" = some (.ref fa)) 
    (babs : PySem.W.nsIn K mainGlobals "abs" = some none)
    (blen : PySem.W.nsIn K mainGlobals "len" = some none)
    (bint : PySem.W.nsIn K mainGlobals "int" = some none)
    (brepr : PySem.W.nsIn K mainGlobals "repr" = some none)
    (bisinstance : PySem.W.nsIn K mainGlobals "isinstance" = some none)
    (brange : PySem.W.nsIn K mainGlobals "range" = some none)
    (blist : PySem.W.nsIn K mainGlobals "list" = some none)
    (bValueError : PySem.W.nsIn K mainGlobals "ValueError" = some none)
    (btuple : PySem.W.nsIn K mainGlobals "tuple" = some none)
    (bsorted : PySem.W.nsIn K mainGlobals "sorted" = some none)
    (bset : PySem.W.nsIn K mainGlobals "set" = some none)
    (bdict : PySem.W.nsIn K mainGlobals "dict" = some none)
    (benumerate : PySem.W.nsIn K mainGlobals "enumerate" = some none)
    (bany : PySem.W.nsIn K mainGlobals "any" = some none)
    (ball : PySem.W.nsIn K mainGlobals "all" = some none)
    (bmin : PySem.W.nsIn K mainGlobals "min" = some none)
    (bmax : PySem.W.nsIn K mainGlobals "max" = some none)
    (bbool : PySem.W.nsIn K mainGlobals "bool" = some none)
    (bstr : PySem.W.nsIn K mainGlobals "str" = some none)
    (bzip : PySem.W.nsIn K mainGlobals "zip" = some none)
    (bsum : PySem.W.nsIn K mainGlobals "sum" = some none)
    (breversed : PySem.W.nsIn K mainGlobals "reversed" = some none)
    (a0 : PySem.W.nsIn K mainGlobals "NoKind" = some (some (.ref C0)))
    (ga0 : PySem.W.nsIn K mainGlobals "kind_of" = some (some (.ref g0)))
    (gl0 : K.lookup g0 = some ⟨goc0, god0, .func (PySem.W.fnOf "kind_of" "kind_of" (defArgs sKindOf) (defBody sKindOf) (defScope sKindOf) .none gkV0 gdc0 gpm0 gan0 gcd0 gct0), gsl0⟩)
    (gc0 : PySem.W.codeIn K gcd0 "kind_of" = true)
    (gk0 : PySem.W.keepIn K (.ref g0) = true)
    (ga1 : PySem.W.nsIn K mainGlobals "kind_names" = some (some (.ref g1)))
    (gl1 : K.lookup g1 = some ⟨goc1, god1, .func (PySem.W.fnOf "kind_names" "kind_names" (defArgs sKindNames) (defBody sKindNames) (defScope sKindNames) .none gkV1 gdc1 gpm1 gan1 gcd1 gct1), gsl1⟩)
    (gc1 : PySem.W.codeIn K gcd1 "kind_names" = true)
    (gk1 : PySem.W.keepIn K (.ref g1) = true)
    (ga2 : PySem.W.nsIn K mainGlobals "_grown" = some (some (.ref g2)))
    (gl2 : K.lookup g2 = some ⟨goc2, god2, .func (PySem.W.fnOf "_grown" "_grown" (defArgs sGrown) (defBody sGrown) (defScope sGrown) .none gkV2 gdc2 gpm2 gan2 gcd2 gct2), gsl2⟩)
    (gc2 : PySem.W.codeIn K gcd2 "_grown" = true)
    (gk2 : PySem.W.keepIn K (.ref g2) = true)
    (ga3 : PySem.W.nsIn K mainGlobals "_is_live" = some (some (.ref g3)))
    (gl3 : K.lookup g3 = some ⟨goc3, god3, .func (PySem.W.fnOf "_is_live" "_is_live" (defArgs sIsLive) (defBody sIsLive) (defScope sIsLive) .none gkV3 gdc3 gpm3 gan3 gcd3 gct3), gsl3⟩)
    (gc3 : PySem.W.codeIn K gcd3 "_is_live" = true)
    (gk3 : PySem.W.keepIn K (.ref g3) = true)
    (ga4 : PySem.W.nsIn K mainGlobals "bearing_kinds" = some (some (.ref g4)))
    (gl4 : K.lookup g4 = some ⟨goc4, god4, .func (PySem.W.fnOf "bearing_kinds" "bearing_kinds" (defArgs sBear) (defBody sBear) (defScope sBear) .none gkV4 gdc4 gpm4 gan4 (.ref c4) gct4), gsl4⟩)
    (gc4 : PySem.W.codeIn K (.ref c4) "bearing_kinds" = true)
    (gk4 : PySem.W.keepIn K (.ref g4) = true)
    (ga5 : PySem.W.nsIn K mainGlobals "live_indexes" = some (some (.ref g5)))
    (gl5 : K.lookup g5 = some ⟨goc5, god5, .func (PySem.W.fnOf "live_indexes" "live_indexes" (defArgs sLiveIx) (defBody sLiveIx) (defScope sLiveIx) .none gkV5 gdc5 gpm5 gan5 gcd5 gct5), gsl5⟩)
    (gc5 : PySem.W.codeIn K gcd5 "live_indexes" = true)
    (gk5 : PySem.W.keepIn K (.ref g5) = true)
    (ga6 : PySem.W.nsIn K mainGlobals "needs_threaded" = some (some (.ref g6)))
    (gl6 : K.lookup g6 = some ⟨goc6, god6, .func (PySem.W.fnOf "needs_threaded" "needs_threaded" (defArgs sNt) (defBody sNt) (defScope sNt) .none gkV6 gdc6 gpm6 gan6 gcd6 gct6), gsl6⟩)
    (gc6 : PySem.W.codeIn K gcd6 "needs_threaded" = true)
    (gk6 : PySem.W.keepIn K (.ref g6) = true)
    (ga7 : PySem.W.nsIn K mainGlobals "is_threaded" = some (some (.ref g7)))
    (gl7 : K.lookup g7 = some ⟨goc7, god7, .func (PySem.W.fnOf "is_threaded" "is_threaded" (defArgs sIth) (defBody sIth) (defScope sIth) .none gkV7 gdc7 gpm7 gan7 gcd7 gct7), gsl7⟩)
    (gc7 : PySem.W.codeIn K gcd7 "is_threaded" = true)
    (gk7 : PySem.W.keepIn K (.ref g7) = true)
    (ga8 : PySem.W.nsIn K mainGlobals "_live_threads" = some (some (.ref g8)))
    (gl8 : K.lookup g8 = some ⟨goc8, god8, .func (PySem.W.fnOf "_live_threads" "_live_threads" (defArgs sLt) (defBody sLt) (defScope sLt) .none gkV8 gdc8 gpm8 gan8 gcd8 gct8), gsl8⟩)
    (gc8 : PySem.W.codeIn K gcd8 "_live_threads" = true)
    (gk8 : PySem.W.keepIn K (.ref g8) = true)
    (ga9 : PySem.W.nsIn K mainGlobals "is_well_timed" = some (some (.ref g9)))
    (gl9 : K.lookup g9 = some ⟨goc9, god9, .func (PySem.W.fnOf "is_well_timed" "is_well_timed" (defArgs sWt) (defBody sWt) (defScope sWt) .none gkV9 gdc9 gpm9 gan9 gcd9 gct9), gsl9⟩)
    (gc9 : PySem.W.codeIn K gcd9 "is_well_timed" = true)
    (gk9 : PySem.W.keepIn K (.ref g9) = true)
    (ga10 : PySem.W.nsIn K mainGlobals "with_bars" = some (some (.ref g10)))
    (gl10 : K.lookup g10 = some ⟨goc10, god10, .func (PySem.W.fnOf "with_bars" "with_bars" (defArgs sWb) (defBody sWb) (defScope sWb) .none gkV10 gdc10 gpm10 gan10 gcd10 gct10), gsl10⟩)
    (gc10 : PySem.W.codeIn K gcd10 "with_bars" = true)
    (gk10 : PySem.W.keepIn K (.ref g10) = true)
    (ga11 : PySem.W.nsIn K mainGlobals "_law_bag" = some (some (.ref g11)))
    (gl11 : K.lookup g11 = some ⟨goc11, god11, .func (PySem.W.fnOf "_law_bag" "_law_bag" (defArgs sBag) (defBody sBag) (defScope sBag) .none gkV11 gdc11 gpm11 gan11 gcd11 gct11), gsl11⟩)
    (gc11 : PySem.W.codeIn K gcd11 "_law_bag" = true)
    (gk11 : PySem.W.keepIn K (.ref g11) = true)
    (ga12 : PySem.W.nsIn K mainGlobals "_law_take" = some (some (.ref g12)))
    (gl12 : K.lookup g12 = some ⟨goc12, god12, .func (PySem.W.fnOf "_law_take" "_law_take" (defArgs sTake) (defBody sTake) (defScope sTake) .none gkV12 gdc12 gpm12 gan12 gcd12 gct12), gsl12⟩)
    (gc12 : PySem.W.codeIn K gcd12 "_law_take" = true)
    (gk12 : PySem.W.keepIn K (.ref g12) = true)
    (ga13 : PySem.W.nsIn K mainGlobals "_law_some" = some (some (.ref g13)))
    (gl13 : K.lookup g13 = some ⟨goc13, god13, .func (PySem.W.fnOf "_law_some" "_law_some" (defArgs sSome) (defBody sSome) (defScope sSome) .none gkV13 gdc13 gpm13 gan13 gcd13 gct13), gsl13⟩)
    (gc13 : PySem.W.codeIn K gcd13 "_law_some" = true)
    (gk13 : PySem.W.keepIn K (.ref g13) = true)
    (ga14 : PySem.W.nsIn K mainGlobals "_law_alike" = some (some (.ref g14)))
    (gl14 : K.lookup g14 = some ⟨goc14, god14, .func (PySem.W.fnOf "_law_alike" "_law_alike" (defArgs sAlike) (defBody sAlike) (defScope sAlike) .none gkV14 gdc14 gpm14 gan14 gcd14 gct14), gsl14⟩)
    (gc14 : PySem.W.codeIn K gcd14 "_law_alike" = true)
    (gk14 : PySem.W.keepIn K (.ref g14) = true)
    (ga15 : PySem.W.nsIn K mainGlobals "_law_mixed" = some (some (.ref g15)))
    (gl15 : K.lookup g15 = some ⟨goc15, god15, .func (PySem.W.fnOf "_law_mixed" "_law_mixed" (defArgs sMixed) (defBody sMixed) (defScope sMixed) .none gkV15 gdc15 gpm15 gan15 gcd15 gct15), gsl15⟩)
    (gc15 : PySem.W.codeIn K gcd15 "_law_mixed" = true)
    (gk15 : PySem.W.keepIn K (.ref g15) = true)
    (ga16 : PySem.W.nsIn K mainGlobals "_law_named" = some (some (.ref g16)))
    (gl16 : K.lookup g16 = some ⟨goc16, god16, .func (PySem.W.fnOf "_law_named" "_law_named" (defArgs sNamed) (defBody sNamed) (defScope sNamed) .none gkV16 gdc16 gpm16 gan16 gcd16 gct16), gsl16⟩)
    (gc16 : PySem.W.codeIn K gcd16 "_law_named" = true)
    (gk16 : PySem.W.keepIn K (.ref g16) = true)
    (ga17 : PySem.W.nsIn K mainGlobals "_law_numbers" = some (some (.ref g17)))
    (gl17 : K.lookup g17 = some ⟨goc17, god17, .func (PySem.W.fnOf "_law_numbers" "_law_numbers" (defArgs sNumbers) (defBody sNumbers) (defScope sNumbers) .none gkV17 gdc17 gpm17 gan17 gcd17 gct17), gsl17⟩)
    (gc17 : PySem.W.codeIn K gcd17 "_law_numbers" = true)
    (gk17 : PySem.W.keepIn K (.ref g17) = true)
    (ga18 : PySem.W.nsIn K mainGlobals "_law_need" = some (some (.ref g18)))
    (gl18 : K.lookup g18 = some ⟨goc18, god18, .func (PySem.W.fnOf "_law_need" "_law_need" (defArgs sNeed) (defBody sNeed) (defScope sNeed) .none gkV18 gdc18 gpm18 gan18 gcd18 gct18), gsl18⟩)
    (gc18 : PySem.W.codeIn K gcd18 "_law_need" = true)
    (gk18 : PySem.W.keepIn K (.ref g18) = true)
    (ga19 : PySem.W.nsIn K mainGlobals "_law_ground" = some (some (.ref g19)))
    (gl19 : K.lookup g19 = some ⟨goc19, god19, .func (PySem.W.fnOf "_law_ground" "_law_ground" (defArgs sGround) (defBody sGround) (defScope sGround) .none gkV19 gdc19 gpm19 gan19 gcd19 gct19), gsl19⟩)
    (gc19 : PySem.W.codeIn K gcd19 "_law_ground" = true)
    (gk19 : PySem.W.keepIn K (.ref g19) = true)
    (ga20 : PySem.W.nsIn K mainGlobals "_law_any_rulebook" = some (some (.ref g20)))
    (gl20 : K.lookup g20 = some ⟨goc20, god20, .func (PySem.W.fnOf "_law_any_rulebook" "_law_any_rulebook" (defArgs sAny) (defBody sAny) (defScope sAny) .none gkV20 gdc20 gpm20 gan20 gcd20 gct20), gsl20⟩)
    (gc20 : PySem.W.codeIn K gcd20 "_law_any_rulebook" = true)
    (gk20 : PySem.W.keepIn K (.ref g20) = true)
    (ga21 : PySem.W.nsIn K mainGlobals "_law_planted" = some (some (.ref g21)))
    (gl21 : K.lookup g21 = some ⟨goc21, god21, .func (PySem.W.fnOf "_law_planted" "_law_planted" (defArgs sPlanted) (defBody sPlanted) (defScope sPlanted) .none gkV21 gdc21 gpm21 gan21 gcd21 gct21), gsl21⟩)
    (gc21 : PySem.W.codeIn K gcd21 "_law_planted" = true)
    (gk21 : PySem.W.keepIn K (.ref g21) = true)
    (ga22 : PySem.W.nsIn K mainGlobals "_law_more_needs" = some (some (.ref g22)))
    (gl22 : K.lookup g22 = some ⟨goc22, god22, .func (PySem.W.fnOf "_law_more_needs" "_law_more_needs" (defArgs sMore) (defBody sMore) (defScope sMore) .none gkV22 gdc22 gpm22 gan22 gcd22 gct22), gsl22⟩)
    (gc22 : PySem.W.codeIn K gcd22 "_law_more_needs" = true)
    (gk22 : PySem.W.keepIn K (.ref g22) = true)
    (ga23 : PySem.W.nsIn K mainGlobals "_law_threaded" = some (some (.ref g23)))
    (gl23 : K.lookup g23 = some ⟨goc23, god23, .func (PySem.W.fnOf "_law_threaded" "_law_threaded" (defArgs sThreaded) (defBody sThreaded) (defScope sThreaded) .none gkV23 gdc23 gpm23 gan23 gcd23 gct23), gsl23⟩)
    (gc23 : PySem.W.codeIn K gcd23 "_law_threaded" = true)
    (gk23 : PySem.W.keepIn K (.ref g23) = true)
    (ga24 : PySem.W.nsIn K mainGlobals "_law_rulebook" = some (some (.ref g24)))
    (gl24 : K.lookup g24 = some ⟨goc24, god24, .func (PySem.W.fnOf "_law_rulebook" "_law_rulebook" (defArgs sRulebook) (defBody sRulebook) (defScope sRulebook) .none gkV24 gdc24 gpm24 gan24 gcd24 gct24), gsl24⟩)
    (gc24 : PySem.W.codeIn K gcd24 "_law_rulebook" = true)
    (gk24 : PySem.W.keepIn K (.ref g24) = true)
    (ga25 : PySem.W.nsIn K mainGlobals "_law_bearing" = some (some (.ref g25)))
    (gl25 : K.lookup g25 = some ⟨goc25, god25, .func (PySem.W.fnOf "_law_bearing" "_law_bearing" (defArgs sLbe) (defBody sLbe) (defScope sLbe) .none gkV25 gdc25 gpm25 gan25 gcd25 gct25), gsl25⟩)
    (gc25 : PySem.W.codeIn K gcd25 "_law_bearing" = true)
    (gk25 : PySem.W.keepIn K (.ref g25) = true)
    (ga26 : PySem.W.nsIn K mainGlobals "_law_is_live" = some (some (.ref g26)))
    (gl26 : K.lookup g26 = some ⟨goc26, god26, .func (PySem.W.fnOf "_law_is_live" "_law_is_live" (defArgs sLil) (defBody sLil) (defScope sLil) .none gkV26 gdc26 gpm26 gan26 gcd26 gct26), gsl26⟩)
    (gc26 : PySem.W.codeIn K gcd26 "_law_is_live" = true)
    (gk26 : PySem.W.keepIn K (.ref g26) = true)
    (ga27 : PySem.W.nsIn K mainGlobals "_law_live" = some (some (.ref g27)))
    (gl27 : K.lookup g27 = some ⟨goc27, god27, .func (PySem.W.fnOf "_law_live" "_law_live" (defArgs sLlv5) (defBody sLlv5) (defScope sLlv5) .none gkV27 gdc27 gpm27 gan27 gcd27 gct27), gsl27⟩)
    (gc27 : PySem.W.codeIn K gcd27 "_law_live" = true)
    (gk27 : PySem.W.keepIn K (.ref g27) = true)
    (ga28 : PySem.W.nsIn K mainGlobals "_law_led_needs" = some (some (.ref g28)))
    (gl28 : K.lookup g28 = some ⟨goc28, god28, .func (PySem.W.fnOf "_law_led_needs" "_law_led_needs" (defArgs sLed) (defBody sLed) (defScope sLed) .none gkV28 gdc28 gpm28 gan28 gcd28 gct28), gsl28⟩)
    (gc28 : PySem.W.codeIn K gcd28 "_law_led_needs" = true)
    (gk28 : PySem.W.keepIn K (.ref g28) = true)
    (ga29 : PySem.W.nsIn K mainGlobals "_law_is_threaded" = some (some (.ref g29)))
    (gl29 : K.lookup g29 = some ⟨goc29, god29, .func (PySem.W.fnOf "_law_is_threaded" "_law_is_threaded" (defArgs sLth) (defBody sLth) (defScope sLth) .none gkV29 gdc29 gpm29 gan29 gcd29 gct29), gsl29⟩)
    (gc29 : PySem.W.codeIn K gcd29 "_law_is_threaded" = true)
    (gk29 : PySem.W.keepIn K (.ref g29) = true)
    (ga30 : PySem.W.nsIn K mainGlobals "_law_flat" = some (some (.ref g30)))
    (gl30 : K.lookup g30 = some ⟨goc30, god30, .func (PySem.W.fnOf "_law_flat" "_law_flat" (defArgs sFl) (defBody sFl) (defScope sFl) .none gkV30 gdc30 gpm30 gan30 gcd30 gct30), gsl30⟩)
    (gc30 : PySem.W.codeIn K gcd30 "_law_flat" = true)
    (gk30 : PySem.W.keepIn K (.ref g30) = true)
    (ga31 : PySem.W.nsIn K mainGlobals "_law_is_timed" = some (some (.ref g31)))
    (gl31 : K.lookup g31 = some ⟨goc31, god31, .func (PySem.W.fnOf "_law_is_timed" "_law_is_timed" (defArgs sLtm) (defBody sLtm) (defScope sLtm) .none gkV31 gdc31 gpm31 gan31 gcd31 gct31), gsl31⟩)
    (gc31 : PySem.W.codeIn K gcd31 "_law_is_timed" = true)
    (gk31 : PySem.W.keepIn K (.ref g31) = true)
    (ga32 : PySem.W.nsIn K mainGlobals "_law_timed" = some (some (.ref g32)))
    (gl32 : K.lookup g32 = some ⟨goc32, god32, .func (PySem.W.fnOf "_law_timed" "_law_timed" (defArgs sTmd) (defBody sTmd) (defScope sTmd) .none gkV32 gdc32 gpm32 gan32 gcd32 gct32), gsl32⟩)
    (gc32 : PySem.W.codeIn K gcd32 "_law_timed" = true)
    (gk32 : PySem.W.keepIn K (.ref g32) = true)
    (ga33 : PySem.W.nsIn K mainGlobals "_law_bent_rulebook" = some (some (.ref g33)))
    (gl33 : K.lookup g33 = some ⟨goc33, god33, .func (PySem.W.fnOf "_law_bent_rulebook" "_law_bent_rulebook" (defArgs sBnt) (defBody sBnt) (defScope sBnt) .none gkV33 gdc33 gpm33 gan33 gcd33 gct33), gsl33⟩)
    (gc33 : PySem.W.codeIn K gcd33 "_law_bent_rulebook" = true)
    (gk33 : PySem.W.keepIn K (.ref g33) = true)
    (ga34 : PySem.W.nsIn K mainGlobals "_law_more_grounds" = some (some (.ref g34)))
    (gl34 : K.lookup g34 = some ⟨goc34, god34, .func (PySem.W.fnOf "_law_more_grounds" "_law_more_grounds" (defArgs sMgr) (defBody sMgr) (defScope sMgr) .none gkV34 gdc34 gpm34 gan34 gcd34 gct34), gsl34⟩)
    (gc34 : PySem.W.codeIn K gcd34 "_law_more_grounds" = true)
    (gk34 : PySem.W.keepIn K (.ref g34) = true)
    (ga35 : PySem.W.nsIn K mainGlobals "_law_right" = some (some (.ref g35)))
    (gl35 : K.lookup g35 = some ⟨goc35, god35, .func (PySem.W.fnOf "_law_right" "_law_right" (defArgs sRt5) (defBody sRt5) (defScope sRt5) .none gkV35 gdc35 gpm35 gan35 gcd35 gct35), gsl35⟩)
    (gc35 : PySem.W.codeIn K gcd35 "_law_right" = true)
    (gk35 : PySem.W.keepIn K (.ref g35) = true)
    (ga36 : PySem.W.nsIn K mainGlobals "_law_with_dead" = some (some (.ref g36)))
    (gl36 : K.lookup g36 = some ⟨goc36, god36, .func (PySem.W.fnOf "_law_with_dead" "_law_with_dead" (defArgs sWd) (defBody sWd) (defScope sWd) .none gkV36 gdc36 gpm36 gan36 gcd36 gct36), gsl36⟩)
    (gc36 : PySem.W.codeIn K gcd36 "_law_with_dead" = true)
    (gk36 : PySem.W.keepIn K (.ref g36) = true)
    (ga37 : PySem.W.nsIn K mainGlobals "law" = some (some (.ref g37)))
    (gl37 : K.lookup g37 = some ⟨goc37, god37, .func (PySem.W.fnOf "law" "law" (defArgs sLaw55) (defBody sLaw55) (defScope sLaw55) .none gkV37 gdc37 gpm37 gan37 gcd37 gct37), gsl37⟩)
    (gc37 : PySem.W.codeIn K gcd37 "law" = true)
    (gk37 : PySem.W.keepIn K (.ref g37) = true)
    (tt4 : PySem.W.tabIn K "bearing_kinds" = some (c4, P4))
    (th4 : h.get? P4 = some (tabO #[]))
    (tc4 : PySem.W.codeHdIn K c4 P4 = true)
    (tn4 : (K.lookup P4).isNone = true)
    (nF : PySem.W.nsIn K mainGlobals "FOR_GOOD" = some (some (.int 9 tF)))
    (B2 : wrB K C0 "NoKind" = true) :
    LawG l w K 10 63 "script" mg fa h := by
  have e := hfa.symm.trans (PySem.W.mg_of X Gm ga37)
  cases e
  have TB : TxtB mg := ⟨PySem.W.mg_none_of X Gm babs, PySem.W.mg_none_of X Gm blen, PySem.W.mg_none_of X Gm bint, PySem.W.mg_none_of X Gm brepr, PySem.W.mg_none_of X Gm bisinstance, PySem.W.mg_none_of X Gm brange, PySem.W.mg_none_of X Gm blist, PySem.W.mg_none_of X Gm bValueError⟩
  have TC : TxtC mg := ⟨TB, PySem.W.mg_none_of X Gm btuple, PySem.W.mg_none_of X Gm bsorted, PySem.W.mg_none_of X Gm bset, PySem.W.mg_none_of X Gm bdict⟩
  have henumerate : mg "enumerate" = none := PySem.W.mg_none_of X Gm benumerate
  have hany : mg "any" = none := PySem.W.mg_none_of X Gm bany
  have hall : mg "all" = none := PySem.W.mg_none_of X Gm ball
  have hlen : mg "len" = none := PySem.W.mg_none_of X Gm blen
  have hlist : mg "list" = none := PySem.W.mg_none_of X Gm blist
  have hmin : mg "min" = none := PySem.W.mg_none_of X Gm bmin
  have hmax : mg "max" = none := PySem.W.mg_none_of X Gm bmax
  have hbool : mg "bool" = none := PySem.W.mg_none_of X Gm bbool
  have hstr : mg "str" = none := PySem.W.mg_none_of X Gm bstr
  have hzip : mg "zip" = none := PySem.W.mg_none_of X Gm bzip
  have hsum : mg "sum" = none := PySem.W.mg_none_of X Gm bsum
  have hreversed : mg "reversed" = none := PySem.W.mg_none_of X Gm breversed
  have hrange : mg "range" = none := PySem.W.mg_none_of X Gm brange
  have ch4 := PySem.W.codeHd_of_K X tc4
  have V0 := fun_mk (st := sKindOf) gl0 gc0 gk0
  have V1 := fun_mk (st := sKindNames) gl1 gc1 gk1
  have V2 := fun_mk (st := sGrown) gl2 gc2 gk2
  have V3 := fun_mk (st := sIsLive) gl3 gc3 gk3
  have V4 := fun_mk (st := sBear) gl4 gc4 gk4
  have V5 := fun_mk (st := sLiveIx) gl5 gc5 gk5
  have V6 := fun_mk (st := sNt) gl6 gc6 gk6
  have V7 := fun_mk (st := sIth) gl7 gc7 gk7
  have V8 := fun_mk (st := sLt) gl8 gc8 gk8
  have V9 := fun_mk (st := sWt) gl9 gc9 gk9
  have V10 := fun_mk (st := sWb) gl10 gc10 gk10
  have V11 := fun_mk (st := sBag) gl11 gc11 gk11
  have V12 := fun_mk (st := sTake) gl12 gc12 gk12
  have V13 := fun_mk (st := sSome) gl13 gc13 gk13
  have V14 := fun_mk (st := sAlike) gl14 gc14 gk14
  have V15 := fun_mk (st := sMixed) gl15 gc15 gk15
  have V16 := fun_mk (st := sNamed) gl16 gc16 gk16
  have V17 := fun_mk (st := sNumbers) gl17 gc17 gk17
  have V18 := fun_mk (st := sNeed) gl18 gc18 gk18
  have V19 := fun_mk (st := sGround) gl19 gc19 gk19
  have V20 := fun_mk (st := sAny) gl20 gc20 gk20
  have V21 := fun_mk (st := sPlanted) gl21 gc21 gk21
  have V22 := fun_mk (st := sMore) gl22 gc22 gk22
  have V23 := fun_mk (st := sThreaded) gl23 gc23 gk23
  have V24 := fun_mk (st := sRulebook) gl24 gc24 gk24
  have V25 := fun_mk (st := sLbe) gl25 gc25 gk25
  have V26 := fun_mk (st := sLil) gl26 gc26 gk26
  have V27 := fun_mk (st := sLlv5) gl27 gc27 gk27
  have V28 := fun_mk (st := sLed) gl28 gc28 gk28
  have V29 := fun_mk (st := sLth) gl29 gc29 gk29
  have V30 := fun_mk (st := sFl) gl30 gc30 gk30
  have V31 := fun_mk (st := sLtm) gl31 gc31 gk31
  have V32 := fun_mk (st := sTmd) gl32 gc32 gk32
  have V33 := fun_mk (st := sBnt) gl33 gc33 gk33
  have V34 := fun_mk (st := sMgr) gl34 gc34 gk34
  have V35 := fun_mk (st := sRt5) gl35 gc35 gk35
  have V36 := fun_mk (st := sWd) gl36 gc36 gk36
  have V37 := fun_mk (st := sLaw55) gl37 gc37 gk37
  have W0 := V0.binds (ps := ["rulebook", "name"]) fun _ _ _ _ _ _ us hl => match us, hl with | [_, _], _ => rfl
  have W1 := V1.binds (ps := ["rulebook"]) fun _ _ _ _ _ _ us hl => match us, hl with | [_], _ => rfl
  have W2 := V2.binds (ps := ["names", "joins"]) fun _ _ _ _ _ _ us hl => match us, hl with | [_, _], _ => rfl
  have W3 := V3.binds (ps := ["rulebook", "ground", "bearing"]) fun _ _ _ _ _ _ us hl => match us, hl with | [_, _, _], _ => rfl
  have W4 := V4.binds (ps := ["rulebook"]) fun _ _ _ _ _ _ us hl => match us, hl with | [_], _ => rfl
  have W5 := V5.binds (ps := ["rulebook"]) fun _ _ _ _ _ _ us hl => match us, hl with | [_], _ => rfl
  have W6 := V6.binds (ps := ["struck", "ground"]) fun _ _ _ _ _ _ us hl => match us, hl with | [_, _], _ => rfl
  have W7 := V7.binds (ps := ["rulebook", "struck"]) fun _ _ _ _ _ _ us hl => match us, hl with | [_, _], _ => rfl
  have W8 := V8.binds (ps := ["rulebook", "struck"]) fun _ _ _ _ _ _ us hl => match us, hl with | [_, _], _ => rfl
  have W9 := V9.binds (ps := ["rulebook", "struck"]) fun _ _ _ _ _ _ us hl => match us, hl with | [_, _], _ => rfl
  have W10 := V10.binds (ps := ["rulebook", "bars"]) fun _ _ _ _ _ _ us hl => match us, hl with | [_, _], _ => rfl
  have W11 := V11.binds (ps := ["script"]) fun _ _ _ _ _ _ us hl => match us, hl with | [_], _ => rfl
  have W12 := V12.binds (ps := ["bag", "upto"]) fun _ _ _ _ _ _ us hl => match us, hl with | [_, _], _ => rfl
  have W13 := V13.binds (ps := ["bag", "things"]) fun _ _ _ _ _ _ us hl => match us, hl with | [_, _], _ => rfl
  have W14 := V14.binds (ps := ["found", "due"]) fun _ _ _ _ _ _ us hl => match us, hl with | [_, _], _ => rfl
  have W15 := V15.binds (ps := ["bag", "things"]) fun _ _ _ _ _ _ us hl => match us, hl with | [_, _], _ => rfl
  have W16 := V16.binds (ps := ["bag", "many"]) fun _ _ _ _ _ _ us hl => match us, hl with | [_, _], _ => rfl
  have W17 := V17.binds (ps := ["bag"]) fun _ _ _ _ _ _ us hl => match us, hl with | [_], _ => rfl
  have W18 := V18.binds (ps := ["bag", "rows", "names"]) fun _ _ _ _ _ _ us hl => match us, hl with | [_, _, _], _ => rfl
  have W19 := V19.binds (ps := ["bag", "rows", "names"]) fun _ _ _ _ _ _ us hl => match us, hl with | [_, _, _], _ => rfl
  have W20 := V20.binds (ps := ["bag", "kinds", "rows"]) fun _ _ _ _ _ _ us hl => match us, hl with | [_, _, _], _ => rfl
  have W21 := V21.binds (ps := ["bag", "sort", "kinds"]) fun _ _ _ _ _ _ us hl => match us, hl with | [_, _, _], _ => rfl
  have W22 := V22.binds (ps := ["bag", "sort", "rows"]) fun _ _ _ _ _ _ us hl => match us, hl with | [_, _, _], _ => rfl
  have W23 := V23.binds (ps := ["bag", "kinds"]) fun _ _ _ _ _ _ us hl => match us, hl with | [_, _], _ => rfl
  have W24 := V24.binds (ps := ["bag", "kinds"]) fun _ _ _ _ _ _ us hl => match us, hl with | [_, _], _ => rfl
  have W25 := V25.binds (ps := ["rulebook"]) fun _ _ _ _ _ _ us hl => match us, hl with | [_], _ => rfl
  have W26 := V26.binds (ps := ["ground", "keeps", "bearing"]) fun _ _ _ _ _ _ us hl => match us, hl with | [_, _, _], _ => rfl
  have W27 := V27.binds (ps := ["rulebook"]) fun _ _ _ _ _ _ us hl => match us, hl with | [_], _ => rfl
  have W28 := V28.binds (ps := ["ground", "struck"]) fun _ _ _ _ _ _ us hl => match us, hl with | [_, _], _ => rfl
  have W29 := V29.binds (ps := ["rulebook", "struck"]) fun _ _ _ _ _ _ us hl => match us, hl with | [_, _], _ => rfl
  have W30 := V30.binds (ps := ["rows"]) fun _ _ _ _ _ _ us hl => match us, hl with | [_], _ => rfl
  have W31 := V31.binds (ps := ["rulebook", "struck"]) fun _ _ _ _ _ _ us hl => match us, hl with | [_, _], _ => rfl
  have W32 := V32.binds (ps := ["bag", "kinds"]) fun _ _ _ _ _ _ us hl => match us, hl with | [_, _], _ => rfl
  have W33 := V33.binds (ps := ["bag", "rulebook"]) fun _ _ _ _ _ _ us hl => match us, hl with | [_, _], _ => rfl
  have W34 := V34.binds (ps := ["bag", "rulebook", "struck"]) fun _ _ _ _ _ _ us hl => match us, hl with | [_, _, _], _ => rfl
  have W35 := V35.binds (ps := ["bag", "rulebook", "struck"]) fun _ _ _ _ _ _ us hl => match us, hl with | [_, _, _], _ => rfl
  have W36 := V36.binds (ps := ["bag", "rulebook"]) fun _ _ _ _ _ _ us hl => match us, hl with | [_, _], _ => rfl
  have W37 := V37.binds (ps := ["script"]) fun _ _ _ _ _ _ us hl => match us, hl with | [_], _ => rfl
  have wr : WrK K C0 "NoKind" := wrB_ok B2
  have Z : FgQ mg := ⟨_, PySem.W.mg_of X Gm nF, tF, rfl⟩
  let T : List NTab := [(P4, fun _ _ => qJB)]
  refine ⟨PySem.W.fnOf "law" "law" (defArgs sLaw55) (defBody sLaw55) (defScope sLaw55) .none gkV37 gdc37 gpm37 gan37 gcd37 gct37, [(c4, P4)], spLaw T K, fun p hp => ?_, fun p hp => ?_, fun p hp => ?_, fun s u => .of_eq rfl, fun H a ns hn hH hS => ⟨a, ns, rfl, hS, hn, fun p hp => ?_, fun _ => rfl⟩, fun base _ _ hTB => ?_⟩
  · simp only [List.mem_cons, List.mem_nil_iff, or_false] at hp
    rcases hp with rfl
    · exact th4
  · simp only [List.mem_cons, List.mem_nil_iff, or_false] at hp
    rcases hp with rfl
    · exact Option.isNone_iff_eq_none.mp tn4
  · simp only [List.mem_cons, List.mem_nil_iff, or_false] at hp
    rcases hp with rfl
    · exact ch4
  · simp only [T, List.mem_cons, List.mem_nil_iff, or_false] at hp
    rcases hp with rfl
    · exact TabN.nil (hH (c4, P4) (by simp))
  have TT4 : TbOk base mg T c4 P4 qJB := ⟨hTB (c4, P4) (by simp), by simp [T], fun p hp e => by
    simp only [T, List.mem_cons, List.mem_nil_iff, or_false] at hp
    rcases hp with rfl
    · rfl⟩
  have Cko : Ct l.prog w K mg base "kind_of" 1 ["rulebook", "name"] spKindN g0 _ := ⟨ok_kindN V0, PySem.W.mg_of X Gm ga0, gk0, W0⟩
  have Ckn : Ct l.prog w K mg base "kind_names" 1 ["rulebook"] spKindNames g1 _ := ⟨ok_kindNames V1, PySem.W.mg_of X Gm ga1, gk1, W1⟩
  have Cil : Ct l.prog w K mg base "_is_live" 2 ["rulebook", "ground", "bearing"] spIsLive g3 _ := ⟨ok_isLive V3 hall Cko, PySem.W.mg_of X Gm ga3, gk3, W3⟩
  have Cgw : Ct l.prog w K mg base "_grown" 4 ["names", "joins"] (spGrown l.prog w K mg base 3) g2 _ := ⟨ok_grown V2 TC, PySem.W.mg_of X Gm ga2, gk2, W2⟩
  have Cbe : Ct l.prog w K mg base "bearing_kinds" 5 ["rulebook"] (spBear T) g4 _ := ⟨ok_bear V4 rfl TT4 TC hany Cko Cil Ckn Cgw, PySem.W.mg_of X Gm ga4, gk4, W4⟩
  have Cli : Ct l.prog w K mg base "live_indexes" 6 ["rulebook"] (spLiveIx T) g5 _ := ⟨ok_liveIx V5 henumerate Cbe Cil, PySem.W.mg_of X Gm ga5, gk5, W5⟩
  have Cbg : Ct l.prog w K mg base "_law_bag" 1 ["script"] (spBag K) g11 _ := ⟨ok_bag V11 TB, PySem.W.mg_of X Gm ga11, gk11, W11⟩
  have Ctk : Ct l.prog w K mg base "_law_take" 1 ["bag", "upto"] spTake g12 _ := ⟨ok_take V12 TB, PySem.W.mg_of X Gm ga12, gk12, W12⟩
  have Cs2 : Ct l.prog w K mg base "_law_some" 2 ["bag", "things"] spSome2 g13 _ := ⟨ok_some2 V13 TB Ctk, PySem.W.mg_of X Gm ga13, gk13, W13⟩
  have Cmx : Ct l.prog w K mg base "_law_mixed" 2 ["bag", "things"] spMixed g15 _ := ⟨ok_mixed V15 TB Ctk, PySem.W.mg_of X Gm ga15, gk15, W15⟩
  have Cnm : Ct l.prog w K mg base "_law_named" 3 ["bag", "many"] spNamed g16 _ := ⟨ok_named V16 TC Cmx, PySem.W.mg_of X Gm ga16, gk16, W16⟩
  have Cnb : Ct l.prog w K mg base "_law_numbers" 3 ["bag"] spNumbers g17 _ := ⟨ok_numbers V17 Cs2 Ctk, PySem.W.mg_of X Gm ga17, gk17, W17⟩
  have Cnd : Ct l.prog w K mg base "_law_need" 4 ["bag", "rows", "names"] spNeed g18 _ := ⟨ok_need V18 Cnb Cs2 Ctk, PySem.W.mg_of X Gm ga18, gk18, W18⟩
  have Cgr : Ct l.prog w K mg base "_law_ground" 5 ["bag", "rows", "names"] spGround g19 _ := ⟨ok_ground V19 TC Cnd Cs2, PySem.W.mg_of X Gm ga19, gk19, W19⟩
  have Can : Ct l.prog w K mg base "_law_any_rulebook" 6 ["bag", "kinds", "rows"] spAny g20 _ := ⟨ok_any V20 TC Cnm Cgr Cs2 Ctk, PySem.W.mg_of X Gm ga20, gk20, W20⟩
  have Cmo : Ct l.prog w K mg base "_law_more_needs" 3 ["bag", "sort", "rows"] spMore g22 _ := ⟨ok_more V22 Cs2 Ctk, PySem.W.mg_of X Gm ga22, gk22, W22⟩
  have Cpl : Ct l.prog w K mg base "_law_planted" 6 ["bag", "sort", "kinds"] spPl g21 _ := ⟨ok_pl V21 TC Cnm Cgr Cmo Cs2 Ctk, PySem.W.mg_of X Gm ga21, gk21, W21⟩
  have Cth : Ct l.prog w K mg base "_law_threaded" 6 ["bag", "kinds"] spTh g23 _ := ⟨ok_th V23 TC Cnm Cmx Cs2 Ctk, PySem.W.mg_of X Gm ga23, gk23, W23⟩
  have Crb : Ct l.prog w K mg base "_law_rulebook" 7 ["bag", "kinds"] spRbS g24 _ := ⟨ok_rbS V24 TC Cmx Cs2 Ctk Can Cpl Cth, PySem.W.mg_of X Gm ga24, gk24, W24⟩
  have Ent : Ct l.prog w K mg base "needs_threaded" 1 ["struck", "ground"] spNt g6 _ := ⟨ok_Nt V6, PySem.W.mg_of X Gm ga6, gk6, W6⟩
  have Eth : Ct l.prog w K mg base "is_threaded" 2 ["rulebook", "struck"] spIth g7 _ := ⟨ok_Ith V7 TB hall Ent, PySem.W.mg_of X Gm ga7, gk7, W7⟩
  have Elt : Ct l.prog w K mg base "_live_threads" 7 ["rulebook", "struck"] (spLt T) g8 _ := ⟨ok_Lt V8 Cli Cko Ent, PySem.W.mg_of X Gm ga8, gk8, W8⟩
  have Ewt : Ct l.prog w K mg base "is_well_timed" 8 ["rulebook", "struck"] (spWt T) g9 _ := ⟨ok_Wt V9 hall Z Eth Ent Elt Cko, PySem.W.mg_of X Gm ga9, gk9, W9⟩
  have Ewb : Ct l.prog w K mg base "with_bars" 1 ["rulebook", "bars"] spWb g10 _ := ⟨ok_Wb V10 TC hzip, PySem.W.mg_of X Gm ga10, gk10, W10⟩
  have Eld : Ct l.prog w K mg base "_law_led_needs" 1 ["ground", "struck"] spLed g28 _ := ⟨ok_Led V28, PySem.W.mg_of X Gm ga28, gk28, W28⟩
  have Efl : Ct l.prog w K mg base "_law_flat" 1 ["rows"] spFl g30 _ := ⟨ok_Fl V30, PySem.W.mg_of X Gm ga30, gk30, W30⟩
  have Elh : Ct l.prog w K mg base "_law_is_threaded" 2 ["rulebook", "struck"] spIth g29 _ := ⟨ok_Lth V29 TB hlist Efl Eld, PySem.W.mg_of X Gm ga29, gk29, W29⟩
  have Eil : Ct l.prog w K mg base "_law_is_live" 1 ["ground", "keeps", "bearing"] spLil g26 _ := ⟨ok_Lil V26, PySem.W.mg_of X Gm ga26, gk26, W26⟩
  have Ebe : Ct l.prog w K mg base "_law_bearing" 2 ["rulebook"] spLbe g25 _ := ⟨ok_Lbe V25 TC Eil, PySem.W.mg_of X Gm ga25, gk25, W25⟩
  have Elv : Ct l.prog w K mg base "_law_live" 3 ["rulebook"] spLlv5 g27 _ := ⟨ok_Llv5 V27 TC Eil Ebe, PySem.W.mg_of X Gm ga27, gk27, W27⟩
  have Elm : Ct l.prog w K mg base "_law_is_timed" 4 ["rulebook", "struck"] spLtm g31 _ := ⟨ok_Ltm V31 TC hlist Elh Eld Efl Elv, PySem.W.mg_of X Gm ga31, gk31, W31⟩
  have Emg : Ct l.prog w K mg base "_law_more_grounds" 3 ["bag", "rulebook", "struck"] spMgr g34 _ := ⟨ok_Mgr V34 TC hlist Cs2 Ctk Efl, PySem.W.mg_of X Gm ga34, gk34, W34⟩
  have Ebn : Ct l.prog w K mg base "_law_bent_rulebook" 3 ["bag", "rulebook"] spBnt g33 _ := ⟨ok_Bnt V33 TC hlist Cs2 Ctk, PySem.W.mg_of X Gm ga33, gk33, W33⟩
  have Ewd : Ct l.prog w K mg base "_law_with_dead" 3 ["bag", "rulebook"] spBnt g36 _ := ⟨ok_Wd V36 TC Cs2 Ctk, PySem.W.mg_of X Gm ga36, gk36, W36⟩
  have Etm : Ct l.prog w K mg base "_law_timed" 7 ["bag", "kinds"] spTmd g32 _ := ⟨ok_Tmd V32 TC Cs2 Cth Emg Elm, PySem.W.mg_of X Gm ga32, gk32, W32⟩
  have Eal : GnG false l.prog w K mg base "_law_alike" 1 ["found", "due"] (spAlikeD K) g14 _ := ⟨ok_alikeD V14 TB wr, PySem.W.mg_of X Gm ga14, gk14, W14⟩
  have Ert : GnG true l.prog w K mg base "_law_right" 9 ["bag", "rulebook", "struck"] (spRt5 T) g35 _ := ⟨ok_Rt5 V35 TC hzip Ctk Elh Elm Ewb Eth Ewt Eal, PySem.W.mg_of X Gm ga35, gk35, W35⟩
  exact ok_law55 V37 TC wr Cbg Ctk Etm Crb Ebn Ewd Ert
end
end KaG
open PySem PySem.W PyProof.Rows
set_option maxRecDepth 100000 in
set_option maxHeartbeats 0 in
theorem PySem.Challenge.cw_goneyet_k55_threaded_and_well_timed_holds : PySem.Challenge.rw_goneyet_k55_threaded_and_well_timed.Holds := by
  w_on; o_law; k_head; (case hw => w_witness2)
  k_fill
  refine KaG.walk_GT (l := PySem.Challenge.rw_goneyet_k55_threaded_and_well_timed) (n := 63) (k := 10) (x := "script") rfl (by decide) rfl ⟨rfl, by decide, by decide⟩ (fun w h Y => PySem.W.km_in_of Y) ?F
  case F =>
    intro w mg fa h Y KX G hmg
    refine' KaG.all_mk KX G hmg ?babs ?blen ?bint ?brepr ?bisinstance ?brange ?blist ?bValueError ?btuple ?bsorted ?bset ?bdict ?benumerate ?bany ?ball ?bmin ?bmax ?bbool ?bstr ?bzip ?bsum ?breversed ?a0 ?ga0 ?gl0 ?gc0 ?gk0 ?ga1 ?gl1 ?gc1 ?gk1 ?ga2 ?gl2 ?gc2 ?gk2 ?ga3 ?gl3 ?gc3 ?gk3 ?ga4 ?gl4 ?gc4 ?gk4 ?ga5 ?gl5 ?gc5 ?gk5 ?ga6 ?gl6 ?gc6 ?gk6 ?ga7 ?gl7 ?gc7 ?gk7 ?ga8 ?gl8 ?gc8 ?gk8 ?ga9 ?gl9 ?gc9 ?gk9 ?ga10 ?gl10 ?gc10 ?gk10 ?ga11 ?gl11 ?gc11 ?gk11 ?ga12 ?gl12 ?gc12 ?gk12 ?ga13 ?gl13 ?gc13 ?gk13 ?ga14 ?gl14 ?gc14 ?gk14 ?ga15 ?gl15 ?gc15 ?gk15 ?ga16 ?gl16 ?gc16 ?gk16 ?ga17 ?gl17 ?gc17 ?gk17 ?ga18 ?gl18 ?gc18 ?gk18 ?ga19 ?gl19 ?gc19 ?gk19 ?ga20 ?gl20 ?gc20 ?gk20 ?ga21 ?gl21 ?gc21 ?gk21 ?ga22 ?gl22 ?gc22 ?gk22 ?ga23 ?gl23 ?gc23 ?gk23 ?ga24 ?gl24 ?gc24 ?gk24 ?ga25 ?gl25 ?gc25 ?gk25 ?ga26 ?gl26 ?gc26 ?gk26 ?ga27 ?gl27 ?gc27 ?gk27 ?ga28 ?gl28 ?gc28 ?gk28 ?ga29 ?gl29 ?gc29 ?gk29 ?ga30 ?gl30 ?gc30 ?gk30 ?ga31 ?gl31 ?gc31 ?gk31 ?ga32 ?gl32 ?gc32 ?gk32 ?ga33 ?gl33 ?gc33 ?gk33 ?ga34 ?gl34 ?gc34 ?gk34 ?ga35 ?gl35 ?gc35 ?gk35 ?ga36 ?gl36 ?gc36 ?gk36 ?ga37 ?gl37 ?gc37 ?gk37 ?tt4 ?th4 ?tc4 ?tn4 ?nF ?B2
    (case babs => k_is)
    (case blen => k_is)
    (case bint => k_is)
    (case brepr => k_is)
    (case bisinstance => k_is)
    (case brange => k_is)
    (case blist => k_is)
    (case bValueError => k_is)
    (case btuple => k_is)
    (case bsorted => k_is)
    (case bset => k_is)
    (case bdict => k_is)
    (case benumerate => k_is)
    (case bany => k_is)
    (case ball => k_is)
    (case bmin => k_is)
    (case bmax => k_is)
    (case bbool => k_is)
    (case bstr => k_is)
    (case bzip => k_is)
    (case bsum => k_is)
    (case breversed => k_is)
    (case a0 => k_is)
    (case ga0 => k_is)
    (case gl0 => k_is)
    (case gc0 => k_is)
    (case gk0 => k_is)
    (case ga1 => k_is)
    (case gl1 => k_is)
    (case gc1 => k_is)
    (case gk1 => k_is)
    (case ga2 => k_is)
    (case gl2 => k_is)
    (case gc2 => k_is)
    (case gk2 => k_is)
    (case ga3 => k_is)
    (case gl3 => k_is)
    (case gc3 => k_is)
    (case gk3 => k_is)
    (case ga4 => k_is)
    (case gl4 => k_is)
    (case gc4 => k_is)
    (case gk4 => k_is)
    (case ga5 => k_is)
    (case gl5 => k_is)
    (case gc5 => k_is)
    (case gk5 => k_is)
    (case ga6 => k_is)
    (case gl6 => k_is)
    (case gc6 => k_is)
    (case gk6 => k_is)
    (case ga7 => k_is)
    (case gl7 => k_is)
    (case gc7 => k_is)
    (case gk7 => k_is)
    (case ga8 => k_is)
    (case gl8 => k_is)
    (case gc8 => k_is)
    (case gk8 => k_is)
    (case ga9 => k_is)
    (case gl9 => k_is)
    (case gc9 => k_is)
    (case gk9 => k_is)
    (case ga10 => k_is)
    (case gl10 => k_is)
    (case gc10 => k_is)
    (case gk10 => k_is)
    (case ga11 => k_is)
    (case gl11 => k_is)
    (case gc11 => k_is)
    (case gk11 => k_is)
    (case ga12 => k_is)
    (case gl12 => k_is)
    (case gc12 => k_is)
    (case gk12 => k_is)
    (case ga13 => k_is)
    (case gl13 => k_is)
    (case gc13 => k_is)
    (case gk13 => k_is)
    (case ga14 => k_is)
    (case gl14 => k_is)
    (case gc14 => k_is)
    (case gk14 => k_is)
    (case ga15 => k_is)
    (case gl15 => k_is)
    (case gc15 => k_is)
    (case gk15 => k_is)
    (case ga16 => k_is)
    (case gl16 => k_is)
    (case gc16 => k_is)
    (case gk16 => k_is)
    (case ga17 => k_is)
    (case gl17 => k_is)
    (case gc17 => k_is)
    (case gk17 => k_is)
    (case ga18 => k_is)
    (case gl18 => k_is)
    (case gc18 => k_is)
    (case gk18 => k_is)
    (case ga19 => k_is)
    (case gl19 => k_is)
    (case gc19 => k_is)
    (case gk19 => k_is)
    (case ga20 => k_is)
    (case gl20 => k_is)
    (case gc20 => k_is)
    (case gk20 => k_is)
    (case ga21 => k_is)
    (case gl21 => k_is)
    (case gc21 => k_is)
    (case gk21 => k_is)
    (case ga22 => k_is)
    (case gl22 => k_is)
    (case gc22 => k_is)
    (case gk22 => k_is)
    (case ga23 => k_is)
    (case gl23 => k_is)
    (case gc23 => k_is)
    (case gk23 => k_is)
    (case ga24 => k_is)
    (case gl24 => k_is)
    (case gc24 => k_is)
    (case gk24 => k_is)
    (case ga25 => k_is)
    (case gl25 => k_is)
    (case gc25 => k_is)
    (case gk25 => k_is)
    (case ga26 => k_is)
    (case gl26 => k_is)
    (case gc26 => k_is)
    (case gk26 => k_is)
    (case ga27 => k_is)
    (case gl27 => k_is)
    (case gc27 => k_is)
    (case gk27 => k_is)
    (case ga28 => k_is)
    (case gl28 => k_is)
    (case gc28 => k_is)
    (case gk28 => k_is)
    (case ga29 => k_is)
    (case gl29 => k_is)
    (case gc29 => k_is)
    (case gk29 => k_is)
    (case ga30 => k_is)
    (case gl30 => k_is)
    (case gc30 => k_is)
    (case gk30 => k_is)
    (case ga31 => k_is)
    (case gl31 => k_is)
    (case gc31 => k_is)
    (case gk31 => k_is)
    (case ga32 => k_is)
    (case gl32 => k_is)
    (case gc32 => k_is)
    (case gk32 => k_is)
    (case ga33 => k_is)
    (case gl33 => k_is)
    (case gc33 => k_is)
    (case gk33 => k_is)
    (case ga34 => k_is)
    (case gl34 => k_is)
    (case gc34 => k_is)
    (case gk34 => k_is)
    (case ga35 => k_is)
    (case gl35 => k_is)
    (case gc35 => k_is)
    (case gk35 => k_is)
    (case ga36 => k_is)
    (case gl36 => k_is)
    (case gc36 => k_is)
    (case gk36 => k_is)
    (case ga37 => k_is)
    (case gl37 => k_is)
    (case gc37 => k_is)
    (case gk37 => k_is)
    (case tt4 => first | k_is | rfl)
    (case th4 => exact PySem.W.km_tabs_of Y _ (by first | decide | simp))
    (case tc4 => first | kernel_rfl | decide +kernel)
    (case tn4 => first | kernel_rfl | decide +kernel)
    (case nF => k_is)
    (case B2 => first | kernel_rfl | decide +kernel)
