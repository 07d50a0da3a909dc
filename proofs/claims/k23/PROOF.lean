import PyProof.Rows.All
import Wide.All
import OpenK.AllK
import Wide.FinOn
import PyProof.ExcRepr
import PyProof.ReprReads
import KE.KExcStr
import HandS.ForExc
import HandS.ExcInit
import HandS.ForMost
import HandS.Wide
import HandS.Flow
import HandS.More
import PyProof.InstEq
import PyProof.CallFns
import PyProof.ReprRoads
import HandS.DeepEq
import KE.GoesMore
import KE.GoesEnum
import HandS.Nested
import HandS.Words
import HandS.DictComp
import HandS.Strs
import HandS.IsInst
import HandS.Exc
import HandS.ExcField
import HandS.WordsExc
import HandS.RaiseMore
import KE.KeyNested
import HandS.TupSets
import HandS.SetFor
import KE.SortData
import KE.SortCalls
import HandS.TupAny
import KE.DatumOrd
import HandS.WordsDict
import HandS.Lambda
import KE.SortKeyHeap
import HandS.SortKw
import HandS.Style
import HandS.Steps
import HandS.Small
import KE.KDictKeyed
import PyProof.Rows.SeqRoads
import HandS.Conv
import KE.KDictSum
import HandS.ListItems
import KE.GoesZip
import HandS.Zip
import HandS.EndTab
import KE.KNestM
import PySem.Challenge.RW_goneyet_k23_trees_told
set_option Elab.async false
set_option linter.all false
set_option maxRecDepth 100000
set_option maxHeartbeats 2000000
namespace KaX
open PySem PySem.Builtin PySem.Builtin.BaseException
open PySem.W (Looks Frag findIn subIn looks_findIn looks_subIn clsIn)
section
variable {prog : Program} {w : World} {A : Around} {E : Value → Shared → Prop} {s : Shared} {K : Frag} {C e t0 : Addr}
/-- the class's own name, off the written part -/
theorem cdat {M : Model} {nm : Str} {cd : ClassData} (X : K.In s.heap) (hc : clsIn K C = some cd) (hn : cd.name = nm) {Q : String → Shared → Prop} (q : Q nm.toString s) :
    wpAny M A (typeNameWhole (.ref C)) Q E s := by
  unfold clsIn at hc
  split at hc
  · rename_i c' d' cd' sl' ho
    cases hc
    have hl := X _ _ ho
    unfold typeNameWhole classData
    refine wpAny_bind (wpAny_bind (wpAny_load hl ?_))
    subst hn
    exact wpAny_pure (wpAny_pure q)
  · cases hc
theorem tnm {M : Model} {nm : Str} {cd : ClassData} (x : ExcC K C e t0 s.heap) (hc : clsIn K C = some cd) (hn : cd.name = nm) {Q : String → Shared → Prop} (q : Q nm.toString s) :
    wpAny M A (typeNameOfWhole (.ref e)) Q E s := by
  unfold typeNameOfWhole shownTypeOf
  refine wpAny_bind (wpAny_bind (x.LT.here ?_))
  have hne : ((Value.ref C) == Value.type "builtin_function_or_method") = false := rfl
  rw [hne]
  simp only [Bool.false_eq_true, if_false]
  exact wpAny_pure (cdat x.1 hc hn q)
theorem bra {nm : Str} {cd : ClassData} {N T : Str} {u0 : Value} {d0 : Nat} {as : List Addr} {h₀ : Heap} {g : List Code} (b : Nat) (x : ExcC K C e t0 s.heap) (hc : clsIn K C = some cd) (hn : cd.name = nm) (hN : Str.ofString ((nm.toString.cutAt '.').getLastD "") = N)
    (ht : s.heap.TupAt t0 [u0]) (hu0 : ReprK prog w as h₀ d0 u0 T) (hg : A.guards = some g) (hcl : ∀ b ∈ as, Clear g b) (hu : A.units + d0 < cLine) (hk : ∀ b o, h₀.get? b = some o → s.heap.get? b = some o) {Q : Fin → Shared → Prop}
    (hq : ∀ u h' tk, (∀ b o, s.heap.get? b = some o → h'.get? b = some o) → Q (.done (.ret (.str (N ++ Str.ofString "(" ++ T ++ Str.ofString ")") u))) { s with heap := h', toks := tk })
    (hsz : b + (N ++ Str.ofString "(" ++ T ++ Str.ofString ")").length ≤ sizeLine) :
    wpAny (model prog w) A (bexcReprAt b ⟨[.ref e], []⟩) Q E s := by
  have e1 := hsz
  have hsz2 : (N ++ Str.ofString "(" ++ T ++ Str.ofString ")").length ≤ sizeLine := Nat.le_trans (Nat.le_add_left _ b) e1
  have eP : (Str.ofString "(").length = 1 := by rw [ofString_length]; rfl
  rw [strLen_append, strLen_append, strLen_append, eP] at e1
  have hpile : b + (N.length + 1) + T.length ≤ sizeLine := by omega
  unfold bexcReprAt
  refine wpAny_bind (wpAny_of_eq (a := ((Value.ref e : Value), ([] : List Value))) (by first | rfl | (simp only [slotArgs]; rfl)) ?_)
  refine wpAny_bind (tnm x hc hn ?_)
  refine wpAny_bind (bexcArgs_C x ht ?_)
  dsimp only
  rw [hN]
  refine wpAny_bind (wpAny_rule ?_)
  refine wpAny_bind (hu0 _ hpile A g E s _ hg hcl hu hk (fun h' tk' hk' => ?_))
  unfold retStr
  refine wpAny_bind (wpAny_mkStr (wpAny_pure ?_) hsz2)
  exact hq _ _ _ hk'
end
end KaX
set_option maxRecDepth 100000
set_option maxHeartbeats 2000000
namespace KaX
open PySem PySem.Builtin PySem.Builtin.BaseException
open PySem.W (Looks Frag findIn subIn looks_findIn looks_subIn clsIn)
section
variable {prog : Program} {w : World} {A : Around} {E : Value → Shared → Prop} {s : Shared} {K : Frag} {C e t0 : Addr}
theorem twinCall {nm : Str} {cd : ClassData} {N T : Str} {u0 : Value} {d0 : Nat} {as : List Addr} {h₀ : Heap} {g : List Code} (b : Nat) (x : ExcC K C e t0 s.heap) (hc : clsIn K C = some cd) (hn : cd.name = nm) (hN : Str.ofString ((nm.toString.cutAt '.').getLastD "") = N)
    (hB : subIn K (.ref C) (.type "BaseException") = some true)
    (ht : s.heap.TupAt t0 [u0]) (hu0 : ReprK prog w as h₀ d0 u0 T) (hg : A.guards = some g) (hcl : ∀ b ∈ as, Clear g b) (hu : A.units + 1 + d0 < cLine) (hk : ∀ b o, h₀.get? b = some o → s.heap.get? b = some o) {Q : Value → Shared → Prop}
    (hq : ∀ u h' tk, (∀ b o, s.heap.get? b = some o → h'.get? b = some o) → Q (.str (N ++ Str.ofString "(" ++ T ++ Str.ofString ")") u) { s with heap := h', toks := tk })
    (hsz : b + (N ++ Str.ofString "(" ++ T ++ Str.ofString ")").length ≤ sizeLine) :
    wpAny (model prog w) A (call (.builtin "BaseException.__repr__.under") [.ref e, rawInt b]) Q E s := by
  refine wpAny_call (codeAny_call_builtin F.plain_bexc_repr_under F.entry_bexc_repr_under ?_)
  rw [F.check_bexc_repr_under]
  refine wpAny_pure ?_
  unfold «BaseException.__repr__.under»
  rw [reprTwin_eq]
  refine wpAny_bind ?_
  refine PySem.W.check_slot (i := "BaseException.__repr__") (owner := "BaseException") (n := "__repr__") (by decide +kernel) (by decide +kernel) (x.LI hB) (F.args_bexc_repr _) ?_
  exact wpAny_mono (bra b x hc hn hN ht hu0 (by exact hg) hcl (show A.units + 1 + d0 < cLine by omega) hk (fun u h' tk k => hq u h' tk k) hsz) (fun _ _ z => z) fun _ _ z => z
theorem ReprK_exc {nm : Str} {cd : ClassData} {N T : Str} {u0 : Value} {d0 : Nat} {as : List Addr} {h₀ : Heap} (x : ExcC K C e t0 h₀) (hc : clsIn K C = some cd) (hn : cd.name = nm) (hN : Str.ofString ((nm.toString.cutAt '.').getLastD "") = N)
    (hB : subIn K (.ref C) (.type "BaseException") = some true) (hR : findIn K (.ref C) "__repr__" = some (some (.builtin "BaseException.__repr__")))
    (ht : h₀.TupAt t0 [u0]) (hu0 : ReprK prog w as h₀ d0 u0 T) : ReprK prog w as h₀ (d0 + 2) (.ref e) (N ++ Str.ofString "(" ++ T ++ Str.ofString ")") := by
  intro base hb A g E s Q hg hcl hu hk hQ
  have x1 : ExcC K C e t0 s.heap := by
    obtain ⟨X, o, vs, ho, hcc, hd, h0⟩ := x
    exact ⟨X.keeps hk, o, vs, hk _ _ ho, hcc, hd, h0⟩
  have t1 : s.heap.TupAt t0 [u0] := by
    obtain ⟨ot, k, hto, h1, h2⟩ := ht
    exact ⟨ot, k, hk _ _ hto, h1, h2⟩
  have hf : Looks (model prog w) s.heap (typeLookup (.ref C) "__repr__") (some (.builtin "BaseException.__repr__")) := looks_findIn x1.1 hR
  refine wpAny_pyReprUnder_ref (by omega) ?_
  unfold pyReprObjUnder pyReprObjBy
  refine wpAny_bind (wpAny_cRoomFor (by omega) ?_)
  refine wpAny_bind ?_
  unfold specialOf
  refine wpAny_bind (x1.LT.here (hf.here ?_))
  simp only [Option.isNone_some, Bool.false_eq_true, if_false]
  refine wpAny_bind ?_
  simp only [callSpecialIfBoundBy?, bindSpecialIfBound?]
  refine wpAny_holding (wpAny_bind (wpAny_bind ?_))
  unfold specialOf
  refine wpAny_bind (x1.LT.here (hf.here ?_))
  simp only [F.excStr_Exception.repr.bind]
  refine wpAny_bind (wpAny_askSetting (wpAny_ite ?_))
  have fin : wpAny (model prog w) A (call (.builtin "BaseException.__repr__.under") [.ref e, rawInt base]) (fun v s' => ∃ x u, v = .str x u ∧ Q x s') E s :=
    twinCall base x1 hc hn hN hB t1 hu0 hg hcl (by omega) hk (fun u h' tk k => ⟨_, _, rfl, hQ h' tk k⟩) hb
  have htw : reprUnder? (.builtin "BaseException.__repr__") = some (.builtin "BaseException.__repr__.under") := by kernel_rfl
  have fin2 : wpAny (model prog w) A (do
            let r ← call (.builtin "BaseException.__repr__.under") [.ref e, rawInt base]
            pure (some r)) (fun a s' => wpAny (model prog w) A (match a with
              | some r => do
                let c ← isInstance r (Value.type "str")
                if c = true then pure r
                  else do
                    let n ← typeNameOf r
                    raiseErrorMade "TypeError" (toString "__repr__ returned non-string (type " ++ toString n ++ toString ")")
              | none => unsupported "repr:special-get-raises") (fun v s' => ∃ x u, v = .str x u ∧ Q x s') E s') E s := by
    refine wpAny_bind (wpAny_mono fin (fun v s' hv => ?_) fun _ _ z => z)
    obtain ⟨y, u, rfl, hq⟩ := hv
    refine wpAny_pure ?_
    exact wpAny_bind (wpAny_isInstance (T := "str") (b := true) rfl isSubtype_str_str (wpAny_pure ⟨_, _, rfl, hq⟩))
  split
  · refine wpAny_bind (wpAny_pure (wpAny_pure ?_))
    simp only [htw]
    exact fin2
  · refine wpAny_tryCatch (wpAny_bind (wpAny_pure (wpAny_pure ?_)))
    simp only [htw]
    exact fin2
end
end KaX
set_option maxRecDepth 100000
set_option maxHeartbeats 2000000
namespace KaG
open PySem PySem.Spec PyProof.Rows L2
structure GR (k : Nat) (A : Around) : Prop where
  gd : A.guards = some []
  dp : A.depth + 3 * k + 5 < recursionLimit
  un : A.units + 16 * k + 200 < cLine
theorem GR.low {j k : Nat} {A : Around} (r : GR k A) (h : j ≤ k) : GR j A := ⟨r.gd, by have := r.dp; omega, by have := r.un; omega⟩
theorem GR.into {k : Nat} {A : Around} (r : GR (k + 1) A) (env : Env) (h : (A.deeper env).guards = A.guards := by rfl) : GR k (A.deeper env) :=
  ⟨by rw [h]; exact r.gd, by have := r.dp; show A.depth + 1 + 3 * k + 5 < _; omega, by have := r.un; show A.units + 3 + 16 * k + 200 < _; omega⟩
theorem GR.room {k : Nat} {A : Around} (r : GR k A) (h : A.handled = none) : Room k A := ⟨h, r.dp, r.un⟩
/-- the promise: c tells whether nothing is handled around -/
structure FnG (c : Bool) (P : Program) (w : World) (K : PySem.W.Frag) (mg : Str → Option Value) (base : Heap) (CX : CXT) (k : Nat) (f : Addr) (fd : FuncData) (ps : List Str) (sp : Sp) : Prop where
  len : ∀ vs H Q E, sp vs H Q E → vs.length = ps.length
  run : ∀ (A : Around) (outer : List Env) (s : Shared) (H : Hp) (args : Args) (us : List Value) (vs : List V) (Q : VK) (E : XK), GR k A → (c = true → A.handled = none) → Env0 P w K mg base A outer s H →
    BindsTo s fd args (ps.zip us) → Vals vs us → sp vs H Q E → codeAny (model P w) A (.call (.ref f) args) (CR CX outer P w H s Q E) s
/-- the same context under another look at what runs around -/
def recx (X : Cx) (A : Around) (c : Bool) : Cx := { X with A := A, calm := c }
theorem inv_re {X : Cx} {pins : List (Addr × Obj)} {σ : L2.St} {H : Hp} {s : Shared} (I : Inv X pins σ H s) (A : Around) (c : Bool) (hf : A.frames = some X.stack) (hc : c = true → A.handled = none) : Inv (recx X A c) pins σ H s :=
  let o := I.ok
  ⟨⟨o.mod, o.kind, o.glob, o.blt, o.above, o.inj, o.has, o.cab, hc, hf, o.stk, o.exf, o.bs, o.bsz, o.noex, o.exfs, o.funs, o.frf⟩, I.os, I.bare, I.base, I.loc, I.cell, I.free, I.freeC, I.pin, I.hok, I.len⟩
/-- the context of such a def's body -/
def cxG (c : Bool) (CX : CXT) (P : Program) (w : World) (K : PySem.W.Frag) (mg : Str → Option Value) (base : Heap) (N : List Str) (qual : Str) (scope : Scope) (f : Addr) (cd : Value) (A : Around) (outer : List Env) (s : Shared) (H : Hp) (E : XK) : Cx :=
  { cxOf CX P w K mg base N qual scope f cd A outer s H E with calm := c }
theorem fnG_of {c : Bool} {CX : CXT} {P : Program} {w : World} {K : PySem.W.Frag} {mg : Str → Option Value} {base : Heap} {k : Nat} {x qual : Str} {st : Stmt} {f : Addr} {fd : FuncData} {N ps : List Str} {sp : Sp} (F : Fun K x qual st f fd) (S : FnScope N ps (defScope st))
    (len : ∀ vs H Q E, sp vs H Q E → vs.length = ps.length)
    (hbody : ∀ (cdv : Value) (A : Around) (outer : List Env) (s : Shared) (H : Hp) (vs : List V) (Q : VK) (E : XK), GR k (A.deeper (envOfC qual (defScope st) s.heap.objs.size f cdv)) → (c = true → A.handled = none) → sp vs H Q E →
      ∃ t, PSs (cxG c CX P w K mg base N qual (defScope st) f cdv A outer s H E) (defBody st) t ∧ t { nx := fun _ H' => Q .non H', rt := Q } (start N vs) H) :
    FnG c P w K mg base CX (k + 1) f fd ps sp := by
  obtain ⟨oc, od, kV, doc, pm, an, cdv, ct, osl, rfl, lk, hcd⟩ := F.ex
  refine ⟨len, fun A outer s H args us vs Q E hr hcm e0 hb r hsp => ?_⟩
  have hl := len _ _ _ _ hsp
  have KX : K.In s.heap := e0.mod.kin.keeps fun b o e => (e0.bs b o e).1
  have lim : s.heap.NoLimit := e0.mod.nolimit.keeps fun b o e => (e0.bs b o e).1
  have hkind : ∀ y ∈ ps.zip us, (defScope st).names.lookup y.1 = some .local ∨ ((defScope st).names.lookup y.1 = some .cell ∧ ((cellsFrom (s.heap.objs.size + 1) (defScope st).names []).lookup y.1).isSome = true) := by
    rintro ⟨n, v⟩ hy
    rcases S.par n (List.of_mem_zip hy).1 with q | q
    · exact Or.inl q
    · exact Or.inr ⟨q, PySem.W.cellsFrom_some _ _ _ (.inl q)⟩
  refine codeAny_call_function (by have := hr.dp; omega) (KX _ _ lk) rfl S.co S.gen rfl (PySem.W.codeRec_of KX hcd) (hb _ _ _ _ ?_)
  refine wpAny_newFunctionEnv_cells S.kind hkind fun env he s1 y => ?_
  subst he
  refine ⟨lim.keeps y.toInCall.keep, codeAny_func ?_⟩
  obtain ⟨t, ht, hq⟩ := hbody cdv A outer s H vs Q E (hr.into _) hcm hsp
  have I0 : Inv (cxOf CX P w K mg base N qual (defScope st) f cdv ({ A with handled := none }) outer s H E) [] (start N vs) H s1 :=
    inv_start S rfl ⟨e0.frames, e0.mod, e0.bs, e0.bsz, e0.funs, e0.frf, e0.hok, e0.bare⟩ hl r y
  have I : Inv (cxG c CX P w K mg base N qual (defScope st) f cdv A outer s H E) [] (start N vs) H s1 := by
    have J := inv_re I0 (A.deeper (envOfC qual (defScope st) s.heap.objs.size f cdv)) c (Around.frames_deeper e0.frames) (fun z => hcm z)
    exact ⟨⟨J.ok.mod, J.ok.kind, J.ok.glob, J.ok.blt, J.ok.above, J.ok.inj, J.ok.has, J.ok.cab, J.ok.hd, J.ok.frames, J.ok.stk, J.ok.exf, J.ok.bs, J.ok.bsz, J.ok.noex, J.ok.exfs, J.ok.funs, J.ok.frf⟩, J.os, J.bare, J.base, J.loc, J.cell, J.free, J.freeC, J.pin, J.hok, J.len⟩
  refine wpAny_mono (ht.run [] s1 (start N vs) H _ I hq) (fun fl s' hs => ?_) fun e s' hs => hs
  have fin : ∀ {σ' : L2.St} {H' : Hp} {v : V} {u : Value}, Inv (cxG c CX P w K mg base N qual (defScope st) f cdv A outer s H E) [] σ' H' s' → RelV v u → Q v H' → CE outer P w H s Q u s' := by
    intro σ' H' v u J rv q
    exact ⟨v, H', J.os, J.bare, J.base, J.hok, rv, q⟩
  cases fl with
  | ret u => obtain ⟨v, σ', H', J, rv, q⟩ := hs; exact fin J rv q
  | next => obtain ⟨σ', H', J, q⟩ := hs; exact fin (v := V.non) (u := Value.none) J rfl q
  | brk => obtain ⟨_, _, _, q⟩ := hs; exact q.elim
  | cont => obtain ⟨_, _, _, q⟩ := hs; exact q.elim
end KaG
set_option maxRecDepth 100000
set_option maxHeartbeats 2000000
namespace KaG
open PySem PySem.Spec PyProof.Rows L2
/-- an exception at a, of the class at C, its own dict (none as yet | at d), its arguments at t1 -/
def exw (a C : Addr) (d : Option Addr) (t1 : Addr) : HO := .ext fun h => h.get? a = some ({ cls := .ref C, dict := d, data := .fields #[.ref t1, .none, .none, .none, .bool false, .none] } : Obj)
theorem exw_at {P : Program} {w : World} {H : Hp} {h : Heap} {a C t1 : Addr} {d : Option Addr} (hok : HOk P w H h) (e : H a = some (exw a C d t1)) : h.get? a = some ({ cls := .ref C, dict := d, data := .fields #[.ref t1, .none, .none, .none, .bool false, .none] } : Obj) := by
  have x : ObjOk P w H h a (.ext fun h => h.get? a = some ({ cls := .ref C, dict := d, data := .fields #[.ref t1, .none, .none, .none, .bool false, .none] } : Obj)) := hok a _ e
  exact x.1
mutual
inductive Sh (H : Hp) (CW : Addr) (NW : Str) : List Addr → Nat → V → Str → Prop
  | non {as d} : Sh H CW NW as d .non "None"
  | bl {as d} (b : Bool) : Sh H CW NW as d (.bl b) (if b then "True" else "False")
  | int {as d} (i : Int) (h : i.natAbs.log2 < 1920) : Sh H CW NW as d (.int i) (toString i : String)
  | str {as d} (x : Str) : Sh H CW NW as d (.str x) (reprText x)
  | lst {as as' d a xs ts} (e : H a = some (.lst xs)) (ha : a ∈ as') (hs : ∀ b ∈ as, b ∈ as') (hn : a ∉ as) (hi : ShA H CW NW as d xs ts) : Sh H CW NW as' (d + 1) (.ref a) (listText ts)
  | tup {as as' d a xs ts} (e : H a = some (.tup xs)) (ha : a ∈ as') (hs : ∀ b ∈ as, b ∈ as') (hn : a ∉ as) (hi : ShA H CW NW as d xs ts) : Sh H CW NW as' (d + 1) (.ref a) (tupleText ts)
  | dct {as as' d a kvs ps} (e : H a = some (.dK kvs)) (ha : a ∈ as') (hs : ∀ b ∈ as, b ∈ as') (hn : a ∉ as) (hi : ShD H CW NW as d kvs ps) : Sh H CW NW as' (d + 1) (.ref a) (dictText ps)
  | exc {as as' d a dd t1 v t} (e : H a = some (exw a CW dd t1)) (et : H t1 = some (.tup [v])) (ha : a ∈ as') (ht : t1 ∈ as') (hd : ∀ b, dd = some b → b ∈ as' ∧ ∃ fs, H b = some (exd b fs)) (hs : ∀ b ∈ as, b ∈ as') (hi : Sh H CW NW as d v t) : Sh H CW NW as' (d + 2) (.ref a) (NW ++ Str.ofString "(" ++ t ++ Str.ofString ")")
inductive ShA (H : Hp) (CW : Addr) (NW : Str) : List Addr → Nat → List V → List Str → Prop
  | nil {as d} : ShA H CW NW as d [] []
  | cons {as d v t vs ts} (h : Sh H CW NW as d v t) (r : ShA H CW NW as d vs ts) : ShA H CW NW as d (v :: vs) (t :: ts)
inductive ShD (H : Hp) (CW : Addr) (NW : Str) : List Addr → Nat → List (Key × V) → List Str → Prop
  | nil {as d} : ShD H CW NW as d [] []
  | cons {as d x v t kvs ps} (h : Sh H CW NW as d v t) (r : ShD H CW NW as d kvs ps) : ShD H CW NW as d ((Sum.inr x, v) :: kvs) ((reprText x ++ ": " ++ t) :: ps)
end
/-- what the written part says of the class of such exceptions -/
structure WrK (K : PySem.W.Frag) (CW : Addr) (NW : Str) : Prop where
  cl : ∃ cd : ClassData, PySem.W.clsIn K CW = some cd ∧ Str.ofString ((cd.name.toString.cutAt '.').getLastD "") = NW
  ex : PySem.W.subIn K (.ref CW) (.type "BaseException") = some true
  rp : PySem.W.findIn K (.ref CW) "__repr__" = some (some (.builtin "BaseException.__repr__"))
  eq : PySem.W.findIn K (.ref CW) "__eq__" = some (some (.builtin "object.__eq__"))
  ob : PySem.W.subIn K (.ref CW) (.type "object") = some true
section
variable {P : Program} {w : World} {K : PySem.W.Frag} {H : Hp} {CW : Addr} {NW : Str} {h : Heap}
theorem ReprK.str' {as : List Addr} {d : Nat} (x : Str) (t : Tok) : ReprK P w as h d (.str x t) (reprText x) := by
  intro base hb
  exact (ReprK.of_is (ReprIs.str x t (Nat.le_trans (Nat.le_add_left _ base) hb)) as h d) base hb
mutual
theorem Sh.run (T : WrK K CW NW) (X : K.In h) (hok : HOk P w H h) : ∀ {as : List Addr} {d : Nat} {v : V} {t : Str}, Sh H CW NW as d v t → ∀ u, RelV v u → ReprK P w as h d u t
  | _, _, _, _, .non, u, r => by cases (show u = Value.none from r); exact ReprK.of_is ReprIs.none _ _ _
  | _, _, _, _, .bl b, u, r => by cases (show u = Value.bool b from r); exact ReprK.of_is (ReprIs.bool b) _ _ _
  | _, _, _, _, .int i hi, u, r => by
    obtain ⟨tk, q⟩ := (show ∃ t, u = Value.int i t from r)
    cases q
    exact ReprK.of_is (ReprIs.int tk hi) _ _ _
  | _, _, _, _, .str x, u, r => by
    obtain ⟨tk, q⟩ := (show ∃ t, u = Value.str x t from r)
    cases q
    exact ReprK.str' x tk
  | _, _, _, _, .lst (as := as0) (a := a) (xs := xs) e ha hs hn hi, u, r => by
    cases (show u = Value.ref a from r)
    obtain ⟨_, its, n, rv, ho⟩ := (show ObjOk P w H h a (.lst xs) from hok a _ e)
    have hA := ShA.run T X hok hi its rv
    refine ReprK.more (as := a :: as0) ?_ (fun b hb => ?_)
    · cases its with
      | nil =>
        cases hA
        rw [listText_nil]
        exact (ReprK.listEmpty ho rfl rfl).level_le (Nat.le_succ _)
      | cons x l => exact ReprK.list ho rfl rfl hn (by simpa using hA.length_eq) (fun i y q => hA.item i y (by simpa using q))
    · rcases List.mem_cons.mp hb with z | z
      · rw [z]; exact ha
      · exact hs b z
  | _, _, _, _, .tup (as := as0) (a := a) (xs := xs) e ha hs hn hi, u, r => by
    cases (show u = Value.ref a from r)
    obtain ⟨_, its, rv, o, ho, hc, n, hd⟩ := (show ObjOk P w H h a (.tup xs) from hok a _ e)
    have hA := ShA.run T X hok hi its rv
    refine ReprK.more (as := a :: as0) (ReprK.tuple ho hc hd hn (by simpa using hA)) (fun b hb => ?_)
    rcases List.mem_cons.mp hb with z | z
    · rw [z]; exact ha
    · exact hs b z
  | _, _, _, _, .dct (as := as0) (a := a) (kvs := kvs) e ha hs hn hi, u, r => by
    cases (show u = Value.ref a from r)
    obtain ⟨_, hsys, vs, kv, o, es, ep, ho, hx, hd, _, hp, _⟩ := (show ObjOk P w H h a (.dK kvs) from hok a _ e)
    have hE := ShD.run T X hok hi vs kv es.toList hp
    refine ReprK.more (as := a :: as0) (ReprK.dict ho hx.1 hd hsys hn hE) (fun b hb => ?_)
    rcases List.mem_cons.mp hb with z | z
    · rw [z]; exact ha
    · exact hs b z
  | _, _, _, _, .exc (a := a) (t1 := t1) (v := v) e et ha ht _ hs hi, u, r => by
    cases (show u = Value.ref a from r)
    have ho := exw_at hok e
    obtain ⟨_, its, rv, o, hto, hc, n, hd⟩ := (show ObjOk P w H h t1 (.tup [v]) from hok t1 _ et)
    cases rv with
    | cons r1 r2 =>
      cases r2
      obtain ⟨cd, hcd, hN⟩ := T.cl
      have x : ExcC K CW a t1 h := ⟨X, _, _, ho, rfl, rfl, rfl⟩
      exact KaX.ReprK_exc x hcd rfl hN T.ex T.rp ⟨o, n, hto, hc, hd⟩ ((Sh.run T X hok hi _ r1).more hs)
theorem ShA.run (T : WrK K CW NW) (X : K.In h) (hok : HOk P w H h) : ∀ {as : List Addr} {d : Nat} {vs : List V} {ts : List Str}, ShA H CW NW as d vs ts → ∀ us, Vals vs us → ReprAllK P w as h d us ts
  | _, _, _, _, .nil, us, r => by cases r; exact .nil
  | _, _, _, _, .cons h1 h2, us, r => by
    cases r with
    | cons r1 r2 => exact .cons (Sh.run T X hok h1 _ r1) (ShA.run T X hok h2 _ r2)
theorem ShD.run (T : WrK K CW NW) (X : K.In h) (hok : HOk P w H h) : ∀ {as : List Addr} {d : Nat} {kvs : List (Key × V)} {ps : List Str}, ShD H CW NW as d kvs ps → ∀ vs, KV kvs vs → ∀ es, Pairs (mixKind P w) es vs → ReprEntriesK P w as h d es ps
  | _, _, _, _, .nil, vs, r, es, hp => by
    cases r
    cases hp
    exact .nil
  | _, _, _, _, .cons (x := x) h1 h2, vs, r, es, hp => by
    cases r with
    | cons r1 r2 =>
      rename_i q1 q2
      cases hp with
      | cons hk hv hp2 =>
        obtain ⟨e1, rv⟩ := r1
        have e1' : Sum.inr x = q1.1 := e1
        rw [← e1', mixKind_is] at hk
        rcases keyIs_shape hk with ⟨i, tk, z, _⟩ | ⟨y, tk, z, ek⟩
        · cases z
        · cases z
          refine .cons ?_ (Sh.run T X hok h1 _ (by rw [hv]; exact rv)) (ShD.run T X hok h2 _ r2 _ hp2)
          rw [ek]
          exact ReprK.str' x tk
end
end
end KaG
set_option maxRecDepth 100000
set_option maxHeartbeats 2000000
namespace KaG
open PySem PySem.Spec PyProof.Rows L2
section
variable {H H' : Hp} {CW : Addr} {NW : Str}
mutual
theorem Sh.wide : ∀ {as bs : List Addr} {d e : Nat} {v : V} {t : Str}, Sh H CW NW as d v t → (∀ b ∈ as, b ∈ bs) → d ≤ e → Sh H CW NW bs e v t
  | _, _, _, _, _, _, .non, _, _ => .non
  | _, _, _, _, _, _, .bl b, _, _ => .bl b
  | _, _, _, _, _, _, .int i h, _, _ => .int i h
  | _, _, _, _, _, _, .str x, _, _ => .str x
  | _, _, _, e + 1, _, _, .lst x1 x2 x3 x4 x5, k, hd => .lst x1 (k _ x2) (fun b z => k b (x3 b z)) x4 (ShA.wide x5 (fun _ z => z) (Nat.le_of_succ_le_succ hd))
  | _, _, _, e + 1, _, _, .tup x1 x2 x3 x4 x5, k, hd => .tup x1 (k _ x2) (fun b z => k b (x3 b z)) x4 (ShA.wide x5 (fun _ z => z) (Nat.le_of_succ_le_succ hd))
  | _, _, _, e + 1, _, _, .dct x1 x2 x3 x4 x5, k, hd => .dct x1 (k _ x2) (fun b z => k b (x3 b z)) x4 (ShD.wide x5 (fun _ z => z) (Nat.le_of_succ_le_succ hd))
  | _, _, _, e + 2, _, _, .exc x1 x2 x3 x4 x7 x5 x6, k, hd => .exc x1 x2 (k _ x3) (k _ x4) (fun b z => ⟨k _ (x7 b z).1, (x7 b z).2⟩) (fun b z => k b (x5 b z)) (Sh.wide x6 (fun _ z => z) (Nat.le_of_succ_le_succ (Nat.le_of_succ_le_succ hd)))
theorem ShA.wide : ∀ {as bs : List Addr} {d e : Nat} {vs : List V} {ts : List Str}, ShA H CW NW as d vs ts → (∀ b ∈ as, b ∈ bs) → d ≤ e → ShA H CW NW bs e vs ts
  | _, _, _, _, _, _, .nil, _, _ => .nil
  | _, _, _, _, _, _, .cons h r, k, hd => .cons (Sh.wide h k hd) (ShA.wide r k hd)
theorem ShD.wide : ∀ {as bs : List Addr} {d e : Nat} {vs : List (Key × V)} {ts : List Str}, ShD H CW NW as d vs ts → (∀ b ∈ as, b ∈ bs) → d ≤ e → ShD H CW NW bs e vs ts
  | _, _, _, _, _, _, .nil, _, _ => .nil
  | _, _, _, _, _, _, .cons h r, k, hd => .cons (Sh.wide h k hd) (ShD.wide r k hd)
end
mutual
theorem Sh.fr : ∀ {as : List Addr} {d : Nat} {v : V} {t : Str}, Sh H CW NW as d v t → (∀ b ∈ as, H' b = H b) → Sh H' CW NW as d v t
  | _, _, _, _, .non, _ => .non
  | _, _, _, _, .bl b, _ => .bl b
  | _, _, _, _, .int i h, _ => .int i h
  | _, _, _, _, .str x, _ => .str x
  | _, _, _, _, .lst x1 x2 x3 x4 x5, k => .lst ((k _ x2).trans x1) x2 x3 x4 (ShA.fr x5 fun b z => k b (x3 b z))
  | _, _, _, _, .tup x1 x2 x3 x4 x5, k => .tup ((k _ x2).trans x1) x2 x3 x4 (ShA.fr x5 fun b z => k b (x3 b z))
  | _, _, _, _, .dct x1 x2 x3 x4 x5, k => .dct ((k _ x2).trans x1) x2 x3 x4 (ShD.fr x5 fun b z => k b (x3 b z))
  | _, _, _, _, .exc x1 x2 x3 x4 x7 x5 x6, k => .exc ((k _ x3).trans x1) ((k _ x4).trans x2) x3 x4 (fun b z => ⟨(x7 b z).1, let ⟨fs, q⟩ := (x7 b z).2; ⟨fs, (k _ (x7 b z).1).trans q⟩⟩) x5 (Sh.fr x6 fun b z => k b (x5 b z))
theorem ShA.fr : ∀ {as : List Addr} {d : Nat} {vs : List V} {ts : List Str}, ShA H CW NW as d vs ts → (∀ b ∈ as, H' b = H b) → ShA H' CW NW as d vs ts
  | _, _, _, _, .nil, _ => .nil
  | _, _, _, _, .cons h r, k => .cons (Sh.fr h k) (ShA.fr r k)
theorem ShD.fr : ∀ {as : List Addr} {d : Nat} {vs : List (Key × V)} {ts : List Str}, ShD H CW NW as d vs ts → (∀ b ∈ as, H' b = H b) → ShD H' CW NW as d vs ts
  | _, _, _, _, .nil, _ => .nil
  | _, _, _, _, .cons h r, k => .cons (Sh.fr h k) (ShD.fr r k)
end
theorem Sh.same {as : List Addr} {d : Nat} {v : V} {t : Str} (h : Sh H CW NW as d v t) (s : Same H H') (k : ∀ b ∈ as, H b ≠ none) : Sh H' CW NW as d v t := h.fr fun b hb => by
  cases e : H b with
  | none => exact absurd e (k b hb)
  | some o => rw [s b o e]
theorem ShA.same {as : List Addr} {d : Nat} {vs : List V} {ts : List Str} (h : ShA H CW NW as d vs ts) (s : Same H H') (k : ∀ b ∈ as, H b ≠ none) : ShA H' CW NW as d vs ts := h.fr fun b hb => by
  cases e : H b with
  | none => exact absurd e (k b hb)
  | some o => rw [s b o e]
theorem ShA.len : ∀ {as : List Addr} {d : Nat} {vs : List V} {ts : List Str}, ShA H CW NW as d vs ts → ts.length = vs.length
  | _, _, _, _, .nil => rfl
  | _, _, _, _, .cons _ r => by rw [List.length_cons, List.length_cons, r.len]
theorem ShA.get : ∀ {as : List Addr} {d : Nat} {vs : List V} {ts : List Str} {i : Nat} {v : V}, ShA H CW NW as d vs ts → vs[i]? = some v → ∃ t, t ∈ ts ∧ Sh H CW NW as d v t
  | _, _, _, _, i, _, .nil, e => by simp at e
  | _, _, _, _, 0, _, .cons (t := t) h r, e => by
    have e' := Option.some.inj e
    subst e'
    exact ⟨t, List.mem_cons_self .., h⟩
  | _, _, _, _, i + 1, _, .cons h r, e => by
    obtain ⟨t, m, q⟩ := ShA.get r (show _ = some _ from e)
    exact ⟨t, List.mem_cons_of_mem _ m, q⟩
theorem ShA.app : ∀ {as : List Addr} {d : Nat} {vs ws : List V} {ts us : List Str}, ShA H CW NW as d vs ts → ShA H CW NW as d ws us → ShA H CW NW as d (vs ++ ws) (ts ++ us)
  | _, _, _, _, _, _, .nil, q => q
  | _, _, _, _, _, _, .cons h r, q => .cons h (r.app q)
end
end KaG
set_option maxRecDepth 100000
set_option maxHeartbeats 2000000
namespace KaG
open PySem PySem.Spec PyProof.Rows L2
theorem piled_le {n : Nat} : ∀ {ts : List Str}, (∀ t ∈ ts, t.length ≤ n) → piled ts ≤ ts.length * (n + 2)
  | [], _ => by rw [piled_nil]; exact Nat.zero_le _
  | t :: r, h => by
    have h1 := h t (List.mem_cons_self ..)
    have h2 := piled_le (ts := r) fun u hu => h u (List.mem_cons_of_mem _ hu)
    rw [piled_cons, List.length_cons, Nat.succ_mul]
    omega
theorem listText_le (ts : List Str) : (listText ts).length ≤ piled ts + 2 := by
  cases ts with
  | nil => rw [listText_nil]; decide
  | cons t r =>
    have h := textFrom_length_pos r 1 (("[" : Str) ++ (if (0 : Nat) > 0 then ", " else "" : String) ++ t) (Nat.succ_pos 0)
    have e : ((("[" : Str) ++ (if (0 : Nat) > 0 then ", " else "" : String) ++ t)).length = 1 + t.length := by
      rw [strLen_append, strLen_append]; rfl
    have hX : (listText (t :: r)).length = (textFrom 0 "[" (t :: r)).length + 1 := by
      show (textFrom 0 "[" (t :: r) ++ "]").length = _
      rw [strLen_append]; rfl
    have hY : (textFrom 0 "[" (t :: r)).length = (textFrom 1 (("[" : Str) ++ (if (0 : Nat) > 0 then ", " else "" : String) ++ t) r).length := rfl
    rw [hX, hY, h, e, piled_cons]; omega
theorem join_le (ts : List Str) : (Str.join ", " ts).length ≤ piled ts := by
  by_cases h : ts = []
  · subst h; exact Nat.zero_le _
  · have := join_length_add ts h
    omega
theorem tupleText_le (ts : List Str) : (tupleText ts).length ≤ piled ts + 3 := by
  unfold tupleText
  rw [strLen_append, strLen_append]
  have e1 : ((("(" : String) : Str)).length = 1 := rfl
  have e3 : (((if ts.length == 1 then ",)" else ")" : String) : Str)).length ≤ 2 := by split <;> decide
  have := join_le ts
  omega
theorem dictText_le (ts : List Str) : (dictText ts).length ≤ piled ts + 2 := by
  unfold dictText
  rw [strLen_append, strLen_append]
  have e1 : ((("{" : String) : Str)).length = 1 := rfl
  have e2 : ((("}" : String) : Str)).length = 1 := rfl
  have := join_le ts
  omega
/-- the bag at bg: four items, the last one the list of what is drawn from -/
def Bag (H : Hp) (bg : Addr) : Prop := ∃ (c st i : Int) (b : Addr) (ns : List Int), H bg = some (.lst [.int c, .int st, .int i, .ref b]) ∧ H b = some (.lst (ns.map V.int)) ∧ 0 ≤ c ∧ 0 ≤ i ∧ ns.length ≤ 100
/-- b is the bag's own list of cells -/
def Inn (H : Hp) (bg b : Addr) : Prop := ∃ c st i : Int, H bg = some (.lst [.int c, .int st, .int i, .ref b])
structure Ext (bg : Addr) (H H' : Hp) : Prop where
  keep : ∀ b o, b ≠ bg → H b = some o → H' b = some o
  bag : Bag H' bg
  inn : ∀ b, Inn H bg b → Inn H' bg b
theorem Bag.there {H : Hp} {bg : Addr} (h : Bag H bg) : H bg ≠ none := by
  obtain ⟨c, st, i, b, ns, h1, _⟩ := h
  rw [h1]
  exact fun z => nomatch z
theorem Bag.same {H H' : Hp} {bg : Addr} (h : Bag H bg) (s : Same H H') : Bag H' bg := by
  obtain ⟨c, st, i, b, ns, h1, h2, h3⟩ := h
  exact ⟨c, st, i, b, ns, s _ _ h1, s _ _ h2, h3⟩
theorem same_upd {H : Hp} {p : Addr} {o : HO} (h : H p = none) : Same H (upd H p o) := fun b u e => by
  rw [upd_ne (ne_of_none e h)]
  exact e
theorem Same.refl' {H : Hp} : Same H H := fun _ _ e => e
theorem Same.tr {H H1 H2 : Hp} (s : Same H H1) (t : Same H1 H2) : Same H H2 := fun b o e => t b o (s b o e)
theorem Ext.of_same {bg : Addr} {H H' : Hp} (h : Bag H bg) (s : Same H H') : Ext bg H H' := ⟨fun b o _ e => s b o e, h.same s, fun _ ⟨c, st, i, e⟩ => ⟨c, st, i, s _ _ e⟩⟩
theorem Ext.trans {bg : Addr} {H H1 H2 : Hp} (a : Ext bg H H1) (b : Ext bg H1 H2) : Ext bg H H2 := ⟨fun x o n e => b.keep x o n (a.keep x o n e), b.bag, fun x h => b.inn x (a.inn x h)⟩
theorem Ext.new {bg p : Addr} {H H1 : Hp} {o : HO} (a : Ext bg H H1) (h : H1 p = none) : Ext bg H (upd H1 p o) := a.trans (Ext.of_same a.bag (same_upd h))
theorem Ext.stay {bg : Addr} {H H' : Hp} (a : Ext bg H H') {b : Addr} (h : H b ≠ none) : H' b ≠ none := by
  by_cases e : b = bg
  · rw [e]; exact a.bag.there
  · cases q : H b with
    | none => exact absurd q h
    | some o => rw [a.keep b o e q]; exact fun z => nomatch z
/-- as are new between H and H' -/
def Nw (H H' : Hp) (as : List Addr) : Prop := ∀ b ∈ as, H b = none ∧ H' b ≠ none
section
variable {CW : Addr} {NW : Str} {bg : Addr} {H H1 H2 : Hp}
theorem Sh.ext {as : List Addr} {d : Nat} {v : V} {t : Str} (h : Sh H1 CW NW as d v t) (hb : bg ∉ as) (s : Ext bg H1 H2) (k : ∀ b ∈ as, H1 b ≠ none) : Sh H2 CW NW as d v t := h.fr fun b m => by
  cases e : H1 b with
  | none => exact absurd e (k b m)
  | some o => exact s.keep b o (fun z => hb (z ▸ m)) e
theorem ShA.ext {as : List Addr} {d : Nat} {vs : List V} {ts : List Str} (h : ShA H1 CW NW as d vs ts) (hb : bg ∉ as) (s : Ext bg H1 H2) (k : ∀ b ∈ as, H1 b ≠ none) : ShA H2 CW NW as d vs ts := h.fr fun b m => by
  cases e : H1 b with
  | none => exact absurd e (k b m)
  | some o => exact s.keep b o (fun z => hb (z ▸ m)) e
theorem Nw.out {as : List Addr} (n : Nw H H1 as) {b : Addr} (h : H b ≠ none) : b ∉ as := fun m => h (n b m).1
theorem Nw.ext {as : List Addr} (n : Nw H H1 as) (s : Ext bg H1 H2) : Nw H H2 as := fun b m => ⟨(n b m).1, s.stay (n b m).2⟩
theorem Nw.before {as : List Addr} (n : Nw H1 H2 as) (s : Ext bg H H1) : Nw H H2 as := fun b m => ⟨by
  cases e : H b with
  | none => rfl
  | some o => exact absurd (n b m).1 (s.stay (by rw [e]; exact fun z => nomatch z)), (n b m).2⟩
end
/-- an expression that gives a good value: told by its text's length, its depth -/
def tG (CW : Addr) (NW : Str) (i : Nat) (bg : Addr) (d n : Nat) : TE := fun σ H Q => (Bag H bg ∧ σ[i]? = some (some (.ref bg))) ∧ ∀ v H' as t, Ext bg H H' → Sh H' CW NW as d v t → t.length ≤ n → Nw H H' as → Q v H'
end KaG
set_option maxRecDepth 100000
set_option maxHeartbeats 2000000
namespace KaG
open PySem PySem.Spec PyProof.Rows L2
/-- the read of xs[i] += e -/
def rGetL (K : PySem.W.Frag) : V → V → Hp → VK → Prop := fun o i H Q => ∃ p xs k v, o = .ref p ∧ i = .int k ∧ SqL K H p xs ∧ 0 ≤ k ∧ k < 1000 ∧ xs[k.toNat]? = some v ∧ Q v H
theorem get_listP {X : Cx} : PGet X (rGetL X.K) := by
  intro pins s σ H o i ov iv Q I ro ri h
  obtain ⟨p, xs, k, v, rfl, rfl, hq, h0, h1, e, q⟩ := h
  cases ro
  obtain ⟨t, rfl⟩ := ri
  obtain ⟨its, r, pl, hz⟩ := I.list hq
  obtain ⟨w, ew, rw'⟩ := r.get e
  exact wpAny_getItem_list pl.isList h0 (by omega) (by simpa using ew) ⟨v, H, I, rw', q⟩
def top (i : Nat) : Stmt := PySem.Challenge.pw_goneyet_k23_trees_told.main.body.getD i (.Pass ⟨0, 0, 0, 0⟩)
abbrev sBag : Stmt := top 28
abbrev sTake : Stmt := top 29
abbrev sSome : Stmt := top 30
abbrev sAlike : Stmt := top 31
abbrev sMixed : Stmt := top 32
abbrev sNamed : Stmt := top 33
abbrev sNumbers : Stmt := top 34
abbrev sNeed : Stmt := top 35
abbrev sGround : Stmt := top 36
abbrev sAny : Stmt := top 37
abbrev sPlanted : Stmt := top 38
abbrev sMore : Stmt := top 39
abbrev sThreaded : Stmt := top 40
abbrev sRulebook : Stmt := top 41
theorem scTake : FnScope ["bag", "upto", "cell", "stirred", "value", "begin", "second"] ["bag", "upto"] (defScope sTake) := ⟨rfl, rfl, rfl, by decide +kernel, rfl, by decide +kernel, by decide +kernel⟩
theorem scSome : FnScope ["bag", "things"] ["bag", "things"] (defScope sSome) := ⟨rfl, rfl, rfl, by decide +kernel, rfl, by decide +kernel, by decide +kernel⟩
theorem scAlike : FnScope ["found", "due"] ["found", "due"] (defScope sAlike) := ⟨rfl, rfl, rfl, by decide +kernel, rfl, by decide +kernel, by decide +kernel⟩
theorem seqGo {a b : TS} {D : Ends} {σ : L2.St} {H : Hp} (R : TS → Ends → Prop) (hr : R b D) (hm : R b D → a { D with nx := fun σ' H' => b D σ' H' } σ H) : tSeq a b D σ H := hm hr
theorem bag_ne {H : Hp} {bg b : Addr} {c st i : Int} {ns : List Int} (e1 : H bg = some (.lst [.int c, .int st, .int i, .ref b])) (e2 : H b = some (.lst (ns.map V.int))) : b ≠ bg := by
  intro z
  rw [z, e1] at e2
  have e3 := HO.lst.inj (Option.some.inj e2)
  match ns, e3 with
  | [], e3 => simp at e3
  | [_], e3 => simp at e3
  | [_, _], e3 => simp at e3
  | [_, _, _], e3 => simp at e3
  | _ :: _ :: _ :: _ :: _, e3 => simp at e3
theorem Ext.put {H H1 : Hp} {bg b : Addr} {c st i c' st' i' : Int} {ns : List Int} (E : Ext bg H H1) (e1 : H1 bg = some (.lst [.int c, .int st, .int i, .ref b])) (e2 : H1 b = some (.lst (ns.map V.int))) (c0 : 0 ≤ c') (i0 : 0 ≤ i') (nl : ns.length ≤ 100) :
    Ext bg H (upd H1 bg (.lst [.int c', .int st', .int i', .ref b])) :=
  ⟨fun x o hx e => by rw [upd_ne hx]; exact E.keep x o hx e, ⟨c', st', i', b, ns, upd_same, by rw [upd_ne (bag_ne e1 e2)]; exact e2, c0, i0, nl⟩, fun x h => by
    obtain ⟨c2, s2, i2, z⟩ := E.inn x h
    rw [e1] at z
    cases z
    exact ⟨c', st', i', upd_same⟩⟩
theorem cut_ints (ns : List Int) (lo hi : Option Int) : ∃ ms : List Int, cutV (ns.map V.int) lo hi = ms.map V.int ∧ ms.length ≤ ns.length := by
  refine ⟨(ns.drop (HT.sIx (ns.map V.int).length 0 lo)).take (HT.sIx (ns.map V.int).length (ns.map V.int).length hi - HT.sIx (ns.map V.int).length 0 lo), ?_, ?_⟩
  · unfold cutV
    rw [← List.map_drop, ← List.map_take]
  · rw [List.length_take, List.length_drop]
    omega
theorem head_int : ∀ ms : List Int, ∃ z, atI (ms.map V.int ++ [V.int 0]) 0 = some (V.int z)
  | [] => ⟨0, rfl⟩
  | z :: _ => ⟨z, atI_nat (j := 0) rfl⟩
structure TxtB (mg : Str → Option Value) : Prop where
  abs : mg "abs" = none
  len : mg "len" = none
  int : mg "int" = none
  repr : mg "repr" = none
  isin : mg "isinstance" = none
  range : mg "range" = none
  list : mg "list" = none
  verr : mg "ValueError" = none
section
variable {P : Program} {w : World} {K : PySem.W.Frag} {mg : Str → Option Value} {base : Heap}
def spTake : Sp := fun vs H Q _ => ∃ (bg : Addr) (n : Int), vs = [.ref bg, .int n] ∧ Bag H bg ∧ 0 < n ∧ n ≤ 1000000 ∧ ∀ (z : Int) (H' : Hp), Ext bg H H' → 0 ≤ z → z < n → Q (.int z) H'
theorem ok_take {f : Addr} {fd : FuncData} (F : Fun K "_law_take" "_law_take" sTake f fd) (T : TxtB mg) : FnOk P w K mg base CX0 1 f fd ["bag", "upto"] spTake := by
  refine F.ok scTake (fun vs H Q E h => ?_) (fun cdv A outer s H vs Q E hr h => ?_)
  · obtain ⟨bg, n, rfl, _⟩ := h
    rfl
  · obtain ⟨bg, n, rfl, hB, h0, h1, k⟩ := h
    refine ⟨_, pss_cons (ps_if (pt_cmpR op_eq (pe_ix ix_list (pv 0) pe_int (fun _ _ => rfl)) pe_int (nomark _))
        (pss_cons (ps_set (i := 2) scTake.nd rfl (Or.inl rfl) (pe_ix ix_list (pe_op op_cat (pe_slice sl_list (pe_ix ix_list (pv 0) pe_int (fun _ _ => rfl)) (po_some (pe_ix ix_list (pv 0) pe_int (fun _ _ => rfl))) po_none) (pe_lst (pa_cons pe_int pa_nil))) pe_int (fun _ _ => rfl)))
        (pss_cons (ps_augS (pv 0) pe_int get_listP pe_int ip_add set_list)
        (pss_cons (ps_if (pt_cmpR op_ge (pv 2) (pe_op op_pow pe_int pe_int) (nomark _)) (pss_one (ps_asg (pv 2) (pg_sub (pv 0) pe_int set_list))) pss_nil)
        (pss_cons (ps_set (i := 3) scTake.nd rfl (Or.inl rfl) (pe_op op_add (pe_op op_add (pe_op op_mul (pe_ix ix_list (pv 0) pe_int (fun _ _ => rfl)) pe_int) (pe_op op_mod (pe_callTy call_int1 (by rfl) T.int (by decide +kernel) (pa_cons (pv 2) pa_nil)) pe_int)) (pe_op op_mul pe_int (pe_ix ix_list (pv 0) pe_int (fun _ _ => rfl)))))
        (pss_one (ps_asg (pe_op op_mod (pe_callTy call_int1 (by rfl) T.int (by decide +kernel) (pa_cons (pv 3) pa_nil)) pe_int) (pg_sub (pv 0) pe_int set_list))))))) pss_nil)
      (pss_cons (ps_if (pt_cmpR op_gt (pe_ix ix_list (pv 0) pe_int (fun _ _ => rfl)) pe_int (nomark _))
        (pss_cons (ps_set (i := 4) scTake.nd rfl (Or.inl rfl) (pe_op op_mod (pe_callTy call_int1 (by rfl) T.int (by decide +kernel) (pa_cons (pe_ix ix_list (pv 0) pe_int (fun _ _ => rfl)) pa_nil)) (pv 1)))
        (pss_cons (ps_asg (pe_op op_fdivN (pe_callTy call_int1 (by rfl) T.int (by decide +kernel) (pa_cons (pe_ix ix_list (pv 0) pe_int (fun _ _ => rfl)) pa_nil)) (pv 1)) (pg_sub (pv 0) pe_int set_list))
        (pss_one (ps_ret (pv 4))))) pss_nil)
      (pss_cons (ps_set (i := 5) scTake.nd rfl (Or.inl rfl) (pe_op op_mod (pe_callTy call_int1 (by rfl) T.int (by decide +kernel) (pa_cons (pe_op op_mul (pe_op op_add (pe_ix ix_list (pv 0) pe_int (fun _ _ => rfl)) pe_int) pe_int) pa_nil)) pe_int))
      (pss_cons (ps_set (i := 6) scTake.nd rfl (Or.inl rfl) (pe_op op_mod (pe_callTy call_int1 (by rfl) T.int (by decide +kernel) (pa_cons (pe_op op_mul (pe_op op_mod (pe_callTy call_int1 (by rfl) T.int (by decide +kernel) (pa_cons (pe_op op_mul (pv 5) (pv 5)) pa_nil)) pe_int) pe_int) pa_nil)) pe_int))
      (pss_one (ps_ret (pe_op op_mod (pe_callTy call_int1 (by rfl) T.int (by decide +kernel) (pa_cons (pe_op op_fdivN (pv 6) pe_int) pa_nil)) (pv 1))))))), ?_⟩
    refine seqGo (fun b D => ∀ (x2 x3 : Option V) (H' : Hp), Ext bg H H' → b D [some (.ref bg), some (.int n), x2, x3, none, none, none] H') (fun x2 x3 H1 E1 => ?rest) (fun rest => ?_)
    case rest =>
      obtain ⟨c, st, i, b, ns, e1, e2, c0, i0, nl⟩ := E1.bag
      refine ⟨_, rfl, _, _, _, _, rfl, rfl, SqL.of e1, rfl, _, _, rfl, rfl, _, rfl, ite2 (fun hc => ?_) fun hc => ?_⟩
      · refine ⟨_, rfl, _, _, _, _, rfl, rfl, SqL.of e1, rfl, .inl ⟨_, rfl, _, rfl, _, _, rfl, rfl, h0, ?_⟩⟩
        refine ⟨_, rfl, _, _, _, _, rfl, rfl, SqL.of e1, rfl, .inl ⟨_, rfl, _, rfl, _, _, rfl, rfl, ⟨by omega, by omega⟩, _, rfl, ⟨_, _, _, 0, rfl, rfl, e1, rfl, ?_⟩⟩⟩
        refine ⟨_, rfl, ?_⟩
        exact k _ _ (E1.put e1 e2 (Int.fdiv_nonneg c0 (Int.le_of_lt h0)) i0 nl) (Int.emod_nonneg _ (by omega)) (Int.emod_lt_of_pos _ h0)
      · refine ⟨_, rfl, _, _, _, _, rfl, rfl, SqL.of e1, rfl, _, _, rfl, rfl, _, _, rfl, rfl, .inr ⟨by decide, by decide⟩, .inl ⟨_, rfl, _, _, rfl, rfl, by show (0 : Int) < 1000000007; decide, ?_⟩⟩
        refine ⟨_, rfl, _, rfl, _, _, rfl, rfl, .inl ⟨?_, ?_⟩, .inl ⟨_, rfl, _, _, rfl, rfl, by show (0 : Int) < 998244353; decide, _, _, rfl, rfl, .inr ⟨by decide, by decide⟩, .inl ⟨_, rfl, _, _, rfl, rfl, by show (0 : Int) < 998244353; decide, ?_⟩⟩⟩
        · have := Int.emod_nonneg ((st + 1) * 39373) (show (1000000007 : Int) ≠ 0 by decide); omega
        · have := Int.emod_lt_of_pos ((st + 1) * 39373) (show (0 : Int) < 1000000007 by decide); omega
        · refine ⟨_, rfl, _, _, rfl, rfl, ⟨by decide, by decide⟩, .inl ⟨_, rfl, _, rfl, _, _, rfl, rfl, h0, ?_⟩⟩
          exact k _ _ E1 (Int.emod_nonneg _ (by omega)) (Int.emod_lt_of_pos _ h0)
    obtain ⟨c, st, i, b, ns, e1, e2, c0, i0, nl⟩ := hB
    refine ⟨_, rfl, _, _, _, _, rfl, rfl, SqL.of e1, rfl, rfl, _, rfl, ite2 (fun hc => ?_) fun hc => ?_⟩
    · refine ⟨_, rfl, _, _, _, _, rfl, rfl, SqL.of e1, rfl, ?_⟩
      refine ⟨_, rfl, _, _, _, _, rfl, rfl, SqL.of e1, rfl, _, rfl, _, _, rfl, SqL.of e2, fun p1 hp1 => ⟨by show 1 ≤ sizeLine; decide, fun p2 hp2 => ?_⟩⟩
      obtain ⟨ms, em, hm⟩ := cut_ints ns (some i) none
      rw [em]
      have n21 : p1 ≠ p2 := fun z => by
        rw [← z, em, upd_same] at hp2
        cases hp2
      have s1 : Same H (upd H p1 (.lst (ms.map V.int))) := same_upd hp1
      rw [em] at hp2
      have s2 : Same H (upd (upd H p1 (.lst (ms.map V.int))) p2 (.lst [.int 0])) := KaG.Same.tr s1 (same_upd hp2)
      refine ⟨_, _, _, _, rfl, rfl, by rw [upd_ne n21, upd_same], upd_same, by rw [List.length_map]; exact Nat.le_of_lt (small1000 (by simp only [List.length_cons, List.length_nil]; omega)), fun p3 hp3 => ?_⟩
      obtain ⟨z, hz⟩ := head_int ms
      refine ⟨_, _, _, _, rfl, rfl, SqL.of upd_same, hz, ?_⟩
      have s3 := KaG.Same.tr s2 (same_upd (o := .lst (ms.map V.int ++ [V.int 0])) hp3)
      have B3 := Bag.same ⟨c, st, i, b, ns, e1, e2, c0, i0, nl⟩ s3
      have E3 := Ext.of_same ⟨c, st, i, b, ns, e1, e2, c0, i0, nl⟩ s3
      have f1 := s3 _ _ e1
      have f2 := s3 _ _ e2
      generalize upd (upd (upd H p1 (.lst (ms.map V.int))) p2 (.lst [.int 0])) p3 (.lst (ms.map V.int ++ [V.int 0])) = H3 at *
      refine ⟨_, rfl, _, _, _, _, rfl, rfl, SqL.of f1, by decide, by decide, rfl, _, _, rfl, rfl, ⟨_, _, _, 2, rfl, rfl, f1, rfl, ?_⟩⟩
      have E4 := E3.put (c' := c) (st' := st) (i' := i + 1) f1 f2 c0 (by omega) nl
      have g1 : upd H3 bg (.lst [.int c, .int st, .int (i + 1), .ref b]) bg = some (.lst [.int c, .int st, .int (i + 1), .ref b]) := upd_same
      have g2 : upd H3 bg (.lst [.int c, .int st, .int (i + 1), .ref b]) b = some (.lst (ns.map V.int)) := by rw [upd_ne (bag_ne e1 e2)]; exact f2
      dsimp only
      refine seqGo (fun b' D => ∀ (c' : Int) (H' : Hp), 0 ≤ c' → Ext bg H H' → H' bg = some (.lst [.int c', .int st, .int (i + 1), .ref b]) → H' b = some (.lst (ns.map V.int)) →
          b' D [some (.ref bg), some (.int n), some (.int z), none, none, none, none] H') (fun c' H5 c0' E5 x1 x2 => ?_) (fun rest2 => ?_)
      · refine ⟨_, rfl, _, _, _, _, rfl, rfl, SqL.of x1, rfl, _, _, rfl, rfl, .inr ⟨by decide, by decide⟩, _, rfl, .inl ⟨_, rfl, _, _, rfl, rfl, by show (0 : Int) < 2147483647; decide, _, _, rfl, rfl, ?_⟩⟩
        refine ⟨_, rfl, _, _, _, _, rfl, rfl, SqL.of x1, rfl, _, _, rfl, rfl, .inl ⟨by decide, by decide⟩, _, _, rfl, rfl, ?_⟩
        refine ⟨_, rfl, .inl ⟨_, rfl, _, _, rfl, rfl, by show (0 : Int) < 2147483647; decide, _, rfl, _, _, _, 1, rfl, rfl, x1, rfl, ?_⟩⟩
        exact rest _ _ _ (E5.put x1 x2 c0' (by omega) nl)
      · refine ⟨_, rfl, _, _, rfl, rfl, ⟨by decide, by decide, by decide⟩, _, _, rfl, rfl, _, rfl, ite2 (fun hg => ?_) fun hg => ?_⟩
        · have hg' : (10 : Int) ^ (18 : Int).toNat ≤ z := of_decide_eq_true hg
          have z0 : 0 ≤ z := Int.le_trans (by decide) hg'
          exact ⟨_, rfl, _, rfl, _, _, _, 0, rfl, rfl, g1, rfl, rest2 z _ z0 (E4.put g1 g2 z0 (by omega) nl) upd_same (by rw [upd_ne (bag_ne e1 e2)]; exact g2)⟩
        · exact rest2 c _ c0 E4 g1 g2
    · exact rest _ _ H (Ext.of_same ⟨c, st, i, b, ns, e1, e2, c0, i0, nl⟩ Same.refl')
end
end KaG
set_option maxRecDepth 100000
set_option maxHeartbeats 2000000
namespace KaG
open PySem PySem.Spec PyProof.Rows L2
section
variable {P : Program} {w : World} {K : PySem.W.Frag} {mg : Str → Option Value} {base : Heap}
structure Ct (P : Program) (w : World) (K : PySem.W.Frag) (mg : Str → Option Value) (base : Heap) (x : Str) (k : Nat) (ps : List Str) (sp : Sp) (f : Addr) (fd : FuncData) : Prop where
  G : FnOk P w K mg base CX0 k f fd ps sp
  m : mg x = some (.ref f)
  kp : PySem.W.keepIn K (.ref f) = true
  b : Binds K fd ps []
def spBag (K : PySem.W.Frag) : Sp := fun vs H Q _ => ∃ (a : Addr) (ns : List Int), vs = [.ref a] ∧ SqL K H a (ns.map V.int) ∧ ns.length ≤ 63 ∧ ∀ (bg : Addr) (H' : Hp), Same H H' → H bg = none → Bag H' bg → Q (.ref bg) H'
theorem scBag2 : FnScope ["script", "cell"] ["script"] (defScope sBag) := ⟨rfl, rfl, rfl, by decide +kernel, rfl, by decide +kernel, by decide +kernel⟩
theorem ok_bag {f : Addr} {fd : FuncData} (F : Fun K "_law_bag" "_law_bag" sBag f fd) (T : TxtB mg) : FnOk P w K mg base CX0 1 f fd ["script"] (spBag K) := by
  refine F.ok scBag2 (fun vs H Q E h => ?_) (fun cdv A outer s H vs Q E hr h => ?_)
  · obtain ⟨a, ns, rfl, _⟩ := h
    rfl
  · obtain ⟨a, ns, rfl, hS, hn, k⟩ := h
    refine ⟨_, pss_one (ps_ret (pe_lst (pa_cons pe_int (pa_cons pe_int (pa_cons pe_int (pa_cons (pe_lc (own := [("cell", 1)]) (g := gName 1) (by rfl) scBag2.nd (pi_list (pe_slice sl_list (pv 0) po_none (po_some pe_int)))
      (blkOk_by (own := [("cell", 1)]) (N := ["script", "cell"]) (sc := defScope sBag) (by decide +kernel)) (fun _ _ _ _ _ => pg_name (i := 1) scBag2.nd rfl (Or.inl rfl)) (fun _ _ _ _ _ => pts_nil)
      (fun _ _ _ _ _ => pe_callB call_abs (by rfl) T.abs (by decide +kernel) (pa_cons (pv 1) pa_nil))) pa_nil)))))), ?_⟩
    refine ⟨_, rfl, _, rfl, _, _, rfl, hS, fun p hp => ?_⟩
    obtain ⟨ms, em, hm⟩ := cut_ints ns none (some 63)
    rw [em]
    refine ⟨p, rfl, ?_⟩
    refine ⟨⟨_, SqL.of upd_same⟩, fun D hD => lc_list (K := K) (a := p) (xs := ms.map V.int) (fun i H' => ∃ qs : List Int, qs.length = i ∧ H' = upd (upd H p (.lst (ms.map V.int))) D (.lst (qs.map V.int))) ⟨[], rfl, rfl⟩ ?_ ?_ ?_⟩
    · rintro i H' _ ⟨qs, _, rfl⟩
      refine SqL.of ?_
      rw [upd_ne, upd_same]
      intro z
      rw [← z, upd_same] at hD
      cases hD
    · rintro i x H' hx ⟨qs, hq, rfl⟩
      have hi : i < ms.length := by
        have := (List.getElem?_eq_some_iff.mp hx).1
        rwa [List.length_map] at this
      rw [List.getElem?_map] at hx
      obtain ⟨z, hz, rfl⟩ := Option.map_eq_some_iff.mp hx
      refine ⟨rfl, ?_⟩
      unfold tYes
      dsimp only
      rw [if_pos rfl]
      refine ⟨_, rfl, _, rfl, _, upd_same, ?_, qs ++ [if z < 0 then -z else z], by rw [List.length_append, hq]; rfl, ?_⟩
      · rw [List.length_map]
        exact small1000 (by omega)
      · rw [upd_upd, List.map_append]
        rfl
    · rintro H' ⟨qs, hq, rfl⟩
      refine ⟨by show 4 ≤ sizeLine; decide, fun bg hb => ?_⟩
      have s1 : Same H (upd H p (.lst (ms.map V.int))) := same_upd hp
      have s2 : Same H (upd (upd H p (.lst (ms.map V.int))) D (.lst (qs.map V.int))) := KaG.Same.tr s1 (same_upd hD)
      have s3 := KaG.Same.tr s2 (same_upd (o := .lst [.int 0, .int 1234567891, .int 0, .ref D]) hb)
      refine k bg _ s3 ?_ ⟨0, 1234567891, 0, D, qs, upd_same, ?_, by decide, by decide, by rw [hq, List.length_map]; omega⟩
      · cases e : H bg with
        | none => rfl
        | some o => rw [s2 _ _ e] at hb; cases hb
      · rw [upd_ne (fun z => by rw [← z, upd_same] at hb; cases hb), upd_same]
end
end KaG
set_option maxRecDepth 100000
set_option maxHeartbeats 2000000
namespace KaG
open PySem PySem.Spec PyProof.Rows L2
/-- over what is a list, or a tuple -/
theorem pi_or {X : Cx} {tg iter : Expr} {w1 w2 : TI} (h1 : PI X tg iter w1) (h2 : PI X tg iter w2) : PI X tg iter (fun σ H R => w1 σ H R ∨ w2 σ H R) :=
  ⟨fun pins s σ H R I h => h.elim (h1.run pins s σ H R I) (h2.run pins s σ H R I)⟩
section
variable {P : Program} {w : World} {K : PySem.W.Frag} {mg : Str → Option Value} {base : Heap}
theorem scMixed : FnScope ["bag", "things", "found", "thing"] ["bag", "things"] (defScope sMixed) := ⟨rfl, rfl, rfl, by decide +kernel, rfl, by decide +kernel, by decide +kernel⟩
/-- a list or tuple of things at l -/
def Sq2 (H : Hp) (l : Addr) (xs : List V) : Prop := H l = some (.lst xs) ∨ H l = some (.tup xs)
theorem Sq2.ext {H H' : Hp} {bg l : Addr} {xs : List V} (h : Sq2 H l xs) (n : l ≠ bg) (E : Ext bg H H') : Sq2 H' l xs := h.imp (E.keep l _ n) (E.keep l _ n)
/-- a new list of the same things, in a drawn order -/
def spMixed : Sp := fun vs H Q _ => ∃ (bg l : Addr) (xs : List V), vs = [.ref bg, .ref l] ∧ Bag H bg ∧ l ≠ bg ∧ Sq2 H l xs ∧ xs.length ≤ 900 ∧ ∀ (p : Addr) (ys : List V) (H' : Hp), Ext bg H H' → H p = none → H' p = some (.lst ys) → ys.Perm xs → Q (.ref p) H'
theorem put_perm' {α : Type} (l : List α) (i : Nat) (y : α) : (l.take i ++ [y] ++ l.drop i).Perm (l ++ [y]) := by
  have h1 : (l.take i ++ [y] ++ l.drop i).Perm (l.take i ++ (l.drop i ++ [y])) := by
    rw [List.append_assoc]
    exact List.Perm.append_left _ List.perm_append_comm
  rwa [← List.append_assoc, List.take_append_drop] at h1
theorem Ext.write {bg p : Addr} {H H1 : Hp} {o : HO} (hb : Bag H bg) (E : Ext bg H H1) (h : H p = none) : Ext bg H (upd H1 p o) := by
  have pb : p ≠ bg := fun z => hb.there (z ▸ h)
  obtain ⟨c, st, i, b, ns, e1, e2, e3⟩ := id hb
  have ib : Inn H bg b := ⟨c, st, i, e1⟩
  have pn : p ≠ b := fun z => by rw [z, e2] at h; cases h
  obtain ⟨c2, s2, i2, f1⟩ := E.inn b ib
  obtain ⟨c1, st1, i1, b1, ns1, g1, g2, g3⟩ := E.bag
  rw [f1] at g1
  cases g1
  refine ⟨fun x u n e => ?_, ⟨_, _, _, b, ns1, by rw [upd_ne pb.symm]; exact f1, by rw [upd_ne pn.symm]; exact g2, g3⟩, fun x hx => ?_⟩
  · rw [upd_ne (ne_of_none e h)]
    exact E.keep x u n e
  · obtain ⟨c3, s3, i3, q⟩ := E.inn x hx
    exact ⟨c3, s3, i3, by rw [upd_ne pb.symm]; exact q⟩
theorem ok_mixed {f fT : Addr} {fd fdT : FuncData} (F : Fun K "_law_mixed" "_law_mixed" sMixed f fd) (T : TxtB mg) (C : Ct P w K mg base "_law_take" 1 ["bag", "upto"] spTake fT fdT) : FnOk P w K mg base CX0 2 f fd ["bag", "things"] spMixed := by
  refine F.ok scMixed (fun vs H Q E h => ?_) (fun cdv A outer s H vs Q E hr h => ?_)
  · obtain ⟨bg, l, xs, rfl, _⟩ := h
    rfl
  · obtain ⟨bg, l, xs, rfl, hB, hne, hl, hn, k⟩ := h
    refine ⟨_, (pss_cons (ps_set (i := 2) scMixed.nd rfl (Or.inl rfl) (pe_lst pa_nil))
      (pss_cons (ps_for PassesOwn.never rfl (pi_or (pi_list (pv 1)) (pi_tup (pv 1))) (pg_name (i := 3) scMixed.nd rfl (Or.inl rfl))
        (pss_one (ps_expr (pe_bm PySem.F.plainAttrs_list PySem.F.slot_list_insert PySem.F.type_list_insert mt_insert (pv 2)
          (pa_cons (pe_call C.G hr (by rfl) C.m C.kp C.b .nil pass0 (pa_cons (pv 0) (pa_cons (pe_op op_add (pe_callB call_len_seq (by rfl) T.len PySem.boot_len (pa_cons (pv 2) pa_nil)) pe_int) pa_nil))) (pa_cons (pv 3) pa_nil))))))
      (pss_one (ps_ret (pv 2))))), ?_⟩
    have sz2 : ∀ {m : Nat}, m ≤ 900 → m < sizeLine := fun h => small1000 (by omega)
    refine ⟨Nat.zero_le _, fun p np => ?_⟩
    have pl : p ≠ l := fun z => by
      rw [z] at np
      rcases hl with h | h <;> rw [h] at np <;> cases np
    let Pv : Nat → L2.St → Hp → Prop := fun i σ' H' => (∃ x3 : Option V, σ' = [some (.ref bg), some (.ref l), some (.ref p), x3]) ∧ Ext bg H H' ∧ ∃ ys, H' p = some (.lst ys) ∧ ys.Perm (xs.take i)
    have E0 : Ext bg H (upd H p (.lst [])) := (Ext.of_same hB Same.refl').new np
    have h0 : Pv 0 [some (.ref bg), some (.ref l), some (.ref p), none] (upd H p (.lst [])) := ⟨⟨_, rfl⟩, E0, [], upd_same, by rw [List.take_zero]⟩
    rcases hl with hl | hl
    · refine .inl ⟨_, rfl, l, rfl, ⟨_, SqL.of (E0.keep l _ hne hl)⟩, for_list (K := K) (a := l) (xs := xs) Pv h0 ?_ ?_ ?_⟩
      · rintro i σ' H' _ ⟨_, E1, _⟩
        exact SqL.of (E1.keep l _ hne hl)
      · rintro i x σ' H' hx ⟨⟨x3, rfl⟩, E1, ys, ey, py⟩
        have hi : i < xs.length := (List.getElem?_eq_some_iff.mp hx).1
        have hy : ys.length = i := by
          rw [py.length_eq, List.length_take]
          omega
        refine ⟨_, rfl, .inl ⟨rfl, _, SqL.of ey⟩, _, rfl, _, rfl, p, ys, rfl, .inl (SqL.of ey), _, _, rfl, rfl, bg, _, rfl, E1.bag, by omega, by omega, fun z H2 E2 z0 z1 => ?_⟩
        have pb : p ≠ bg := fun w => hB.there (w ▸ np)
        refine ⟨_, rfl, p, ys, z, x, rfl, rfl, E2.keep p _ pb ey, sz2 (by omega), z0, by omega, ⟨_, rfl⟩, (E1.trans E2).write hB np, _, upd_same, ?_⟩
        refine (put_perm' ys z.toNat x).trans ?_
        have ex : xs.take (i + 1) = xs.take i ++ [x] := by rw [List.take_add_one, hx]; rfl
        rw [ex]
        exact List.Perm.append_right _ py
      · rintro σ' H' ⟨⟨x3, rfl⟩, E1, ys, ey, py⟩
        rw [List.take_length] at py
        exact ⟨_, rfl, k p ys H' E1 np ey py⟩
    · refine .inr ⟨_, rfl, l, rfl, ⟨_, SqT.of (E0.keep l _ hne hl)⟩, for_tup (K := K) (a := l) (xs := xs) Pv h0 ?_ ?_ ?_⟩
      · rintro i σ' H' _ ⟨_, E1, _⟩
        exact SqT.of (E1.keep l _ hne hl)
      · rintro i x σ' H' hx ⟨⟨x3, rfl⟩, E1, ys, ey, py⟩
        have hi : i < xs.length := (List.getElem?_eq_some_iff.mp hx).1
        have hy : ys.length = i := by
          rw [py.length_eq, List.length_take]
          omega
        refine ⟨_, rfl, .inl ⟨rfl, _, SqL.of ey⟩, _, rfl, _, rfl, p, ys, rfl, .inl (SqL.of ey), _, _, rfl, rfl, bg, _, rfl, E1.bag, by omega, by omega, fun z H2 E2 z0 z1 => ?_⟩
        have pb : p ≠ bg := fun w => hB.there (w ▸ np)
        refine ⟨_, rfl, p, ys, z, x, rfl, rfl, E2.keep p _ pb ey, sz2 (by omega), z0, by omega, ⟨_, rfl⟩, (E1.trans E2).write hB np, _, upd_same, ?_⟩
        refine (put_perm' ys z.toNat x).trans ?_
        have ex : xs.take (i + 1) = xs.take i ++ [x] := by rw [List.take_add_one, hx]; rfl
        rw [ex]
        exact List.Perm.append_right _ py
      · rintro σ' H' ⟨⟨x3, rfl⟩, E1, ys, ey, py⟩
        rw [List.take_length] at py
        exact ⟨_, rfl, k p ys H' E1 np ey py⟩
end
end KaG
set_option maxRecDepth 100000
set_option maxHeartbeats 2000000
namespace KaG
open PySem PySem.Spec PyProof.Rows L2
theorem newAt {bg : Addr} {H0 H : Hp} {l : Addr} (E : Ext bg H0 H) (h : H l = none) : H0 l = none := by
  cases e : H0 l with
  | none => rfl
  | some o => exact absurd h (E.stay (by rw [e]; exact fun z => nomatch z))
theorem perm_of_map {α β : Type} {f : α → β} {ys zs : List β} (h : ys.Perm zs) : ∀ l : List α, zs = l.map f → ∃ l' : List α, l'.Perm l ∧ ys = l'.map f := by
  induction h with
  | nil => intro l e; exact ⟨[], by rw [List.map_eq_nil_iff.mp e.symm], rfl⟩
  | cons x h ih =>
    intro l e
    cases l with
    | nil => cases e
    | cons a r =>
      rw [List.map_cons] at e
      obtain ⟨rfl, e2⟩ := List.cons.inj e
      obtain ⟨l', p, q⟩ := ih r e2
      exact ⟨a :: l', p.cons a, by rw [q, List.map_cons]⟩
  | swap x y l0 =>
    intro l e
    cases l with
    | nil => cases e
    | cons a r =>
      cases r with
      | nil => cases e
      | cons b r =>
        rw [List.map_cons, List.map_cons] at e
        obtain ⟨rfl, e2⟩ := List.cons.inj e
        obtain ⟨rfl, e3⟩ := List.cons.inj e2
        exact ⟨b :: a :: r, List.Perm.swap a b r, by rw [e3]; rfl⟩
  | trans h1 h2 i1 i2 =>
    intro l e
    obtain ⟨l2, p2, q2⟩ := i2 l e
    obtain ⟨l1, p1, q1⟩ := i1 l2 q2
    exact ⟨l1, p1.trans p2, q1⟩
theorem cut_to (xs : List V) (j : Int) (h0 : 0 ≤ j) : cutV xs none (some j) = xs.take j.toNat := by
  obtain ⟨k, rfl⟩ := Int.eq_ofNat_of_zero_le h0
  unfold cutV
  rw [HT.sIx_none, List.drop_zero, HT.sIx_nat, Nat.sub_zero, Int.toNat_natCast]
  by_cases h : k ≤ xs.length
  · rw [Nat.min_eq_left h]
  · rw [Nat.min_eq_right (by omega), List.take_of_length_le (Nat.le_refl _), List.take_of_length_le (by omega)]
def nmAll : List Str := ["a", "b", "c", "p", "q", "r", "ab", "ba", "zz", "abcdefgh", "row", "kind", "tell", "ever", "z"]
/-- names, ascending -/
structure Nms (ns : List Str) : Prop where
  up : sortedS ns = true
  nd : ns.Nodup
  of : ∀ n ∈ ns, n ∈ nmAll
section
variable {P : Program} {w : World} {K : PySem.W.Frag} {mg : Str → Option Value} {base : Heap}
theorem scNamed : FnScope ["bag", "many", "names"] ["bag", "many"] (defScope sNamed) := ⟨rfl, rfl, rfl, by decide +kernel, rfl, by decide +kernel, by decide +kernel⟩
structure TxtC (mg : Str → Option Value) : Prop where
  b : TxtB mg
  tup : mg "tuple" = none
  sor : mg "sorted" = none
  set : mg "set" = none
  dct : mg "dict" = none
def spNamed : Sp := fun vs H Q _ => ∃ (bg : Addr) (m : Int), vs = [.ref bg, .int m] ∧ Bag H bg ∧ 0 ≤ m ∧ m ≤ 15 ∧ ∀ (p : Addr) (ns : List Str) (H' : Hp), Ext bg H H' → H p = none → H' p = some (.tup (ns.map V.str)) → Nms ns → ns.length = m.toNat → Q (.ref p) H'
theorem ok_named {f fM : Addr} {fd fdM : FuncData} (F : Fun K "_law_named" "_law_named" sNamed f fd) (T : TxtC mg) (C : Ct P w K mg base "_law_mixed" 2 ["bag", "things"] spMixed fM fdM) : FnOk P w K mg base CX0 3 f fd ["bag", "many"] spNamed := by
  refine F.ok scNamed (fun vs H Q E h => ?_) (fun cdv A outer s H vs Q E hr h => ?_)
  · obtain ⟨bg, m, rfl, _⟩ := h
    rfl
  · obtain ⟨bg, m, rfl, hB, h0, h15, k⟩ := h
    refine ⟨_, (pss_cons (ps_set (i := 2) scNamed.nd rfl (Or.inl rfl) (pe_lst (pa_cons pe_str (pa_cons pe_str (pa_cons pe_str (pa_cons pe_str (pa_cons pe_str (pa_cons pe_str (pa_cons pe_str (pa_cons pe_str (pa_cons pe_str (pa_cons pe_str (pa_cons pe_str (pa_cons pe_str (pa_cons pe_str (pa_cons pe_str (pa_cons pe_str pa_nil)))))))))))))))))
      (pss_one (ps_ret (pe_callTy call_tuple_of (by rfl) T.tup (by decide +kernel) (pa_cons (pe_callB cr_sortedS (by rfl) T.sor (by decide +kernel)
        (pa_cons (pe_slice sl_list (pe_call C.G hr (by rfl) C.m C.kp C.b .nil pass0 (pa_cons (pv 0) (pa_cons (pv 2) pa_nil))) po_none (po_some (pv 1))) pa_nil)) pa_nil))))), ?_⟩
    have hl15 : nmAll.length = 15 := by decide
    refine ⟨Nat.le_of_lt (small1000 (by decide)), fun p np => ?_⟩
    have E0 : Ext bg H (upd H p (.lst (nmAll.map V.str))) := (Ext.of_same hB Same.refl').new np
    have pb : p ≠ bg := fun w => hB.there (w ▸ np)
    refine ⟨_, rfl, _, rfl, bg, p, nmAll.map V.str, rfl, E0.bag, pb, .inl upd_same, by rw [List.length_map, hl15]; decide, fun q ys H2 E2 nq eq py => ?_⟩
    obtain ⟨zs, pz, rfl⟩ := perm_of_map py nmAll rfl
    have hz : zs.length = 15 := by rw [pz.length_eq, hl15]
    have E02 := E0.trans E2
    refine ⟨_, rfl, _, rfl, _, _, rfl, SqL.of eq, fun r nr => ?_⟩
    rw [cut_to _ m h0, ← List.map_take]
    refine ⟨r, zs.take m.toNat, rfl, SqL.of upd_same, by rw [List.length_take]; omega, fun us t pu su nt => ?_⟩
    refine ⟨t, _, rfl, .inl ⟨SqL.of upd_same, fun l nl => ?_⟩⟩
    have E3 : Ext bg H (upd (upd (upd H2 r (.lst ((zs.take m.toNat).map V.str))) t (.lst (us.map V.str))) l (.tup (us.map V.str))) := ((E02.new nr).new nt).new nl
    have ndz : zs.Nodup := pz.nodup_iff.mpr (by decide +kernel)
    refine k l us _ E3 (newAt ((E02.new nr).new nt) nl) upd_same ⟨su, pu.nodup_iff.mpr (ndz.sublist (List.take_sublist ..)), fun n hn => pz.mem_iff.mp (List.mem_of_mem_take (pu.mem_iff.mp hn))⟩ ?_
    rw [pu.length_eq, List.length_take]
    omega
end
end KaG
set_option maxRecDepth 100000
set_option maxHeartbeats 2000000
namespace KaG
open PySem PySem.Spec PyProof.Rows L2
theorem ix_or {X : Cx} {r1 r2 : R2} (h1 : IxR X r1) (h2 : IxR X r2) : IxR X (fun x y H Q => r1 x y H Q ∨ r2 x y H Q) :=
  fun value slice pins s σ H x y v u Q I rx ry h hs => h.elim (fun z => h1 value slice pins s σ H x y v u Q I rx ry z hs) (fun z => h2 value slice pins s σ H x y v u Q I rx ry z hs)
section
variable {P : Program} {w : World} {K : PySem.W.Frag} {mg : Str → Option Value} {base : Heap}
def spSome2 : Sp := fun vs H Q _ => ∃ (bg l : Addr) (xs : List V), vs = [.ref bg, .ref l] ∧ Bag H bg ∧ l ≠ bg ∧ Sq2 H l xs ∧ 0 < xs.length ∧ xs.length ≤ 1000 ∧ ∀ (v : V) (H' : Hp), v ∈ xs → Ext bg H H' → Q v H'
theorem ok_some2 {f fT : Addr} {fd fdT : FuncData} (F : Fun K "_law_some" "_law_some" sSome f fd) (T : TxtB mg) (C : Ct P w K mg base "_law_take" 1 ["bag", "upto"] spTake fT fdT) : FnOk P w K mg base CX0 2 f fd ["bag", "things"] spSome2 := by
  refine F.ok scSome (fun vs H Q E h => ?_) (fun cdv A outer s H vs Q E hr h => ?_)
  · obtain ⟨bg, l, xs, rfl, _⟩ := h
    rfl
  · obtain ⟨bg, l, xs, rfl, hB, hne, hl, h0, h1, k⟩ := h
    refine ⟨_, pss_one (ps_ret (pe_ix (ix_or ix_list ix_tup) (pv 1) (pe_call C.G hr (by rfl) C.m C.kp C.b .nil pass0 (pa_cons (pv 0) (pa_cons (pe_callB call_len_seq (by rfl) T.len PySem.boot_len (pa_cons (pv 1) pa_nil)) pa_nil))) (fun _ _ => rfl))), ?_⟩
    have at1 : ∀ z : Int, 0 ≤ z → z < xs.length → ∃ v, atI xs z = some v ∧ v ∈ xs := fun z z0 z1 => by
      have hz : z.toNat < xs.length := by omega
      have q := atI_nat (show xs[z.toNat]? = some xs[z.toNat] by simp [hz])
      rw [show ((z.toNat : Nat) : Int) = z by omega] at q
      exact ⟨_, q, List.getElem_mem hz⟩
    rcases hl with hl | hl
    · refine ⟨_, rfl, _, rfl, _, rfl, _, _, rfl, .inl (SqL.of hl), bg, (xs.length : Int), rfl, hB, by omega, by omega, fun z H' E1 z0 z1 => ?_⟩
      obtain ⟨v, ea, mv⟩ := at1 z z0 z1
      exact .inl ⟨l, xs, z, v, rfl, rfl, SqL.of (E1.keep l _ hne hl), ea, k v _ mv E1⟩
    · refine ⟨_, rfl, _, rfl, _, rfl, _, _, rfl, .inr (SqT.of hl), bg, (xs.length : Int), rfl, hB, by omega, by omega, fun z H' E1 z0 z1 => ?_⟩
      obtain ⟨v, ea, mv⟩ := at1 z z0 z1
      exact .inr ⟨l, xs, z, v, rfl, rfl, SqT.of (E1.keep l _ hne hl), ea, k v _ mv E1⟩
theorem scNumbers : FnScope ["bag", "most"] ["bag"] (defScope sNumbers) := ⟨rfl, rfl, rfl, by decide +kernel, rfl, by decide +kernel, by decide +kernel⟩
def spNumbers : Sp := fun vs H Q _ => ∃ bg : Addr, vs = [.ref bg] ∧ Bag H bg ∧ ∀ (p : Addr) (a t m : Int) (H' : Hp), Ext bg H H' → H p = none → H' p = some (.tup [.int a, .int t, .int m]) → 1 ≤ a → a ≤ 9 → 0 ≤ t → t ≤ 4 → 0 ≤ m → m ≤ 9 → Q (.ref p) H'
theorem ints_in {lo hi : Int} {ns : List Int} (h : ∀ n ∈ ns, lo ≤ n ∧ n ≤ hi) {v : V} (m : v ∈ ns.map V.int) : ∃ n, v = .int n ∧ lo ≤ n ∧ n ≤ hi := by
  obtain ⟨n, hn, rfl⟩ := List.mem_map.mp m
  exact ⟨n, rfl, h n hn⟩
theorem ok_numbers {f fS fT : Addr} {fd fdS fdT : FuncData} (F : Fun K "_law_numbers" "_law_numbers" sNumbers f fd) (C : Ct P w K mg base "_law_some" 2 ["bag", "things"] spSome2 fS fdS) (CT : Ct P w K mg base "_law_take" 1 ["bag", "upto"] spTake fT fdT) : FnOk P w K mg base CX0 3 f fd ["bag"] spNumbers := by
  refine F.ok scNumbers (fun vs H Q E h => ?_) (fun cdv A outer s H vs Q E hr h => ?_)
  · obtain ⟨bg, rfl, _⟩ := h
    rfl
  · obtain ⟨bg, rfl, hB, k⟩ := h
    have hr1 : Room 1 (A.deeper (envOfC "_law_numbers" (defScope sNumbers) s.heap.objs.size f cdv)) := hr.mono (by decide)
    refine ⟨_, (pss_cons (ps_set (i := 1) scNumbers.nd rfl (Or.inl rfl) (pe_call C.G hr (by rfl) C.m C.kp C.b .nil pass0 (pa_cons (pv 0) (pa_cons (pe_lst (pa_cons pe_int (pa_cons pe_int (pa_cons pe_int (pa_cons pe_int (pa_cons pe_int (pa_cons pe_int (pa_cons pe_int (pa_cons pe_int (pa_cons pe_int (pa_cons pe_int pa_nil))))))))))) pa_nil))))
      (pss_one (ps_ret (pe_tup (pa_cons (pe_op op_add pe_int (pe_call C.G hr (by rfl) C.m C.kp C.b .nil pass0 (pa_cons (pv 0) (pa_cons (pe_lst (pa_cons pe_int (pa_cons pe_int (pa_cons pe_int (pa_cons pe_int (pa_cons (pe_call CT.G hr1 (by rfl) CT.m CT.kp CT.b .nil pass0 (pa_cons (pv 0) (pa_cons pe_int pa_nil))) pa_nil)))))) pa_nil))))
        (pa_cons (pe_call C.G hr (by rfl) C.m C.kp C.b .nil pass0 (pa_cons (pv 0) (pa_cons (pe_lst (pa_cons pe_int (pa_cons pe_int (pa_cons pe_int (pa_cons pe_int (pa_cons pe_int (pa_cons pe_int pa_nil))))))) pa_nil))) (pa_cons (pv 1) pa_nil))))))), ?_⟩
    have sz : ∀ {m : Nat}, m ≤ 900 → m ≤ sizeLine := fun h => Nat.le_of_lt (small1000 (by omega))
    refine ⟨_, rfl, sz (by decide), fun p1 n1 => ?_⟩
    have E1 : Ext bg H (upd H p1 (.lst (([9, 9, 9, 9, 1, 2, 3, 5, 8, 0] : List Int).map V.int))) := (Ext.of_same hB Same.refl').new n1
    refine ⟨bg, p1, _, rfl, E1.bag, fun w => hB.there (w ▸ n1), .inl (show upd H p1 (.lst (([9, 9, 9, 9, 1, 2, 3, 5, 8, 0] : List Int).map V.int)) p1 = _ from upd_same), by decide, by decide, fun v H2 mv E2 => ?_⟩
    obtain ⟨m, rfl, m0, m9⟩ := ints_in (lo := 0) (hi := 9) (by decide) mv
    have E12 := E1.trans E2
    refine ⟨_, rfl, _, rfl, bg, 9, rfl, E12.bag, by decide, by decide, fun z H3 E3 z0 z1 => ?_⟩
    have E13 := E12.trans E3
    refine ⟨sz (by show 5 ≤ 900; decide), fun p2 n2 => ?_⟩
    have E4 : Ext bg H (upd H3 p2 (.lst (([0, 0, 1, 2, z] : List Int).map V.int))) := E13.new n2
    refine ⟨bg, p2, _, rfl, E4.bag, fun w => E13.bag.there (w ▸ n2), .inl (show upd H3 p2 (.lst (([0, 0, 1, 2, z] : List Int).map V.int)) p2 = _ from upd_same), by show 0 < 5; decide, by show 5 ≤ 1000; decide, fun v H5 mv E5 => ?_⟩
    obtain ⟨b, rfl, b0, b8⟩ := ints_in (lo := 0) (hi := 8) (by
      intro n hn
      simp only [List.mem_cons, List.mem_nil_iff, or_false] at hn
      omega) mv
    have E15 := E4.trans E5
    refine ⟨_, _, rfl, rfl, _, rfl, sz (by decide), fun p3 n3 => ?_⟩
    have E6 : Ext bg H (upd H5 p3 (.lst (([0, 1, 1, 2, 3, 4] : List Int).map V.int))) := E15.new n3
    refine ⟨bg, p3, _, rfl, E6.bag, fun w => E15.bag.there (w ▸ n3), .inl (show upd H5 p3 (.lst (([0, 1, 1, 2, 3, 4] : List Int).map V.int)) p3 = _ from upd_same), by decide, by decide, fun v H7 mv E7 => ?_⟩
    obtain ⟨t, rfl, t0, t4⟩ := ints_in (lo := 0) (hi := 4) (by decide) mv
    have E17 := E6.trans E7
    refine ⟨_, rfl, sz (by show 3 ≤ 900; decide), fun p n => ?_⟩
    exact k p (1 + b) t m _ (E17.new n) (newAt E17 n) upd_same (by omega) (by omega) t0 t4 m0 m9
end
end KaG
set_option maxRecDepth 100000
set_option maxHeartbeats 2000000
namespace KaG
open PySem PySem.Spec PyProof.Rows L2
/-- the items of a need on some rows and kinds -/
inductive NeedV (rows names : List Str) : List V → Prop
  | row (n : Str) (t m : Int) (h : n ∈ rows) (t0 : 0 ≤ t) (t4 : t ≤ 4) (m0 : 0 ≤ m) (m9 : m ≤ 9) : NeedV rows names [.str "row", .str n, .int t, .int m]
  | kind (n : Str) (a t m : Int) (h : n ∈ names) (a1 : 1 ≤ a) (a9 : a ≤ 9) (t0 : 0 ≤ t) (t4 : t ≤ 4) (m0 : 0 ≤ m) (m9 : m ≤ 9) : NeedV rows names [.str "kind", .str n, .int a, .int t, .int m]
section
variable {P : Program} {w : World} {K : PySem.W.Frag} {mg : Str → Option Value} {base : Heap}
theorem scNeed : FnScope ["bag", "rows", "names", "after", "tell", "most"] ["bag", "rows", "names"] (defScope sNeed) := ⟨rfl, rfl, rfl, by decide +kernel, rfl, by decide +kernel, by decide +kernel⟩
def spNeed : Sp := fun vs H Q _ => ∃ (bg r n : Addr) (rows names : List Str), vs = [.ref bg, .ref r, .ref n] ∧ Bag H bg ∧ r ≠ bg ∧ n ≠ bg ∧ H r = some (.tup (rows.map V.str)) ∧ H n = some (.tup (names.map V.str)) ∧ 0 < rows.length ∧ 0 < names.length ∧ rows.length ≤ 20 ∧ names.length ≤ 20 ∧
  ∀ (p : Addr) (xs : List V) (H' : Hp), Ext bg H H' → H p = none → H' p = some (.tup xs) → NeedV rows names xs → Q (.ref p) H'
theorem strs_in {ns : List Str} {v : V} (m : v ∈ ns.map V.str) : ∃ n, v = .str n ∧ n ∈ ns := by
  obtain ⟨n, hn, rfl⟩ := List.mem_map.mp m
  exact ⟨n, rfl, hn⟩
theorem ok_need {f fN fS fT : Addr} {fd fdN fdS fdT : FuncData} (F : Fun K "_law_need" "_law_need" sNeed f fd) (CN : Ct P w K mg base "_law_numbers" 3 ["bag"] spNumbers fN fdN) (C : Ct P w K mg base "_law_some" 2 ["bag", "things"] spSome2 fS fdS) (CT : Ct P w K mg base "_law_take" 1 ["bag", "upto"] spTake fT fdT) : FnOk P w K mg base CX0 4 f fd ["bag", "rows", "names"] spNeed := by
  refine F.ok scNeed (fun vs H Q E h => ?_) (fun cdv A outer s H vs Q E hr h => ?_)
  · obtain ⟨bg, r, n, rows, names, rfl, _⟩ := h
    rfl
  · obtain ⟨bg, r, n, rows, names, rfl, hB, rb, nb, er, en, r0, n0, r20, n20, k⟩ := h
    have hr2 : Room 2 (A.deeper (envOfC "_law_need" (defScope sNeed) s.heap.objs.size f cdv)) := hr.mono (by decide)
    have hr1 : Room 1 (A.deeper (envOfC "_law_need" (defScope sNeed) s.heap.objs.size f cdv)) := hr.mono (by decide)
    refine ⟨_, (pss_cons (ps_asg (pe_call CN.G hr (by rfl) CN.m CN.kp CN.b .nil pass0 (pa_cons (pv 0) pa_nil)) (pg_tup (by rfl) (pgs_cons (pg_name (i := 3) scNeed.nd rfl (Or.inl rfl)) (pgs_cons (pg_name (i := 4) scNeed.nd rfl (Or.inl rfl)) (pgs_cons (pg_name (i := 5) scNeed.nd rfl (Or.inl rfl)) pgs_nil)))))
      (pss_cons (ps_if (pt_cmpR op_lt (pe_call CT.G hr1 (by rfl) CT.m CT.kp CT.b .nil pass0 (pa_cons (pv 0) (pa_cons pe_int pa_nil))) pe_int (nomark _))
        (pss_one (ps_ret (pe_tup (pa_cons pe_str (pa_cons (pe_call C.G hr2 (by rfl) C.m C.kp C.b .nil pass0 (pa_cons (pv 0) (pa_cons (pv 1) pa_nil))) (pa_cons (pv 4) (pa_cons (pv 5) pa_nil))))))) pss_nil)
      (pss_one (ps_ret (pe_tup (pa_cons pe_str (pa_cons (pe_call C.G hr2 (by rfl) C.m C.kp C.b .nil pass0 (pa_cons (pv 0) (pa_cons (pv 2) pa_nil))) (pa_cons (pv 3) (pa_cons (pv 4) (pa_cons (pv 5) pa_nil)))))))))), ?_⟩
    have sz : ∀ {m : Nat}, m ≤ 900 → m ≤ sizeLine := fun h => Nat.le_of_lt (small1000 (by omega))
    refine ⟨_, rfl, bg, rfl, hB, fun p a t m H1 E1 np ep a1 a9 t0 t4 m0 m9 => ?_⟩
    refine ⟨p, _, rfl, SqT.of ep, by rfl, _, _, rfl, _, _, rfl, _, _, rfl, rfl, ?_⟩
    refine ⟨_, rfl, bg, 5, rfl, E1.bag, by decide, by decide, fun z H2 E2 z0 z1 => ?_⟩
    have E12 := E1.trans E2
    refine ⟨_, _, rfl, rfl, _, rfl, ite2 (fun hc => ?_) fun hc => ?_⟩
    · refine ⟨_, rfl, _, rfl, bg, r, rows.map V.str, rfl, E12.bag, rb, .inr (E12.keep r _ rb er), by rw [List.length_map]; exact r0, by rw [List.length_map]; omega, fun v H3 mv E3 => ?_⟩
      obtain ⟨x, rfl, hx⟩ := strs_in mv
      have E13 := E12.trans E3
      refine ⟨_, rfl, _, rfl, sz (by show 4 ≤ 900; decide), fun q nq => ?_⟩
      exact k q _ _ (E13.new nq) (newAt E13 nq) upd_same (.row x t m hx t0 t4 m0 m9)
    · refine ⟨_, rfl, _, rfl, bg, n, names.map V.str, rfl, E12.bag, nb, .inr (E12.keep n _ nb en), by rw [List.length_map]; exact n0, by rw [List.length_map]; omega, fun v H3 mv E3 => ?_⟩
      obtain ⟨x, rfl, hx⟩ := strs_in mv
      have E13 := E12.trans E3
      refine ⟨_, rfl, _, rfl, _, rfl, sz (by show 5 ≤ 900; decide), fun q nq => ?_⟩
      exact k q _ _ (E13.new nq) (newAt E13 nq) upd_same (.kind x a t m hx a1 a9 t0 t4 m0 m9)
end
end KaG
set_option maxRecDepth 100000
set_option maxHeartbeats 2000000
namespace KaG
open PySem PySem.Spec PyProof.Rows L2
section
variable {P : Program} {w : World} {K : PySem.W.Frag} {mg : Str → Option Value} {base : Heap}
theorem scMore : FnScope ["bag", "sort", "rows"] ["bag", "sort", "rows"] (defScope sMore) := ⟨rfl, rfl, rfl, by decide +kernel, rfl, by decide +kernel, by decide +kernel⟩
def spMore : Sp := fun vs H Q _ => ∃ (bg r : Addr) (v : V) (rows : List Str), vs = [.ref bg, v, .ref r] ∧ Bag H bg ∧ r ≠ bg ∧ H r = some (.tup (rows.map V.str)) ∧ rows.length = 2 ∧
  ∀ (p : Addr) (xs : List V) (H' : Hp), Ext bg H H' → H p = none → H' p = some (.lst xs) → (xs = [] ∨ ∃ q its, xs = [.ref q] ∧ H q = none ∧ H' q = some (.tup its) ∧ ∀ names, NeedV rows names its) → Q (.ref p) H'
theorem ok_more {f fS fT : Addr} {fd fdS fdT : FuncData} (F : Fun K "_law_more_needs" "_law_more_needs" sMore f fd) (C : Ct P w K mg base "_law_some" 2 ["bag", "things"] spSome2 fS fdS) (CT : Ct P w K mg base "_law_take" 1 ["bag", "upto"] spTake fT fdT) : FnOk P w K mg base CX0 3 f fd ["bag", "sort", "rows"] spMore := by
  refine F.ok scMore (fun vs H Q E h => ?_) (fun cdv A outer s H vs Q E hr h => ?_)
  · obtain ⟨bg, r, v, rows, rfl, _⟩ := h
    rfl
  · obtain ⟨bg, r, v, rows, rfl, hB, rb, er, r2, k⟩ := h
    have hr1 : Room 1 (A.deeper (envOfC "_law_more_needs" (defScope sMore) s.heap.objs.size f cdv)) := hr.mono (by decide)
    refine ⟨_, (pss_cons (ps_if (pt_cmpR op_gt (pe_call CT.G hr1 (by rfl) CT.m CT.kp CT.b .nil pass0 (pa_cons (pv 0) (pa_cons pe_int pa_nil))) pe_int (nomark _)) (pss_one (ps_ret (pe_lst pa_nil))) pss_nil)
      (pss_one (ps_ret (pe_lst (pa_cons (pe_tup (pa_cons pe_str (pa_cons (pe_ix ix_tup (pv 2) pe_int (fun _ _ => rfl)) (pa_cons (pe_call CT.G hr1 (by rfl) CT.m CT.kp CT.b .nil pass0 (pa_cons (pv 0) (pa_cons pe_int pa_nil)))
        (pa_cons (pe_call C.G hr (by rfl) C.m C.kp C.b .nil pass0 (pa_cons (pv 0) (pa_cons (pe_lst (pa_cons pe_int (pa_cons pe_int (pa_cons pe_int (pa_cons pe_int pa_nil))))) pa_nil))) pa_nil))))) pa_nil))))), ?_⟩
    have sz : ∀ {m : Nat}, m ≤ 900 → m ≤ sizeLine := fun h => Nat.le_of_lt (small1000 (by omega))
    obtain ⟨ra, rc, rfl⟩ : ∃ a b, rows = [a, b] := by
      match rows, r2 with
      | [a, b], _ => exact ⟨a, b, rfl⟩
    refine ⟨_, rfl, bg, 3, rfl, hB, by decide, by decide, fun z H1 E1 z0 z1 => ?_⟩
    refine ⟨_, _, rfl, rfl, _, rfl, ite2 (fun hc => ?_) fun hc => ?_⟩
    · refine ⟨Nat.zero_le _, fun p np => ?_⟩
      exact k p [] _ (E1.new np) (newAt E1 np) upd_same (.inl rfl)
    · refine ⟨_, rfl, r, _, 1, .str rc, rfl, rfl, SqT.of (E1.keep r _ rb er), rfl, _, rfl, bg, 5, rfl, E1.bag, by decide, by decide, fun t H2 E2 t0 t5 => ?_⟩
      have E12 := E1.trans E2
      refine ⟨_, rfl, sz (by decide), fun p2 n2 => ?_⟩
      have E4 : Ext bg H (upd H2 p2 (.lst (([9, 9, 0, 4] : List Int).map V.int))) := E12.new n2
      refine ⟨bg, p2, _, rfl, E4.bag, fun w => E12.bag.there (w ▸ n2), .inl (show upd H2 p2 (.lst (([9, 9, 0, 4] : List Int).map V.int)) p2 = _ from upd_same), by decide, by decide, fun v H5 mv E5 => ?_⟩
      obtain ⟨m, rfl, m0, m9⟩ := ints_in (lo := 0) (hi := 9) (by decide) mv
      have E15 := E4.trans E5
      refine ⟨sz (by show 4 ≤ 900; decide), fun q nq => ⟨sz (by show 1 ≤ 900; decide), fun p np => ?_⟩⟩
      have E6 := E15.new (o := .tup [.str "row", .str rc, .int t, .int m]) nq
      have pq : q ≠ p := fun z => by rw [← z, upd_same] at np; cases np
      exact k p _ _ (E6.new np) (newAt E6 np) upd_same (.inr ⟨q, _, rfl, newAt E15 nq, by rw [upd_ne pq, upd_same], fun names => .row rc t m (by simp) t0 (by omega) m0 m9⟩)
end
end KaG
set_option maxRecDepth 100000
set_option maxHeartbeats 2000000
namespace KaG
open PySem PySem.Spec PyProof.Rows L2
structure Kd where
  name : Str
  keep : Int
  bar : Int
  gs : List (List (List V))
abbrev Grd (H : Hp) (ga : Addr) (g : List (List V)) : Prop := ∃ ns : List Addr, H ga = some (.tup (ns.map V.ref)) ∧ Paired (fun n its => H n = some (.tup its)) ns g
abbrev KdAt (H : Hp) (ka : Addr) (k : Kd) : Prop := ∃ (gt : Addr) (gas : List Addr), H ka = some (.tup [.str k.name, .int k.keep, .int k.bar, .ref gt]) ∧ H gt = some (.tup (gas.map V.ref)) ∧ Paired (fun ga g => Grd H ga g) gas k.gs
structure BookAt (H : Hp) (b : Addr) (rows : List Str) (ks : List Kd) : Prop where
  it : ∃ (r kt : Addr) (kas : List Addr), H b = some (.tup [.ref r, .ref kt]) ∧ H r = some (.tup (rows.map V.str)) ∧ H kt = some (.tup (kas.map V.ref)) ∧ Paired (fun ka k => KdAt H ka k) kas ks
/-- what the numbers and names of a rulebook are -/
structure BookOk (rows : List Str) (ks : List Kd) : Prop where
  rw : Nms rows
  nm : Nms (ks.map Kd.name)
  r0 : 0 < rows.length
  k0 : 0 < ks.length
  k5 : ks.length ≤ 5
  num : ∀ k ∈ ks, 1 ≤ k.keep ∧ k.keep ≤ 8 ∧ 0 ≤ k.bar ∧ k.bar ≤ 12 ∧ k.gs.length ≤ 4
  grd : ∀ k ∈ ks, ∀ g ∈ k.gs, 0 < g.length ∧ g.length ≤ 3 ∧ ∀ n ∈ g, NeedV rows (ks.map Kd.name) n
theorem Paired.mono' {α β : Type} {R S : α → β → Prop} (h : ∀ a b, R a b → S a b) : ∀ {xs : List α} {ys : List β}, Paired R xs ys → Paired S xs ys
  | _, _, .nil => .nil
  | _, _, .cons a r => .cons (h _ _ a) (Paired.mono' h r)
/-- what of the heap's tuples stays -/
def TSame (H H' : Hp) : Prop := ∀ b xs, H b = some (.tup xs) → H' b = some (.tup xs)
theorem TSame.of {H H' : Hp} (s : Same H H') : TSame H H' := fun b xs e => s b _ e
theorem TSame.ext {H H' : Hp} {bg : Addr} (hb : Bag H bg) (E : Ext bg H H') : TSame H H' := fun b xs e => E.keep b _ (fun z => by
  obtain ⟨c, st, i, b2, ns, e1, _⟩ := hb
  rw [z, e1] at e
  cases e) e
theorem Grd.ts {H H' : Hp} {ga : Addr} {g : List (List V)} (h : Grd H ga g) (s : TSame H H') : Grd H' ga g := by
  obtain ⟨ns, e, p⟩ := h
  exact ⟨ns, s _ _ e, Paired.mono' (fun a b q => s _ _ q) p⟩
theorem KdAt.ts {H H' : Hp} {ka : Addr} {k : Kd} (h : KdAt H ka k) (s : TSame H H') : KdAt H' ka k := by
  obtain ⟨gt, gas, e1, e2, p⟩ := h
  exact ⟨gt, gas, s _ _ e1, s _ _ e2, Paired.mono' (fun a b q => Grd.ts q s) p⟩
theorem BookAt.ts {H H' : Hp} {b : Addr} {rows : List Str} {ks : List Kd} (h : BookAt H b rows ks) (s : TSame H H') : BookAt H' b rows ks := by
  obtain ⟨r, kt, kas, e1, e2, e3, p⟩ := h
  exact ⟨⟨r, kt, kas, s _ _ e1, s _ _ e2, s _ _ e3, Paired.mono' (fun a b q => KdAt.ts q s) p⟩⟩
theorem paired_at {α β : Type} {R : α → β → Prop} : ∀ {xs : List α} {ys : List β} {i : Nat} {x : α}, Paired R xs ys → xs[i]? = some x → ∃ y, ys[i]? = some y ∧ R x y
  | _, _, i, _, .nil, e => by simp at e
  | _, _, 0, _, .cons h r, e => by
    cases e
    exact ⟨_, rfl, h⟩
  | _, _, i + 1, _, .cons h r, e => by
    obtain ⟨y, q1, q2⟩ := paired_at r (show _ = some _ from e)
    exact ⟨y, q1, q2⟩
theorem paired_len {α β : Type} {R : α → β → Prop} : ∀ {xs : List α} {ys : List β}, Paired R xs ys → xs.length = ys.length
  | _, _, .nil => rfl
  | _, _, .cons h r => by rw [List.length_cons, List.length_cons, paired_len r]
abbrev sKindNames : Stmt := top 7
section
variable {P : Program} {w : World} {K : PySem.W.Frag} {mg : Str → Option Value} {base : Heap}
theorem scKindNames : FnScope ["rulebook", "kind"] ["rulebook"] (defScope sKindNames) := ⟨rfl, rfl, rfl, by decide +kernel, rfl, by decide +kernel, by decide +kernel⟩
def spKindNames : Sp := fun vs H Q _ => ∃ (b : Addr) (rows : List Str) (ks : List Kd), vs = [.ref b] ∧ BookAt H b rows ks ∧ ks.length ≤ 900 ∧ ∀ (p : Addr) (H' : Hp), Same H H' → H p = none → H' p = some (.lst ((ks.map Kd.name).map V.str)) → Q (.ref p) H'
theorem ok_kindNames {f : Addr} {fd : FuncData} (F : Fun K "kind_names" "kind_names" sKindNames f fd) : FnOk P w K mg base CX0 1 f fd ["rulebook"] spKindNames := by
  refine F.ok scKindNames (fun vs H Q E h => ?_) (fun cdv A outer s H vs Q E hr h => ?_)
  · obtain ⟨b, rows, ks, rfl, _⟩ := h
    rfl
  · obtain ⟨b, rows, ks, rfl, hA, hk, k⟩ := h
    refine ⟨_, pss_one (ps_ret (pe_lc (own := [("kind", 1)]) (g := gName 1) (by rfl) scKindNames.nd (pi_tup (pe_ix ix_tup (pv 0) pe_int (fun _ _ => rfl)))
      (blkOk_by (own := [("kind", 1)]) (N := ["rulebook", "kind"]) (sc := defScope sKindNames) (by decide +kernel)) (fun _ _ _ _ _ => pg_name (i := 1) scKindNames.nd rfl (Or.inl rfl)) (fun _ _ _ _ _ => pts_nil)
      (fun _ _ _ _ _ => pe_ix (r := rIxT K) ix_tup (pv 1) pe_int (fun _ _ => rfl)))), ?_⟩
    obtain ⟨r, kt, kas, e1, e2, e3, pk⟩ := hA
    have hlen := paired_len pk
    refine ⟨_, rfl, b, _, 1, .ref kt, rfl, rfl, SqT.of e1, rfl, kt, rfl, ⟨_, SqT.of e3⟩, fun D hD => lc_tup (K := K) (a := kt) (xs := kas.map V.ref) (fun i G => Same H G ∧ G D = some (.lst (((ks.take i).map Kd.name).map V.str))) ?_ ?_ ?_ ?_⟩
    · exact ⟨same_upd hD, upd_same⟩
    · rintro i G _ ⟨S, _⟩
      exact SqT.of (S _ _ e3)
    · rintro i x G hx ⟨S, gD⟩
      rw [List.getElem?_map] at hx
      obtain ⟨ka, ha, rfl⟩ := Option.map_eq_some_iff.mp hx
      obtain ⟨kd, hkd, gt, gas, f1, _⟩ := paired_at pk ha
      refine ⟨rfl, ?_⟩
      unfold tYes
      dsimp only
      refine iteT ⟨_, rfl, ka, _, 0, .str kd.name, rfl, rfl, SqT.of (S _ _ f1), rfl, _, gD, ?_, ?_, ?_⟩
      · rw [List.length_map, List.length_map, List.length_take]
        exact small1000 (by omega)
      · exact fun b u e => by rw [upd_ne (ne_of_none e hD)]; exact S b u e
      · rw [upd_same, List.take_add_one, hkd]
        simp
    · rintro G ⟨S, gD⟩
      rw [List.length_map, hlen, List.take_length] at gD
      exact k D G S hD gD
end
end KaG
set_option maxRecDepth 100000
set_option maxHeartbeats 2000000
namespace KaG
open PySem PySem.Spec PyProof.Rows L2
abbrev Gr := List (List V)
def keepLt (ks : List Kd) (p : Str) (a : Int) : Bool := ks.any fun k => decide (k.name = p) && decide (a < k.keep)
def ndLive (ks : List Kd) (B : List Str) : List V → Bool
  | [.str _, .str p, .int a, .int _, .int _] => decide (p ∈ B) && keepLt ks p a
  | _ => true
def grLive (ks : List Kd) (B : List Str) (g : Gr) : Bool := g.all (ndLive ks B)
def gsOf (ks : List Kd) (n : Str) : List Gr := match ks.find? (fun k => decide (k.name = n)) with
  | some k => k.gs
  | none => []
def grAt (ks : List Kd) (n : Str) (i : Nat) : Gr := (gsOf ks n).getD i []
/-- the places of a list at which a test holds -/
def ats {α : Type} (t : α → Bool) (xs : List α) : List Nat := (List.range xs.length).filter fun i => match xs[i]? with
  | some x => t x
  | none => false
def liveIx (ks : List Kd) (B : List Str) (n : Str) : List Nat := ats (grLive ks B) (gsOf ks n)
def ndForced (S C : List Str) : List V → Bool
  | [.str _, .str n, .int _, .int _] => decide (n ∈ S)
  | [.str _, .str p, .int _, .int _, .int _] => !decide (p ∈ C)
  | _ => false
def forcedPl (S C : List Str) (g : Gr) : List Nat := ats (ndForced S C) g
def ndOn (A : List Str) : List V → Bool
  | [.str _, .str p, .int _, .int _, .int _] => decide (p ∈ A)
  | _ => false
def placesOn (g : Gr) (A : List Str) : List Nat := ats (ndOn A) g
def jB (ks : List Kd) (n : Str) (B : List Str) : Bool := (gsOf ks n).any (grLive ks B)
def jC (ks : List Kd) (B S : List Str) (n : Str) (C : List Str) : Bool := (liveIx ks B n).any fun i => (forcedPl S C (grAt ks n i)).isEmpty
def jA (ks : List Kd) (B S C : List Str) (n : Str) (A : List Str) : Bool := (liveIx ks B n).any fun i => !(forcedPl S C (grAt ks n i)).isEmpty || !(placesOn (grAt ks n i) A).isEmpty
abbrev Jn := Str → List Str → Bool
def Clo (names : List Str) (J : Jn) (S : List Str) : Prop := ∀ n ∈ names, J n S = true → n ∈ S
def Mono (J : Jn) : Prop := ∀ n B B', (∀ x ∈ B, x ∈ B') → J n B = true → J n B' = true
structure IsL (names : List Str) (J : Jn) (B : List Str) : Prop where
  fl : B = names.filter fun n => decide (n ∈ B)
  clo : Clo names J B
  lst : ∀ S, Clo names J S → ∀ n ∈ B, n ∈ S
theorem IsL.sub {names : List Str} {J : Jn} {B : List Str} (h : IsL names J B) : ∀ n ∈ B, n ∈ names := fun n m => by
  rw [h.fl] at m
  exact (List.mem_filter.mp m).1
theorem IsL.uniq {names : List Str} {J : Jn} {B B' : List Str} (h : IsL names J B) (h' : IsL names J B') : B = B' := by
  have e : (fun n => decide (n ∈ B)) = fun n => decide (n ∈ B') := by
    funext n
    exact decide_eq_decide.mpr ⟨h.lst B' h'.clo n, h'.lst B h.clo n⟩
  rw [h.fl, h'.fl, e]
open Classical in
noncomputable def lfp (names : List Str) (J : Jn) : List Str := if h : ∃ B, IsL names J B then h.choose else []
theorem IsL.eq {names : List Str} {J : Jn} {B : List Str} (h : IsL names J B) : B = lfp names J := by
  unfold lfp
  rw [dif_pos ⟨B, h⟩]
  exact h.uniq (Exists.choose_spec (p := fun B => IsL names J B) ⟨B, h⟩)
/-- one turn of the program's growing -/
def grow1 (names : List Str) (J : Jn) (B : List Str) : List Str := names.filter fun n => decide (n ∈ B) || J n B
structure Grw (names : List Str) (J : Jn) (B : List Str) : Prop where
  fl : B = names.filter fun n => decide (n ∈ B)
  lst : ∀ S, Clo names J S → ∀ n ∈ B, n ∈ S
theorem Grw.nil {names : List Str} {J : Jn} : Grw names J [] := ⟨by symm; exact List.filter_eq_nil_iff.mpr fun n _ => by simp, fun _ _ _ m => nomatch m⟩
theorem Grw.next {names : List Str} {J : Jn} {B : List Str} (mo : Mono J) (h : Grw names J B) : Grw names J (grow1 names J B) := by
  refine ⟨?_, fun S c n m => ?_⟩
  · refine List.filter_congr fun n mn => ?_
    have : (n ∈ grow1 names J B) ↔ (decide (n ∈ B) || J n B) = true := ⟨fun z => (List.mem_filter.mp z).2, fun z => List.mem_filter.mpr ⟨mn, z⟩⟩
    cases e : (decide (n ∈ B) || J n B) with
    | true => exact (decide_eq_true (this.mpr e)).symm
    | false => exact (decide_eq_false fun z => by rw [this.mp z] at e; cases e).symm
  · obtain ⟨mn, z⟩ := List.mem_filter.mp m
    rcases Bool.or_eq_true _ _ ▸ z with z | z
    · exact h.lst S c n (of_decide_eq_true z)
    · exact c n mn (mo n B S (h.lst S c) z)
theorem filter_le {α : Type} {p q : α → Bool} : ∀ (xs : List α), (∀ x ∈ xs, p x = true → q x = true) → (xs.filter p).length ≤ (xs.filter q).length ∧ ((xs.filter p).length = (xs.filter q).length → xs.filter p = xs.filter q)
  | [], _ => ⟨Nat.le_refl _, fun _ => rfl⟩
  | x :: r, h => by
    obtain ⟨h1, h2⟩ := filter_le r fun y m => h y (List.mem_cons_of_mem _ m)
    have hx := h x (List.mem_cons_self ..)
    rw [List.filter_cons, List.filter_cons]
    cases ep : p x with
    | true =>
      rw [ep] at hx
      rw [hx rfl]
      simp only [if_true, List.length_cons]
      exact ⟨Nat.succ_le_succ h1, fun e => by rw [h2 (Nat.succ.inj e)]⟩
    | false =>
      cases eq : q x with
      | true =>
        simp only [if_true, Bool.false_eq_true, if_false, List.length_cons]
        exact ⟨by omega, fun e => by omega⟩
      | false =>
        simp only [Bool.false_eq_true, if_false]
        exact ⟨h1, h2⟩
theorem Grw.step {names : List Str} {J : Jn} {B : List Str} (h : Grw names J B) : B.length ≤ (grow1 names J B).length ∧ ((grow1 names J B).length = B.length → grow1 names J B = B ∧ Clo names J B) := by
  have hf := filter_le (p := fun n => decide (n ∈ B)) (q := fun n => decide (n ∈ B) || J n B) names fun x _ e => by
    have e : decide (x ∈ B) = true := e
    simp [e]
  rw [← h.fl] at hf
  refine ⟨hf.1, fun e => ?_⟩
  have e2 := hf.2 e.symm
  refine ⟨e2.symm, fun n mn j => ?_⟩
  have : n ∈ grow1 names J B := List.mem_filter.mpr ⟨mn, by rw [j, Bool.or_true]⟩
  rw [show grow1 names J B = B from e2.symm] at this
  exact this
theorem grow1_le {names : List Str} {J : Jn} {B : List Str} : (grow1 names J B).length ≤ names.length := List.length_filter_le ..
theorem Grw.done {names : List Str} {J : Jn} {B : List Str} (h : Grw names J B) (c : Clo names J B) : IsL names J B := ⟨h.fl, c, h.lst⟩
structure Chs (names : List Str) (J : Jn) (F : List Str) : Prop where
  sub : ∀ n ∈ F, n ∈ names
  nd : F.Nodup
  lst : ∀ S, Clo names J S → ∀ n ∈ F, n ∈ S
theorem Chs.nil {names : List Str} {J : Jn} : Chs names J [] := ⟨(fun _ m => nomatch m), List.nodup_nil, (fun _ _ _ m => nomatch m)⟩
theorem Chs.add {names : List Str} {J : Jn} {F : List Str} {n : Str} (mo : Mono J) (h : Chs names J F) (mn : n ∈ names) (nF : n ∉ F) (j : J n F = true) : Chs names J (F ++ [n]) := by
  refine ⟨fun x m => ?_, ?_, fun S c x m => ?_⟩
  · rcases List.mem_append.mp m with z | z
    · exact h.sub x z
    · rw [List.mem_singleton.mp z]
      exact mn
  · exact List.nodup_append.mpr ⟨h.nd, (by simp : [n].Nodup), fun a ma b mb e => by rw [List.mem_singleton.mp mb] at e; exact nF (e ▸ ma)⟩
  · rcases List.mem_append.mp m with z | z
    · exact h.lst S c x z
    · rw [List.mem_singleton.mp z]
      exact c n mn (mo n F S (h.lst S c) j)
theorem Chs.len {names : List Str} {J : Jn} {F : List Str} (h : Chs names J F) : F.length ≤ names.length := List.Nodup.length_le_of_subset h.nd h.sub
theorem Chs.full {names : List Str} {J : Jn} {F : List Str} (nd : names.Nodup) (h : Chs names J F) (e : names.length ≤ F.length) : ∀ n ∈ names, n ∈ F := fun n mn => by
  refine Classical.byContradiction fun z => ?_
  have h2 : (F ++ [n]).Nodup := List.nodup_append.mpr ⟨h.nd, (by simp : [n].Nodup), fun a ma b mb e => by rw [List.mem_singleton.mp mb] at e; exact z (e ▸ ma)⟩
  have h3 := List.Nodup.length_le_of_subset h2 (l₂ := names) fun x m => (List.mem_append.mp m).elim (h.sub x) fun y => by rw [List.mem_singleton.mp y]; exact mn
  rw [List.length_append, List.length_singleton] at h3
  omega
theorem Chs.mem {names : List Str} {J : Jn} {F B : List Str} (h : Chs names J F) (c : Clo names J F) (l : IsL names J B) : ∀ n, n ∈ F ↔ n ∈ B := fun n => ⟨h.lst B l.clo n, l.lst F c n⟩
theorem ndLive_cg {ks : List Kd} {B B' : List Str} (h : ∀ n, n ∈ B ↔ n ∈ B') : ndLive ks B = ndLive ks B' := by
  funext x
  unfold ndLive
  split
  · rw [decide_eq_decide.mpr (h _)]
  · rfl
theorem grLive_cg {ks : List Kd} {B B' : List Str} (h : ∀ n, n ∈ B ↔ n ∈ B') : grLive ks B = grLive ks B' := by
  funext g
  unfold grLive
  rw [ndLive_cg h]
theorem ats_mem {α : Type} {t : α → Bool} {xs : List α} {i : Nat} : i ∈ ats t xs ↔ ∃ x, xs[i]? = some x ∧ t x = true := by
  unfold ats
  rw [List.mem_filter, List.mem_range]
  constructor
  · rintro ⟨h1, h2⟩
    rw [List.getElem?_eq_getElem h1] at h2
    exact ⟨_, List.getElem?_eq_getElem h1, h2⟩
  · rintro ⟨x, h1, h2⟩
    refine ⟨(List.getElem?_eq_some_iff.mp h1).1, ?_⟩
    rw [h1]
    exact h2
theorem nd_mono {ks : List Kd} {B B' : List Str} (h : ∀ x ∈ B, x ∈ B') (n : List V) (e : ndLive ks B n = true) : ndLive ks B' n = true := by
  unfold ndLive at e ⊢
  split at e
  · rw [Bool.and_eq_true, decide_eq_true_eq] at e ⊢
    exact ⟨h _ e.1, e.2⟩
  · rfl
theorem jB_mono (ks : List Kd) : Mono (jB ks) := fun n B B' h e => by
  unfold jB at e ⊢
  obtain ⟨g, mg, hg⟩ := List.any_eq_true.mp e
  refine List.any_eq_true.mpr ⟨g, mg, List.all_eq_true.mpr fun x mx => nd_mono h x (List.all_eq_true.mp hg x mx)⟩
end KaG
set_option maxRecDepth 100000
set_option maxHeartbeats 2000000
namespace KaG
open PySem PySem.Spec PyProof.Rows L2
theorem paired_snoc {α β : Type} {R : α → β → Prop} {x : α} {y : β} (h : R x y) : ∀ {xs : List α} {ys : List β}, Paired R xs ys → Paired R (xs ++ [x]) (ys ++ [y])
  | _, _, .nil => .cons h .nil
  | _, _, .cons a r => .cons a (paired_snoc h r)
theorem merge_new : ∀ (kvs acc : List (Key × V)), ((acc ++ kvs).map (·.1)).Nodup → mergeK acc kvs = acc ++ kvs
  | [], acc, _ => by rw [List.append_nil]; rfl
  | p :: r, acc, h => by
    have hn : valV acc p.1 = none := by
      unfold valV
      have : acc.find? (fun kv => decide (kv.1 = p.1)) = none := by
        rw [List.find?_eq_none]
        intro q hq e
        rw [List.map_append, List.nodup_append] at h
        exact h.2.2 q.1 (List.mem_map_of_mem hq) p.1 (List.mem_map_of_mem (List.mem_cons_self ..)) (of_decide_eq_true e)
      rw [this] <;> rfl
    show mergeK (putK acc p.1 p.2) r = _
    rw [putK_new p.2 hn, merge_new r _ (by simpa using h)]
    simp
theorem refs_inj : ∀ {xs ys : List Addr}, xs.map V.ref = ys.map V.ref → xs = ys
  | [], [], _ => rfl
  | [], _ :: _, h => by cases h
  | _ :: _, [], h => by cases h
  | x :: xs, y :: ys, h => by
    rw [List.map_cons, List.map_cons] at h
    obtain ⟨h1, h2⟩ := List.cons.inj h
    cases h1
    rw [refs_inj h2]
/-- the addresses of the kinds of the rulebook at b -/
def KasOf (H : Hp) (b : Addr) (kas : List Addr) : Prop := ∃ r kt, H b = some (.tup [.ref r, .ref kt]) ∧ H kt = some (.tup (kas.map V.ref))
def kvsOf (ks : List Kd) (kas : List Addr) : List (Key × V) := (ks.zip kas).map fun z => (Sum.inr z.1.name, V.ref z.2)
end KaG
set_option maxRecDepth 100000
set_option maxHeartbeats 2000000
namespace KaG
open PySem PySem.Spec PyProof.Rows L2
abbrev Plc := Str × Nat × Nat
def plG (k : Kd) (g : Nat) : List Plc := (List.range (k.gs.getD g []).length).map fun n => (k.name, g, n)
def plK (k : Kd) : List Plc := (List.range k.gs.length).flatMap (plG k)
def placesOf (ks : List Kd) : List Plc := ks.flatMap plK
/-- tuples of places, at these addresses -/
def PlAt (H : Hp) (as : List Addr) (ps : List Plc) : Prop := Paired (fun a (p : Plc) => H a = some (.tup [.str p.1, .int (p.2.1 : Int), .int (p.2.2 : Int)])) as ps
theorem PlAt.ts {H H' : Hp} {as : List Addr} {ps : List Plc} (h : PlAt H as ps) (s : TSame H H') : PlAt H' as ps := Paired.mono' (fun a p q => s _ _ q) h
theorem paired_app {α β : Type} {R : α → β → Prop} : ∀ {xs xs' : List α} {ys ys' : List β}, Paired R xs ys → Paired R xs' ys' → Paired R (xs ++ xs') (ys ++ ys')
  | _, _, _, _, .nil, q => q
  | _, _, _, _, .cons a r, q => .cons a (paired_app r q)
theorem ts_lst {H : Hp} {p : Addr} {xs ys : List V} (e : H p = some (.lst xs)) : TSame H (upd H p (.lst ys)) := fun b zs q => by
  rw [upd_ne (fun z => by rw [z, e] at q; cases q)]
  exact q
end KaG
set_option maxRecDepth 100000
set_option maxHeartbeats 4000000
set_option maxRecDepth 100000
set_option maxHeartbeats 4000000
namespace KaG
open PySem PySem.Spec PyProof.Rows L2
section
variable {P : Program} {w : World} {K : PySem.W.Frag} {mg : Str → Option Value} {base : Heap} {CW : Addr} {NW : Str}
/-- a list of m good values at l -/
structure OL (CW : Addr) (NW : Str) (bg : Addr) (H0 H : Hp) (l : Addr) (m : Nat) : Prop where
  ext : Ext bg H0 H
  new : H0 l = none
  it : ∃ xs as ts, H l = some (.lst xs) ∧ ShA H CW NW as 3 xs ts ∧ (∀ t ∈ ts, t.length ≤ 200) ∧ Nw H0 H as ∧ xs.length = m
theorem OL.more {bg : Addr} {H0 H H1 : Hp} {l l2 : Addr} {m : Nat} {zs : List V} {bs : List Addr} {us : List Str} (hb : Bag H0 bg) (O : OL CW NW bg H0 H l m) (E : Ext bg H H1) (s : ShA H1 CW NW bs 3 zs us) (hu : ∀ t ∈ us, t.length ≤ 200) (n : Nw H H1 bs)
    (h2 : H1 l2 = none) : ∃ xs, upd H1 l2 (.lst zs) l = some (.lst xs) ∧ xs.length = m ∧ ∀ l3, upd H1 l2 (.lst zs) l3 = none → OL CW NW bg H0 (upd (upd H1 l2 (.lst zs)) l3 (.lst (xs ++ zs))) l3 (m + zs.length) := by
  obtain ⟨E0, l0, xs, as, ts, e1, sA, ht, nA, hm⟩ := O
  have lb : l ≠ bg := fun z => hb.there (z ▸ l0)
  have Ea : Ext bg H (upd H1 l2 (.lst zs)) := E.new h2
  refine ⟨xs, Ea.keep l _ lb e1, hm, fun l3 h3 => ?_⟩
  have Eb : Ext bg H (upd (upd H1 l2 (.lst zs)) l3 (.lst (xs ++ zs))) := Ea.new h3
  have Ec : Ext bg H1 (upd (upd H1 l2 (.lst zs)) l3 (.lst (xs ++ zs))) := ((Ext.of_same E.bag Same.refl').new h2).new h3
  refine ⟨E0.trans Eb, newAt (E0.trans Ea) h3, xs ++ zs, as ++ bs, ts ++ us, upd_same, ?_, ?_, ?_, by rw [List.length_append, hm]⟩
  · have a1 := (sA.ext (nA.out hb.there) Eb fun b z => (nA b z).2).wide (bs := as ++ bs) (fun _ z => List.mem_append_left _ z) (Nat.le_refl _)
    have a2 := (s.ext (n.out E0.bag.there) Ec fun b z => (n b z).2).wide (bs := as ++ bs) (fun _ z => List.mem_append_right _ z) (Nat.le_refl _)
    exact a1.app a2
  · intro t h
    rcases List.mem_append.mp h with q | q
    · exact ht t q
    · exact hu t q
  · intro b h
    rcases List.mem_append.mp h with q | q
    · exact nA.ext Eb b q
    · exact (n.ext Ec).before E0 b q
end
end KaG
set_option maxRecDepth 100000
set_option maxHeartbeats 2000000
namespace KaG
open PySem PySem.Spec PyProof.Rows L2
mutual
def txt : PyData → Str
  | .none => "None"
  | .bool b => if b then "True" else "False"
  | .int i => (toString i : String)
  | .str x => reprText x
  | .list xs => listText (txtA xs)
  | .tuple xs => tupleText (txtA xs)
  | .dict _ => ""
def txtA : List PyData → List Str
  | [] => []
  | x :: r => txt x :: txtA r
end
mutual
def dsz : PyData → Nat
  | .none => 1
  | .bool _ => 1
  | .int _ => 1
  | .str _ => 1
  | .list xs => 1 + dszA xs
  | .tuple xs => 1 + dszA xs
  | .dict _ => 1
def dszA : List PyData → Nat
  | [] => 0
  | x :: r => dsz x + dszA r
end
mutual
inductive Rep (H : Hp) : V → PyData → Prop
  | non : Rep H .non .none
  | bl (b : Bool) : Rep H (.bl b) (.bool b)
  | int (i : Int) (h : i.natAbs.log2 < 1920) : Rep H (.int i) (.int i)
  | str (x : Str) : Rep H (.str x) (.str x)
  | lst {a : Addr} {xs : List V} {ds : List PyData} (e : H a = some (.lst xs)) (r : RepA H xs ds) : Rep H (.ref a) (.list ds)
  | tup {a : Addr} {xs : List V} {ds : List PyData} (e : H a = some (.tup xs)) (r : RepA H xs ds) : Rep H (.ref a) (.tuple ds)
inductive RepA (H : Hp) : List V → List PyData → Prop
  | nil : RepA H [] []
  | cons {v : V} {vs : List V} {d : PyData} {ds : List PyData} (h : Rep H v d) (r : RepA H vs ds) : RepA H (v :: vs) (d :: ds)
end
section
variable {H H' : Hp} {CW : Addr} {NW : Str} {K : PySem.W.Frag}
mutual
theorem Rep.det : ∀ {v : V} {d d' : PyData}, Rep H v d → Rep H v d' → d = d'
  | _, _, _, .non, .non => rfl
  | _, _, _, .bl b, .bl _ => rfl
  | _, _, _, .int i _, .int _ _ => rfl
  | _, _, _, .str x, .str _ => rfl
  | _, _, _, .lst e r, .lst e' r' => by
    rw [e] at e'
    cases e'
    rw [RepA.det r r']
  | _, _, _, .lst e r, .tup e' r' => by
    rw [e] at e'
    cases e'
  | _, _, _, .tup e r, .lst e' r' => by
    rw [e] at e'
    cases e'
  | _, _, _, .tup e r, .tup e' r' => by
    rw [e] at e'
    cases e'
    rw [RepA.det r r']
theorem RepA.det : ∀ {vs : List V} {ds ds' : List PyData}, RepA H vs ds → RepA H vs ds' → ds = ds'
  | _, _, _, .nil, .nil => rfl
  | _, _, _, .cons h r, .cons h' r' => by rw [Rep.det h h', RepA.det r r']
end
mutual
theorem Rep.dp : ∀ {v : V} {d : PyData}, Rep H v d → Dp K H v d
  | _, _, .non => .non
  | _, _, .bl b => .bl b
  | _, _, .int i _ => .int i
  | _, _, .str x => .str x
  | _, _, .lst e r => .lst (SqL.of e) (RepA.dp r)
  | _, _, .tup e r => .tup (SqT.of e) (RepA.dp r)
theorem RepA.dp : ∀ {vs : List V} {ds : List PyData}, RepA H vs ds → DpAll K H vs ds
  | _, _, .nil => .nil
  | _, _, .cons h r => .cons (Rep.dp h) (RepA.dp r)
end
mutual
theorem Rep.sm (s : Same H H') : ∀ {v : V} {d : PyData}, Rep H v d → Rep H' v d
  | _, _, .non => .non
  | _, _, .bl b => .bl b
  | _, _, .int i h => .int i h
  | _, _, .str x => .str x
  | _, _, .lst e r => .lst (s _ _ e) (RepA.sm s r)
  | _, _, .tup e r => .tup (s _ _ e) (RepA.sm s r)
theorem RepA.sm (s : Same H H') : ∀ {vs : List V} {ds : List PyData}, RepA H vs ds → RepA H' vs ds
  | _, _, .nil => .nil
  | _, _, .cons h r => .cons (Rep.sm s h) (RepA.sm s r)
end
mutual
theorem Rep.sh : ∀ {v : V} {d : PyData}, Rep H v d → ∃ as, Sh H CW NW as d.depth v (txt d) ∧ ∀ b ∈ as, ∃ d', Rep H (.ref b) d' ∧ dsz d' ≤ dsz d
  | _, _, .non => ⟨[], by rw [txt]; exact .non, fun _ z => nomatch z⟩
  | _, _, .bl b => ⟨[], by rw [txt]; exact .bl b, fun _ z => nomatch z⟩
  | _, _, .int i h => ⟨[], by rw [txt]; exact .int i h, fun _ z => nomatch z⟩
  | _, _, .str x => ⟨[], by rw [txt]; exact .str x, fun _ z => nomatch z⟩
  | _, _, .lst (a := a) (ds := ds) e r => by
    obtain ⟨as, h1, h2⟩ := RepA.sh r
    have na : a ∉ as := fun m => by
      obtain ⟨d', q1, q2⟩ := h2 a m
      have := Rep.det (.lst e r) q1
      rw [← this, dsz] at q2
      omega
    refine ⟨a :: as, ?_, fun b m => ?_⟩
    · rw [txt, PyData.depth]
      exact .lst e (List.mem_cons_self ..) (fun b z => List.mem_cons_of_mem _ z) na h1
    · rcases List.mem_cons.mp m with z | z
      · rw [z]; exact ⟨_, .lst e r, Nat.le_refl _⟩
      · obtain ⟨d', q1, q2⟩ := h2 b z
        exact ⟨d', q1, by rw [dsz]; omega⟩
  | _, _, .tup (a := a) (ds := ds) e r => by
    obtain ⟨as, h1, h2⟩ := RepA.sh r
    have na : a ∉ as := fun m => by
      obtain ⟨d', q1, q2⟩ := h2 a m
      have := Rep.det (.tup e r) q1
      rw [← this, dsz] at q2
      omega
    refine ⟨a :: as, ?_, fun b m => ?_⟩
    · rw [txt, PyData.depth]
      exact .tup e (List.mem_cons_self ..) (fun b z => List.mem_cons_of_mem _ z) na h1
    · rcases List.mem_cons.mp m with z | z
      · rw [z]; exact ⟨_, .tup e r, Nat.le_refl _⟩
      · obtain ⟨d', q1, q2⟩ := h2 b z
        exact ⟨d', q1, by rw [dsz]; omega⟩
theorem RepA.sh : ∀ {vs : List V} {ds : List PyData}, RepA H vs ds → ∃ as, ShA H CW NW as (PyData.depthAll ds) vs (txtA ds) ∧ ∀ b ∈ as, ∃ d', Rep H (.ref b) d' ∧ dsz d' ≤ dszA ds
  | _, _, .nil => ⟨[], by rw [txtA]; exact .nil, fun _ z => nomatch z⟩
  | _, _, .cons (d := d) (ds := ds) h r => by
    obtain ⟨as, h1, h2⟩ := Rep.sh h
    obtain ⟨bs, h3, h4⟩ := RepA.sh r
    refine ⟨as ++ bs, ?_, fun b m => ?_⟩
    · rw [txtA, PyData.depthAll]
      exact .cons (h1.wide (fun _ z => List.mem_append_left _ z) (Nat.le_max_left ..)) (h3.wide (fun _ z => List.mem_append_right _ z) (Nat.le_max_right ..))
    · rw [dszA]
      rcases List.mem_append.mp m with z | z
      · obtain ⟨d', q1, q2⟩ := h2 b z
        exact ⟨d', q1, by omega⟩
      · obtain ⟨d', q1, q2⟩ := h4 b z
        exact ⟨d', q1, by omega⟩
end
end
end KaG
set_option maxRecDepth 100000
set_option maxHeartbeats 2000000
set_option maxRecDepth 100000
set_option maxHeartbeats 2000000
namespace KaX
open PySem PySem.Builtin PySem.Builtin.BaseException
open PySem.W (Looks Frag findIn subIn looks_findIn looks_subIn clsIn)
section
variable {prog : Program} {w : World} {A : Around} {E : Value → Shared → Prop} {s : Shared} {K : Frag} {C e t0 : Addr}
theorem bexcCall {nm : Str} {cd : ClassData} {N T : Str} {u0 : Value} {d0 : Nat} {as : List Addr} {h₀ : Heap} {g : List Code} (x : ExcC K C e t0 s.heap) (hc : clsIn K C = some cd) (hn : cd.name = nm) (hN : Str.ofString ((nm.toString.cutAt '.').getLastD "") = N)
    (hB : subIn K (.ref C) (.type "BaseException") = some true)
    (ht : s.heap.TupAt t0 [u0]) (hu0 : ReprK prog w as h₀ d0 u0 T) (hg : A.guards = some g) (hcl : ∀ b ∈ as, Clear g b) (hu : A.units + 1 + d0 < cLine) (hk : ∀ b o, h₀.get? b = some o → s.heap.get? b = some o) {Q : Value → Shared → Prop}
    (hq : ∀ u h' tk, (∀ b o, s.heap.get? b = some o → h'.get? b = some o) → Q (.str (N ++ Str.ofString "(" ++ T ++ Str.ofString ")") u) { s with heap := h', toks := tk })
    (hsz : (N ++ Str.ofString "(" ++ T ++ Str.ofString ")").length ≤ sizeLine) :
    wpAny (model prog w) A (call (.builtin "BaseException.__repr__") [.ref e]) Q E s := by
  refine wpAny_call (codeAny_call_builtin F.excStr_Exception.repr.plain F.entry_bexc_repr ?_)
  refine PySem.W.check_slot (i := "BaseException.__repr__") (owner := "BaseException") (n := "__repr__") (by decide +kernel) (by decide +kernel) (x.LI hB) (F.args_bexc_repr _) ?_
  unfold «BaseException.__repr__»
  exact wpAny_mono (bra 0 x hc hn hN ht hu0 (by exact hg) hcl (show A.units + 1 + d0 < cLine by omega) hk (fun u h' tk k => hq u h' tk k) (by rw [Nat.zero_add]; exact hsz)) (fun _ _ z => z) fun _ _ z => z
theorem call_repr_C {nm : Str} {cd : ClassData} {N T : Str} {u0 : Value} {d0 : Nat} {as : List Addr} {h₀ : Heap} {g : List Code} (x : ExcC K C e t0 s.heap) (hc : clsIn K C = some cd) (hn : cd.name = nm) (hN : Str.ofString ((nm.toString.cutAt '.').getLastD "") = N)
    (hB : subIn K (.ref C) (.type "BaseException") = some true) (hR : findIn K (.ref C) "__repr__" = some (some (.builtin "BaseException.__repr__")))
    (ht : s.heap.TupAt t0 [u0]) (hu0 : ReprK prog w as h₀ d0 u0 T) (hg : A.guards = some g) (hcl : ∀ b ∈ as, Clear g b) (hu : A.units + 2 + d0 < cLine) (hk : ∀ b o, h₀.get? b = some o → s.heap.get? b = some o) {Q : Value → Shared → Prop}
    (hq : ∀ u h' tk, (∀ b o, s.heap.get? b = some o → h'.get? b = some o) → Q (.str (N ++ Str.ofString "(" ++ T ++ Str.ofString ")") u) { s with heap := h', toks := tk })
    (hsz : (N ++ Str.ofString "(" ++ T ++ Str.ofString ")").length ≤ sizeLine) :
    wpAny (model prog w) A (call (.builtin "repr") [.ref e]) Q E s := by
  have hf : Looks (model prog w) s.heap (typeLookup (.ref C) "__repr__") (some (.builtin "BaseException.__repr__")) := looks_findIn x.1 hR
  have fin : wpAny (model prog w) A.in1 (call (.builtin "BaseException.__repr__") [.ref e]) (fun v s' => ∃ y u, v = .str y u ∧ Q (.str y u) s') E s :=
    bexcCall x hc hn hN hB ht hu0 (by exact hg) hcl (show A.units + 1 + 1 + d0 < cLine by omega) hk (fun u h' tk k => ⟨_, _, rfl, hq u h' tk k⟩) hsz
  refine Calls.call_function_entry F.kind_repr F.plain_repr F.entry_repr (F.args_repr1 _) ?_
  unfold Builtin.«repr»
  refine wpAny_bind (m := oneArg "repr" _) (wpAny_pure ?_)
  refine wpAny_bind (wpAny_cRoomFor (show A.in1.units < cLine by show A.units + 1 < cLine; omega) ?_)
  refine wpAny_bind ?_
  unfold specialOf
  refine wpAny_bind (x.LT.here (hf.here ?_))
  simp only [Option.isNone_some, Bool.false_eq_true, if_false]
  refine wpAny_bind ?_
  simp only [callSpecialIfBound?, bindSpecialIfBound?]
  refine wpAny_holding (wpAny_bind (wpAny_bind ?_))
  unfold specialOf
  refine wpAny_bind (x.LT.here (hf.here ?_))
  simp only [F.excStr_Exception.repr.bind]
  refine wpAny_bind (wpAny_askSetting (wpAny_ite ?_))
  split
  · refine wpAny_bind (wpAny_pure (wpAny_pure ?_))
    dsimp only [List.append_nil]
    refine wpAny_bind (wpAny_mono fin (fun v s' hv => ?_) fun _ _ z => z)
    obtain ⟨y, u, rfl, hq⟩ := hv
    refine wpAny_pure ?_
    exact wpAny_bind (wpAny_isInstance (T := "str") (b := true) rfl isSubtype_str_str (wpAny_pure ⟨_, rfl, hq⟩))
  · refine wpAny_tryCatch (wpAny_bind (wpAny_pure (wpAny_pure ?_)))
    dsimp only [List.append_nil]
    refine wpAny_bind (wpAny_mono fin (fun v s' hv => ?_) fun _ _ z => z)
    obtain ⟨y, u, rfl, hq⟩ := hv
    refine wpAny_pure ?_
    exact wpAny_bind (wpAny_isInstance (T := "str") (b := true) rfl isSubtype_str_str (wpAny_pure ⟨_, rfl, hq⟩))
end
end KaX
set_option maxRecDepth 100000
set_option maxHeartbeats 2000000
namespace KaG
open PySem PySem.Spec PyProof.Rows L2
section
variable {X : Cx} {CW : Addr} {NW : Str}
def rRepr (CW : Addr) (NW : Str) : List V → Hp → VK → Prop := fun xs H Q => ∃ v as d t, xs = [v] ∧ Sh H CW NW as d v t ∧ d ≤ 20 ∧ t.length ≤ sizeLine ∧ Q (.str t) H
theorem call_reprS (T : WrK X.K CW NW) (hg : X.A.guards = some []) (hu : X.A.units + 60 < cLine) : CallR X (.builtin "repr") (rRepr CW NW) := by
  intro pins s σ H xs us Q I r h
  obtain ⟨v, as, d, t, rfl, hS, hd, hz, q⟩ := h
  obtain ⟨u, rfl, rv⟩ := vals1 r
  have fin : ∀ (x : Tok) (h' : Heap) (tk : Nat), (∀ b o, s.heap.get? b = some o → h'.get? b = some o) → EP X pins σ Q (.str t x) { s with heap := h', toks := tk } := fun x h' tk k => ⟨.str t, H, I.kept k, ⟨_, rfl⟩, q⟩
  have cl : ∀ (as : List Addr), ∀ b ∈ as, Clear [] b := fun _ b _ => Clear.nil b
  cases hS with
  | non => cases (show u = Value.none from rv); exact PySem.P.repr_of_none (fin _ _ _ fun _ _ e => e)
  | bl b => cases (show u = Value.bool b from rv); exact PySem.P.repr_of_bool (fin _ _ _ fun _ _ e => e)
  | int i hi =>
    obtain ⟨tk, e⟩ := (show ∃ t, u = Value.int i t from rv)
    cases e
    exact PySem.P.repr_of_int hi (fin _ _ _ fun _ _ e => e)
  | str x =>
    obtain ⟨tk, e⟩ := (show ∃ t, u = Value.str x t from rv)
    cases e
    exact PySem.P.repr_of_str (fin _ _ _ fun _ _ e => e) hz
  | @lst as0 _ d a xs ts e ha hs hn hi =>
    cases (show u = Value.ref a from rv)
    obtain ⟨_, its, n, rv, ho⟩ := (show ObjOk X.prog X.w H s.heap a (.lst xs) from I.hok a _ e)
    have hA := ShA.run T I.kIn I.hok hi its rv
    refine call_repr_slot (by omega) ⟨_, ho, rfl⟩ F.slot_list_repr.toG ?_
    cases its with
    | nil =>
      cases hA
      rw [listText_nil] at fin
      exact call_list_repr_empty ⟨_, ho, rfl⟩ ho rfl ⟨_, _, rfl, fin _ _ _ fun _ _ e => e⟩
    | cons x l =>
      exact call_list_reprK ho rfl rfl hn (by simpa using hA.length_eq) (fun i y q => hA.item i y (by simpa using q)) (by exact hg) (cl _) (by show X.A.units + 1 + (d + 1) < cLine; omega) (fun _ _ e => e) (fun h' x tk k => ⟨_, _, rfl, fin x h' tk k⟩) hz
  | @tup as0 _ d a xs ts e ha hs hn hi =>
    cases (show u = Value.ref a from rv)
    obtain ⟨_, its, rv, o, ho, hc, n, hd'⟩ := (show ObjOk X.prog X.w H s.heap a (.tup xs) from I.hok a _ e)
    have hA := ShA.run T I.kIn I.hok hi its rv
    refine call_repr_slot (by omega) ⟨o, ho, hc⟩ F.slot_tuple_repr ?_
    exact call_tuple_reprK ho hc hd' hn (by simpa using hA) (by exact hg) (cl _) (by show X.A.units + 1 + (d + 1) < cLine; omega) (fun _ _ e => e) (fun h' x tk k => ⟨_, _, rfl, fin x h' tk k⟩) hz
  | @dct as0 _ d a kvs ps e ha hs hn hi =>
    cases (show u = Value.ref a from rv)
    obtain ⟨_, hsys, vs, kv, o, es, ep, ho, hx, hd', _, hp, _⟩ := (show ObjOk X.prog X.w H s.heap a (.dK kvs) from I.hok a _ e)
    have hE := ShD.run T I.kIn I.hok hi vs kv es.toList hp
    refine call_repr_slot (by omega) ⟨o, ho, hx.1⟩ F.slot_dict_repr ?_
    exact call_dict_reprK ho hx.1 hd' hsys hn hE (by exact hg) (cl _) (by show X.A.units + 1 + (d + 1) < cLine; omega) (fun _ _ e => e) (fun h' x tk k => ⟨_, _, rfl, fin x h' tk k⟩) hz
  | @exc as0 _ d a dd t1 v t e et ha ht hd hs hi =>
    cases (show u = Value.ref a from rv)
    have ho := exw_at I.hok e
    obtain ⟨_, its, rv, o, hto, hc, n, hd'⟩ := (show ObjOk X.prog X.w H s.heap t1 (.tup [v]) from I.hok t1 _ et)
    cases rv with
    | cons r1 r2 =>
      cases r2
      obtain ⟨cd, hcd, hN⟩ := T.cl
      have x : ExcC X.K CW a t1 s.heap := ⟨I.kIn, _, _, ho, rfl, rfl, rfl⟩
      exact KaX.call_repr_C x hcd rfl hN T.ex T.rp ⟨o, n, hto, hc, hd'⟩ (Sh.run T I.kIn I.hok hi _ r1) hg (cl _) (by omega) (fun _ _ e => e) fin hz
theorem valV_in : ∀ {kvs : List (Key × V)} {p : Key × V}, (kvs.map (·.1)).Nodup → p ∈ kvs → valV kvs p.1 = some p.2
  | [], _, _, h => nomatch h
  | q :: r, p, nd, m => by
    rw [List.map_cons, List.nodup_cons] at nd
    rcases List.mem_cons.mp m with z | z
    · rw [z]
      exact valV_pos rfl
    · have ne : q.1 ≠ p.1 := fun e => nd.1 (by rw [e]; exact List.mem_map_of_mem z)
      have ih := valV_in nd.2 z
      unfold valV at ih ⊢
      rw [List.find?_cons]
      have ed : decide (q.1 = p.1) = false := decide_eq_false ne
      rw [ed]
      exact ih
end
end KaG
set_option maxRecDepth 100000
set_option maxHeartbeats 2000000
namespace KaG
open PySem PySem.Spec PyProof.Rows L2
section
variable {c : Bool} {X : Cx} {k : Nat} {f : Addr} {fd : FuncData} {ps : List Str} {sp : Sp} {x : Str} {p pos : Pos} {e : Expr} {es : List Expr} {t : TA}
/-- such a def is called -/
theorem pe_callG (F : FnG c X.prog X.w X.K X.mg X.base CX0 k f fd ps sp) (hr : GR k X.A) (hc : c = true → X.A.handled = none) (hg : Gl X x) (hm : X.mg x = some (.ref f)) (hk : PySem.W.keepIn X.K (.ref f) = true) (hb : Binds X.K fd ps [])
    (ha : PA X (e :: es) t) (hdb : (x == ("__debug__" : Str)) = false := by decide) (he : starEach (e :: es) X.env = (false, eval e X.env) :: starEach es X.env := by rfl)
    (hpl : (backTo pos (starEach es X.env)).any (·.1) = false := by rfl) : PE X (.Call (.Name x p) (e :: es) [] pos) (tCall sp [] E0 t) := by
  refine ⟨fun pins s σ H Q I h => ?_⟩
  refine wpAny_Call_Name_kw (ld_glob I hg hm ?_ hdb)
  refine PySem.W.callWith_K (h₀ := X.base) I.ok.mod.kin hk (thn (ha.run pos pins s σ H _ I h) fun us s1 z => ?_) he hpl
  obtain ⟨vs, H1, I1, r, q⟩ := z
  have q : sp (vs ++ []) H1 Q E0 := q
  rw [List.append_nil] at q
  refine ⟨I1.kIn, ?_⟩
  have hl : us.length = ps.length := r.length.symm.trans (F.len _ _ _ _ q)
  have bd := hb s1 us I1.kIn (by rw [List.append_nil]; exact hl)
  rw [List.append_nil] at bd
  show wpAny _ _ (call (.ref f) us) _ _ _
  refine wpAny_call (codeAny_mono (F.run X.A X.stack s1 H1 ⟨us, []⟩ us vs Q E0 hr hc I1.env0 bd r q) fun r' s' hq => ?_)
  rcases r' with er | fl
  · exact hq.elim
  · cases fl with
    | ret u => exact I1.after hq
    | next => exact hq.elim
    | brk => exact hq.elim
    | cont => exact hq.elim
end
end KaG
set_option maxRecDepth 100000
set_option maxHeartbeats 2000000
set_option maxRecDepth 100000
set_option maxHeartbeats 2000000
namespace KaG
open PySem PySem.Spec PyProof.Rows L2
inductive Dial
  | nm (n w : Str)
  | pl (p : Plc) (w : Str)
def DlAt (H : Hp) (a : Addr) : Dial → Prop
  | .nm n w => H a = some (.tup [.str n, .str w])
  | .pl p w => ∃ q, H a = some (.tup [.ref q, .str w]) ∧ H q = some (.tup [.str p.1, .int (p.2.1 : Int), .int (p.2.2 : Int)])
theorem DlAt.ts {H H' : Hp} {a : Addr} {d : Dial} (h : DlAt H a d) (s : TSame H H') : DlAt H' a d := by
  cases d with
  | nm n w => exact s _ _ h
  | pl p w =>
    obtain ⟨q, h1, h2⟩ := h
    exact ⟨q, s _ _ h1, s _ _ h2⟩
/-- the need at a place -/
def needAt (ks : List Kd) (p : Plc) (its : List V) : Prop := ∃ k ∈ ks, k.name = p.1 ∧ ∃ g, k.gs[p.2.1]? = some g ∧ g[p.2.2]? = some its
def DialOk (ks : List Kd) : Dial → Prop
  | .nm n w => n ∈ ks.map Kd.name ∧ (w = "keep" ∨ w = "bar")
  | .pl p w => ∃ its, needAt ks p its ∧ (w = "tell" ∨ w = "most" ∨ (w = "after" ∧ its.head? = some (.str "kind")))
theorem paired_at2 {α β : Type} {R : α → β → Prop} : ∀ {xs : List α} {ys : List β} {i : Nat} {y : β}, Paired R xs ys → ys[i]? = some y → ∃ x, xs[i]? = some x ∧ R x y
  | _, _, i, _, .nil, e => by simp at e
  | _, _, 0, _, .cons h r, e => by
    cases e
    exact ⟨_, rfl, h⟩
  | _, _, i + 1, _, .cons h r, e => by
    obtain ⟨x, q1, q2⟩ := paired_at2 r (show _ = some _ from e)
    exact ⟨x, q1, q2⟩
theorem kvs_keys {ks : List Kd} {kas : List Addr} (h : ks.length ≤ kas.length) : (kvsOf ks kas).map (·.1) = (ks.map Kd.name).map Sum.inr := by
  unfold kvsOf
  rw [List.map_map, List.map_map]
  have : ((fun x : Key × V => x.1) ∘ fun z : Kd × Addr => (Sum.inr z.1.name, V.ref z.2)) = (Sum.inr ∘ Kd.name) ∘ Prod.fst := rfl
  rw [this, ← List.map_map, List.map_fst_zip h]
end KaG
set_option maxRecDepth 100000
set_option maxHeartbeats 2000000
namespace KaG
open PySem PySem.Spec PyProof.Rows L2
section
variable {P : Program} {w : World} {K : PySem.W.Frag} {mg : Str → Option Value} {base : Heap}
def DlsAt (H : Hp) (ks : List Kd) (as : List Addr) : Prop := ∀ a ∈ as, ∃ d, DlAt H a d ∧ DialOk ks d
theorem DlsAt.ts {H H' : Hp} {ks : List Kd} {as : List Addr} (h : DlsAt H ks as) (s : TSame H H') : DlsAt H' ks as := fun a m => let ⟨d, q, o⟩ := h a m; ⟨d, q.ts s, o⟩
theorem DlsAt.app {H : Hp} {ks : List Kd} {as bs : List Addr} (h : DlsAt H ks as) (g : DlsAt H ks bs) : DlsAt H ks (as ++ bs) := fun a m => (List.mem_append.mp m).elim (h a) (g a)
end
end KaG
set_option maxRecDepth 100000
set_option maxHeartbeats 2000000
namespace KaG
open PySem PySem.Spec PyProof.Rows L2
/-- a statement that is never reached -/
theorem ps_no {X : Cx} {st : Stmt} : PS X st (fun _ _ _ => False) := ⟨fun _ _ _ _ _ _ h => h.elim⟩
abbrev sKindOf : Stmt := top 6
section
variable {P : Program} {w : World} {K : PySem.W.Frag} {mg : Str → Option Value} {base : Heap}
theorem scKindOf : FnScope ["rulebook", "name", "kind"] ["rulebook", "name"] (defScope sKindOf) := ⟨rfl, rfl, rfl, by decide +kernel, rfl, by decide +kernel, by decide +kernel⟩
/-- the kind with a name that is there -/
def spKindOf0 : Sp := fun vs H Q _ => ∃ (b : Addr) (rows : List Str) (ks : List Kd) (kas : List Addr) (i : Nat) (k : Kd) (ka : Addr), vs = [.ref b, .str k.name] ∧ BookAt H b rows ks ∧ KasOf H b kas ∧ (ks.map Kd.name).Nodup ∧ ks[i]? = some k ∧ kas[i]? = some ka ∧ Q (.ref ka) H
theorem ok_kindOf0 {f : Addr} {fd : FuncData} (F : Fun K "kind_of" "kind_of" sKindOf f fd) : FnOk P w K mg base CX0 1 f fd ["rulebook", "name"] spKindOf0 := by
  refine F.ok scKindOf (fun vs H Q E h => ?_) (fun cdv A outer s H vs Q E hr h => ?_)
  · obtain ⟨b, rows, ks, kas, i, k, ka, rfl, _⟩ := h
    rfl
  · obtain ⟨b, rows, ks, kas, i, k, ka, rfl, hA, hK, nd, hi, hka, q⟩ := h
    refine ⟨_, (pss_cons (ps_for PassesOwn.never rfl (pi_tup (pe_ix ix_tup (pv 0) pe_int (fun _ _ => rfl))) (pg_name (i := 2) scKindOf.nd rfl (Or.inl rfl)) (pss_one (ps_if (pt_cmpR op_eq (pe_ix ix_tup (pv 2) pe_int (fun _ _ => rfl)) (pv 1) (nomark _)) (pss_one (ps_ret (pv 2))) pss_nil)))
      (pss_one ps_no)), ?_⟩
    obtain ⟨r, kt, kas', e1, e2, e3, pk⟩ := id hA
    obtain ⟨r', kt', g1, g2⟩ := hK
    rw [e1] at g1
    cases g1
    rw [e3] at g2
    obtain rfl : kas' = kas := refs_inj (HO.tup.inj (Option.some.inj g2))
    have hlen := paired_len pk
    refine ⟨_, rfl, b, _, 1, .ref kt, rfl, rfl, SqT.of e1, rfl, kt, rfl, ⟨_, SqT.of e3⟩, for_tup (K := K) (a := kt) (xs := kas'.map V.ref) (fun j σ' G => G = H ∧ j ≤ i ∧ ∃ x2 : Option V, σ' = [some (.ref b), some (.str k.name), x2]) ?_ ?_ ?_ ?_⟩
    · exact ⟨rfl, Nat.zero_le _, _, rfl⟩
    · rintro j σ' G _ ⟨rfl, _⟩
      exact SqT.of e3
    · rintro j x σ' G hx ⟨rfl, hj, x2, rfl⟩
      rw [List.getElem?_map] at hx
      obtain ⟨a, ha, rfl⟩ := Option.map_eq_some_iff.mp hx
      obtain ⟨kd, hkd, gt, gas, f1, _⟩ := paired_at pk ha
      refine ⟨_, rfl, a, _, 0, .str kd.name, rfl, rfl, SqT.of f1, rfl, _, rfl, rfl, _, rfl, ite2 (fun hc => ?_) fun hc => ?_⟩
      · have en : kd.name = k.name := by
          exact V.str.inj (of_decide_eq_true hc)
        have ej : j = i := by
          have h1 : (ks.map Kd.name)[j]? = some kd.name := by rw [List.getElem?_map, hkd]; rfl
          have h2 : (ks.map Kd.name)[i]? = some kd.name := by rw [List.getElem?_map, hi, en]; rfl
          have hj1 := (List.getElem?_eq_some_iff.mp h1).1
          exact (List.getElem?_inj hj1 nd).mp (h1.trans h2.symm)
        subst ej
        rw [ha] at hka
        cases hka
        exact ⟨_, rfl, q⟩
      · refine ⟨rfl, ?_, _, rfl⟩
        have nj : j ≠ i := fun z => by
          subst z
          rw [hkd] at hi
          cases hi
          exact hc (decide_eq_true rfl)
        omega
    · rintro σ' G ⟨rfl, hj, _⟩
      have := (List.getElem?_eq_some_iff.mp hka).1
      rw [List.length_map] at hj
      exact absurd this (by omega)
end
end KaG
set_option maxRecDepth 100000
set_option maxHeartbeats 4000000
namespace KaC
open PySem PySem.Spec PyProof.Rows L2
theorem enum_newT (l : Addr) (items : Array Value) (n : Nat) (dct : Option Addr) (sl : Array (Option Value)) : Meets (Builtin.«enumerate.__new__» ⟨[.type "enumerate", .ref l], []⟩) (fun _ R s => s.heap.get? l = some { cls := .type "tuple", dict := dct, data := .seq items n, slots := sl } ∧
      R (.ok (.ret (.ref (s.heap.push { cls := .type "tuple_iterator", data := .fields #[.ref l, .int 0 0] }).objs.size))) { s with heap := (s.heap.push { cls := .type "tuple_iterator", data := .fields #[.ref l, .int 0 0] }).push { cls := .type "enumerate", data := .fields #[.none, .bool false, .ref s.heap.objs.size, rawInt 0, .none, .none] } }) :=
  .of_wp fun prog w A R s h => by
    obtain ⟨hp, g, d, tk, os⟩ := s
    obtain ⟨hl, h⟩ := h
    have hsub := sub_enumerate
    have hL : Heap.IsTuple (Shared.heap ⟨hp, g, d, tk, os⟩) l items := ⟨_, hl, rfl, n, rfl⟩
    wp_walk using AutoSeq1.wpAny_loadPart' hl
    refine wpAny_stack_any fun st => wpAny_pure ?_
    split
    · rename_i c _ _ _ _ _
      cases (c == Value.type "enumerate") <;> (wp_walk using AutoSeq1.wpAny_loadPart' hl, wpAny_pyIter_tuple hL) <;> exact ⟨_, rfl, h⟩
    · wp_walk using AutoSeq1.wpAny_loadPart' hl, wpAny_pyIter_tuple hL
      exact ⟨_, rfl, h⟩
theorem call_enumT {prog : Program} {w : World} {A : Around} {E : Value → Shared → Prop} {s : Shared} {l : Addr} {items : Array Value} {Q : Value → Shared → Prop} (hL : s.heap.IsTuple l items)
    (h : ∀ h', IsEnum h' (s.heap.objs.size + 1) s.heap.objs.size 0 .none → h'.IsTupleIter s.heap.objs.size l 0 → (∀ b o, s.heap.get? b = some o → h'.get? b = some o) → Q (.ref (s.heap.objs.size + 1)) { s with heap := h' }) :
    wpAny (model prog w) A (call (.type "enumerate") [.ref l]) Q E s := by
  obtain ⟨⟨c, dct, dt, sl⟩, hl, hc, n, hd⟩ := hL
  obtain rfl : c = .type "tuple" := hc
  obtain rfl : dt = .seq items n := hd
  refine callType_new F.called_enumerate (by decide) (F.typeCall_enumerate_1 _) (F.newCall_enumerate_1 _) (fun obj => F.args_object_init_2 obj _) F.entry_enumerate_new (enum_newT l items n dct sl) ⟨hl, ?_⟩
  have hz : (s.heap.push { cls := .type "tuple_iterator", data := .fields #[.ref l, .int 0 0] }).objs.size = s.heap.objs.size + 1 := Heap.size_push ..
  change _ ∧ _
  rw [hz]
  have he : IsEnum ((s.heap.push { cls := .type "tuple_iterator", data := .fields #[.ref l, .int 0 0] }).push { cls := .type "enumerate", data := .fields #[.none, .bool false, .ref s.heap.objs.size, rawInt 0, .none, .none] }) (s.heap.objs.size + 1) s.heap.objs.size 0 .none := by
    have q := Heap.get?_push_size (s.heap.push { cls := .type "tuple_iterator", data := .fields #[.ref l, .int 0 0] }) (o := { cls := .type "enumerate", data := .fields #[.none, .bool false, .ref s.heap.objs.size, rawInt 0, .none, .none] }) rfl
    rw [hz] at q; exact q
  exact ⟨⟨_, he, rfl⟩, h _ he ⟨_, Heap.get?_push_of_some _ (Heap.get?_push_size _ rfl), rfl, rfl⟩ fun b o x => Heap.get?_push_of_some _ (Heap.get?_push_of_some _ x)⟩
end KaC
set_option maxRecDepth 100000
set_option maxHeartbeats 4000000
namespace KaC
open PySem PySem.Spec PyProof.Rows L2
/-- the tuple at a, each item in a new pair -/
def ItT (K : PySem.W.Frag) (a : Addr) : It :=
  ⟨fun i H => ∃ (xs : List V) (x : V), SqT K H a xs ∧ xs[i]? = some x, fun i H v H' => ∃ T x, v = .ref T ∧ H T = none ∧ H' = upd H T (.tup [.int (i : Nat), x]) ∧ ∀ xs, SqT K H a xs → xs[i]? = some x, fun i H => ∃ xs : List V, SqT K H a xs ∧ xs.length ≤ i⟩
theorem cls_ne {h : Heap} {x y : Addr} {m n : String} (hmn : m ≠ n) (h1 : ∃ o, h.get? x = some o ∧ o.cls = .type m) (h2 : ∃ o, h.get? y = some o ∧ o.cls = .type n) : x ≠ y := fun z => by
  obtain ⟨o1, e1, c1⟩ := h1
  obtain ⟨o2, e2, c2⟩ := h2
  rw [z, e2] at e1
  cases e1
  rw [c2] at c1
  injection c1 with c1
  exact hmn c1.symm
theorem tup_inj {X : Cx} {pins : List (Addr × Obj)} {σ : L2.St} {H : Hp} {s : Shared} {a : Addr} {xs ys : List V} (I : Inv X pins σ H s) (h1 : SqT X.K H a xs) (h2 : SqT X.K H a ys) : xs = ys := I.tuple_inj h1 h2
theorem turn_enumT {P : Program} {w : World} {K : PySem.W.Frag} {elts : List Expr} {kk : Nat} {tpos : Pos} (a e it : Addr) : Turn P w K (.Tuple elts kk tpos) (ItT K a) [e, it] e (fun i h => (∃ old, IsEnum h e it ((i : Nat) : Int) old) ∧ h.IsTupleIter it a i ∧ e ≠ it) where
  mem := List.mem_cons_self ..
  obj := fun i h st b hb => by
    obtain ⟨⟨old, he⟩, ⟨o, ho, hc, hd⟩, _⟩ := st
    rcases (by simpa using hb : b = e ∨ b = it) with z | z
    · subst z; exact ⟨_, he, fun v q => nomatch q⟩
    · subst z; exact ⟨o, ho, fun v q => by rw [hd] at q; cases q⟩
  keep := fun i h h' st k => let ⟨⟨old, he⟩, hi, hne⟩ := st; ⟨⟨old, k e (by simp) _ he⟩, hi.at fun o q => k it (by simp) o q, hne⟩
  item := fun X hP hw hK hc i pins s σ H E I hf st hg => by
    subst hP hw hK
    obtain ⟨⟨old, he⟩, hit, hne⟩ := st
    obtain ⟨xs, x, hq, hx⟩ := hg
    obtain ⟨its, rv, p, hz⟩ := I.tuple hq
    obtain ⟨u, hu, ru⟩ := rv.get hx
    have hel : e < s.heap.objs.size := Heap.lt_size he
    have hil : it < s.heap.objs.size := by obtain ⟨_, q, _⟩ := hit; exact Heap.lt_size q
    have pT : ∃ o, s.heap.get? a = some o ∧ o.cls = .type "tuple" := let ⟨o, h1, h2, _⟩ := p; ⟨o, h1, h2⟩
    have nai : a ≠ it := cls_ne (by decide) pT (let ⟨o, h1, h2, _⟩ := hit; ⟨o, h1, h2⟩)
    have nae : e ≠ a := cls_ne (m := "enumerate") (n := "tuple") (by decide) ⟨_, he, rfl⟩ pT
    have hix : i < its.toArray.size := by
      have := (List.getElem?_eq_some_iff.mp hu).1
      simpa using this
    refine wpAny_pyNext_enum_itemD (Draws.tuple (by simp [I.ok.hd hc]) it a nai its.toArray) he ⟨hit, p⟩ hix hne (by simp [hne, nae]) fun x' h' tk hx' ho st' hT hsz hk => ?_
    have ex : x' = u := by
      have : its.toArray[i]? = some x' := hx'
      simp only [List.getElem?_toArray] at this
      rw [hu] at this
      exact (Option.some.inj this).symm
    subst ex
    refine ⟨_, rfl, wpAny_letOwnedTupleGo_enum (s := { s with heap := h', toks := tk + 1 }) ho fun h2 he2 sb => ?_⟩
    have hT2 : h2.get? s.heap.objs.size = some { cls := .type "tuple", data := .seq #[.int i tk, x'] } := (sb.2 _ (Nat.ne_of_gt hel)).trans hT
    have I1 : Inv X pins σ (upd H s.heap.objs.size (.tup [.int (i : Nat), x])) { s with heap := h2, toks := tk + 1 } :=
      I.turnedNew (ch := [e, it]) (fun b ob hb q => (sb.2 b (fun z => hb (by simp [z]))).trans (hk b ob (fun z => hb (by simp [z])) (fun z => hb (by simp [z])) q)) hf (Nat.le_refl _)
        ⟨by show 2 ≤ sizeLine; decide, [.int i tk, x'], .cons ⟨_, rfl⟩ (.cons ru .nil), ⟨_, hT2, rfl, _, rfl⟩⟩
    refine ⟨.ref s.heap.objs.size, _, I1, rfl, ⟨_, x, rfl, I.hok.fresh (Nat.le_refl _), rfl, fun ys hy => by rw [tup_inj I hy hq]; exact hx⟩, ⟨⟨x', ?_⟩, st'.1.at fun o q => (sb.2 it (Ne.symm hne)).trans q, hne⟩, fun b hb => ?_⟩
    · rw [show ((i + 1 : Nat) : Int) = (i : Int) + 1 by omega]; exact he2
    · have hb' : b < s.heap.objs.size := by
        rcases (by simpa using hb : b = e ∨ b = it) with z | z
        · rw [z]; exact hel
        · rw [z]; exact hil
      rw [upd_ne (Nat.ne_of_lt hb')]
      exact (hf b hb).1
  done := fun X hP hw hK hc i pins s σ H E I hf st hg => by
    subst hP hw hK
    obtain ⟨⟨old, he⟩, hit, hne⟩ := st
    obtain ⟨xs, hq, hx⟩ := hg
    obtain ⟨its, rv, p, hz⟩ := I.tuple hq
    obtain ⟨f0, f1, f2, f3, f4, f5⟩ := hf it (by simp)
    have hl := rv.length
    have hT : s.TypeIs (.ref e) "enumerate" := ⟨_, he, rfl⟩
    unfold pyNext
    refine wpAny_bind (wpAny_attempt (wpAny_callSpecial?_slot (name := Str.ofString "__next__") hT F.slot_enumerate_next (wpAny_call_entry F.slot_enumerate_next hT F.entry_enumerate_next ?_ (F.args_enumerate_next_1 _))))
    change wpAny _ _ (field (.ref e) 2 >>= _) _ _ _
    refine wpAny_bind (wpAny_field he rfl (x := .ref it) rfl ?_)
    refine wpAny_bind (wpAny_nextOf_tuple_end (by simp [I.ok.hd hc]) hit p (by simp; omega) fun h' x he' hx' => ?_)
    obtain ⟨o, ho, hoc⟩ := hx'
    exact wpAny_bind (wpAny_isInstance (T := "StopIteration") (b := true) ⟨o, ho, hoc⟩ isSubtype_stop (wpAny_pure ⟨rfl, I.turned (t' := s.toks) (fun b o hb q => he' b o hb q) f0 f1 f3 f4 f5⟩))
  self := fun A i s Q E st h => let ⟨⟨_, he⟩, _⟩ := st; wpAny_pyIter_enum he h
def iEnumT (K : PySem.W.Frag) (ta : TA) : TI := fun σ H R => ta σ H fun vs H1 => ∃ a xs, vs = [.ref a] ∧ SqT K H1 a xs ∧ R (ItT K a) H1
theorem pi_enumT {X : Cx} {e : Expr} {ta : TA} {p pos tpos : Pos} {elts : List Expr} {kk : Nat} (hg : Gl X "enumerate") (hm : X.mg "enumerate" = none) (ha : PA X [e] ta) (hs : starEach [e] X.env = [(false, eval e X.env)] := by rfl) : PI X (.Tuple elts kk tpos) (.Call (.Name "enumerate" p) [e] [] pos) (iEnumT X.K ta) := by
  refine ⟨fun pins s σ H R I h => ?_⟩
  refine Call_ (ld_blt I hg hm boot_enumerate (PyProof.Rows.callWith_type1 (thn (ha.run pos pins s σ H _ I h) fun us s1 ⟨vs, H1, I1, r1, a, xs, ex, hq, q⟩ => ?_) hs rfl))
  subst ex
  rw [Vals.ref1 r1]
  obtain ⟨its, rv, p2, hz⟩ := I1.tuple hq
  refine call_enumT p2 fun h' he hit hk => wpAny_pyIter_enum he ?_
  refine ⟨s1.heap.objs.size + 1, [s1.heap.objs.size + 1, s1.heap.objs.size], _, _, H1, rfl, I1.kept (t' := s1.toks) hk, turn_enumT a (s1.heap.objs.size + 1) s1.heap.objs.size, ⟨⟨.none, he⟩, hit, Nat.succ_ne_self _⟩, fun b hb => ?_, q⟩
  have hle : s1.heap.objs.size ≤ b := by
    rcases (by simpa using hb : b = s1.heap.objs.size + 1 ∨ b = s1.heap.objs.size) with z | z
    · rw [z]; exact Nat.le_add_right _ _
    · rw [z]; exact Nat.le_refl _
  exact I1.fpOk hle (I1.hok.fresh hle)
end KaC
set_option maxRecDepth 100000
set_option maxHeartbeats 4000000
namespace KaC
open PySem PySem.Spec PyProof.Rows L2
/-- what a piece is to reach, by what stands ahead of it -/
abbrev TC := L2.St → Hp → (Hp → Prop) → Prop
/-- M, run in the block, keeps the slots but those of vs and reaches Nx -/
def Piece (B : Cx) (vs : List Nat) (M : Sem PySem.Fin → Sem PySem.Fin) (tl : TC) : Prop := ∀ (k : Sem PySem.Fin) (R : PySem.Fin → Shared → Prop) (E : Value → Shared → Prop) (pins : List (Addr × Obj)) (s : Shared) (σ : L2.St) (H : Hp) (Nx : Hp → Prop), Inv B pins σ H s → tl σ H Nx →
  (∀ σ' H' s', Inv B pins σ' H' s' → σ.length = σ'.length → (∀ (i : Nat) v, i ∉ vs → σ[i]? = some (some v) → σ'[i]? = some (some v)) → Nx H' → wpAny (model B.prog B.w) B.A k R E s') → wpAny (model B.prog B.w) B.A (M k) R E s
def tEl (D : Addr) (te : TE) : TC := fun σ H Nx => te σ H fun y H1 => ∃ acc, H1 D = some (.lst acc) ∧ acc.length < sizeLine ∧ Nx (upd H1 D (.lst (acc ++ [y])))
def tCl (wi : TI) (g : TG) (tt : TT) (vs : List Nat) (tl : TC) : TC := fun σ H Nx => wi σ H fun J H1 => ∃ W : Nat → Nat → Hp → Prop, (∃ m, W 0 m H1) ∧ ∀ j k H, W j k H →
  (J.stop j H ∧ Nx H) ∨ (J.go j H ∧ ∃ N1 : Hp → Prop, (∀ H', N1 H' → ∃ k', k' < k ∧ W (j + 1) k' H') ∧ ∀ x H', J.yld j H x H' → g x (wipe σ vs) H' fun σ3 H5 => wipe σ3 vs = wipe σ vs ∧ tt σ3 H5 fun b H6 => if b = true then tl σ3 H6 N1 else N1 H6)
section
variable {X : Cx} {s3 : Shared} {H3 : Hp} {scope : Scope} {ce : Env} {fp : List Addr} {D : Addr}
theorem piece_elt {elt : Expr} {te : TE} (pe : PE (X.blk s3 H3 scope ce fp) elt te) : Piece (X.blk s3 H3 scope ce fp) [] (fun k => (do let _ ← call (.builtin "list.append") [.ref D, ← eval elt ce] : Sem PUnit) >>= fun _ => k) (tEl D te) := by
  intro k R E pins s σ H Nx I h hk
  refine wpAny_bind (wpAny_bind (thnF (pe.run pins s σ H _ I h) fun z s1 ⟨y, H1, I1, r1, acc, hD, hz, nx⟩ => ?_))
  refine wpAny_bind (app_ok (X := X.blk s3 H3 scope ce fp) I1 hD hz r1 fun s2 I2 => ?_)
  exact wpAny_pure (hk σ _ s2 I2 rfl (fun _ _ _ e => e) nx)
/-- what a turn of such a clause is -/
def TurnIs (e : Expr) (d : Nat) (tg : Expr) (ifs : List Expr) (p : Pos) (D : Addr) (ce : Env) (M : Sem PySem.Fin → Sem PySem.Fin) : Prop := ∀ it : Value, compTurn e d it (.ref D) ce = (do
  standAt p
  match ← pyNext it with
  | none => pure (.done .next)
  | some v =>
    letOwnedTupleGo tg it v
    assign tg ce v
    let mut ok := true
    for c in ifs do
      if ok then ok ← isTrue c ce (eval c ce)
    if ok then M (again (.compLoop e d it (.ref D) ce)) else again (.compLoop e d it (.ref D) ce))
/-- a clause behind the first -/
theorem piece_clause {elt : Expr} {gens : List Comprehension} {sc : Scope} {ps : Pos} {d : Nat} {tg iter : Expr} {ifs : List Expr} {p : Pos} {M : Sem PySem.Fin → Sem PySem.Fin} {wi : TI} {g : TG} {tt : TT} {tl : TC} {vs vn : List Nat}
    (hc : X.calm = true) (hT : TurnIs (.ListComp elt gens sc ps) d tg ifs p D ce M) (hM : Piece (X.blk s3 H3 scope ce fp) vn M tl) (hv : ∀ i ∈ vn, i ∈ vs) (pi : PI (X.blk s3 H3 scope ce fp) tg iter wi) (pg : PG (X.blk s3 H3 scope ce fp) tg g) (pt : PTs (X.blk s3 H3 scope ce fp) ifs tt)
    (hs : ∀ x, foldedSetIterable iter ce x = pure x)
    (hS : ∀ it : Value, compStart (.ListComp elt gens sc ps) d it (.ref D) ce = (do
      if (← ask).params.followText "comprehension-iter-twice" then return ← again (.compLoop (.ListComp elt gens sc ps) d it (.ref D) ce)
      rule "comprehension.iter-twice"
      standAt iter.pos
      again (.compLoop (.ListComp elt gens sc ps) d (← pyIter it) (.ref D) ce))) :
    Piece (X.blk s3 H3 scope ce fp) vs (fun k => do
      let x ← eval iter ce
      standAt iter.pos
      let x ← foldedSetIterable iter ce x
      let _ ← runOwn (.compStart (.ListComp elt gens sc ps) d (← holding [x] (pyIter x)) (.ref D) ce) ce
      k) (tCl wi g tt vs tl) := by
  intro k R E pins s σ H Nx I h hk
  refine wpAny_bind (thnF (pi.run pins s σ H _ I h) fun x s1 hx => ?_)
  refine wpAny_bind (wpAny_standAt (wpAny_bind (wpAny_of_eq (hs x) (wpAny_bind (wpAny_holding (thnF hx fun itv s2 h2 => ?_))))))
  obtain ⟨it, fi, tn, J, H2, rfl, I2, T, st2, f2, W, ⟨m0, w0⟩, turn⟩ := h2
  have stat : ∀ {H' : Hp}, (∀ b ∈ fi, H' b = none) → ∀ b ∈ fi, FpOk (X.blk s3 H3 scope ce fp) pins H' b := fun hn b hb => ⟨hn b hb, (f2 b hb).2⟩
  have loop : codeAny (model X.prog X.w) X.A (.compLoop (.ListComp elt gens sc ps) d (.ref it) (.ref D) ce) (fun r s' => match r with
      | .ok _ => ∃ H', Inv (X.blk s3 H3 scope ce fp) pins (wipe σ vs) H' s' ∧ Nx H'
      | .error _ => False) s2 := by
    refine codeAny_loop rfl (fun n s' => ∃ i H', Inv (X.blk s3 H3 scope ce fp) pins (wipe σ vs) H' s' ∧ tn i s'.heap ∧ (∀ b ∈ fi, H' b = none) ∧ W i n H') (fun n s4 ⟨i, H4, I4, st4, n4, w4⟩ => ?_) m0 ⟨0, H2, I2.weak (wipe_length _ _) (fun j v z => (wipe_some z).1), st2, fun b hb => (f2 b hb).1, w0⟩
    change wpAny _ X.A ((compTurn (.ListComp elt gens sc ps) d (.ref it) (.ref D) ce).onRaise (fun x => do noteFrame x ce; theTreesLotGoes x)) _ _ s4
    refine wpAny_noted ?_
    rw [hT]
    refine wpAny_bind (wpAny_standAt (wpAny_bind ?_))
    rcases turn i n H4 w4 with ⟨stop, nx⟩ | ⟨go, N1, hN1, step⟩
    · refine thnF (T.done (X.blk s3 H3 scope ce fp) rfl rfl rfl hc i _ s4 (wipe σ vs) H4 (fun _ _ => False) I4 (stat n4) st4 stop) fun r s5 ⟨hr, I5⟩ => ?_
      subst hr
      exact wpAny_pure ⟨H4, I5, nx⟩
    · refine thnF (T.item (X.blk s3 H3 scope ce fp) rfl rfl rfl hc i _ s4 (wipe σ vs) H4 (fun _ _ => False) I4 (stat n4) st4 go) fun r s5 ⟨u, hr, h5⟩ => ?_
      subst hr
      refine wpAny_bind (thnF h5 fun _ s6 ⟨x6, H6, I6, r6, y6, st6, n6⟩ => ?_)
      have I6' := I6.pinned (stat n6) (T.obj _ _ st6)
      refine wpAny_bind (thnF (pg.run _ s6 (wipe σ vs) H6 x6 u _ I6' r6 (step x6 H6 y6)) fun _ s7 ⟨σ7, H7, I7, hw7, q7⟩ => ?_)
      refine wpAny_bind (thnF (pt.run _ s7 σ7 H7 _ I7 q7) fun b s8 ⟨H8, I8, q8⟩ => ?_)
      have fin : ∀ {σ9 : L2.St} {s' : Shared} {H' : Hp}, Inv (X.blk s3 H3 scope ce fp) (pins ++ pinsAt fi s6.heap) σ9 H' s' → (wipe σ vs).length = σ9.length → (∀ (j : Nat) v, (wipe σ vs)[j]? = some (some v) → σ9[j]? = some (some v)) → N1 H' →
          ∃ m, m < n ∧ ∃ i H', Inv (X.blk s3 H3 scope ce fp) pins (wipe σ vs) H' s' ∧ tn i s'.heap ∧ (∀ b ∈ fi, H' b = none) ∧ W i m H' := fun {σ9 s' H'} I' hl hk nx => by
        obtain ⟨m', hm, w'⟩ := hN1 H' nx
        have pin' : ∀ b ∈ fi, ∀ o, s6.heap.get? b = some o → s'.heap.get? b = some o ∧ H' b = none := fun b hb o z =>
          let y := I'.pin (b, o) (List.mem_append_right _ (List.mem_append_right _ (mem_pinsAt hb z)))
          ⟨y.1, y.2.1⟩
        refine ⟨m', hm, i + 1, H', I'.unpinned.weak hl hk, T.keep _ _ _ st6 fun b hb o z => (pin' b hb o z).1, fun b hb => ?_, w'⟩
        obtain ⟨o, z, _⟩ := T.obj _ _ st6 b hb
        exact (pin' b hb o z).2
      have l7 : (wipe σ vs).length = σ7.length := by rw [← hw7, wipe_length]
      have k7 : ∀ (j : Nat) v, (wipe σ vs)[j]? = some (some v) → σ7[j]? = some (some v) ∧ j ∉ vs := fun j v z => by
        rw [← hw7] at z
        exact wipe_some z
      cases b with
      | false =>
        simp only [Bool.false_eq_true, if_false] at q8 ⊢
        exact wpAny_pure ⟨rfl, fin I8 l7 (fun j v z => (k7 j v z).1) q8⟩
      | true =>
        simp only [if_true] at q8 ⊢
        refine hM _ _ _ _ s8 σ7 H8 N1 I8 q8 fun σ9 H9 s9 I9 l9 k9 nx => ?_
        exact wpAny_pure ⟨rfl, fin I9 (l7.trans l9) (fun j v z => k9 j v (fun m => (k7 j v z).2 (hv j m)) (k7 j v z).1) nx⟩
  refine wpAny_bind (wpAny_runOwn ?_)
  rw [Around.mark_none]
  have start : codeAny (model X.prog X.w) X.A (.compStart (.ListComp elt gens sc ps) d (.ref it) (.ref D) ce) (fun r s' => match r with
      | .ok _ => ∃ H', Inv (X.blk s3 H3 scope ce fp) pins (wipe σ vs) H' s' ∧ Nx H'
      | .error _ => False) s2 := by
    refine codeAny_of_tree ?_
    change wpAny _ _ ((compStart (.ListComp elt gens sc ps) d (.ref it) (.ref D) ce).onRaise (fun x => do noteFrame x ce; standAt theWindowsPlace)) _ _ s2
    refine wpAny_notedAt ?_
    rw [hS]
    change wpAny _ _ (ask >>= _) _ _ s2
    refine wpAny_bind (wpAny_askSetting (wpAny_ite ?_))
    split
    · first
        | exact wpAny_bind (wpAny_pure (wpAny_pure (And.intro rfl loop)))
        | exact wpAny_bind (wpAny_pure (And.intro rfl loop))
        | exact wpAny_pure (And.intro rfl loop)
    · refine wpAny_bind (wpAny_rule ?_)
      first
        | exact wpAny_bind (wpAny_standAt (wpAny_bind (T.self X.A 0 s2 _ _ st2 (wpAny_pure (And.intro rfl loop)))))
        | (change wpAny _ _ (standAt iter.pos >>= _) _ _ s2; exact wpAny_bind (wpAny_standAt (wpAny_bind (T.self X.A 0 s2 _ _ st2 (wpAny_pure (And.intro rfl loop))))))
  refine codeAny_mono start fun r s' hr => ?_
  cases r with
  | ok f =>
    obtain ⟨H', I', nx⟩ := hr
    exact hk (wipe σ vs) H' s' I' (wipe_length _ _).symm (fun i v hi z => by rw [wipe_out hi]; exact z) nx
  | error er => exact hr.elim
/-- the reading: the first clause, and what follows its tests -/
def tLcN (wi : TI) (g : TG) (tt : TT) (vs : List Nat) (tl : Addr → TC) : TE := fun σ H Q => wi σ H fun J H1 => ∀ D, H1 D = none → ∃ W : Nat → Nat → Hp → Prop, (∃ m, W 0 m (upd H1 D (.lst []))) ∧ ∀ i m H, W i m H →
  (J.stop i H ∧ Q (.ref D) H) ∨ (J.go i H ∧ ∃ N1 : Hp → Prop, (∀ H', N1 H' → ∃ m', m' < m ∧ W (i + 1) m' H') ∧ ∀ x H', J.yld i H x H' → g x (wipe σ vs) H' fun σ3 H5 => wipe σ3 vs = wipe σ vs ∧ tt σ3 H5 fun b H6 => if b = true then tl D σ3 H6 N1 else N1 H6)
theorem pe_lcN {elt tg iter : Expr} {ifs : List Expr} {rest : List Comprehension} {sc : Scope} {ps : Pos} {own : List (Str × Nat)} {M : Addr → Env → Sem PySem.Fin → Sem PySem.Fin} {wi : TI} {g : TG} {tt : TT} {tl : Addr → TC} {vn : List Nat} (hc : X.calm = true) (hN : X.N.Nodup) (hi : PI X tg iter wi) (ok : BlkOk X.N X.env.scope sc own) (hv : ∀ i ∈ vn, i ∈ own.map (·.2))
    (hg : ∀ (s : Shared) (H : Hp) (C : Addr) (cl : List (Str × Addr)) (fp : List Addr), PG (X.blk s H sc (compEnvC sc cl C X.env) fp) tg g) (ht : ∀ (s : Shared) (H : Hp) (C : Addr) (cl : List (Str × Addr)) (fp : List Addr), PTs (X.blk s H sc (compEnvC sc cl C X.env) fp) ifs tt)
    (hT : ∀ D ce, TurnIs (.ListComp elt (⟨tg, iter, ifs, 0⟩ :: rest) sc ps) 0 tg ifs iter.pos D ce (M D ce))
    (hM : ∀ (s : Shared) (H : Hp) (C : Addr) (cl : List (Str × Addr)) (fp : List Addr) (D : Addr), Piece (X.blk s H sc (compEnvC sc cl C X.env) fp) vn (M D (compEnvC sc cl C X.env)) (tl D))
    (hs : ∀ x, foldedSetIterable iter X.env x = pure x := by intro _; rfl) : PE X (.ListComp elt (⟨tg, iter, ifs, 0⟩ :: rest) sc ps) (tLcN wi g tt (own.map (·.2)) tl) := by
  refine ⟨fun pins s σ H Q I h => ?_⟩
  rw [eval_ListComp]
  have free : ∀ y ∈ sc.names, y.2 = .free → ∃ c, X.env.cells.lookup y.1 = some c := fun y hy e => (ok.free y hy e).elim (fun k => I.ok.has _ (.inl k)) fun k => I.ok.has _ (.inr k)
  refine wpAny_comprehension_free rfl hs (closure_ok free) ok.kind (fun y hy e => by rw [ok.uniq y hy, e]) (thn (hi.run pins s σ H _ I h) fun xv s1 hx => thn hx fun itv s2 h2 => ?_)
  obtain ⟨it, fp, tn, J, H2, e, I2, T, st2, f2, q⟩ := h2
  subst e
  refine wpAny_newObj_type (newEnv_comp ?_) (by show 0 ≤ sizeLine; decide)
  generalize hD : s2.heap.objs.size = D
  have hDn : H2 D = none := I2.hok.fresh (Nat.le_of_eq hD)
  obtain ⟨W, ⟨m0, w0⟩, turn⟩ := q D hDn
  generalize hs3 : ({ s2 with heap := s2.heap.push { cls := .type "list", data := .seq ([] : List Value).toArray } } : Shared) = s3
  have h3 : s3.heap = s2.heap.push { cls := .type "list", data := .seq ([] : List Value).toArray } := by rw [← hs3]
  have I3 : Inv X pins σ (upd H2 D (.lst [])) s3 := by
    rw [← hs3]
    exact I2.laid (t' := s2.toks) (fun b o z => Heap.get?_push_of_some _ z) (Nat.le_of_eq hD) ⟨Nat.zero_le _, [], 0, .nil, by rw [← hD]; exact Heap.get?_push_size _ rfl⟩
  have f3 : ∀ b ∈ fp, FpOk X pins (upd H2 D (.lst [])) b ∧ b < s3.heap.objs.size := fun b hb => by
    obtain ⟨o, z, _⟩ := T.obj _ _ st2 b hb
    have hlt := Heap.lt_size z
    exact ⟨⟨by rw [upd_ne (by rw [← hD]; exact Nat.ne_of_lt hlt)]; exact (f2 b hb).1, (f2 b hb).2⟩, by rw [h3, Heap.size_push]; exact Nat.lt_succ_of_lt hlt⟩
  have st3 : tn 0 s3.heap := T.keep _ _ _ st2 fun b _ o z => by rw [h3]; exact Heap.get?_push_of_some _ z
  have I4 := block_start I3 ok hN f3
  have nfp : ∀ b ∈ fp, (upd H2 D (.lst [])) b = none := fun b hb => (f3 b hb).1.1
  change codeAny _ _ (.compStart (.ListComp elt (⟨tg, iter, ifs, 0⟩ :: rest) sc ps) 0 (.ref it) (.ref D) (compEnvC sc (cellsFrom (s3.heap.objs.size + 1) sc.names (cloFrom X.env.cells sc.names [])) s3.heap.objs.size X.env)) (compPost (model X.prog X.w) X.A X.xe none _ (.ref D) s3.heap.objs.size) { s3 with heap := pushCells (s3.heap.push { cls := .type "dict", data := .dict #[] }) sc.names }
  generalize hcl : cellsFrom (s3.heap.objs.size + 1) sc.names (cloFrom X.env.cells sc.names []) = cl at I4 ⊢
  have pg := hg s3 (upd H2 D (.lst [])) s3.heap.objs.size cl fp
  have pt := ht s3 (upd H2 D (.lst [])) s3.heap.objs.size cl fp
  have pm := hM s3 (upd H2 D (.lst [])) s3.heap.objs.size cl fp D
  have tm := hT D (compEnvC sc cl s3.heap.objs.size X.env)
  have cL : (compEnvC sc cl s3.heap.objs.size X.env).locals = s3.heap.objs.size := rfl
  generalize compEnvC sc cl s3.heap.objs.size X.env = ce at I4 pg pt pm tm cL ⊢
  generalize hH3 : upd H2 D (.lst []) = H3 at I3 I4 pg pt pm w0 nfp f3
  generalize hs4 : ({ s3 with heap := pushCells (s3.heap.push { cls := .type "dict", data := .dict #[] }) sc.names } : Shared) = s4 at I4 ⊢
  have st4 : tn 0 s4.heap := T.keep _ _ _ st3 fun b _ o z => by rw [← hs4]; exact pushCells_keeps _ _ _ _ (Heap.get?_push_of_some _ z)
  have stat : ∀ {σ' : L2.St} {H' : Hp} {s' : Shared}, Inv (X.blk s3 H3 sc ce fp) [] σ' H' s' → (∀ b ∈ fp, H' b = none) → ∀ b ∈ fp, FpOk (X.blk s3 H3 sc ce fp) [] H' b := fun {σ' H' s'} I' hn b hb =>
    ⟨hn b hb, (I'.ok.exf b hb).1, I'.ok.exfs b hb, .inl hb, fun x c z => (I'.ok.exf b hb).2 x c z, fun p hp => absurd (show p ∈ ([] : List (Addr × Obj)) ++ [] from hp) (by simp)⟩
  have loop : codeAny (model X.prog X.w) X.A (.compLoop (.ListComp elt (⟨tg, iter, ifs, 0⟩ :: rest) sc ps) 0 (.ref it) (.ref D) ce) (compPost (model X.prog X.w) X.A X.xe none (EP X pins σ Q) (.ref D) s3.heap.objs.size) s4 := by
    refine codeAny_loop rfl (fun n s' => ∃ i H', Inv (X.blk s3 H3 sc ce fp) [] (wipe σ (own.map (·.2))) H' s' ∧ tn i s'.heap ∧ (∀ b ∈ fp, H' b = none) ∧ W i n H') (fun n s5 ⟨i, H5, I5, st5, n5, w5⟩ => ?_) m0 ⟨0, H3, I4, st4, nfp, w0⟩
    change wpAny _ X.A ((compTurn (.ListComp elt (⟨tg, iter, ifs, 0⟩ :: rest) sc ps) 0 (.ref it) (.ref D) ce).onRaise (fun x => do noteFrame x ce; theTreesLotGoes x)) _ _ s5
    refine wpAny_noted ?_
    rw [tm]
    refine wpAny_bind (wpAny_standAt (wpAny_bind ?_))
    rcases turn i n H5 w5 with ⟨stop, qq⟩ | ⟨go, N1, hN1, step⟩
    · refine thnF (T.done (X.blk s3 H3 sc ce fp) rfl rfl rfl hc i [] s5 _ H5 (fun _ _ => False) I5 (stat I5 n5) st5 stop) fun r s6 ⟨hr, I6⟩ => ?_
      subst hr
      refine wpAny_pure ?_
      have I7 : Inv X pins σ H5 s6 := I3.call' (ch := fp) I6.os I6.base I6.hok I6.bare fun b hb => ⟨(f3 b hb).1.2.2.2.1, (f3 b hb).1.2.1, (f3 b hb).1.2.2.2.2.1, (f3 b hb).1.2.2.2.2.2⟩
      have nC : H5 s3.heap.objs.size = none := by
        have z : H5 ce.locals = none := I6.free
        rwa [cL] at z
      obtain ⟨m, hn, _⟩ := I6.loc
      have hn : s6.heap.Ns ce.locals m := hn
      rw [cL] at hn
      obtain ⟨f0, f1, f2', f3', f4, f5⟩ := I3.fpOk (Nat.le_refl _) nC
      exact ⟨m, hn, fun h'' sb => ⟨.ref D, H5, I7.turned (t' := s6.toks) (fun b o hb z => (sb.2 b hb).trans z) f0 f1 f3' f4 f5, rfl, qq⟩⟩
    · refine thnF (T.item (X.blk s3 H3 sc ce fp) rfl rfl rfl hc i [] s5 _ H5 (fun _ _ => False) I5 (stat I5 n5) st5 go) fun r s6 ⟨u, hr, h6⟩ => ?_
      subst hr
      refine wpAny_bind (thnF h6 fun _ s7 ⟨x, H7, I7, r7, y7, st7, n7⟩ => ?_)
      have I7' := I7.pinned (stat I7 n7) (T.obj _ _ st7)
      refine wpAny_bind (thnF (pg.run _ s7 _ H7 x u _ I7' r7 (step x H7 y7)) fun _ s8 ⟨σ8, H8, I8, hw8, q8⟩ => ?_)
      refine wpAny_bind (thnF (pt.run _ s8 σ8 H8 _ I8 q8) fun b s9 ⟨H9, I9, q9⟩ => ?_)
      have fin : ∀ {σ9 : L2.St} {s' : Shared} {H' : Hp}, Inv (X.blk s3 H3 sc ce fp) ([] ++ pinsAt fp s7.heap) σ9 H' s' → (wipe σ (own.map (·.2))).length = σ9.length → (∀ (j : Nat) v, (wipe σ (own.map (·.2)))[j]? = some (some v) → σ9[j]? = some (some v)) → N1 H' →
          ∃ m, m < n ∧ ∃ i H', Inv (X.blk s3 H3 sc ce fp) [] (wipe σ (own.map (·.2))) H' s' ∧ tn i s'.heap ∧ (∀ b ∈ fp, H' b = none) ∧ W i m H' := fun {σ9 s' H'} I' hl hk nx => by
        obtain ⟨m', hm, w'⟩ := hN1 H' nx
        have pin' : ∀ b ∈ fp, ∀ o, s7.heap.get? b = some o → s'.heap.get? b = some o ∧ H' b = none := fun b hb o z =>
          let y := I'.pin (b, o) (List.mem_append_right _ (List.mem_append_right _ (mem_pinsAt hb z)))
          ⟨y.1, y.2.1⟩
        refine ⟨m', hm, i + 1, H', (I'.unpinned (pins := [])).weak hl hk, T.keep _ _ _ st7 fun b hb o z => (pin' b hb o z).1, fun b hb => ?_, w'⟩
        obtain ⟨o, z, _⟩ := T.obj _ _ st7 b hb
        exact (pin' b hb o z).2
      have l8 : (wipe σ (own.map (·.2))).length = σ8.length := by rw [← hw8, wipe_length]
      have k8 : ∀ (j : Nat) v, (wipe σ (own.map (·.2)))[j]? = some (some v) → σ8[j]? = some (some v) ∧ j ∉ own.map (·.2) := fun j v z => by
        rw [← hw8] at z
        exact wipe_some z
      cases b with
      | false =>
        simp only [Bool.false_eq_true, if_false] at q9 ⊢
        exact wpAny_pure ⟨rfl, fin I9 l8 (fun j v z => (k8 j v z).1) q9⟩
      | true =>
        simp only [if_true] at q9 ⊢
        refine pm _ _ _ _ s9 σ8 H9 N1 I9 q9 fun σ10 H10 s10 I10 l10 k10 nx => ?_
        exact wpAny_pure ⟨rfl, fin I10 (l8.trans l10) (fun j v z => k10 j v (fun m => (k8 j v z).2 (hv j m)) (k8 j v z).1) nx⟩
  exact codeAny_compStart_list loop (T.self X.A 0 _ _ _ st4 loop)
end
end KaC
set_option maxRecDepth 100000
set_option maxHeartbeats 4000000
namespace KaC
open PySem PySem.Spec PyProof.Rows L2
section
variable {K : PySem.W.Frag} {a : Addr} {xs : List V} {Hs : Hp} {Qd : Hp → Prop}
theorem go_tup {F : V → Hp → (Hp → Prop) → Prop} (Pv : Nat → Hp → Prop) (h0 : Pv 0 Hs) (hl : ∀ i H, i ≤ xs.length → Pv i H → SqT K H a xs) (hs : ∀ i x H, xs[i]? = some x → Pv i H → F x H (Pv (i + 1))) (hd : ∀ H, Pv xs.length H → Qd H) :
    ∃ W : Nat → Nat → Hp → Prop, (∃ m, W 0 m Hs) ∧ ∀ i m H, W i m H → ((Itt K a).stop i H ∧ Qd H) ∨ ((Itt K a).go i H ∧ ∃ N : Hp → Prop, (∀ H', N H' → ∃ m', m' < m ∧ W (i + 1) m' H') ∧ ∀ x H', (Itt K a).yld i H x H' → F x H' N) := by
  refine ⟨fun i m H => m = xs.length - i ∧ i ≤ xs.length ∧ Pv i H, ⟨_, rfl, Nat.zero_le _, h0⟩, fun i m H ⟨em, hi, p⟩ => ?_⟩
  have q := hl i H hi p
  rcases Nat.lt_or_ge i xs.length with lt | ge
  · refine .inr ⟨⟨xs, xs[i], q, List.getElem?_eq_getElem lt⟩, Pv (i + 1), fun H' p' => ⟨xs.length - (i + 1), by omega, rfl, lt, p'⟩, fun x H' ⟨e, y⟩ => ?_⟩
    subst e
    exact hs i x _ (y xs q) p
  · obtain rfl : i = xs.length := by omega
    exact .inl ⟨⟨xs, q, Nat.le_refl _⟩, hd H p⟩
theorem go_range {lo : Int} {n : Nat} {F : V → Hp → (Hp → Prop) → Prop} (Pv : Nat → Hp → Prop) (h0 : Pv 0 Hs) (hs : ∀ i H, i < n → Pv i H → F (.int (lo + i)) H (Pv (i + 1))) (hd : ∀ H, Pv n H → Qd H) :
    ∃ W : Nat → Nat → Hp → Prop, (∃ m, W 0 m Hs) ∧ ∀ i m H, W i m H → ((Itr lo n).stop i H ∧ Qd H) ∨ ((Itr lo n).go i H ∧ ∃ N : Hp → Prop, (∀ H', N H' → ∃ m', m' < m ∧ W (i + 1) m' H') ∧ ∀ x H', (Itr lo n).yld i H x H' → F x H' N) := by
  refine ⟨fun i m H => m = n - i ∧ i ≤ n ∧ Pv i H, ⟨_, rfl, Nat.zero_le _, h0⟩, fun i m H ⟨em, hi, p⟩ => ?_⟩
  rcases Nat.lt_or_ge i n with lt | ge
  · refine .inr ⟨lt, Pv (i + 1), fun H' p' => ⟨n - (i + 1), by omega, rfl, lt, p'⟩, fun x H' ⟨e, y⟩ => ?_⟩
    subst e; subst y
    exact hs i _ lt p
  · obtain rfl : i = n := by omega
    exact .inl ⟨Nat.le_refl _, hd H p⟩
theorem go_enumT {F : V → Hp → (Hp → Prop) → Prop} (Pv : Nat → Hp → Prop) (h0 : Pv 0 Hs) (hl : ∀ i H, i ≤ xs.length → Pv i H → SqT K H a xs) (hs : ∀ i x T H, xs[i]? = some x → Pv i H → H T = none → F (.ref T) (upd H T (.tup [.int (i : Nat), x])) (Pv (i + 1))) (hd : ∀ H, Pv xs.length H → Qd H) :
    ∃ W : Nat → Nat → Hp → Prop, (∃ m, W 0 m Hs) ∧ ∀ i m H, W i m H → ((ItT K a).stop i H ∧ Qd H) ∨ ((ItT K a).go i H ∧ ∃ N : Hp → Prop, (∀ H', N H' → ∃ m', m' < m ∧ W (i + 1) m' H') ∧ ∀ x H', (ItT K a).yld i H x H' → F x H' N) := by
  refine ⟨fun i m H => m = xs.length - i ∧ i ≤ xs.length ∧ Pv i H, ⟨_, rfl, Nat.zero_le _, h0⟩, fun i m H ⟨em, hi, p⟩ => ?_⟩
  have q := hl i H hi p
  rcases Nat.lt_or_ge i xs.length with lt | ge
  · refine .inr ⟨⟨xs, xs[i], q, List.getElem?_eq_getElem lt⟩, Pv (i + 1), fun H' p' => ⟨xs.length - (i + 1), by omega, rfl, lt, p'⟩, fun v H' ⟨T, x, e1, e2, e3, y⟩ => ?_⟩
    subst e1; subst e3
    exact hs i x T H (y xs q) p e2
  · obtain rfl : i = xs.length := by omega
    exact .inl ⟨⟨xs, q, Nat.le_refl _⟩, hd H p⟩
/-- for i, x in enumerate(t) -/
theorem for_enumT {g : TG} {tb : TS} {D : Ends} {σ : L2.St} {H : Hp} (Pv : Nat → L2.St → Hp → Prop) (h0 : Pv 0 σ H) (hl : ∀ i σ H, i ≤ xs.length → Pv i σ H → SqT K H a xs)
    (hs : ∀ i x T σ H, xs[i]? = some x → Pv i σ H → H T = none → g (.ref T) σ (upd H T (.tup [.int (i : Nat), x])) fun σ2 H2 => tb { D with nx := Pv (i + 1), ct := Pv (i + 1), bk := D.nx } σ2 H2) (hd : ∀ σ H, Pv xs.length σ H → D.nx σ H) :
    ∃ W : Nat → Nat → L2.St → Hp → Prop, (∃ m, W 0 m σ H) ∧ ∀ i m σ H, W i m σ H →
      ((ItT K a).stop i H ∧ D.nx σ H) ∨ ((ItT K a).go i H ∧ ∃ N : L2.St → Hp → Prop, (∀ σ' H', N σ' H' → ∃ m', m' < m ∧ W (i + 1) m' σ' H') ∧ ∀ x H', (ItT K a).yld i H x H' → g x σ H' fun σ2 H2 => tb { D with nx := N, ct := N, bk := D.nx } σ2 H2) := by
  refine ⟨fun i m σ H => m = xs.length - i ∧ i ≤ xs.length ∧ Pv i σ H, ⟨_, rfl, Nat.zero_le _, h0⟩, fun i m σ H ⟨em, hi, p⟩ => ?_⟩
  have q := hl i σ H hi p
  rcases Nat.lt_or_ge i xs.length with lt | ge
  · refine .inr ⟨⟨xs, xs[i], q, List.getElem?_eq_getElem lt⟩, Pv (i + 1), fun σ' H' p' => ⟨xs.length - (i + 1), by omega, rfl, lt, p'⟩, fun v H' ⟨T, x, e1, e2, e3, y⟩ => ?_⟩
    subst e1; subst e3
    exact hs i x T σ H (y xs q) p e2
  · obtain rfl : i = xs.length := by omega
    exact .inl ⟨⟨xs, q, Nat.le_refl _⟩, hd σ H p⟩
end
section
variable {X : Cx}
/-- two clauses, each with its tests -/
theorem pe_lc2n {elt t0 i0 t1 i1 : Expr} {f0 f1 : List Expr} {sc : Scope} {ps : Pos} {own : List (Str × Nat)} {w0 w1 : TI} {g0 g1 : TG} {tt0 tt1 : TT} {te : TE} (v1 : List Nat) (hc : X.calm = true) (hN : X.N.Nodup) (hi : PI X t0 i0 w0) (ok : BlkOk X.N X.env.scope sc own)
    (h01 : ∀ i ∈ v1, i ∈ own.map (·.2))
    (hg0 : ∀ (s : Shared) (H : Hp) (C : Addr) (cl : List (Str × Addr)) (fp : List Addr), PG (X.blk s H sc (compEnvC sc cl C X.env) fp) t0 g0) (ht0 : ∀ (s : Shared) (H : Hp) (C : Addr) (cl : List (Str × Addr)) (fp : List Addr), PTs (X.blk s H sc (compEnvC sc cl C X.env) fp) f0 tt0)
    (hi1 : ∀ (s : Shared) (H : Hp) (C : Addr) (cl : List (Str × Addr)) (fp : List Addr), PI (X.blk s H sc (compEnvC sc cl C X.env) fp) t1 i1 w1)
    (hg1 : ∀ (s : Shared) (H : Hp) (C : Addr) (cl : List (Str × Addr)) (fp : List Addr), PG (X.blk s H sc (compEnvC sc cl C X.env) fp) t1 g1) (ht1 : ∀ (s : Shared) (H : Hp) (C : Addr) (cl : List (Str × Addr)) (fp : List Addr), PTs (X.blk s H sc (compEnvC sc cl C X.env) fp) f1 tt1)
    (he : ∀ (s : Shared) (H : Hp) (C : Addr) (cl : List (Str × Addr)) (fp : List Addr), PE (X.blk s H sc (compEnvC sc cl C X.env) fp) elt te)
    (s0 : ∀ x, foldedSetIterable i0 X.env x = pure x := by intro _; rfl) (s1 : ∀ env x, foldedSetIterable i1 env x = pure x := by intro _ _; rfl) :
    PE X (.ListComp elt [⟨t0, i0, f0, 0⟩, ⟨t1, i1, f1, 0⟩] sc ps) (tLcN w0 g0 tt0 (own.map (·.2)) fun D => tCl w1 g1 tt1 v1 (tEl D te)) := by
  refine pe_lcN (vn := v1) (M := fun D ce k => do
      let x ← eval i1 ce
      standAt i1.pos
      let x ← foldedSetIterable i1 ce x
      let _ ← runOwn (.compStart (.ListComp elt [⟨t0, i0, f0, 0⟩, ⟨t1, i1, f1, 0⟩] sc ps) 1 (← holding [x] (pyIter x)) (.ref D) ce) ce
      k) hc hN hi ok h01 hg0 ht0 (fun D ce it => rfl) (fun s H C cl fp D => ?_) s0
  exact piece_clause (vn := []) (M := fun k => (do let _ ← call (.builtin "list.append") [.ref D, ← eval elt (compEnvC sc cl C X.env)] : Sem PUnit) >>= fun _ => k) hc (p := i1.pos) (fun it => rfl) (piece_elt (he s H C cl fp)) (fun _ m => nomatch m) (hi1 s H C cl fp) (hg1 s H C cl fp) (ht1 s H C cl fp) (fun x => s1 _ x) (fun it => rfl)
end
end KaC
set_option maxRecDepth 100000
set_option maxHeartbeats 4000000
namespace KaG
open PySem PySem.Spec PyProof.Rows L2 KaC
theorem kd_one {ks : List Kd} {k k' : Kd} (nd : (ks.map Kd.name).Nodup) (h : k ∈ ks) (h' : k' ∈ ks) (e : k.name = k'.name) : k = k' := by
  obtain ⟨i, hi⟩ := List.mem_iff_getElem?.mp h
  obtain ⟨j, hj⟩ := List.mem_iff_getElem?.mp h'
  obtain ⟨li, ei⟩ := List.getElem?_eq_some_iff.mp hi
  obtain ⟨lj, ej⟩ := List.getElem?_eq_some_iff.mp hj
  have hij : j = i := (List.getElem_inj (h₀ := by rw [List.length_map]; exact lj) (h₁ := by rw [List.length_map]; exact li) nd).mp (by rw [List.getElem_map, List.getElem_map, ei, ej, e])
  subst hij
  rw [hi] at hj
  exact Option.some.inj hj
theorem gsOf_eq {ks : List Kd} {k : Kd} (nd : (ks.map Kd.name).Nodup) (h : k ∈ ks) : gsOf ks k.name = k.gs := by
  unfold gsOf
  cases e : ks.find? (fun q => decide (q.name = k.name)) with
  | none =>
    have := List.find?_eq_none.mp e k h
    simp at this
  | some q =>
    have h1 := List.find?_some e
    have h2 := List.mem_of_find?_eq_some e
    rw [kd_one nd h2 h (of_decide_eq_true h1)]
theorem keepLt_eq {ks : List Kd} {k : Kd} {a : Int} (nd : (ks.map Kd.name).Nodup) (h : k ∈ ks) : keepLt ks k.name a = decide (a < k.keep) := by
  unfold keepLt
  cases e : decide (a < k.keep) with
  | true => exact List.any_eq_true.mpr ⟨k, h, by simp [e]⟩
  | false =>
    rw [List.any_eq_false]
    intro q hq z
    rw [Bool.and_eq_true, decide_eq_true_eq] at z
    rw [kd_one nd hq h z.1, e] at z
    exact absurd z.2 (by decide)
theorem inV_str {p : Str} : ∀ {B : List Str}, inV (.str p) (B.map V.str) = decide (p ∈ B)
  | [] => rfl
  | b :: r => by
    have ih := inV_str (p := p) (B := r)
    unfold inV at ih ⊢
    rw [List.map_cons, List.any_cons, ih]
    show ((b == p) || decide (p ∈ r)) = _
    by_cases h : b = p
    · subst h
      simp
    · have : (b == p) = false := by
        rw [beq_eq_false_iff_ne]
        exact h
      rw [this, Bool.false_or]
      exact decide_eq_decide.mpr ⟨fun z => List.mem_cons_of_mem _ z, fun z => (List.mem_cons.mp z).elim (fun y => absurd y.symm h) id⟩
theorem flat_strs : ∀ {B : List Str}, (B.map V.str).all flatV = true
  | [] => rfl
  | b :: r => by
    rw [List.map_cons, List.all_cons, flat_strs]
    rfl
theorem Sq2.in_ {K : PySem.W.Frag} {H : Hp} {l : Addr} {xs : List V} (h : Sq2 H l xs) : SqL K H l xs ∨ SqT K H l xs := h.imp SqL.of SqT.of
theorem Sq2.same {H H' : Hp} {l : Addr} {xs : List V} (h : Sq2 H l xs) (s : Same H H') : Sq2 H' l xs := h.imp (s _ _) (s _ _)
/-- a ground of a rulebook -/
structure GrOk (rows names : List Str) (g : Gr) : Prop where
  len : g.length ≤ 3
  nv : ∀ n ∈ g, NeedV rows names n
theorem BookOk.gr {rows : List Str} {ks : List Kd} (h : BookOk rows ks) {k : Kd} (m : k ∈ ks) {g : Gr} (mg : g ∈ k.gs) : GrOk rows (ks.map Kd.name) g := ⟨(h.grd k m g mg).2.1, (h.grd k m g mg).2.2⟩
section
variable {P : Program} {w : World} {K : PySem.W.Frag} {mg : Str → Option Value} {base : Heap}
/-- kind_of a name that is there -/
def spKindN : Sp := fun vs H Q _ => ∃ (b : Addr) (rows : List Str) (ks : List Kd) (n : Str), vs = [.ref b, .str n] ∧ BookAt H b rows ks ∧ (ks.map Kd.name).Nodup ∧ n ∈ ks.map Kd.name ∧ ∀ (ka : Addr) (k : Kd), k ∈ ks → k.name = n → KdAt H ka k → Q (.ref ka) H
theorem ok_kindN {f : Addr} {fd : FuncData} (F : Fun K "kind_of" "kind_of" sKindOf f fd) : FnOk P w K mg base CX0 1 f fd ["rulebook", "name"] spKindN := by
  have C := ok_kindOf0 (P := P) (w := w) (mg := mg) (base := base) F
  have go : ∀ vs H Q E, spKindN vs H Q E → spKindOf0 vs H Q E := fun vs H Q E ⟨b, rows, ks, n, e, hA, nd, mn, q⟩ => by
    obtain ⟨k, mk, kn⟩ := List.mem_map.mp mn
    obtain ⟨i, hi⟩ := List.mem_iff_getElem?.mp mk
    obtain ⟨r, kt, kas, e1, e2, e3, pk⟩ := id hA
    obtain ⟨ka, hka, hk⟩ := paired_at2 pk hi
    exact ⟨b, rows, ks, kas, i, k, ka, by rw [kn]; exact e, hA, ⟨r, kt, e1, e3⟩, nd, hi, hka, q ka k mk kn hk⟩
  exact ⟨fun vs H Q E h => C.len vs H Q E (go _ _ _ _ h), fun A outer s H args us vs Q E hr e0 hb r h => C.run A outer s H args us vs Q E hr e0 hb r (go _ _ _ _ h)⟩
abbrev sIsLive : Stmt := top 10
abbrev nmIL : List Str := ["rulebook", "ground", "bearing", "need"]
theorem scIL : FnScope nmIL ["rulebook", "ground", "bearing"] (defScope sIsLive) := ⟨rfl, rfl, rfl, by decide +kernel, rfl, by decide +kernel, by decide +kernel⟩
def spIsLive : Sp := fun vs H Q _ => ∃ (b ga sa : Addr) (rows : List Str) (ks : List Kd) (g : Gr) (B : List Str), vs = [.ref b, .ref ga, .ref sa] ∧ BookAt H b rows ks ∧ (ks.map Kd.name).Nodup ∧ Grd H ga g ∧ GrOk rows (ks.map Kd.name) g ∧ Sq2 H sa (B.map V.str) ∧ ∀ H', Same H H' → Q (.bl (grLive ks B g)) H'
theorem ok_isLive {f fK : Addr} {fd fdK : FuncData} (F : Fun K "_is_live" "_is_live" sIsLive f fd) (hall : mg "all" = none) (C : Ct P w K mg base "kind_of" 1 ["rulebook", "name"] spKindN fK fdK) : FnOk P w K mg base CX0 2 f fd ["rulebook", "ground", "bearing"] spIsLive := by
  refine F.ok scIL (fun vs H Q E h => ?_) (fun cdv A outer s H vs Q E hr h => ?_)
  · obtain ⟨b, ga, sa, rows, ks, g, B, rfl, _⟩ := h
    rfl
  · obtain ⟨b, ga, sa, rows, ks, g, B, rfl, hA, nd, ⟨ns, eg, pg⟩, hn, hB, k⟩ := h
    refine ⟨_, (pss_one (ps_ret (pe_callB (r := rAll K) (cr_all rfl) (by rfl) hall (by decide +kernel) (pa_cons (pe_lc (own := [("need", 3)]) (g := gName 3) (by rfl) scIL.nd (pi_tup (pv 1))
        (blkOk_by (own := [("need", 3)]) (N := nmIL) (sc := defScope sIsLive) (by decide +kernel)) (fun _ _ _ _ _ => pg_name (i := 3) scIL.nd rfl (Or.inl rfl)) (fun _ _ _ _ _ => pts_nil)
        (fun _ _ _ _ _ => pe_or (pe_cmpR (r := rEq) op_eq (pe_ix (r := rIxT K) ix_tup (pv 3) pe_int (fun _ _ => rfl)) pe_str (nomark _)) (pe_one (pe_and (pe_cmpR (r := rIn K false) op_in_seq (pe_ix (r := rIxT K) ix_tup (pv 3) pe_int (fun _ _ => rfl)) (pv 2) rfl)
          (pe_one (pe_cmpR (r := rI0 fun i j => V.bl (decide (i < j))) op_lt (pe_ix (r := rIxT K) ix_tup (pv 3) pe_int (fun _ _ => rfl))
            (pe_ix (r := rIxT K) ix_tup (pe_call C.G hr (by rfl) C.m C.kp C.b .nil pass0 (pa_cons (pv 0) (pa_cons (pe_ix (r := rIxT K) ix_tup (pv 3) pe_int (fun _ _ => rfl)) pa_nil))) pe_int (fun _ _ => rfl)) (nomark _))))))) pa_nil)))), ?_⟩
    have lng := paired_len pg
    have l3 := hn.len
    refine ⟨_, rfl, ga, rfl, ⟨_, SqT.of eg⟩, fun D hD => lc_tup (K := K) (a := ga) (xs := ns.map V.ref) (fun i J => Same H J ∧ J D = some (.lst (((g.take i).map (ndLive ks B)).map V.bl))) ?_ ?_ ?_ ?_⟩
    · exact ⟨same_upd hD, upd_same⟩
    · rintro i J _ ⟨S2, _⟩
      exact SqT.of (S2 _ _ eg)
    · rintro i x J hx ⟨S2, jD⟩
      rw [List.getElem?_map] at hx
      obtain ⟨q, hq, rfl⟩ := Option.map_eq_some_iff.mp hx
      obtain ⟨it, hit, eq⟩ := paired_at pg hq
      have nv := hn.nv it (List.mem_of_getElem? hit)
      have eqJ := S2 _ _ eq
      have fin : ∀ c : Bool, ndLive ks B it = c → ∃ acc, J D = some (.lst acc) ∧ acc.length < sizeLine ∧ Same H (upd J D (.lst (acc ++ [.bl c]))) ∧ upd J D (.lst (acc ++ [.bl c])) D = some (.lst (((g.take (i + 1)).map (ndLive ks B)).map V.bl)) := fun c hc => by
        refine ⟨_, jD, small1000 (by rw [List.length_map, List.length_map, List.length_take]; omega), fun b u e => by rw [upd_ne (ne_of_none e hD)]; exact S2 b u e, ?_⟩
        rw [upd_same, List.take_add_one, hit, Option.toList_some, List.map_append, List.map_append, List.map_singleton, hc]
        rfl
      refine ⟨rfl, ?_⟩
      unfold tYes
      dsimp only
      cases nv with
      | row nm t m h =>
        refine iteT ⟨_, rfl, q, _, 0, .str "row", rfl, rfl, SqT.of eqJ, rfl, rfl, _, rfl, ?_⟩
        rw [if_pos (by decide +kernel)]
        exact fin true rfl
      | kind nm a t m h =>
        refine iteT ⟨_, rfl, q, _, 0, .str "kind", rfl, rfl, SqT.of eqJ, rfl, rfl, _, rfl, ?_⟩
        rw [if_neg (by decide +kernel)]
        refine ⟨_, rfl, q, _, 1, .str nm, rfl, rfl, SqT.of eqJ, rfl, _, rfl, sa, B.map V.str, rfl, (hB.same S2).in_, rfl, flat_strs, _, rfl, ?_⟩
        rw [show (if false = true then !inV (V.str nm) (List.map V.str B) else inV (V.str nm) (List.map V.str B)) = decide (nm ∈ B) from inV_str]
        by_cases hm : nm ∈ B
        · rw [if_pos (decide_eq_true hm)]
          refine ⟨_, rfl, q, _, 2, .int a, rfl, rfl, SqT.of eqJ, rfl, _, rfl, _, rfl, q, _, 1, .str nm, rfl, rfl, SqT.of eqJ, rfl, b, rows, ks, nm, rfl, hA.ts (TSame.of S2), nd, h, fun ka kd mk kn hk => ?_⟩
          obtain ⟨gt, gas, f1, _⟩ := hk
          refine ⟨ka, _, 1, .int kd.keep, rfl, rfl, SqT.of f1, rfl, _, _, rfl, rfl, ?_⟩
          refine fin _ ?_
          show (decide (nm ∈ B) && keepLt ks nm a) = _
          rw [← kn, keepLt_eq nd mk, kn, decide_eq_true hm, Bool.true_and]
        · rw [if_neg (by rw [decide_eq_false hm]; decide)]
          refine fin false ?_
          show (decide (nm ∈ B) && keepLt ks nm a) = _
          rw [decide_eq_false hm, Bool.false_and]
    · rintro J ⟨S2, jD⟩
      rw [List.length_map, lng, List.take_length] at jD
      refine ⟨D, g.map (ndLive ks B), rfl, SqL.of jD, ?_⟩
      have e : (g.map (ndLive ks B)).all id = grLive ks B g := by
        unfold grLive
        rw [List.all_map]
        rfl
      rw [e]
      exact k J S2
end
end KaG
set_option maxRecDepth 100000
set_option maxHeartbeats 2000000
namespace KaG
open PySem PySem.Spec PyProof.Rows L2 LamX NdefX
/-- a cell, by what it holds -/
def CelO (c : Addr) (v : Option V) : HO := .ext fun h => ∃ u', h.IsCell c u' ∧ ∀ x, v = some x → ∃ u, u' = some u ∧ RelV x u
def InC (cl : List (Str × Addr)) (c : Addr) : Prop := ∃ y, cl.lookup y = some c
open Classical in
noncomputable def thaw (cl : List (Str × Addr)) (H : Hp) : Hp := fun b => if InC cl b then none else H b
open Classical in
noncomputable def backH (cl : List (Str × Addr)) (H0 H : Hp) : Hp := fun b => if InC cl b then H0 b else H b
section
variable {cl : List (Str × Addr)} {H H0 : Hp} {b : Addr}
theorem thaw_in (h : InC cl b) : thaw cl H b = none := if_pos h
theorem thaw_out (h : ¬ InC cl b) : thaw cl H b = H b := if_neg h
theorem back_in (h : InC cl b) : backH cl H0 H b = H0 b := if_pos h
theorem back_out (h : ¬ InC cl b) : backH cl H0 H b = H b := if_neg h
theorem thaw_none (h : H b = none) : thaw cl H b = none := by
  by_cases q : InC cl b
  · exact thaw_in q
  · rw [thaw_out q]
    exact h
end
/-- all cells of a function, frozen -/
def FrzC (cl : List (Str × Addr)) (H : Hp) : Prop := ∀ c, InC cl c → ∃ o v, H c = some (.frz o (CelO c v))
section
variable {P : Program} {w : World} {K : PySem.W.Frag} {mg : Str → Option Value} {base : Heap} {A : Around} {outer : List Env} {s s' : Shared} {H Hf : Hp} {cl : List (Str × Addr)} {Q : VK} {u : Value}
theorem FrzC.out (F : FrzC cl H) {b : Addr} {u : HO} (e : H b = some u) (n : ∀ o v, u ≠ .frz o (CelO b v)) : ¬ InC cl b := fun z => by
  obtain ⟨o, v, q⟩ := F b z
  rw [q] at e
  exact n o v (Option.some.inj e).symm
theorem FrzC.out' (F : FrzC cl H) {b : Addr} (e : H b = none) : ¬ InC cl b := fun z => by
  obtain ⟨o, v, q⟩ := F b z
  rw [q] at e
  cases e
theorem env0_thaw (F : FrzC cl H) (e0 : Env0 P w K mg base A outer s H) : Env0 P w K mg base A outer s (thaw cl H) := by
  refine ⟨e0.frames, e0.mod, fun b o e => ⟨(e0.bs b o e).1, thaw_none (e0.bs b o e).2⟩, e0.bsz, e0.funs, fun b hb => thaw_none (e0.frf b hb), fun b u e => ?_, e0.bare⟩
  by_cases q : InC cl b
  · rw [thaw_in q] at e
    cases e
  · rw [thaw_out q] at e
    exact (e0.hok b u e).stay (fun _ _ _ z => z) (fun d z => by rw [thaw_out (F.out z fun _ _ y => nomatch y)]; exact z) fun d xs z => by rw [thaw_out (F.out z fun _ _ y => nomatch y)]; exact z
theorem ce_thaw (F : FrzC cl H) (e0 : Env0 P w K mg base A outer s H) (h : CE outer P w (thaw cl H) s (fun v H' => Q v (backH cl H H')) u s') : CE outer P w H s Q u s' := by
  obtain ⟨v, H', os, bare, un, hok, r, q⟩ := h
  have kc : ∀ c, InC cl c → ∃ o v, H c = some (.frz o (CelO c v)) ∧ s.heap.get? c = some o ∧ s'.heap.get? c = some o ∧ H' c = none := fun c z => by
    obtain ⟨o, v, e⟩ := F c z
    obtain ⟨g, _⟩ := e0.hok c _ e
    refine ⟨o, v, e, g, un.keep c o g (thaw_in z) (fun hb => ?_) (by simp), un.free c o g (thaw_in z) (by simp)⟩
    have := e0.frf c hb
    rw [e] at this
    cases this
  refine ⟨v, backH cl H H', os, bare, ⟨fun b o e n hb hx => ?_, fun b o e n hb hx => ?_, fun b o e n hx => ?_, un.there, fun b xs e => ?_, fun b o x e => ?_, fun b ps e => ?_⟩, fun b x e => ?_, r, q⟩
  · exact un.keep b o e (thaw_none n) hb hx
  · exact un.slot b o e (thaw_none n) hb hx
  · rw [back_out (F.out' n)]
    exact un.free b o e (thaw_none n) hx
  · have z := F.out e fun _ _ y => nomatch y
    rw [back_out z]
    exact un.tups b xs (by rw [thaw_out z]; exact e)
  · by_cases z : InC cl b
    · rw [back_in z]
      exact e
    · rw [back_out z]
      exact un.frzs b o x (by rw [thaw_out z]; exact e)
  · have z := F.out e fun _ _ y => nomatch y
    rw [back_out z]
    exact un.tbls b ps (by rw [thaw_out z]; exact e)
  · by_cases z : InC cl b
    · rw [back_in z] at e
      obtain ⟨o, v, e1, g, g', _⟩ := kc b z
      rw [e1] at e
      cases e
      obtain ⟨_, p, _, st⟩ := e0.hok b _ e1
      exact ⟨g', st s.heap s'.heap p fun o2 q2 => by rw [g] at q2; cases q2; exact g', ⟨o, g'⟩, st⟩
    · rw [back_out z] at e
      have no : ∀ d, InC cl d → ∀ y, H' d ≠ some y := fun d zd y q2 => by
        obtain ⟨_, _, _, _, _, g⟩ := kc d zd
        rw [g] at q2
        cases q2
      exact (hok b x e).stay (fun _ _ _ y => y) (fun d q2 => by rw [back_out fun zd => no d zd _ q2]; exact q2) fun d xs q2 => by rw [back_out fun zd => no d zd _ q2]; exact q2
/-- Hf is H with the cells frozen as they stand -/
structure FrzAt (cl : List (Str × Addr)) (h : Heap) (H Hf : Hp) : Prop where
  non : ∀ c, InC cl c → H c = none
  out : ∀ b, ¬ InC cl b → Hf b = H b
  at_ : ∀ c, InC cl c → ∃ o v, Hf c = some (.frz o (CelO c v)) ∧ h.get? c = some o ∧ ∃ u', h.IsCell c u' ∧ ∀ x, v = some x → ∃ u, u' = some u ∧ RelV x u
theorem FrzAt.frz {h : Heap} (F : FrzAt cl h H Hf) : FrzC cl Hf := fun c z => by
  obtain ⟨o, v, e, _⟩ := F.at_ c z
  exact ⟨o, v, e⟩
theorem env0_frz (F : FrzAt cl s.heap H Hf) (nb : ∀ c, InC cl c → base.get? c = none) (nf : ∀ c, InC cl c → c ∉ frs outer) (e0 : Env0 P w K mg base A outer s H) : Env0 P w K mg base A outer s Hf := by
  refine ⟨e0.frames, e0.mod, fun b o e => ⟨(e0.bs b o e).1, ?_⟩, e0.bsz, e0.funs, fun b hb => ?_, fun b u e => ?_, e0.bare⟩
  · rw [F.out b fun z => by rw [nb b z] at e; cases e]
    exact (e0.bs b o e).2
  · rw [F.out b fun z => nf b z hb]
    exact e0.frf b hb
  · by_cases z : InC cl b
    · obtain ⟨o, v, e1, g, p⟩ := F.at_ b z
      rw [e1] at e
      cases e
      refine ⟨g, p, ⟨o, g⟩, fun h1 h2 p1 st => ?_⟩
      obtain ⟨u', ⟨o', ho, hd⟩, hv⟩ := p1
      exact ⟨u', ⟨o', st o' ho, hd⟩, hv⟩
    · rw [F.out b z] at e
      have no : ∀ d y, H d = some y → ¬ InC cl d := fun d y q zd => by rw [F.non d zd] at q; cases q
      exact (e0.hok b u e).stay (fun _ _ _ y => y) (fun d q => by rw [F.out d (no d _ q)]; exact q) fun d xs q => by rw [F.out d (no d _ q)]; exact q
theorem ce_frz (F : FrzAt cl s.heap H Hf) (nf : ∀ c, InC cl c → c ∉ frs outer) (h : CE outer P w Hf s (fun v H' => Q v (thaw cl H')) u s') : CE outer P w H s Q u s' := by
  obtain ⟨v, H', os, bare, un, hok, r, q⟩ := h
  have kc : ∀ c, InC cl c → ∃ o v, H' c = some (.frz o (CelO c v)) ∧ s.heap.get? c = some o ∧ s'.heap.get? c = some o := fun c z => by
    obtain ⟨o, v, e, g, _⟩ := F.at_ c z
    have e2 := un.frzs c o _ e
    exact ⟨o, v, e2, g, (hok c _ e2).1⟩
  have no : ∀ d y, H d = some y → ¬ InC cl d := fun d y q zd => by rw [F.non d zd] at q; cases q
  refine ⟨v, thaw cl H', os, bare, ⟨fun b o e n hb hx => ?_, fun b o e n hb hx => ?_, fun b o e n hx => ?_, un.there, fun b xs e => ?_, fun b o x e => ?_, fun b ps e => ?_⟩, fun b x e => ?_, r, q⟩
  · by_cases z : InC cl b
    · obtain ⟨o', _, _, g, g'⟩ := kc b z
      rw [g] at e
      cases e
      exact g'
    · exact un.keep b o e (by rw [F.out b z]; exact n) hb hx
  · exact un.slot b o e (by rw [F.out b fun z => nf b z hb]; exact n) hb hx
  · by_cases z : InC cl b
    · exact thaw_in z
    · rw [thaw_out z]
      exact un.free b o e (by rw [F.out b z]; exact n) hx
  · have z := no b _ e
    rw [thaw_out z]
    exact un.tups b xs (by rw [F.out b z]; exact e)
  · have z := no b _ e
    rw [thaw_out z]
    exact un.frzs b o x (by rw [F.out b z]; exact e)
  · have z := no b _ e
    rw [thaw_out z]
    exact un.tbls b ps (by rw [F.out b z]; exact e)
  · by_cases z : InC cl b
    · rw [thaw_in z] at e
      cases e
    · rw [thaw_out z] at e
      have no2 : ∀ d y, H' d = some y → (∀ o v, y ≠ .frz o (CelO d v)) → ¬ InC cl d := fun d y q n zd => by
        obtain ⟨o, v, e2, _⟩ := kc d zd
        rw [e2] at q
        exact n o v (Option.some.inj q).symm
      exact (hok b x e).stay (fun _ _ _ y => y) (fun d q2 => by rw [thaw_out (no2 d _ q2 fun _ _ y => nomatch y)]; exact q2) fun d xs q2 => by rw [thaw_out (no2 d _ q2 fun _ _ y => nomatch y)]; exact q2
end
/-- what the frozen cells hold (some v), or may hold (none) -/
structure CelsH (cl : List (Str × Addr)) (fr : List Str) (ws : List (Option V)) (H : Hp) : Prop where
  len : ws.length = fr.length
  all : FrzC cl H
  inj : ∀ x y c, cl.lookup x = some c → cl.lookup y = some c → x = y
  has : ∀ (i : Nat) (y : Str), fr[i]? = some y → ∃ c, cl.lookup y = some c ∧ ∀ v, ws[i]? = some (some v) → ∃ o, H c = some (.frz o (CelO c (some v)))
theorem CelsH.stay {cl : List (Str × Addr)} {fr : List Str} {ws : List (Option V)} {H H' : Hp} (C : CelsH cl fr ws H) (k : ∀ b o u, H b = some (.frz o u) → H' b = some (.frz o u)) : CelsH cl fr ws H' :=
  ⟨C.len, fun c z => by obtain ⟨o, v, e⟩ := C.all c z; exact ⟨o, v, k _ _ _ e⟩, C.inj, fun i y e => by
    obtain ⟨c, h1, h2⟩ := C.has i y e
    refine ⟨c, h1, fun v hv => ?_⟩
    obtain ⟨o, q⟩ := h2 v hv
    exact ⟨o, k _ _ _ q⟩⟩
theorem CelsH.at_ {P : Program} {w : World} {cl : List (Str × Addr)} {fr : List Str} {ws : List (Option V)} {H : Hp} {h : Heap} (C : CelsH cl fr ws H) (hok : HOk P w H h) : CellsAt cl fr ws h (thaw cl H) := by
  refine ⟨C.len, fun y c e => ⟨thaw_in ⟨y, e⟩, ?_⟩, C.inj, fun i y e => ?_⟩
  · obtain ⟨o, v, q⟩ := C.all c ⟨y, e⟩
    obtain ⟨_, ⟨u', p, _⟩, _⟩ := hok c _ q
    exact ⟨u', p⟩
  · obtain ⟨c, h1, h2⟩ := C.has i y e
    refine ⟨c, h1, fun v hv => ?_⟩
    obtain ⟨o, q⟩ := h2 v hv
    obtain ⟨_, ⟨u', p, r⟩, _⟩ := hok c _ q
    obtain ⟨u, e2, r2⟩ := r v rfl
    rw [e2] at p
    exact ⟨u, r2, p⟩
/-- the cells, as they stand, can be frozen -/
theorem frz_is {cl : List (Str × Addr)} {fr : List Str} {ws : List (Option V)} {h : Heap} {H : Hp} (nd : fr.Nodup) (C : CellsAt cl fr ws h H) : ∃ Hf, FrzAt cl h H Hf ∧ CelsH cl fr ws Hf := by
  classical
  have ex : ∀ c, InC cl c → ∃ ov : Obj × Option V, h.get? c = some ov.1 ∧ (∃ u', h.IsCell c u' ∧ ∀ x, ov.2 = some x → ∃ u, u' = some u ∧ RelV x u) ∧ ∀ (i : Nat) (y : Str) (v : V), fr[i]? = some y → cl.lookup y = some c → ws[i]? = some (some v) → ov.2 = some v := fun c ⟨y, hy⟩ => by
    obtain ⟨_, v0, ⟨o, ho, hd⟩⟩ := C.all y c hy
    by_cases q : ∃ (i : Nat) (v : V), fr[i]? = some y ∧ ws[i]? = some (some v)
    · obtain ⟨i, v, q1, q2⟩ := q
      obtain ⟨c', h1, h2⟩ := C.has i y q1
      rw [hy] at h1
      cases h1
      obtain ⟨u, r, p⟩ := h2 v q2
      refine ⟨(o, some v), ho, ⟨some u, p, fun x e => by cases e; exact ⟨u, rfl, r⟩⟩, fun j z v' e1 e2 e3 => ?_⟩
      have ez : z = y := C.inj z y c e2 hy
      subst ez
      have hi := (List.getElem?_eq_some_iff.mp q1).1
      have : i = j := (List.getElem?_inj hi nd).mp (q1.trans e1.symm)
      subst this
      rw [q2] at e3
      exact Option.some.inj e3
    · refine ⟨(o, none), ho, ⟨v0, ⟨o, ho, hd⟩, fun x e => nomatch e⟩, fun j z v' e1 e2 e3 => ?_⟩
      have ez : z = y := C.inj z y c e2 hy
      subst ez
      exact absurd ⟨j, v', e1, e3⟩ q
  let g : Addr → Option HO := fun c => if z : InC cl c then some (.frz (Classical.choose (ex c z)).1 (CelO c (Classical.choose (ex c z)).2)) else H c
  have gi : ∀ c (z : InC cl c), g c = some (.frz (Classical.choose (ex c z)).1 (CelO c (Classical.choose (ex c z)).2)) := fun c z => dif_pos z
  refine ⟨g, ⟨fun c z => ?_, fun b z => dif_neg z, fun c z => ?_⟩, C.len, fun c z => ⟨_, _, gi c z⟩, C.inj, fun i y e => ?_⟩
  · obtain ⟨y, hy⟩ := z
    exact (C.all y c hy).1
  · obtain ⟨h1, h2, _⟩ := Classical.choose_spec (ex c z)
    exact ⟨_, _, gi c z, h1, h2⟩
  · obtain ⟨c, h1, _⟩ := C.has i y e
    refine ⟨c, h1, fun v hv => ?_⟩
    obtain ⟨_, _, h3⟩ := Classical.choose_spec (ex c ⟨y, h1⟩)
    exact ⟨(Classical.choose (ex c ⟨y, h1⟩)).1, by rw [gi c ⟨y, h1⟩, h3 i y v e h1 hv]⟩
end KaG
set_option maxRecDepth 100000
set_option maxHeartbeats 2000000
namespace KaG
open PySem PySem.Spec PyProof.Rows L2 LamX NdefX
section
variable {X : Cx} {pins : List (Addr × Obj)} {σ : L2.St} {H : Hp} {s s' : Shared}
theorem CE.imp {outer : List Env} {P : Program} {w : World} {Q Q' : VK} {u : Value} (h : CE outer P w H s Q u s') (k : ∀ v H', Q v H' → Q' v H') : CE outer P w H s Q' u s' := by
  obtain ⟨v, H', a, b, c, d, e, q⟩ := h
  exact ⟨v, H', a, b, c, d, e, k v H' q⟩
/-- x(..), x a name that holds a function whose cells are frozen -/
def tCallF (F : NF) (f : Addr) (fr : List Str) (i : Nat) (sp : List (Option V) → Sp) (ws : List (Option V)) (t : TA) : TE := fun σ H Q => σ[i]? = some (some (.ref f)) ∧ H f = some (FnO f F) ∧
  t σ H fun vs H1 => H1 f = some (FnO f F) ∧ H1 F.c = some (CodeO F.c F.qual) ∧ CelsH F.cl fr ws H1 ∧ sp ws vs (thaw F.cl H1) (fun v H' => Q v (backH F.cl H1 H')) E0
theorem pe_callF {F : NF} {f : Addr} {ps fr : List Str} {i j k : Nat} {x : Str} {sp : List (Option V) → Sp} {ws : List (Option V)} {t : TA} {e : Expr} {es : List Expr} {p pos : Pos} (Fn : NOk X.prog X.w X.K X.mg X.base CX0 k f F ps fr sp) (hr : Room j X.A) (hk : k ≤ j) (hN : X.N[i]? = some x) (hv : Vis X.env.scope x) (ha : PA X (e :: es) t)
    (hd : (x == ("__debug__" : Str)) = false := by decide) (hcd : (x == ("__classdict__" : Str)) = false := by decide)
    (he : starEach (e :: es) X.env = (false, eval e X.env) :: starEach es X.env := by rfl) (hpl : (backTo pos (starEach es X.env)).any (·.1) = false := by rfl) :
    PE X (.Call (.Name x p) (e :: es) [] pos) (tCallF F f fr i sp ws t) := by
  refine ⟨fun pins s σ H Q I h => ?_⟩
  obtain ⟨hs, hf, ht⟩ := h
  refine wpAny_Call_Name_kw (thn ((pe_var (pos := p) hN hv hd hcd).run pins s σ H (fun v H1 => v = .ref f ∧ H1 = H) I ⟨.ref f, hs, rfl, rfl⟩) fun u s1 ⟨v, H1, I1, r1, q1⟩ => ?_)
  obtain ⟨ev, eH⟩ := q1
  subst ev
  rw [eH] at I1
  obtain rfl : u = Value.ref f := r1
  refine PySem.W.callWith_F (first := []) (fnAt_of I1 hf) (thn (ha.run pos pins s1 σ H _ I1 ht) fun us s2 ⟨vs, H2, I2, r, h1, h2, C, q⟩ => ⟨fnAt_of I2 h1, ?_⟩) he hpl
  show wpAny _ _ (call (.ref f) us) _ _ _
  have e0 := I2.env0
  have nin : ∀ b o, H2 b = some o → (∀ ob v, o ≠ .frz ob (CelO b v)) → thaw F.cl H2 b = some o := fun b o e n => by
    rw [thaw_out (C.all.out e n)]
    exact e
  refine wpAny_call (codeAny_mono (Fn.run X.A X.stack s2 (thaw F.cl H2) us vs ws _ E0 (hr.mono hk) (env0_thaw C.all e0) (nin _ _ h1 fun _ _ y => by unfold FnO at y; cases y) (nin _ _ h2 fun _ _ y => by unfold CodeO at y; cases y) (C.at_ I2.hok) r q) fun r' s' hq => ?_)
  cases r' with
  | error e => exact (show False from hq).elim
  | ok fl =>
    cases fl with
    | ret u => exact I2.after (ce_thaw C.all e0 hq)
    | next => exact False.elim hq
    | brk => exact False.elim hq
    | cont => exact False.elim hq
/-- g(.., x, ..), g a def of the top that is handed a nested function: the cells of F are frozen for the call -/
def tCallZ (mk : Addr → NF) (fr : List Str) (js : List Nat) (sp : Sp) (t : TA) : TE := fun σ H Q => t σ H fun vs H1 => ∃ (f c' : Addr), H1 f = some (FnO f (mk c')) ∧ H1 c' = some (CodeO c' (mk c').qual) ∧
  ∀ Hf : Hp, CelsH (mk c').cl fr (js.map (slotAt σ)) Hf → (∀ b o, H1 b = some o → Hf b = some o) → (∀ c, InC (mk c').cl c → H1 c = none) → (∀ b, ¬ InC (mk c').cl b → Hf b = H1 b) → sp vs Hf (fun v H' => Q v (thaw (mk c').cl H')) E0
theorem pe_callZ {mk : Addr → NF} {cl : List (Str × Addr)} {ps fr : List Str} {js : List Nat} {k : Nat} {x : Str} {g : Addr} {fd : FuncData} {sp : Sp} {t : TA} {e : Expr} {es : List Expr} {p pos : Pos} (Fg : FnOk X.prog X.w X.K X.mg X.base CX0 k g fd ps sp) (hcl : ∀ c', (mk c').cl = cl) (nd : fr.Nodup)
    (hfn : ∀ x c, X.env.cells.lookup x = some c → X.fn x = true) (cp : X.Ok → Caps X cl fr js) (hr : Room k X.A) (hg : Gl X x) (hm : X.mg x = some (.ref g)) (hk : PySem.W.keepIn X.K (.ref g) = true) (hb : Binds X.K fd ps []) (ha : PA X (e :: es) t)
    (hdb : (x == ("__debug__" : Str)) = false := by decide) (he : starEach (e :: es) X.env = (false, eval e X.env) :: starEach es X.env := by rfl) (hpl : (backTo pos (starEach es X.env)).any (·.1) = false := by rfl) :
    PE X (.Call (.Name x p) (e :: es) [] pos) (tCallZ mk fr js sp t) := by
  refine ⟨fun pins s σ H Q I h => ?_⟩
  refine wpAny_Call_Name_kw (ld_glob I hg hm ?_ hdb)
  refine PySem.W.callWith_K (h₀ := X.base) I.ok.mod.kin hk (thn (ha.run pos pins s σ H _ I h) fun us s1 ⟨vs, H1, I1, r, f, c', h1, h2, q⟩ => ⟨I1.kIn, ?_⟩) he hpl
  have CA := cells_of I1 (cp I1.ok)
  rw [← hcl c'] at CA
  obtain ⟨Hf, FA, CH⟩ := frz_is nd CA
  have cin : ∀ c, InC (mk c').cl c → ∃ y, X.env.cells.lookup y = some c := fun c ⟨y, hy⟩ => ⟨y, (cp I1.ok).sub y c (by rw [← hcl c']; exact hy)⟩
  have big : ∀ c, InC (mk c').cl c → X.s_0.heap.objs.size ≤ c := fun c z => by
    obtain ⟨y, hy⟩ := cin c z
    exact I1.ok.cab y c (hfn y c hy) hy
  have nb : ∀ c, InC (mk c').cl c → X.base.get? c = none := fun c z => by
    cases e2 : X.base.get? c with
    | none => rfl
    | some o =>
      have h3 := (I1.ok.bs c o e2).1
      exact absurd (Nat.lt_of_lt_of_le (Heap.lt_size h3) (big c z)) (Nat.lt_irrefl _)
  have nf : ∀ c, InC (mk c').cl c → c ∉ frs X.stack := fun c z hm2 => by
    rcases List.mem_cons.mp (I1.stkSub c hm2) with e2 | e2
    · obtain ⟨y, hy⟩ := cin c z
      obtain ⟨v, o, ho, hd⟩ := I1.cell y c hy
      obtain ⟨m, ⟨o2, es2, ep2, h4, h5, _⟩, _⟩ := I1.loc
      rw [← e2, ho] at h4
      cases h4
      rw [hd] at h5
      cases h5
    · obtain ⟨o, h3⟩ : ∃ o, X.s_0.heap.get? c = some o := by
        have := (I1.ok.funs.mem e2).2
        first
          | exact ⟨_, this⟩
          | exact this
          | (obtain ⟨o, h3, _⟩ := this; exact ⟨o, h3⟩)
      exact absurd (Nat.lt_of_lt_of_le (Heap.lt_size h3) (big c z)) (Nat.lt_irrefl _)
  have q := q Hf CH (fun b o e2 => by rw [FA.out b fun z => by rw [FA.non b z] at e2; cases e2]; exact e2) FA.non FA.out
  have hl : us.length = ps.length := r.length.symm.trans (Fg.len _ _ _ _ q)
  have bd := hb s1 us I1.kIn (by rw [List.append_nil]; exact hl)
  rw [List.append_nil] at bd
  show wpAny _ _ (call (.ref g) us) _ _ _
  refine wpAny_call (codeAny_mono (Fg.run X.A X.stack s1 Hf ⟨us, []⟩ us vs _ E0 hr (env0_frz FA nb nf I1.env0) bd r q) fun r' s' hq => ?_)
  cases r' with
  | error e => exact (show False from hq).elim
  | ok fl =>
    cases fl with
    | ret u => exact I1.after (ce_frz FA nf hq)
    | next => exact False.elim hq
    | brk => exact False.elim hq
    | cont => exact False.elim hq
end
end KaG
set_option maxRecDepth 100000
set_option maxHeartbeats 4000000
namespace KaG
open PySem PySem.Spec PyProof.Rows L2 KaC LamX NdefX
section
variable {P : Program} {w : World} {K : PySem.W.Frag} {mg : Str → Option Value} {base : Heap}
abbrev sGrown : Stmt := top 9
abbrev nmGw : List Str := ["names", "joins", "found", "grown", "name"]
theorem scGw : FnScope nmGw ["names", "joins"] (defScope sGrown) := ⟨rfl, rfl, rfl, by decide +kernel, rfl, by decide +kernel, by decide +kernel⟩
/-- what the function that is handed on tells: whether a name joins those found -/
def spGrown (P : Program) (w : World) (K : PySem.W.Frag) (mg : Str → Option Value) (base : Heap) (kJ : Nat) : Sp := fun vs H Q _ => ∃ (na f : Addr) (Fj : NF) (fr : List Str) (sp : List (Option V) → Sp) (ws : List (Option V)) (names : List Str) (J : Jn), vs = [.ref na, .ref f] ∧ H na = some (.lst (names.map V.str)) ∧
  H f = some (FnO f Fj) ∧ H Fj.c = some (CodeO Fj.c Fj.qual) ∧ CelsH Fj.cl fr ws H ∧ NOk P w K mg base CX0 kJ f Fj ["name", "found"] fr sp ∧ names.length ≤ 5 ∧ Mono J ∧
  (∀ (n : Str) (fa : Addr) (B : List Str) (H1 : Hp) (Q1 : VK), n ∈ names → Same H H1 → H1 fa = some (.lst (B.map V.str)) → (∀ H2, Same (thaw Fj.cl H1) H2 → Q1 (.bl (J n B)) H2) → sp ws [.str n, .ref fa] (thaw Fj.cl H1) Q1 E0) ∧
  ∀ (p : Addr) (B : List Str) (H' : Hp), Same H H' → H' p = some (.lst (B.map V.str)) → IsL names J B → Q (.ref p) H'
theorem back_same {cl : List (Str × Addr)} {H H' : Hp} (S : Same (thaw cl H) H') : Same H (backH cl H H') := fun b o e => by
  by_cases z : InC cl b
  · rw [back_in z]
    exact e
  · rw [back_out z]
    exact S b o (by rw [thaw_out z]; exact e)
theorem ok_grown {kJ : Nat} {f : Addr} {fd : FuncData} (F : Fun K "_grown" "_grown" sGrown f fd) (T : TxtC mg) : FnOk P w K mg base CX0 (kJ + 1) f fd ["names", "joins"] (spGrown P w K mg base kJ) := by
  refine F.ok scGw (fun vs H Q E h => ?_) (fun cdv A outer s H vs Q E hr h => ?_)
  · obtain ⟨na, f, Fj, fr, sp, ws, names, J, rfl, _⟩ := h
    rfl
  · obtain ⟨na, fj, Fj, fr, sp, ws, names, J, rfl, eN, eF, eC, CH, NJ, n5, mo, call, k⟩ := h
    refine ⟨_, (pss_cons (ps_set (i := 2) scGw.nd rfl (Or.inr rfl) (pe_lst pa_nil))
      (pss_one (ps_while PassesOwn.never (pt_val pe_bl)
        (pss_cons (ps_setLc (i := 3) (own := [("name", 4)]) (g := gName 4) (by rfl) scGw.nd rfl rfl (sw_true rfl rfl rfl (by decide +kernel)) (pi_list (pv 0))
            (blkOk_by (own := [("name", 4)]) (N := nmGw) (sc := defScope sGrown) (by decide +kernel)) (fun _ _ _ _ _ => pg_name (i := 4) scGw.nd rfl (Or.inl rfl))
            (fun _ _ _ _ _ => pts_one (PW.pt (pw_or (pt_cmpR (r := rIn K false) op_in_seq (pv 4) (pv 2) rfl) (pw_or1 (pt_val (pe_callF (i := 1) (ws := ws) NJ hr (Nat.le_refl _) (by rfl) (by first | exact Or.inl rfl | exact Or.inr (Or.inl rfl) | exact Or.inr (Or.inr rfl)) (pa_cons (pv 4) (pa_cons (pv 2) pa_nil))))))))
            (fun _ _ _ _ _ => pv 4))
        (pss_cons (ps_if (pt_cmpR op_eq (pe_callB call_len_seq (by rfl) T.b.len PySem.boot_len (pa_cons (pv 3) pa_nil)) (pe_callB call_len_seq (by rfl) T.b.len PySem.boot_len (pa_cons (pv 2) pa_nil)) (nomark _)) (pss_one (ps_ret (pv 3))) pss_nil)
        (pss_one (ps_set (i := 2) scGw.nd rfl (Or.inr rfl) (pv 3)))))))), ?_⟩
    refine ⟨Nat.zero_le _, fun p0 np0 => ?_⟩
    let W : Nat → L2.St → Hp → Prop := fun m σ' G => ∃ (q : Addr) (B : List Str) (x3 x4 : Option V), σ' = [some (.ref na), some (.ref fj), some (.ref q), x3, x4] ∧ Same H G ∧ G q = some (.lst (B.map V.str)) ∧ Grw names J B ∧ m = names.length - B.length
    refine ⟨W, ⟨_, p0, [], _, _, rfl, same_upd np0, upd_same, Grw.nil, rfl⟩, ?_⟩
    rintro m σ' G ⟨q, B, x3, x4, rfl, S, eq, hG, rfl⟩
    have eNG := S _ _ eN
    refine ⟨true, rfl, ?_⟩
    refine iteT ⟨fun σ' H' => ∃ m', m' < names.length - B.length ∧ W m' σ' H', fun _ _ h => h, ?_⟩
    have hB5 : B.length ≤ names.length := by
      have := hG.fl
      rw [this]
      exact List.length_filter_le ..
    refine ⟨_, rfl, na, rfl, ⟨_, SqL.of eNG⟩, fun D hD => lc_list (K := K) (a := na) (xs := names.map V.str) (fun i J' => Same G J' ∧ J' D = some (.lst (((names.take i).filter fun n => decide (n ∈ B) || J n B).map V.str))) ?_ ?_ ?_ ?_⟩
    · exact ⟨same_upd hD, upd_same⟩
    · rintro i J' _ ⟨S2, _⟩
      exact SqL.of (S2 _ _ eNG)
    · rintro i x J' hx ⟨S2, jD⟩
      rw [List.getElem?_map] at hx
      obtain ⟨n, hn, rfl⟩ := Option.map_eq_some_iff.mp hx
      have mn : n ∈ names := List.mem_of_getElem? hn
      have SH := KaG.Same.tr S S2
      have tk : names.take (i + 1) = names.take i ++ [n] := by rw [List.take_add_one, hn]; rfl
      have fin : ∀ (c : Bool) (J2 : Hp), (decide (n ∈ B) || J n B) = c → Same J' J2 → (if c = true then tVar 4 [some (.ref na), some (.ref fj), some (.ref q), x3, some (.str n)] J2 fun y H4 => ∃ acc, H4 D = some (.lst acc) ∧ acc.length < sizeLine ∧ (Same G (upd H4 D (.lst (acc ++ [y]))) ∧ upd H4 D (.lst (acc ++ [y])) D = some (.lst (((names.take (i + 1)).filter fun n => decide (n ∈ B) || J n B).map V.str)))
          else (Same G J2 ∧ J2 D = some (.lst (((names.take (i + 1)).filter fun n => decide (n ∈ B) || J n B).map V.str)))) := fun c J2 hc S3 => by
        have j2D := S3 _ _ jD
        have S23 := KaG.Same.tr S2 S3
        cases c with
        | true =>
          rw [if_pos rfl]
          refine ⟨_, rfl, _, j2D, small1000 ?_, fun b u e => by rw [upd_ne (ne_of_none e hD)]; exact S23 b u e, ?_⟩
          · have h1 := List.length_filter_le (fun n => decide (n ∈ B) || J n B) (names.take i)
            rw [List.length_take] at h1
            rw [List.length_map]
            omega
          · rw [upd_same, tk, List.filter_append, List.map_append, List.filter_cons_of_pos (by simpa using hc)]
            rfl
        | false =>
          rw [if_neg (by decide)]
          refine ⟨S23, ?_⟩
          rw [j2D, tk, List.filter_append, List.filter_cons_of_neg (by rw [hc]; decide), List.filter_nil, List.append_nil]
      refine ⟨rfl, ?_⟩
      refine ⟨_, rfl, _, rfl, q, B.map V.str, rfl, .inl (SqL.of (S2 _ _ eq)), rfl, flat_strs, _, rfl, ?_⟩
      rw [show (if false = true then !inV (V.str n) (List.map V.str B) else inV (V.str n) (List.map V.str B)) = decide (n ∈ B) from inV_str]
      by_cases hm : n ∈ B
      · rw [decide_eq_true hm]
        exact iteT (fin true J' (by rw [decide_eq_true hm]; rfl) Same.refl')
      · rw [decide_eq_false hm]
        refine iteF ⟨rfl, SH _ _ eF, _, rfl, _, rfl, SH _ _ eF, SH _ _ eC, CH.stay fun b o u e => SH _ _ e, ?_⟩
        refine call n q B J' _ mn SH (S2 _ _ eq) fun H2 S3 => ⟨_, rfl, ?_⟩
        exact fin (J n B) _ (by rw [decide_eq_false hm, Bool.false_or]) (back_same S3)
    · rintro J' ⟨S2, jD⟩
      rw [List.length_map, List.take_length] at jD
      have SH := KaG.Same.tr S S2
      have jD : J' D = some (.lst ((grow1 names J B).map V.str)) := jD
      have gl := grow1_le (names := names) (J := J) (B := B)
      have st := hG.step
      have nx := hG.next mo
      refine ⟨_, rfl, D, _, rfl, .inl (SqL.of jD), _, rfl, q, _, rfl, .inl (SqL.of (S2 _ _ eq)), rfl, _, rfl, ite2 (fun hc => ?_) fun hc => ?_⟩
      · rw [List.length_map, List.length_map] at hc
        obtain ⟨e1, cl⟩ := st.2 (Int.ofNat.inj (by simpa using hc))
        refine ⟨_, rfl, k D B J' SH (by rw [jD, e1]) (hG.done cl)⟩
      · rw [List.length_map, List.length_map] at hc
        have ne : (grow1 names J B).length ≠ B.length := fun z => hc (by simp [z])
        refine ⟨_, rfl, names.length - (grow1 names J B).length, by omega, D, grow1 names J B, _, _, rfl, SH, jD, nx, rfl⟩
end
end KaG
set_option maxRecDepth 100000
set_option maxHeartbeats 2000000
namespace PySem
section
variable {M : Model} {A : Around} {E : Value → Shared → Prop} {s₀ s : Shared} {m cm : Str → Option Value} {env : Env} {own : List (Str × Addr)}
theorem ka_stL {n : Str} {v : Value} {Q : Unit → Shared → Prop} (x : InCallC s₀ env.locals m own cm s) (hk : env.scope.kind = .function) (hl : env.kindOf n = some .local)
    (h : ∀ s', InCallC s₀ env.locals (fun y => if y = n then some v else m y) own cm s' → Q () s') : wpAny M A (storeName env n v) Q E s := by
  refine wpAny_storeName_local hl x.toInCall.ns (fun h' hn' hs' => h _ ⟨⟨?_, hn', fun b o e => ?_, x.toInCall.fresh⟩, fun k c hc => ?_, x.apart, x.above⟩) (by rw [hk]; rfl)
  · obtain ⟨h₁, tk, rfl⟩ := x.toInCall.same
    exact ⟨h', _, rfl⟩
  · exact hs'.extBut b o (Nat.ne_of_lt (Nat.lt_of_lt_of_le (Heap.lt_size e) x.toInCall.fresh)) (x.toInCall.keep b o e)
  · exact (x.cell k c hc).sameBut hs' (Nat.ne_of_gt (x.above k c (mem_of_lookup hc)))
theorem ka_stC {n : Str} {c : Addr} {v : Value} {Q : Unit → Shared → Prop} (x : InCallC s₀ env.locals m own cm s) (hk : env.scope.kind = .function) (hl : env.kindOf n = some .cell)
    (hc : own.lookup n = some c) (hce : env.cells.lookup n = some c)
    (h : ∀ s', InCallC s₀ env.locals m own (fun y => if y = n then some v else cm y) s' → Q () s') : wpAny M A (storeName env n v) Q E s := by
  have hLc := x.above n c (mem_of_lookup hc)
  refine wpAny_storeName_cell hk hl hce (x.cell n c hc) fun h' hc' hs' => h _ ⟨⟨?_, x.toInCall.ns.sameBut hs' (Nat.ne_of_lt hLc), fun b o e => ?_, x.toInCall.fresh⟩, fun k c' hk' => ?_, x.apart, x.above⟩
  · obtain ⟨h₁, tk, rfl⟩ := x.toInCall.same
    exact ⟨h', _, rfl⟩
  · exact hs'.extBut b o (Nat.ne_of_lt (Nat.lt_trans (Nat.lt_of_lt_of_le (Heap.lt_size e) x.toInCall.fresh) hLc)) (x.toInCall.keep b o e)
  · by_cases hkn : k = n
    · subst hkn
      rw [hc] at hk'; cases hk'
      simpa using hc'
    · rw [if_neg hkn]
      exact (x.cell k c' hk').sameBut hs' fun e => hkn (name_of_addr x.apart (mem_of_lookup hk') (e ▸ mem_of_lookup hc))
theorem ka_bind (hown : ∀ n c, own.lookup n = some c → env.cells.lookup n = some c) (f : Str × Value → PUnit → Sem (ForInStep PUnit)) (hf : ∀ n v u, f (n, v) u = (do storeName env n v; pure (.yield ⟨⟩))) (hk : env.scope.kind = .function) :
    ∀ (binds : List (Str × Value)) (m cm : Str → Option Value) (s : Shared) (Q : PUnit → Shared → Prop), InCallC s₀ env.locals m own cm s →
      (∀ x ∈ binds, env.kindOf x.1 = some .local ∨ (env.kindOf x.1 = some .cell ∧ (own.lookup x.1).isSome = true)) →
      (∀ s', InCallC s₀ env.locals (bindL env.kindOf binds m) own (bindC env.kindOf binds cm) s' → Q ⟨⟩ s') → wpAny M A (forIn binds ⟨⟩ f) Q E s
  | [], m, cm, s, Q, x, _, h => by rw [List.forIn_nil]; exact wpAny_pure (h s x)
  | (n, v) :: r, m, cm, s, Q, x, hkind, h => by
    rw [List.forIn_cons, hf]
    have hr : ∀ y ∈ r, env.kindOf y.1 = some .local ∨ (env.kindOf y.1 = some .cell ∧ (own.lookup y.1).isSome = true) := fun y hy => hkind y (List.mem_cons_of_mem _ hy)
    rcases hkind (n, v) List.mem_cons_self with hl | ⟨hl, hc⟩
    · refine wpAny_bind (wpAny_bind (ka_stL x hk hl fun s' x' => wpAny_pure (ka_bind hown f hf hk r _ _ s' Q x' hr fun s'' x'' => h s'' ?_)))
      unfold bindL bindC; rw [if_pos hl, if_pos hl]; exact x''
    · obtain ⟨c, hc⟩ := Option.isSome_iff_exists.mp hc
      have hnl : ¬ env.kindOf n = some .local := by rw [hl]; decide
      refine wpAny_bind (wpAny_bind (ka_stC x hk hl hc (hown n c hc) fun s' x' => wpAny_pure (ka_bind hown f hf hk r _ _ s' Q x' hr fun s'' x'' => h s'' ?_)))
      unfold bindL bindC; rw [if_neg hnl, if_neg hnl]; exact x''
end
theorem cellsFrom_app : ∀ (names : List (Str × NameKind)) (n : Nat) (acc : List (Str × Addr)), cellsFrom n names acc = cellsFrom n names [] ++ acc
  | [], _, _ => rfl
  | (name, kind) :: r, n, acc => by
    unfold cellsFrom
    split
    · rw [cellsFrom_app r (n + 1) ((name, n) :: acc), cellsFrom_app r (n + 1) [(name, n)], List.append_assoc]
      rfl
    · exact cellsFrom_app r n acc
theorem cellsFrom_of : ∀ (names : List (Str × NameKind)) (n : Nat) {x : Str} {c : Addr}, (x, c) ∈ cellsFrom n names [] → (x, NameKind.cell) ∈ names
  | [], _, _, _, h => nomatch h
  | (name, kind) :: r, n, x, c, h => by
    unfold cellsFrom at h
    split at h
    · rename_i hk
      rw [cellsFrom_app] at h
      rcases List.mem_append.mp h with h | h
      · exact List.mem_cons_of_mem _ (cellsFrom_of r _ h)
      · have e := List.mem_singleton.mp h
        cases e
        have : kind = .cell := by simpa using hk
        rw [this]
        exact List.mem_cons_self
    · exact List.mem_cons_of_mem _ (cellsFrom_of r _ h)
section
variable {M : Model} {A : Around} {E : Value → Shared → Prop} {s : Shared}
theorem ka_newEnv {scope : Scope} {globals : Addr} {cl : List (Str × Addr)} {binds : List (Str × Value)} {qual : Str} {func : Option Addr} {code : Value} {builtins : Addr} {Q : Env → Shared → Prop}
    (hk : scope.kind = .function)
    (hkind : ∀ x ∈ binds, scope.names.lookup x.1 = some .local ∨ (scope.names.lookup x.1 = some .cell ∧ ((cellsFrom (s.heap.objs.size + 1) scope.names []).lookup x.1).isSome = true))
    (hQ : ∀ env, env = newEnv scope s.heap.objs.size globals (cellsFrom (s.heap.objs.size + 1) scope.names cl) qual func code none builtins →
      ∀ s', InCallC s env.locals (bindL env.kindOf binds fun _ => none) (cellsFrom (s.heap.objs.size + 1) scope.names []) (bindC env.kindOf binds fun _ => none) s' → Q env s') :
    wpAny M A (newFunctionEnv scope globals cl binds qual func code none builtins) Q E s := by
  simp only [newFunctionEnv, Option.isSome_none, Bool.false_eq_true, if_false]
  refine wpAny_bind (wpAny_alloc ?_)
  refine wpAny_bind (wpAny_layCells _ (fun name kind cells => by cases hkc : kind == NameKind.cell <;> simp [hkc]) _ _ _ _ ?_)
  have ok := cellsFrom_ok scope.names (s.heap.push { cls := .type "frame", data := .dict #[] }) (s.heap.objs.size + 1) [] ⟨fun _ _ hm => (nomatch hm), List.Pairwise.nil⟩ (by rw [Heap.size_push]; exact Nat.le_refl _)
  rw [Heap.size_push] at ok
  rw [show ({ s with heap := s.heap.push { cls := .type "frame", data := .dict #[] } } : Shared).heap.objs.size = s.heap.objs.size + 1 from Heap.size_push ..]
  refine wpAny_bind (ka_bind (s₀ := s) (env := newEnv scope s.heap.objs.size globals (cellsFrom (s.heap.objs.size + 1) scope.names cl) qual func code none builtins) (own := cellsFrom (s.heap.objs.size + 1) scope.names [])
    (fun n c e => by
      show (cellsFrom (s.heap.objs.size + 1) scope.names cl).lookup n = some c
      rw [cellsFrom_app, List.lookup_append, e]
      rfl)
    _ (fun _ _ _ => rfl) hk binds (fun _ => none) (fun _ => none) _ _
    ⟨⟨⟨_, _, rfl⟩, (Heap.Ns.new s.heap (.type "frame")).keeps (pushCells_keeps _ _), fun b o e => pushCells_keeps _ _ b o (Heap.get?_push_of_some _ e), Nat.le_refl _⟩,
      fun n c hc => (ok.empty n c (mem_of_lookup hc)).1, ok.apart, fun n c hm => (ok.empty n c hm).2⟩
    hkind fun s' x => wpAny_pure (hQ _ rfl s' x))
end
end PySem
namespace KaG
open PySem PySem.Spec PyProof.Rows L2 LamX NdefX
structure NScopeC (N ps fr : List Str) (sc : Scope) : Prop where
  kind : sc.kind = .function
  co : sc.isCoroutine = false
  gen : sc.isGenerator = false
  nd : N.Nodup
  pre : N.take (ps.length + fr.length) = ps ++ fr
  par : ∀ x ∈ ps, sc.names.lookup x = some .local ∨ sc.names.lookup x = some .cell
  free : ∀ y ∈ sc.names, y.2 = .free → y.1 ∈ fr
  frk : ∀ x ∈ fr, sc.names.lookup x = some .free
  cel : ∀ y ∈ sc.names, y.2 = .cell → sc.names.lookup y.1 = some .cell
def nscC (N ps fr : List Str) (sc : Scope) : Bool :=
  decide (sc.kind = .function) && !sc.isCoroutine && !sc.isGenerator && decide N.Nodup && decide (N.take (ps.length + fr.length) = ps ++ fr) && ps.all (fun x => decide (sc.names.lookup x = some .local) || decide (sc.names.lookup x = some .cell)) &&
    sc.names.all (fun y => !decide (y.2 = .free) || decide (y.1 ∈ fr)) && fr.all (fun x => decide (sc.names.lookup x = some .free)) && sc.names.all (fun y => !decide (y.2 = .cell) || decide (sc.names.lookup y.1 = some .cell))
theorem nscopeC_by {N ps fr : List Str} {sc : Scope} (h : nscC N ps fr sc = true) : NScopeC N ps fr sc := by
  unfold nscC at h
  simp only [Bool.and_eq_true, Bool.not_eq_true', decide_eq_true_eq, List.all_eq_true, Bool.or_eq_true, decide_eq_false_iff_not] at h
  obtain ⟨⟨⟨⟨⟨⟨⟨⟨h1, h2⟩, h3⟩, h4⟩, h5⟩, h6⟩, h7⟩, h8⟩, h9⟩ := h
  exact ⟨h1, h2, h3, h4, h5, h6, fun y hy e => (h7 y hy).elim (fun z => absurd e z) id, h8, fun y hy e => (h9 y hy).elim (fun z => absurd e z) id⟩
abbrev cellsC (F : NF) (L : Addr) : List (Str × Addr) := cellsFrom (L + 1) F.scope.names F.cl
abbrev envC (F : NF) (f L : Addr) : Env := PySem.W.envX F.qual F.scope L f (.ref F.c) (cellsC F L)
/-- the context of its body, at its entry -/
def ncxC (CX : CXT) (P : Program) (w : World) (K : PySem.W.Frag) (mg : Str → Option Value) (base : Heap) (N : List Str) (F : NF) (f : Addr) (A : Around) (outer : List Env) (s : Shared) (H : Hp) (E : XK) : Cx where
  prog := P
  w := w
  K := K
  mg := mg
  base := base
  A := A.deeper (envC F f s.heap.objs.size)
  N := N
  s_0 := s
  H_0 := H
  env := envC F f s.heap.objs.size
  outer := outer
  stack := envC F f s.heap.objs.size :: outer
  ex := []
  calm := true
  fn := fun x => F.scope.names.lookup x == some .cell
  pn := []
  xe := fun e s' => wpAny (model P w) (A.deeper (envC F f s.heap.objs.size)) (leaving (envC F f s.heap.objs.size) e) (fun _ s'' => CX outer H s E e s'') (fun e' s'' => CX outer H s E e' s'') s'
section
variable {CX : CXT} {P : Program} {w : World} {K : PySem.W.Frag} {mg : Str → Option Value} {base : Heap} {N ps fr : List Str} {F : NF} {f : Addr} {A : Around} {outer : List Env} {s s1 : Shared} {H : Hp} {E : XK} {us : List Value} {vs : List V} {ws : List (Option V)}
theorem inv_startC (S : NScopeC N ps fr F.scope) (hd : A.handled = none) (e0 : Env0 P w K mg base A outer s H) (hl : vs.length = ps.length) (r : Vals vs us) (C : CellsAt F.cl fr ws s.heap H)
    (x : InCallC s s.heap.objs.size (bindL (envC F f s.heap.objs.size).kindOf (ps.zip us) fun _ => none) (cellsFrom (s.heap.objs.size + 1) F.scope.names []) (bindC (envC F f s.heap.objs.size).kindOf (ps.zip us) fun _ => none) s1) :
    Inv (ncxC CX P w K mg base N F f A outer s H E) [] (startF N vs ws) H s1 := by
  have hpl : ps.length + fr.length ≤ N.length := by
    have q := congrArg List.length S.pre
    rw [List.length_take, List.length_append] at q
    omega
  obtain ⟨h1, tk, rfl, hk⟩ := x.done
  have noA : ∀ b : Addr, b ∉ (ncxC CX P w K mg base N F f A outer s H E).ex := fun b z => absurd (show b ∈ ([] : List Addr) from z) (by simp)
  have look : ∀ y, (cellsC F s.heap.objs.size).lookup y = ((cellsFrom (s.heap.objs.size + 1) F.scope.names []).lookup y).or (F.cl.lookup y) := fun y => by
    unfold cellsC
    rw [cellsFrom_app, List.lookup_append]
  have clt : ∀ y c, F.cl.lookup y = some c → c < s.heap.objs.size := fun y c e => by
    obtain ⟨_, v, o, ho, _⟩ := C.all y c e
    exact Heap.lt_size ho
  have two : ∀ y c, (cellsC F s.heap.objs.size).lookup y = some c → (cellsFrom (s.heap.objs.size + 1) F.scope.names []).lookup y = some c ∨ F.cl.lookup y = some c := fun y c e => by
    rw [look] at e
    cases q : (cellsFrom (s.heap.objs.size + 1) F.scope.names []).lookup y with
    | some d => rw [q] at e; exact .inl e
    | none => rw [q] at e; exact .inr e
  have ownN : ∀ y, F.scope.names.lookup y = some .free → (cellsFrom (s.heap.objs.size + 1) F.scope.names []).lookup y = none := fun y e => by
    cases q : (cellsFrom (s.heap.objs.size + 1) F.scope.names []).lookup y with
    | none => rfl
    | some d =>
      have := S.cel _ (cellsFrom_of _ _ (PySem.mem_of_lookup q)) rfl
      rw [e] at this
      cases this
  have cellK : ∀ {c : Addr} {v : Option Value}, s.heap.IsCell c v → h1.IsCell c v := fun {c v} ⟨o, ho, hd⟩ => ⟨o, hk _ _ ho, hd⟩
  refine ⟨⟨e0.mod, S.kind, rfl, rfl, Nat.le_refl _, fun y z c q1 q2 => ?_, fun y hy => ?_, fun y c hf q => ?_, fun _ => hd, Around.frames_deeper e0.frames, .inr ⟨rfl, rfl⟩, fun b z => absurd z (noA b), e0.bs, e0.bsz, fun b _ _ => noA b, fun b z => absurd z (noA b), e0.funs, e0.frf⟩,
    rfl, e0.bare, Un.kept hk, ⟨_, x.toInCall.ns, fun i y v e1 e2 e3 => ?_⟩, fun y c q => ?_, e0.hok.fresh (Nat.le_refl _), fun y c q => ?_, fun p hp => absurd (show p ∈ ([] : List (Addr × Obj)) from hp) (by simp), e0.hok.kept hk, ?_⟩
  · rcases two y c q1 with a | a <;> rcases two z c q2 with b | b
    · exact name_of_addr x.apart (PySem.mem_of_lookup a) (PySem.mem_of_lookup b)
    · exact absurd (Nat.lt_trans (x.above y c (PySem.mem_of_lookup a)) (clt z c b)) (Nat.lt_irrefl _)
    · exact absurd (Nat.lt_trans (x.above z c (PySem.mem_of_lookup b)) (clt y c a)) (Nat.lt_irrefl _)
    · exact C.inj y z c a b
  · have hy : F.scope.names.lookup y = some .cell ∨ F.scope.names.lookup y = some .free := hy
    show ∃ c, (cellsC F s.heap.objs.size).lookup y = some c
    rw [look]
    rcases hy with hy | hy
    · obtain ⟨c, e⟩ := L2.cell_has (n := s.heap.objs.size + 1) hy
      rw [e]
      exact ⟨c, rfl⟩
    · obtain ⟨i, hi⟩ := List.mem_iff_getElem?.mp (S.free _ (PySem.mem_of_lookup hy) rfl)
      obtain ⟨c, hc, _⟩ := C.has i y hi
      rw [ownN y hy, hc]
      exact ⟨c, rfl⟩
  · have hf : F.scope.names.lookup y = some .cell := by
      have := hf
      simpa [ncxC] using this
    obtain ⟨c2, e⟩ := L2.cell_has (n := s.heap.objs.size + 1) hf
    have q : (cellsC F s.heap.objs.size).lookup y = some c := q
    rw [look, e] at q
    cases q
    exact Nat.le_of_lt (x.above y _ (PySem.mem_of_lookup e))
  · have e1 : N[i]? = some y := e1
    have clen := C.len
    unfold startF at e2
    by_cases h3 : i < ps.length
    · have hq : (ps ++ fr)[i]? = some y := by
        rw [← S.pre, List.getElem?_take_of_lt (by omega)]
        exact e1
      rw [List.getElem?_append_left h3] at hq
      rw [List.getElem?_append_left (by rw [List.length_map]; omega), List.getElem?_map] at e2
      have ha : vs[i]? = some v := by
        cases e : vs[i]? with
        | none => rw [e] at e2; cases e2
        | some a => rw [e] at e2; cases e2; rfl
      obtain ⟨u, hu, rv⟩ := r.get ha
      have ndP : ps.Nodup := by
        have q := S.nd.sublist (List.take_sublist (ps.length + fr.length) N)
        rw [S.pre] at q
        exact (List.nodup_append.mp q).1
      refine ⟨u, rv, ?_⟩
      rcases S.par y (List.mem_of_getElem? hq) with k | k
      · exact .inl ⟨k, L2.bindL_get ndP hq hu k⟩
      · obtain ⟨c, e⟩ := L2.cell_has (n := s.heap.objs.size + 1) k
        refine .inr ⟨.inl k, c, by show (cellsC F s.heap.objs.size).lookup y = some c; rw [look, e]; rfl, ?_⟩
        have q := x.cell y c e
        rw [L2.bindC_get ndP hq hu (by show F.scope.names.lookup y ≠ _; rw [k]; decide)] at q
        exact q
    · rw [List.getElem?_append_right (by rw [List.length_map]; omega), List.length_map] at e2
      by_cases h2 : i < ps.length + fr.length
      · have hq : (ps ++ fr)[i]? = some y := by
          rw [← S.pre, List.getElem?_take_of_lt (by omega)]
          exact e1
        rw [List.getElem?_append_right (by omega)] at hq
        rw [List.getElem?_append_left (by omega), hl] at e2
        obtain ⟨c, hc, hv⟩ := C.has (i - ps.length) y hq
        obtain ⟨u, ru, hu⟩ := hv v e2
        have hfr := S.frk y (List.mem_of_getElem? hq)
        exact ⟨u, ru, .inr ⟨.inr hfr, c, by show (cellsC F s.heap.objs.size).lookup y = some c; rw [look, ownN y hfr, hc]; rfl, cellK hu⟩⟩
      · rw [List.getElem?_append_right (by omega), List.getElem?_replicate] at e2
        split at e2 <;> cases e2
  · rcases two y c q with a | a
    · exact ⟨_, x.cell y c a⟩
    · obtain ⟨v, z⟩ := (C.all y c a).2
      exact ⟨v, cellK z⟩
  · rcases two y c q with a | a
    · exact e0.hok.fresh (Nat.le_of_lt (x.above y c (PySem.mem_of_lookup a)))
    · exact (C.all y c a).1
  · have clen := C.len
    unfold startF
    show _ = N.length
    rw [List.length_append, List.length_append, List.length_map, List.length_replicate]
    omega
/-- THE RULE: a nested def with cells of its own, by its body -/
theorem nok_ofC {sp : List (Option V) → Sp} {k : Nat} (S : NScopeC N ps fr F.scope) (hb : ∀ (doc pm ctv : Value) (us : List Value), us.length = ps.length → bindArgs (F.fd doc pm ctv) ⟨us, []⟩ = pure (ps.zip us)) (len : ∀ ws vs H Q E, sp ws vs H Q E → vs.length = ps.length)
    (hbody : ∀ (A : Around) (outer : List Env) (s : Shared) (H : Hp) (vs : List V) (ws : List (Option V)) (Q : VK) (E : XK), Room k (A.deeper (envC F f s.heap.objs.size)) → H f = some (FnO f F) → H F.c = some (CodeO F.c F.qual) → ws.length = fr.length → sp ws vs H Q E →
      ∃ t, PSs (ncxC CX P w K mg base N F f A outer s H E) F.body t ∧ t { nx := fun _ H' => Q .non H', rt := Q } (startF N vs ws) H) :
    NOk P w K mg base CX (k + 1) f F ps fr sp := by
  refine ⟨len, fun A outer s H us vs ws Q E hr e0 hf hc C r hsp => ?_⟩
  have hl := len _ _ _ _ _ hsp
  have lim : s.heap.NoLimit := e0.mod.nolimit.keeps fun b o e => (e0.bs b o e).1
  obtain ⟨od, sl, doc, pm, ctv, ho⟩ := fnO_at e0.hok hf
  refine codeAny_call_function hr.depth ho rfl S.co S.gen rfl (codeO_at e0.hok hc) ?_
  rw [hb doc pm ctv us (by rw [← r.length]; exact hl)]
  have hkind : ∀ y ∈ ps.zip us, F.scope.names.lookup y.1 = some .local ∨ (F.scope.names.lookup y.1 = some .cell ∧ ((cellsFrom (s.heap.objs.size + 1) F.scope.names []).lookup y.1).isSome = true) := fun ⟨n, v⟩ hy => by
    rcases S.par n (List.of_mem_zip hy).1 with q | q
    · exact .inl q
    · exact .inr ⟨q, PySem.W.cellsFrom_some _ _ _ (.inl q)⟩
  refine wpAny_pure (ka_newEnv S.kind hkind fun env he s1 x => ?_)
  subst he
  refine ⟨lim.keeps x.toInCall.keep, ?_⟩
  show codeAny _ _ (.func F.body (envC F f s.heap.objs.size)) _ _
  refine codeAny_func ?_
  obtain ⟨t, ht, hq⟩ := hbody A outer s H vs ws Q E (hr.deeper _) hf hc C.len hsp
  have I : Inv (ncxC CX P w K mg base N F f A outer s H E) [] (startF N vs ws) H s1 := inv_startC S hr.hd e0 hl r C x
  refine wpAny_mono (ht.run [] _ (startF N vs ws) H _ I hq) (fun fl s' hs => ?_) fun e s' hs => hs
  have fin : ∀ {σ' : L2.St} {H' : Hp} {v : V} {u : Value}, Inv (ncxC CX P w K mg base N F f A outer s H E) [] σ' H' s' → L2.RelV v u → Q v H' → CE outer P w H s Q u s' :=
    fun {σ' H' v u} J rv q => ⟨v, H', J.os, J.bare, J.base, J.hok, rv, q⟩
  cases fl with
  | ret u =>
    obtain ⟨v, σ', H', J, rv, q⟩ := hs
    exact fin J rv q
  | next =>
    obtain ⟨σ', H', J, q⟩ := hs
    exact fin (v := V.non) (u := Value.none) J rfl q
  | brk =>
    obtain ⟨_, _, _, q⟩ := hs
    exact False.elim q
  | cont =>
    obtain ⟨_, _, _, q⟩ := hs
    exact False.elim q
end
end KaG
set_option maxRecDepth 100000
set_option maxHeartbeats 4000000
namespace KaG
open PySem PySem.Spec PyProof.Rows L2 KaC LamX NdefX
/-- what stays where tables of code may grow -/
structure Ex (T : List NTab) (H H' : Hp) : Prop where
  ext : ExtN H H'
  tab : TabsN T H'
  non : ∀ b, H' b = none → H b = none
theorem same_non {H H' : Hp} (s : Same H H') (b : Addr) (e : H' b = none) : H b = none := by
  cases q : H b with
  | none => rfl
  | some u => rw [s _ _ q] at e; cases e
theorem Ex.same {T : List NTab} {H H' : Hp} (t : TabsN T H) (s : Same H H') : Ex T H H' := ⟨fun b o e _ => s b o e, t.ext s, same_non s⟩
theorem Ex.tr {T : List NTab} {H H1 H2 : Hp} (a : Ex T H H1) (b : Ex T H1 H2) : Ex T H H2 := ⟨ExtN.trans a.ext b.ext, b.tab, fun c e => a.non c (b.non c e)⟩
/-- a list that is new is written -/
theorem Ex.wr {T : List NTab} {H H' : Hp} {p : Addr} {xs ys : List V} (a : Ex T H H') (e : H' p = some (.lst xs)) (n : H p = none) : Ex T H (upd H' p (.lst ys)) := by
  refine ⟨fun b o q h => by rw [upd_ne (ne_of_none q n)]; exact a.ext b o q h, fun q hq => ?_, fun b h => ?_⟩
  · obtain ⟨ps, h1, h2, h3⟩ := a.tab q hq
    refine ⟨ps, by rw [upd_ne (fun z => by rw [z, e] at h1; cases h1)]; exact h1, h2, fun pos cv hc => ?_⟩
    obtain ⟨c, e1, e2⟩ := h3 pos cv hc
    exact ⟨c, e1, by rw [upd_ne (fun z => by rw [z, e] at e2; unfold CodeO at e2; cases e2)]; exact e2⟩
  · by_cases z : b = p
    · rw [z]; exact n
    · rw [upd_ne z] at h
      exact a.non b h
theorem Ex.refl {T : List NTab} {H : Hp} (t : TabsN T H) : Ex T H H := Ex.same t fun _ _ e => e
theorem Ex.trs {T : List NTab} {H H1 H2 : Hp} (a : Ex T H H1) (s : Same H1 H2) : Ex T H H2 := a.tr (Ex.same a.tab s)
theorem Ex.ts {T : List NTab} {H H' : Hp} (a : Ex T H H') : TSame H H' := fun b xs e => a.ext b _ e fun _ z => nomatch z
theorem Ex.lst {T : List NTab} {H H' : Hp} (a : Ex T H H') {b : Addr} {xs : List V} (e : H b = some (.lst xs)) : H' b = some (.lst xs) := a.ext b _ e fun _ z => nomatch z
theorem Ex.sq2 {T : List NTab} {H H' : Hp} (a : Ex T H H') {b : Addr} {xs : List V} (e : Sq2 H b xs) : Sq2 H' b xs := e.imp a.lst (a.ts _ _)
section
variable {P : Program} {w : World} {K : PySem.W.Frag} {mg : Str → Option Value} {base : Heap}
theorem fun_okC {x qual : Str} {st : Stmt} {f c : Addr} {fd : FuncData} {N ps : List Str} {k : Nat} {sp : Sp} (F : Fun K x qual st f fd) (S : FnScope N ps (defScope st)) (hc : fd.code = .ref c) (len : ∀ vs H Q E, sp vs H Q E → vs.length = ps.length)
    (hbody : ∀ (A : Around) (outer : List Env) (s : Shared) (H : Hp) (vs : List V) (Q : VK) (E : XK), Room k (A.deeper (envOfC qual (defScope st) s.heap.objs.size f (.ref c))) → sp vs H Q E →
      ∃ t, PSs (cxOf CX0 P w K mg base N qual (defScope st) f (.ref c) A outer s H E).nox (defBody st) t ∧ t { nx := fun _ H' => Q .non H', rt := Q } (start N vs) H) : FnOk P w K mg base CX0 (k + 1) f fd ps sp := by
  obtain ⟨oc, od, kV, doc, pm, an, cdv, ct, osl, rfl, lk, hcd⟩ := F.ex
  have hc : cdv = .ref c := hc
  subst hc
  refine fn_of lk hcd S len fun A outer s H vs Q E hr hsp => ?_
  obtain ⟨t, h, q⟩ := hbody A outer s H vs Q E hr hsp
  exact ⟨t, h.nox, q⟩
abbrev sBear : Stmt := top 11
abbrev stJB : Stmt := (defBody sBear).getD 0 (.Pass ⟨0, 0, 0, 0⟩)
abbrev qJB : Str := Str.ofString "bearing_kinds.<locals>.joins"
abbrev nmJB : List Str := ["name", "found", "rulebook", "ground"]
theorem scJB : NScopeC nmJB ["name", "found"] ["rulebook"] (C8.fnScope stJB) := nscopeC_by (by decide +kernel)
def spJB : List (Option V) → Sp := fun ws vs H Q _ => ∃ (b fa : Addr) (rows : List Str) (ks : List Kd) (n : Str) (B : List Str), ws = [some (.ref b)] ∧ vs = [.str n, .ref fa] ∧ BookAt H b rows ks ∧ BookOk rows ks ∧ n ∈ ks.map Kd.name ∧ H fa = some (.lst (B.map V.str)) ∧ ∀ H', Same H H' → Q (.bl (jB ks n B)) H'
theorem ok_joinsB {f fK fL : Addr} {fdK fdL : FuncData} {cl : List (Str × Addr)} {c' : Addr} (hany : mg "any" = none) (C : Ct P w K mg base "kind_of" 1 ["rulebook", "name"] spKindN fK fdK) (CL : Ct P w K mg base "_is_live" 2 ["rulebook", "ground", "bearing"] spIsLive fL fdL) :
    NOk P w K mg base CX0 3 f (NF.of stJB "joins" qJB cl c') ["name", "found"] ["rulebook"] spJB := by
  refine nok_ofC scJB (fun doc pm ctv us hl => match us, hl with | [_, _], _ => rfl) (fun ws vs H Q E h => ?_) (fun A outer s H vs ws Q E hr hf hc hw h => ?_)
  · obtain ⟨b, fa, rows, ks, n, B, _, rfl, _⟩ := h
    rfl
  · obtain ⟨b, fa, rows, ks, n, B, rfl, rfl, hA, hO, hn, hB, k⟩ := h
    refine ⟨_, PSs.nox (pss_one (ps_ret (pe_callB (r := rAny K) (cr_any rfl) (by rfl) hany (by decide +kernel) (pa_cons (pe_lc (own := [("ground", 3)]) (g := gName 3) (by rfl) scJB.nd (pi_tup (pe_ix ix_tup (pe_call C.G (hr.mono (by decide)) (by rfl) C.m C.kp C.b .nil pass0 (pa_cons (pv 2) (pa_cons (pv 0) pa_nil))) pe_int (fun _ _ => rfl)))
        (blkOk_by (own := [("ground", 3)]) (N := nmJB) (sc := C8.fnScope stJB) (by decide +kernel)) (fun _ _ _ _ _ => pg_name (i := 3) scJB.nd rfl (Or.inl rfl)) (fun _ _ _ _ _ => pts_nil)
        (fun _ _ _ _ _ => pe_call CL.G hr (by rfl) CL.m CL.kp CL.b .nil pass0 (pa_cons (pv 2) (pa_cons (pv 3) (pa_cons (pv 1) pa_nil))))) pa_nil)))), ?_⟩
    have nd := hO.nm.nd
    refine ⟨_, rfl, _, rfl, b, rows, ks, n, rfl, hA, nd, hn, fun ka kd mk kn hk => ?_⟩
    obtain ⟨gt, gas, f1, f2, f3⟩ := hk
    have lg := paired_len f3
    have g4 := (hO.num kd mk).2.2.2.2
    refine ⟨ka, _, 3, .ref gt, rfl, rfl, SqT.of f1, rfl, gt, rfl, ⟨_, SqT.of f2⟩, fun D hD => lc_tup (K := K) (a := gt) (xs := gas.map V.ref) (fun i J => Same H J ∧ J D = some (.lst (((kd.gs.take i).map (grLive ks B)).map V.bl))) ?_ ?_ ?_ ?_⟩
    · exact ⟨same_upd hD, upd_same⟩
    · rintro i J _ ⟨S2, _⟩
      exact SqT.of (S2 _ _ f2)
    · rintro i x J hx ⟨S2, jD⟩
      rw [List.getElem?_map] at hx
      obtain ⟨ga, hga, rfl⟩ := Option.map_eq_some_iff.mp hx
      obtain ⟨g, hg, eg⟩ := paired_at f3 hga
      have mg' := List.mem_of_getElem? hg
      refine ⟨rfl, ?_⟩
      unfold tYes
      dsimp only
      refine iteT ⟨_, rfl, _, rfl, _, rfl, b, ga, fa, rows, ks, g, B, rfl, hA.ts (TSame.of S2), nd, Grd.ts eg (TSame.of S2), hO.gr mk mg', .inl (S2 _ _ hB), fun J2 S3 => ⟨_, S3 _ _ jD, small1000 ?_, fun b u e => ?_, ?_⟩⟩
      · rw [List.length_map, List.length_map, List.length_take]
        omega
      · rw [upd_ne (ne_of_none e hD)]
        exact S3 _ _ (S2 _ _ e)
      · rw [upd_same, List.take_add_one, hg, Option.toList_some, List.map_append, List.map_append]
        rfl
    · rintro J ⟨S2, jD⟩
      rw [List.length_map, lg, List.take_length] at jD
      refine ⟨D, kd.gs.map (grLive ks B), rfl, SqL.of jD, ?_⟩
      have e : (kd.gs.map (grLive ks B)).any id = jB ks n B := by
        unfold jB
        rw [← kn, gsOf_eq nd mk, List.any_map]
        rfl
      rw [e]
      exact k J S2
/-- the names of a rulebook's kinds, those that bear -/
abbrev nmsOf (ks : List Kd) : List Str := ks.map Kd.name
noncomputable def bearOf (ks : List Kd) : List Str := lfp (nmsOf ks) (jB ks)
theorem ndJB : ndefB (defScope sBear) (C8.fnScope stJB) ["rulebook"] = true := by decide +kernel
theorem scBear : FnScope ["rulebook", "joins"] ["rulebook"] (defScope sBear) := ⟨rfl, rfl, rfl, by decide +kernel, rfl, by decide +kernel, by decide +kernel⟩
def spBear (T : List NTab) : Sp := fun vs H Q _ => ∃ (b : Addr) (rows : List Str) (ks : List Kd), vs = [.ref b] ∧ BookAt H b rows ks ∧ BookOk rows ks ∧ TabsN T H ∧ ∀ (p : Addr) (H' : Hp), Ex T H H' → H' p = some (.tup ((bearOf ks).map V.str)) → IsL (nmsOf ks) (jB ks) (bearOf ks) → Q (.ref p) H'
/-- what a def with a nested one asks of the tables -/
structure TbOk (base : Heap) (mg : Str → Option Value) (T : List NTab) (c Pt : Addr) (q : Str) : Prop where
  TB : TabB base mg c Pt
  m : (Pt, fun _ _ => q) ∈ T
  u : ∀ p ∈ T, p.1 = Pt → p.2 = fun _ _ => q
theorem ok_bear {T : List NTab} {f fN fG fK fL c Pt : Addr} {fd fdN fdG fdK fdL : FuncData} (F : Fun K "bearing_kinds" "bearing_kinds" sBear f fd) (hcode : fd.code = .ref c) (TT : TbOk base mg T c Pt qJB) (TC : TxtC mg) (hany : mg "any" = none)
    (C : Ct P w K mg base "kind_of" 1 ["rulebook", "name"] spKindN fK fdK) (CL : Ct P w K mg base "_is_live" 2 ["rulebook", "ground", "bearing"] spIsLive fL fdL) (CN : Ct P w K mg base "kind_names" 1 ["rulebook"] spKindNames fN fdN)
    (CG : Ct P w K mg base "_grown" 4 ["names", "joins"] (spGrown P w K mg base 3) fG fdG) : FnOk P w K mg base CX0 5 f fd ["rulebook"] (spBear T) := by
  refine fun_okC F scBear hcode (fun vs H Q E h => ?_) (fun A outer s H vs Q E hr h => ?_)
  · obtain ⟨b, rows, ks, rfl, _⟩ := h
    rfl
  · obtain ⟨b, rows, ks, rfl, hA, hO, hT, k⟩ := h
    refine ⟨_, (pss_cons (ps_ndefMS (i := 1) (T := T) (st := stJB) (name := "joins") rfl TT.TB rfl TT.m rfl TT.u (ndef_free ndJB) rfl rfl rfl scBear.nd rfl (Or.inl rfl) (Or.inr rfl))
      (pss_one (ps_ret (pe_callTy call_tuple_of (by rfl) TC.tup (by decide +kernel) (pa_cons (pe_callZ (mk := fun c' => NF.of stJB "joins" qJB _ c') (fr := ["rulebook"]) (js := [0]) CG.G (fun _ => rfl) (by decide) (fun _ _ _ => rfl)
        (fun ok => Caps.made ok (ndef_free ndJB) (ndef_fr ndJB) rfl) hr (by rfl) CG.m CG.kp CG.b
        (pa_cons (pe_call CN.G (hr.mono (by decide)) (by rfl) CN.m CN.kp CN.b .nil pass0 (pa_cons (pv 0) pa_nil)) (pa_cons (pv 1) pa_nil))) pa_nil))))), ?_⟩
    refine ⟨hT, fun fj c' H1 x1 n1 T1 nf e1 ec => ?_⟩
    have X1 : Ex T H H1 := ⟨x1, T1, n1⟩
    have hA1 := hA.ts X1.ts
    have hk5 := hO.k5
    refine ⟨_, rfl, b, rows, ks, rfl, hA1, by omega, fun p H2 S2 np e2 => ?_⟩
    have X2 := X1.trs S2
    refine ⟨_, rfl, fj, c', S2 _ _ e1, S2 _ _ ec, fun Hf CH ke nin nout => ?_⟩
    have hA2 := hA1.ts (TSame.of S2)
    refine ⟨p, fj, _, _, spJB, _, nmsOf ks, jB ks, rfl, ke _ _ e2, ke _ _ (S2 _ _ e1), ke _ _ (S2 _ _ ec), CH, ok_joinsB hany C CL, by rw [List.length_map]; exact hk5, jB_mono ks, fun n fa B G1 Q1 mn S1 efa kk => ?_, fun q B H3 S3 eB hL => ?_⟩
    · have CG1 := CH.stay fun b o u e => S1 _ _ e
      refine ⟨b, fa, rows, ks, n, B, rfl, rfl, hA2.ts fun d xs e => ?_, hO, mn, ?_, kk⟩
      · have e3 := S1 _ _ (ke _ _ e)
        exact (thaw_out (CG1.all.out e3 fun _ _ y => nomatch y)).trans e3
      · exact (thaw_out (CG1.all.out efa fun _ _ y => nomatch y)).trans efa
    · have S4 : Same H2 (thaw _ H3) := fun d o e => by
        rw [thaw_out fun z => by rw [nin d z] at e; cases e]
        exact S3 _ _ (ke _ _ e)
      have X4 := X2.trs S4
      have CH3 := CH.stay fun b o u e => S3 _ _ e
      have eB2 : thaw _ H3 q = some (.lst (B.map V.str)) := (thaw_out (CH3.all.out eB fun _ _ y => nomatch y)).trans eB
      refine ⟨q, _, rfl, .inl ⟨SqL.of eB2, fun l nl => ?_⟩⟩
      have eq : B = bearOf ks := hL.eq
      rw [eq] at hL ⊢
      exact k l _ (X4.trs (same_upd nl)) upd_same hL
end
end KaG
set_option maxRecDepth 100000
set_option maxHeartbeats 4000000
namespace KaG
open PySem PySem.Spec PyProof.Rows L2 KaC LamX NdefX
section
variable {P : Program} {w : World} {K : PySem.W.Frag} {mg : Str → Option Value} {base : Heap}
abbrev sLiveIx : Stmt := top 12
abbrev nmLI : List Str := ["rulebook", "bearing", "kind", "at", "ground"]
theorem scLI : FnScope nmLI ["rulebook"] (defScope sLiveIx) := ⟨rfl, rfl, rfl, by decide +kernel, rfl, by decide +kernel, by decide +kernel⟩
abbrev scDLI : Scope := { kind := .function, names := [(".0", .local), ("kind", .local), ("enumerate", .globalImplicit), ("bearing", .cell), ("rulebook", .cell)], isGenerator := false, isCoroutine := false, more := [] }
/-- the first n places of a list at which a test holds -/
def atsTo {α : Type} (t : α → Bool) (xs : List α) (n : Nat) : List Nat := (List.range n).filter fun i => match xs[i]? with
  | some x => t x
  | none => false
theorem atsTo_all {α : Type} {t : α → Bool} {xs : List α} : atsTo t xs xs.length = ats t xs := rfl
theorem atsTo_succ {α : Type} {t : α → Bool} {xs : List α} {n : Nat} {x : α} (h : xs[n]? = some x) : atsTo t xs (n + 1) = atsTo t xs n ++ if t x = true then [n] else [] := by
  unfold atsTo
  rw [List.range_succ, List.filter_append]
  congr 1
  rw [List.filter_cons, h]
  dsimp only
  split <;> simp
theorem atsTo_le {α : Type} {t : α → Bool} {xs : List α} {n : Nat} : (atsTo t xs n).length ≤ n := by
  have := List.length_filter_le (fun i => match xs[i]? with
  | some x => t x
  | none => false) (List.range n)
  rw [List.length_range] at this
  exact this
theorem kvs_no {ks : List Kd} {kas : List Addr} {n : Str} (h : ∀ k ∈ ks, k.name ≠ n) : valV (kvsOf ks kas) (Sum.inr n) = none := by
  unfold valV
  have : (kvsOf ks kas).find? (fun p => decide (p.1 = Sum.inr n)) = none := by
    rw [List.find?_eq_none]
    intro p m z
    unfold kvsOf at m
    obtain ⟨q, mq, rfl⟩ := List.mem_map.mp m
    exact h q.1 (List.of_mem_zip mq).1 (Sum.inr.inj (of_decide_eq_true z))
  rw [this]
  rfl
theorem kvs_snoc {ks : List Kd} {kas : List Addr} {k : Kd} {a : Addr} (h : ks.length = kas.length) : kvsOf (ks ++ [k]) (kas ++ [a]) = kvsOf ks kas ++ [(Sum.inr k.name, V.ref a)] := by
  unfold kvsOf
  rw [List.zip_append h, List.map_append]
  rfl
theorem kvs_len {ks : List Kd} {kas : List Addr} (h : kas.length = ks.length) : (kvsOf ks kas).length = ks.length := by
  unfold kvsOf
  rw [List.length_map, List.length_zip, h, Nat.min_self]
def ixV (xs : List Nat) : List V := xs.map fun i : Nat => V.int (i : Int)
/-- the live indexes of all kinds, as lists in a dict -/
structure LiveD (H0 H : Hp) (p : Addr) (ks : List Kd) (ls : List Addr) : Prop where
  d : H p = some (.dK (kvsOf ks ls))
  l : Paired (fun (l : Addr) (k : Kd) => H0 l = none ∧ H l = some (.lst (ixV (liveIx ks (bearOf ks) k.name)))) ls ks
def spLiveIx (T : List NTab) : Sp := fun vs H Q _ => ∃ (b : Addr) (rows : List Str) (ks : List Kd), vs = [.ref b] ∧ BookAt H b rows ks ∧ BookOk rows ks ∧ TabsN T H ∧ ∀ (p : Addr) (ls : List Addr) (H' : Hp), Ex T H H' → H p = none → LiveD H H' p ks ls → IsL (nmsOf ks) (jB ks) (bearOf ks) → Q (.ref p) H'
theorem ok_liveIx {T : List NTab} {f fB fL : Addr} {fd fdB fdL : FuncData} (F : Fun K "live_indexes" "live_indexes" sLiveIx f fd) (hen : mg "enumerate" = none) (CB : Ct P w K mg base "bearing_kinds" 5 ["rulebook"] (spBear T) fB fdB)
    (CL : Ct P w K mg base "_is_live" 2 ["rulebook", "ground", "bearing"] spIsLive fL fdL) : FnOk P w K mg base CX0 6 f fd ["rulebook"] (spLiveIx T) := by
  refine F.ok scLI (fun vs H Q E h => ?_) (fun cdv A outer s H vs Q E hr h => ?_)
  · obtain ⟨b, rows, ks, rfl, _⟩ := h
    rfl
  · obtain ⟨b, rows, ks, rfl, hA, hO, hT, k⟩ := h
    have hr2 : Room 2 (A.deeper (envOfC "live_indexes" (defScope sLiveIx) s.heap.objs.size f cdv)) := hr.mono (by decide)
    refine ⟨_, (pss_cons (ps_set (i := 1) scLI.nd rfl (Or.inr rfl) (pe_call CB.G hr (by rfl) CB.m CB.kp CB.b .nil pass0 (pa_cons (pv 0) pa_nil)))
      (pss_one (ps_ret (pe_dc (own := [("kind", 2)]) (g := gName 2) (by rfl) scLI.nd (pi_tup (pe_ix ix_tup (pv 0) pe_int (fun _ _ => rfl)))
        (blkOk_by (own := [("kind", 2)]) (N := nmLI) (sc := defScope sLiveIx) (by decide +kernel)) (fun _ _ _ _ _ => pg_name (i := 2) scLI.nd rfl (Or.inl rfl)) (fun _ _ _ _ _ => pts_nil)
        (fun _ _ _ _ _ => pe_ix (r := rIxT K) ix_tup (pv 2) pe_int (fun _ _ => rfl))
        (fun _ _ _ _ _ => pe_lc (own := [("at", 3), ("ground", 4)]) (g := gTup K 2 (gCons (gName 3) (gCons (gName 4) gNil))) (wi := iEnumT K (tCons (tOp (rIxT K) (tVar 2) (tC (.int 3))) tNil))
          (tt := tB (tCall spIsLive [] E0 (tCons (tVar 0) (tCons (tVar 4) (tCons (tVar 1) tNil))))) (te := tVar 3) (by rfl) scLI.nd
          (pi_enumT (by rfl) hen (pa_cons (pe_ix (r := rIxT K) ix_tup (pv 2) pe_int (fun _ _ => rfl)) pa_nil))
          (blkOk_by (own := [("at", 3), ("ground", 4)]) (N := nmLI) (sc := scDLI) (by decide +kernel))
          (fun _ _ _ _ _ => pg_tup (t := gCons (gName 3) (gCons (gName 4) gNil)) rfl (pgs_cons (pg_name (i := 3) scLI.nd rfl (Or.inl rfl)) (pgs_cons (pg_name (i := 4) scLI.nd rfl (Or.inl rfl)) pgs_nil)))
          (fun _ _ _ _ _ => pts_one (pt_val (pe_call CL.G hr2 (by rfl) CL.m CL.kp CL.b .nil pass0 (pa_cons (pv 0) (pa_cons (pv 4) (pa_cons (pv 1) pa_nil))))))
          (fun _ _ _ _ _ => pv 3)))))), ?_⟩
    have nd := hO.nm.nd
    have hk5 := hO.k5
    refine ⟨_, rfl, b, rows, ks, rfl, hA, hO, hT, fun bp H1 X1 ebp hL => ?_⟩
    have hA1 := hA.ts X1.ts
    obtain ⟨r, kt, kas, e1, e2, e3, pk⟩ := id hA1
    have hlen := paired_len pk
    refine ⟨_, rfl, b, _, 1, .ref kt, rfl, rfl, SqT.of e1, rfl, kt, rfl, ⟨_, SqT.of e3⟩, fun D hD => dc_tup (K := K) (a := kt) (xs := kas.map V.ref) (fun i G => Same H1 G ∧ ∃ ls : List Addr, G D = some (.dK (kvsOf (ks.take i) ls)) ∧ Paired (fun (l : Addr) (k : Kd) => H1 l = none ∧ l ≠ D ∧ G l = some (.lst (ixV (liveIx ks (bearOf ks) k.name)))) ls (ks.take i)) ?_ ?_ ?_ ?_⟩
    · exact ⟨same_upd hD, [], upd_same, .nil⟩
    · rintro i G _ ⟨S, _⟩
      exact SqT.of (S _ _ e3)
    · rintro i x G hx ⟨S, ls, gD, pl⟩
      rw [List.getElem?_map] at hx
      obtain ⟨ka, ha, rfl⟩ := Option.map_eq_some_iff.mp hx
      obtain ⟨kd, hkd, gt, gas, f1, f2, f3⟩ := paired_at pk ha
      have mk : kd ∈ ks := List.mem_of_getElem? hkd
      have hi : i < ks.length := (List.getElem?_eq_some_iff.mp hkd).1
      have lg := paired_len f3
      have g4 := (hO.num kd mk).2.2.2.2
      have ll := paired_len pl
      rw [List.length_take] at ll
      have tk : ks.take (i + 1) = ks.take i ++ [kd] := by rw [List.take_add_one, hkd]; rfl
      refine ⟨rfl, ?_⟩
      unfold tYes
      dsimp only
      refine iteT ⟨_, rfl, ka, _, 0, .str kd.name, rfl, rfl, SqT.of (S _ _ f1), rfl, ?_⟩
      refine ⟨_, rfl, ka, _, 3, .ref gt, rfl, rfl, SqT.of (S _ _ f1), rfl, gt, gas.map V.ref, rfl, SqT.of (S _ _ f2), fun L nL => go_enumT (K := K) (a := gt) (xs := gas.map V.ref) (fun g J => Same G J ∧ J L = some (.lst (ixV (atsTo (grLive ks (bearOf ks)) kd.gs g)))) ?_ ?_ ?_ ?_⟩
      · exact ⟨same_upd nL, upd_same⟩
      · rintro g J _ ⟨S2, _⟩
        exact SqT.of (S2 _ _ (S _ _ f2))
      · rintro g x T2 J hx ⟨S2, jL⟩ nT
        rw [List.getElem?_map] at hx
        obtain ⟨ga, hga, rfl⟩ := Option.map_eq_some_iff.mp hx
        obtain ⟨gr, hgr, eg⟩ := paired_at f3 hga
        have hgl := (List.getElem?_eq_some_iff.mp hgr).1
        have mg' := List.mem_of_getElem? hgr
        have sT := same_upd (o := .tup [.int (g : Nat), .ref ga]) nT
        have S3 := KaG.Same.tr S2 sT
        have jL3 := sT _ _ jL
        refine ⟨T2, _, rfl, SqT.of upd_same, rfl, _, _, rfl, _, _, rfl, rfl, rfl, ?_⟩
        generalize upd J T2 (.tup [.int (g : Nat), .ref ga]) = J3 at S3 jL3 ⊢
        have S03 := KaG.Same.tr S S3
        refine ⟨_, rfl, _, rfl, _, rfl, b, ga, bp, rows, ks, gr, bearOf ks, rfl, hA1.ts (TSame.of S03), nd, Grd.ts eg (TSame.of S03), hO.gr mk mg', .inr (S03 _ _ ebp), fun J4 S4 => ⟨_, rfl, ?_⟩⟩
        have S34 := KaG.Same.tr S3 S4
        have jL4 := S4 _ _ jL3
        have le := atsTo_le (t := grLive ks (bearOf ks)) (xs := kd.gs) (n := g)
        refine ite2 (fun hc => ?_) fun hc => ?_
        · refine ⟨_, rfl, _, jL4, small1000 (by unfold ixV; rw [List.length_map]; omega), fun b u e => by rw [upd_ne (ne_of_none e nL)]; exact S34 b u e, ?_⟩
          rw [upd_same, atsTo_succ hgr, if_pos hc]
          unfold ixV
          rw [List.map_append]
          rfl
        · refine ⟨S34, ?_⟩
          rw [jL4, atsTo_succ hgr, if_neg hc, List.append_nil]
      · rintro J ⟨S2, jL⟩
        rw [List.length_map, lg, atsTo_all] at jL
        have nLD : L ≠ D := fun z => by rw [z, gD] at nL; cases nL
        have jD := S2 _ _ gD
        refine ⟨_, Sum.inr kd.name, rfl, jD, small1000 (by rw [kvs_len (by rw [List.length_take]; exact ll), List.length_take]; omega), fun b u e => by rw [upd_ne (ne_of_none e hD)]; exact S2 _ _ (S b u e), ls ++ [L], ?_, ?_⟩
        · rw [upd_same, putK_new, tk, kvs_snoc (by rw [List.length_take]; exact ll.symm)]
          refine kvs_no fun k hk e => ?_
          obtain ⟨j, hj⟩ := List.mem_iff_getElem?.mp hk
          have hji : j < i := by
            have := (List.getElem?_eq_some_iff.mp hj).1
            rw [List.length_take] at this
            omega
          rw [List.getElem?_take_of_lt hji] at hj
          have h1 : (ks.map Kd.name)[j]? = some k.name := by rw [List.getElem?_map, hj]; rfl
          have h2 : (ks.map Kd.name)[i]? = some k.name := by rw [List.getElem?_map, hkd, e]; rfl
          have := (List.getElem?_inj (List.getElem?_eq_some_iff.mp h1).1 nd).mp (h1.trans h2.symm)
          omega
        · rw [tk]
          refine paired_snoc ⟨?_, nLD, ?_⟩ (Paired.mono' (fun l k h => ⟨h.1, h.2.1, by rw [upd_ne h.2.1]; exact S2 _ _ h.2.2⟩) pl)
          · exact same_non S L nL
          · rw [upd_ne nLD, jL]
            unfold liveIx
            rw [gsOf_eq nd mk]
    · rintro G ⟨S, ls, gD, pl⟩
      rw [List.length_map, hlen, List.take_length] at gD pl
      have X2 := X1.trs S
      exact k D ls G X2 (X1.non D hD) ⟨gD, Paired.mono' (fun l k h => ⟨X1.non l h.1, h.2.2⟩) pl⟩ hL
end
end KaG
set_option maxRecDepth 100000
set_option maxHeartbeats 4000000
namespace KaG
open PySem PySem.Spec PyProof.Rows L2 KaC LamX NdefX
theorem iteD {c : Bool} {A B : Prop} (hc : c = true) (h : A) : if c = true then A else B := by
  rw [hc]
  exact h
theorem iteDF {c : Bool} {A B : Prop} (hc : c = false) (h : B) : if c = true then A else B := by
  rw [hc]
  exact h
end KaG
set_option maxRecDepth 100000
set_option maxHeartbeats 4000000
namespace KaG
open PySem PySem.Spec PyProof.Rows L2 KaC LamX NdefX
theorem ixV_at {xs : List Nat} {j : Nat} {x : V} (h : (ixV xs)[j]? = some x) : ∃ i, xs[j]? = some i ∧ x = .int (i : Int) := by
  unfold ixV at h
  rw [List.getElem?_map] at h
  obtain ⟨i, hi, rfl⟩ := Option.map_eq_some_iff.mp h
  exact ⟨i, hi, rfl⟩
/-- what a dict of all kinds has at a name -/
theorem kvs_get {R : Addr → Kd → Prop} : ∀ {ks : List Kd} {ls : List Addr} {k : Kd}, (ks.map Kd.name).Nodup → Paired R ls ks → k ∈ ks → ∃ l, valV (kvsOf ks ls) (Sum.inr k.name) = some (.ref l) ∧ R l k
  | [], _, _, _, _, m => nomatch m
  | q :: r, _, k, nd, .cons (a := l) (l₁ := ls) h t, m => by
    have e : kvsOf (q :: r) (l :: ls) = (Sum.inr q.name, V.ref l) :: kvsOf r ls := rfl
    rw [e]
    rw [List.map_cons, List.nodup_cons] at nd
    rcases List.mem_cons.mp m with z | z
    · rw [z]
      exact ⟨l, valV_pos rfl, h⟩
    · rw [valV_neg (fun y => nd.1 (by rw [show q.name = k.name from Sum.inr.inj y]; exact List.mem_map_of_mem z))]
      exact kvs_get nd.2 t z
/-- the live indexes of all kinds in the dict at d -/
structure LiveH (H : Hp) (d : Addr) (ks : List Kd) (ls : List Addr) : Prop where
  d : H d = some (.dK (kvsOf ks ls))
  l : Paired (fun (l : Addr) (k : Kd) => H l = some (.lst (ixV (liveIx ks (bearOf ks) k.name)))) ls ks
theorem LiveD.h {H0 H : Hp} {d : Addr} {ks : List Kd} {ls : List Addr} (h : LiveD H0 H d ks ls) : LiveH H d ks ls := ⟨h.d, Paired.mono' (fun _ _ z => z.2) h.l⟩
theorem LiveH.keep {H H' : Hp} {d : Addr} {ks : List Kd} {ls : List Addr} (h : LiveH H d ks ls) (kd : ∀ b kvs, H b = some (.dK kvs) → H' b = some (.dK kvs)) (kl : ∀ b xs, H b = some (.lst xs) → H' b = some (.lst xs)) : LiveH H' d ks ls := ⟨kd _ _ h.d, Paired.mono' (fun _ _ z => kl _ _ z) h.l⟩
theorem LiveH.same {H H' : Hp} {d : Addr} {ks : List Kd} {ls : List Addr} (h : LiveH H d ks ls) (s : Same H H') : LiveH H' d ks ls := h.keep (fun _ _ e => s _ _ e) fun _ _ e => s _ _ e
theorem liveIx_le {ks : List Kd} {B : List Str} {n : Str} : (liveIx ks B n).length ≤ (gsOf ks n).length := atsTo_le (t := grLive ks B) (xs := gsOf ks n) (n := (gsOf ks n).length)
end KaG
set_option maxRecDepth 100000
set_option maxHeartbeats 4000000
namespace KaG
open PySem PySem.Spec PyProof.Rows L2 KaC LamX NdefX
noncomputable def cleanOf (ks : List Kd) (S : List Str) : List Str := lfp (nmsOf ks) (jC ks (bearOf ks) S)
theorem Ex.dk {T : List NTab} {H H' : Hp} (a : Ex T H H') {b : Addr} {xs : List (Key × V)} (e : H b = some (.dK xs)) : H' b = some (.dK xs) := a.ext b _ e fun _ z => nomatch z
theorem LiveH.ex {T : List NTab} {H H' : Hp} {d : Addr} {ks : List Kd} {ls : List Addr} (h : LiveH H d ks ls) (x : Ex T H H') : LiveH H' d ks ls := h.keep (fun _ _ e => x.dk e) fun _ _ e => x.lst e
end KaG
set_option maxRecDepth 100000
set_option maxHeartbeats 4000000
namespace KaG
open PySem PySem.Spec PyProof.Rows L2 KaC LamX NdefX
noncomputable def ableOf (ks : List Kd) (S : List Str) : List Str := lfp (nmsOf ks) (jA ks (bearOf ks) S (cleanOf ks S))
def rLen (K : PySem.W.Frag) : List V → Hp → VK → Prop := fun xs H Q => ∃ p ys, xs = [.ref p] ∧ (SqL K H p ys ∨ SqT K H p ys) ∧ Q (.int ys.length) H
theorem ixV_len {xs : List Nat} : (ixV xs).length = xs.length := by unfold ixV; rw [List.length_map]
end KaG
set_option maxRecDepth 100000
set_option maxHeartbeats 4000000
namespace KaG
open PySem PySem.Spec PyProof.Rows L2 KaC LamX NdefX
/-- what must be old for an old answer from a ground -/
def oldPl (S C A : List Str) (g : Gr) : Str × List Nat := if !(forcedPl S C g).isEmpty then ("all", forcedPl S C g) else if !(placesOn g A).isEmpty then ("one", placesOn g A) else ("none", [])
end KaG
set_option maxRecDepth 100000
set_option maxHeartbeats 4000000
set_option maxRecDepth 100000
set_option maxHeartbeats 4000000
set_option maxRecDepth 100000
set_option maxHeartbeats 4000000
namespace KaG
open PySem PySem.Spec PyProof.Rows L2 KaC
def DdAt (H : Hp) (as : List Addr) (ds : List (Str × Nat)) : Prop := Paired (fun a (d : Str × Nat) => H a = some (.tup [.str d.1, .int (d.2 : Int)])) as ds
theorem DdAt.ts {H H' : Hp} {as : List Addr} {ds : List (Str × Nat)} (h : DdAt H as ds) (s : TSame H H') : DdAt H' as ds := Paired.mono' (fun a d q => s _ _ q) h
end KaG
set_option maxRecDepth 100000
set_option maxHeartbeats 4000000
namespace KaG
open PySem PySem.Spec PyProof.Rows L2 KaC
theorem nm_lay : ∀ n ∈ nmAll, (PyData.str n).canLay0 = true := by decide +kernel
theorem tup_lay : ∀ ds : List PyData, (∀ d ∈ ds, d.canLay0 = true) → (PyData.tuple ds).canLay0 = true ∧ (PyData.list ds).canLay0 = true
  | [], _ => ⟨by simp [PyData.canLay0, PyData.canLayAll0], by simp [PyData.canLay0, PyData.canLayAll0]⟩
  | d :: ds, h => by
    have h1 := h d (List.mem_cons_self ..)
    have h2 := (tup_lay ds fun x m => h x (List.mem_cons_of_mem _ m)).1
    rw [PyData.canLay0] at h2
    exact ⟨by rw [PyData.canLay0, PyData.canLayAll0, h1, h2]; rfl, by rw [PyData.canLay0, PyData.canLayAll0, h1, h2]; rfl⟩
theorem int_lay (i : Int) : (PyData.int i).canLay0 = true := by simp [PyData.canLay0]
theorem need_dp {K : PySem.W.Frag} {H : Hp} {rows names : List Str} {its : List V} {a : Addr} (hr : ∀ n ∈ rows, n ∈ nmAll) (hn : ∀ n ∈ names, n ∈ nmAll) (h : NeedV rows names its) (e : H a = some (.tup its)) : ∃ d, Dp K H (.ref a) d ∧ d.canLay0 = true ∧ d.depth ≤ 1 := by
  cases h with
  | row n t m h =>
    refine ⟨.tuple [.str "row", .str n, .int t, .int m], .tup (SqT.of e) (.cons (.str _) (.cons (.str _) (.cons (.int _) (.cons (.int _) .nil)))), (tup_lay _ fun d md => ?_).1, by simp [PyData.depth, PyData.depthAll]⟩
    simp only [List.mem_cons, List.not_mem_nil, or_false] at md
    rcases md with rfl | rfl | rfl | rfl
    · exact nm_lay _ (by decide +kernel)
    · exact nm_lay _ (hr n h)
    · exact int_lay _
    · exact int_lay _
  | kind n a t m h =>
    refine ⟨.tuple [.str "kind", .str n, .int a, .int t, .int m], .tup (SqT.of e) (.cons (.str _) (.cons (.str _) (.cons (.int _) (.cons (.int _) (.cons (.int _) .nil))))), (tup_lay _ fun d md => ?_).1, by simp [PyData.depth, PyData.depthAll]⟩
    simp only [List.mem_cons, List.not_mem_nil, or_false] at md
    rcases md with rfl | rfl | rfl | rfl | rfl
    · exact nm_lay _ (by decide +kernel)
    · exact nm_lay _ (hn n h)
    · exact int_lay _
    · exact int_lay _
    · exact int_lay _
theorem needs_dp {K : PySem.W.Frag} {H : Hp} {rows names : List Str} (hr : ∀ n ∈ rows, n ∈ nmAll) (hn : ∀ n ∈ names, n ∈ nmAll) : ∀ {qs : List Addr} {its : List (List V)}, Paired (fun q it => H q = some (.tup it)) qs its → (∀ it ∈ its, NeedV rows names it) → ∃ ds, DpAll K H (qs.map V.ref) ds ∧ (∀ d ∈ ds, d.canLay0 = true) ∧ PyData.depthAll ds ≤ 1 ∧ ds.length = its.length
  | _, _, .nil, _ => ⟨[], .nil, fun _ z => (by cases z), by simp [PyData.depthAll], rfl⟩
  | _, _, .cons h r, n => by
    obtain ⟨d, h1, h2, h3⟩ := need_dp (K := K) hr hn (n _ (List.mem_cons_self ..)) h
    obtain ⟨ds, g1, g2, g3, g4⟩ := needs_dp (K := K) hr hn r fun it m => n it (List.mem_cons_of_mem _ m)
    exact ⟨d :: ds, .cons h1 g1, fun x m => by
      rcases List.mem_cons.mp m with c | c
      · rw [c]; exact h2
      · exact g2 x c, by rw [PyData.depthAll]; omega, by rw [List.length_cons, List.length_cons, g4]⟩
theorem shaped_list {ds : List PyData} (h : ∀ d ∈ ds, d.canLay0 = true) (d1 : PyData.depthAll ds ≤ 60) : SeqAt.shaped (.list ds) = true := by
  unfold SeqAt.shaped
  rw [(tup_lay ds h).2, Bool.true_and, decide_eq_true_eq, PyData.depth]
  omega
theorem eqv_empty : ∀ ds : List PyData, PyData.eqv (.list ds) (.list []) = decide (ds.length = 0)
  | [] => rfl
  | _ :: _ => rfl
end KaG
set_option maxRecDepth 100000
set_option maxHeartbeats 4000000
namespace KaG
open PySem PySem.Spec PyProof.Rows L2 KaC
abbrev KdT (H : Hp) (t : Addr) (k : Kd) : Prop := ∃ (gt : Addr) (gas : List Addr), H t = some (.tup [.int k.keep, .int k.bar, .ref gt]) ∧ H gt = some (.tup (gas.map V.ref)) ∧ Paired (fun ga g => Grd H ga g) gas k.gs
theorem KdT.ts {H H' : Hp} {t : Addr} {k : Kd} (h : KdT H t k) (s : TSame H H') : KdT H' t k := by
  obtain ⟨gt, gas, e1, e2, p⟩ := h
  exact ⟨gt, gas, s _ _ e1, s _ _ e2, Paired.mono' (fun a b q => Grd.ts q s) p⟩
/-- the dict of the kinds by their names -/
structure KdsD (H : Hp) (d : Addr) (ks : List Kd) (ts : List Addr) : Prop where
  d : H d = some (.dK (kvsOf ks ts))
  t : Paired (KdT H) ts ks
theorem KdsD.same {H H' : Hp} {d : Addr} {ks : List Kd} {ts : List Addr} (h : KdsD H d ks ts) (s : Same H H') : KdsD H' d ks ts := ⟨s _ _ h.d, Paired.mono' (fun _ _ q => KdT.ts q (TSame.of s)) h.t⟩
def ndIsK : List V → Bool
  | [.str _, .str _, .int _, .int _, .int _] => true
  | _ => false
theorem met_eq {rows names : List Str} {ks : List Kd} {F : List Str} {g : Gr} (h : ∀ it ∈ g, NeedV rows names it) : decide (((g.filter ndIsK).filter fun it => !ndLive ks F it).length = 0) = grLive ks F g := by
  unfold grLive
  cases e : g.all (ndLive ks F) with
  | true =>
    have : (g.filter ndIsK).filter (fun it => !ndLive ks F it) = [] := List.filter_eq_nil_iff.mpr fun a m z => by
      have := List.all_eq_true.mp e a (List.mem_filter.mp m).1
      rw [this] at z
      cases z
    rw [this]
    rfl
  | false =>
    refine decide_eq_false fun z => ?_
    have nil := List.eq_nil_of_length_eq_zero z
    have : g.all (ndLive ks F) = true := List.all_eq_true.mpr fun it m => by
      cases q : ndLive ks F it with
      | true => rfl
      | false =>
        have nv := h it m
        have kk : ndIsK it = true := by
          cases nv with
          | row n t u h => exact absurd q (by intro z; cases z)
          | kind n a t u h => rfl
        have : it ∈ (g.filter ndIsK).filter fun it => !ndLive ks F it := List.mem_filter.mpr ⟨List.mem_filter.mpr ⟨m, kk⟩, by simp [q]⟩
        rw [nil] at this
        cases this
    rw [this] at e
    cases e
theorem kvs_keysN {ks : List Kd} {ts : List Addr} {R : Addr → Kd → Prop} (h : Paired R ts ks) : (kvsOf ks ts).map (·.1) = (ks.map Kd.name).map Sum.inr := kvs_keys (by rw [paired_len h]; exact Nat.le_refl _)
theorem inr_nodup {ns : List Str} (h : ns.Nodup) : (ns.map (Sum.inr : Str → Key)).Nodup := by
  rw [List.Nodup, List.pairwise_map]
  exact List.Pairwise.imp (fun ne z => ne (Sum.inr.inj z)) h
section
variable {P : Program} {w : World} {K : PySem.W.Frag} {mg : Str → Option Value} {base : Heap}
abbrev sKindsO : Stmt := top 42
theorem scKO : FnScope ["rulebook", "kind"] ["rulebook"] (defScope sKindsO) := ⟨rfl, rfl, rfl, by decide +kernel, rfl, by decide +kernel, by decide +kernel⟩
def spKindsO : Sp := fun vs H Q _ => ∃ (b : Addr) (rows : List Str) (ks : List Kd), vs = [.ref b] ∧ BookAt H b rows ks ∧ BookOk rows ks ∧ ∀ (d : Addr) (ts : List Addr) (H' : Hp), Same H H' → H d = none → KdsD H' d ks ts → Q (.ref d) H'
theorem ok_kindsO {f : Addr} {fd : FuncData} (F : Fun K "_law_kinds_of" "_law_kinds_of" sKindsO f fd) (T : TxtC mg) : FnOk P w K mg base CX0 1 f fd ["rulebook"] spKindsO := by
  refine F.ok scKO (fun vs H Q E h => ?_) (fun cdv A outer s H vs Q E hr h => ?_)
  · obtain ⟨b, rows, ks, rfl, _⟩ := h
    rfl
  · obtain ⟨b, rows, ks, rfl, hA, hO, k⟩ := h
    refine ⟨_, (pss_one (ps_ret (pe_callTy (call_dictP rfl) (by rfl) T.dct (by decide +kernel) (pa_cons (pe_lc (own := [("kind", 1)]) (g := gName 1) (by rfl) scKO.nd (pi_tup (pe_ix ix_tup (pv 0) pe_int (fun _ _ => rfl)))
          (blkOk_by (own := [("kind", 1)]) (N := ["rulebook", "kind"]) (sc := defScope sKindsO) (by decide +kernel)) (fun _ _ _ _ _ => pg_name (i := 1) scKO.nd rfl (Or.inl rfl)) (fun _ _ _ _ _ => pts_nil)
          (fun _ _ _ _ _ => pe_tup (pa_cons (pe_ix (r := rIxT K) ix_tup (pv 1) pe_int (fun _ _ => rfl)) (pa_cons (pe_slice (r := rSlT K) sl_tup (pv 1) (po_some pe_int) po_none) pa_nil)))) pa_nil)))), ?_⟩
    have hk5 := hO.k5
    obtain ⟨r, kt, kas, e1, e2, e3, pk⟩ := id hA
    have hlen := paired_len pk
    refine ⟨_, rfl, b, _, 1, .ref kt, rfl, rfl, SqT.of e1, rfl, kt, rfl, ⟨_, SqT.of e3⟩, fun D hD => lc_tup (K := K) (a := kt) (xs := kas.map V.ref) (fun i G => Same H G ∧ ∃ (ps ts : List Addr), G D = some (.lst (ps.map V.ref)) ∧ Paired (fun p (kv : Key × V) => G p = some (.tup [kV kv.1, kv.2])) ps (kvsOf (ks.take i) ts) ∧ Paired (KdT G) ts (ks.take i)) ?_ ?_ ?_ ?_⟩
    · exact ⟨same_upd hD, [], [], upd_same, .nil, .nil⟩
    · rintro i G _ ⟨S, _⟩
      exact SqT.of (S _ _ e3)
    · rintro i x G hx ⟨S, ps, ts, gD, pp, pt⟩
      rw [List.getElem?_map] at hx
      obtain ⟨ka, ha, rfl⟩ := Option.map_eq_some_iff.mp hx
      obtain ⟨kd, hkd, gt, gas, f1, f2, f3⟩ := paired_at pk ha
      have tk : ks.take (i + 1) = ks.take i ++ [kd] := by rw [List.take_add_one, hkd]; rfl
      have lt := paired_len pt
      have lp := paired_len pp
      rw [kvs_len lt] at lp
      have hi : i < ks.length := (List.getElem?_eq_some_iff.mp hkd).1
      rw [List.length_take] at lp
      refine ⟨rfl, ?_⟩
      unfold tYes
      dsimp only
      refine iteT ⟨_, rfl, ka, _, 0, .str kd.name, rfl, rfl, SqT.of (S _ _ f1), rfl, ?_⟩
      refine ⟨_, rfl, 1, rfl, ka, _, rfl, SqT.of (S _ _ f1), (fun z => absurd z.1 (by show HT.sIx 4 0 (some 1) ≠ 0; decide)), fun t nt => ⟨by show 2 ≤ sizeLine; decide, fun p np => ?_⟩⟩
      have ec : cutV [.str kd.name, .int kd.keep, .int kd.bar, .ref gt] (some 1) none = [.int kd.keep, .int kd.bar, .ref gt] := rfl
      rw [ec] at np ⊢
      have s1 := same_upd (o := .tup [.int kd.keep, .int kd.bar, .ref gt]) nt
      have s2 := same_upd (o := .tup [.str kd.name, .ref t]) np
      have s12 := KaG.Same.tr s1 s2
      have et : (upd (upd G t (.tup [.int kd.keep, .int kd.bar, .ref gt])) p (.tup [.str kd.name, .ref t])) t = some (.tup [.int kd.keep, .int kd.bar, .ref gt]) := s2 _ _ upd_same
      have ep : (upd (upd G t (.tup [.int kd.keep, .int kd.bar, .ref gt])) p (.tup [.str kd.name, .ref t])) p = some (.tup [.str kd.name, .ref t]) := upd_same
      have S3 := KaG.Same.tr S s12
      have gD3 := s12 _ _ gD
      have pp3 := Paired.mono' (fun p (kv : Key × V) (q : G p = some (.tup [kV kv.1, kv.2])) => s12 _ _ q) pp
      have pt3 := Paired.mono' (fun _ _ q => KdT.ts q (TSame.of s12)) pt
      generalize upd (upd G t (.tup [.int kd.keep, .int kd.bar, .ref gt])) p (.tup [.str kd.name, .ref t]) = G3 at et ep S3 gD3 pp3 pt3 ⊢
      have tsl : TSame G3 (upd G3 D (.lst (ps.map V.ref ++ [.ref p]))) := ts_lst gD3
      refine ⟨_, gD3, small1000 (by rw [List.length_map]; omega), fun b u e => by rw [upd_ne (ne_of_none e hD)]; exact S3 b u e, ps ++ [p], ts ++ [t], by rw [upd_same, List.map_append]; rfl, ?_, ?_⟩
      · rw [tk, kvs_snoc lt.symm]
        exact paired_snoc (R := fun p2 (kv : Key × V) => (upd G3 D (.lst (ps.map V.ref ++ [.ref p]))) p2 = some (.tup [kV kv.1, kv.2])) (x := p) (y := (Sum.inr kd.name, V.ref t)) (tsl _ _ ep) (Paired.mono' (fun p (kv : Key × V) (q : G3 p = some (.tup [kV kv.1, kv.2])) => tsl _ _ q) pp3)
      · rw [tk]
        exact paired_snoc (KdT.ts ⟨gt, gas, et, S3 _ _ f2, Paired.mono' (fun a b q => Grd.ts q (TSame.of S3)) f3⟩ tsl) (Paired.mono' (fun _ _ q => KdT.ts q tsl) pt3)
    · rintro G ⟨S, ps, ts, gD, pp, pt⟩
      rw [List.length_map, hlen, List.take_length] at pp pt
      refine ⟨D, ps, _, rfl, SqL.of gD, Paired.mono' (fun p kv q => SqT.of q) pp, fun d nd => ?_⟩
      have nk : ((([] : List (Key × V)) ++ kvsOf ks ts).map (·.1)).Nodup := by
        rw [List.nil_append, kvs_keysN pt]
        exact inr_nodup hO.nm.nd
      have s2 := same_upd (o := .dK (mergeK [] (kvsOf ks ts))) nd
      refine k d ts _ (KaG.Same.tr S s2) (same_non S d nd) ⟨?_, Paired.mono' (fun _ _ q => KdT.ts q (TSame.of s2)) pt⟩
      rw [upd_same, merge_new _ _ nk, List.nil_append]
end
end KaG
set_option maxRecDepth 100000
set_option maxHeartbeats 4000000
namespace KaG
open PySem PySem.Spec PyProof.Rows L2 KaC
section
variable {P : Program} {w : World} {K : PySem.W.Frag} {mg : Str → Option Value} {base : Heap}
abbrev nmMt : List Str := ["kinds", "found", "ground", "some", "need"]
def spIsMet : Sp := fun vs H Q _ => ∃ (d fa ga : Addr) (rows : List Str) (ks : List Kd) (ts : List Addr) (F : List Str) (g : Gr), vs = [.ref d, .ref fa, .ref ga] ∧ KdsD H d ks ts ∧ BookOk rows ks ∧ Sq2 H fa (F.map V.str) ∧ Grd H ga g ∧ GrOk rows (nmsOf ks) g ∧ ∀ H', Same H H' → Q (.bl (grLive ks F g)) H'
end
end KaG
set_option maxRecDepth 100000
set_option maxHeartbeats 2000000
namespace KaG
open PySem PySem.Spec PyProof.Rows L2
theorem ifF {c : Bool} {a b : Prop} (h : c = false) (q : b) : if c = true then a else b := by rw [if_neg (by rw [h]; decide)]; exact q
theorem ifT {c : Bool} {a b : Prop} (h : c = true) (q : a) : if c = true then a else b := by rw [if_pos h]; exact q
end KaG
set_option maxRecDepth 100000
set_option maxHeartbeats 2000000
set_option maxRecDepth 100000
set_option maxHeartbeats 4000000
set_option maxRecDepth 100000
set_option maxHeartbeats 4000000
set_option maxRecDepth 100000
set_option maxHeartbeats 4000000
set_option maxRecDepth 100000
set_option maxHeartbeats 4000000
set_option maxRecDepth 100000
set_option maxHeartbeats 4000000
set_option maxRecDepth 100000
set_option maxHeartbeats 4000000
set_option maxRecDepth 100000
set_option maxHeartbeats 4000000
set_option maxRecDepth 100000
set_option maxHeartbeats 4000000
namespace KaG
open PySem PySem.Spec PyProof.Rows L2 KaC
section
variable {H H' : Hp} {m n m' n' : Nat}
structure Gd (H : Hp) (v : V) (d : PyData) (m n : Nat) : Prop where
  rep : Rep H v d
  lay : d.canLay0 = true
  dep : d.depth ≤ m
  len : (txt d).length ≤ n
structure GdA (H : Hp) (vs : List V) (ds : List PyData) (m n : Nat) : Prop where
  rep : RepA H vs ds
  all : ∀ d ∈ ds, d.canLay0 = true ∧ d.depth ≤ m ∧ (txt d).length ≤ n
theorem GdA.nil : GdA H [] [] m n := ⟨.nil, fun _ z => nomatch z⟩
theorem GdA.cons {v : V} {d : PyData} {vs : List V} {ds : List PyData} (h : Gd H v d m n) (r : GdA H vs ds m n) : GdA H (v :: vs) (d :: ds) m n := ⟨.cons h.rep r.rep, fun x z => by
  rcases List.mem_cons.mp z with rfl | z
  · exact ⟨h.lay, h.dep, h.len⟩
  · exact r.all x z⟩
theorem Gd.wk {v : V} {d : PyData} (h : Gd H v d m n) (a : m ≤ m' := by decide) (b : n ≤ n' := by decide) : Gd H v d m' n' := ⟨h.rep, h.lay, Nat.le_trans h.dep a, Nat.le_trans h.len b⟩
theorem layA : ∀ {ds : List PyData}, (∀ d ∈ ds, d.canLay0 = true) → PyData.canLayAll0 ds = true
  | [], _ => by simp [PyData.canLayAll0]
  | d :: r, h => by
    rw [PyData.canLayAll0, h d (List.mem_cons_self ..), layA fun x z => h x (List.mem_cons_of_mem _ z)]
    rfl
theorem depA : ∀ {ds : List PyData}, (∀ d ∈ ds, d.depth ≤ m) → PyData.depthAll ds ≤ m
  | [], _ => by simp [PyData.depthAll]
  | d :: r, h => by
    rw [PyData.depthAll]
    exact Nat.max_le.mpr ⟨h d (List.mem_cons_self ..), depA fun x z => h x (List.mem_cons_of_mem _ z)⟩
theorem txA : ∀ {ds : List PyData}, (∀ d ∈ ds, (txt d).length ≤ n) → ∀ t ∈ txtA ds, t.length ≤ n
  | [], _, _, z => nomatch z
  | d :: r, h, t, z => by
    rcases List.mem_cons.mp z with rfl | z
    · exact h d (List.mem_cons_self ..)
    · exact txA (fun x y => h x (List.mem_cons_of_mem _ y)) t z
theorem txL : ∀ {ds : List PyData}, (txtA ds).length = ds.length
  | [] => rfl
  | _ :: r => congrArg (· + 1) (txL (ds := r))
theorem repL : ∀ {vs : List V} {ds : List PyData}, RepA H vs ds → vs.length = ds.length
  | _, _, .nil => rfl
  | _, _, .cons _ r => congrArg (· + 1) (repL r)
theorem Gd.tup {a : Addr} {vs : List V} {ds : List PyData} (e : H a = some (.tup vs)) (h : GdA H vs ds m n) {c : Nat} (hc : vs.length ≤ c) : Gd H (.ref a) (.tuple ds) (m + 1) (c * (n + 2) + 3) := by
  refine ⟨.tup e h.rep, ?_, ?_, ?_⟩
  · rw [PyData.canLay0]; exact layA fun d z => (h.all d z).1
  · rw [PyData.depth]; exact Nat.succ_le_succ (depA fun d z => (h.all d z).2.1)
  · rw [txt]
    have h1 := tupleText_le (txtA ds)
    have h2 := piled_le (txA fun d z => (h.all d z).2.2)
    rw [txL, ← repL h.rep] at h2
    have h3 := Nat.mul_le_mul_right (n + 2) hc
    omega
theorem Gd.lst {a : Addr} {vs : List V} {ds : List PyData} (e : H a = some (.lst vs)) (h : GdA H vs ds m n) {c : Nat} (hc : vs.length ≤ c) : Gd H (.ref a) (.list ds) (m + 1) (c * (n + 2) + 3) := by
  refine ⟨.lst e h.rep, ?_, ?_, ?_⟩
  · rw [PyData.canLay0]; exact layA fun d z => (h.all d z).1
  · rw [PyData.depth]; exact Nat.succ_le_succ (depA fun d z => (h.all d z).2.1)
  · rw [txt]
    have h1 := listText_le (txtA ds)
    have h2 := piled_le (txA fun d z => (h.all d z).2.2)
    rw [txL, ← repL h.rep] at h2
    have h3 := Nat.mul_le_mul_right (n + 2) hc
    omega
theorem paired_in {α β : Type} {R S : α → β → Prop} : ∀ {xs : List α} {ys : List β}, (∀ a b, b ∈ ys → R a b → S a b) → Paired R xs ys → Paired S xs ys
  | _, _, _, .nil => .nil
  | _, _, h, .cons a r => .cons (h _ _ (List.mem_cons_self ..) a) (paired_in (fun a b m => h a b (List.mem_cons_of_mem _ m)) r)
theorem GdA.of {α : Type} {f : α → PyData} : ∀ {as : List Addr} {xs : List α}, Paired (fun a x => Gd H (.ref a) (f x) m n) as xs → GdA H (as.map V.ref) (xs.map f) m n
  | _, _, .nil => .nil
  | _, _, .cons h r => .cons h (GdA.of r)
theorem nm_txt : ∀ x ∈ nmAll, (txt (.str x)).length ≤ 20 := by decide +kernel
theorem int_txt : ∀ x : Fin 61, (txt (.int (x.val : Int))).length ≤ 20 := by decide +kernel
theorem Gd.nm {x : Str} (h : x ∈ nmAll) : Gd H (.str x) (.str x) 0 20 := ⟨.str x, nm_lay x h, by simp [PyData.depth], nm_txt x h⟩
theorem Gd.int {i : Int} (h0 : 0 ≤ i) (h1 : i ≤ 60) : Gd H (.int i) (.int i) 0 20 := by
  obtain ⟨k, rfl⟩ := Int.eq_ofNat_of_zero_le h0
  have hk : k < 61 := by omega
  refine ⟨.int _ ?_, by simp [PyData.canLay0], by simp [PyData.depth], int_txt ⟨k, hk⟩⟩
  have h2 : (k : Int).natAbs = k := rfl
  rw [h2]
  exact Nat.lt_of_le_of_lt (Nat.log2_le_self k) (by omega)
theorem GdA.strs : ∀ {ns : List Str}, (∀ x ∈ ns, x ∈ nmAll) → GdA H (ns.map V.str) (ns.map PyData.str) 0 20
  | [], _ => .nil
  | x :: r, h => .cons (.nm (h x (List.mem_cons_self ..))) (GdA.strs fun y z => h y (List.mem_cons_of_mem _ z))
def vD : V → PyData
  | .bl b => .bool b
  | .int i => .int i
  | .str x => .str x
  | _ => .none
def ndD (its : List V) : PyData := .tuple (its.map vD)
def grD (g : List (List V)) : PyData := .tuple (g.map ndD)
def kdD (k : Kd) : PyData := .tuple [.str k.name, .int k.keep, .int k.bar, .tuple (k.gs.map grD)]
def bkD (rows : List Str) (ks : List Kd) : PyData := .tuple [.tuple (rows.map PyData.str), .tuple (ks.map kdD)]
theorem Gd.need {rows names its : List _} {a : Addr} (hr : ∀ x ∈ rows, x ∈ nmAll) (hn : ∀ x ∈ names, x ∈ nmAll) (e : H a = some (.tup its)) (h : NeedV rows names its) : Gd H (.ref a) (ndD its) 1 113 := by
  have key : GdA H its (its.map vD) 0 20 ∧ its.length ≤ 5 := by
    cases h with
    | row n t m h t0 t4 m0 m9 => exact ⟨.cons (.nm (by decide +kernel)) (.cons (.nm (hr _ h)) (.cons (.int t0 (by omega)) (.cons (.int m0 (by omega)) .nil))), Nat.le_succ 4⟩
    | kind n b t m h a1 a9 t0 t4 m0 m9 => exact ⟨.cons (.nm (by decide +kernel)) (.cons (.nm (hn _ h)) (.cons (.int (by omega) (by omega)) (.cons (.int t0 (by omega)) (.cons (.int m0 (by omega)) .nil)))), Nat.le_refl 5⟩
  exact Gd.tup e key.1 key.2
theorem Gd.ground {rows names : List Str} {g : List (List V)} {a : Addr} (hr : ∀ x ∈ rows, x ∈ nmAll) (hn : ∀ x ∈ names, x ∈ nmAll) (e : KaG.Grd H a g) (hl : g.length ≤ 3) (h : ∀ n ∈ g, NeedV rows names n) : Gd H (.ref a) (grD g) 2 348 := by
  obtain ⟨ns, e1, p⟩ := e
  have q : Paired (fun n its => Gd H (.ref n) (ndD its) 1 113) ns g := paired_in (fun n its m e => Gd.need hr hn e (h its m)) p
  exact Gd.tup e1 (GdA.of q) (by rw [List.length_map, paired_len p]; exact hl)
theorem Gd.kind {rows : List Str} {ks : List Kd} {k : Kd} {a : Addr} (hO : BookOk rows ks) (mk : k ∈ ks) (e : KdAt H a k) : Gd H (.ref a) (kdD k) 4 5631 := by
  obtain ⟨gt, gas, e1, e2, p⟩ := e
  obtain ⟨a1, a2, b1, b2, hg⟩ := hO.num k mk
  have q : Paired (fun ga g => Gd H (.ref ga) (grD g) 2 348) gas k.gs := paired_in (fun ga g m e => Gd.ground hO.rw.of hO.nm.of e (hO.grd k mk g m).2.1 (hO.grd k mk g m).2.2) p
  have t := Gd.tup e2 (GdA.of q) (c := 4) (by rw [List.length_map, paired_len p]; exact hg)
  have y := Gd.tup e1 (.cons ((Gd.nm (hO.nm.of _ (List.mem_map_of_mem mk))).wk (m' := 3) (n' := 1403)) (.cons ((Gd.int (by omega) (by omega)).wk (m' := 3) (n' := 1403)) (.cons ((Gd.int b1 (by omega)).wk (m' := 3) (n' := 1403)) (.cons t .nil)))) (c := 4) (Nat.le_refl 4)
  exact y.wk
theorem Gd.book {rows : List Str} {ks : List Kd} {b : Addr} (hA : BookAt H b rows ks) (hO : BookOk rows ks) : Gd H (.ref b) (bkD rows ks) 6 60000 := by
  obtain ⟨r, kt, kas, e1, e2, e3, p⟩ := hA
  have q : Paired (fun ka k => Gd H (.ref ka) (kdD k) 4 5631) kas ks := paired_in (fun ka k m e => Gd.kind hO m e) p
  have t := Gd.tup e3 (GdA.of q) (c := 5) (by rw [List.length_map, paired_len p]; exact hO.k5)
  have hr : rows.length ≤ 15 := by
    have h := List.Nodup.length_le_of_subset hO.rw.nd (l₂ := nmAll) fun x m => hO.rw.of x m
    exact h
  have y := Gd.tup e2 (GdA.strs hO.rw.of) (c := 15) (by rw [List.length_map]; exact hr)
  have z := Gd.tup e1 (.cons (y.wk (m' := 5) (n' := 28168)) (.cons (t.wk (m' := 5) (n' := 28168)) .nil)) (c := 2) (Nat.le_refl 2)
  exact z.wk
def plD (p : Plc) : PyData := .tuple [.str p.1, .int (p.2.1 : Int), .int (p.2.2 : Int)]
theorem Gd.pl {a : Addr} {p : Plc} (e : H a = some (.tup [.str p.1, .int (p.2.1 : Int), .int (p.2.2 : Int)])) (hn : p.1 ∈ nmAll) (h1 : p.2.1 ≤ 60) (h2 : p.2.2 ≤ 60) : Gd H (.ref a) (plD p) 1 69 :=
  Gd.tup e (.cons (.nm hn) (.cons (.int (by omega) (by omega)) (.cons (.int (by omega) (by omega)) .nil))) (c := 3) (Nat.le_refl 3)
end
end KaG
set_option maxRecDepth 100000
set_option maxHeartbeats 4000000
namespace KaG
open PySem PySem.Spec PyProof.Rows L2 KaC
open Classical in
noncomputable def itsOf (ks : List Kd) (p : Plc) : List V := if h : ∃ its, needAt ks p its then h.choose else []
theorem Rep.there {H : Hp} {b : Addr} {d : PyData} (h : Rep H (.ref b) d) : H b ≠ none := by
  cases h with
  | lst e => rw [e]; exact fun z => nomatch z
  | tup e => rw [e]; exact fun z => nomatch z
/-- what stands around the loops of `_law_is_book_told` -/
structure Tw (K : PySem.W.Frag) (H0 G : Hp) (bg b : Addr) (rows : List Str) (ks : List Kd) (kas : List Addr) (kd pl nl : Addr) (ps ns : List Addr) : Prop where
  ext : Ext bg H0 G
  bk : BookAt G b rows ks
  ka : KasOf G b kas
  ekd : G kd = some (.dK (kvsOf ks kas))
  nkd : H0 kd = none
  epl : G pl = some (.lst (ps.map V.ref))
  npl : H0 pl = none
  pa : PlAt G ps (placesOf ks)
  lp : ps.length ≤ 60
  enl : G nl = some (.lst (ns.map V.ref))
  nnl : H0 nl = none
  na : Paired (fun q p => needAt ks p (itsOf ks p) ∧ G q = some (.tup (itsOf ks p))) ns (placesOf ks)
theorem keep_in {bg : Addr} {H0 G G' : Hp} {a : Addr} {o : HO} (hB : Bag H0 bg) (E : Ext bg G G') (n : H0 a = none) (e : G a = some o) : G' a = some o := E.keep a o (fun z => hB.there (z ▸ n)) e
theorem Tw.go {K : PySem.W.Frag} {H0 G G' : Hp} {bg b : Addr} {rows : List Str} {ks : List Kd} {kas : List Addr} {kd pl nl : Addr} {ps ns : List Addr} (hB : Bag H0 bg) (h : Tw K H0 G bg b rows ks kas kd pl nl ps ns) (E : Ext bg G G') : Tw K H0 G' bg b rows ks kas kd pl nl ps ns := by
  have s := TSame.ext h.ext.bag E
  obtain ⟨r, kt, e1, e2⟩ := h.ka
  exact ⟨h.ext.trans E, h.bk.ts s, ⟨r, kt, s _ _ e1, s _ _ e2⟩, keep_in hB E h.nkd h.ekd, h.nkd, keep_in hB E h.npl h.epl, h.npl, h.pa.ts s, h.lp, keep_in hB E h.nnl h.enl, h.nnl, Paired.mono' (fun q p z => ⟨z.1, s _ _ z.2⟩) h.na⟩
end KaG
set_option maxRecDepth 100000
set_option maxHeartbeats 4000000
namespace KaG
open PySem PySem.Spec PyProof.Rows L2 KaC
def leN (a b : Str) : Prop := ltCps b.cps.toList a.cps.toList = false
theorem leN_tr : ∀ a ∈ nmAll, ∀ b ∈ nmAll, ∀ c ∈ nmAll, ltCps b.cps.toList a.cps.toList = false → ltCps c.cps.toList b.cps.toList = false → ltCps c.cps.toList a.cps.toList = false := by decide +kernel
theorem leN_anti : ∀ a ∈ nmAll, ∀ b ∈ nmAll, ltCps b.cps.toList a.cps.toList = false → ltCps a.cps.toList b.cps.toList = false → a = b := by decide +kernel
theorem rising_pw : ∀ {r : List Str} {p : Str}, p ∈ nmAll → (∀ x ∈ r, x ∈ nmAll) → risingS p r = true → (∀ x ∈ r, leN p x) ∧ r.Pairwise leN
  | [], _, _, _, _ => ⟨(fun _ z => nomatch z), List.Pairwise.nil⟩
  | x :: r, p, hp, hr, h => by
    unfold risingS at h
    rw [Bool.and_eq_true, Bool.not_eq_true'] at h
    have hx := hr x (List.mem_cons_self ..)
    have hr' : ∀ y ∈ r, y ∈ nmAll := fun y m => hr y (List.mem_cons_of_mem _ m)
    obtain ⟨i1, i2⟩ := rising_pw hx hr' h.2
    refine ⟨fun y m => ?_, .cons i1 i2⟩
    rcases List.mem_cons.mp m with rfl | m
    · exact h.1
    · exact leN_tr p hp x hx y (hr' y m) h.1 (i1 y m)
theorem sortedS_pw {ns : List Str} (hn : ∀ x ∈ ns, x ∈ nmAll) (h : sortedS ns = true) : ns.Pairwise leN := by
  cases ns with
  | nil => exact .nil
  | cons x r =>
    obtain ⟨i1, i2⟩ := rising_pw (hn x (List.mem_cons_self ..)) (fun y m => hn y (List.mem_cons_of_mem _ m)) h
    exact .cons i1 i2
theorem sorted_one {xs ys : List Str} (hx : ∀ x ∈ xs, x ∈ nmAll) (h1 : sortedS xs = true) (h2 : sortedS ys = true) (p : ys.Perm xs) : ys = xs := by
  have hy : ∀ y ∈ ys, y ∈ nmAll := fun y m => hx y (p.mem_iff.mp m)
  exact List.Perm.eq_of_pairwise (fun a b ma mb p q => leN_anti a (hy a ma) b (hx b mb) p q) (sortedS_pw hy h2) (sortedS_pw hx h1) p
theorem Gd.names {H : Hp} {l : Addr} {ns : List Str} (e : H l = some (.lst (ns.map V.str))) (hn : ∀ x ∈ ns, x ∈ nmAll) (hl : ns.length ≤ 5) : Gd H (.ref l) (.list (ns.map PyData.str)) 1 113 := Gd.lst e (GdA.strs hn) (c := 5) (by rw [List.length_map]; exact hl)
end KaG
set_option maxRecDepth 100000
set_option maxHeartbeats 4000000
namespace KaG
open PySem PySem.Spec PyProof.Rows L2 KaC
structure Pg (names : List Str) (J : Jn) (t j : Nat) (F : List Str) : Prop where
  ch : Chs names J F
  or : Clo names J F ∨ (t ≤ F.length ∧ ((∀ n ∈ names.take j, J n F = true → n ∈ F) ∨ t + 1 ≤ F.length))
theorem Pg.start {names : List Str} {J : Jn} {t : Nat} {F : List Str} (h : Chs names J F) (o : Clo names J F ∨ t ≤ F.length) : Pg names J t 0 F := ⟨h, o.imp id fun z => ⟨z, .inl (fun n m => by simp at m)⟩⟩
theorem Pg.add {names : List Str} {J : Jn} {t j : Nat} {F : List Str} {n : Str} (mo : Mono J) (h : Pg names J t j F) (mn : n ∈ names) (nF : n ∉ F) (e : J n F = true) : Pg names J t (j + 1) (F ++ [n]) := by
  refine ⟨h.ch.add mo mn nF e, ?_⟩
  rcases h.or with c | ⟨c, _⟩
  · exact absurd (c n mn e) nF
  · exact .inr ⟨by rw [List.length_append]; omega, .inr (by rw [List.length_append]; show t + 1 ≤ F.length + 1; omega)⟩
theorem Pg.skip {names : List Str} {J : Jn} {t j : Nat} {F : List Str} {n : Str} (h : Pg names J t j F) (hn : names[j]? = some n) (e : J n F = true → n ∈ F) : Pg names J t (j + 1) F := by
  refine ⟨h.ch, h.or.imp id fun ⟨c, d⟩ => ⟨c, d.imp (fun y x m => ?_) id⟩⟩
  rw [List.take_add_one, hn] at m
  rcases List.mem_append.mp m with z | z
  · exact y x z
  · rw [List.mem_singleton.mp (show x ∈ [n] from z)]
    exact e
theorem Pg.done {names : List Str} {J : Jn} {t : Nat} {F : List Str} (h : Pg names J t names.length F) : Clo names J F ∨ t + 1 ≤ F.length := by
  rcases h.or with c | ⟨_, c | c⟩
  · exact .inl c
  · rw [List.take_length] at c
    exact .inl c
  · exact .inr c
theorem Chs.clo {names : List Str} {J : Jn} {F : List Str} (nd : names.Nodup) (h : Chs names J F) (o : Clo names J F ∨ names.length ≤ F.length) : Clo names J F := o.elim id fun e n mn _ => h.full nd e n mn
theorem KdsD.wr {G : Hp} {d p : Addr} {ks : List Kd} {ts : List Addr} {xs ys : List V} (h : KdsD G d ks ts) (e : G p = some (.lst xs)) : KdsD (upd G p (.lst ys)) d ks ts :=
  ⟨by rw [upd_ne (fun z => by have := h.d; rw [z, e] at this; cases this)]; exact h.d, Paired.mono' (fun _ _ q => KdT.ts q (ts_lst e)) h.t⟩
theorem ones_dp {α : Type} {K : PySem.W.Frag} {H : Hp} : ∀ (xs : List α), ∃ ds, DpAll K H (xs.map fun _ => V.int 1) ds ∧ (∀ d ∈ ds, d.canLay0 = true) ∧ PyData.depthAll ds ≤ 1 ∧ ds.length = xs.length
  | [] => ⟨[], .nil, (fun _ z => nomatch z), by simp [PyData.depthAll], rfl⟩
  | x :: r => by
    obtain ⟨ds, h1, h2, h3, h4⟩ := ones_dp (K := K) (H := H) r
    exact ⟨.int 1 :: ds, .cons (.int 1) h1, fun d m => by
      rcases List.mem_cons.mp m with z | z
      · rw [z]; simp [PyData.canLay0]
      · exact h2 d z, by rw [PyData.depthAll]; simp only [PyData.depth]; omega, by rw [List.length_cons, List.length_cons, h4]⟩
theorem any_len {α : Type} {t : α → Bool} {xs : List α} : (!decide ((xs.filter t).length = 0)) = xs.any t := by
  cases e : xs.any t with
  | false =>
    have : xs.filter t = [] := List.filter_eq_nil_iff.mpr fun a m z => by
      rw [List.any_eq_false] at e
      exact e a m z
    rw [this]
    rfl
  | true =>
    obtain ⟨a, m, z⟩ := List.any_eq_true.mp e
    have : 0 < (xs.filter t).length := List.length_pos_of_mem (List.mem_filter.mpr ⟨m, z⟩)
    rw [decide_eq_false (by omega)]
    rfl
section
variable {P : Program} {w : World} {K : PySem.W.Frag} {mg : Str → Option Value} {base : Heap}
abbrev sLBear : Stmt := top 43
abbrev nmLB : List Str := ["rulebook", "kinds", "found", "turn", "name", "ground"]
theorem scLB : FnScope nmLB ["rulebook"] (defScope sLBear) := ⟨rfl, rfl, rfl, by decide +kernel, rfl, by decide +kernel, by decide +kernel⟩
def spLBear : Sp := fun vs H Q _ => ∃ (b : Addr) (rows : List Str) (ks : List Kd), vs = [.ref b] ∧ BookAt H b rows ks ∧ BookOk rows ks ∧ ∀ (p : Addr) (F : List Str) (H' : Hp), Same H H' → H p = none → H' p = some (.lst (F.map V.str)) → Chs (nmsOf ks) (jB ks) F → Clo (nmsOf ks) (jB ks) F → Q (.ref p) H'
theorem ok_lBear {f fK fM : Addr} {fd fdK fdM : FuncData} (F : Fun K "_law_bearing" "_law_bearing" sLBear f fd) (T : TxtC mg) (CK : Ct P w K mg base "_law_kinds_of" 1 ["rulebook"] spKindsO fK fdK) (CM : Ct P w K mg base "_law_is_met" 1 ["kinds", "found", "ground"] spIsMet fM fdM) : FnOk P w K mg base CX0 2 f fd ["rulebook"] spLBear := by
  refine F.ok scLB (fun vs H Q E h => ?_) (fun cdv A outer s H vs Q E hr h => ?_)
  · obtain ⟨b, rows, ks, rfl, _⟩ := h
    rfl
  · obtain ⟨b, rows, ks, rfl, hA, hO, k⟩ := h
    have u1 := hu_of hr
    have hu : (A.deeper (envOfC "_law_bearing" (defScope sLBear) s.heap.objs.size f cdv)).units + 64 < cLine := by have := hr.3; omega
    refine ⟨_, (pss_cons (ps_asg (pe_tup (pa_cons (pe_call CK.G hr (by rfl) CK.m CK.kp CK.b .nil pass0 (pa_cons (pv 0) pa_nil)) (pa_cons (pe_lst pa_nil) pa_nil))) (pg_tup (by rfl) (pgs_cons (pg_name (i := 1) scLB.nd rfl (Or.inr rfl)) (pgs_cons (pg_name (i := 2) scLB.nd rfl (Or.inr rfl)) pgs_nil))))
      (pss_cons (ps_for PassesOwn.never rfl (pi_range1 rfl T.b.range (pa_cons (pe_callB call_lenD (by rfl) T.b.len PySem.boot_len (pa_cons (pv 1) pa_nil)) pa_nil)) (pg_name (i := 3) scLB.nd rfl (Or.inl rfl))
        (pss_one (ps_for PassesOwn.never rfl (pi_list (pe_callB (call_sortedD (by rfl)) (by rfl) T.sor (by decide +kernel) (pa_cons (pv 1) pa_nil))) (pg_name (i := 4) scLB.nd rfl (Or.inl rfl))
          (pss_one (ps_if (PW.pt (pw_and (pt_cmpR (r := rIn K true) op_notIn_seq (pv 4) (pv 2) rfl) (pw_and1 (pt_cmpR (op_neD hu) (pe_lc (own := [("ground", 5)]) (g := gName 5) (tt := tB (tCall spIsMet [] E0 (tCons (tVar 1) (tCons (tVar 2) (tCons (tVar 5) tNil))))) (te := tC (.int 1)) (by rfl) scLB.nd
              (pi_tup (pe_ix (r := rIxT K) ix_tup (pe_dget u1 (pv 1) (pv 4) (fun _ _ => rfl)) pe_int (fun _ _ => rfl))) (blkOk_by (own := [("ground", 5)]) (N := nmLB) (sc := defScope sLBear) (by decide +kernel)) (fun _ _ _ _ _ => pg_name (i := 5) scLB.nd rfl (Or.inl rfl))
              (fun _ _ _ _ _ => pts_one (pt_val (pe_call CM.G hr (by rfl) CM.m CM.kp CM.b .nil pass0 (pa_cons (pv 1) (pa_cons (pv 2) (pa_cons (pv 5) pa_nil))))))
              (fun _ _ _ _ _ => pe_int)) (pe_lst pa_nil) (nomark _)))))
            (pss_one (ps_expr (pe_bm PySem.F.plainAttrs_list PySem.F.slot_list_append PySem.F.type_list_append mt_append (pv 2) (pa_cons (pv 4) pa_nil)))) pss_nil)))))
      (pss_one (ps_ret (pv 2))))), ?_⟩
    have hk5 := hO.k5
    have nd := hO.nm.nd
    refine ⟨_, rfl, b, rows, ks, rfl, hA, hO, fun d ts H1 S1 nd0 KD => ?_⟩
    refine ⟨Nat.zero_le _, fun p np => ⟨by show 2 ≤ sizeLine; decide, fun t0 nt0 => ?_⟩⟩
    refine ⟨t0, _, rfl, SqT.of upd_same, by rfl, _, _, rfl, _, _, rfl, rfl, ?_⟩
    have s1 := same_upd (o := .lst []) np
    have s2 := same_upd (o := .tup [.ref d, .ref p]) nt0
    have S2 := KaG.Same.tr S1 (KaG.Same.tr s1 s2)
    have KD2 := KD.same (KaG.Same.tr s1 s2)
    have ep : (upd (upd H1 p (.lst [])) t0 (.tup [.ref d, .ref p])) p = some (.lst (([] : List Str).map V.str)) := s2 _ _ upd_same
    have pH : H p = none := same_non S1 p np
    generalize upd (upd H1 p (.lst [])) t0 (.tup [.ref d, .ref p]) = H2 at S2 KD2 ep ⊢
    have lkv : (kvsOf ks ts).length = ks.length := kvs_len (paired_len KD.t)
    have wr : ∀ {G : Hp} {o : HO}, Same H G → Same H (upd G p o) := fun S b u e => by rw [upd_ne (ne_of_none e pH)]; exact S b u e
    refine ⟨_, rfl, d, _, rfl, KD2.d, _, rfl, by rw [lkv]; omega, by rw [lkv]; omega, for_range (n := ((kvsOf ks ts).length : Int).toNat) (fun t σ' G => (∃ x3 x4 x5 : Option V, σ' = [some (.ref b), some (.ref d), some (.ref p), x3, x4, x5]) ∧ Same H G ∧ KdsD G d ks ts ∧ ∃ F : List Str, G p = some (.lst (F.map V.str)) ∧ Chs (nmsOf ks) (jB ks) F ∧ (Clo (nmsOf ks) (jB ks) F ∨ t ≤ F.length)) ?_ ?_ ?_⟩
    · exact ⟨⟨_, _, _, rfl⟩, S2, KD2, [], ep, Chs.nil, .inr (Nat.zero_le _)⟩
    · rintro t σ' G ht ⟨⟨x3, x4, x5, rfl⟩, S, KG, F, gp, hC, ho⟩
      refine ⟨_, rfl, d, kvsOf ks ts, ks.map Kd.name, rfl, .inl KG.d, kvs_keysN KG.t, by rw [List.length_map]; omega, fun ys c pm srt nc => ?_⟩
      obtain rfl : ys = ks.map Kd.name := sorted_one hO.nm.of hO.nm.up srt pm
      have sc := same_upd (o := .lst ((ks.map Kd.name).map V.str)) nc
      have cp : c ≠ p := fun z => by rw [z, gp] at nc; cases nc
      have gp2 := sc _ _ gp
      have KG2 := KG.same sc
      have S3 := KaG.Same.tr S sc
      have ec : upd G c (.lst ((ks.map Kd.name).map V.str)) c = some (.lst ((ks.map Kd.name).map V.str)) := upd_same
      generalize upd G c (.lst ((ks.map Kd.name).map V.str)) = G2 at gp2 KG2 S3 ec ⊢
      refine ⟨c, rfl, ⟨_, SqL.of ec⟩, for_list (K := K) (a := c) (xs := (ks.map Kd.name).map V.str) (fun j σ' J => (∃ x4 x5 : Option V, σ' = [some (.ref b), some (.ref d), some (.ref p), some (.int (0 + (t : Int))), x4, x5]) ∧ Same H J ∧ KdsD J d ks ts ∧ J c = some (.lst ((ks.map Kd.name).map V.str)) ∧ ∃ F : List Str, J p = some (.lst (F.map V.str)) ∧ Pg (nmsOf ks) (jB ks) t j F) ?_ ?_ ?_ ?_⟩
      · exact ⟨⟨_, _, rfl⟩, S3, KG2, ec, F, gp2, Pg.start hC ho⟩
      · rintro j σ' J _ ⟨_, _, _, e, _⟩
        exact SqL.of e
      · rintro j x σ' J hx ⟨⟨x4, x5, rfl⟩, SJ, KJ, jc, F', jp, hP⟩
        rw [List.getElem?_map] at hx
        obtain ⟨n, hn, rfl⟩ := Option.map_eq_some_iff.mp hx
        have mn : n ∈ nmsOf ks := List.mem_of_getElem? hn
        have l5 : F'.length ≤ 5 := Nat.le_trans hP.ch.len (by rw [List.length_map]; exact hk5)
        refine ⟨_, rfl, _, rfl, p, F'.map V.str, rfl, .inl (SqL.of jp), rfl, flat_strs, _, rfl, ?_⟩
        rw [show (if true = true then !inV (V.str n) (List.map V.str F') else inV (V.str n) (List.map V.str F')) = !decide (n ∈ F') by rw [if_pos rfl, inV_str]]
        by_cases hm : n ∈ F'
        · exact iteDF (by rw [decide_eq_true hm]; rfl) ⟨⟨_, _, rfl⟩, SJ, KJ, jc, F', jp, hP.skip hn fun _ => hm⟩
        · refine iteD (by rw [decide_eq_false hm]; rfl) ?_
          obtain ⟨kd, mk, kn⟩ := List.mem_map.mp mn
          obtain ⟨tl, ev, gt, gas, y1, y2, y3⟩ := kvs_get nd KJ.t mk
          rw [kn] at ev
          have lg := paired_len y3
          have g4 := (hO.num kd mk).2.2.2.2
          refine ⟨_, rfl, _, rfl, d, .ref tl, rfl, by rw [← ev]; exact DGet.k (k := Sum.inr n) KJ.d, tl, _, 2, .ref gt, rfl, rfl, SqT.of y1, rfl, gt, rfl, ⟨_, SqT.of y2⟩, fun D hD => lc_tup (K := K) (a := gt) (xs := gas.map V.ref) (fun i J2 => Same J J2 ∧ J2 D = some (.lst (((kd.gs.take i).filter (grLive ks F')).map fun _ => V.int 1))) ?_ ?_ ?_ ?_⟩
          · exact ⟨same_upd hD, upd_same⟩
          · rintro i J2 _ ⟨S4, _⟩
            exact SqT.of (S4 _ _ y2)
          · rintro i x J2 hx ⟨S4, jD⟩
            rw [List.getElem?_map] at hx
            obtain ⟨ga, hga, rfl⟩ := Option.map_eq_some_iff.mp hx
            obtain ⟨gr, hgr, eGr⟩ := paired_at y3 hga
            have mg' := List.mem_of_getElem? hgr
            have tk : kd.gs.take (i + 1) = kd.gs.take i ++ [gr] := by rw [List.take_add_one, hgr]; rfl
            have lf := List.length_filter_le (grLive ks F') (kd.gs.take i)
            rw [List.length_take] at lf
            refine ⟨rfl, _, rfl, _, rfl, _, rfl, d, p, ga, rows, ks, ts, F', gr, rfl, KJ.same S4, hO, .inl (S4 _ _ jp), Grd.ts eGr (TSame.of S4), hO.gr mk mg', fun J3 S5 => ⟨_, rfl, ite2 (fun hc => ?_) fun hc => ?_⟩⟩
            · refine ⟨_, S5 _ _ jD, small1000 (by rw [List.length_map]; omega), fun b u e => by rw [upd_ne (ne_of_none e hD)]; exact S5 _ _ (S4 b u e), ?_⟩
              rw [upd_same, tk, List.filter_append, List.filter_cons_of_pos hc, List.map_append]
              rfl
            · refine ⟨KaG.Same.tr S4 S5, ?_⟩
              rw [S5 _ _ jD, tk, List.filter_append, List.filter_cons_of_neg hc, List.filter_nil, List.append_nil]
          · rintro J2 ⟨S4, jD⟩
            rw [List.length_map, lg, List.take_length] at jD
            refine ⟨Nat.zero_le _, fun z nz => ?_⟩
            have Sz := same_upd (o := .lst []) nz
            have S45 := KaG.Same.tr S4 Sz
            obtain ⟨ds, d1, d2, d3, d4⟩ := ones_dp (K := K) (H := upd J2 z (.lst [])) (kd.gs.filter (grLive ks F'))
            refine ⟨.list ds, .list [], .lst (SqL.of (Sz _ _ jD)) d1, .lst (SqL.of upd_same) .nil, shaped_list d2 (by omega), shaped_list (fun _ z => (by cases z)) (by simp [PyData.depthAll]), _, rfl, ?_⟩
            rw [eqv_empty, d4, any_len]
            have ej : kd.gs.any (grLive ks F') = jB ks n F' := by
              unfold jB
              rw [← kn, gsOf_eq nd mk]
            rw [ej]
            refine ite2 (fun hc => ?_) fun hc => ?_
            · refine ⟨_, rfl, .inl ⟨rfl, _, SqL.of (S45 _ _ jp)⟩, _, rfl, p, _, _, rfl, rfl, S45 _ _ jp, small1000 (by rw [List.length_map]; omega), ?_⟩
              refine ⟨⟨_, _, rfl⟩, wr (KaG.Same.tr SJ S45), (KJ.same S45).wr (S45 _ _ jp), ?_, F' ++ [n], by rw [upd_same, List.map_append]; rfl, hP.add (jB_mono ks) mn hm hc⟩
              rw [upd_ne cp]
              exact S45 _ _ jc
            · exact ⟨⟨_, _, rfl⟩, KaG.Same.tr SJ S45, KJ.same S45, S45 _ _ jc, F', S45 _ _ jp, hP.skip hn fun q => absurd q hc⟩
      · rintro σ' J ⟨⟨x4, x5, rfl⟩, SJ, KJ, jc, F', jp, hP⟩
        rw [List.length_map] at hP
        exact ⟨⟨_, _, _, rfl⟩, SJ, KJ, F', jp, hP.ch, hP.done⟩
    · rintro σ' G ⟨⟨x3, x4, x5, rfl⟩, S, KG, F, gp, hC, ho⟩
      refine ⟨_, rfl, k p F G S pH gp hC (hC.clo nd (ho.imp id fun z => ?_))⟩
      rw [lkv] at z
      rw [List.length_map]
      exact z
end
end KaG
set_option maxRecDepth 100000
set_option maxHeartbeats 4000000
namespace KaG
open PySem PySem.Spec PyProof.Rows L2 KaC
theorem Chs.isL {names : List Str} {J : Jn} {F : List Str} (mo : Mono J) (h : Chs names J F) (c : Clo names J F) : IsL names J (names.filter fun n => decide (n ∈ F)) := by
  have mem : ∀ n, n ∈ names.filter (fun n => decide (n ∈ F)) ↔ n ∈ F := fun n => by
    rw [List.mem_filter, decide_eq_true_eq]
    exact ⟨fun z => z.2, fun z => ⟨h.sub n z, z⟩⟩
  refine ⟨?_, fun n mn j => (mem n).mpr (c n mn (mo n _ F (fun x z => (mem x).mp z) j)), fun S hS n m => h.lst S hS n ((mem n).mp m)⟩
  refine List.filter_congr fun n _ => decide_eq_decide.mpr (mem n).symm
theorem Chs.meml {names : List Str} {J : Jn} {F : List Str} (mo : Mono J) (h : Chs names J F) (c : Clo names J F) : IsL names J (lfp names J) ∧ ∀ n, n ∈ F ↔ n ∈ lfp names J := by
  have i := h.isL mo c
  have e := i.eq
  rw [← e]
  exact ⟨i, h.mem c i⟩
theorem ts_dk {H : Hp} {p : Addr} {xs ys : List (Key × V)} (e : H p = some (.dK xs)) : TSame H (upd H p (.dK ys)) := fun b zs q => by
  rw [upd_ne (fun z => by rw [z, e] at q; cases q)]
  exact q
theorem KdsD.dwr {G : Hp} {d p : Addr} {ks : List Kd} {ts : List Addr} {xs ys : List (Key × V)} (h : KdsD G d ks ts) (ne : d ≠ p) (e : G p = some (.dK xs)) : KdsD (upd G p (.dK ys)) d ks ts :=
  ⟨by rw [upd_ne ne]; exact h.d, Paired.mono' (fun _ _ q => KdT.ts q (ts_dk e)) h.t⟩
section
variable {P : Program} {w : World} {K : PySem.W.Frag} {mg : Str → Option Value} {base : Heap}
abbrev sLLive : Stmt := top 45
abbrev nmLL : List Str := ["rulebook", "kinds", "bearing", "found", "name", "grounds", "k"]
theorem scLL : FnScope nmLL ["rulebook"] (defScope sLLive) := ⟨rfl, rfl, rfl, by decide +kernel, rfl, by decide +kernel, by decide +kernel⟩
def spLLive : Sp := fun vs H Q _ => ∃ (b : Addr) (rows : List Str) (ks : List Kd), vs = [.ref b] ∧ BookAt H b rows ks ∧ BookOk rows ks ∧ ∀ (d : Addr) (ls : List Addr) (H' : Hp), Same H H' → H d = none → LiveD H H' d ks ls → Q (.ref d) H'
theorem ok_lLive {f fK fM fB : Addr} {fd fdK fdM fdB : FuncData} (F : Fun K "_law_live" "_law_live" sLLive f fd) (T : TxtC mg) (CK : Ct P w K mg base "_law_kinds_of" 1 ["rulebook"] spKindsO fK fdK) (CM : Ct P w K mg base "_law_is_met" 1 ["kinds", "found", "ground"] spIsMet fM fdM)
    (CB : Ct P w K mg base "_law_bearing" 2 ["rulebook"] spLBear fB fdB) : FnOk P w K mg base CX0 3 f fd ["rulebook"] spLLive := by
  refine F.ok scLL (fun vs H Q E h => ?_) (fun cdv A outer s H vs Q E hr h => ?_)
  · obtain ⟨b, rows, ks, rfl, _⟩ := h
    rfl
  · obtain ⟨b, rows, ks, rfl, hA, hO, k⟩ := h
    have u1 := hu_of hr
    have hr1 : Room 1 (A.deeper (envOfC "_law_live" (defScope sLLive) s.heap.objs.size f cdv)) := hr.mono (by decide)
    refine ⟨_, (pss_cons (ps_asg (pe_tup (pa_cons (pe_call CK.G hr1 (by rfl) CK.m CK.kp CK.b .nil pass0 (pa_cons (pv 0) pa_nil)) (pa_cons (pe_call CB.G hr (by rfl) CB.m CB.kp CB.b .nil pass0 (pa_cons (pv 0) pa_nil)) pa_nil))) (pg_tup (by rfl) (pgs_cons (pg_name (i := 1) scLL.nd rfl (Or.inr rfl)) (pgs_cons (pg_name (i := 2) scLL.nd rfl (Or.inr rfl)) pgs_nil))))
      (pss_cons (ps_set (i := 3) scLL.nd rfl (Or.inl rfl) pe_dnewK)
      (pss_cons (ps_for PassesOwn.never rfl (pi_list (pe_callB (call_sortedD (by rfl)) (by rfl) T.sor (by decide +kernel) (pa_cons (pv 1) pa_nil))) (pg_name (i := 4) scLL.nd rfl (Or.inl rfl))
          (pss_cons (ps_set (i := 5) scLL.nd rfl (Or.inr rfl) (pe_ix (r := rIxT K) ix_tup (pe_dget u1 (pv 1) (pv 4) (fun _ _ => rfl)) pe_int (fun _ _ => rfl)))
          (pss_one (ps_dput u1 (pv 3) (pv 4) (pe_lc (own := [("k", 6)]) (g := gName 6) (wi := iRng1 (tCons (tCB (rLen K) (tCons (tVar 5) tNil)) tNil)) (tt := tB (tCall spIsMet [] E0 (tCons (tVar 1) (tCons (tVar 2) (tCons (tOp (rIxT K) (tVar 5) (tVar 6)) tNil))))) (te := tVar 6) (by rfl) scLL.nd
              (pi_range1 rfl T.b.range (pa_cons (pe_callB (r := rLen K) call_len_seq (by rfl) T.b.len PySem.boot_len (pa_cons (pv 5) pa_nil)) pa_nil)) (blkOk_by (own := [("k", 6)]) (N := nmLL) (sc := defScope sLLive) (by decide +kernel)) (fun _ _ _ _ _ => pg_name (i := 6) scLL.nd rfl (Or.inl rfl))
              (fun _ _ _ _ _ => pts_one (pt_val (pe_call CM.G hr1 (by rfl) CM.m CM.kp CM.b .nil pass0 (pa_cons (pv 1) (pa_cons (pv 2) (pa_cons (pe_ix (r := rIxT K) ix_tup (pv 5) (pv 6) (fun _ _ => rfl)) pa_nil))))))
              (fun _ _ _ _ _ => pv 6)) rfl))))
      (pss_one (ps_ret (pv 3)))))), ?_⟩
    have hk5 := hO.k5
    have nd := hO.nm.nd
    refine ⟨_, rfl, b, rows, ks, rfl, hA, hO, fun d ts H1 S1 nd0 KD => ?_⟩
    refine ⟨_, rfl, b, rows, ks, rfl, hA.ts (TSame.of S1), hO, fun fb Fb H2 S2 nfb efb hC hcl => ⟨by show 2 ≤ sizeLine; decide, fun t0 nt0 => ?_⟩⟩
    refine ⟨t0, _, rfl, SqT.of upd_same, by rfl, _, _, rfl, _, _, rfl, rfl, ?_⟩
    have s3 := same_upd (o := .tup [.ref d, .ref fb]) nt0
    have S3 := KaG.Same.tr S1 (KaG.Same.tr S2 s3)
    have KD3 := KD.same (KaG.Same.tr S2 s3)
    have efb3 := s3 _ _ efb
    generalize upd H2 t0 (.tup [.ref d, .ref fb]) = H3 at S3 KD3 efb3 ⊢
    obtain ⟨hLB, mem⟩ := hC.meml (jB_mono ks) hcl
    have gcg : grLive ks Fb = grLive ks (bearOf ks) := grLive_cg mem
    intro d2 nd2
    have s4 := same_upd (o := .dK []) nd2
    have S4 := KaG.Same.tr S3 s4
    have KD4 := KD3.same s4
    have efb4 := s4 _ _ efb3
    have dd : d ≠ d2 := fun z => by have := KD3.d; rw [z, nd2] at this; cases this
    have d2H : H d2 = none := same_non S3 d2 nd2
    have ed2 : upd H3 d2 (.dK []) d2 = some (.dK []) := upd_same
    generalize upd H3 d2 (.dK []) = H4 at S4 KD4 efb4 ed2 ⊢
    refine ⟨_, rfl, d, kvsOf ks ts, ks.map Kd.name, rfl, .inl KD4.d, kvs_keysN KD4.t, by rw [List.length_map]; omega, fun ys c pm srt nc => ?_⟩
    obtain rfl : ys = ks.map Kd.name := sorted_one hO.nm.of hO.nm.up srt pm
    have sc := same_upd (o := .lst ((ks.map Kd.name).map V.str)) nc
    have cd2 : c ≠ d2 := fun z => by rw [z, ed2] at nc; cases nc
    have ed5 := sc _ _ ed2
    have KD5 := KD4.same sc
    have S5 := KaG.Same.tr S4 sc
    have efb5 := sc _ _ efb4
    have ec : upd H4 c (.lst ((ks.map Kd.name).map V.str)) c = some (.lst ((ks.map Kd.name).map V.str)) := upd_same
    generalize upd H4 c (.lst ((ks.map Kd.name).map V.str)) = H5 at ed5 KD5 S5 efb5 ec ⊢
    refine ⟨c, rfl, ⟨_, SqL.of ec⟩, for_list (K := K) (a := c) (xs := (ks.map Kd.name).map V.str) (fun j σ' J => (∃ x4 x5 x6 : Option V, σ' = [some (.ref b), some (.ref d), some (.ref fb), some (.ref d2), x4, x5, x6]) ∧ Same H J ∧ KdsD J d ks ts ∧ J c = some (.lst ((ks.map Kd.name).map V.str)) ∧ J fb = some (.lst (Fb.map V.str)) ∧ ∃ ls : List Addr, J d2 = some (.dK (kvsOf (ks.take j) ls)) ∧ Paired (fun (l : Addr) (k : Kd) => H l = none ∧ J l = some (.lst (ixV (liveIx ks (bearOf ks) k.name)))) ls (ks.take j)) ?_ ?_ ?_ ?_⟩
    · exact ⟨⟨_, _, _, rfl⟩, S5, KD5, ec, efb5, [], ed5, .nil⟩
    · rintro j σ' J _ ⟨_, _, _, e, _⟩
      exact SqL.of e
    · rintro j x σ' J hx ⟨⟨x4, x5, x6, rfl⟩, SJ, KJ, jc, jfb, ls, jd2, pl⟩
      rw [List.getElem?_map] at hx
      obtain ⟨n, hn, rfl⟩ := Option.map_eq_some_iff.mp hx
      rw [List.getElem?_map] at hn
      obtain ⟨kd, hkd, rfl⟩ := Option.map_eq_some_iff.mp hn
      have mk : kd ∈ ks := List.mem_of_getElem? hkd
      have hj : j < ks.length := (List.getElem?_eq_some_iff.mp hkd).1
      obtain ⟨tl, ev, gt, gas, y1, y2, y3⟩ := kvs_get nd KJ.t mk
      have lg := paired_len y3
      have g4 := (hO.num kd mk).2.2.2.2
      have ll := paired_len pl
      rw [List.length_take] at ll
      have tk : ks.take (j + 1) = ks.take j ++ [kd] := by rw [List.take_add_one, hkd]; rfl
      refine ⟨_, rfl, _, rfl, d, .ref tl, rfl, by rw [← ev]; exact DGet.k (k := Sum.inr kd.name) KJ.d, tl, _, 2, .ref gt, rfl, rfl, SqT.of y1, rfl, ?_⟩
      refine ⟨_, rfl, gt, _, rfl, .inr (SqT.of y2), _, rfl, by omega, by rw [List.length_map]; omega, fun D hD => lc_range (fun i J2 => Same J J2 ∧ J2 D = some (.lst (ixV (atsTo (grLive ks (bearOf ks)) kd.gs i)))) ?_ ?_ ?_⟩
      · exact ⟨same_upd hD, upd_same⟩
      · rintro i J2 hi ⟨S6, jD⟩
        rw [List.length_map, Int.toNat_natCast] at hi
        rw [Int.zero_add]
        obtain ⟨ga, hga⟩ : ∃ ga, gas[i]? = some ga := ⟨_, List.getElem?_eq_getElem hi⟩
        obtain ⟨gr, hgr, eGr⟩ := paired_at y3 hga
        have mg' := List.mem_of_getElem? hgr
        have le := atsTo_le (t := grLive ks (bearOf ks)) (xs := kd.gs) (n := i)
        refine ⟨rfl, _, rfl, _, rfl, _, rfl, _, rfl, gt, _, _, .ref ga, rfl, rfl, SqT.of (S6 _ _ y2), atI_nat (by rw [List.getElem?_map, hga]; rfl), ?_⟩
        refine ⟨d, fb, ga, rows, ks, ts, Fb, gr, rfl, KJ.same S6, hO, .inl (S6 _ _ jfb), Grd.ts eGr (TSame.of S6), hO.gr mk mg', fun J3 S7 => ⟨_, rfl, ?_⟩⟩
        rw [gcg]
        refine ite2 (fun hc => ?_) fun hc => ?_
        · refine ⟨_, rfl, _, S7 _ _ jD, small1000 (by rw [ixV_len]; omega), fun b u e => by rw [upd_ne (ne_of_none e hD)]; exact S7 _ _ (S6 b u e), ?_⟩
          rw [upd_same, atsTo_succ hgr, if_pos hc]
          unfold ixV
          rw [List.map_append]
          rfl
        · refine ⟨KaG.Same.tr S6 S7, ?_⟩
          rw [S7 _ _ jD, atsTo_succ hgr, if_neg hc, List.append_nil]
      · rintro J2 ⟨S6, jD⟩
        rw [List.length_map, Int.toNat_natCast, lg, atsTo_all] at jD
        have jd22 := S6 _ _ jd2
        have nDd : D ≠ d2 := fun z => by rw [z, jd2] at hD; cases hD
        refine ⟨_, rfl, _, rfl, d2, _, rfl, DPut.k (k := Sum.inr kd.name) jd22 (small1000 (by rw [kvs_len (by rw [List.length_take]; exact ll), List.length_take]; omega)), ?_⟩
        refine ⟨⟨_, _, _, rfl⟩, fun b u e => by rw [upd_ne (ne_of_none e d2H)]; exact S6 _ _ (SJ b u e), (KJ.same S6).dwr dd jd22, by rw [upd_ne cd2]; exact S6 _ _ jc, by rw [upd_ne (fun z => by rw [z, jd2] at jfb; cases jfb)]; exact S6 _ _ jfb, ls ++ [D], ?_, ?_⟩
        · rw [upd_same, putK_new, tk, kvs_snoc (by rw [List.length_take]; exact ll.symm)]
          refine kvs_no fun k hk e => ?_
          obtain ⟨i, hi⟩ := List.mem_iff_getElem?.mp hk
          have hij : i < j := by
            have := (List.getElem?_eq_some_iff.mp hi).1
            rw [List.length_take] at this
            omega
          rw [List.getElem?_take_of_lt hij] at hi
          have h1 : (ks.map Kd.name)[i]? = some k.name := by rw [List.getElem?_map, hi]; rfl
          have h2 : (ks.map Kd.name)[j]? = some k.name := by rw [List.getElem?_map, hkd, e]; rfl
          have := (List.getElem?_inj (List.getElem?_eq_some_iff.mp h1).1 nd).mp (h1.trans h2.symm)
          omega
        · rw [tk]
          refine paired_snoc ⟨same_non SJ D hD, ?_⟩ (Paired.mono' (fun l k h => ⟨h.1, by rw [upd_ne (fun z => by have := h.2; rw [z, jd2] at this; cases this)]; exact S6 _ _ h.2⟩) pl)
          rw [upd_ne nDd, jD]
          unfold liveIx
          rw [gsOf_eq nd mk]
    · rintro σ' J ⟨⟨x4, x5, x6, rfl⟩, SJ, KJ, jc, jfb, ls, jd2, pl⟩
      rw [List.length_map, List.length_map, List.take_length] at jd2 pl
      exact ⟨_, rfl, k d2 ls J SJ d2H ⟨jd2, pl⟩⟩
end
end KaG
set_option maxRecDepth 100000
set_option maxHeartbeats 4000000
namespace KaG
open PySem PySem.Spec PyProof.Rows L2 KaC
structure Pk (names : List Str) (J : Jn) (t j : Nat) (F : List Str) (n : Str) (xs : List Nat) (jk : Nat → List Str → Bool) (i : Nat) : Prop where
  ch : Chs names J F
  or : Clo names J F ∨ (t ≤ F.length ∧ (((∀ m ∈ names.take j, J m F = true → m ∈ F) ∧ ∀ k ∈ xs.take i, jk k F = true → n ∈ F) ∨ t + 1 ≤ F.length))
section
variable {names : List Str} {J : Jn} {t j i : Nat} {F : List Str} {n : Str} {xs : List Nat} {jk : Nat → List Str → Bool}
theorem Pk.add (mo : Mono J) (h : Pk names J t j F n xs jk i) (mn : n ∈ names) (nF : n ∉ F) (e : J n F = true) : Pk names J t j (F ++ [n]) n xs jk (i + 1) := by
  refine ⟨h.ch.add mo mn nF e, ?_⟩
  rcases h.or with c | ⟨c, _⟩
  · exact absurd (c n mn e) nF
  · exact .inr ⟨by rw [List.length_append]; omega, .inr (by rw [List.length_append]; show t + 1 ≤ F.length + 1; omega)⟩
theorem Pk.skip {k : Nat} (h : Pk names J t j F n xs jk i) (hx : xs[i]? = some k) (e : jk k F = true → n ∈ F) : Pk names J t j F n xs jk (i + 1) := by
  refine ⟨h.ch, h.or.imp id fun ⟨c, d⟩ => ⟨c, d.imp (fun y => ⟨y.1, fun x m => ?_⟩) id⟩⟩
  rw [List.take_add_one, hx] at m
  rcases List.mem_append.mp m with z | z
  · exact y.2 x z
  · rw [List.mem_singleton.mp (show x ∈ [k] from z)]
    exact e
theorem Pk.done (h : Pk names J t j F n xs jk xs.length) (hJ : J n F = true → ∃ k ∈ xs, jk k F = true) (hn : names[j]? = some n) : Pg names J t (j + 1) F := by
  refine ⟨h.ch, h.or.imp id fun ⟨c, d⟩ => ⟨c, d.imp (fun y m mm => ?_) id⟩⟩
  rw [List.take_add_one, hn] at mm
  rcases List.mem_append.mp mm with z | z
  · exact y.1 m z
  · rw [List.mem_singleton.mp (show m ∈ [n] from z)]
    intro e
    obtain ⟨k, mk, ek⟩ := hJ e
    exact y.2 k (by rw [List.take_length]; exact mk) ek
end
end KaG
set_option maxRecDepth 100000
set_option maxHeartbeats 4000000
set_option maxRecDepth 100000
set_option maxHeartbeats 4000000
set_option maxRecDepth 100000
set_option maxHeartbeats 2000000
namespace KaN
open PySem PyProof.Rows L2
section
variable {P : Program} {w : World}
/-- v is of no class statement, n levels down -/
def Plain (P : Program) (w : World) (n : Nat) (s : Shared) (v : Value) : Prop := ∀ (A : Around) (E : Value → Shared → Prop) (Q : Bool → Shared → Prop), Q false s → wpAny (model P w) A (ofAClassStatement n v) Q E s
theorem Plain.tuple {n m : Nat} {s : Shared} {a : Addr} {o : Obj} {vs : Array Value} (ho : s.heap.get? a = some o) (hc : o.cls = .type "tuple") (hd : o.data = .seq vs m) (hq : ∀ v ∈ vs.toList, Plain P w n s v) : Plain P w (n + 1) s (.ref a) := fun A E Q q => by
  have hT : s.TypeIs (.ref a) "tuple" := ⟨o, ho, hc⟩
  have e : (("tuple" : String) == "tuple") = true := by decide +kernel
  unfold ofAClassStatement; refine wpAny_bind (wpAny_typeOf hT ?_); dsimp only
  simp only [e, if_true, Bool.not_true, Bool.false_eq_true, if_false]; try refine wpAny_bind (wpAny_pure ?_)
  try simp only [Bool.not_true, Bool.false_eq_true, if_false, if_true]
  refine wpAny_bind (m := seqItems? (.ref a)) (wpAny_seqItems ho hd ?_); dsimp only
  refine wpAny_bind ?_; change wpAny _ _ (forIn vs _ _) _ _ s; rw [← Array.forIn_toList]
  refine wpAny_forIn_list _ (fun rest r s1 => (r.1 = none ∧ s1 = s) ∧ ∀ v ∈ rest, Plain P w n s v) _ ?_ ?_ _ _ ⟨⟨rfl, rfl⟩, hq⟩
  · rintro v rest r s1 ⟨⟨hr, rfl⟩, all⟩
    refine wpAny_bind (all v (List.mem_cons_self ..) _ _ _ ?_); simp only [Bool.false_eq_true, if_false]
    exact wpAny_pure ⟨⟨rfl, rfl⟩, fun u m => all u (List.mem_cons_of_mem _ m)⟩
  · rintro ⟨r1, r2⟩ s1 ⟨⟨hr, rfl⟩, _⟩
    simp only at hr; subst hr; exact wpAny_pure q
theorem Plain.flat {n : Nat} {s : Shared} {v : Value} (h : ∀ a, v ≠ .ref a) : Plain P w n s v := fun A E Q q => by
  have : ofAClassStatement n v = pure false := by
    cases n <;> cases v <;> first | rfl | exact absurd rfl (h _)
  rw [this]; exact wpAny_pure q
mutual
theorem plain_key : ∀ (k : NestedKey) (v : Value) (n : Nat) (s : Shared), NestedIs s.heap k v → k.depth ≤ n → Plain P w n s v
  | .none, _, n, s, x, _ => by cases x; exact .flat fun _ z => nomatch z
  | .num i, _, n, s, x, _ => by cases x <;> exact .flat fun _ z => nomatch z
  | .text y, _, n, s, x, _ => by cases x; exact .flat fun _ z => nomatch z
  | .tup ks, _, n, s, x, hn => by
    cases x with
    | tup g1 g2 g3 g4 =>
      rw [NestedKey.depth] at hn
      match n, hn with
      | n + 1, hn => exact .tuple g1 g2 g3 (plain_keys ks _ n s g4 (Nat.le_of_succ_le_succ hn))
theorem plain_keys : ∀ (ks : List NestedKey) (vs : List Value) (n : Nat) (s : Shared), NestedAll s.heap ks vs → NestedKey.depthAll ks ≤ n → ∀ v ∈ vs, Plain P w n s v
  | [], _, n, s, x, _, v, m => by cases x; cases m
  | k :: ks, _, n, s, x, hn, v, m => by
    cases x with
    | cons x1 x2 =>
      rw [NestedKey.depthAll] at hn
      rcases List.mem_cons.mp m with e | m
      · subst e; exact plain_key k _ n s x1 (Nat.le_trans (Nat.le_max_left ..) hn)
      · exact plain_keys ks _ n s x2 (Nat.le_trans (Nat.le_max_right ..) hn) v m
end
/-- a key of this kind at an address -/
abbrev IsN (h : Heap) (k : NestedKey) (a : Addr) : Prop := NestedIs h k (.ref a) ∧ k.depth ≤ 8
/-- a search among such keys shows nothing -/
theorem seen_key {A : Around} {E : Value → Shared → Prop} {s : Shared} {k : NestedKey} {b : Addr} {Q : Bool → Shared → Prop} (hk : IsN s.heap k b) {ys : List Value} (hy : ∀ y ∈ ys, ∃ k' c, y = Value.ref c ∧ IsN s.heap k' c) (q : Q false s) :
    wpAny (model P w) A (searchCouldBeSeen (.ref b) ys) Q E s := by
  unfold searchCouldBeSeen; refine wpAny_bind ?_
  refine wpAny_forIn_list _ (fun rest r s1 => (r.1 = none ∧ s1 = s) ∧ ∀ y ∈ rest, ∃ k' c, y = Value.ref c ∧ IsN s.heap k' c) _ ?_ ?_ _ _ ⟨⟨rfl, rfl⟩, hy⟩
  · rintro v rest r s1 ⟨⟨hr, rfl⟩, all⟩
    obtain ⟨k1, c, rfl, hc⟩ := all v (List.mem_cons_self ..)
    have on : ∀ y ∈ rest, ∃ k' c, y = Value.ref c ∧ IsN s1.heap k' c := fun u m => all u (List.mem_cons_of_mem _ m)
    dsimp only
    by_cases hv : (b == c || (carriedByValue (.ref b) && carriedByValue (.ref c))) = true
    · exact wp_if_pos hv (wpAny_pure ⟨⟨rfl, rfl⟩, on⟩)
    · refine wp_if_neg hv (wpAny_bind (quiet_key k _ 8 s1 hk.1 hk.2 _ _ _ ?_)); simp only [Bool.not_true, Bool.false_eq_true, if_false]
      refine wpAny_bind (quiet_key k1 _ 8 s1 hc.1 hc.2 _ _ _ ?_); simp only [Bool.not_true, Bool.false_eq_true, if_false]
      refine wpAny_bind (plain_key k _ 8 s1 hk.1 hk.2 _ _ _ ?_); simp only [Bool.false_eq_true, if_false]
      refine wpAny_bind (plain_key k1 _ 8 s1 hc.1 hc.2 _ _ _ ?_); simp only [Bool.false_eq_true, if_false]
      exact wpAny_pure ⟨⟨rfl, rfl⟩, on⟩
  · rintro ⟨r1, r2⟩ s1 ⟨⟨hr, rfl⟩, _⟩
    simp only at hr; subst hr; exact wpAny_pure q
end
end KaN
set_option maxRecDepth 100000
set_option maxHeartbeats 2000000
namespace KaN
open PySem PyProof.Rows L2
section
variable {P : Program} {w : World}
/-- hashed by value or not: some answer comes -/
def Told (P : Program) (w : World) (n : Nat) (s : Shared) (v : Value) : Prop := ∀ (A : Around) (E : Value → Shared → Prop) (Q : Bool → Shared → Prop), (∀ b, Q b s) → wpAny (model P w) A (hashByValue n v) Q E s
theorem Told.lit {n : Nat} {s : Shared} {v : Value} (b : Bool) (h : hashByValue n v = pure b) : Told P w n s v := fun A E Q q => by rw [h]; exact wpAny_pure (q b)
theorem Told.tuple {n m : Nat} {s : Shared} {a : Addr} {o : Obj} {vs : Array Value} (ho : s.heap.get? a = some o) (hc : o.cls = .type "tuple") (hd : o.data = .seq vs m) (hq : ∀ v ∈ vs.toList, Told P w n s v) : Told P w (n + 1) s (.ref a) := fun A E Q q => by
  have hT : s.TypeIs (.ref a) "tuple" := ⟨o, ho, hc⟩
  unfold hashByValue; refine wpAny_bind (wpAny_specialOf hT F.slot_tuple_hash.lookup ?_)
  change wpAny _ _ (seqItems? (.ref a) >>= _) _ _ s
  refine wpAny_bind (wpAny_seqItems ho hd ?_)
  refine wpAny_bind ?_; change wpAny _ _ (forIn vs _ _) _ _ s; rw [← Array.forIn_toList]
  refine wpAny_forIn_list _ (fun rest r s1 => (r.1 = none ∧ s1 = s) ∧ ∀ v ∈ rest, Told P w n s v) _ ?_ ?_ _ _ ⟨⟨rfl, rfl⟩, hq⟩
  · rintro v rest r s1 ⟨⟨hr, rfl⟩, all⟩
    refine wpAny_bind (all v (List.mem_cons_self ..) _ _ _ fun b => ?_)
    cases b
    · simp only [Bool.not_false, if_true]
      exact wpAny_pure (wpAny_pure (q false))
    · simp only [Bool.not_true, Bool.false_eq_true, if_false]
      exact wpAny_pure ⟨⟨rfl, rfl⟩, fun u m => all u (List.mem_cons_of_mem _ m)⟩
  · rintro ⟨r1, r2⟩ s1 ⟨⟨hr, rfl⟩, _⟩
    simp only at hr; subst hr; exact wpAny_pure (q true)
mutual
theorem told_key : ∀ (k : NestedKey) (v : Value) (n : Nat) (s : Shared), NestedIs s.heap k v → k.depth ≤ n → Told P w n s v
  | .none, _, n, s, x, _ => by cases x; exact .lit true (by cases n <;> rfl)
  | .num i, _, n, s, x, _ => by cases x <;> exact .lit true (by cases n <;> rfl)
  | .text y, _, n, s, x, _ => by cases x; exact .lit false (by cases n <;> rfl)
  | .tup ks, _, n, s, x, hn => by
    cases x with
    | tup g1 g2 g3 g4 =>
      rw [NestedKey.depth] at hn
      match n, hn with
      | n + 1, hn => exact .tuple g1 g2 g3 (told_keys ks _ n s g4 (Nat.le_of_succ_le_succ hn))
theorem told_keys : ∀ (ks : List NestedKey) (vs : List Value) (n : Nat) (s : Shared), NestedAll s.heap ks vs → NestedKey.depthAll ks ≤ n → ∀ v ∈ vs, Told P w n s v
  | [], _, n, s, x, _, v, m => by cases x; cases m
  | k :: ks, _, n, s, x, hn, v, m => by
    cases x with
    | cons x1 x2 =>
      rw [NestedKey.depthAll] at hn
      rcases List.mem_cons.mp m with e | m
      · subst e; exact told_key k _ n s x1 (Nat.le_trans (Nat.le_max_left ..) hn)
      · exact told_keys ks _ n s x2 (Nat.le_trans (Nat.le_max_right ..) hn) v m
end
abbrev Rw := Addr × NestedKey
def rws (w : World) (L : List Rw) : List (Int × Value) := L.map fun r => (r.2.hash w, Value.ref r.1)
abbrev hss (w : World) (L : List Rw) : List Int := L.map fun r => r.2.hash w
structure SetN (w : World) (h : Heap) (a : Addr) (L : List Rw) (es : Array (Int × Value)) (ep : Nat) (t : SetTable) : Prop where
  ob : ∃ o, h.get? a = some o ∧ o.ExactSet ∧ o.data = .set es ep t
  rows : es.toList = rws w L
  tab : TabOk t (hss w L)
  nd : (L.map (·.2)).Nodup
  keys : ∀ r ∈ L, IsN h r.2 r.1
  led : w.params.followText "set-order" = true ∨ t.led = true
  room : L.length * 5 < t.mask * 3
  few : L.length < 64
variable {A : Around} {E : Value → Shared → Prop} {s : Shared} {a : Addr} {L : List Rw} {es : Array (Int × Value)} {ep : Nat} {t : SetTable}
theorem rws_len (h : es.toList = rws w L) : es.size = L.length := by
  have := congrArg List.length h
  rwa [rws, Array.length_toList, List.length_map] at this
theorem SetN.fit {h : Heap} (R : SetN w h a L es ep t) : t.fits es.size = true := by
  have h1 := R.tab.sz; have h2 := rws_len R.rows; have h3 := R.few; have h4 := R.room
  rw [hss, List.length_map] at h1
  unfold SetTable.fits SetTable.fill
  simp only [R.tab.dm, Bool.and_eq_true, beq_iff_eq, decide_eq_true_eq]
  exact ⟨by omega, by show t.place.size + 0 ≤ t.mask; omega⟩
theorem SetN.row {h : Heap} (R : SetN w h a L es ep t) {i : Nat} {r : Rw} (e : L[i]? = some r) : es[i]? = some (r.2.hash w, Value.ref r.1) := by
  rw [← Array.getElem?_toList, R.rows, rws, List.getElem?_map, e]; rfl
theorem SetN.stays {h : Heap} (R : SetN w h a L es ep t) : ¬ t.gaveWay = true := by
  unfold SetTable.gaveWay
  rcases R.tab.mok with e | e | e <;> rw [e] <;> decide
abbrev begN (t : SetTable) (h : Int) (c : Nat) : SetTable.Probe := nth t.mask (runAt t.mask (SetTable.bits h % (t.mask + 1)) (SetTable.bits h)) c
theorem begN_clean (t : SetTable) (h : Int) (c : Nat) : (begN t h c).dummy = none := by
  have go : ∀ (n : Nat) (p : SetTable.Probe), p.dummy = none → (nth t.mask p n).dummy = none := by
    intro n; induction n with
    | zero => exact fun p e => e
    | succ n ih => exact fun p e => ih _ (by unfold adv; split <;> exact e)
  exact go c _ rfl
theorem begN_add (t : SetTable) (h : Int) (c q : Nat) : nth t.mask (begN t h c) q = begN t h (c + q) := (nth_add t.mask c _ q).symm
/-- the search, from the c-th step on -/
theorem look_from (R : SetN w s.heap a L es ep t) {x : Addr} {k : NestedKey} (hx : IsN s.heap k x) (hu : A.units + 8 < cLine) {K : Nat} (hKf : K < 10 * SetTable.turns t.mask)
    (hK : way t.mask (k.hash w) K ∉ t.place.toList) (hKb : ∀ c, c < K → way t.mask (k.hash w) c ∈ t.place.toList) {Q : SetFound → Shared → Prop}
    (yes : k ∈ L.map (·.2) → Q (.there none) s) (no : k ∉ L.map (·.2) → Q (.free (way t.mask (k.hash w) K) false) s) :
    ∀ (f c : Nat) (st : Option SetTable.Probe), st.getD (t.probeStart (k.hash w)) = begN t (k.hash w) c → c ≤ K → K - c < f →
      (∀ (i : Nat) (r : Rw), L[i]? = some r → r.2 = k → ∃ d, c ≤ d ∧ d < K ∧ t.place.toList[i]? = some (way t.mask (k.hash w) d)) →
      wpAny (model P w) A (setSearchFrom a (.ref x) (k.hash w) true f st) Q E s
  | 0, c, st, _, _, hf, _ => absurd hf (Nat.not_lt_zero _)
  | f + 1, c, st, hst, hc, hf, hre => by
    obtain ⟨o, g1, g2, g3⟩ := R.ob
    have hfit := R.fit
    have e1 : ∀ q, (nth t.mask (begN t (k.hash w) c) q).j = way t.mask (k.hash w) (c + q) := fun q => by rw [begN_add]
    have hmore : c + (K - c) = K := by omega
    rw [setSearchFrom_succ]
    refine wpAny_bind (wpAny_setState_of g1 g3 hfit ?_); dsimp only
    refine wp_if_neg R.stays ?_
    try refine wpAny_bind (wpAny_pure ?_)
    have at_ : ∀ (i : Nat) (r : Rw), L[i]? = some r → (fun i => (es[i]?.map (·.1)).getD 0) i = r.2.hash w := fun i r hr => by
      dsimp only; rw [R.row hr]; rfl
    rcases go_spec t R.tab.ris R.tab.dm (fun i => (es[i]?.map (·.1)).getD 0) (k.hash w) (10 * SetTable.turns t.mask) (K - c) (begN t (k.hash w) c) (begN_clean ..) (by omega)
      (fun q hq => by rw [e1]; exact hKb _ (by omega)) (by rw [e1, hmore]; exact hK) with ⟨q, i, hq, hi, _, hno, hpr⟩ | ⟨hno, hpr⟩
    · have hp : t.probe (fun i => (es[i]?.map (·.1)).getD 0) (k.hash w) (st.getD (t.probeStart (k.hash w))) = some (.candidate (way t.mask (k.hash w) (c + q)) i (begN t (k.hash w) (c + (q + 1)))) := by
        rw [hst, ← e1, ← begN_add]; exact hpr
      rw [hp]; dsimp only; rw [e1] at hi
      have hil : i < L.length := by
        have h1 := (List.getElem?_eq_some_iff.mp hi).1; have h2 := R.tab.sz
        rw [hss, List.length_map] at h2; rw [Array.length_toList] at h1; omega
      obtain ⟨r, hr⟩ : ∃ r, L[i]? = some r := ⟨_, List.getElem?_eq_getElem hil⟩
      have hm := List.mem_of_getElem? hr
      have hrk := R.keys r hm
      have rest : wpAny (model P w) A (searchRest a (.ref x) (k.hash w) true f es t (way t.mask (k.hash w) (c + q)) i (begN t (k.hash w) (c + (q + 1)))) Q E s := by
        unfold searchRest; rw [R.row hr]; dsimp only
        refine wpAny_bind (wpAny_holding (eqAt_key r.2 k A s _ _ hrk.1 hx.1 (by have := hrk.2; omega) _ _ _ _ ?_))
        refine wpAny_bind (wpAny_setState_of g1 g3 hfit ?_); dsimp only
        rw [← NestedKey.decide_eq]
        by_cases hkk : r.2 = k
        · refine wp_if_pos (by simp [hkk]) (wpAny_pure (yes (List.mem_map.mpr ⟨r, hm, hkk⟩)))
        · refine wp_if_neg (by simp [hkk]) ?_
          try refine wpAny_bind (wpAny_pure ?_)
          rw [sameMem]; dsimp only
          have hsl := slot_live R.tab.ris hi
          simp only [if_true, hsl, R.row hr]
          refine wpAny_bind (wpAny_isSame_ref_self (wpAny_bind (wpAny_pure ?_))); simp only [if_true]
          refine wp_if_neg (by simp [hkk]) ?_
          refine look_from R hx hu hKf hK hKb yes no f (c + (q + 1)) _ rfl (by omega) (by omega) fun j r2 hj hk2 => ?_
          obtain ⟨d, d1, d2, d3⟩ := hre j r2 hj hk2
          refine ⟨d, ?_, d2, d3⟩
          rcases Nat.lt_trichotomy d (c + q) with z | z | z
          · exact absurd ((at_ j r2 hj).trans (by rw [hk2])) (hno (d - c) j (by omega) (by rw [e1, show c + (d - c) = d by omega]; exact d3))
          · rw [z] at d3
            have q1 := slot_live R.tab.ris d3
            rw [hsl] at q1; injection q1 with q1
            rw [← q1, hr] at hj
            exact absurd ((congrArg Prod.snd (Option.some.inj hj)).trans hk2) hkk
          · omega
      by_cases hl : t.led = true
      · refine wp_if_neg (by simp [hl]) ?_
        try refine wpAny_bind (wpAny_pure ?_)
        exact rest
      · refine wp_if_pos (by simp [hl]) (wpAny_bind (seen_key hx (fun y hy => ?_) ?_))
        · obtain ⟨z, hz, rfl⟩ := List.mem_map.mp hy
          have hz2 : z ∈ es.toList := by
            have : z ∈ es ∧ z.1 = k.hash w := by simpa using hz
            simpa using this.1
          rw [R.rows] at hz2
          obtain ⟨r2, hr2, rfl⟩ := List.mem_map.mp hz2
          exact ⟨r2.2, r2.1, rfl, R.keys r2 hr2⟩
        · refine wp_if_neg (by decide) ?_
          try refine wpAny_bind (wpAny_pure ?_)
          exact rest
    · have hp : t.probe (fun i => (es[i]?.map (·.1)).getD 0) (k.hash w) (st.getD (t.probeStart (k.hash w))) = some (.empty (way t.mask (k.hash w) K) none) := by
        have e2 : way t.mask (k.hash w) K = (nth t.mask (begN t (k.hash w) c) (K - c)).j := by rw [e1, hmore]
        rw [hst, e2]; exact hpr
      rw [hp]; dsimp only
      refine wpAny_pure (no fun hm => ?_)
      obtain ⟨r2, hr2, hk2⟩ := List.mem_map.mp hm
      obtain ⟨j, hj⟩ := List.mem_iff_getElem?.mp hr2
      obtain ⟨d, d1, d2, d3⟩ := hre j r2 hj hk2
      exact absurd ((at_ j r2 hj).trans (by rw [hk2])) (hno (d - c) j (by omega) (by rw [e1, show c + (d - c) = d by omega]; exact d3))
/-- the search, whole -/
theorem look_at (R : SetN w s.heap a L es ep t) {x : Addr} {k : NestedKey} (hx : IsN s.heap k x) (hu : A.units + 8 < cLine) {Q : SetFound → Shared → Prop} (yes : k ∈ L.map (·.2) → Q (.there none) s)
    (no : ∀ K, k ∉ L.map (·.2) → way t.mask (k.hash w) K ∉ t.place.toList → (∀ c, c < K → way t.mask (k.hash w) c ∈ t.place.toList) → Q (.free (way t.mask (k.hash w) K) false) s) :
    wpAny (model P w) A (setSearch a (.ref x) (k.hash w) true) Q E s := by
  have hfew := R.few
  obtain ⟨K, hKf, hK, hKb⟩ := R.tab.first (by have := R.room; rw [hss, List.length_map]; omega) (k.hash w)
  have big : K < 100000 := by
    have : SetTable.turns t.mask ≤ 200 := by rcases R.tab.mok with e | e | e <;> rw [e] <;> decide
    omega
  unfold setSearch
  refine look_from R hx hu hKf hK hKb yes (fun hn => no K hn hK hKb) 100000 0 none rfl (Nat.zero_le _) (by omega) fun i r hi hk => ?_
  have h1 : (hss w L)[i]? = some (k.hash w) := by rw [hss, List.getElem?_map, hi, ← hk]; rfl
  have h2 : i < t.place.toList.length := by
    have z := (List.getElem?_eq_some_iff.mp h1).1
    rw [Array.length_toList, R.tab.sz]; exact z
  obtain ⟨d, hd, e⟩ := R.tab.before hK h1 (List.getElem?_eq_getElem h2)
  exact ⟨d, Nat.zero_le _, hd, by rw [List.getElem?_eq_getElem h2, e]⟩
theorem isN_same {h h' : Heap} {k : NestedKey} {b : Addr} {o : Obj} (hb : IsN h k b) (ho : h.get? a = some o) (hd : o.data = .set es ep t) (sb : Heap.SameBut a h h') : IsN h' k b :=
  ⟨NestedIs.at (fun c ob vs n hc hq => (sb.2 c fun z => by subst z; rw [ho] at hc; cases hc; rw [hd] at hq; cases hq).trans hc) k _ hb.1, hb.2⟩
theorem isN_keep {h h' : Heap} {k : NestedKey} {b : Addr} (hb : IsN h k b) (kp : ∀ c o, h.get? c = some o → h'.get? c = some o) : IsN h' k b :=
  ⟨NestedIs.at (fun c ob vs n hc _ => kp c ob hc) k _ hb.1, hb.2⟩
/-- the rows in another order -/
theorem rws_order (L : List Rw) (es : Array (Int × Value)) (order : Array Nat) (hr : es.toList = rws w L) (hp : order.toList.Perm (List.range L.length)) :
    ∃ L2, (order.filterMap (es[·]?)).toList = rws w L2 ∧ L2.Perm L ∧ hss w L2 = order.toList.map fun i => (es.map (·.1)).getD i 0 := by
  have row : ∀ i (h : i < L.length), es[i]? = some ((L[i]).2.hash w, Value.ref (L[i]).1) := fun i h => by
    rw [← Array.getElem?_toList, hr, rws, List.getElem?_map, List.getElem?_eq_getElem h]; rfl
  have key : ∀ l : List Nat, (∀ i ∈ l, i < L.length) → l.filterMap (fun i => es[i]?) = rws w (l.filterMap fun i => L[i]?) ∧ hss w (l.filterMap fun i => L[i]?) = l.map fun i => (es.map (·.1)).getD i 0 := by
    intro l
    induction l with
    | nil => intro _; exact ⟨rfl, rfl⟩
    | cons i l ih =>
      intro hl
      have hi := hl i List.mem_cons_self
      obtain ⟨e1, e2⟩ := ih fun j hj => hl j (List.mem_cons_of_mem _ hj)
      have e3 : (es.map (·.1)).getD i 0 = (L[i]).2.hash w := by
        have e4 : (es.map (·.1))[i]? = some ((L[i]).2.hash w) := by rw [Array.getElem?_map, row i hi]; rfl
        simp [Array.getD_eq_getD_getElem?, e4]
      rw [List.filterMap_cons_some (row i hi), List.filterMap_cons_some (List.getElem?_eq_getElem hi), e1]
      refine ⟨rfl, ?_⟩
      rw [List.map_cons, e3, ← e2]
      rfl
  have all : (List.range L.length).filterMap (fun i => L[i]?) = L := by
    refine List.ext_getElem? fun j => ?_
    have go : ∀ n, n ≤ L.length → (List.range n).filterMap (fun i => L[i]?) = L.take n := by
      intro n
      induction n with
      | zero => intro _; rfl
      | succ n ih =>
        intro hn
        rw [List.range_succ, List.filterMap_append, ih (Nat.le_of_lt hn), List.take_add_one, List.getElem?_eq_getElem hn, List.filterMap_cons_some (List.getElem?_eq_getElem hn)]
        rfl
    rw [go L.length (Nat.le_refl _), List.take_length]
  obtain ⟨e1, e2⟩ := key order.toList fun i hi => List.mem_range.mp (hp.mem_iff.mp hi)
  refine ⟨order.toList.filterMap fun i => L[i]?, by first | (rw [Array.toList_filterMap]; exact e1) | simpa using e1, ?_, e2⟩
  have h := hp.filterMap fun i => L[i]?
  rw [all] at h
  exact h
/-- the table laid out larger -/
theorem relayN {o : Obj} (g1 : s.heap.get? a = some o) (g2 : o.ExactSet) (g3 : o.data = .set es ep t) (hr : es.toList = rws w L) (hsz : t.place.size = es.size) (hdm : t.dummies = #[]) (hfl : es.size ≤ t.mask)
    (nd : (L.map (·.2)).Nodup) (keys : ∀ r ∈ L, IsN s.heap r.2 r.1) (ld : w.params.followText "set-order" = true ∨ t.led = true) (few : L.length < 64) {wanted M : Nat}
    (hw : SetTable.sizeAbove wanted - 1 = M) (hM : MaskOk M) (hw2 : SetTable.sizeAbove wanted ≤ 128) (hn : L.length * 5 < M * 3) {Q : Unit → Shared → Prop}
    (hQ : ∀ h' L' es' ep' t', Heap.SameBut a s.heap h' → SetN w h' a L' es' ep' t' → L'.Perm L → Q () { s with heap := h' }) : wpAny (model P w) A (setRelay a wanted) Q E s := by
  have hsl := rws_len hr
  have hfit : t.fits es.size = true := by
    unfold SetTable.fits SetTable.fill
    rw [hdm, Bool.and_eq_true, beq_iff_eq, decide_eq_true_eq]
    exact ⟨hsz, by show t.place.size + 0 ≤ t.mask; omega⟩
  obtain ⟨t', order, e, hp, T, em, el, _, _⟩ := relaid_ok t (hs := es.map (·.1)) (wanted := wanted) hw hM (by rw [Array.size_map, hsl]; omega)
  rw [Array.size_map, hsl] at hp
  obtain ⟨L2, r1, r2, r3⟩ := rws_order L es order hr hp
  rw [← r3] at T
  have hs2 : (order.filterMap (es[·]?)).size = es.size := by rw [rws_len r1, r2.length_eq, hsl]
  rw [setRelay_eq]
  refine wpAny_bind (wpAny_setState_of g1 g3 hfit ?_)
  dsimp only
  refine wp_if_neg (by rw [sizeLine_eq]; omega) ?_
  try refine wpAny_bind (wpAny_pure ?_)
  rw [e]
  dsimp only
  refine wpAny_bind (wp_if_neg (by rw [hs2]; simp) ?_)
  try refine wpAny_bind (wpAny_pure ?_)
  refine wpAny_pure ?_
  dsimp only
  refine wpAny_storeSet_of g1 g3 ?_ (by rw [hs2, hsl, sizeLine_eq]; omega)
  have sb : Heap.SameBut a s.heap (s.heap.update a (Obj.putSet (order.filterMap (es[·]?)) t')) := Heap.SameBut.update ..
  exact hQ _ L2 _ (ep + 1) t' sb ⟨⟨_, store_at g1 g3, ⟨g2.1, g2.2.1, g2.2.2⟩, rfl⟩, r1, T, (r2.map (·.2)).nodup_iff.mpr nd, fun r m => isN_same (keys r (r2.mem_iff.mp m)) g1 g3 sb, by rw [el]; exact ld, by rw [r2.length_eq, em]; exact hn, by rw [r2.length_eq]; exact few⟩ r2
/-- one is added -/
theorem put_at (R : SetN w s.heap a L es ep t) {x : Addr} {k : NestedKey} (hx : IsN s.heap k x) (hu : A.units + 8 < cLine) (hfew : L.length + 1 < 64) {Q : Bool → Shared → Prop}
    (hQ : ∀ b h' L' es' ep' t', Heap.SameBut a s.heap h' → SetN w h' a L' es' ep' t' → (k ∈ L.map (·.2) → L' = L) → (k ∉ L.map (·.2) → L'.Perm ((x, k) :: L)) → Q b { s with heap := h' }) :
    wpAny (model P w) A (setAddHashed a (.ref x) (k.hash w)) Q E s := by
  obtain ⟨o, g1, g2, g3⟩ := R.ob
  have hfit := R.fit; have hsl := rws_len R.rows; have hroom := R.room
  unfold setAddHashed; refine wpAny_holding ?_
  rw [show (100000 : Nat) = 99999 + 1 from rfl, setAddHashedIn_succ]
  refine wpAny_bind (wpAny_setState_of g1 g3 hfit ?_); dsimp only
  refine wp_if_neg (by simp [byScan, Value.scannable]) ?_
  try refine wpAny_bind (wpAny_pure ?_)
  refine wpAny_bind (look_at R hx hu (fun hm => ?_) fun K hm hK hb => ?_)
  · dsimp only
    exact wpAny_pure (hQ false s.heap L es ep t (Heap.SameBut.refl a s.heap) R (fun _ => rfl) fun z => absurd hm z)
  · dsimp only
    refine wpAny_bind (wpAny_setState_of g1 g3 hfit ?_); dsimp only
    obtain ⟨q1, q2, q3, q4, q5, q6, q7, q8, q9⟩ := R.tab.put hK hb
    generalize hpt : t.put (way t.mask (k.hash w) K) = pt at q1 q3 q4 q5 q6 q7 q8 q9 ⊢
    obtain ⟨t1, p⟩ := pt
    dsimp only at q1 q3 q4 q5 q6 q7 q8 q9 ⊢
    subst q1
    have last : ∀ byv : Bool, wpAny (model P w) A (do
        let t2 := if byv then t1 else { t1 with plain := false }
        storeSet a (SetTable.insertAt es (SetTable.below t.place (way t.mask (k.hash w) K)) (k.hash w, Value.ref x)) t2
        if !false && t2.tooFull then setRelay a (SetTable.grown (es.size + 1))
        pure true) Q E s := by
      intro byv
      have T2 : TabOk (if byv then t1 else { t1 with plain := false }) ((hss w L).take (SetTable.below t.place (way t.mask (k.hash w) K)) ++ k.hash w :: (hss w L).drop (SetTable.below t.place (way t.mask (k.hash w) K))) := by
        cases byv
        · exact ⟨q3.ris, q3.dm, q3.sz, q3.mok, q3.bd, q3.reach⟩
        · exact q3
      have l2 : (if byv then t1 else { t1 with plain := false }).led = t.led := by cases byv <;> exact q5
      have m2 : (if byv then t1 else { t1 with plain := false }).mask = t.mask := by cases byv <;> exact q4
      have f2 : (if byv then t1 else { t1 with plain := false }).fill = (hss w L).length + 1 := by cases byv <;> exact q9
      dsimp only
      generalize (if byv then t1 else { t1 with plain := false }) = t2 at T2 l2 m2 f2 ⊢
      have hin : (SetTable.insertAt es (SetTable.below t.place (way t.mask (k.hash w) K)) (k.hash w, Value.ref x)).toList = rws w (L.take (SetTable.below t.place (way t.mask (k.hash w) K)) ++ (x, k) :: L.drop (SetTable.below t.place (way t.mask (k.hash w) K))) := by
        rw [SetTable.toList_insertAt, R.rows]; unfold rws
        rw [List.map_append, List.map_cons, List.map_take, List.map_drop]
      have hhs : hss w (L.take (SetTable.below t.place (way t.mask (k.hash w) K)) ++ (x, k) :: L.drop (SetTable.below t.place (way t.mask (k.hash w) K))) = (hss w L).take (SetTable.below t.place (way t.mask (k.hash w) K)) ++ k.hash w :: (hss w L).drop (SetTable.below t.place (way t.mask (k.hash w) K)) := by
        unfold hss
        rw [List.map_append, List.map_cons, List.map_take, List.map_drop]
      rw [← hhs] at T2
      have pm := put_perm L (SetTable.below t.place (way t.mask (k.hash w) K)) (x, k)
      generalize SetTable.insertAt es (SetTable.below t.place (way t.mask (k.hash w) K)) (k.hash w, Value.ref x) = es1 at hin ⊢
      generalize L.take (SetTable.below t.place (way t.mask (k.hash w) K)) ++ (x, k) :: L.drop (SetTable.below t.place (way t.mask (k.hash w) K)) = L1 at pm T2 hin
      have hlen : L1.length = L.length + 1 := pm.length_eq
      have hes := rws_len hin
      refine wpAny_bind (wpAny_storeSet_of g1 g3 ?_ (by rw [hes, sizeLine_eq]; omega))
      have sb : Heap.SameBut a s.heap (s.heap.update a (Obj.putSet es1 t2)) := Heap.SameBut.update ..
      have ho1 := store_at (es' := es1) (t' := t2) g1 g3
      generalize s.heap.update a (Obj.putSet es1 t2) = h1 at sb ho1 ⊢
      have ld2 : w.params.followText "set-order" = true ∨ t2.led = true := by rw [l2]; exact R.led
      have nd1 : (L1.map (·.2)).Nodup := (pm.map (·.2)).nodup_iff.mpr (by rw [List.map_cons]; exact List.nodup_cons.mpr ⟨hm, R.nd⟩)
      have keys1 : ∀ r ∈ L1, IsN h1 r.2 r.1 := fun r hr => by
        rcases List.mem_cons.mp (pm.mem_iff.mp hr) with e | hr
        · rw [e]; exact isN_same hx g1 g3 sb
        · exact isN_same (R.keys r hr) g1 g3 sb
      by_cases hf : t2.tooFull = true
      · have hfull : (L.length + 1) * 5 ≥ t.mask * 3 := by
          have h := hf
          unfold SetTable.tooFull at h
          rw [decide_eq_true_eq, f2, m2, hss, List.length_map] at h
          exact h
        have hsz1 : t2.place.size = es1.size := by
          have h := T2.sz
          rw [hss, List.length_map] at h
          rw [h, hes]
        have two : (t.mask = 7 ∧ L.length = 4) ∨ (t.mask = 31 ∧ L.length = 18) := by
          rcases R.tab.mok with e | e | e
          · left; rw [e] at hfull hroom; exact ⟨e, by omega⟩
          · right; rw [e] at hfull hroom; exact ⟨e, by omega⟩
          · exfalso; rw [e] at hfull; omega
        have go : ∀ M, SetTable.sizeAbove (SetTable.grown (L.length + 1)) - 1 = M → MaskOk M → SetTable.sizeAbove (SetTable.grown (L.length + 1)) ≤ 128 → (L.length + 1) * 5 < M * 3 →
            wpAny (model P w) A (setRelay a (SetTable.grown (L.length + 1))) (fun _ s' => wpAny (model P w) A (pure true) Q E s') E { s with heap := h1 } := fun M h1' h2' h3' h4' => by
          refine relayN (s := { s with heap := h1 }) ho1 ⟨g2.1, g2.2.1, g2.2.2⟩ rfl hin hsz1 T2.dm (by rw [hes, m2]; rcases two with ⟨e, e2⟩ | ⟨e, e2⟩ <;> omega) nd1 keys1 ld2 (by rw [hlen]; exact hfew) h1' h2' h3' (by rw [hlen]; exact h4') ?_
          intro h2 L2 es2 ep2 t3 sb2 R2 pm2
          exact wpAny_pure (hQ true h2 L2 es2 ep2 t3 (sb.trans sb2) R2 (fun z => absurd z hm) fun _ => pm2.trans pm)
        have gone : wpAny (model P w) A (setRelay a (SetTable.grown (L.length + 1))) (fun _ s' => wpAny (model P w) A (pure true) Q E s') E { s with heap := h1 } := by
          rcases two with ⟨_, e2⟩ | ⟨_, e2⟩
          · exact go 31 (by rw [e2, size_20]) (.inr (.inl rfl)) (by rw [e2, size_20]; decide) (by omega)
          · exact go 127 (by rw [e2, size_76]) (.inr (.inr rfl)) (by rw [e2, size_76]; decide) (by omega)
        rw [hsl]
        first
          | (refine wpAny_bind ?_; refine wp_if_pos (by simp [hf]) ?_; exact gone)
          | (refine wp_if_pos (by simp [hf]) ?_; refine wpAny_bind ?_; exact gone)
      · have nf : ¬ (!false && t2.tooFull) = true := by simp [hf]
        have fine : SetN w h1 a L1 es1 (ep + 1) t2 := ⟨⟨_, ho1, ⟨g2.1, g2.2.1, g2.2.2⟩, rfl⟩, hin, T2, nd1, keys1, ld2, by
          have h := hf
          unfold SetTable.tooFull at h
          rw [decide_eq_true_eq, f2, m2, hss, List.length_map] at h
          rw [hlen, m2]
          omega, by omega⟩
        first
          | refine wp_if_neg nf ?_
          | (refine wpAny_bind ?_; refine wp_if_neg nf ?_; refine wpAny_pure ?_)
        try refine wpAny_bind (wpAny_pure ?_)
        exact wpAny_pure (hQ true h1 L1 es1 (ep + 1) t2 sb fine (fun z => absurd z hm) fun _ => pm)
    by_cases hp1 : t1.plain = true
    · first
        | (refine wpAny_bind ?_; refine wp_if_pos hp1 ?_; refine told_key k _ 8 s hx.1 hx.2 _ _ _ fun b => ?_)
        | refine wp_if_pos hp1 (wpAny_bind (told_key k _ 8 s hx.1 hx.2 _ _ _ fun b => ?_))
      exact last b
    · first
        | (refine wpAny_bind ?_; refine wp_if_neg hp1 ?_; refine wpAny_pure ?_)
        | refine wp_if_neg hp1 (wpAny_bind (wpAny_pure ?_))
      exact last true
end
end KaN
set_option maxRecDepth 100000
set_option maxHeartbeats 3200000
namespace KaN
open PySem PyProof.Rows L2
section
variable {P : Program} {w : World} {A : Around} {E : Value → Shared → Prop} {s : Shared}
/-- an empty set, just made -/
abbrev set0 (w : World) : Obj := { cls := .type "set", dict := none, data := .set #[] 0 (.fresh 0 0 (!w.params.followText "set-order")) }
theorem SetN.new {h : Heap} {a : Addr} (ho : h.get? a = some (set0 w)) : SetN w h a [] #[] 0 (.fresh 0 0 (!w.params.followText "set-order")) where
  ob := ⟨_, ho, ⟨rfl, rfl, rfl⟩, rfl⟩
  rows := rfl
  tab := ⟨List.Pairwise.nil, rfl, rfl, .inl rfl, fun x hx => (by cases hx), fun i h j hi => (by simp at hi)⟩
  nd := List.nodup_nil
  keys := fun r hr => nomatch hr
  led := by
    by_cases c : w.params.followText "set-order" = true
    · exact .inl c
    · exact .inr (by show (!w.params.followText "set-order") = true; simpa using c)
  room := by show 0 * 5 < 7 * 3; decide
  few := by decide
theorem SetN.held {h h' : Heap} {a : Addr} {L : List Rw} {es : Array (Int × Value)} {ep : Nat} {t : SetTable} (R : SetN w h a L es ep t) (ha : ∀ o, h.get? a = some o → h'.get? a = some o) (hk : ∀ r ∈ L, IsN h' r.2 r.1) : SetN w h' a L es ep t :=
  let ⟨o, g, r⟩ := R.ob; ⟨⟨o, ha o g, r⟩, R.rows, R.tab, R.nd, hk, R.led, R.room, R.few⟩
/-- what of the first i items is in -/
structure In_ (ks : List Rw) (i : Nat) (L : List Rw) : Prop where
  sub : ∀ r ∈ L, r ∈ ks.take i
  all : ∀ r ∈ ks.take i, r.2 ∈ L.map (·.2)
  len : L.length ≤ i
theorem In_.nil (ks : List Rw) : In_ ks 0 [] where
  sub := fun _ h => (by cases h)
  all := fun _ h => (by simp at h)
  len := Nat.le_refl _
theorem In_.next {ks L L' : List Rw} {i : Nat} {x : Rw} (g : In_ ks i L) (e : ks[i]? = some x) (c1 : x.2 ∈ L.map (·.2) → L' = L) (c2 : x.2 ∉ L.map (·.2) → L'.Perm (x :: L)) : In_ ks (i + 1) L' := by
  have tk : ks.take (i + 1) = ks.take i ++ [x] := by rw [List.take_succ, e]; rfl
  have up : ∀ r ∈ L, r ∈ ks.take (i + 1) := fun r h => by rw [tk]; exact List.mem_append_left _ (g.sub r h)
  rcases Classical.em (x.2 ∈ L.map (·.2)) with c | c
  · rw [c1 c]
    refine ⟨up, fun r h => ?_, Nat.le_succ_of_le g.len⟩
    rw [tk] at h
    rcases List.mem_append.mp h with z | z
    · exact g.all r z
    · rw [List.mem_singleton.mp z]; exact c
  · have pm := c2 c
    refine ⟨fun r h => ?_, fun r h => ?_, by rw [pm.length_eq]; exact Nat.succ_le_succ g.len⟩
    · rcases List.mem_cons.mp (pm.mem_iff.mp h) with z | z
      · rw [z, tk]; exact List.mem_append_right _ (List.mem_singleton.mpr rfl)
      · exact up r z
    · refine (pm.map (·.2)).mem_iff.mpr ?_
      rw [tk] at h
      rcases List.mem_append.mp h with z | z
      · exact List.mem_cons_of_mem _ (g.all r z)
      · rw [List.mem_singleton.mp z]; exact List.mem_cons_self
theorem fill_loop {I : Addr} {fp wr : List Addr} {G : Array GenState → Array GenState → Prop} {n : Nat} {Pv : Nat → Value → Prop} {St : Nat → Shared → Prop} {R : Result → Shared → Prop}
    (W : WalksS P w A.in1 I fp wr G n Pv St) (S : Addr) (hSf : S ∉ fp) (ks : List Rw) (hn : n = ks.length) (h4 : ks.length < 64) (hval : ∀ i v, Pv i v → ∃ r, ks[i]? = some r ∧ v = .ref r.1)
    (h0 : Heap) (hk : ∀ r ∈ ks, IsN h0 r.2 r.1) (hS0 : h0.get? S = none) (hw0 : ∀ b ∈ wr, h0.get? b = none) (hu : A.units + 12 < cLine) :
    ∀ (d i : Nat) (s : Shared), n - i = d → i ≤ n → St i s → (∀ b o, h0.get? b = some o → s.heap.get? b = some o) → (∃ L es ep t, SetN w s.heap S L es ep t ∧ In_ ks i L) →
      (∀ s' L es ep t, Moved (S :: wr) G s s' → SetN w s'.heap S L es ep t → In_ ks n L → (∀ b o, h0.get? b = some o → s'.heap.get? b = some o) → R (.ok (.ret .none)) s') →
      codeAny (model P w) A (.builtin "set.update.loop" ⟨[.ref S, .ref I], []⟩) R s := by
  have hSw : S ∉ wr := fun h => hSf (W.sub _ h)
  have wide : ∀ b ∈ wr, b ∈ S :: wr := fun b m => List.mem_cons_of_mem _ m
  have on : ∀ {s s' : Shared}, Moved wr G s s' → (∀ b o, h0.get? b = some o → s.heap.get? b = some o) → ∀ b o, h0.get? b = some o → s'.heap.get? b = some o := fun mv kp b o e =>
    mv.heap b o (fun m => by rw [hw0 b m] at e; cases e) (kp b o e)
  have inu : A.in1.units + 8 < cLine := by simp only [Around.in1_units]; omega
  intro d
  induction d with
  | zero =>
    intro i s e hi st kp ⟨L, es, ep, t, hS, g⟩ hR
    obtain rfl : i = n := by omega
    refine codeAny_builtin F.entry_set_update_loop ?_
    rw [Around.under_plainId F.plain_set_update_loop _]
    change wpAny _ A.in1 (pyNext (.ref I) >>= _) _ _ s
    refine wpAny_bind (W.done s _ _ st fun s2 mv => ?_)
    change wpAny _ A.in1 (ret Value.none) _ _ s2
    have kp2 := on mv kp
    exact wpAny_pure (hR s2 L es ep t (mv.mono wide) (hS.held (fun o z => mv.heap S o hSw z) fun r hr => isN_keep (hk r (List.mem_of_mem_take (g.sub r hr))) kp2) g kp2)
  | succ d ih =>
    intro i s e hi st kp ⟨L, es, ep, t, hS, g⟩ hR
    have hlt : i < n := by omega
    refine codeAny_builtin F.entry_set_update_loop ?_
    rw [Around.under_plainId F.plain_set_update_loop _]
    change wpAny _ A.in1 (pyNext (.ref I) >>= _) _ _ s
    refine wpAny_bind (W.item i s _ _ hlt st fun v s2 hP st2 mv => ?_)
    obtain ⟨r, hr, rfl⟩ := hval i v hP
    have kp2 := on mv kp
    have S2 : SetN w s2.heap S L es ep t := hS.held (fun o z => mv.heap S o hSw z) fun q hq => isN_keep (hk q (List.mem_of_mem_take (g.sub q hq))) kp2
    have hx : IsN s2.heap r.2 r.1 := isN_keep (hk r (List.mem_of_getElem? hr)) kp2
    change wpAny _ A.in1 (holding [Value.ref r.1] (setAdd S (.ref r.1)) >>= _) _ _ s2
    refine wpAny_bind (wpAny_holding ?_); unfold setAdd; refine wpAny_holding ?_
    refine wpAny_bind (pyHash_key r.2 _ A.in1 s2 _ hx.1 (by have := hx.2; omega) ?_)
    refine put_at (s := { s2 with toks := s2.toks + r.2.draws }) S2 hx inu (by have := g.len; omega) fun b h' L' es' ep' t' sb SN c1 c2 => ?_
    have kp3 : ∀ b o, h0.get? b = some o → h'.get? b = some o := fun b o z => (sb.2 b fun y => by rw [y, hS0] at z; cases z).trans (kp2 b o z)
    refine wpAny_pure ⟨plainId_quiet F.plain_set_update_loop _, ih (i + 1) _ (by omega) hlt (W.frame _ s2 _ _ st2 (Nat.le_add_right _ _) fun b m o z => ?_) kp3 ⟨L', es', ep', t', SN, g.next hr c1 c2⟩ fun s3 L3 es3 ep3 t3 mv3 S3 g3 kp4 => ?_⟩
    · exact (sb.2 b fun y : b = S => hSf (y ▸ m)).trans z
    · exact hR s3 L3 es3 ep3 t3 (Moved.trans W.gtrans ((mv.mono wide).then_heap (Nat.le_add_right _ _) fun b o m z => (sb.2 b fun y : b = S => m (y ▸ List.mem_cons_self)).trans z) mv3) S3 g3 kp4
/-- set(xs), xs a list of at most four such keys -/
theorem call_set_keys {l : Addr} {items : Array Value} (ks : List Rw) {Q : Value → Shared → Prop} (hh : A.handled = none) (hl : s.heap.IsList l items) (hit : items.toList = ks.map fun r => Value.ref r.1)
    (hk : ∀ r ∈ ks, IsN s.heap r.2 r.1) (h4 : ks.length < 64) (hu : A.units + 20 < cLine)
    (h : ∀ (h' : Heap) (tk : Nat) L es ep t, SetN w h' s.heap.objs.size L es ep t → In_ ks ks.length L → (∀ b o, s.heap.get? b = some o → h'.get? b = some o) → Q (.ref s.heap.objs.size) { s with heap := h', toks := tk }) :
    wpAny (model P w) A (call (.type "set") [.ref l]) Q E s := by
  have hisz : items.size = ks.length := by
    have := congrArg List.length hit
    rwa [Array.length_toList, List.length_map] at this
  obtain ⟨c, tl, hmro⟩ := F.called_set.mro
  have x1 := F.called_set.made
  have x2 := F.called_set.sub
  refine wpAny_call (codeAny_of_tree ?_)
  change wpAny _ _ (callAny (.type "set") _) _ _ _
  refine wpAny_pure ⟨Code.quiet_builtin _ (by decide +kernel), codeAny_builtin F.entry_type_call ?_⟩
  rw [Around.under_plain (weight_type_call_type "set" [.ref l] []) rfl]
  have x3 := F.called_set.notType
  have x4 := F.called_set.canCreate
  have x5 := F.typeCall_set_1 (.ref l)
  repeat (any_goals (first | assumption | wp_step))
  refine codeAny_mono (code_set_led1 (.ref l) (E := E) (Q₁ := fun ob z => ob = .ref s.heap.objs.size ∧ z = { s with heap := s.heap.push (set0 w) }) ⟨rfl, rfl⟩) fun r s1 hr => ?_
  cases r with
  | error e => exact hr
  | ok fl =>
    cases fl with
    | ret ob =>
      obtain ⟨rfl, rfl⟩ := hr
      have hS : (s.heap.push (set0 w)).get? s.heap.objs.size = some (set0 w) := Heap.get?_push_size _ rfl
      have hT : Shared.TypeIs { s with heap := s.heap.push (set0 w) } (.ref s.heap.objs.size) "set" := ⟨_, hS, rfl⟩
      have x6 := F.called_set.init.lookup
      have x7 := F.called_set.init.bind (.ref s.heap.objs.size)
      repeat (any_goals (first | assumption | wp_step))
      refine codeAny_mono (codeAny_call_builtin (R := wants (fun r z => r = .none ∧ ∃ h' tk L es ep t, z = { s with heap := h', toks := tk } ∧ SetN w h' s.heap.objs.size L es ep t ∧ In_ ks ks.length L ∧
          (∀ b o, s.heap.get? b = some o → h'.get? b = some o)) E) F.called_set.init.plain F.entry_set_init (check_set_init_1 hT ?_)) fun r2 s2 hr2 => ?_
      · obtain ⟨ol, hol, hcl, nl, hdl⟩ := hl
        obtain ⟨ocls, odict, odata, oslots⟩ := ol
        simp only at hcl hdl
        subst hcl; subst hdl
        have hol2 : (s.heap.push (set0 w)).get? l = some { cls := .type "list", dict := odict, data := .seq items nl, slots := oslots } := Heap.get?_push_of_some _ hol
        have y1 := F.sub_list_set
        have y2 := F.sub_list_frozenset
        have y3 : (Value.type "list" == Value.type "dict") = false := by decide
        have hl1 : (s.heap.push (set0 w)).IsList l items := ⟨_, hol2, rfl, nl, rfl⟩
        unfold Builtin.«set.__init__» noKeywords Builtin.Frozenset.updateFrom
        generalize hPI : pyIter = PI
        wp_walk
        subst hPI
        refine wpAny_pyIter_list hl1 ?_
        refine wpAny_bind (wpAny_runValue ?_)
        have hlS : l < s.heap.objs.size := Heap.lt_size hol
        have z1 : (s.heap.push (set0 w)).objs.size = s.heap.objs.size + 1 := Heap.size_push ..
        have ne1 : l ≠ (s.heap.push (set0 w)).objs.size := by rw [z1]; exact Nat.ne_of_lt (Nat.lt_succ_of_lt hlS)
        have gone : ∀ b, s.heap.objs.size ≤ b → s.heap.get? b = none := fun b hb => by
          cases q : s.heap.get? b with
          | none => rfl
          | some o => exact absurd (Nat.lt_of_lt_of_le (Heap.lt_size q) hb) (Nat.lt_irrefl _)
        refine fill_loop ((Walks.list (by simp [hh]) _ l ne1 items).toS) s.heap.objs.size ?out ks hisz h4 (fun i v hv => ?val) s.heap hk (gone _ (Nat.le_refl _)) (fun b hb => gone b (by rw [List.mem_singleton.mp hb, z1]; exact Nat.le_succ _))
          (by simp only [Around.in1_units]; omega) (items.size - 0) 0 _ (by omega) (Nat.zero_le _) ⟨⟨_, Heap.get?_push_size _ rfl, rfl, rfl⟩, (hl1.push _)⟩ (fun b o e => Heap.get?_push_of_some _ (Heap.get?_push_of_some _ e)) ?beg ?fin
        case out =>
          rw [z1]; simp only [List.mem_cons, List.mem_singleton, List.not_mem_nil, or_false, not_or]; exact ⟨Nat.ne_of_lt (Nat.lt_succ_self _), Nat.ne_of_gt hlS⟩
        case val =>
          have q : items.toList[i]? = some v := by rw [Array.getElem?_toList]; exact hv
          rw [hit, List.getElem?_map] at q
          obtain ⟨r, hr, e⟩ := Option.map_eq_some_iff.mp q
          exact ⟨r, hr, e.symm⟩
        case beg => exact ⟨[], #[], 0, _, SetN.new (Heap.get?_push_of_some _ hS), In_.nil ks⟩
        case fin =>
          intro s3 L es ep t mv S3 g3 kp
          obtain ⟨h', g2, d2, tk, os2⟩ := s3
          have eg : g2 = s.gens := mv.gens
          have ed : d2 = s.drawn := mv.drawn
          have eo : os2 = s.os := mv.os
          subst eg; subst ed; subst eo
          refine wpAny_pure ?_
          change wpAny _ _ (ret Value.none) _ _ _
          rw [hisz] at g3
          exact wpAny_pure ⟨rfl, h', tk, L, es, ep, t, rfl, S3, g3, kp⟩
      · cases r2 with
        | error e => exact hr2
        | ok f2 =>
          cases f2 with
          | ret v =>
            obtain ⟨rfl, h', tk, L, es, ep, t, rfl, S3, g3, kp⟩ := hr2
            repeat (any_goals (first | assumption | wp_step))
            exact h _ _ _ _ _ _ S3 g3 kp
          | _ => exact hr2.elim
    | _ => exact hr.elim
end
end KaN
set_option maxRecDepth 100000
set_option maxHeartbeats 3200000
namespace KaN
open PySem PyProof.Rows L2
section
variable {P : Program} {w : World} {A : Around} {E : Value → Shared → Prop} {s : Shared}
/-- set(xs), xs a tuple of at most four such keys -/
theorem call_set_keysT {l : Addr} {items : Array Value} (ks : List Rw) {Q : Value → Shared → Prop} (hh : A.handled = none) (hl : s.heap.IsTuple l items) (hit : items.toList = ks.map fun r => Value.ref r.1)
    (hk : ∀ r ∈ ks, IsN s.heap r.2 r.1) (h4 : ks.length < 64) (hu : A.units + 20 < cLine)
    (h : ∀ (h' : Heap) (tk : Nat) L es ep t, SetN w h' s.heap.objs.size L es ep t → In_ ks ks.length L → (∀ b o, s.heap.get? b = some o → h'.get? b = some o) → Q (.ref s.heap.objs.size) { s with heap := h', toks := tk }) :
    wpAny (model P w) A (call (.type "set") [.ref l]) Q E s := by
  have hisz : items.size = ks.length := by
    have := congrArg List.length hit
    rwa [Array.length_toList, List.length_map] at this
  obtain ⟨c, tl, hmro⟩ := F.called_set.mro
  have x1 := F.called_set.made
  have x2 := F.called_set.sub
  refine wpAny_call (codeAny_of_tree ?_)
  change wpAny _ _ (callAny (.type "set") _) _ _ _
  refine wpAny_pure ⟨Code.quiet_builtin _ (by decide +kernel), codeAny_builtin F.entry_type_call ?_⟩
  rw [Around.under_plain (weight_type_call_type "set" [.ref l] []) rfl]
  have x3 := F.called_set.notType
  have x4 := F.called_set.canCreate
  have x5 := F.typeCall_set_1 (.ref l)
  repeat (any_goals (first | assumption | wp_step))
  refine codeAny_mono (code_set_led1 (.ref l) (E := E) (Q₁ := fun ob z => ob = .ref s.heap.objs.size ∧ z = { s with heap := s.heap.push (set0 w) }) ⟨rfl, rfl⟩) fun r s1 hr => ?_
  cases r with
  | error e => exact hr
  | ok fl =>
    cases fl with
    | ret ob =>
      obtain ⟨rfl, rfl⟩ := hr
      have hS : (s.heap.push (set0 w)).get? s.heap.objs.size = some (set0 w) := Heap.get?_push_size _ rfl
      have hT : Shared.TypeIs { s with heap := s.heap.push (set0 w) } (.ref s.heap.objs.size) "set" := ⟨_, hS, rfl⟩
      have x6 := F.called_set.init.lookup
      have x7 := F.called_set.init.bind (.ref s.heap.objs.size)
      repeat (any_goals (first | assumption | wp_step))
      refine codeAny_mono (codeAny_call_builtin (R := wants (fun r z => r = .none ∧ ∃ h' tk L es ep t, z = { s with heap := h', toks := tk } ∧ SetN w h' s.heap.objs.size L es ep t ∧ In_ ks ks.length L ∧
          (∀ b o, s.heap.get? b = some o → h'.get? b = some o)) E) F.called_set.init.plain F.entry_set_init (check_set_init_1 hT ?_)) fun r2 s2 hr2 => ?_
      · obtain ⟨ol, hol, hcl, nl, hdl⟩ := hl
        obtain ⟨ocls, odict, odata, oslots⟩ := ol
        simp only at hcl hdl
        subst hcl; subst hdl
        have hol2 : (s.heap.push (set0 w)).get? l = some { cls := .type "tuple", dict := odict, data := .seq items nl, slots := oslots } := Heap.get?_push_of_some _ hol
        have y1 := F.sub_tuple_set
        have y2 := F.sub_tuple_frozenset
        have y3 : (Value.type "tuple" == Value.type "dict") = false := by decide
        have hl1 : (s.heap.push (set0 w)).IsTuple l items := ⟨_, hol2, rfl, nl, rfl⟩
        unfold Builtin.«set.__init__» noKeywords Builtin.Frozenset.updateFrom
        generalize hPI : pyIter = PI
        wp_walk
        subst hPI
        refine wpAny_pyIter_tuple hl1 ?_
        refine wpAny_bind (wpAny_runValue ?_)
        have hlS : l < s.heap.objs.size := Heap.lt_size hol
        have z1 : (s.heap.push (set0 w)).objs.size = s.heap.objs.size + 1 := Heap.size_push ..
        have ne1 : l ≠ (s.heap.push (set0 w)).objs.size := by rw [z1]; exact Nat.ne_of_lt (Nat.lt_succ_of_lt hlS)
        have gone : ∀ b, s.heap.objs.size ≤ b → s.heap.get? b = none := fun b hb => by
          cases q : s.heap.get? b with
          | none => rfl
          | some o => exact absurd (Nat.lt_of_lt_of_le (Heap.lt_size q) hb) (Nat.lt_irrefl _)
        refine fill_loop ((Walks.tuple (by simp [hh]) _ l ne1 items).toS) s.heap.objs.size ?out ks hisz h4 (fun i v hv => ?val) s.heap hk (gone _ (Nat.le_refl _)) (fun b hb => gone b (by rw [List.mem_singleton.mp hb, z1]; exact Nat.le_succ _))
          (by simp only [Around.in1_units]; omega) (items.size - 0) 0 _ (by omega) (Nat.zero_le _) ⟨⟨_, Heap.get?_push_size _ rfl, rfl, rfl⟩, (hl1.push _)⟩ (fun b o e => Heap.get?_push_of_some _ (Heap.get?_push_of_some _ e)) ?beg ?fin
        case out =>
          rw [z1]; simp only [List.mem_cons, List.mem_singleton, List.not_mem_nil, or_false, not_or]; exact ⟨Nat.ne_of_lt (Nat.lt_succ_self _), Nat.ne_of_gt hlS⟩
        case val =>
          have q : items.toList[i]? = some v := by rw [Array.getElem?_toList]; exact hv
          rw [hit, List.getElem?_map] at q
          obtain ⟨r, hr, e⟩ := Option.map_eq_some_iff.mp q
          exact ⟨r, hr, e.symm⟩
        case beg => exact ⟨[], #[], 0, _, SetN.new (Heap.get?_push_of_some _ hS), In_.nil ks⟩
        case fin =>
          intro s3 L es ep t mv S3 g3 kp
          obtain ⟨h', g2, d2, tk, os2⟩ := s3
          have eg : g2 = s.gens := mv.gens
          have ed : d2 = s.drawn := mv.drawn
          have eo : os2 = s.os := mv.os
          subst eg; subst ed; subst eo
          refine wpAny_pure ?_
          change wpAny _ _ (ret Value.none) _ _ _
          rw [hisz] at g3
          exact wpAny_pure ⟨rfl, h', tk, L, es, ep, t, rfl, S3, g3, kp⟩
      · cases r2 with
        | error e => exact hr2
        | ok f2 =>
          cases f2 with
          | ret v =>
            obtain ⟨rfl, h', tk, L, es, ep, t, rfl, S3, g3, kp⟩ := hr2
            repeat (any_goals (first | assumption | wp_step))
            exact h _ _ _ _ _ _ S3 g3 kp
          | _ => exact hr2.elim
    | _ => exact hr.elim
end
end KaN
set_option maxRecDepth 100000
set_option maxHeartbeats 3200000
namespace KaN
open PySem PySem.W PyProof.Rows L2
mutual
def nk : PyData → NestedKey
  | .none => .none
  | .bool _ => .none
  | .int i => .num i
  | .str x => .text x
  | .list _ => .none
  | .tuple xs => .tup (nkA xs)
  | .dict _ => .none
def nkA : List PyData → List NestedKey
  | [] => []
  | x :: r => nk x :: nkA r
end
mutual
theorem nk_depth : ∀ d : PyData, (nk d).depth ≤ d.depth
  | .none => by simp [nk, NestedKey.depth]
  | .bool _ => by simp [nk, NestedKey.depth]
  | .int i => by simp [nk, NestedKey.depth]
  | .str x => by simp [nk, NestedKey.depth]
  | .list _ => by simp [nk, NestedKey.depth]
  | .tuple xs => by
    have := nk_depths xs
    simp only [nk, NestedKey.depth, PyData.depth]; omega
  | .dict _ => by simp [nk, NestedKey.depth]
theorem nk_depths : ∀ ds : List PyData, NestedKey.depthAll (nkA ds) ≤ PyData.depthAll ds
  | [] => by simp [nkA, NestedKey.depthAll]
  | x :: r => by
    have h1 := nk_depth x
    have h2 := nk_depths r
    simp only [nkA, NestedKey.depthAll, PyData.depthAll]; omega
end
mutual
/-- v is such a key, as data -/
inductive Ky (K : PySem.W.Frag) (H : Hp) : V → PyData → Prop
  | int (i : Int) : Ky K H (.int i) (.int i)
  | str (x : Str) : Ky K H (.str x) (.str x)
  | tup {a : Addr} {xs : List V} {ds : List PyData} (e : SqT K H a xs) (r : KyA K H xs ds) : Ky K H (.ref a) (.tuple ds)
inductive KyA (K : PySem.W.Frag) (H : Hp) : List V → List PyData → Prop
  | nil : KyA K H [] []
  | cons {v : V} {vs : List V} {d : PyData} {ds : List PyData} (h : Ky K H v d) (r : KyA K H vs ds) : KyA K H (v :: vs) (d :: ds)
end
section
variable {X : Cx} {pins : List (Addr × Obj)} {σ : L2.St} {H : Hp} {s : Shared}
mutual
theorem Ky.real (I : Inv X pins σ H s) : ∀ {v : V} {d : PyData} {u : Value}, Ky X.K H v d → RelV v u → Reads s.heap u d [] ∧ NestedIs s.heap (nk d) u
  | _, _, u, .int i, r => by obtain ⟨t, rfl⟩ := r; exact ⟨.int i t, by rw [nk]; exact .int i t⟩
  | _, _, u, .str x, r => by obtain ⟨t, rfl⟩ := r; exact ⟨.str x t, by rw [nk]; exact .text x t⟩
  | _, _, u, .tup e q, r => by
    cases r
    obtain ⟨its, rv, ⟨o, ho, hc, n, hd⟩, _⟩ := I.tuple e
    obtain ⟨h1, h2⟩ := KyA.real I q rv
    exact ⟨.tuple ho hc hd (by simpa using h1), by rw [nk]; exact .tup ho hc hd (by simpa using h2)⟩
theorem KyA.real (I : Inv X pins σ H s) : ∀ {vs : List V} {ds : List PyData} {us : List Value}, KyA X.K H vs ds → Vals vs us → ReadsAll s.heap us ds [] ∧ NestedAll s.heap (nkA ds) us
  | _, _, us, .nil, r => by cases r; exact ⟨.nil, by rw [nkA]; exact .nil⟩
  | _, _, us, .cons h q, r => by
    cases r with
    | cons r1 r2 =>
      obtain ⟨a1, a2⟩ := Ky.real I h r1
      obtain ⟨b1, b2⟩ := KyA.real I q r2
      exact ⟨.cons (as := []) (bs := []) a1 b1, by rw [nkA]; exact .cons a2 b2⟩
end
end
section
variable {K : PySem.W.Frag} {H H' : Hp}
mutual
theorem Ky.sm (s : Same H H') : ∀ {v : V} {d : PyData}, Ky K H v d → Ky K H' v d
  | _, _, .int i => .int i
  | _, _, .str x => .str x
  | _, _, .tup e r => .tup (e.imp (fun z => z.imp (s _ _) fun ⟨o, q⟩ => ⟨o, s _ _ q⟩) id) (KyA.sm s r)
theorem KyA.sm (s : Same H H') : ∀ {vs : List V} {ds : List PyData}, KyA K H vs ds → KyA K H' vs ds
  | _, _, .nil => .nil
  | _, _, .cons h r => .cons (Ky.sm s h) (KyA.sm s r)
end
end
theorem perm_map_of {α β : Type} {f : α → β} {ys zs : List β} (h : ys.Perm zs) : ∀ l : List α, zs = l.map f → ∃ l' : List α, l'.Perm l ∧ ys = l'.map f := by
  induction h with
  | nil => intro l e; cases l with
    | nil => exact ⟨[], .nil, rfl⟩
    | cons _ _ => cases e
  | cons x _ ih => intro l e; cases l with
    | nil => cases e
    | cons b l =>
      rw [List.map_cons] at e; injection e with e1 e2
      obtain ⟨l1, p, q⟩ := ih l e2
      exact ⟨b :: l1, p.cons b, by rw [List.map_cons, e1, q]⟩
  | swap x y r => intro l e; cases l with
    | nil => cases e
    | cons b l => cases l with
      | nil => cases e
      | cons c l =>
        rw [List.map_cons, List.map_cons] at e; injection e with e1 e2; injection e2 with e2 e3
        exact ⟨c :: b :: l, .swap .., by rw [List.map_cons, List.map_cons, e1, e2, e3]⟩
  | trans _ _ ih1 ih2 => intro l e; obtain ⟨l2, p2, q2⟩ := ih2 l e; obtain ⟨l1, p1, q1⟩ := ih1 l2 q2; exact ⟨l1, p1.trans p2, q1⟩
abbrev Dw := Addr × PyData
abbrev rwOf (p : Dw) : Rw := (p.1, nk p.2)
theorem back_rows {D0 : List Dw} : ∀ {L : List Rw}, (∀ r ∈ L, r ∈ D0.map rwOf) → ∃ D : List Dw, L = D.map rwOf ∧ ∀ p ∈ D, p ∈ D0
  | [], _ => ⟨[], rfl, fun _ z => nomatch z⟩
  | r :: L, h => by
    obtain ⟨p, hp, e⟩ := List.mem_map.mp (h r List.mem_cons_self)
    obtain ⟨D, e2, hs⟩ := back_rows (L := L) fun q m => h q (List.mem_cons_of_mem _ m)
    exact ⟨p :: D, by rw [List.map_cons, e, e2], fun q m => by
      rcases List.mem_cons.mp m with z | z
      · rw [z]; exact hp
      · exact hs q z⟩
section
variable {P : Program} {w : World} {A : Around} {E : Value → Shared → Prop} {s : Shared}
/-- sorted(set) -/
theorem sorted_setN {a : Addr} {D : List Dw} {es : Array (Int × Value)} {ep : Nat} {t : SetTable} {Q : Value → Shared → Prop} (R : SetN w s.heap a (D.map rwOf) es ep t) (hh : A.handled = none)
    (hr : ∀ p ∈ D, Reads s.heap (.ref p.1) p.2 []) (hal : AllAlike (D.map (·.2))) (hk : Sortable (D.map (·.2))) (hu : A.units + 30 < cLine) (hd8 : ∀ p ∈ D, p.2.depth ≤ 8)
    (hQ : ∀ s' p (D1 : List Dw) (c : Nat), (∀ b o, s.heap.get? b = some o → s'.heap.get? b = some o) → s'.gens = s.gens → s'.os = s.os → s.heap.objs.size ≤ p →
      s'.heap.get? p = some (seqObj "list" ((D1.mergeSort (dataLe false (fun z : Dw => z.2))).map fun z => Value.ref z.1).toArray c) → D1.Perm D → Q (.ref p) s') :
    wpAny (model P w) A (call (.builtin "sorted") [.ref a]) Q E s := by
  obtain ⟨o, g1, g2, g3⟩ := R.ob
  have hfew := R.few
  have hsz := rws_len R.rows
  rw [List.length_map] at hfew hsz
  refine Calls.call_function_entry kind_sorted plain_sorted entry_sorted (args_sorted1 _) ?_
  unfold Builtin.«sorted»; refine wpAny_bind (m := checkCount "sorted" 1 1 _) (wpAny_pure ?_)
  refine wpAny_bind (collect_set (A := A.in1) hh ⟨o, g1, g2.1, g3⟩ R.fit (by unfold scanBound; omega) R.tab.ris R.led fun s1 vs k1 hz c1 o1 pm => ?_)
  have hes : es.toList.map (·.2) = D.map fun p => Value.ref p.1 := by rw [R.rows, rws, List.map_map, List.map_map]; rfl
  rw [hes] at pm
  obtain ⟨D1, pD, rfl⟩ := perm_map_of pm D rfl
  have hl1 : D1.length < 64 := by rw [pD.length_eq]; exact hfew
  refine wpAny_bind (wpAny_newList ?_ (by rw [List.length_map, sizeLine_eq]; omega))
  have hoL : (s1.heap.push (seqObj "list" (D1.map fun p => Value.ref p.1).toArray 0)).get? s1.heap.objs.size = some (seqObj "list" (D1.map fun p => Value.ref p.1).toArray 0) := Heap.get?_push_size _ rfl
  have e0 : EachIs (fun (v : Value) (p : Dw) => v = .ref p.1) (D1.map fun p => Value.ref p.1) D1 := by
    have go : ∀ l : List Dw, EachIs (fun (v : Value) (p : Dw) => v = .ref p.1) (l.map fun p => Value.ref p.1) l := by
      intro l; induction l with
      | nil => exact .nil
      | cons p l ih => exact .cons rfl ih
    exact go D1
  have er : EachIs (fun (v : Value) (p : Dw) => ∃ as, Reads (s1.heap.push (seqObj "list" (D1.map fun p => Value.ref p.1).toArray 0)) v p.2 as ∧ s1.heap.objs.size ∉ as) (D1.map fun p => Value.ref p.1) D1 :=
    (each_mem e0).mono fun v p ⟨e, m⟩ => by
      subst e
      exact ⟨[], PyProof.Rows.Reads.keeps (fun b u z => Heap.get?_push_of_some _ (k1 b u z)) (hr p (pD.mem_iff.mp m)), fun z => nomatch z⟩
  have mem2 : ∀ d, d ∈ D1.map (·.2) → d ∈ D.map (·.2) := fun d m => (pD.map (·.2)).mem_iff.mp m
  refine wpAny_bind (wpAny_holding (list_sort_data (s := { s1 with heap := s1.heap.push (seqObj "list" (D1.map fun p => Value.ref p.1).toArray 0) }) (R := fun (v : Value) (p : Dw) => v = .ref p.1) (enc := fun p : Dw => p.2) hoL e0 er
    (fun d m d' m' => hal d (mem2 d m) d' (mem2 d' m')) (hk.imp (fun z d m => z d (mem2 d m)) fun z d m => z d (mem2 d m)) (by rw [sizeLine_eq]; omega) (fun p m => by have := hd8 p (pD.mem_iff.mp m); simp only [Around.in1_units]; omega) fun out ho eo => ?_))
  obtain ⟨c, hc⟩ := sortedHeap_at (vs := D1.map fun p => Value.ref p.1) (out := List.toArray out) hoL
  have eout : out = (D1.mergeSort (dataLe false (fun z : Dw => z.2))).map fun z => Value.ref z.1 := by
    have go : ∀ {vs : List Value} {l : List Dw}, EachIs (fun (v : Value) (p : Dw) => v = .ref p.1) vs l → vs = l.map fun z => Value.ref z.1 := by
      intro vs l h
      induction h with
      | nil => rfl
      | cons h _ ih => rw [List.map_cons, h, ih]
    exact go eo
  rw [eout] at hc ⊢
  refine wpAny_pure ⟨_, rfl, hQ _ s1.heap.objs.size D1 c (fun b u e => ?_) c1 o1 hz hc pD⟩
  have q := k1 b u e
  have lt := Heap.lt_size q
  refine (sortedHeap_old (Nat.ne_of_lt lt) (by rw [size_push']; exact Nat.lt_succ_of_lt lt)).trans (Heap.get?_push_of_some _ q)
end
/-- the set at a, without the keys' own objects -/
structure SetN0 (w : World) (h : Heap) (a : Addr) (D : List Dw) : Prop where
  ex : ∃ (es : Array (Int × Value)) (ep : Nat) (t : SetTable), (∃ o, h.get? a = some o ∧ o.ExactSet ∧ o.data = .set es ep t) ∧ es.toList = rws w (D.map rwOf) ∧ TabOk t (hss w (D.map rwOf)) ∧ ((D.map rwOf).map (·.2)).Nodup ∧
    (w.params.followText "set-order" = true ∨ t.led = true) ∧ (D.map rwOf).length * 5 < t.mask * 3 ∧ (D.map rwOf).length < 64
theorem SetN.zero {w : World} {h : Heap} {a : Addr} {D : List Dw} {es : Array (Int × Value)} {ep : Nat} {t : SetTable} (R : SetN w h a (D.map rwOf) es ep t) : SetN0 w h a D := ⟨es, ep, t, R.ob, R.rows, R.tab, R.nd, R.led, R.room, R.few⟩
theorem SetN0.all {w : World} {h : Heap} {a : Addr} {D : List Dw} (R : SetN0 w h a D) (hk : ∀ p ∈ D, IsN h (nk p.2) p.1) : ∃ es ep t, SetN w h a (D.map rwOf) es ep t := by
  obtain ⟨es, ep, t, h1, h2, h3, h4, h5, h6, h7⟩ := R.ex
  exact ⟨es, ep, t, h1, h2, h3, h4, fun r m => by
    obtain ⟨p, hp, rfl⟩ := List.mem_map.mp m
    exact hk p hp, h5, h6, h7⟩
def SetNO (w : World) (a : Addr) (D : List Dw) : HO := .ext fun h => SetN0 w h a D
theorem setNO_ok {P : Program} {w : World} {H : Hp} {h : Heap} {a : Addr} {D : List Dw} (R : SetN0 w h a D) : ObjOk P w H h a (SetNO w a D) := by
  obtain ⟨es, ep, t, ⟨o, ho, r⟩, q⟩ := R.ex
  refine ⟨R, ⟨o, ho⟩, fun h1 h2 p kp => ?_⟩
  obtain ⟨es2, ep2, t2, ⟨o2, ho2, r2⟩, q2⟩ := SetN0.ex p
  exact ⟨es2, ep2, t2, ⟨o2, kp o2 ho2, r2⟩, q2⟩
section
variable {X : Cx}
/-- set(xs), xs a list of fewer than 64 keys -/
def rSetNw (K : PySem.W.Frag) (w : World) : List V → Hp → VK → Prop := fun xs H Q => ∃ (l : Addr) (D0 : List Dw), xs = [V.ref l] ∧ (SqL K H l (D0.map fun p => V.ref p.1) ∨ SqT K H l (D0.map fun p => V.ref p.1)) ∧ (∀ p ∈ D0, Ky K H (.ref p.1) p.2 ∧ p.2.depth ≤ 8) ∧ D0.length < 64 ∧
  ∀ a D, H a = none → (∀ p ∈ D, p ∈ D0) → (∀ p ∈ D0, ∃ q ∈ D, nk q.2 = nk p.2) → (D.map fun p => nk p.2).Nodup → D.length ≤ D0.length → Q (.ref a) (upd H a (SetNO w a D))
/-- set(xs), xs a list of at most four keys -/
def rSetN (K : PySem.W.Frag) (w : World) : List V → Hp → VK → Prop := fun xs H Q => ∃ (l : Addr) (D0 : List Dw), xs = [V.ref l] ∧ (SqL K H l (D0.map fun p => V.ref p.1) ∨ SqT K H l (D0.map fun p => V.ref p.1)) ∧ (∀ p ∈ D0, Ky K H (.ref p.1) p.2 ∧ p.2.depth ≤ 8) ∧ D0.length ≤ 4 ∧
  ∀ a D, H a = none → (∀ p ∈ D, p ∈ D0) → (∀ p ∈ D0, ∃ q ∈ D, nk q.2 = nk p.2) → (D.map fun p => nk p.2).Nodup → D.length ≤ D0.length → Q (.ref a) (upd H a (SetNO w a D))
theorem refs_back : ∀ {D : List Dw} {us : List Value}, Vals (D.map fun p => V.ref p.1) us → us = D.map fun p => Value.ref p.1
  | [], _, .nil => rfl
  | p :: D, _, .cons r t => by cases r; rw [refs_back t]; rfl
theorem refs_on : ∀ D : List Dw, Vals (D.map fun p => V.ref p.1) (D.map fun p => Value.ref p.1)
  | [] => .nil
  | p :: D => .cons rfl (refs_on D)
theorem cr_setNw (hc : X.calm = true) (hu : X.A.units + 64 < cLine) : CallR X (.type "set") (rSetNw X.K X.w) := by
  intro pins s σ H xs us Q I r h
  obtain ⟨l, D0, rfl, hl, hk, h4, q⟩ := h
  rw [Vals.ref1 r]
  have keyIs : ∀ p ∈ D0, IsN s.heap (nk p.2) p.1 := fun p m => ⟨(Ky.real I (hk p m).1 rfl).2, Nat.le_trans (nk_depth _) (hk p m).2⟩
  have keyR : ∀ r ∈ D0.map rwOf, IsN s.heap r.2 r.1 := fun r m => by
    obtain ⟨p, hp, rfl⟩ := List.mem_map.mp m
    exact keyIs p hp
  have last : ∀ (h' : Heap) (tk : Nat) L es ep t, SetN X.w h' s.heap.objs.size L es ep t → In_ (D0.map rwOf) (D0.map rwOf).length L → (∀ b o, s.heap.get? b = some o → h'.get? b = some o) → EP X pins σ Q (.ref s.heap.objs.size) { s with heap := h', toks := tk } := by
    intro h' tk L es ep t R g kp
    obtain ⟨D, rfl, hD⟩ := back_rows (L := L) fun r m => List.mem_of_mem_take (g.sub r m)
    refine ⟨.ref s.heap.objs.size, upd H s.heap.objs.size (SetNO X.w s.heap.objs.size D), I.laid (t' := tk) kp (Nat.le_refl _) (setNO_ok R.zero), rfl, q _ D (I.hok.fresh (Nat.le_refl _)) hD (fun p m => ?_) ?_ (by simpa using g.len)⟩
    · have z := g.all (rwOf p) (by rw [List.take_length]; exact List.mem_map.mpr ⟨p, m, rfl⟩)
      rw [List.map_map] at z
      obtain ⟨q2, hq2, e⟩ := List.mem_map.mp z
      exact ⟨q2, hq2, e⟩
    · have z := R.nd
      rw [List.map_map] at z
      exact z
  rcases hl with hl | hl
  · obtain ⟨its, rv, pl, hz⟩ := I.list hl
    exact call_set_keys (P := X.prog) (D0.map rwOf) (I.ok.hd hc) pl.isList (by rw [List.map_map]; simpa [Function.comp_def] using refs_back rv) keyR (by rw [List.length_map]; exact h4) (by omega) last
  · obtain ⟨its, rv, pl, hz⟩ := I.tuple hl
    exact call_set_keysT (P := X.prog) (D0.map rwOf) (I.ok.hd hc) pl (by rw [List.map_map]; simpa [Function.comp_def] using refs_back rv) keyR (by rw [List.length_map]; exact h4) (by omega) last
theorem cr_setN (hc : X.calm = true) (hu : X.A.units + 64 < cLine) : CallR X (.type "set") (rSetN X.K X.w) := by
  intro pins s σ H xs us Q I r h
  obtain ⟨l, D0, e, hl, hk, h4, q⟩ := h
  exact cr_setNw hc hu _ _ _ _ _ _ _ I r ⟨l, D0, e, hl, hk, by omega, q⟩
/-- sorted(set) -/
def rSortN (K : PySem.W.Frag) (w : World) : List V → Hp → VK → Prop := fun vs H Q => ∃ (a : Addr) (D : List Dw), vs = [V.ref a] ∧ H a = some (SetNO w a D) ∧ (∀ p ∈ D, Ky K H (.ref p.1) p.2 ∧ p.2.depth ≤ 8) ∧ AllAlike (D.map (·.2)) ∧ Sortable (D.map (·.2)) ∧
  ∀ (D1 : List Dw) (p : Addr), D1.Perm D → H p = none → Q (.ref p) (upd H p (.lst ((D1.mergeSort (dataLe false (fun z : Dw => z.2))).map fun z => V.ref z.1)))
theorem cr_sortN (hc : X.calm = true) (hu : X.A.units + 64 < cLine) : CallR X (.builtin "sorted") (rSortN X.K X.w) := by
  intro pins s σ H vs us Q I r h
  obtain ⟨a, D, rfl, ha, hk, hal, hso, q⟩ := h
  have R0 : SetN0 X.w s.heap a D := (I.hok a _ ha).1
  obtain ⟨es, ep, t, R⟩ := R0.all fun p m => ⟨(Ky.real I (hk p m).1 rfl).2, Nat.le_trans (nk_depth _) (hk p m).2⟩
  rw [Vals.ref1 r]
  refine sorted_setN (P := X.prog) R (I.ok.hd hc) (fun p m => (Ky.real I (hk p m).1 rfl).1) hal hso (by omega) (fun p m => (hk p m).2) fun s2 p D1 c kp g o hp hg pD => ?_
  have hn : H p = none := I.hok.fresh hp
  have hlen : ((D1.mergeSort (dataLe false (fun z : Dw => z.2))).map fun z => V.ref z.1).length ≤ sizeLine := by
    have := R.few
    rw [List.length_map] at this
    rw [List.length_map, List.length_mergeSort, pD.length_eq, sizeLine_eq]; omega
  have J : Inv X pins σ (upd H p (.lst ((D1.mergeSort (dataLe false (fun z : Dw => z.2))).map fun z => V.ref z.1))) { s with heap := s2.heap, gens := s2.gens, drawn := s2.drawn, toks := s2.toks } :=
    I.call (ch := []) (Un.laid kp hp hn) (I.hok.laid kp hp ⟨hlen, _, c, refs_on _, hg⟩) (by rw [g]; exact I.bare) (fun _ z => nomatch z)
  have e : s2 = { s with heap := s2.heap, gens := s2.gens, drawn := s2.drawn, toks := s2.toks } := by cases s2; cases s; cases o; rfl
  rw [e]
  exact ⟨.ref p, _, J, rfl, q D1 p pD hn⟩
end
end KaN
set_option maxRecDepth 100000
set_option maxHeartbeats 4000000
namespace KaN
open PySem PySem.Calls PyProof.Rows PySem.W PySem.SeqAt
end KaN
namespace KaN
open PySem PySem.Spec PyProof.Rows L2 PySem.W
end KaN
set_option maxRecDepth 100000
set_option maxHeartbeats 4000000
namespace KaG
open PySem PySem.Spec PyProof.Rows L2 KaC KaN
abbrev LotAt (H : Hp) (a : Addr) (lot : List Str) : Prop := H a = some (.tup (lot.map V.str))
def lotD (lot : List Str) : PyData := .tuple (lot.map PyData.str)
theorem depA_strs : ∀ (xs : List Str), PyData.depthAll (xs.map PyData.str) = 0
  | [] => by simp [PyData.depthAll]
  | x :: r => by
    rw [List.map_cons, PyData.depthAll, depA_strs r]
    simp [PyData.depth]
end KaG
set_option maxRecDepth 100000
set_option maxHeartbeats 4000000
set_option maxRecDepth 100000
set_option maxHeartbeats 2000000
namespace KaG
open PySem PySem.Spec PyProof.Rows L2 KaN
def dV : V → PyData
  | .int i => .int i
  | .str x => .str x
  | _ => .none
def needD (xs : List V) : PyData := .tuple (xs.map dV)
def grdD (g : List (List V)) : PyData := .tuple (g.map needD)
section
variable {K : PySem.W.Frag} {H : Hp} {rows names : List Str}
theorem need_ky {xs : List V} {a : Addr} (h : NeedV rows names xs) (e : H a = some (.tup xs)) : Ky K H (.ref a) (needD xs) := by
  cases h with
  | row n t m => exact .tup (SqT.of e) (.cons (.str _) (.cons (.str _) (.cons (.int _) (.cons (.int _) .nil))))
  | kind n a t m => exact .tup (SqT.of e) (.cons (.str _) (.cons (.str _) (.cons (.int _) (.cons (.int _) (.cons (.int _) .nil)))))
theorem need_deep {xs : List V} (h : NeedV rows names xs) : (needD xs).depth = 1 := by
  cases h <;> simp [needD, dV, PyData.depth, PyData.depthAll]
theorem need_like {xs ys : List V} (h : NeedV rows names xs) (h' : NeedV rows names ys) : PySem.W.alike (needD xs) (needD ys) = true := by
  cases h <;> cases h' <;> simp [needD, dV, PySem.W.alike, PySem.W.alikeAll]
theorem need_cons {xs : List V} (h : NeedV rows names xs) : ∃ x r, needD xs = .tuple (x :: r) := by
  cases h <;> exact ⟨_, _, rfl⟩
theorem needs_ky : ∀ {ns : List Addr} {g : List (List V)}, Paired (fun n its => H n = some (.tup its)) ns g → (∀ n ∈ g, NeedV rows names n) → KyA K H (ns.map V.ref) (g.map needD)
  | _, _, .nil, _ => .nil
  | _, _, .cons h r, q => .cons (need_ky (q _ (List.mem_cons_self ..)) h) (needs_ky r fun n m => q n (List.mem_cons_of_mem _ m))
theorem grd_ky {g : List (List V)} {a : Addr} (h : Grd H a g) (q : ∀ n ∈ g, NeedV rows names n) : Ky K H (.ref a) (grdD g) := by
  obtain ⟨ns, e, p⟩ := h
  exact .tup (SqT.of e) (needs_ky p q)
theorem needs_deep : ∀ {g : List (List V)}, (∀ n ∈ g, NeedV rows names n) → PyData.depthAll (g.map needD) ≤ 1
  | [], _ => by simp [PyData.depthAll]
  | n :: g, q => by
    have h1 := need_deep (q n (List.mem_cons_self ..))
    have h2 := needs_deep (g := g) fun m hm => q m (List.mem_cons_of_mem _ hm)
    rw [List.map_cons, PyData.depthAll]; omega
theorem grd_deep {g : List (List V)} (q : ∀ n ∈ g, NeedV rows names n) : (grdD g).depth ≤ 2 := by
  have := needs_deep q
  rw [grdD, PyData.depth]; omega
theorem needs_like : ∀ {g g' : List (List V)}, (∀ n ∈ g, NeedV rows names n) → (∀ n ∈ g', NeedV rows names n) → PySem.W.alikeAll (g.map needD) (g'.map needD) = true
  | [], _, _, _ => by simp [PySem.W.alikeAll]
  | _ :: _, [], _, _ => by simp [PySem.W.alikeAll]
  | n :: g, n' :: g', q, q' => by
    rw [List.map_cons, List.map_cons, PySem.W.alikeAll, need_like (q n (List.mem_cons_self ..)) (q' n' (List.mem_cons_self ..)), needs_like (g := g) (g' := g') (fun m hm => q m (List.mem_cons_of_mem _ hm)) fun m hm => q' m (List.mem_cons_of_mem _ hm)]; rfl
theorem grd_like {g g' : List (List V)} (q : ∀ n ∈ g, NeedV rows names n) (q' : ∀ n ∈ g', NeedV rows names n) : PySem.W.alike (grdD g) (grdD g') = true := by
  rw [grdD, grdD, PySem.W.alike]
  exact needs_like q q'
end
def rTupOf (K : PySem.W.Frag) : List V → Hp → VK → Prop := fun xs H Q => ∃ p ys, xs = [.ref p] ∧ ((SqL K H p ys ∧ ∀ l, H l = none → Q (.ref l) (upd H l (.tup ys))) ∨ (SqT K H p ys ∧ Q (.ref p) H))
theorem call_tupOf {X : Cx} : CallR X (.type "tuple") (rTupOf X.K) := call_tuple_of
theorem order_of {α : Type} {K : PySem.W.Frag} {w : World} {H : Hp} {l : Addr} {Q : VK} (enc : α → PyData) (zs : List (Addr × α)) (hl : SqL K H l (zs.map fun z => V.ref z.1) ∨ SqT K H l (zs.map fun z => V.ref z.1)) (hk : ∀ z ∈ zs, Ky K H (.ref z.1) (enc z.2) ∧ (enc z.2).depth ≤ 8)
    (hal : ∀ z ∈ zs, ∀ y ∈ zs, PySem.W.alike (enc z.2) (enc y.2) = true) (hso : ∀ z ∈ zs, ∃ x r, enc z.2 = .tuple (x :: r)) (h4 : zs.length ≤ 4)
    (k : ∀ (ys : List (Addr × α)) (p : Addr) (H' : Hp), Same H H' → H p = none → H' p = some (.tup (ys.map fun z => V.ref z.1)) → (∀ z ∈ ys, z ∈ zs) → (0 < zs.length → 0 < ys.length) → ys.length ≤ zs.length → Q (.ref p) H') :
    rSetN K w [V.ref l] H fun v H1 => rSortN K w [v] H1 fun v2 H2 => rTupOf K [v2] H2 Q := by
  refine ⟨l, zs.map fun z => (z.1, enc z.2), rfl, by rw [List.map_map]; exact hl, fun p m => ?_, by rw [List.length_map]; exact h4, fun a D ha hsub hall hnd hlen => ?_⟩
  · obtain ⟨z, hz, rfl⟩ := List.mem_map.mp m
    exact hk z hz
  · have back : ∀ D' : List Dw, (∀ p ∈ D', p ∈ zs.map fun z => (z.1, enc z.2)) → ∃ ys : List (Addr × α), D' = ys.map (fun z => (z.1, enc z.2)) ∧ ∀ z ∈ ys, z ∈ zs := by
      intro D'
      induction D' with
      | nil => exact fun _ => ⟨[], rfl, fun _ z => nomatch z⟩
      | cons p D' ih =>
        intro h
        obtain ⟨z, hz, e⟩ := List.mem_map.mp (h p (List.mem_cons_self ..))
        obtain ⟨ys, e2, hs⟩ := ih fun q m => h q (List.mem_cons_of_mem _ m)
        refine ⟨z :: ys, by rw [List.map_cons, e, e2], fun q m => ?_⟩
        rcases List.mem_cons.mp m with c | c
        · rw [c]; exact hz
        · exact hs q c
    have of : ∀ p ∈ D, ∃ z ∈ zs, p = (z.1, enc z.2) := fun p m => by
      obtain ⟨z, hz, e⟩ := List.mem_map.mp (hsub p m)
      exact ⟨z, hz, e.symm⟩
    refine ⟨a, D, rfl, upd_same, fun p m => ?_, fun d m d' m' => ?_, .inl fun d m => ?_, fun D1 p pD hp => ?_⟩
    · obtain ⟨z, hz, rfl⟩ := of p m
      exact ⟨Ky.sm (same_upd ha) (hk z hz).1, (hk z hz).2⟩
    · obtain ⟨p, hp, rfl⟩ := List.mem_map.mp m
      obtain ⟨p', hp', rfl⟩ := List.mem_map.mp m'
      obtain ⟨z, hz, rfl⟩ := of p hp
      obtain ⟨y, hy, rfl⟩ := of p' hp'
      exact hal z hz y hy
    · obtain ⟨p, hp, rfl⟩ := List.mem_map.mp m
      obtain ⟨z, hz, rfl⟩ := of p hp
      exact hso z hz
    · have pm : (D1.mergeSort (PySem.W.dataLe false (fun z : Dw => z.2))).Perm D := (List.mergeSort_perm ..).trans pD
      obtain ⟨ys, ey, hy⟩ := back _ fun q m => hsub q (pm.mem_iff.mp m)
      have hz : ys.length = D.length := by rw [← pm.length_eq, ey, List.length_map]
      rw [ey, List.map_map]
      have n1 : H p = none := by
        cases e : H p with
        | none => rfl
        | some u => rw [same_upd ha _ _ e] at hp; cases hp
      refine ⟨p, ys.map fun z => V.ref z.1, rfl, .inl ⟨SqL.of upd_same, fun q hq => ?_⟩⟩
      have S2 := KaG.Same.tr (same_upd (o := SetNO w a D) ha) (same_upd (o := .lst (ys.map fun z => V.ref z.1)) hp)
      have n2 : H q = none := by
        cases e : H q with
        | none => rfl
        | some u =>
          have := S2 _ _ e
          rw [show (upd (upd H a (SetNO w a D)) p (.lst (ys.map fun z => V.ref z.1))) q = none from hq] at this
          cases this
      refine k ys q _ (KaG.Same.tr S2 (same_upd hq)) n2 upd_same hy (fun h0 => ?_) (by rw [hz]; simpa using hlen)
      obtain ⟨z, hz1⟩ : ∃ z, z ∈ zs := ⟨_, List.getElem_mem h0⟩
      obtain ⟨q2, hq2, _⟩ := hall (z.1, enc z.2) (List.mem_map.mpr ⟨z, hz1, rfl⟩)
      rw [hz]
      exact List.length_pos_of_mem hq2
end KaG
set_option maxRecDepth 100000
set_option maxHeartbeats 2000000
namespace KaG
open PySem PySem.Spec PyProof.Rows L2 KaN
theorem paired_zip {α β : Type} {R : α → β → Prop} : ∀ {xs : List α} {ys : List β}, Paired R xs ys → ∀ z ∈ xs.zip ys, R z.1 z.2
  | _, _, .nil, _, m => by cases m
  | _, _, .cons h r, z, m => by
    rw [List.zip_cons_cons] at m
    rcases List.mem_cons.mp m with c | c
    · rw [c]; exact h
    · exact paired_zip r z c
theorem zip_fst {α β γ : Type} {R : α → β → Prop} (f : α → γ) : ∀ {xs : List α} {ys : List β}, Paired R xs ys → (xs.zip ys).map (fun z => f z.1) = xs.map f
  | _, _, .nil => rfl
  | _, _, .cons h r => by rw [List.zip_cons_cons, List.map_cons, List.map_cons, zip_fst f r]
theorem paired_of {α β : Type} {R : α → β → Prop} : ∀ {zs : List (α × β)}, (∀ z ∈ zs, R z.1 z.2) → Paired R (zs.map (·.1)) (zs.map (·.2))
  | [], _ => .nil
  | z :: zs, h => .cons (h z (List.mem_cons_self ..)) (paired_of fun y m => h y (List.mem_cons_of_mem _ m))
theorem zip_snd {α β : Type} {xs : List α} {ys : List β} {z : α × β} (m : z ∈ xs.zip ys) : z.2 ∈ ys := (List.of_mem_zip m).2
/-- needs in a list, put in order: a ground -/
theorem order_needs {K : PySem.W.Frag} {w : World} {H : Hp} {l : Addr} {Q : VK} {rows names : List Str} {as : List Addr} {g : List (List V)} (hl : SqL K H l (as.map V.ref) ∨ SqT K H l (as.map V.ref)) (pg : Paired (fun n its => H n = some (.tup its)) as g)
    (hn : ∀ n ∈ g, NeedV rows names n) (h4 : as.length ≤ 4)
    (k : ∀ (p : Addr) (g' : List (List V)) (H' : Hp), Same H H' → H p = none → Grd H' p g' → (∀ n ∈ g', n ∈ g) → (0 < g.length → 0 < g'.length) → g'.length ≤ g.length → Q (.ref p) H') :
    rSetN K w [V.ref l] H fun v H1 => rSortN K w [v] H1 fun v2 H2 => rTupOf K [v2] H2 Q := by
  have hz : (as.zip g).length = g.length := by rw [List.length_zip, paired_len pg, Nat.min_self]
  refine order_of needD (as.zip g) (by rw [zip_fst V.ref pg]; exact hl) (fun z m => ?_) (fun z m y m' => ?_) (fun z m => ?_) (by rw [hz, ← paired_len pg]; exact h4) fun ys p H' S np ep sub pos le => ?_
  · have hv := hn _ (zip_snd m)
    exact ⟨need_ky hv (paired_zip pg z m), by rw [need_deep hv]; decide⟩
  · exact need_like (hn _ (zip_snd m)) (hn _ (zip_snd m'))
  · exact need_cons (hn _ (zip_snd m))
  · refine k p (ys.map (·.2)) H' S np ⟨ys.map (·.1), by rw [ep, List.map_map]; rfl, paired_of fun z m => S _ _ (paired_zip pg z (sub z m))⟩ (fun n m => ?_) (fun h => by rw [List.length_map]; exact pos (by rw [hz]; exact h)) (by rw [List.length_map, ← hz]; exact le)
    obtain ⟨z, hz2, rfl⟩ := List.mem_map.mp m
    exact zip_snd (sub z hz2)
/-- grounds in a list, put in order -/
theorem order_grounds {K : PySem.W.Frag} {w : World} {H : Hp} {l : Addr} {Q : VK} {rows names : List Str} {as : List Addr} {gs : List (List (List V))} (hl : SqL K H l (as.map V.ref) ∨ SqT K H l (as.map V.ref)) (pg : Paired (fun a g => Grd H a g) as gs)
    (hn : ∀ g ∈ gs, 0 < g.length ∧ ∀ n ∈ g, NeedV rows names n) (h4 : as.length ≤ 4)
    (k : ∀ (p : Addr) (bs : List Addr) (gs' : List (List (List V))) (H' : Hp), Same H H' → H p = none → H' p = some (.tup (bs.map V.ref)) → Paired (fun a g => Grd H' a g) bs gs' → (∀ g ∈ gs', g ∈ gs) → gs'.length ≤ gs.length → Q (.ref p) H') :
    rSetN K w [V.ref l] H fun v H1 => rSortN K w [v] H1 fun v2 H2 => rTupOf K [v2] H2 Q := by
  have hz : (as.zip gs).length = gs.length := by rw [List.length_zip, paired_len pg, Nat.min_self]
  refine order_of grdD (as.zip gs) (by rw [zip_fst V.ref pg]; exact hl) (fun z m => ?_) (fun z m y m' => ?_) (fun z m => ?_) (by rw [hz, ← paired_len pg]; exact h4) fun ys p H' S np ep sub pos le => ?_
  · have hv := (hn _ (zip_snd m)).2
    exact ⟨grd_ky (paired_zip pg z m) hv, Nat.le_trans (grd_deep hv) (by decide)⟩
  · exact grd_like (hn _ (zip_snd m)).2 (hn _ (zip_snd m')).2
  · have h1 := (hn _ (zip_snd m)).1
    cases hg : z.2 with
    | nil => rw [hg] at h1; exact absurd h1 (by decide)
    | cons n r => exact ⟨needD n, r.map needD, by rw [grdD, List.map_cons]⟩
  · refine k p (ys.map (·.1)) (ys.map (·.2)) H' S np (by rw [ep, List.map_map]; rfl) (paired_of fun z m => Grd.ts (paired_zip pg z (sub z m)) (TSame.of S)) (fun n m => ?_) (by rw [List.length_map, ← hz]; exact le)
    obtain ⟨z, hz2, rfl⟩ := List.mem_map.mp m
    exact zip_snd (sub z hz2)
section
variable {P : Program} {w : World} {K : PySem.W.Frag} {mg : Str → Option Value} {base : Heap}
theorem scGround : FnScope ["bag", "rows", "names", "some", "k"] ["bag", "rows", "names"] (defScope sGround) := ⟨rfl, rfl, rfl, by decide +kernel, rfl, by decide +kernel, by decide +kernel⟩
def spGround : Sp := fun vs H Q _ => ∃ (bg r n : Addr) (rows names : List Str), vs = [.ref bg, .ref r, .ref n] ∧ Bag H bg ∧ r ≠ bg ∧ n ≠ bg ∧ H r = some (.tup (rows.map V.str)) ∧ H n = some (.tup (names.map V.str)) ∧ 0 < rows.length ∧ 0 < names.length ∧ rows.length ≤ 20 ∧ names.length ≤ 20 ∧
  ∀ (p : Addr) (g : List (List V)) (H' : Hp), Ext bg H H' → H p = none → Grd H' p g → 0 < g.length → g.length ≤ 3 → (∀ n ∈ g, NeedV rows names n) → Q (.ref p) H'
theorem ok_ground {f fN fS : Addr} {fd fdN fdS : FuncData} (F : Fun K "_law_ground" "_law_ground" sGround f fd) (T : TxtC mg) (CN : Ct P w K mg base "_law_need" 4 ["bag", "rows", "names"] spNeed fN fdN) (C : Ct P w K mg base "_law_some" 2 ["bag", "things"] spSome2 fS fdS) : FnOk P w K mg base CX0 5 f fd ["bag", "rows", "names"] spGround := by
  refine F.ok scGround (fun vs H Q E h => ?_) (fun cdv A outer s H vs Q E hr h => ?_)
  · obtain ⟨bg, r, n, rows, names, rfl, _⟩ := h
    rfl
  · obtain ⟨bg, r, n, rows, names, rfl, hB, rb, nb, er, en, r0, n0, r20, n20, k⟩ := h
    have hr4 : Room 4 (A.deeper (envOfC "_law_ground" (defScope sGround) s.heap.objs.size f cdv)) := hr.mono (by decide)
    have hr2 : Room 2 (A.deeper (envOfC "_law_ground" (defScope sGround) s.heap.objs.size f cdv)) := hr.mono (by decide)
    have hu : (A.deeper (envOfC "_law_ground" (defScope sGround) s.heap.objs.size f cdv)).units + 64 < cLine := by have := hr.3; omega
    refine ⟨_, (pss_cons (ps_setLc (i := 3) (own := [("k", 4)]) (g := gName 4) (by rfl) scGround.nd rfl rfl (sw_true rfl rfl rfl (by decide +kernel))
        (pi_range1 rfl T.b.range (pa_cons (pe_call C.G hr2 (by rfl) C.m C.kp C.b .nil pass0 (pa_cons (pv 0) (pa_cons (pe_lst (pa_cons pe_int (pa_cons pe_int (pa_cons pe_int (pa_cons pe_int (pa_cons pe_int (pa_cons pe_int pa_nil))))))) pa_nil))) pa_nil))
        (blkOk_by (own := [("k", 4)]) (N := ["bag", "rows", "names", "some", "k"]) (sc := defScope sGround) (by decide +kernel)) (fun _ _ _ _ _ => pg_name (i := 4) scGround.nd rfl (Or.inl rfl)) (fun _ _ _ _ _ => pts_nil)
        (fun _ _ _ _ _ => pe_call CN.G hr4 (by rfl) CN.m CN.kp CN.b .nil pass0 (pa_cons (pv 0) (pa_cons (pv 1) (pa_cons (pv 2) pa_nil)))))
      (pss_one (ps_ret (pe_callTy call_tuple_of (by rfl) T.tup (by decide +kernel) (pa_cons (pe_callB (cr_sortN rfl hu) (by rfl) T.sor (by decide +kernel)
        (pa_cons (pe_callTy (cr_setN rfl hu) (by rfl) T.set (by decide +kernel) (pa_cons (pv 3) pa_nil)) pa_nil)) pa_nil))))), ?_⟩
    have sz : ∀ {m : Nat}, m ≤ 900 → m ≤ sizeLine := fun h => Nat.le_of_lt (small1000 (by omega))
    refine ⟨_, rfl, sz (by show 6 ≤ 900; decide), fun q nq => ?_⟩
    have E0 : Ext bg H (upd H q (.lst [.int 1, .int 1, .int 1, .int 2, .int 2, .int 3])) := (Ext.of_same hB Same.refl').new nq
    have qb : q ≠ bg := fun z => hB.there (z ▸ nq)
    refine ⟨bg, q, _, rfl, E0.bag, qb, .inl upd_same, by decide, by decide, fun v H1 mv E1 => ?_⟩
    obtain ⟨z, rfl, z1, z3⟩ := ints_in (ns := [1, 1, 1, 2, 2, 3]) (lo := 1) (hi := 3) (by decide) mv
    have E01 := E0.trans E1
    refine ⟨z, rfl, by omega, by omega, fun D hD => lc_range (fun i G => Ext bg H G ∧ ∃ (as : List Addr) (g : List (List V)), as.length = i ∧ G D = some (.lst (as.map V.ref)) ∧ Paired (fun n its => G n = some (.tup its)) as g ∧ ∀ n ∈ g, NeedV rows names n) ?_ ?_ ?_⟩
    · exact ⟨E01.new hD, [], [], rfl, upd_same, .nil, fun _ z => nomatch z⟩
    · rintro i G hi ⟨E2, as, g, la, gD, pg, hg⟩
      refine ⟨rfl, ?_⟩
      unfold tYes
      dsimp only
      have Db : D ≠ bg := fun z => E01.bag.there (z ▸ hD)
      refine iteT ⟨_, rfl, _, rfl, _, rfl, bg, r, n, rows, names, rfl, E2.bag, rb, nb, E2.keep r _ rb er, E2.keep n _ nb en, r0, n0, r20, n20, fun p xs H3 E3 np ep hv => ?_⟩
      have pD : p ≠ D := fun z => by rw [z, gD] at np; cases np
      have gD3 := E3.keep D _ Db gD
      refine ⟨_, gD3, small1000 (by rw [List.length_map]; omega), ?_, as ++ [p], g ++ [xs], by rw [List.length_append, la]; rfl, by rw [upd_same, List.map_append]; rfl, ?_, ?_⟩
      · exact Ext.write hB (E2.trans E3) (newAt E01 hD)
      · exact paired_snoc (by rw [upd_ne pD]; exact ep) (Paired.mono' (fun a b c => ts_lst gD3 a _ (TSame.ext E2.bag E3 a _ c)) pg)
      · intro m hm
        rcases List.mem_append.mp hm with c | c
        · exact hg m c
        · rw [List.mem_singleton.mp c]; exact hv
    · rintro G ⟨E2, as, g, la, gD, pg, hg⟩
      have lg := paired_len pg
      refine ⟨_, rfl, order_needs (K := K) (w := w) (.inl (SqL.of gD)) pg hg (by omega) fun p g' H' S np hp sub pos le => ?_⟩
      refine k p g' H' (E2.trans (Ext.of_same E2.bag S)) (newAt E2 np) hp (pos (by omega)) (by omega) fun n m => hg n (sub n m)
end
end KaG
set_option maxRecDepth 100000
set_option maxHeartbeats 4000000
namespace KaG
open PySem PySem.Spec PyProof.Rows L2 KaN
/-- a kind, as drawn -/
def KdOk (rs ns : List Str) (k : Kd) : Prop := (1 ≤ k.keep ∧ k.keep ≤ 8 ∧ 0 ≤ k.bar ∧ k.bar ≤ 12 ∧ k.gs.length ≤ 4) ∧ ∀ g ∈ k.gs, 0 < g.length ∧ g.length ≤ 3 ∧ ∀ n ∈ g, NeedV rs ns n
theorem book_ok {rs ns : List Str} {ks : List Kd} (hr : Nms rs) (hn : Nms ns) (r0 : 0 < rs.length) (n0 : 0 < ns.length) (n5 : ns.length ≤ 5) (e : ks.map Kd.name = ns) (h : ∀ k ∈ ks, KdOk rs ns k) : BookOk rs ks := by
  have hl : ks.length = ns.length := by rw [← e, List.length_map]
  subst e
  exact ⟨hr, hn, r0, by omega, by omega, fun k m => (h k m).1, fun k m g mg => (h k m).2 g mg⟩
/-- a list of grounds -/
structure GsAt (H : Hp) (rs ns : List Str) (as : List Addr) (gs : List (List (List V))) : Prop where
  pr : Paired (fun a g => Grd H a g) as gs
  ok : ∀ g ∈ gs, 0 < g.length ∧ g.length ≤ 3 ∧ ∀ n ∈ g, NeedV rs ns n
theorem GsAt.ts {H H' : Hp} {rs ns : List Str} {as : List Addr} {gs : List (List (List V))} (h : GsAt H rs ns as gs) (s : TSame H H') : GsAt H' rs ns as gs := ⟨Paired.mono' (fun a b q => Grd.ts q s) h.pr, h.ok⟩
theorem GsAt.snoc {H : Hp} {rs ns : List Str} {as : List Addr} {gs : List (List (List V))} {a : Addr} {g : List (List V)} (h : GsAt H rs ns as gs) (e : Grd H a g) (o : 0 < g.length ∧ g.length ≤ 3 ∧ ∀ n ∈ g, NeedV rs ns n) : GsAt H rs ns (as ++ [a]) (gs ++ [g]) :=
  ⟨paired_snoc e h.pr, fun x m => by
    rcases List.mem_append.mp m with c | c
    · exact h.ok x c
    · rw [List.mem_singleton.mp c]; exact o⟩
theorem GsAt.nil {H : Hp} {rs ns : List Str} : GsAt H rs ns [] [] := ⟨.nil, fun _ z => nomatch z⟩
theorem paired_take {α β : Type} {R : α → β → Prop} : ∀ (n : Nat) {xs : List α} {ys : List β}, Paired R xs ys → Paired R (xs.take n) (ys.take n)
  | 0, _, _, _ => by rw [List.take_zero, List.take_zero]; exact .nil
  | n + 1, _, _, .nil => by rw [List.take_nil, List.take_nil]; exact .nil
  | n + 1, _, _, .cons h r => by rw [List.take_succ_cons, List.take_succ_cons]; exact .cons h (paired_take n r)
theorem GsAt.cut {H : Hp} {rs ns : List Str} {as : List Addr} {gs : List (List (List V))} (h : GsAt H rs ns as gs) (n : Nat) : GsAt H rs ns (as.take n) (gs.take n) := ⟨paired_take n h.pr, fun g m => h.ok g (List.mem_of_mem_take m)⟩
/-- the kinds so far -/
structure KsAt (H : Hp) (rs ns : List Str) (kas : List Addr) (ks : List Kd) : Prop where
  pr : Paired (fun a k => KdAt H a k) kas ks
  ok : ∀ k ∈ ks, KdOk rs ns k
theorem KsAt.ts {H H' : Hp} {rs ns : List Str} {kas : List Addr} {ks : List Kd} (h : KsAt H rs ns kas ks) (s : TSame H H') : KsAt H' rs ns kas ks := ⟨Paired.mono' (fun a b q => KdAt.ts q s) h.pr, h.ok⟩
theorem KsAt.snoc {H : Hp} {rs ns : List Str} {kas : List Addr} {ks : List Kd} {a : Addr} {k : Kd} (h : KsAt H rs ns kas ks) (e : KdAt H a k) (o : KdOk rs ns k) : KsAt H rs ns (kas ++ [a]) (ks ++ [k]) :=
  ⟨paired_snoc e h.pr, fun x m => by
    rcases List.mem_append.mp m with c | c
    · exact h.ok x c
    · rw [List.mem_singleton.mp c]; exact o⟩
theorem same_ts_new {H : Hp} {p : Addr} {o : HO} (h : H p = none) : TSame H (upd H p o) := TSame.of (same_upd h)
theorem TSame.tr {H H1 H2 : Hp} (s : TSame H H1) (t : TSame H1 H2) : TSame H H2 := fun b xs e => t b xs (s b xs e)
theorem grd_one {H : Hp} {a n : Addr} {its : List V} (e : H a = some (.tup [.ref n])) (e2 : H n = some (.tup its)) : Grd H a [its] := ⟨[n], e, .cons e2 .nil⟩
section
variable {P : Program} {w : World} {K : PySem.W.Frag} {mg : Str → Option Value} {base : Heap}
theorem scAny : FnScope ["bag", "kinds", "rows", "names", "found", "name", "grounds", "k"] ["bag", "kinds", "rows"] (defScope sAny) := ⟨rfl, rfl, rfl, by decide +kernel, rfl, by decide +kernel, by decide +kernel⟩
def spBook (H : Hp) (bg : Addr) (Q : VK) : Prop := ∀ (p : Addr) (rs : List Str) (ks : List Kd) (H' : Hp), Ext bg H H' → H p = none → rs.length ≤ 5 → BookAt H' p rs ks → BookOk rs ks → Q (.ref p) H'
def spAny : Sp := fun vs H Q _ => ∃ (bg : Addr) (n m : Int), vs = [.ref bg, .int n, .int m] ∧ Bag H bg ∧ 1 ≤ n ∧ n ≤ 5 ∧ 1 ≤ m ∧ m ≤ 5 ∧ spBook H bg Q
theorem ok_any {f fM fG fS fT : Addr} {fd fdM fdG fdS fdT : FuncData} (F : Fun K "_law_any_rulebook" "_law_any_rulebook" sAny f fd) (T : TxtC mg) (CN : Ct P w K mg base "_law_named" 3 ["bag", "many"] spNamed fM fdM) (CG : Ct P w K mg base "_law_ground" 5 ["bag", "rows", "names"] spGround fG fdG)
    (C : Ct P w K mg base "_law_some" 2 ["bag", "things"] spSome2 fS fdS) (CT : Ct P w K mg base "_law_take" 1 ["bag", "upto"] spTake fT fdT) : FnOk P w K mg base CX0 6 f fd ["bag", "kinds", "rows"] spAny := by
  refine F.ok scAny (fun vs H Q E h => ?_) (fun cdv A outer s H vs Q E hr h => ?_)
  · obtain ⟨bg, n, m, rfl, _⟩ := h
    rfl
  · obtain ⟨bg, n, m, rfl, hB, n1, n5, m1, m5, k⟩ := h
    have hr5 : Room 5 (A.deeper (envOfC "_law_any_rulebook" (defScope sAny) s.heap.objs.size f cdv)) := hr.mono (by decide)
    have hr3 : Room 3 (A.deeper (envOfC "_law_any_rulebook" (defScope sAny) s.heap.objs.size f cdv)) := hr.mono (by decide)
    have hr2 : Room 2 (A.deeper (envOfC "_law_any_rulebook" (defScope sAny) s.heap.objs.size f cdv)) := hr.mono (by decide)
    have hr1 : Room 1 (A.deeper (envOfC "_law_any_rulebook" (defScope sAny) s.heap.objs.size f cdv)) := hr.mono (by decide)
    have hu : (A.deeper (envOfC "_law_any_rulebook" (defScope sAny) s.heap.objs.size f cdv)).units + 64 < cLine := by have := hr.3; omega
    refine ⟨_, (pss_cons (ps_asg (pe_tup (pa_cons (pe_call CN.G hr3 (by rfl) CN.m CN.kp CN.b .nil pass0 (pa_cons (pv 0) (pa_cons (pe_op op_add pe_int (pe_call CT.G hr1 (by rfl) CT.m CT.kp CT.b .nil pass0 (pa_cons (pv 0) (pa_cons (pv 1) pa_nil)))) pa_nil)))
          (pa_cons (pe_call CN.G hr3 (by rfl) CN.m CN.kp CN.b .nil pass0 (pa_cons (pv 0) (pa_cons (pe_op op_add pe_int (pe_call CT.G hr1 (by rfl) CT.m CT.kp CT.b .nil pass0 (pa_cons (pv 0) (pa_cons (pv 2) pa_nil)))) pa_nil))) pa_nil)))
          (pg_tup (by rfl) (pgs_cons (pg_name (i := 3) scAny.nd rfl (Or.inr rfl)) (pgs_cons (pg_name (i := 2) scAny.nd rfl (Or.inr rfl)) pgs_nil))))
      (pss_cons (ps_set (i := 4) scAny.nd rfl (Or.inl rfl) (pe_lst pa_nil))
      (pss_cons (ps_for PassesOwn.never rfl (pi_tup (pv 3)) (pg_name (i := 5) scAny.nd rfl (Or.inl rfl))
        (pss_cons (ps_setLc (i := 6) (own := [("k", 7)]) (g := gName 7) (by rfl) scAny.nd rfl rfl (sw_true rfl rfl rfl (by decide +kernel))
            (pi_range1 rfl T.b.range (pa_cons (pe_call C.G hr2 (by rfl) C.m C.kp C.b .nil pass0 (pa_cons (pv 0) (pa_cons (pe_lst (pa_cons pe_int (pa_cons pe_int (pa_cons pe_int (pa_cons pe_int (pa_cons pe_int (pa_cons pe_int pa_nil))))))) pa_nil))) pa_nil))
            (blkOk_by (own := [("k", 7)]) (N := ["bag", "kinds", "rows", "names", "found", "name", "grounds", "k"]) (sc := defScope sAny) (by decide +kernel)) (fun _ _ _ _ _ => pg_name (i := 7) scAny.nd rfl (Or.inl rfl)) (fun _ _ _ _ _ => pts_nil)
            (fun _ _ _ _ _ => pe_call CG.G hr5 (by rfl) CG.m CG.kp CG.b .nil pass0 (pa_cons (pv 0) (pa_cons (pv 2) (pa_cons (pv 3) pa_nil)))))
        (pss_cons (ps_if (pt_cmpR op_eq (pe_call CT.G hr1 (by rfl) CT.m CT.kp CT.b .nil pass0 (pa_cons (pv 0) (pa_cons pe_int pa_nil))) pe_int (nomark _))
            (pss_one (ps_set (i := 6) scAny.nd rfl (Or.inl rfl) (pe_op op_cat (pe_slice sl_list (pv 6) po_none (po_some pe_int)) (pe_lst (pa_cons (pe_tup (pa_cons (pe_tup (pa_cons pe_str
              (pa_cons (pe_call C.G hr2 (by rfl) C.m C.kp C.b .nil pass0 (pa_cons (pv 0) (pa_cons (pv 2) pa_nil))) (pa_cons (pe_call CT.G hr1 (by rfl) CT.m CT.kp CT.b .nil pass0 (pa_cons (pv 0) (pa_cons pe_int pa_nil))) (pa_cons pe_int pa_nil))))) pa_nil)) pa_nil))))) pss_nil)
        (pss_one (ps_expr (pe_bm PySem.F.plainAttrs_list PySem.F.slot_list_append PySem.F.type_list_append mt_append (pv 4) (pa_cons (pe_tup (pa_cons (pv 5) (pa_cons (pe_op op_add pe_int (pe_call CT.G hr1 (by rfl) CT.m CT.kp CT.b .nil pass0 (pa_cons (pv 0) (pa_cons pe_int pa_nil))))
            (pa_cons (pe_call C.G hr2 (by rfl) C.m C.kp C.b .nil pass0 (pa_cons (pv 0) (pa_cons (pe_lst (pa_cons pe_int (pa_cons pe_int (pa_cons pe_int (pa_cons pe_int (pa_cons pe_int (pa_cons pe_int pa_nil))))))) pa_nil)))
            (pa_cons (pe_callTy call_tupOf (by rfl) T.tup (by decide +kernel) (pa_cons (pe_callB (cr_sortN rfl hu) (by rfl) T.sor (by decide +kernel) (pa_cons (pe_callTy (cr_setN rfl hu) (by rfl) T.set (by decide +kernel) (pa_cons (pv 6) pa_nil)) pa_nil)) pa_nil)) pa_nil))))) pa_nil)))))))
      (pss_one (ps_ret (pe_tup (pa_cons (pv 2) (pa_cons (pe_callTy call_tuple_of (by rfl) T.tup (by decide +kernel) (pa_cons (pv 4) pa_nil)) pa_nil)))))))), ?_⟩
    have sz : ∀ {m : Nat}, m ≤ 900 → m ≤ sizeLine := fun h => Nat.le_of_lt (small1000 (by omega))
    refine ⟨_, rfl, _, rfl, _, rfl, bg, _, rfl, hB, by omega, by omega, fun z1 H1 E1 a0 a1 => ?_⟩
    refine ⟨_, _, rfl, rfl, bg, _, rfl, E1.bag, by omega, by omega, fun nt ns H2 E2 nnt ent hns lns => ?_⟩
    have E12 := E1.trans E2
    refine ⟨_, rfl, _, rfl, _, rfl, bg, _, rfl, E12.bag, by omega, by omega, fun z2 H3 E3 b0 b1 => ?_⟩
    have E13 := E12.trans E3
    refine ⟨_, _, rfl, rfl, bg, _, rfl, E13.bag, by omega, by omega, fun rt rs H4 E4 nrt ert hrs lrs => ?_⟩
    have E14 := E13.trans E4
    have ntb : nt ≠ bg := fun z => (E1.bag.there) (z ▸ nnt)
    have rtb : rt ≠ bg := fun z => (E13.bag.there) (z ▸ nrt)
    have ent4 := E4.keep nt _ ntb (E3.keep nt _ ntb ent)
    refine ⟨sz (by show 2 ≤ 900; decide), fun t nt' => ?_⟩
    refine ⟨t, _, rfl, SqT.of upd_same, by rfl, _, _, rfl, _, _, rfl, rfl, ?_⟩
    have E15 := E14.new (o := .tup [.ref nt, .ref rt]) nt'
    have e1 := same_upd (o := .tup [.ref nt, .ref rt]) nt' _ _ ent4
    have e2 := same_upd (o := .tup [.ref nt, .ref rt]) nt' _ _ ert
    generalize upd H4 t (.tup [.ref nt, .ref rt]) = H5 at E15 e1 e2 ⊢
    refine ⟨Nat.zero_le _, fun p np => ?_⟩
    have nl : ns.length = (1 + z1).toNat := lns
    have rl : rs.length = (1 + z2).toNat := lrs
    have pH : H p = none := newAt E15 np
    have pb : p ≠ bg := fun z => hB.there (z ▸ pH)
    refine ⟨_, rfl, nt, rfl, ⟨_, SqT.of (same_upd np _ _ e1)⟩, for_tup (K := K) (a := nt) (xs := ns.map V.str) (fun i σ' G => (∃ x5 x6 x7 : Option V, σ' = [some (.ref bg), some (.int n), some (.ref rt), some (.ref nt), some (.ref p), x5, x6, x7]) ∧ Ext bg H G ∧ G nt = some (.tup (ns.map V.str)) ∧ G rt = some (.tup (rs.map V.str)) ∧
      ∃ (kas : List Addr) (ks : List Kd), G p = some (.lst (kas.map V.ref)) ∧ KsAt G rs ns kas ks ∧ ks.map Kd.name = ns.take i) ?_ ?_ ?_ ?_⟩
    · exact ⟨⟨_, _, _, rfl⟩, E15.new np, same_upd np _ _ e1, same_upd np _ _ e2, [], [], upd_same, ⟨.nil, fun _ z => nomatch z⟩, rfl⟩
    · rintro i σ' G _ ⟨_, _, g1, _⟩
      exact SqT.of g1
    · rintro i x σ' G hx ⟨⟨x5, x6, x7, rfl⟩, E6, g1, g2, kas, ks, gp, hk, en⟩
      rw [List.getElem?_map] at hx
      obtain ⟨nm, hnm, rfl⟩ := Option.map_eq_some_iff.mp hx
      refine ⟨_, rfl, sz (by show 6 ≤ 900; decide), fun q nq => ?_⟩
      have qb : q ≠ bg := fun z => E6.bag.there (z ▸ nq)
      have E7 := E6.new (o := .lst [.int 1, .int 2, .int 2, .int 3, .int 4, .int 0]) nq
      refine ⟨bg, q, _, rfl, E7.bag, qb, .inl upd_same, by decide, by decide, fun v H7 mv E8 => ?_⟩
      obtain ⟨z, rfl, z0, z4⟩ := ints_in (ns := [1, 2, 2, 3, 4, 0]) (lo := 0) (hi := 4) (by decide) mv
      have E68 := E7.trans E8
      have old : ∀ c o, c ≠ bg → G c = some o → H7 c = some o := fun c o cb e => E8.keep c o cb (same_upd nq _ _ e)
      have f1 := old nt _ ntb g1
      have f2 := old rt _ rtb g2
      have f3 := old p _ pb gp
      have hk7 : KsAt H7 rs ns kas ks := hk.ts ((same_ts_new nq).tr (TSame.ext E7.bag E8))
      refine ⟨z, rfl, by omega, by omega, fun D hD => lc_range (fun j G2 => Ext bg H7 G2 ∧ ∃ (as : List Addr) (gs : List (List (List V))), as.length = j ∧ G2 D = some (.lst (as.map V.ref)) ∧ GsAt G2 rs ns as gs) ?_ ?_ ?_⟩
      · exact ⟨(Ext.of_same E68.bag Same.refl').new hD, [], [], rfl, upd_same, GsAt.nil⟩
      · rintro j G2 hj ⟨E9, as, gs, la, gD, hg⟩
        refine ⟨rfl, ?_⟩
        unfold tYes
        dsimp only
        have Db : D ≠ bg := fun z => E68.bag.there (z ▸ hD)
        refine iteT ⟨_, rfl, _, rfl, _, rfl, bg, rt, nt, rs, ns, rfl, E9.bag, rtb, ntb, E9.keep rt _ rtb f2, E9.keep nt _ ntb f1, by omega, by omega, by omega, by omega, fun a g G3 E10 na ha p1 p2 p3 => ?_⟩
        have gD3 := E10.keep D _ Db gD
        refine ⟨_, gD3, small1000 (by rw [List.length_map]; omega), ?_, as ++ [a], gs ++ [g], by rw [List.length_append, la]; rfl, by rw [upd_same, List.map_append]; rfl, ?_⟩
        · exact Ext.write E68.bag (E9.trans E10) hD
        · exact ((hg.ts (TSame.ext E9.bag E10)).snoc ha ⟨p1, p2, p3⟩).ts (ts_lst gD3)
      · rintro G2 ⟨E9, as, gs, la, gD, hg⟩
        have pD : p ≠ D := fun z => by rw [← z, f3] at hD; cases hD
        have l4 : as.length ≤ 4 := by omega
        dsimp only [gName]
        refine seqGo (fun b D' => ∀ (ga : Addr) (bs : List Addr) (hs : List (List (List V))) (G4 : Hp), Ext bg H7 G4 → G4 ga = some (.lst (bs.map V.ref)) → GsAt G4 rs ns bs hs → bs.length ≤ 4 →
          b D' [some (.ref bg), some (.int n), some (.ref rt), some (.ref nt), some (.ref p), some (.str nm), some (.ref ga), x7] G4) (fun ga bs hs G4 E11 gg hgs lb => ?_) (fun rest => ?_)
        · have gp4 := E11.keep p _ pb f3
          refine ⟨_, rfl, .inl ⟨rfl, _, SqL.of gp4⟩, _, rfl, _, rfl, bg, 8, rfl, E11.bag, by decide, by decide, fun y1 G5 E12 c0 c1 => ?_⟩
          refine ⟨_, _, rfl, rfl, _, rfl, sz (by show 6 ≤ 900; decide), fun q2 nq2 => ?_⟩
          have E13 := E12.new (o := .lst [.int 0, .int 0, .int 1, .int 2, .int 5, .int 12]) nq2
          have q2b : q2 ≠ bg := fun z => E12.bag.there (z ▸ nq2)
          refine ⟨bg, q2, _, rfl, E13.bag, q2b, .inl upd_same, by decide, by decide, fun v2 G6 mv2 E14 => ?_⟩
          obtain ⟨bar, rfl, bar0, bar12⟩ := ints_in (ns := [0, 0, 1, 2, 5, 12]) (lo := 0) (hi := 12) (by decide) mv2
          have E15 := E13.trans E14
          have gab : ga ≠ bg := fun z => by
            obtain ⟨c, st, i, b2, ms, e, _⟩ := E11.bag
            rw [← z, gg] at e
            injection e with e; injection e with e
            match bs, e with
            | [], e => cases e
            | _ :: _, e => rw [List.map_cons] at e; injection e with e; cases e
          have hgs6 := hgs.ts (TSame.ext E11.bag E15)
          refine ⟨_, rfl, ?_⟩
          dsimp only [tCB, tCons, tNil]
          refine order_grounds (K := K) (w := w) (rows := rs) (names := ns) (.inl (SqL.of (E15.keep ga _ gab gg))) hgs6.pr (fun g m => ⟨(hgs6.ok g m).1, (hgs6.ok g m).2.2⟩) lb fun a2 bs2 gs2 G7 S na2 ea2 pr2 sub le => ?_
          have gp7 := S _ _ (E15.keep p _ pb gp4)
          refine ⟨sz (by show 4 ≤ 900; decide), fun ka nka => ?_⟩
          have S8 := same_upd (o := .tup [.str nm, .int (1 + y1), .int bar, .ref a2]) nka
          have hli := paired_len hk.pr
          have hik : ks.length = i := by
            have := congrArg List.length en
            rw [List.length_map, List.length_take] at this
            have hi := (List.getElem?_eq_some_iff.mp hnm).1
            omega
          have hi := (List.getElem?_eq_some_iff.mp hnm).1
          refine ⟨p, _, _, rfl, rfl, S8 _ _ gp7, small1000 (by rw [List.length_map]; omega), ?_⟩
          have E17 : Ext bg H7 (upd G7 ka (.tup [.str nm, .int (1 + y1), .int bar, .ref a2])) := ((E11.trans E15).trans (Ext.of_same E15.bag S)).new nka
          have T7 : TSame H7 (upd G7 ka (.tup [.str nm, .int (1 + y1), .int bar, .ref a2])) := TSame.ext E68.bag E17
          have tw := ts_lst (ys := kas.map V.ref ++ [.ref ka]) (S8 _ _ gp7)
          have lens : gs2.length ≤ 4 := by have := paired_len hgs.pr; omega
          refine ⟨⟨_, _, _, rfl⟩, Ext.write hB (E68.trans E17) pH, tw _ _ (T7 _ _ f1), tw _ _ (T7 _ _ f2), kas ++ [ka], ks ++ [⟨nm, 1 + y1, bar, gs2⟩], by rw [upd_same, List.map_append]; rfl, ?_, ?_⟩
          · refine (((hk7.ts T7).snoc ?_ ?_).ts tw)
            · exact ⟨a2, bs2, upd_same, S8 _ _ ea2, Paired.mono' (fun a b q => Grd.ts q (TSame.of S8)) pr2⟩
            · exact ⟨⟨by show 1 ≤ 1 + y1; omega, by show 1 + y1 ≤ 8; omega, bar0, bar12, lens⟩, fun g m => hgs.ok g (sub g m)⟩
          · rw [List.map_append, en, List.take_add_one, hnm]; rfl
        · have Db : D ≠ bg := fun z => E68.bag.there (z ▸ hD)
          refine ⟨_, rfl, bg, 3, rfl, E9.bag, by decide, by decide, fun y G3 E10 c0 c1 => ?_⟩
          have gD3 := E10.keep D _ Db gD
          have hg3 := hg.ts (TSame.ext E9.bag E10)
          have E93 := E9.trans E10
          refine ⟨rfl, _, rfl, ite2 (fun hc => ?_) fun hc => ?_⟩
          · refine ⟨_, rfl, _, rfl, _, _, rfl, SqL.of gD3, fun r nr => ?_⟩
            rw [cut_to _ 3 (by decide), ← List.map_take, show (3 : Int).toNat = 3 from rfl]
            have Er := E93.new (o := .lst ((as.take 3).map V.ref)) nr
            have hgr := hg3.ts (same_ts_new (o := .lst ((as.take 3).map V.ref)) nr)
            have rb : r ≠ bg := fun z => E93.bag.there (z ▸ nr)
            have gr : (upd G3 r (.lst ((as.take 3).map V.ref))) r = some (.lst ((as.take 3).map V.ref)) := upd_same
            have hrt := Er.keep rt _ rtb f2
            generalize upd G3 r (.lst ((as.take 3).map V.ref)) = G5 at Er hgr gr hrt ⊢
            refine ⟨_, rfl, _, rfl, bg, rt, rs.map V.str, rfl, Er.bag, rtb, .inr hrt, by rw [List.length_map]; omega, by rw [List.length_map]; omega, fun v2 G6 mv2 E12 => ?_⟩
            obtain ⟨x, rfl, hxr⟩ := strs_in mv2
            refine ⟨_, rfl, bg, 5, rfl, E12.bag, by decide, by decide, fun y2 G7 E13 d0 d1 => ?_⟩
            have E57 := E12.trans E13
            have gr7 := E57.keep r _ rb gr
            have hg7 := hgr.ts (TSame.ext Er.bag E57)
            have E97 := Er.trans E57
            refine ⟨sz (by show 4 ≤ 900; decide), fun na nna => ⟨sz (by show 1 ≤ 900; decide), fun ga nga => ⟨sz (by show 1 ≤ 900; decide), fun l nl2 => ?_⟩⟩⟩
            have S1 := same_upd (o := .tup [.str "row", .str x, .int y2, .int 9]) nna
            have S2 := KaG.Same.tr S1 (same_upd (o := .tup [.ref na]) nga)
            have S3 := KaG.Same.tr S2 (same_upd (o := .lst [.ref ga]) nl2)
            have h1 : (upd (upd (upd G7 na (.tup [.str "row", .str x, .int y2, .int 9])) ga (.tup [.ref na])) l (.lst [.ref ga])) na = some (.tup [.str "row", .str x, .int y2, .int 9]) := KaG.Same.tr (same_upd nga) (same_upd nl2) _ _ upd_same
            have h2 : (upd (upd (upd G7 na (.tup [.str "row", .str x, .int y2, .int 9])) ga (.tup [.ref na])) l (.lst [.ref ga])) ga = some (.tup [.ref na]) := same_upd nl2 _ _ upd_same
            have h3 : (upd (upd (upd G7 na (.tup [.str "row", .str x, .int y2, .int 9])) ga (.tup [.ref na])) l (.lst [.ref ga])) l = some (.lst [.ref ga]) := upd_same
            generalize upd (upd (upd G7 na (.tup [.str "row", .str x, .int y2, .int 9])) ga (.tup [.ref na])) l (.lst [.ref ga]) = G8 at S3 h1 h2 h3 ⊢
            refine ⟨_, _, _, _, rfl, rfl, S3 _ _ gr7, h3, sz (by rw [List.length_map, List.length_take]; show _ + 1 ≤ 900; omega), fun q3 nq3 => ?_⟩
            have S4 := KaG.Same.tr S3 (same_upd (o := .lst ((as.take 3).map V.ref ++ [.ref ga])) nq3)
            refine rest q3 (as.take 3 ++ [ga]) (gs.take 3 ++ [[[.str "row", .str x, .int y2, .int 9]]]) _ (E97.trans (Ext.of_same E97.bag S4)) (by rw [upd_same, List.map_append]; rfl) ?_ (by rw [List.length_append, List.length_take]; show _ + 1 ≤ 4; omega)
            refine ((hg7.ts (TSame.of S4)).cut 3).snoc (grd_one (same_upd nq3 _ _ h2) (same_upd nq3 _ _ h1)) ⟨by show 0 < 1; decide, by show 1 ≤ 3; decide, fun n2 m2 => ?_⟩
            rw [List.mem_singleton.mp m2]
            exact .row x y2 9 hxr d0 (by omega) (by decide) (by decide)
          · exact rest D as gs G3 E93 gD3 hg3 l4
    · rintro σ' G ⟨⟨x5, x6, x7, rfl⟩, E6, g1, g2, kas, ks, gp, hk, en⟩
      rw [List.length_map, List.take_length] at en
      refine ⟨_, rfl, _, rfl, p, _, rfl, .inl ⟨SqL.of gp, fun q nq => ?_⟩⟩
      refine ⟨sz (by show 2 ≤ 900; decide), fun b nb => ?_⟩
      have S1 := same_upd (o := .tup (kas.map V.ref)) nq
      have S2 := KaG.Same.tr S1 (same_upd (o := .tup [.ref rt, .ref q]) nb)
      refine k b rs ks _ (E6.trans (Ext.of_same E6.bag S2)) (newAt (E6.trans (Ext.of_same E6.bag S1)) nb) (by omega) ⟨rt, q, kas, upd_same, S2 _ _ g2, same_upd nb _ _ upd_same, (hk.ts (TSame.of S2)).pr⟩ ?_
      exact book_ok hrs hns (by omega) (by omega) (by omega) en hk.ok
end
end KaG
set_option maxRecDepth 100000
set_option maxHeartbeats 4000000
namespace KaG
open PySem PySem.Spec PyProof.Rows L2 KaN
theorem set_same {α : Type} : ∀ {l : List α} {j : Nat} {x : α}, l[j]? = some x → l.set j x = l
  | [], _, _, _ => rfl
  | y :: l, 0, x, e => by cases e; rfl
  | y :: l, j + 1, x, e => by rw [List.set_cons_succ, set_same (show l[j]? = some x from e)]
theorem at_str {ns : List Str} {z : Int} (h0 : 0 ≤ z) (h1 : z < ns.length) : ∃ x ∈ ns, atI (ns.map V.str) z = some (.str x) := by
  obtain ⟨j, rfl⟩ := Int.eq_ofNat_of_zero_le h0
  have hj : j < ns.length := by omega
  exact ⟨ns[j], List.getElem_mem hj, atI_nat (by rw [List.getElem?_map, List.getElem?_eq_getElem hj]; rfl)⟩
theorem ifGo {tt : TT} {b e : TS} {D : Ends} {σ : L2.St} {H : Hp} (R : Hp → Prop) (hb : ∀ M, R M → b D σ M) (he : ∀ M, R M → e D σ M) (hm : ∀ Q : Bool → Hp → Prop, (∀ c M, R M → Q c M) → tt σ H Q) : tIfS tt b e D σ H :=
  hm _ fun c M r => by
    cases c
    · exact iteF (he M r)
    · exact iteT (hb M r)
theorem pickGo {tt : TT} {ta tb : TE} {σ : L2.St} {H : Hp} {Q : VK} (R : V → Prop) (k : ∀ v, R v → Q v H) (ht : ∀ Q' : Bool → Hp → Prop, (∀ c, Q' c H) → tt σ H Q') (ha : ∀ Q' : VK, (∀ v, R v → Q' v H) → ta σ H Q') (hb : ∀ Q' : VK, (∀ v, R v → Q' v H) → tb σ H Q') : tIf tt ta tb σ H Q :=
  ht _ fun c => by
    cases c
    · exact iteF (hb _ k)
    · exact iteT (ha _ k)
/-- a kind while it is made: a list, with the list of its grounds -/
structure KlAt (H0 H : Hp) (bg p : Addr) (rs ns : List Str) (l : Addr) (d : Kd) (gl : Addr) (as : List Addr) : Prop where
  at_ : H l = some (.lst [.str d.name, .int d.keep, .int d.bar, .ref gl])
  gat : H gl = some (.lst (as.map V.ref))
  gs : GsAt H rs ns as d.gs
  ln : H0 l = none
  lb : l ≠ bg
  lp : l ≠ p
  gb : gl ≠ bg
  gp : gl ≠ p
abbrev Kl (H0 H : Hp) (bg p : Addr) (rs ns : List Str) (l : Addr) (d : Kd) : Prop := ∃ gl as, KlAt H0 H bg p rs ns l d gl as
theorem lst_ne {H : Hp} {a b : Addr} {xs : List Addr} {s : Str} {r : List V} (e : H a = some (.lst (xs.map V.ref))) (f : H b = some (.lst (.str s :: r))) : a ≠ b := fun z => by
  rw [z, f] at e
  injection e with e
  injection e with e
  cases xs with
  | nil => cases e
  | cons x xs => rw [List.map_cons] at e; injection e with e; cases e
theorem Kl.mono {H0 H H' : Hp} {bg p : Addr} {rs ns : List Str} {l : Addr} {d : Kd} (h : Kl H0 H bg p rs ns l d) (t : TSame H H') (k : ∀ b o, b ≠ bg → b ≠ p → H b = some o → H' b = some o) : Kl H0 H' bg p rs ns l d := by
  obtain ⟨gl, as, q⟩ := h
  exact ⟨gl, as, k _ _ q.lb q.lp q.at_, k _ _ q.gb q.gp q.gat, q.gs.ts t, q.ln, q.lb, q.lp, q.gb, q.gp⟩
def KlOk (m : Nat) (d : Kd) : Prop := 1 ≤ d.keep ∧ d.keep ≤ 8 ∧ 0 ≤ d.bar ∧ d.bar ≤ 12 ∧ d.gs.length ≤ m
structure FAt (H0 H : Hp) (bg p : Addr) (rs ns : List Str) (m : Nat) (ls : List Addr) (ds : List Kd) : Prop where
  at_ : H p = some (.lst (ls.map V.ref))
  pr : Paired (fun l d => Kl H0 H bg p rs ns l d) ls ds
  nd : ls.Nodup
  ok : ∀ d ∈ ds, KlOk m d
theorem FAt.ext {H0 H H' : Hp} {bg p : Addr} {rs ns : List Str} {m : Nat} {ls : List Addr} {ds : List Kd} (h : FAt H0 H bg p rs ns m ls ds) (pb : p ≠ bg) (hb : Bag H bg) (E : Ext bg H H') : FAt H0 H' bg p rs ns m ls ds :=
  ⟨E.keep _ _ pb h.at_, Paired.mono' (fun l d q => Kl.mono q (TSame.ext hb E) fun b o n1 _ e => E.keep b o n1 e) h.pr, h.nd, h.ok⟩
theorem paired_there {α β : Type} {R : α → β → Prop} {C : α → Prop} (hc : ∀ a b, R a b → C a) : ∀ {xs : List α} {ys : List β}, Paired R xs ys → ∀ a ∈ xs, C a
  | _, _, .nil, _, m => by cases m
  | _, _, .cons h r, a, m => by
    rcases List.mem_cons.mp m with c | c
    · rw [c]; exact hc _ _ h
    · exact paired_there hc r a c
theorem FAt.snoc {H0 H : Hp} {bg p : Addr} {rs ns : List Str} {m : Nat} {ls : List Addr} {ds : List Kd} {l : Addr} {d : Kd} (h : FAt H0 H bg p rs ns m ls ds) (q : Kl H0 H bg p rs ns l d) (o : KlOk m d) (n : l ∉ ls) : FAt H0 (upd H p (.lst (ls.map V.ref ++ [.ref l]))) bg p rs ns m (ls ++ [l]) (ds ++ [d]) :=
  ⟨by rw [upd_same, List.map_append]; rfl, Paired.mono' (fun l d q => Kl.mono q (ts_lst h.at_) fun b o _ n2 e => by rw [upd_ne n2]; exact e) (paired_snoc q h.pr),
    by rw [List.nodup_append]; exact ⟨h.nd, by simp, fun a m b m2 => by rw [List.mem_singleton.mp m2]; exact fun z => n (z ▸ m)⟩, fun x m => by
    rcases List.mem_append.mp m with c | c
    · exact h.ok x c
    · rw [List.mem_singleton.mp c]; exact o⟩
theorem paired_set {α β : Type} {R S : α → β → Prop} : ∀ {xs : List α} {ys : List β} (j : Nat) (y : β), Paired R xs ys → (∀ i x z, xs[i]? = some x → ys[i]? = some z → i ≠ j → R x z → S x z) → (∀ x, xs[j]? = some x → S x y) → Paired S xs (ys.set j y)
  | _, _, _, _, .nil, _, _ => .nil
  | _, _, 0, y, .cons h r, f, g => by
    rw [List.set_cons_zero]
    refine .cons (g _ rfl) ?_
    have go : ∀ {as : List α} {bs : List β} (n : Nat), Paired R as bs → (∀ (i : Nat) (x : α) (z : β), as[i]? = some x → bs[i]? = some z → R x z → S x z) → Paired S as bs := by
      intro as bs n q
      induction q with
      | nil => exact fun _ => .nil
      | cons h _ ih => exact fun f => .cons (f 0 _ _ rfl rfl h) (ih fun i x z e1 e2 => f (i + 1) x z e1 e2)
    exact go 0 r fun i x z e1 e2 => f (i + 1) x z e1 e2 (Nat.succ_ne_zero i)
  | _, _, j + 1, y, .cons h r, f, g => by
    rw [List.set_cons_succ]
    exact .cons (f 0 _ _ rfl rfl (Nat.succ_ne_zero j).symm h) (paired_set j y r (fun i x z e1 e2 n => f (i + 1) x z e1 e2 (by omega)) fun x e => g x e)
/-- the list of one kind's grounds exchanged -/
theorem FAt.put {H0 H : Hp} {bg p : Addr} {rs ns : List Str} {m : Nat} {ls : List Addr} {ds : List Kd} {l q : Addr} {d : Kd} {as : List Addr} {gs : List (List (List V))} {j : Nat} (h : FAt H0 H bg p rs ns m ls ds) (hl : ls[j]? = some l) (hd : ds[j]? = some d)
    (hq : H q = some (.lst (as.map V.ref))) (g : GsAt H rs ns as gs) (qb : q ≠ bg) (qp : q ≠ p) (n : gs.length ≤ m) :
    FAt H0 (upd H l (.lst [.str d.name, .int d.keep, .int d.bar, .ref q])) bg p rs ns m ls (ds.set j { d with gs := gs }) := by
  obtain ⟨d1, e1, gl, as1, k⟩ := paired_at h.pr hl
  rw [hd] at e1
  cases e1
  have tl : TSame H (upd H l (.lst [.str d.name, .int d.keep, .int d.bar, .ref q])) := ts_lst k.at_
  have ql : q ≠ l := lst_ne hq k.at_
  refine ⟨by rw [upd_ne k.lp.symm]; exact h.at_, paired_set j _ h.pr (fun i x z e1 e2 nij k2 => ?_) fun x e => ?_, h.nd, fun x hx => ?_⟩
  · obtain ⟨gl2, as2, k2⟩ := k2
    have xl : x ≠ l := fun z => by
      subst z
      have h1 := (List.getElem?_eq_some_iff.mp e1).1
      have h2 := (List.getElem?_eq_some_iff.mp hl).1
      exact nij ((List.getElem_inj (h₀ := h1) (h₁ := h2) h.nd).mp ((List.getElem?_eq_some_iff.mp e1).2.trans (List.getElem?_eq_some_iff.mp hl).2.symm))
    exact ⟨gl2, as2, by rw [upd_ne xl]; exact k2.at_, by rw [upd_ne (lst_ne k2.gat k.at_)]; exact k2.gat, k2.gs.ts tl, k2.ln, k2.lb, k2.lp, k2.gb, k2.gp⟩
  · rw [hl] at e
    cases e
    exact ⟨q, as, upd_same, by rw [upd_ne ql]; exact hq, g.ts tl, k.ln, k.lb, k.lp, qb, qp⟩
  · rcases List.mem_or_eq_of_mem_set hx with c | c
    · exact h.ok x c
    · rw [c]
      have o := h.ok d (List.mem_of_getElem? hd)
      exact ⟨o.1, o.2.1, o.2.2.1, o.2.2.2.1, n⟩
theorem FAt.wide {H0 H : Hp} {bg p : Addr} {rs ns : List Str} {m m' : Nat} {ls : List Addr} {ds : List Kd} (h : FAt H0 H bg p rs ns m ls ds) (n : m ≤ m') : FAt H0 H bg p rs ns m' ls ds :=
  ⟨h.at_, h.pr, h.nd, fun d x => let ⟨a, b, c, e, f⟩ := h.ok d x; ⟨a, b, c, e, Nat.le_trans f n⟩⟩
def rLstOf (K : PySem.W.Frag) : List V → Hp → VK → Prop := fun xs H Q => ∃ p ys, xs = [.ref p] ∧ (SqL K H p ys ∨ SqT K H p ys) ∧ ∀ l, H l = none → Q (.ref l) (upd H l (.lst ys))
theorem call_lstOf {X : Cx} : CallR X (.type "list") (rLstOf X.K) := call_list_of
section
variable {P : Program} {w : World} {K : PySem.W.Frag} {mg : Str → Option Value} {base : Heap}
abbrev nmPl : List Str := ["bag", "sort", "kinds", "names", "rows", "found", "ring", "k", "after", "tells", "tell", "giver", "grounds", "kind", "kept", "ground", "name", "keep", "bar"]
theorem scPl : FnScope nmPl ["bag", "sort", "kinds"] (defScope sPlanted) := ⟨rfl, rfl, rfl, by decide +kernel, rfl, by decide +kernel, by decide +kernel⟩
def spPl : Sp := fun vs H Q _ => ∃ (bg : Addr) (so : Str) (n : Int), vs = [.ref bg, .str so, .int n] ∧ Bag H bg ∧ (so = "ever" ∨ so = "longer" ∨ so = "gone" ∨ so = "none") ∧ 1 ≤ n ∧ n ≤ 5 ∧ spBook H bg Q
theorem ok_pl {f fM fG fO fS fT : Addr} {fd fdM fdG fdO fdS fdT : FuncData} (F : Fun K "_law_planted" "_law_planted" sPlanted f fd) (T : TxtC mg) (CN : Ct P w K mg base "_law_named" 3 ["bag", "many"] spNamed fM fdM) (CG : Ct P w K mg base "_law_ground" 5 ["bag", "rows", "names"] spGround fG fdG)
    (CO : Ct P w K mg base "_law_more_needs" 3 ["bag", "sort", "rows"] spMore fO fdO) (C : Ct P w K mg base "_law_some" 2 ["bag", "things"] spSome2 fS fdS) (CT : Ct P w K mg base "_law_take" 1 ["bag", "upto"] spTake fT fdT) : FnOk P w K mg base CX0 6 f fd ["bag", "sort", "kinds"] spPl := by
  refine F.ok scPl (fun vs H Q E h => ?_) (fun cdv A outer s H vs Q E hr h => ?_)
  · obtain ⟨bg, so, n, rfl, _⟩ := h
    rfl
  · obtain ⟨bg, so, n, rfl, hB, hso, n1, n5, k⟩ := h
    have hr5 : Room 5 (A.deeper (envOfC "_law_planted" (defScope sPlanted) s.heap.objs.size f cdv)) := hr.mono (by decide)
    have hr3 : Room 3 (A.deeper (envOfC "_law_planted" (defScope sPlanted) s.heap.objs.size f cdv)) := hr.mono (by decide)
    have hr2 : Room 2 (A.deeper (envOfC "_law_planted" (defScope sPlanted) s.heap.objs.size f cdv)) := hr.mono (by decide)
    have hr1 : Room 1 (A.deeper (envOfC "_law_planted" (defScope sPlanted) s.heap.objs.size f cdv)) := hr.mono (by decide)
    have hu : (A.deeper (envOfC "_law_planted" (defScope sPlanted) s.heap.objs.size f cdv)).units + 64 < cLine := by have := hr.3; omega
    have u1 : (A.deeper (envOfC "_law_planted" (defScope sPlanted) s.heap.objs.size f cdv)).units + 1 < cLine := by have := hr.3; omega
    refine ⟨_, (pss_cons (ps_asg (pe_tup (pa_cons (pe_call CN.G hr3 (by rfl) CN.m CN.kp CN.b .nil pass0 (pa_cons (pv 0) (pa_cons (pe_op op_add pe_int (pe_call CT.G hr1 (by rfl) CT.m CT.kp CT.b .nil pass0 (pa_cons (pv 0) (pa_cons (pv 2) pa_nil)))) pa_nil)))
          (pa_cons (pe_call CN.G hr3 (by rfl) CN.m CN.kp CN.b .nil pass0 (pa_cons (pv 0) (pa_cons pe_int pa_nil))) pa_nil)))
          (pg_tup (by rfl) (pgs_cons (pg_name (i := 3) scPl.nd rfl (Or.inr rfl)) (pgs_cons (pg_name (i := 4) scPl.nd rfl (Or.inr rfl)) pgs_nil))))
      (pss_cons (ps_par (i := 5) (j := 6) rfl scPl.nd rfl rfl (by decide) rfl rfl (pa_cons (pe_lst pa_nil) (pa_cons (pe_op op_add pe_int (pe_call CT.G hr1 (by rfl) CT.m CT.kp CT.b .nil pass0 (pa_cons (pv 0) (pa_cons (pe_callB call_len_seq (by rfl) T.b.len PySem.boot_len (pa_cons (pv 3) pa_nil)) pa_nil)))) pa_nil)) (by rfl))
      (pss_cons (ps_for PassesOwn.never rfl (pi_range1 rfl T.b.range (pa_cons (pe_callB call_len_seq (by rfl) T.b.len PySem.boot_len (pa_cons (pv 3) pa_nil)) pa_nil)) (pg_name (i := 7) scPl.nd rfl (Or.inl rfl))
        (pss_cons (ps_set (i := 8) scPl.nd rfl (Or.inl rfl) (pe_op op_add pe_int (pe_call CT.G hr1 (by rfl) CT.m CT.kp CT.b .nil pass0 (pa_cons (pv 0) (pa_cons pe_int pa_nil)))))
        (pss_cons (ps_set (i := 9) scPl.nd rfl (Or.inl rfl) (pe_disp (pps_cons pe_str (pe_op op_add (pv 8) (pe_call CT.G hr1 (by rfl) CT.m CT.kp CT.b .nil pass0 (pa_cons (pv 0) (pa_cons (pe_op op_sub pe_int (pv 8)) pa_nil))))
            (pps_cons pe_str (pe_call CT.G hr1 (by rfl) CT.m CT.kp CT.b .nil pass0 (pa_cons (pv 0) (pa_cons (pv 8) pa_nil))) (pps_cons pe_str pe_int (pps_cons pe_str pe_int pps_nil)))) rfl rfl (by decide) (by decide)))
        (pss_cons (ps_set (i := 10) scPl.nd rfl (Or.inl rfl) (pe_dget u1 (pv 9) (pv 1) (fun _ _ => rfl)))
        (pss_cons (ps_set (i := 11) scPl.nd rfl (Or.inl rfl) (pe_ifExp (pt_cmpR op_gt (pv 7) pe_int (nomark _)) (pe_ix ix_tup (pv 3) (pe_op op_sub (pv 7) pe_int) (fun _ _ => rfl)) (pe_ix ix_tup (pv 3) (pe_op op_sub (pv 6) pe_int) (fun _ _ => rfl))))
        (pss_cons (ps_if (PW.pt (pw_and (pt_cmpR op_eq (pv 1) pe_str (nomark _)) (pw_and1 (pt_cmpR op_eq (pv 7) pe_int (nomark _)))))
          (pss_one (ps_par (i := 8) (j := 10) rfl scPl.nd rfl rfl (by decide) rfl rfl (pa_cons (pe_op op_add pe_int (pe_call CT.G hr1 (by rfl) CT.m CT.kp CT.b .nil pass0 (pa_cons (pv 0) (pa_cons pe_int pa_nil)))) (pa_cons pe_int pa_nil)) (by rfl))) pss_nil)
        (pss_cons (ps_set (i := 12) scPl.nd rfl (Or.inl rfl) (pe_lst (pa_cons (pe_tup (pa_cons (pe_tup (pa_cons pe_str (pa_cons (pv 11) (pa_cons (pv 8) (pa_cons (pv 10) (pa_cons pe_int pa_nil)))))) pa_nil)) pa_nil)))
        (pss_cons (ps_if (PW.pt (pw_or (pt_cmpR op_eq (pv 7) pe_int (nomark _)) (pw_or1 (PW.pt (pw_and (pt_cmpR op_eq (pv 1) pe_str (nomark _)) (pw_and1 (pt_cmpR op_eq (pe_call CT.G hr1 (by rfl) CT.m CT.kp CT.b .nil pass0 (pa_cons (pv 0) (pa_cons pe_int pa_nil))) pe_int (nomark _))))))))
          (pss_one (ps_expr (pe_bm PySem.F.plainAttrs_list PySem.F.slot_list_append PySem.F.type_list_append mt_append (pv 12) (pa_cons (pe_tup (pa_cons (pe_tup (pa_cons pe_str (pa_cons (pe_ifExp (pt_cmpR op_ne (pv 1) pe_str (nomark _)) (pe_ix ix_tup (pv 4) pe_int (fun _ _ => rfl)) (pe_ix ix_tup (pv 4) pe_int (fun _ _ => rfl)))
              (pa_cons (pe_call CT.G hr1 (by rfl) CT.m CT.kp CT.b .nil pass0 (pa_cons (pv 0) (pa_cons pe_int pa_nil))) (pa_cons pe_int pa_nil))))) pa_nil)) pa_nil)))) pss_nil)
        (pss_cons (ps_setLc (i := 12) (own := [("ground", 15)]) (g := gName 15) (by rfl) scPl.nd rfl rfl (sw_true rfl rfl rfl (by decide +kernel)) (pi_list (pv 12))
            (blkOk_by (own := [("ground", 15)]) (N := nmPl) (sc := defScope sPlanted) (by decide +kernel)) (fun _ _ _ _ _ => pg_name (i := 15) scPl.nd rfl (Or.inl rfl)) (fun _ _ _ _ _ => pts_nil)
            (fun _ _ _ _ _ => pe_callTy (T := "tuple") (r := rTupOf K) call_tupOf (by rfl) T.tup (by decide +kernel) (pa_cons (pe_callB (id := "sorted") (r := rSortN K w) (cr_sortN rfl hu) (by rfl) T.sor (by decide +kernel) (pa_cons (pe_callTy (T := "set") (r := rSetN K w) (cr_setN rfl hu) (by rfl) T.set (by decide +kernel)
              (pa_cons (pe_op op_cat (pe_callTy (T := "list") (r := rLstOf K) call_lstOf (by rfl) T.b.list (by decide +kernel) (pa_cons (pv 15) pa_nil)) (pe_call CO.G hr3 (by rfl) CO.m CO.kp CO.b .nil pass0 (pa_cons (pv 0) (pa_cons (pv 1) (pa_cons (pv 4) pa_nil))))) pa_nil)) pa_nil)) pa_nil)))
        (pss_one (ps_expr (pe_bm PySem.F.plainAttrs_list PySem.F.slot_list_append PySem.F.type_list_append mt_append (pv 5) (pa_cons (pe_lst (pa_cons (pe_ix ix_tup (pv 3) (pv 7) (fun _ _ => rfl)) (pa_cons (pe_op op_sub pe_int (pe_call CT.G hr1 (by rfl) CT.m CT.kp CT.b .nil pass0 (pa_cons (pv 0) (pa_cons pe_int pa_nil))))
            (pa_cons (pe_call C.G hr2 (by rfl) C.m C.kp C.b .nil pass0 (pa_cons (pv 0) (pa_cons (pe_lst (pa_cons pe_int (pa_cons pe_int (pa_cons pe_int (pa_cons pe_int pa_nil))))) pa_nil))) (pa_cons (pv 12) pa_nil))))) pa_nil)))))))))))))
      (pss_cons (ps_for PassesOwn.never rfl (pi_list (pe_op op_rep (pv 5) (pe_callTy call_int1 (by rfl) T.b.int (by decide +kernel) (pa_cons (pe_cmpR op_eq (pv 1) pe_str (nomark _)) pa_nil)))) (pg_name (i := 13) scPl.nd rfl (Or.inl rfl))
        (pss_one (ps_asg (pe_op op_cat (pe_ix ix_list (pv 13) pe_int (fun _ _ => rfl)) (pe_lc (own := [("k", 7)]) (g := gName 7) (by rfl) scPl.nd (pi_range1 rfl T.b.range (pa_cons (pe_call CT.G hr1 (by rfl) CT.m CT.kp CT.b .nil pass0 (pa_cons (pv 0) (pa_cons pe_int pa_nil))) pa_nil))
            (blkOk_by (own := [("k", 7)]) (N := nmPl) (sc := defScope sPlanted) (by decide +kernel)) (fun _ _ _ _ _ => pg_name (i := 7) scPl.nd rfl (Or.inl rfl)) (fun _ _ _ _ _ => pts_nil)
            (fun _ _ _ _ _ => pe_call CG.G hr5 (by rfl) CG.m CG.kp CG.b .nil pass0 (pa_cons (pv 0) (pa_cons (pv 4) (pa_cons (pv 3) pa_nil)))))) (pg_sub (pv 13) pe_int set_list))))
      (pss_cons (ps_setLc (i := 14) (own := [("name", 16), ("keep", 17), ("bar", 18), ("grounds", 12)]) (g := gLst K 4 (gCons (gName 16) (gCons (gName 17) (gCons (gName 18) (gCons (gName 12) gNil))))) (by rfl) scPl.nd rfl rfl (sw_true rfl rfl rfl (by decide +kernel)) (pi_list (pv 5))
            (blkOk_by (own := [("name", 16), ("keep", 17), ("bar", 18), ("grounds", 12)]) (N := nmPl) (sc := defScope sPlanted) (by decide +kernel)) (fun _ _ _ _ _ => pg_lst (t := gCons (gName 16) (gCons (gName 17) (gCons (gName 18) (gCons (gName 12) gNil)))) rfl (pgs_cons (pg_name (i := 16) scPl.nd rfl (Or.inl rfl)) (pgs_cons (pg_name (i := 17) scPl.nd rfl (Or.inl rfl)) (pgs_cons (pg_name (i := 18) scPl.nd rfl (Or.inl rfl)) (pgs_cons (pg_name (i := 12) scPl.nd rfl (Or.inl rfl)) pgs_nil))))) (fun _ _ _ _ _ => pts_nil)
            (fun _ _ _ _ _ => pe_tup (pa_cons (pv 16) (pa_cons (pv 17) (pa_cons (pv 18) (pa_cons (pe_callTy (T := "tuple") (r := rTupOf K) call_tupOf (by rfl) T.tup (by decide +kernel) (pa_cons (pe_callB (id := "sorted") (r := rSortN K w) (cr_sortN rfl hu) (by rfl) T.sor (by decide +kernel) (pa_cons (pe_callTy (T := "set") (r := rSetN K w) (cr_setN rfl hu) (by rfl) T.set (by decide +kernel)
              (pa_cons (pe_slice (r := rSlL K) sl_list (pv 12) po_none (po_some pe_int)) pa_nil)) pa_nil)) pa_nil)) pa_nil))))))
      (pss_one (ps_ret (pe_tup (pa_cons (pv 4) (pa_cons (pe_callTy call_tuple_of (by rfl) T.tup (by decide +kernel) (pa_cons (pv 14) pa_nil)) pa_nil)))))))))), ?_⟩
    have sz : ∀ {m : Nat}, m ≤ 900 → m ≤ sizeLine := fun h => Nat.le_of_lt (small1000 (by omega))
    refine ⟨_, rfl, _, rfl, _, rfl, bg, _, rfl, hB, by omega, by omega, fun z1 H1 E1 a0 a1 => ?_⟩
    refine ⟨_, _, rfl, rfl, bg, _, rfl, E1.bag, by omega, by omega, fun nt ns H2 E2 nnt ent hns lns => ?_⟩
    have E12 := E1.trans E2
    refine ⟨_, rfl, bg, 2, rfl, E12.bag, by decide, by decide, fun rt rs H4 E4 nrt ert hrs lrs => ?_⟩
    have E14 := E12.trans E4
    have ntb : nt ≠ bg := fun z => E1.bag.there (z ▸ nnt)
    have rtb : rt ≠ bg := fun z => E12.bag.there (z ▸ nrt)
    have ent4 := E4.keep nt _ ntb ent
    have nl : ns.length = (1 + z1).toNat := lns
    have rl : rs.length = 2 := lrs
    refine ⟨sz (by show 2 ≤ 900; decide), fun t nt' => ?_⟩
    refine ⟨t, _, rfl, SqT.of upd_same, by rfl, _, _, rfl, _, _, rfl, rfl, ?_⟩
    have E15 := E14.new (o := .tup [.ref nt, .ref rt]) nt'
    have e1 := same_upd (o := .tup [.ref nt, .ref rt]) nt' _ _ ent4
    have e2 := same_upd (o := .tup [.ref nt, .ref rt]) nt' _ _ ert
    generalize upd H4 t (.tup [.ref nt, .ref rt]) = H5 at E15 e1 e2 ⊢
    refine ⟨Nat.zero_le _, fun p np => ?_⟩
    have pH : H p = none := newAt E15 np
    have pb : p ≠ bg := fun z => hB.there (z ▸ pH)
    have E16 := E15.new (o := .lst []) np
    have e16 := same_upd (o := .lst []) np _ _ e1
    have e26 := same_upd (o := .lst []) np _ _ e2
    have p6 : (upd H5 p (.lst [])) p = some (.lst []) := upd_same
    generalize upd H5 p (.lst []) = H6 at E16 e16 e26 p6 ⊢
    refine ⟨_, rfl, _, rfl, nt, _, rfl, .inr (SqT.of e16), bg, _, rfl, E16.bag, by rw [List.length_map]; omega, by rw [List.length_map]; omega, fun ring H7 E7 r0 r1 => ?_⟩
    rw [List.length_map] at r1
    refine ⟨_, _, rfl, rfl, _, _, rfl, ?_⟩
    have E17 := E16.trans E7
    have f1 := E7.keep nt _ ntb e16
    have f2 := E7.keep rt _ rtb e26
    have f3 := E7.keep p _ pb p6
    refine ⟨_, rfl, nt, _, rfl, .inr (SqT.of f1), _, rfl, by omega, by rw [List.length_map]; omega, for_range (fun i σ' G => (∃ x7 x8 x9 x10 x11 x12 x13 x14 x15 x16 x17 x18 : Option V, σ' = [some (.ref bg), some (.str so), some (.int n), some (.ref nt), some (.ref rt), some (.ref p), some (.int (1 + ring)), x7, x8, x9, x10, x11, x12, x13, x14, x15, x16, x17, x18]) ∧
      Ext bg H G ∧ G nt = some (.tup (ns.map V.str)) ∧ G rt = some (.tup (rs.map V.str)) ∧ ∃ (ls : List Addr) (ds : List Kd), FAt H G bg p rs ns 2 ls ds ∧ ds.map Kd.name = ns.take i) ?_ ?_ ?_⟩
    · exact ⟨⟨_, _, _, _, _, _, _, _, _, _, _, _, rfl⟩, E17, f1, f2, [], [], ⟨f3, .nil, List.nodup_nil, fun _ z => nomatch z⟩, rfl⟩
    · rintro i σ' G hi ⟨⟨x7, x8, x9, x10, x11, x12, x13, x14, x15, x16, x17, x18, rfl⟩, E8, g1, g2, ls, ds, hF, en⟩
      rw [Int.toNat_natCast, List.length_map] at hi
      refine ⟨_, rfl, bg, 3, rfl, E8.bag, by decide, by decide, fun a G1 E9 a0 a1 => ?_⟩
      refine ⟨_, _, rfl, rfl, fun dd hdd => ?_⟩
      have E10 := E9.new (o := .dK []) hdd
      have ddb : dd ≠ bg := fun z => E9.bag.there (z ▸ hdd)
      refine ⟨_, rfl, _, rfl, _, rfl, _, _, rfl, rfl, bg, _, rfl, E10.bag, by omega, by omega, fun b G2 E11 b0 b1 => ?_⟩
      refine ⟨_, _, rfl, rfl, _, rfl, _, rfl, bg, _, rfl, E11.bag, by omega, by omega, fun c G3 E12 c0 c1 => ?_⟩
      have E13 := E11.trans E12
      refine ⟨E13.keep dd _ ddb upd_same, [(Sum.inr "ever", .int (1 + a + b)), (Sum.inr "longer", .int c), (Sum.inr "gone", .int 0), (Sum.inr "none", .int 2)], rfl, by show 4 ≤ 15; decide, ?_⟩
      obtain ⟨tl, etl, t0, t4⟩ : ∃ tl : Int, valV (mergeK [] [((Sum.inr "ever" : Key), V.int (1 + a + b)), (Sum.inr "longer", .int c), (Sum.inr "gone", .int 0), (Sum.inr "none", .int 2)]) (Sum.inr so) = some (.int tl) ∧ 0 ≤ tl ∧ tl ≤ 4 := by
        rcases hso with rfl | rfl | rfl | rfl
        · exact ⟨_, rfl, by omega, by omega⟩
        · exact ⟨_, rfl, by omega, by omega⟩
        · exact ⟨_, rfl, by omega, by omega⟩
        · exact ⟨_, rfl, by omega, by omega⟩
      refine ⟨_, rfl, _, rfl, dd, .int tl, rfl, by rw [← etl]; exact DGet.k (k := Sum.inr so) upd_same, ?_⟩
      have E14 : Ext bg G (upd G3 dd (.dK (mergeK [] [((Sum.inr "ever" : Key), V.int (1 + a + b)), (Sum.inr "longer", .int c), (Sum.inr "gone", .int 0), (Sum.inr "none", .int 2)]))) := Ext.write E8.bag (E10.trans E13) (newAt E9 hdd)
      generalize upd G3 dd (.dK (mergeK [] [((Sum.inr "ever" : Key), V.int (1 + a + b)), (Sum.inr "longer", .int c), (Sum.inr "gone", .int 0), (Sum.inr "none", .int 2)])) = G4 at E14 ⊢
      have g14 := E14.keep nt _ ntb g1
      have g24 := E14.keep rt _ rtb g2
      dsimp only [gName]
      refine seqGo (fun b' D' => ∀ x : Str, x ∈ ns → b' D' [some (.ref bg), some (.str so), some (.int n), some (.ref nt), some (.ref rt), some (.ref p), some (.int (1 + ring)), some (.int (0 + (i : Int))), some (.int (1 + a)), some (.ref dd), some (.int tl), some (.str x), x12, x13, x14, x15, x16, x17, x18] G4) (fun x hx => ?_) (fun rest => ?_)
      · refine seqGo (fun b' D' => ∀ (af te : Int) (G5 : Hp), Ext bg G G5 → 1 ≤ af → af ≤ 9 → 0 ≤ te → te ≤ 4 → b' D' [some (.ref bg), some (.str so), some (.int n), some (.ref nt), some (.ref rt), some (.ref p), some (.int (1 + ring)), some (.int (0 + (i : Int))), some (.int af), some (.ref dd), some (.int te), some (.str x), x12, x13, x14, x15, x16, x17, x18] G5) (fun af te G5 E15 af1 af9 te0 te4 => ?_) (fun rest => ?_)
        · refine ⟨_, rfl, _, rfl, _, rfl, sz (by show 5 ≤ 900; decide), fun na nna => ⟨sz (by show 1 ≤ 900; decide), fun ga nga => ⟨sz (by show 1 ≤ 900; decide), fun gl ngl => ?_⟩⟩⟩
          have S1 := same_upd (o := .tup [.str "kind", .str x, .int af, .int te, .int 9]) nna
          have S2 := KaG.Same.tr S1 (same_upd (o := .tup [.ref na]) nga)
          have S3 := KaG.Same.tr S2 (same_upd (o := .lst [.ref ga]) ngl)
          have y1 : (upd (upd (upd G5 na (.tup [.str "kind", .str x, .int af, .int te, .int 9])) ga (.tup [.ref na])) gl (.lst [.ref ga])) na = some (.tup [.str "kind", .str x, .int af, .int te, .int 9]) := KaG.Same.tr (same_upd nga) (same_upd ngl) _ _ upd_same
          have y2 : (upd (upd (upd G5 na (.tup [.str "kind", .str x, .int af, .int te, .int 9])) ga (.tup [.ref na])) gl (.lst [.ref ga])) ga = some (.tup [.ref na]) := same_upd ngl _ _ upd_same
          have y3 : (upd (upd (upd G5 na (.tup [.str "kind", .str x, .int af, .int te, .int 9])) ga (.tup [.ref na])) gl (.lst [.ref ga])) gl = some (.lst [.ref ga]) := upd_same
          have gl0 : G5 gl = none := by
            cases e : G5 gl with
            | none => rfl
            | some u => rw [S2 _ _ e] at ngl; cases ngl
          generalize upd (upd (upd G5 na (.tup [.str "kind", .str x, .int af, .int te, .int 9])) ga (.tup [.ref na])) gl (.lst [.ref ga]) = G6 at S3 y1 y2 y3 ⊢
          have E16 := E15.trans (Ext.of_same E15.bag S3)
          have glb : gl ≠ bg := fun z => E15.bag.there (z ▸ gl0)
          have glG : G gl = none := newAt E15 gl0
          have gs6 : GsAt G6 rs ns [ga] [[[.str "kind", .str x, .int af, .int te, .int 9]]] := ⟨.cons (grd_one y2 y1) .nil, fun g m => by
            rw [List.mem_singleton.mp m]
            refine ⟨by show 0 < 1; decide, by show 1 ≤ 3; decide, fun n2 m2 => ?_⟩
            rw [List.mem_singleton.mp m2]
            exact .kind x af te 9 hx af1 af9 te0 te4 (by decide) (by decide)⟩
          dsimp only [gName]
          refine seqGo (fun b' D' => ∀ (as : List Addr) (gs : List (List (List V))) (G7 : Hp), Ext bg G G7 → G7 gl = some (.lst (as.map V.ref)) → GsAt G7 rs ns as gs → (∀ g ∈ gs, g.length = 1) → gs.length ≤ 2 →
            b' D' [some (.ref bg), some (.str so), some (.int n), some (.ref nt), some (.ref rt), some (.ref p), some (.int (1 + ring)), some (.int (0 + (i : Int))), some (.int af), some (.ref dd), some (.int te), some (.str x), some (.ref gl), x13, x14, x15, x16, x17, x18] G7) (fun as gs G7 E17 ygl hgs one le2 => ?_) (fun rest => ?_)
          · have lenas := paired_len hgs.pr
            refine ⟨_, rfl, gl, rfl, ⟨_, SqL.of ygl⟩, fun D hD => lc_list (K := K) (a := gl) (xs := as.map V.ref) (fun j M => Ext bg G7 M ∧ ∃ (bs : List Addr) (hs : List (List (List V))), M D = some (.lst (bs.map V.ref)) ∧ GsAt M rs ns bs hs ∧ bs.length = j) ?_ ?_ ?_ ?_⟩
            · exact ⟨(Ext.of_same E17.bag Same.refl').new hD, [], [], upd_same, GsAt.nil, rfl⟩
            · rintro j M _ ⟨E18, _⟩
              exact SqL.of (E18.keep gl _ glb ygl)
            · rintro j v M hv ⟨E18, bs, hs, mD, hh, lb⟩
              rw [List.getElem?_map] at hv
              obtain ⟨a2, ha2, rfl⟩ := Option.map_eq_some_iff.mp hv
              obtain ⟨g, hg, nsA, z1', z2'⟩ := paired_at hgs.pr ha2
              have og := hgs.ok g (List.mem_of_getElem? hg)
              have g1' := one g (List.mem_of_getElem? hg)
              have hj : j < as.length := (List.getElem?_eq_some_iff.mp ha2).1
              have ts7 := TSame.ext E17.bag E18
              have Db : D ≠ bg := fun z => E17.bag.there (z ▸ hD)
              refine ⟨rfl, ?_⟩
              unfold tYes
              dsimp only
              refine iteT ⟨_, rfl, a2, _, rfl, .inr (SqT.of (ts7 _ _ z1')), fun l nl' => ?_⟩
              have E19 := E18.new (o := .lst (nsA.map V.ref)) nl'
              have lb' : l ≠ bg := fun z => E18.bag.there (z ▸ nl')
              refine ⟨_, rfl, _, rfl, _, rfl, bg, rt, .str so, rs, rfl, E19.bag, rtb, (E17.trans E19).keep rt _ rtb g2, rl, fun p2 xs M2 E20 np2 ep2 hxs => ?_⟩
              have ml := E20.keep l _ lb' upd_same
              have E21 : Ext bg G7 M2 := E19.trans E20
              have mD2 : M2 D = some (.lst (bs.map V.ref)) := E20.keep D _ Db (same_upd nl' _ _ mD)
              obtain ⟨qs, its, ex, hq, lq⟩ : ∃ (qs : List Addr) (its : List (List V)), xs = qs.map V.ref ∧ Paired (fun n2 it => M2 n2 = some (.tup it)) qs its ∧ its.length ≤ 1 ∧ ∀ it ∈ its, NeedV rs ns it := by
                rcases hxs with e | ⟨q, it, e, _, hq, hn⟩
                · exact ⟨[], [], e, .nil, by decide, fun _ m => (by cases m)⟩
                · exact ⟨[q], [it], e, .cons hq .nil, Nat.le_refl _, fun it' m => by rw [List.mem_singleton.mp m]; exact hn ns⟩
              subst ex
              have pq := paired_len hq
              have pz := paired_len z2'
              refine ⟨l, p2, _, _, rfl, rfl, ml, ep2, sz (by rw [List.length_map, List.length_map]; omega), fun r nr => ?_⟩
              have S4 := same_upd (o := .lst (nsA.map V.ref ++ qs.map V.ref)) nr
              have ts8 : TSame G7 M2 := TSame.ext E17.bag E21
              dsimp only [tCB, tCons, tNil]
              have mem : ∀ n2 ∈ g ++ its, NeedV rs ns n2 := fun n2 m => (List.mem_append.mp m).elim (og.2.2 n2) (lq.2 n2)
              refine order_needs (K := K) (w := w) (rows := rs) (names := ns) (as := nsA ++ qs) (g := g ++ its) (by rw [List.map_append]; exact .inl (SqL.of upd_same))
                (paired_app (Paired.mono' (fun _ _ q => S4 _ _ (ts8 _ _ q)) z2') (Paired.mono' (fun _ _ q => S4 _ _ q) hq)) mem (by rw [List.length_append]; have := lq.1; omega) fun a3 g3 M3 S5 na3 ha3 sub3 pos3 le3 => ?_
              have S45 := KaG.Same.tr S4 S5
              have mD3 := S45 _ _ mD2
              rw [List.length_append] at pos3 le3
              refine ⟨_, mD3, small1000 (by rw [List.length_map]; omega), Ext.write E17.bag (E21.trans (Ext.of_same E21.bag S45)) hD, bs ++ [a3], hs ++ [g3], by rw [upd_same, List.map_append]; rfl, ?_, by rw [List.length_append, lb]; rfl⟩
              have ts9 : TSame M M3 := ((same_ts_new nl').tr (TSame.ext E19.bag E20)).tr (TSame.of S45)
              exact (((hh.ts ts9).snoc ha3 ⟨pos3 (by omega), by have := lq.1; omega, fun n2 m => mem n2 (sub3 n2 m)⟩)).ts (ts_lst mD3)
            · rintro M ⟨E18, bs, hs, mD, hh, lb⟩
              rw [List.length_map] at lb
              have E19 := E17.trans E18
              have hFm := hF.ext pb E8.bag E19
              have hni : ns[i]? = some ns[i] := List.getElem?_eq_getElem hi
              have Db : D ≠ bg := fun z => E17.bag.there (z ▸ hD)
              have Dp : D ≠ p := fun z => by rw [z, (hF.ext pb E8.bag E17).at_] at hD; cases hD
              refine ⟨_, rfl, .inl ⟨rfl, _, SqL.of hFm.at_⟩, _, rfl, _, rfl, nt, _, _, .str ns[i], rfl, rfl, SqT.of (E19.keep nt _ ntb g1), by rw [Int.zero_add]; exact atI_nat (by rw [List.getElem?_map, hni]; rfl), ?_⟩
              refine ⟨_, rfl, bg, 2, rfl, E18.bag, by decide, by decide, fun y1 M1 E20 c0 c1 => ?_⟩
              refine ⟨_, _, rfl, rfl, _, rfl, sz (by show 4 ≤ 900; decide), fun q2 nq2 => ?_⟩
              have E21 := E20.new (o := .lst [.int 0, .int 0, .int 1, .int 3]) nq2
              have q2b : q2 ≠ bg := fun z => E20.bag.there (z ▸ nq2)
              refine ⟨bg, q2, _, rfl, E21.bag, q2b, .inl upd_same, by decide, by decide, fun v2 M2 mv2 E22 => ?_⟩
              obtain ⟨bar, rfl, bar0, bar3⟩ := ints_in (ns := [0, 0, 1, 3]) (lo := 0) (hi := 3) (by decide) mv2
              have E23 := E21.trans E22
              refine ⟨_, rfl, sz (by show 4 ≤ 900; decide), fun l nl' => ?_⟩
              have E24 := E23.new (o := .lst [.str ns[i], .int (8 - y1), .int bar, .ref D]) nl'
              have hFz := hFm.ext pb E18.bag E24
              have mDz := E24.keep D _ Db mD
              have ltz : (upd M2 l (.lst [.str ns[i], .int (8 - y1), .int bar, .ref D])) l = some (.lst [.str ns[i], .int (8 - y1), .int bar, .ref D]) := upd_same
              have E25 := E8.trans (E19.trans E24)
              have lH : H l = none := newAt ((E8.trans E19).trans E23) nl'
              have lb' : l ≠ bg := fun z => hB.there (z ▸ lH)
              have lp' : l ≠ p := fun z => by rw [z, (hFm.ext pb E18.bag E23).at_] at nl'; cases nl'
              have lls : l ∉ ls := fun m => by
                have there := paired_there (C := fun l => M2 l ≠ none) (fun l d ⟨gl, as, q⟩ => by rw [q.at_]; exact fun z => nomatch z) (hFm.ext pb E18.bag E23).pr l m
                exact there nl'
              generalize upd M2 l (.lst [.str ns[i], .int (8 - y1), .int bar, .ref D]) = M3 at E24 hFz mDz ltz E25 ⊢
              have lds : ls.length ≤ 5 := by
                have h1 := paired_len hF.pr
                have h2 := congrArg List.length en
                rw [List.length_map, List.length_take] at h2
                omega
              refine ⟨p, _, _, rfl, rfl, hFz.at_, small1000 (by rw [List.length_map]; omega), ?_⟩
              have tsl := ts_lst (ys := ls.map V.ref ++ [.ref l]) hFz.at_
              have lenh := paired_len hh.pr
              refine ⟨⟨_, _, _, _, _, _, _, _, _, _, _, _, rfl⟩, Ext.write hB E25 pH, tsl _ _ (E24.keep nt _ ntb (E19.keep nt _ ntb g1)), tsl _ _ (E24.keep rt _ rtb (E19.keep rt _ rtb g2)), ls ++ [l], ds ++ [⟨ns[i], 8 - y1, bar, hs⟩], ?_, ?_⟩
              · refine hFz.snoc ⟨D, bs, ltz, mDz, hh.ts (TSame.ext E18.bag E24), lH, lb', lp', Db, Dp⟩ ⟨?_, ?_, bar0, ?_, ?_⟩ lls
                · show 1 ≤ 8 - y1; omega
                · show 8 - y1 ≤ 8; omega
                · show bar ≤ 12; omega
                · show hs.length ≤ 2; omega
              · rw [List.map_append, en, List.take_add_one, hni]; rfl
          · refine ifGo (fun M => Ext bg G6 M) (fun M EM => ?_) (fun M EM => ?_) (fun Q' q => ?_)
            · have g2M := (E16.trans EM).keep rt _ rtb g2
              have ygM := EM.keep gl _ glb y3
              refine ⟨_, rfl, .inl ⟨rfl, _, SqL.of ygM⟩, ?_⟩
              dsimp only [tCons, tTup, tC, tNil]
              refine pickGo (fun v => ∃ z ∈ rs, v = V.str z) (fun v ⟨xr, hxr, ev⟩ => ?_) (fun Q' q => ⟨_, rfl, rfl, _, rfl, q _⟩) (fun Q' q => ?_) (fun Q' q => ?_)
              · subst ev
                refine ⟨_, rfl, bg, 5, rfl, EM.bag, by decide, by decide, fun y2 M1 E17 d0 d1 => ?_⟩
                refine ⟨sz (by show 4 ≤ 900; decide), fun nb nnb => ⟨sz (by show 1 ≤ 900; decide), fun gb ngb => ?_⟩⟩
                have yg1 := E17.keep gl _ glb ygM
                have T1 := same_upd (o := .tup [.str "row", .str xr, .int y2, .int 9]) nnb
                have T2 := same_upd (o := .tup [.ref nb]) ngb
                have T12 := KaG.Same.tr T1 T2
                have yg2 := T12 _ _ yg1
                refine ⟨gl, _, _, rfl, rfl, yg2, small1000 (by show 1 ≤ 1000; decide), ?_⟩
                have tsl := ts_lst (ys := [V.ref ga] ++ [V.ref gb]) yg2
                have E18 := E17.trans (Ext.of_same E17.bag T12)
                have tsM : TSame M (upd (upd M1 nb (.tup [.str "row", .str xr, .int y2, .int 9])) gb (.tup [.ref nb])) := TSame.ext EM.bag E18
                refine rest [ga, gb] [[[.str "kind", .str x, .int af, .int te, .int 9]], [[.str "row", .str xr, .int y2, .int 9]]] _ (Ext.write E8.bag (E16.trans (EM.trans E18)) glG) upd_same ?_ (fun g m => ?_) (by show 2 ≤ 2; decide)
                · refine GsAt.ts (GsAt.snoc (as := [ga]) (gs := [[[.str "kind", .str x, .int af, .int te, .int 9]]]) ((gs6.ts (TSame.ext E16.bag EM)).ts tsM) (grd_one upd_same (T2 _ _ upd_same)) ⟨by show 0 < 1; decide, by show 1 ≤ 3; decide, fun n2 m2 => ?_⟩) tsl
                  rw [List.mem_singleton.mp m2]
                  exact .row xr y2 9 hxr d0 (by omega) (by decide) (by decide)
                · rcases List.mem_cons.mp m with c | c
                  · rw [c]; rfl
                  · rw [List.mem_singleton.mp c]; rfl
              · obtain ⟨z, hz, ez⟩ := at_str (ns := rs) (z := 0) (by decide) (by omega)
                exact ⟨_, rfl, rt, _, 0, .str z, rfl, rfl, SqT.of g2M, ez, q _ ⟨z, hz, rfl⟩⟩
              · obtain ⟨z, hz, ez⟩ := at_str (ns := rs) (z := 1) (by decide) (by omega)
                exact ⟨_, rfl, rt, _, 1, .str z, rfl, rfl, SqT.of g2M, ez, q _ ⟨z, hz, rfl⟩⟩
            · exact rest [ga] _ M (E16.trans EM) (EM.keep gl _ glb y3) (gs6.ts (TSame.ext E16.bag EM)) (fun g m => by rw [List.mem_singleton.mp m]; rfl) (by show 1 ≤ 2; decide)
            · have r0' : Ext bg G6 G6 := Ext.of_same E16.bag Same.refl'
              refine ⟨_, rfl, rfl, _, rfl, ite2 (fun h1 => q _ _ r0') fun h1 => ?_⟩
              refine ⟨_, rfl, rfl, _, rfl, ite2 (fun h2 => ?_) fun h2 => q _ _ r0'⟩
              exact ⟨_, rfl, bg, 3, rfl, E16.bag, by decide, by decide, fun y M E c0 c1 => ⟨rfl, _, rfl, q _ _ E⟩⟩
        · refine ifGo (fun M => M = G4) (fun M EM => ?_) (fun M EM => ?_) (fun Q' q => ?_)
          · subst EM
            refine ⟨_, rfl, bg, 2, rfl, E14.bag, by decide, by decide, fun y M E15 c0 c1 => ?_⟩
            refine ⟨_, _, rfl, rfl, _, _, rfl, ?_⟩
            exact rest (2 + y) 1 M (E14.trans E15) (by omega) (by omega) (by decide) (by decide)
          · subst EM
            exact rest (1 + a) tl M E14 (by omega) (by omega) t0 t4
          · refine ⟨_, rfl, rfl, _, rfl, ite2 (fun h1 => ?_) fun h1 => ?_⟩
            · exact ⟨_, rfl, rfl, _, rfl, q _ _ rfl⟩
            · exact q _ _ rfl
      · refine ⟨_, rfl, _, _, rfl, rfl, _, rfl, ite2 (fun hc => ?_) fun hc => ?_⟩
        · have hc2 : (0 : Int) < 0 + (i : Int) := by simpa using hc
          obtain ⟨x, hx, ex⟩ := at_str (ns := ns) (z := 0 + (i : Int) - 1) (by omega) (by omega)
          exact ⟨_, rfl, _, rfl, _, _, rfl, rfl, nt, _, _, .str x, rfl, rfl, SqT.of g14, ex, rest x hx⟩
        · obtain ⟨x, hx, ex⟩ := at_str (ns := ns) (z := 1 + ring - 1) (by omega) (by omega)
          exact ⟨_, rfl, _, rfl, _, _, rfl, rfl, nt, _, _, .str x, rfl, rfl, SqT.of g14, ex, rest x hx⟩
    · rintro σ' G ⟨⟨x7, x8, x9, x10, x11, x12, x13, x14, x15, x16, x17, x18, rfl⟩, E8, g1, g2, ls, ds, hF, en⟩
      rw [Int.toNat_natCast, List.length_map, List.take_length] at en
      have hll : ls.length ≤ 5 := by
        have h1 := paired_len hF.pr
        have h2 := congrArg List.length en
        rw [List.length_map] at h2
        omega
      refine ⟨_, rfl, _, rfl, rfl, .inr ⟨_, rfl, p, _, ls.map V.ref, rfl, rfl, hF.at_, ?_, ?_, ?_, fun c nc => ?_⟩⟩
      · split <;> decide
      · split <;> decide
      · rw [List.length_map]
        split
        · exact sz (by show _ * 1 ≤ 900; omega)
        · exact sz (by show _ * 0 ≤ 900; omega)
      obtain ⟨ls2, els2, sub2, nd2⟩ : ∃ ls2 : List Addr, (List.replicate (if decide (V.str so = V.str "ever") = true then (1 : Int) else 0).toNat (ls.map V.ref)).flatten = ls2.map V.ref ∧ (∀ l ∈ ls2, l ∈ ls) ∧ ls2.length ≤ 5 := by
        split
        · exact ⟨ls, by show (List.replicate 1 (ls.map V.ref)).flatten = _; simp, fun _ m => m, hll⟩
        · exact ⟨[], by show (List.replicate 0 (ls.map V.ref)).flatten = _; simp, fun _ m => (by cases m), by decide⟩
      rw [els2]
      have E9 := E8.new (o := .lst (ls2.map V.ref)) nc
      have j1 := same_upd (o := .lst (ls2.map V.ref)) nc _ _ g1
      have j2 := same_upd (o := .lst (ls2.map V.ref)) nc _ _ g2
      have jF := hF.ext pb E8.bag (Ext.of_same E8.bag (same_upd (o := .lst (ls2.map V.ref)) nc))
      have jc : (upd G c (.lst (ls2.map V.ref))) c = some (.lst (ls2.map V.ref)) := upd_same
      have cb : c ≠ bg := fun z => E8.bag.there (z ▸ nc)
      have cp : c ≠ p := fun z => by rw [z, hF.at_] at nc; cases nc
      generalize upd G c (.lst (ls2.map V.ref)) = G9 at E9 j1 j2 jF jc ⊢
      refine ⟨c, rfl, ⟨_, SqL.of jc⟩, for_list (K := K) (a := c) (xs := ls2.map V.ref) (fun i σ' J => (∃ x7 x8 x9 x10 x11 x12 x13 x14 x15 x16 x17 x18 : Option V, σ' = [some (.ref bg), some (.str so), some (.int n), some (.ref nt), some (.ref rt), some (.ref p), some (.int (1 + ring)), x7, x8, x9, x10, x11, x12, x13, x14, x15, x16, x17, x18]) ∧
        Ext bg H J ∧ J nt = some (.tup (ns.map V.str)) ∧ J rt = some (.tup (rs.map V.str)) ∧ J c = some (.lst (ls2.map V.ref)) ∧ ∃ ds2 : List Kd, FAt H J bg p rs ns (2 + 2 * i) ls ds2 ∧ ds2.map Kd.name = ns) ?_ ?_ ?_ ?_⟩
      · exact ⟨⟨_, _, _, _, _, _, _, _, _, _, _, _, rfl⟩, E9, j1, j2, jc, ds, jF, en⟩
      · rintro i σ' J _ ⟨_, _, _, _, jc, _⟩
        exact SqL.of jc
      · rintro i x σ' J hx ⟨⟨x7, x8, x9, x10, x11, x12, x13, x14, x15, x16, x17, x18, rfl⟩, E10, h1, h2, hc, ds2, hF2, en2⟩
        rw [List.getElem?_map] at hx
        obtain ⟨l, hl0, rfl⟩ := Option.map_eq_some_iff.mp hx
        have hi5 : i < ls2.length := (List.getElem?_eq_some_iff.mp hl0).1
        obtain ⟨j, hl⟩ := List.mem_iff_getElem?.mp (sub2 l (List.mem_of_getElem? hl0))
        obtain ⟨d, hd, gl, as, q⟩ := paired_at hF2.pr hl
        have od := hF2.ok d (List.mem_of_getElem? hd)
        have lenas := paired_len q.gs.pr
        refine ⟨_, rfl, l, _, 3, .ref gl, rfl, rfl, SqL.of q.at_, rfl, _, rfl, bg, 3, rfl, E10.bag, by decide, by decide, fun z J1 E11 z0 z1 => ?_⟩
        refine ⟨z, rfl, by omega, by omega, fun D hD => lc_range (fun y M => Ext bg J1 M ∧ ∃ (bs : List Addr) (gs : List (List (List V))), bs.length = y ∧ M D = some (.lst (bs.map V.ref)) ∧ GsAt M rs ns bs gs) ?_ ?_ ?_⟩
        · exact ⟨(Ext.of_same E11.bag Same.refl').new hD, [], [], rfl, upd_same, GsAt.nil⟩
        · rintro y M hy ⟨E12, bs, gs, lb, mD, hg⟩
          refine ⟨rfl, ?_⟩
          unfold tYes
          dsimp only
          have Db : D ≠ bg := fun z => E11.bag.there (z ▸ hD)
          refine iteT ⟨_, rfl, _, rfl, _, rfl, bg, rt, nt, rs, ns, rfl, E12.bag, rtb, ntb, E12.keep rt _ rtb (E11.keep rt _ rtb h2), E12.keep nt _ ntb (E11.keep nt _ ntb h1), by omega, by omega, by omega, by omega, fun a g M3 E13 na ha p1 p2 p3 => ?_⟩
          have mD3 := E13.keep D _ Db mD
          refine ⟨_, mD3, small1000 (by rw [List.length_map]; omega), ?_, bs ++ [a], gs ++ [g], by rw [List.length_append, lb]; rfl, by rw [upd_same, List.map_append]; rfl, ?_⟩
          · exact Ext.write E11.bag (E12.trans E13) hD
          · exact ((hg.ts (TSame.ext E12.bag E13)).snoc ha ⟨p1, p2, p3⟩).ts (ts_lst mD3)
        · rintro M ⟨E12, bs, gs, lb, mD, hg⟩
          have E13 := E11.trans E12
          have E14 := E10.trans E13
          have mgl := E13.keep gl _ q.gb q.gat
          have ml := E13.keep l _ q.lb q.at_
          have hF3 := hF2.ext pb E10.bag E13
          have lbs := paired_len hg.pr
          refine ⟨gl, D, _, _, rfl, rfl, mgl, mD, sz (by rw [List.length_map, List.length_map]; have := od.2.2.2.2; omega), fun r nr => ?_⟩
          have S1 := same_upd (o := .lst (as.map V.ref ++ bs.map V.ref)) nr
          have rb : r ≠ bg := fun z => E14.bag.there (z ▸ nr)
          have rp : r ≠ p := fun z => by rw [z, hF3.at_] at nr; cases nr
          have ml2 := S1 _ _ ml
          have gsx : GsAt (upd M r (.lst (as.map V.ref ++ bs.map V.ref))) rs ns (as ++ bs) (d.gs ++ gs) := by
            have w1 := (q.gs.ts (TSame.ext E10.bag E13)).ts (TSame.of S1)
            have w2 := hg.ts (TSame.of S1)
            exact ⟨paired_app w1.pr w2.pr, fun g m => (List.mem_append.mp m).elim (w1.ok g) (w2.ok g)⟩
          have hF4 := (hF3.ext pb E14.bag (Ext.of_same E14.bag S1)).wide (show 2 + 2 * i ≤ 2 + 2 * (i + 1) by omega)
          have lc : l ≠ c := (lst_ne (E13.keep c _ cb hc) ml).symm
          refine ⟨_, rfl, l, _, 3, 3, rfl, rfl, ml2, rfl, ?_⟩
          have fin := hF4.put (q := r) (as := as ++ bs) (gs := d.gs ++ gs) hl hd (by rw [upd_same, List.map_append]) gsx rb rp (by rw [List.length_append]; have := od.2.2.2.2; omega)
          have tsl := ts_lst (ys := [V.str d.name, .int d.keep, .int d.bar, .ref r]) ml2
          refine ⟨⟨_, _, _, _, _, _, _, _, _, _, _, _, rfl⟩, ?_, tsl _ _ (S1 _ _ (E13.keep nt _ ntb h1)), tsl _ _ (S1 _ _ (E13.keep rt _ rtb h2)), ?_, ds2.set j { d with gs := d.gs ++ gs }, fin, ?_⟩
          · exact Ext.write hB (E14.trans (Ext.of_same E14.bag S1)) q.ln
          · show upd _ l _ c = _
            rw [upd_ne lc.symm]
            exact S1 _ _ (E13.keep c _ cb hc)
          · rw [List.map_set, en2]
            have nsj : ns[j]? = some d.name := by rw [← en2, List.getElem?_map, hd]; rfl
            exact set_same nsj
      · rintro σ' J ⟨⟨x7, x8, x9, x10, x11, x12, x13, x14, x15, x16, x17, x18, rfl⟩, E10, h1, h2, hc, ds2, hF2, en2⟩
        rw [List.length_map] at hF2
        have dl : ds2.length = ns.length := by rw [← en2, List.length_map]
        refine ⟨_, rfl, p, rfl, ⟨_, SqL.of hF2.at_⟩, fun D hD => lc_list (K := K) (a := p) (xs := ls.map V.ref) (fun i M => Same J M ∧ ∃ (kas : List Addr) (ks : List Kd), M D = some (.lst (kas.map V.ref)) ∧ KsAt M rs ns kas ks ∧ ks.map Kd.name = ns.take i) ?_ ?_ ?_ ?_⟩
        · exact ⟨same_upd hD, [], [], upd_same, ⟨.nil, fun _ z => nomatch z⟩, rfl⟩
        · rintro i M _ ⟨S, _⟩
          exact SqL.of (S _ _ hF2.at_)
        · rintro i x M hx ⟨S, kas, ks, mD, hk, ek⟩
          rw [List.getElem?_map] at hx
          obtain ⟨l, hl, rfl⟩ := Option.map_eq_some_iff.mp hx
          obtain ⟨d, hd, gl, as, q⟩ := paired_at hF2.pr hl
          have od := hF2.ok d (List.mem_of_getElem? hd)
          refine ⟨l, _, rfl, SqL.of (S _ _ q.at_), rfl, _, _, rfl, _, _, rfl, _, _, rfl, _, _, rfl, rfl, rfl, ?_⟩
          unfold tYes
          dsimp only
          refine iteT ⟨_, rfl, _, rfl, _, rfl, _, rfl, _, rfl, _, _, rfl, SqL.of (S _ _ q.gat), fun r nr => ?_⟩
          rw [cut_to _ 4 (by decide), ← List.map_take, show (4 : Int).toNat = 4 from rfl]
          dsimp only [tCB, tCons, tNil]
          have gsr := ((q.gs.ts (TSame.of S)).cut 4).ts (same_ts_new (o := .lst ((as.take 4).map V.ref)) nr)
          refine order_grounds (K := K) (w := w) (rows := rs) (names := ns) (.inl (SqL.of upd_same)) gsr.pr (fun g m => ⟨(gsr.ok g m).1, (gsr.ok g m).2.2⟩) (by rw [List.length_take]; omega) fun a2 bs2 gs2 M2 S2 na2 ea2 pr2 sub le => ?_
          refine ⟨sz (by show 4 ≤ 900; decide), fun ka nka => ?_⟩
          have S01 : Same M M2 := KaG.Same.tr (same_upd nr) S2
          have S3 := same_upd (o := .tup [.str d.name, .int d.keep, .int d.bar, .ref a2]) nka
          have mD3 := S3 _ _ (S01 _ _ mD)
          have S03 := KaG.Same.tr S01 S3
          have nsi : ns[i]? = some d.name := by rw [← en2, List.getElem?_map, hd]; rfl
          have hik : ks.length ≤ 5 := by
            have := congrArg List.length ek
            rw [List.length_map, List.length_take] at this
            omega
          refine ⟨_, mD3, small1000 (by rw [List.length_map, paired_len hk.pr]; omega), ?_, kas ++ [ka], ks ++ [⟨d.name, d.keep, d.bar, gs2⟩], by rw [upd_same, List.map_append]; rfl, ?_, ?_⟩
          · exact fun b u e => by rw [upd_ne (ne_of_none e hD)]; exact S03 b u (S b u e)
          · refine ((hk.ts (TSame.of S03)).snoc ?_ ?_).ts (ts_lst mD3)
            · exact ⟨a2, bs2, upd_same, S3 _ _ ea2, Paired.mono' (fun a b z => Grd.ts z (TSame.of S3)) pr2⟩
            · refine ⟨⟨od.1, od.2.1, od.2.2.1, od.2.2.2.1, ?_⟩, fun g m => gsr.ok g (sub g m)⟩
              have := List.length_take (i := 4) (l := d.gs)
              show gs2.length ≤ 4
              omega
          · rw [List.map_append, ek, List.take_add_one, nsi]; rfl
        · rintro M ⟨S, kas, ks, mD, hk, ek⟩
          rw [List.length_map, ← paired_len hF2.pr |>.symm, dl, List.take_length] at ek
          refine ⟨_, rfl, _, rfl, D, _, rfl, .inl ⟨SqL.of mD, fun q nq => ?_⟩⟩
          refine ⟨sz (by show 2 ≤ 900; decide), fun b nb => ?_⟩
          have S1 := KaG.Same.tr S (same_upd (o := .tup (kas.map V.ref)) nq)
          have S2 := KaG.Same.tr S1 (same_upd (o := .tup [.ref rt, .ref q]) nb)
          have S3 := KaG.Same.tr (same_upd (o := .tup (kas.map V.ref)) nq) (same_upd (o := .tup [.ref rt, .ref q]) nb)
          refine k b rs ks _ (E10.trans (Ext.of_same E10.bag S2)) (newAt (E10.trans (Ext.of_same E10.bag S1)) nb) (by omega) ⟨rt, q, kas, upd_same, S2 _ _ h2, same_upd nb _ _ upd_same, (hk.ts (TSame.of S3)).pr⟩ ?_
          exact book_ok hrs hns (by omega) (by omega) (by omega) ek hk.ok
end
end KaG
set_option maxRecDepth 100000
set_option maxHeartbeats 4000000
namespace KaG
open PySem PySem.Spec PyProof.Rows L2 KaN
/-- the dict of least tells -/
def LdOk (kvs : List (Key × V)) (ns : List Str) : Prop := ∀ x ∈ ns, ∃ v : Int, valV kvs (Sum.inr x) = some (.int v) ∧ 1 ≤ v ∧ v ≤ 3
theorem ld_ok {kvs : List (Key × V)} {ns : List Str} (nd : ns.Nodup) (e : kvs.map (·.1) = ns.map Sum.inr) (h : ∀ kv ∈ kvs, ∃ v : Int, kv.2 = .int v ∧ 1 ≤ v ∧ v ≤ 3) : LdOk kvs ns := fun x hx => by
  have m : (Sum.inr x : Key) ∈ kvs.map (·.1) := by rw [e]; exact List.mem_map.mpr ⟨x, hx, rfl⟩
  obtain ⟨kv, hkv, ek⟩ := List.mem_map.mp m
  obtain ⟨v, ev, v1, v3⟩ := h kv hkv
  have nk : (kvs.map (·.1)).Nodup := by rw [e]; exact List.pairwise_map.mpr (nd.imp fun h z => h (Sum.inr.inj z))
  have q := valV_in nk hkv
  rw [ek, ev] at q
  exact ⟨v, q, v1, v3⟩
section
variable {P : Program} {w : World} {K : PySem.W.Frag} {mg : Str → Option Value} {base : Heap}
abbrev nmTh : List Str := ["bag", "kinds", "names", "rows", "name", "least", "found", "k", "grounds", "giver", "tell", "ground"]
theorem scTh : FnScope nmTh ["bag", "kinds"] (defScope sThreaded) := ⟨rfl, rfl, rfl, by decide +kernel, rfl, by decide +kernel, by decide +kernel⟩
def spTh : Sp := fun vs H Q _ => ∃ (bg : Addr) (n : Int), vs = [.ref bg, .int n] ∧ Bag H bg ∧ 1 ≤ n ∧ n ≤ 5 ∧ spBook H bg Q
theorem ok_th {f fM fX fS fT : Addr} {fd fdM fdX fdS fdT : FuncData} (F : Fun K "_law_threaded" "_law_threaded" sThreaded f fd) (T : TxtC mg) (CN : Ct P w K mg base "_law_named" 3 ["bag", "many"] spNamed fM fdM) (CX : Ct P w K mg base "_law_mixed" 2 ["bag", "things"] spMixed fX fdX)
    (C : Ct P w K mg base "_law_some" 2 ["bag", "things"] spSome2 fS fdS) (CT : Ct P w K mg base "_law_take" 1 ["bag", "upto"] spTake fT fdT) : FnOk P w K mg base CX0 6 f fd ["bag", "kinds"] spTh := by
  refine F.ok scTh (fun vs H Q E h => ?_) (fun cdv A outer s H vs Q E hr h => ?_)
  · obtain ⟨bg, n, rfl, _⟩ := h
    rfl
  · obtain ⟨bg, n, rfl, hB, n1, n5, k⟩ := h
    have hr3 : Room 3 (A.deeper (envOfC "_law_threaded" (defScope sThreaded) s.heap.objs.size f cdv)) := hr.mono (by decide)
    have hr2 : Room 2 (A.deeper (envOfC "_law_threaded" (defScope sThreaded) s.heap.objs.size f cdv)) := hr.mono (by decide)
    have hr1 : Room 1 (A.deeper (envOfC "_law_threaded" (defScope sThreaded) s.heap.objs.size f cdv)) := hr.mono (by decide)
    have hu : (A.deeper (envOfC "_law_threaded" (defScope sThreaded) s.heap.objs.size f cdv)).units + 64 < cLine := by have := hr.3; omega
    have u1 : (A.deeper (envOfC "_law_threaded" (defScope sThreaded) s.heap.objs.size f cdv)).units + 1 < cLine := by have := hr.3; omega
    refine ⟨_, (pss_cons (ps_asg (pe_tup (pa_cons (pe_call CN.G hr3 (by rfl) CN.m CN.kp CN.b .nil pass0 (pa_cons (pv 0) (pa_cons (pe_op op_add pe_int (pe_call CT.G hr1 (by rfl) CT.m CT.kp CT.b .nil pass0 (pa_cons (pv 0) (pa_cons (pv 1) pa_nil)))) pa_nil)))
          (pa_cons (pe_call CN.G hr3 (by rfl) CN.m CN.kp CN.b .nil pass0 (pa_cons (pv 0) (pa_cons pe_int pa_nil))) pa_nil)))
          (pg_tup (by rfl) (pgs_cons (pg_name (i := 2) scTh.nd rfl (Or.inl rfl)) (pgs_cons (pg_name (i := 3) scTh.nd rfl (Or.inr rfl)) pgs_nil))))
      (pss_cons (ps_par (i := 5) (j := 6) rfl scTh.nd rfl rfl (by decide) rfl rfl (pa_cons (pe_callTy (call_dictP rfl) (by rfl) T.dct (by decide +kernel) (pa_cons (pe_lc (own := [("name", 4)]) (g := gName 4) (by rfl) scTh.nd (pi_tup (pv 2))
          (blkOk_by (own := [("name", 4)]) (N := nmTh) (sc := defScope sThreaded) (by decide +kernel)) (fun _ _ _ _ _ => pg_name (i := 4) scTh.nd rfl (Or.inl rfl)) (fun _ _ _ _ _ => pts_nil)
          (fun _ _ _ _ _ => pe_tup (pa_cons (pv 4) (pa_cons (pe_op (r := rI0 fun i j => V.int (i + j)) op_add pe_int (pe_call CT.G hr1 (by rfl) CT.m CT.kp CT.b .nil pass0 (pa_cons (pv 0) (pa_cons pe_int pa_nil)))) pa_nil)))) pa_nil)) (pa_cons (pe_lst pa_nil) pa_nil)) (by rfl))
      (pss_cons (ps_for PassesOwn.never rfl (pi_range1 rfl T.b.range (pa_cons (pe_callB call_len_seq (by rfl) T.b.len PySem.boot_len (pa_cons (pv 2) pa_nil)) pa_nil)) (pg_name (i := 7) scTh.nd rfl (Or.inl rfl))
        (pss_cons (ps_par (i := 4) (j := 8) rfl scTh.nd rfl rfl (by decide) rfl rfl (pa_cons (pe_ix ix_tup (pv 2) (pv 7) (fun _ _ => rfl)) (pa_cons (pe_lst pa_nil) pa_nil)) (by rfl))
        (pss_cons (ps_for PassesOwn.never rfl (pi_list (pe_slice sl_list (pe_call CX.G hr2 (by rfl) CX.m CX.kp CX.b .nil pass0 (pa_cons (pv 0) (pa_cons (pv 2) pa_nil))) po_none (po_some (pe_call C.G hr2 (by rfl) C.m C.kp C.b .nil pass0 (pa_cons (pv 0) (pa_cons (pe_lst (pa_cons pe_int (pa_cons pe_int (pa_cons pe_int (pa_cons pe_int (pa_cons pe_int pa_nil)))))) pa_nil)))))) (pg_name (i := 9) scTh.nd rfl (Or.inl rfl))
          (pss_cons (ps_set (i := 10) scTh.nd rfl (Or.inl rfl) (pe_op op_add (pe_dget u1 (pv 5) (pv 4) (fun _ _ => rfl)) (pe_op op_mul (pe_call C.G hr2 (by rfl) C.m C.kp C.b .nil pass0 (pa_cons (pv 0) (pa_cons (pe_lst (pa_cons pe_int (pa_cons pe_int (pa_cons pe_int pa_nil)))) pa_nil)))
            (pe_callTy call_int1 (by rfl) T.b.int (by decide +kernel) (pa_cons (pe_cmpR op_lt (pe_dget u1 (pv 5) (pv 4) (fun _ _ => rfl)) pe_int (nomark _)) pa_nil)))))
          (pss_one (ps_expr (pe_bm PySem.F.plainAttrs_list PySem.F.slot_list_append PySem.F.type_list_append mt_append (pv 8) (pa_cons (pe_tup (pa_cons (pe_tup (pa_cons pe_str (pa_cons (pv 9) (pa_cons (pe_op op_add pe_int (pe_call CT.G hr1 (by rfl) CT.m CT.kp CT.b .nil pass0 (pa_cons (pv 0) (pa_cons (pe_dget u1 (pv 5) (pv 9) (fun _ _ => rfl)) pa_nil)))) (pa_cons (pv 10) (pa_cons pe_int pa_nil)))))) pa_nil)) pa_nil))))))
        (pss_cons (ps_if (PW.pt (pw_or (pt_cmpR op_eq (pv 7) pe_int (nomark _)) (pw_or1 (pt_cmpR op_eq (pe_call CT.G hr1 (by rfl) CT.m CT.kp CT.b .nil pass0 (pa_cons (pv 0) (pa_cons pe_int pa_nil))) pe_int (nomark _)))))
          (pss_one (ps_expr (pe_bm PySem.F.plainAttrs_list PySem.F.slot_list_append PySem.F.type_list_append mt_append (pv 8) (pa_cons (pe_tup (pa_cons (pe_tup (pa_cons pe_str (pa_cons (pe_ix ix_tup (pv 3) pe_int (fun _ _ => rfl)) (pa_cons (pe_call CT.G hr1 (by rfl) CT.m CT.kp CT.b .nil pass0 (pa_cons (pv 0) (pa_cons pe_int pa_nil))) (pa_cons pe_int pa_nil))))) pa_nil)) pa_nil)))) pss_nil)
        (pss_cons (ps_if (pt_cmpR op_eq (pe_call CT.G hr1 (by rfl) CT.m CT.kp CT.b .nil pass0 (pa_cons (pv 0) (pa_cons pe_int pa_nil))) pe_int (nomark _))
          (pss_one (ps_setLc (i := 8) (own := [("ground", 11)]) (g := gName 11) (by rfl) scTh.nd rfl rfl (sw_true rfl rfl rfl (by decide +kernel)) (pi_list (pv 8))
            (blkOk_by (own := [("ground", 11)]) (N := nmTh) (sc := defScope sThreaded) (by decide +kernel)) (fun _ _ _ _ _ => pg_name (i := 11) scTh.nd rfl (Or.inl rfl)) (fun _ _ _ _ _ => pts_nil)
            (fun _ _ _ _ _ => pe_callTy (T := "tuple") (r := rTupOf K) call_tupOf (by rfl) T.tup (by decide +kernel) (pa_cons (pe_callB (id := "sorted") (r := rSortN K w) (cr_sortN rfl hu) (by rfl) T.sor (by decide +kernel) (pa_cons (pe_callTy (T := "set") (r := rSetN K w) (cr_setN rfl hu) (by rfl) T.set (by decide +kernel)
              (pa_cons (pe_op (r := rCatT K) op_catT (pv 11) (pe_tup (pa_cons (pe_tup (pa_cons pe_str (pa_cons (pe_ix (r := rIxT K) ix_tup (pv 3) pe_int (fun _ _ => rfl)) (pa_cons pe_int (pa_cons pe_int pa_nil))))) pa_nil))) pa_nil)) pa_nil)) pa_nil)))) pss_nil)
        (pss_one (ps_expr (pe_bm PySem.F.plainAttrs_list PySem.F.slot_list_append PySem.F.type_list_append mt_append (pv 6) (pa_cons (pe_tup (pa_cons (pv 4) (pa_cons (pe_op op_add pe_int (pe_call CT.G hr1 (by rfl) CT.m CT.kp CT.b .nil pass0 (pa_cons (pv 0) (pa_cons pe_int pa_nil))))
            (pa_cons (pe_call C.G hr2 (by rfl) C.m C.kp C.b .nil pass0 (pa_cons (pv 0) (pa_cons (pe_lst (pa_cons pe_int (pa_cons pe_int (pa_cons pe_int (pa_cons pe_int (pa_cons pe_int (pa_cons pe_int pa_nil))))))) pa_nil)))
            (pa_cons (pe_callTy call_tupOf (by rfl) T.tup (by decide +kernel) (pa_cons (pe_callB (cr_sortN rfl hu) (by rfl) T.sor (by decide +kernel) (pa_cons (pe_callTy (cr_setN rfl hu) (by rfl) T.set (by decide +kernel) (pa_cons (pv 8) pa_nil)) pa_nil)) pa_nil)) pa_nil))))) pa_nil)))))))))
      (pss_one (ps_ret (pe_tup (pa_cons (pv 3) (pa_cons (pe_callTy call_tuple_of (by rfl) T.tup (by decide +kernel) (pa_cons (pv 6) pa_nil)) pa_nil)))))))), ?_⟩
    have sz : ∀ {m : Nat}, m ≤ 900 → m ≤ sizeLine := fun h => Nat.le_of_lt (small1000 (by omega))
    refine ⟨_, rfl, _, rfl, _, rfl, bg, _, rfl, hB, by omega, by omega, fun z1 H1 E1 a0 a1 => ?_⟩
    refine ⟨_, _, rfl, rfl, bg, _, rfl, E1.bag, by omega, by omega, fun nt ns H2 E2 nnt ent hns lns => ?_⟩
    have E12 := E1.trans E2
    refine ⟨_, rfl, bg, 2, rfl, E12.bag, by decide, by decide, fun rt rs H4 E4 nrt ert hrs lrs => ?_⟩
    have E14 := E12.trans E4
    have ntb : nt ≠ bg := fun z => E1.bag.there (z ▸ nnt)
    have rtb : rt ≠ bg := fun z => E12.bag.there (z ▸ nrt)
    have ent4 := E4.keep nt _ ntb ent
    have nl : ns.length = (1 + z1).toNat := lns
    have rl : rs.length = 2 := lrs
    refine ⟨sz (by show 2 ≤ 900; decide), fun t nt' => ?_⟩
    refine ⟨t, _, rfl, SqT.of upd_same, by rfl, _, _, rfl, _, _, rfl, rfl, ?_⟩
    have E15 := E14.new (o := .tup [.ref nt, .ref rt]) nt'
    have e1 := same_upd (o := .tup [.ref nt, .ref rt]) nt' _ _ ent4
    have e2 := same_upd (o := .tup [.ref nt, .ref rt]) nt' _ _ ert
    generalize upd H4 t (.tup [.ref nt, .ref rt]) = H5 at E15 e1 e2 ⊢
    refine ⟨_, rfl, nt, rfl, ⟨_, SqT.of e1⟩, fun D hD => lc_tup (K := K) (a := nt) (xs := ns.map V.str) (fun i G => Ext bg H5 G ∧ ∃ (qs : List Addr) (kvs : List (Key × V)), G D = some (.lst (qs.map V.ref)) ∧ Paired (fun q (kv : Key × V) => G q = some (.tup [kV kv.1, kv.2])) qs kvs ∧ kvs.map (·.1) = (ns.take i).map Sum.inr ∧ ∀ kv ∈ kvs, ∃ v : Int, kv.2 = .int v ∧ 1 ≤ v ∧ v ≤ 3) ?_ ?_ ?_ ?_⟩
    · exact ⟨(Ext.of_same E15.bag Same.refl').new hD, [], [], upd_same, .nil, rfl, fun _ z => (by cases z)⟩
    · rintro i G _ ⟨E6, _⟩
      exact SqT.of (E6.keep nt _ ntb e1)
    · rintro i x G hx ⟨E6, qs, kvs, gD, pq, ek, hv⟩
      rw [List.getElem?_map] at hx
      obtain ⟨nm, hnm, rfl⟩ := Option.map_eq_some_iff.mp hx
      have hi := (List.getElem?_eq_some_iff.mp hnm).1
      have Db : D ≠ bg := fun z => E15.bag.there (z ▸ hD)
      refine ⟨rfl, ?_⟩
      unfold tYes
      dsimp only
      refine iteT ⟨_, rfl, _, rfl, bg, 3, rfl, E6.bag, by decide, by decide, fun y G2 E7 c0 c1 => ?_⟩
      refine ⟨_, _, rfl, rfl, sz (by show 2 ≤ 900; decide), fun q nq => ?_⟩
      have gD2 := E7.keep D _ Db gD
      have S1 := same_upd (o := .tup [.str nm, .int (1 + y)]) nq
      have E8 := E7.trans (Ext.of_same E7.bag S1)
      have lq : qs.length ≤ 5 := by
        have h1 := paired_len pq
        have h2 := congrArg List.length ek
        rw [List.length_map, List.length_map, List.length_take] at h2
        omega
      have tsl := ts_lst (ys := qs.map V.ref ++ [V.ref q]) (S1 _ _ gD2)
      refine ⟨_, S1 _ _ gD2, small1000 (by rw [List.length_map]; omega), Ext.write E15.bag (E6.trans E8) hD, qs ++ [q], kvs ++ [(Sum.inr nm, .int (1 + y))], by rw [upd_same, List.map_append]; rfl, ?_, ?_, ?_⟩
      · refine paired_snoc (x := q) (y := ((Sum.inr nm : Key), V.int (1 + y))) ?_ (Paired.mono' (fun a kv h => tsl _ _ (TSame.ext E6.bag E8 _ _ h)) pq)
        exact tsl _ _ upd_same
      · rw [List.map_append, ek, List.take_add_one, hnm, Option.toList_some, List.map_append]; rfl
      · intro kv m
        rcases List.mem_append.mp m with c | c
        · exact hv kv c
        · rw [List.mem_singleton.mp c]; exact ⟨1 + y, rfl, by omega, by omega⟩
    · rintro G ⟨E6, qs, kvs, gD, pq, ek, hv⟩
      rw [List.length_map, List.take_length] at ek
      have nk : ((([] : List (Key × V)) ++ kvs).map (·.1)).Nodup := by
        rw [List.nil_append, ek]
        exact List.pairwise_map.mpr (hns.nd.imp fun h z => h (Sum.inr.inj z))
      refine ⟨D, qs, kvs, rfl, SqL.of gD, Paired.mono' (fun a kv h => SqT.of h) pq, fun ld nld => ?_⟩
      rw [merge_new _ _ nk, List.nil_append]
      have hld := ld_ok hns.nd ek hv
      have E7 := (E15.trans E6).new (o := .dK kvs) nld
      have f1 := same_upd (o := .dK kvs) nld _ _ (E6.keep nt _ ntb e1)
      have f2 := same_upd (o := .dK kvs) nld _ _ (E6.keep rt _ rtb e2)
      have fl : (upd G ld (.dK kvs)) ld = some (.dK kvs) := upd_same
      have ldb : ld ≠ bg := fun z => E6.bag.there (z ▸ nld)
      generalize upd G ld (.dK kvs) = G7 at E7 f1 f2 fl ⊢
      refine ⟨Nat.zero_le _, fun p np => ?_⟩
      have pH : H p = none := newAt E7 np
      have pb : p ≠ bg := fun z => hB.there (z ▸ pH)
      refine ⟨_, _, rfl, ?_⟩
      refine ⟨_, rfl, nt, _, rfl, .inr (SqT.of (same_upd np _ _ f1)), _, rfl, by omega, by rw [List.length_map]; omega, for_range (fun i σ' J => (∃ x4 x7 x8 x9 x10 x11 : Option V, σ' = [some (.ref bg), some (.int n), some (.ref nt), some (.ref rt), x4, some (.ref ld), some (.ref p), x7, x8, x9, x10, x11]) ∧
        Ext bg H J ∧ J nt = some (.tup (ns.map V.str)) ∧ J rt = some (.tup (rs.map V.str)) ∧ J ld = some (.dK kvs) ∧ ∃ (kas : List Addr) (ks : List Kd), J p = some (.lst (kas.map V.ref)) ∧ KsAt J rs ns kas ks ∧ ks.map Kd.name = ns.take i) ?_ ?_ ?_⟩
      · exact ⟨⟨_, _, _, _, _, _, rfl⟩, E7.new np, same_upd np _ _ f1, same_upd np _ _ f2, same_upd np _ _ fl, [], [], upd_same, ⟨.nil, fun _ z => nomatch z⟩, rfl⟩
      · rintro i σ' J hi ⟨⟨x4, x7, x8, x9, x10, x11, rfl⟩, E8, g1, g2, gl, kas, ks, gp, hk, en⟩
        rw [Int.toNat_natCast, List.length_map] at hi
        have hni : ns[i]? = some ns[i] := List.getElem?_eq_getElem hi
        obtain ⟨v, ev, v1, v3⟩ := hld ns[i] (List.getElem_mem hi)
        refine ⟨_, rfl, _, rfl, nt, _, _, .str ns[i], rfl, rfl, SqT.of g1, by rw [Int.zero_add]; exact atI_nat (by rw [List.getElem?_map, hni]; rfl), Nat.zero_le _, fun gr ngr => ⟨_, _, rfl, ?_⟩⟩
        have E9 : Ext bg J (upd J gr (.lst [])) := (Ext.of_same E8.bag Same.refl').new ngr
        have grb : gr ≠ bg := fun z => E8.bag.there (z ▸ ngr)
        have grp : gr ≠ p := fun z => by rw [z, gp] at ngr; cases ngr
        have gr0 : (upd J gr (.lst [])) gr = some (.lst []) := upd_same
        generalize upd J gr (.lst []) = J0 at E9 gr0 ⊢
        refine ⟨_, rfl, _, rfl, bg, nt, ns.map V.str, rfl, E9.bag, ntb, .inr (E9.keep nt _ ntb g1), by rw [List.length_map]; omega, fun m ys J1 E10 nm em pm => ?_⟩
        obtain ⟨zs, pz, rfl⟩ := perm_of_map pm ns rfl
        have mb : m ≠ bg := fun z => E9.bag.there (z ▸ nm)
        refine ⟨_, rfl, sz (by show 5 ≤ 900; decide), fun q nq => ?_⟩
        have E11 := E10.new (o := .lst [.int 1, .int 1, .int 2, .int 2, .int 3]) nq
        have qb : q ≠ bg := fun z => E10.bag.there (z ▸ nq)
        refine ⟨bg, q, _, rfl, E11.bag, qb, .inl upd_same, by decide, by decide, fun u J2 mu E12 => ?_⟩
        obtain ⟨z, rfl, z1', z3'⟩ := ints_in (ns := [1, 1, 2, 2, 3]) (lo := 1) (hi := 3) (by decide) mu
        have hm := E12.keep m _ mb (same_upd (o := .lst [.int 1, .int 1, .int 2, .int 2, .int 3]) nq _ _ em)
        refine ⟨z, rfl, _, _, rfl, SqL.of hm, fun r nr => ?_⟩
        rw [cut_to _ z (by omega), ← List.map_take]
        have lz : (zs.take z.toNat).length ≤ 3 := by rw [List.length_take]; omega
        have inz : ∀ x ∈ zs.take z.toNat, x ∈ ns := fun x hx => pz.mem_iff.mp (List.mem_of_mem_take hx)
        generalize zs.take z.toNat = zz at lz inz ⊢
        have E13 := ((E9.trans E11).trans E12).new (o := .lst (zz.map V.str)) nr
        have rb : r ≠ bg := fun z => E12.bag.there (z ▸ nr)
        have E9to := (E11.trans E12).new (o := .lst (zz.map V.str)) nr
        have gr1 := E9to.keep gr _ grb gr0
        have hr0 : (upd J2 r (.lst (zz.map V.str))) r = some (.lst (zz.map V.str)) := upd_same
        have rgr : r ≠ gr := fun z => by
          have := (E11.trans E12).keep gr _ grb gr0
          rw [← z, nr] at this; cases this
        have grH : J gr = none := ngr
        have rJ : J r = none := newAt ((E9.trans E11).trans E12) nr
        generalize upd J2 r (.lst (zz.map V.str)) = J3 at E13 gr1 hr0 ⊢
        refine ⟨r, rfl, ⟨_, SqL.of hr0⟩, for_list (K := K) (a := r) (xs := zz.map V.str) (fun j σ' M => (∃ x9 x10 x11 : Option V, σ' = [some (.ref bg), some (.int n), some (.ref nt), some (.ref rt), some (.str ns[i]), some (.ref ld), some (.ref p), some (.int (0 + (i : Int))), some (.ref gr), x9, x10, x11]) ∧
          Ext bg J M ∧ M r = some (.lst (zz.map V.str)) ∧ ∃ (as : List Addr) (gs : List (List (List V))), M gr = some (.lst (as.map V.ref)) ∧ GsAt M rs ns as gs ∧ as.length = j ∧ ∀ g ∈ gs, g.length = 1) ?_ ?_ ?_ ?_⟩
        · exact ⟨⟨_, _, _, rfl⟩, E13, hr0, [], [], gr1, GsAt.nil, rfl, fun _ z => (by cases z)⟩
        · rintro j σ' M _ ⟨_, _, hr, _⟩
          exact SqL.of hr
        · rintro j x σ' M hx ⟨⟨x9, x10, x11, rfl⟩, E14, hr, as, gs, mg', hg, la, one⟩
          rw [List.getElem?_map] at hx
          obtain ⟨gv, hgv, rfl⟩ := Option.map_eq_some_iff.mp hx
          have hj := (List.getElem?_eq_some_iff.mp hgv).1
          have gin := inz gv (List.mem_of_getElem? hgv)
          obtain ⟨v', ev', v1', v3''⟩ := hld gv gin
          have hl := E14.keep ld _ ldb gl
          refine ⟨_, rfl, _, rfl, ld, .int v, rfl, by rw [← ev]; exact DGet.k (k := Sum.inr ns[i]) hl, ?_⟩
          refine ⟨_, rfl, sz (by show 3 ≤ 900; decide), fun q nq => ?_⟩
          have E15 := (Ext.of_same E14.bag Same.refl' : Ext bg M M).new (o := .lst [.int 0, .int 0, .int 1]) nq
          have qb : q ≠ bg := fun z => E14.bag.there (z ▸ nq)
          refine ⟨bg, q, _, rfl, E15.bag, qb, .inl upd_same, by decide, by decide, fun u2 M2 mu2 E16 => ?_⟩
          obtain ⟨u, rfl, u0, u1'⟩ := ints_in (ns := [0, 0, 1]) (lo := 0) (hi := 1) (by decide) mu2
          have E17 := E15.trans E16
          have hl2 := E17.keep ld _ ldb hl
          refine ⟨_, rfl, _, rfl, ld, .int v, rfl, by rw [← ev]; exact DGet.k (k := Sum.inr ns[i]) hl2, _, _, rfl, rfl, .inr ⟨_, rfl, _, _, rfl, rfl, .inl ⟨by omega, by omega⟩, _, _, rfl, rfl, ?_⟩⟩
          have hte : 0 ≤ v + u * (if decide (v < 4) = true then 1 else 0) ∧ v + u * (if decide (v < 4) = true then 1 else 0) ≤ 4 := by
            split <;> omega
          dsimp only [gName]
          generalize v + u * (if decide (v < 4) = true then (1 : Int) else 0) = te at hte ⊢
          have mg2 := E17.keep gr _ grb mg'
          refine ⟨_, rfl, .inl ⟨rfl, _, SqL.of mg2⟩, _, rfl, _, rfl, _, rfl, _, rfl, ld, .int v', rfl, by rw [← ev']; exact DGet.k (k := Sum.inr gv) hl2, bg, v', rfl, E17.bag, by omega, by omega, fun y M3 E18 c0 c1 => ?_⟩
          refine ⟨_, _, rfl, rfl, _, rfl, sz (by show 5 ≤ 900; decide), fun na nna => ⟨sz (by show 1 ≤ 900; decide), fun ga nga => ?_⟩⟩
          have E19 := E17.trans E18
          have S1 := same_upd (o := .tup [.str "kind", .str gv, .int (1 + y), .int te, .int 9]) nna
          have S2 := same_upd (o := .tup [.ref na]) nga
          have S12 := KaG.Same.tr S1 S2
          have mg3 := S12 _ _ (E18.keep gr _ grb mg2)
          have E20 := E19.trans (Ext.of_same E19.bag S12)
          have E21 := E14.trans E20
          refine ⟨gr, _, _, rfl, rfl, mg3, small1000 (by rw [List.length_map]; omega), ?_⟩
          have tsl := ts_lst (ys := as.map V.ref ++ [V.ref ga]) mg3
          refine ⟨⟨_, _, _, rfl⟩, Ext.write E8.bag E21 ngr, by rw [upd_ne rgr]; exact E20.keep r _ rb hr, as ++ [ga], gs ++ [[[.str "kind", .str gv, .int (1 + y), .int te, .int 9]]], by rw [upd_same, List.map_append]; rfl, ?_, by rw [List.length_append, la]; rfl, fun g m => ?_⟩
          · refine (GsAt.snoc (hg.ts (TSame.ext E14.bag E20)) (grd_one upd_same (S2 _ _ upd_same)) ⟨by show 0 < 1; decide, by show 1 ≤ 3; decide, fun n2 m2 => ?_⟩).ts tsl
            rw [List.mem_singleton.mp m2]
            exact .kind gv (1 + y) te 9 gin (by omega) (by omega) hte.1 hte.2 (by decide) (by decide)
          · rcases List.mem_append.mp m with c | c
            · exact one g c
            · rw [List.mem_singleton.mp c]; rfl
        · rintro σ' M ⟨⟨x9, x10, x11, rfl⟩, E14, hr, as, gs, mg', hg, la, one⟩
          rw [List.length_map] at la
          dsimp only
          refine seqGo (fun b' D' => ∀ (as : List Addr) (gs : List (List (List V))) (M' : Hp), Ext bg J M' → M' gr = some (.lst (as.map V.ref)) → GsAt M' rs ns as gs → (∀ g ∈ gs, g.length = 1) → gs.length ≤ 4 →
            b' D' [some (.ref bg), some (.int n), some (.ref nt), some (.ref rt), some (.str ns[i]), some (.ref ld), some (.ref p), some (.int (0 + (i : Int))), some (.ref gr), x9, x10, x11] M') (fun as gs M E14 mg' hg one le4 => ?_) (fun rest => ?_)
          · refine seqGo (fun b' D' => ∀ (ga : Addr) (as : List Addr) (gs : List (List (List V))) (M' : Hp), Ext bg J M' → M' ga = some (.lst (as.map V.ref)) → ga ≠ bg → GsAt M' rs ns as gs → gs.length ≤ 4 →
              b' D' [some (.ref bg), some (.int n), some (.ref nt), some (.ref rt), some (.str ns[i]), some (.ref ld), some (.ref p), some (.int (0 + (i : Int))), some (.ref ga), x9, x10, x11] M') (fun ga bs hs M4 E11 gg gab hgs lb => ?_) (fun rest => ?_)
            · have gp4 := E11.keep p _ pb gp
              have lenb := paired_len hgs.pr
              refine ⟨_, rfl, .inl ⟨rfl, _, SqL.of gp4⟩, _, rfl, _, rfl, bg, 3, rfl, E11.bag, by decide, by decide, fun y1 G5 E12 c0 c1 => ?_⟩
              refine ⟨_, _, rfl, rfl, _, rfl, sz (by show 6 ≤ 900; decide), fun q2 nq2 => ?_⟩
              have E13 := E12.new (o := .lst [.int 0, .int 0, .int 1, .int 2, .int 3, .int 8]) nq2
              have q2b : q2 ≠ bg := fun z => E12.bag.there (z ▸ nq2)
              refine ⟨bg, q2, _, rfl, E13.bag, q2b, .inl upd_same, by decide, by decide, fun v2 G6 mv2 E14 => ?_⟩
              obtain ⟨bar, rfl, bar0, bar12⟩ := ints_in (ns := [0, 0, 1, 2, 3, 8]) (lo := 0) (hi := 8) (by decide) mv2
              have E15 := E13.trans E14
              have hgs6 := hgs.ts (TSame.ext E11.bag E15)
              refine ⟨_, rfl, ?_⟩
              dsimp only [tCB, tCons, tNil]
              refine order_grounds (K := K) (w := w) (rows := rs) (names := ns) (.inl (SqL.of (E15.keep ga _ gab gg))) hgs6.pr (fun g m => ⟨(hgs6.ok g m).1, (hgs6.ok g m).2.2⟩) (by omega) fun a2 bs2 gs2 G7 S na2 ea2 pr2 sub le => ?_
              have gp7 := S _ _ (E15.keep p _ pb gp4)
              refine ⟨sz (by show 4 ≤ 900; decide), fun ka nka => ?_⟩
              have S8 := same_upd (o := .tup [.str ns[i], .int (6 + y1), .int bar, .ref a2]) nka
              have hli := paired_len hk.pr
              have hik : ks.length = i := by
                have := congrArg List.length en
                rw [List.length_map, List.length_take] at this
                omega
              refine ⟨p, _, _, rfl, rfl, S8 _ _ gp7, small1000 (by rw [List.length_map]; omega), ?_⟩
              have E17 : Ext bg J (upd G7 ka (.tup [.str ns[i], .int (6 + y1), .int bar, .ref a2])) := ((E11.trans E15).trans (Ext.of_same E15.bag S)).new nka
              have T7 : TSame J (upd G7 ka (.tup [.str ns[i], .int (6 + y1), .int bar, .ref a2])) := TSame.ext E8.bag E17
              have tw := ts_lst (ys := kas.map V.ref ++ [.ref ka]) (S8 _ _ gp7)
              have ldp : ld ≠ p := fun z => by rw [z, gp] at gl; cases gl
              refine ⟨⟨_, _, _, _, _, _, rfl⟩, Ext.write hB (E8.trans E17) pH, tw _ _ (T7 _ _ g1), tw _ _ (T7 _ _ g2), by rw [upd_ne ldp]; exact E17.keep ld _ ldb gl, kas ++ [ka], ks ++ [⟨ns[i], 6 + y1, bar, gs2⟩], by rw [upd_same, List.map_append]; rfl, ?_, ?_⟩
              · refine (((hk.ts T7).snoc ?_ ?_).ts tw)
                · exact ⟨a2, bs2, upd_same, S8 _ _ ea2, Paired.mono' (fun a b q => Grd.ts q (TSame.of S8)) pr2⟩
                · exact ⟨⟨by show 1 ≤ 6 + y1; omega, by show 6 + y1 ≤ 8; omega, bar0, by show bar ≤ 12; omega, by show gs2.length ≤ 4; omega⟩, fun g m => hgs.ok g (sub g m)⟩
              · rw [List.map_append, en, List.take_add_one, hni]; rfl
            · refine ⟨_, rfl, bg, 4, rfl, E14.bag, by decide, by decide, fun y M1 E15 c0 c1 => ⟨rfl, _, rfl, ite2 (fun hc => ?_) fun hc => rest gr as gs M1 (E14.trans E15) (E15.keep gr _ grb mg') grb (hg.ts (TSame.ext E14.bag E15)) le4⟩⟩
              have E16 := E14.trans E15
              have mg1 := E15.keep gr _ grb mg'
              have hg1 := hg.ts (TSame.ext E14.bag E15)
              have lenas := paired_len hg1.pr
              refine ⟨_, rfl, gr, rfl, ⟨_, SqL.of mg1⟩, fun D hD => lc_list (K := K) (a := gr) (xs := as.map V.ref) (fun j M => Ext bg M1 M ∧ ∃ (bs : List Addr) (hs : List (List (List V))), M D = some (.lst (bs.map V.ref)) ∧ GsAt M rs ns bs hs ∧ bs.length = j) ?_ ?_ ?_ ?_⟩
              · exact ⟨(Ext.of_same E16.bag Same.refl').new hD, [], [], upd_same, GsAt.nil, rfl⟩
              · rintro j M _ ⟨E18, _⟩
                exact SqL.of (E18.keep gr _ grb mg1)
              · rintro j v M hv ⟨E18, bs, hs, mD, hh, lb⟩
                rw [List.getElem?_map] at hv
                obtain ⟨a2, ha2, rfl⟩ := Option.map_eq_some_iff.mp hv
                obtain ⟨g, hgg, nsA, w1, w2⟩ := paired_at hg1.pr ha2
                have og := hg1.ok g (List.mem_of_getElem? hgg)
                have one' := one g (List.mem_of_getElem? hgg)
                have hj : j < as.length := (List.getElem?_eq_some_iff.mp ha2).1
                have ts7 := TSame.ext E16.bag E18
                have Db : D ≠ bg := fun z => E16.bag.there (z ▸ hD)
                have pz := paired_len w2
                obtain ⟨z, hz, ez⟩ := at_str (ns := rs) (z := 1) (by decide) (by omega)
                refine ⟨rfl, ?_⟩
                unfold tYes
                dsimp only
                refine iteT ⟨_, rfl, _, rfl, rt, _, 1, .str z, rfl, rfl, SqT.of (ts7 _ _ (E16.keep rt _ rtb g2)), ez, sz (by show 4 ≤ 900; decide), fun na nna => ⟨sz (by show 1 ≤ 900; decide), fun ta nta => ?_⟩⟩
                have S1 := same_upd (o := .tup [.str "row", .str z, .int 1, .int 3]) nna
                have S2 := same_upd (o := .tup [.ref na]) nta
                have S12 := KaG.Same.tr S1 S2
                have y1 : (upd (upd M na (.tup [.str "row", .str z, .int 1, .int 3])) ta (.tup [.ref na])) na = some (.tup [.str "row", .str z, .int 1, .int 3]) := S2 _ _ upd_same
                have y2 : (upd (upd M na (.tup [.str "row", .str z, .int 1, .int 3])) ta (.tup [.ref na])) ta = some (.tup [.ref na]) := upd_same
                generalize upd (upd M na (.tup [.str "row", .str z, .int 1, .int 3])) ta (.tup [.ref na]) = M2 at S12 y1 y2 ⊢
                have mD2 := S12 _ _ mD
                have E21 : Ext bg M1 M2 := E18.trans (Ext.of_same E18.bag S12)
                have ts8 : TSame M1 M2 := TSame.ext E16.bag E21
                refine ⟨a2, ta, _, _, rfl, rfl, SqT.of (ts8 _ _ w1), SqT.of y2, ?_, sz (by rw [List.length_map]; show _ + 1 ≤ 900; omega), (fun e => by cases e), fun _ r nr => ?_⟩
                · intro e
                  have := congrArg List.length e
                  rw [List.length_map, List.length_nil] at this
                  omega
                have S4 := same_upd (o := .tup (nsA.map V.ref ++ [V.ref na])) nr
                dsimp only [tCB, tCons, tNil]
                have mem : ∀ n2 ∈ g ++ [[.str "row", .str z, .int 1, .int 3]], NeedV rs ns n2 := fun n2 m => (List.mem_append.mp m).elim (og.2.2 n2) fun m => by rw [List.mem_singleton.mp m]; exact .row z 1 3 hz (by decide) (by decide) (by decide) (by decide)
                refine order_needs (K := K) (w := w) (rows := rs) (names := ns) (as := nsA ++ [na]) (g := g ++ [[.str "row", .str z, .int 1, .int 3]]) (by rw [List.map_append]; exact .inr (SqT.of upd_same))
                  (paired_snoc (R := fun n2 it => (upd M2 r (.tup (nsA.map V.ref ++ [V.ref na]))) n2 = some (.tup it)) (S4 _ _ y1) (Paired.mono' (fun _ _ q => S4 _ _ (ts8 _ _ q)) w2)) mem (by rw [List.length_append]; show _ + 1 ≤ 4; omega) fun a3 g3 M3 S5 na3 ha3 sub3 pos3 le3 => ?_
                have S45 := KaG.Same.tr S4 S5
                have mD3 := S45 _ _ mD2
                rw [List.length_append] at pos3 le3
                have le3' : g3.length ≤ g.length + 1 := le3
                refine ⟨_, mD3, small1000 (by rw [List.length_map]; omega), Ext.write E16.bag (E21.trans (Ext.of_same E21.bag S45)) hD, bs ++ [a3], hs ++ [g3], by rw [upd_same, List.map_append]; rfl, ?_, by rw [List.length_append, lb]; rfl⟩
                have ts9 : TSame M M3 := TSame.of (KaG.Same.tr S12 S45)
                exact ((hh.ts ts9).snoc ha3 ⟨pos3 (by show 0 < _ + 1; omega), by omega, fun n2 m => mem n2 (sub3 n2 m)⟩).ts (ts_lst mD3)
              · rintro M ⟨E18, bs, hs, mD, hh, lb⟩
                rw [List.length_map] at lb
                have Db : D ≠ bg := fun z => E16.bag.there (z ▸ hD)
                have lh := paired_len hh.pr
                exact rest D bs hs M (E16.trans E18) mD Db hh (by omega)
          · refine ifGo (fun M' => Ext bg M M') (fun M' EM => ?_) (fun M' EM => ?_) (fun Q' q => ?_)
            · have g2M := (E14.trans EM).keep rt _ rtb g2
              have ygM := EM.keep gr _ grb mg'
              obtain ⟨z, hz, ez⟩ := at_str (ns := rs) (z := 0) (by decide) (by omega)
              have lg := paired_len hg.pr
              refine ⟨_, rfl, .inl ⟨rfl, _, SqL.of ygM⟩, _, rfl, rt, _, 0, .str z, rfl, rfl, SqT.of g2M, ez, _, rfl, bg, 5, rfl, EM.bag, by decide, by decide, fun y2 M1 E17 d0 d1 => ?_⟩
              refine ⟨sz (by show 4 ≤ 900; decide), fun nb nnb => ⟨sz (by show 1 ≤ 900; decide), fun gb ngb => ?_⟩⟩
              have yg1 := E17.keep gr _ grb ygM
              have T1 := same_upd (o := .tup [.str "row", .str z, .int y2, .int 9]) nnb
              have T2 := same_upd (o := .tup [.ref nb]) ngb
              have T12 := KaG.Same.tr T1 T2
              have yg2 := T12 _ _ yg1
              refine ⟨gr, _, _, rfl, rfl, yg2, small1000 (by rw [List.length_map]; omega), ?_⟩
              have tsl := ts_lst (ys := as.map V.ref ++ [V.ref gb]) yg2
              have E18 := E17.trans (Ext.of_same E17.bag T12)
              have E19 := EM.trans E18
              refine rest (as ++ [gb]) (gs ++ [[[.str "row", .str z, .int y2, .int 9]]]) _ (Ext.write E8.bag (E14.trans E19) ngr) (by rw [upd_same, List.map_append]; rfl) ?_ (fun g m => ?_) (by rw [List.length_append]; show _ + 1 ≤ 4; omega)
              · refine ((hg.ts (TSame.ext E14.bag E19)).snoc (grd_one upd_same (T2 _ _ upd_same)) ⟨by show 0 < 1; decide, by show 1 ≤ 3; decide, fun n2 m2 => ?_⟩).ts tsl
                rw [List.mem_singleton.mp m2]
                exact .row z y2 9 hz d0 (by omega) (by decide) (by decide)
              · rcases List.mem_append.mp m with c | c
                · exact one g c
                · rw [List.mem_singleton.mp c]; rfl
            · have lg := paired_len hg.pr
              exact rest as gs M' (E14.trans EM) (EM.keep gr _ grb mg') (hg.ts (TSame.ext E14.bag EM)) one (by omega)
            · have r0' : Ext bg M M := Ext.of_same E14.bag Same.refl'
              refine ⟨_, rfl, rfl, _, rfl, ite2 (fun h1 => q _ _ r0') fun h1 => ?_⟩
              exact ⟨_, rfl, bg, 4, rfl, E14.bag, by decide, by decide, fun y M E c0 c1 => ⟨rfl, _, rfl, q _ _ E⟩⟩
      · rintro σ' J ⟨⟨x4, x7, x8, x9, x10, x11, rfl⟩, E8, g1, g2, gl, kas, ks, gp, hk, en⟩
        rw [Int.toNat_natCast, List.length_map, List.take_length] at en
        refine ⟨_, rfl, _, rfl, p, _, rfl, .inl ⟨SqL.of gp, fun q nq => ?_⟩⟩
        refine ⟨sz (by show 2 ≤ 900; decide), fun b nb => ?_⟩
        have S1 := same_upd (o := .tup (kas.map V.ref)) nq
        have S2 := KaG.Same.tr S1 (same_upd (o := .tup [.ref rt, .ref q]) nb)
        refine k b rs ks _ (E8.trans (Ext.of_same E8.bag S2)) (newAt (E8.trans (Ext.of_same E8.bag S1)) nb) (by omega) ⟨rt, q, kas, upd_same, S2 _ _ g2, same_upd nb _ _ upd_same, (hk.ts (TSame.of S2)).pr⟩ ?_
        exact book_ok hrs hns (by omega) (by omega) (by omega) en hk.ok
end
end KaG
set_option maxRecDepth 100000
set_option maxHeartbeats 4000000
namespace KaG
open PySem PySem.Spec PyProof.Rows L2 KaN
theorem tup_ne {H : Hp} {bg r : Addr} {xs : List V} (hb : Bag H bg) (e : H r = some (.tup xs)) : r ≠ bg := fun z => by
  obtain ⟨c, st, i, b, ns, e1, _⟩ := hb
  rw [← z, e] at e1
  cases e1
section
variable {P : Program} {w : World} {K : PySem.W.Frag} {mg : Str → Option Value} {base : Heap}
theorem scRb : FnScope ["bag", "kinds", "way", "found"] ["bag", "kinds"] (defScope sRulebook) := ⟨rfl, rfl, rfl, by decide +kernel, rfl, by decide +kernel, by decide +kernel⟩
end
end KaG
set_option maxRecDepth 100000
set_option maxHeartbeats 4000000
namespace KaG
open PySem PySem.Spec PyProof.Rows L2 KaN
section
variable {P : Program} {w : World} {K : PySem.W.Frag} {mg : Str → Option Value} {base : Heap}
def spRbS : Sp := fun vs H Q _ => ∃ (bg : Addr) (n : Int), vs = [.ref bg, .int n] ∧ Bag H bg ∧ 1 ≤ n ∧ n ≤ 5 ∧ ∀ (t p sa : Addr) (rs S : List Str) (ks : List Kd) (H' : Hp), Ext bg H H' → H' t = some (.tup [.ref p, .ref sa]) → H' sa = some (.tup (S.map V.str)) → S.length ≤ 5 → (∀ n ∈ S, n ∈ nmAll) → rs.length ≤ 5 → BookAt H' p rs ks → BookOk rs ks → Q (.ref t) H'
theorem ok_rbS {f fX fS fT fA fP fH : Addr} {fd fdX fdS fdT fdA fdP fdH : FuncData} (F : Fun K "_law_rulebook" "_law_rulebook" sRulebook f fd) (T : TxtC mg) (CX : Ct P w K mg base "_law_mixed" 2 ["bag", "things"] spMixed fX fdX)
    (C : Ct P w K mg base "_law_some" 2 ["bag", "things"] spSome2 fS fdS) (CT : Ct P w K mg base "_law_take" 1 ["bag", "upto"] spTake fT fdT) (CA : Ct P w K mg base "_law_any_rulebook" 6 ["bag", "kinds", "rows"] spAny fA fdA)
    (CP : Ct P w K mg base "_law_planted" 6 ["bag", "sort", "kinds"] spPl fP fdP) (CH : Ct P w K mg base "_law_threaded" 6 ["bag", "kinds"] spTh fH fdH) : FnOk P w K mg base CX0 7 f fd ["bag", "kinds"] spRbS := by
  refine F.ok scRb (fun vs H Q E h => ?_) (fun cdv A outer s H vs Q E hr h => ?_)
  · obtain ⟨bg, n, rfl, _⟩ := h
    rfl
  · obtain ⟨bg, n, rfl, hB, n1, n5, k⟩ := h
    have hr6 : Room 6 (A.deeper (envOfC "_law_rulebook" (defScope sRulebook) s.heap.objs.size f cdv)) := hr.mono (by decide)
    have hr2 : Room 2 (A.deeper (envOfC "_law_rulebook" (defScope sRulebook) s.heap.objs.size f cdv)) := hr.mono (by decide)
    have hr1 : Room 1 (A.deeper (envOfC "_law_rulebook" (defScope sRulebook) s.heap.objs.size f cdv)) := hr.mono (by decide)
    refine ⟨_, (pss_cons (ps_set (i := 2) scRb.nd rfl (Or.inl rfl) (pe_call CT.G hr1 (by rfl) CT.m CT.kp CT.b .nil pass0 (pa_cons (pv 0) (pa_cons pe_int pa_nil))))
      (pss_cons (ps_if (pt_cmpR op_lt (pv 2) pe_int (nomark _))
        (pss_cons (ps_set (i := 3) scRb.nd rfl (Or.inl rfl) (pe_call CA.G hr6 (by rfl) CA.m CA.kp CA.b .nil pass0 (pa_cons (pv 0) (pa_cons (pv 1) (pa_cons pe_int pa_nil)))))
        (pss_one (ps_ret (pe_tup (pa_cons (pv 3) (pa_cons (pe_callTy call_tuple_of (by rfl) T.tup (by decide +kernel) (pa_cons (pe_callB cr_sortedS (by rfl) T.sor (by decide +kernel)
          (pa_cons (pe_slice sl_list (pe_call CX.G hr2 (by rfl) CX.m CX.kp CX.b .nil pass0 (pa_cons (pv 0) (pa_cons (pe_ix ix_tup (pv 3) pe_int (fun _ _ => rfl)) pa_nil))) po_none
            (po_some (pe_call C.G hr2 (by rfl) C.m C.kp C.b .nil pass0 (pa_cons (pv 0) (pa_cons (pe_lst (pa_cons pe_int (pa_cons pe_int (pa_cons pe_int pa_nil)))) pa_nil))))) pa_nil)) pa_nil)) pa_nil)))))) pss_nil)
      (pss_cons (ps_if (pt_cmpR op_eq (pv 2) pe_int (nomark _))
        (pss_one (ps_set (i := 3) scRb.nd rfl (Or.inl rfl) (pe_call CH.G hr6 (by rfl) CH.m CH.kp CH.b .nil pass0 (pa_cons (pv 0) (pa_cons (pv 1) pa_nil)))))
        (pss_one (ps_set (i := 3) scRb.nd rfl (Or.inl rfl) (pe_call CP.G hr6 (by rfl) CP.m CP.kp CP.b .nil pass0 (pa_cons (pv 0) (pa_cons (pe_ix ix_list (pe_lst (pa_cons pe_str (pa_cons pe_str (pa_cons pe_str (pa_cons pe_str pa_nil))))) (pe_op op_sub (pv 2) pe_int) (fun _ _ => rfl)) (pa_cons (pv 1) pa_nil)))))))
      (pss_one (ps_ret (pe_tup (pa_cons (pv 3) (pa_cons (pe_slice sl_tupA (pe_ix ix_tup (pv 3) pe_int (fun _ _ => rfl)) po_none (po_some pe_int)) pa_nil)))))))), ?_⟩
    have sz : ∀ {m : Nat}, m ≤ 900 → m ≤ sizeLine := fun h => Nat.le_of_lt (small1000 (by omega))
    refine ⟨_, rfl, bg, 9, rfl, hB, by decide, by decide, fun z H1 E1 a0 a1 => ?_⟩
    refine ⟨_, rfl, _, _, rfl, rfl, _, rfl, ite2 (fun hc => ?_) fun hc => ?_⟩
    · refine ⟨_, rfl, _, rfl, bg, n, 3, rfl, E1.bag, n1, n5, by decide, by decide, fun p rs ks H2 E2 np lrs hA hO => ?_⟩
      obtain ⟨r, kt, kas, e1, e2, e3, pk⟩ := hA
      have rb : r ≠ bg := tup_ne E2.bag e2
      refine ⟨_, rfl, _, rfl, _, rfl, p, _, 0, .ref r, rfl, rfl, SqT.of e1, rfl, bg, r, rs.map V.str, rfl, E2.bag, rb, .inr e2, by rw [List.length_map]; omega, fun m ys H3 E3 nm em pm => ?_⟩
      obtain ⟨zs, pz, rfl⟩ := perm_of_map pm rs rfl
      have mb : m ≠ bg := fun z => E2.bag.there (z ▸ nm)
      refine ⟨_, rfl, sz (by show 3 ≤ 900; decide), fun q nq => ?_⟩
      have E4 := E3.new (o := .lst [.int 1, .int 1, .int 2]) nq
      have qb : q ≠ bg := fun z => E3.bag.there (z ▸ nq)
      refine ⟨bg, q, _, rfl, E4.bag, qb, .inl upd_same, by decide, by decide, fun u H4 mu E5 => ?_⟩
      obtain ⟨y, rfl, y1, y2⟩ := ints_in (ns := [1, 1, 2]) (lo := 1) (hi := 2) (by decide) mu
      have hm := E5.keep m _ mb (same_upd (o := .lst [.int 1, .int 1, .int 2]) nq _ _ em)
      refine ⟨y, rfl, _, _, rfl, SqL.of hm, fun l nl => ?_⟩
      rw [cut_to _ y (by omega), ← List.map_take]
      refine ⟨l, zs.take y.toNat, rfl, SqL.of upd_same, by rw [List.length_take]; omega, fun us t pu su nt => ?_⟩
      refine ⟨t, _, rfl, .inl ⟨SqL.of upd_same, fun l2 nl2 => ⟨sz (by show 2 ≤ 900; decide), fun b nb => ?_⟩⟩⟩
      have E6 := (((((E1.trans E2).trans (E4.trans E5)).new nl).new nt).new nl2).new (o := .tup [.ref p, .ref l2]) nb
      have Eb := ((((E4.trans E5).new nl).new nt).new nl2).new (o := .tup [.ref p, .ref l2]) nb
      have memu : ∀ n ∈ us, n ∈ rs := fun n m => pz.mem_iff.mp (List.mem_of_mem_take (pu.mem_iff.mp m))
      have lenu : us.length ≤ 5 := by
        have h1 := pu.length_eq
        have h2 := pz.length_eq
        rw [List.length_take] at h1
        omega
      exact k b p l2 rs us ks _ E6 upd_same (same_upd nb _ _ upd_same) lenu (fun n m => hO.rw.of n (memu n m)) lrs (BookAt.ts ⟨r, kt, kas, e1, e2, e3, pk⟩ (TSame.ext E2.bag Eb)) hO
    · dsimp only [tNext]
      refine seqGo (fun b D => ∀ (p : Addr) (rs : List Str) (ks : List Kd) (H2 : Hp), Ext bg H H2 → rs.length ≤ 5 → BookAt H2 p rs ks → BookOk rs ks → b D [some (.ref bg), some (.int n), some (.int z), some (.ref p)] H2) (fun p rs ks H2 E2 lrs hA hO => ?_) (fun rest => ?_)
      · obtain ⟨r, kt, kas, e1, e2, e3, pk⟩ := hA
        refine ⟨_, rfl, _, rfl, p, _, 0, .ref r, rfl, rfl, SqT.of e1, rfl, ?_⟩
        refine ⟨_, rfl, r, _, rfl, SqT.of e2, fun hw => ?_, fun hw q nq => ?_⟩
        · refine ⟨sz (by show 2 ≤ 900; decide), fun b nb => ?_⟩
          exact k b p r rs rs ks _ (E2.new nb) upd_same (same_upd nb _ _ e2) lrs hO.rw.of lrs (BookAt.ts ⟨r, kt, kas, e1, e2, e3, pk⟩ (same_ts_new nb)) hO
        · refine ⟨sz (by show 2 ≤ 900; decide), fun b nb => ?_⟩
          have ec : cutV (rs.map V.str) none (some 1) = (rs.take 1).map V.str := by rw [cut_to _ 1 (by decide), ← List.map_take]; rfl
          exact k b p q rs (rs.take 1) ks _ ((E2.new nq).new nb) upd_same (same_upd nb _ _ (by rw [upd_same, ec])) (by rw [List.length_take]; omega) (fun n m => hO.rw.of n (List.mem_of_mem_take m)) lrs (BookAt.ts ⟨r, kt, kas, e1, e2, e3, pk⟩ ((same_ts_new nq).tr (same_ts_new nb))) hO
      · refine ⟨_, rfl, rfl, _, rfl, ite2 (fun h8 => ?_) fun h8 => ?_⟩
        · refine ⟨_, rfl, _, rfl, bg, n, rfl, E1.bag, n1, n5, fun p rs ks H2 E2 np lrs hA hO => ?_⟩
          exact rest p rs ks H2 (E1.trans E2) lrs hA hO
        · refine ⟨_, rfl, sz (by show 4 ≤ 900; decide), fun l nl => ?_⟩
          have z4 : 4 ≤ z := by simpa using hc
          have z8 : z ≠ 8 := by simpa using h8
          have E2 := E1.new (o := .lst [.str "ever", .str "longer", .str "gone", .str "none"]) nl
          obtain ⟨so, eso, hso⟩ : ∃ so : Str, atI [V.str "ever", V.str "longer", V.str "gone", V.str "none"] (z - 4) = some (.str so) ∧ (so = "ever" ∨ so = "longer" ∨ so = "gone" ∨ so = "none") := by
            have : z = 4 ∨ z = 5 ∨ z = 6 ∨ z = 7 := by omega
            rcases this with rfl | rfl | rfl | rfl
            · exact ⟨_, rfl, .inl rfl⟩
            · exact ⟨_, rfl, .inr (.inl rfl)⟩
            · exact ⟨_, rfl, .inr (.inr (.inl rfl))⟩
            · exact ⟨_, rfl, .inr (.inr (.inr rfl))⟩
          refine ⟨_, rfl, _, _, rfl, rfl, l, _, _, .str so, rfl, rfl, SqL.of upd_same, eso, _, rfl, bg, so, n, rfl, E2.bag, hso, n1, n5, fun p rs ks H2 E3 np lrs hA hO => ?_⟩
          exact rest p rs ks H2 (E2.trans E3) lrs hA hO
end
end KaG
set_option maxRecDepth 100000
set_option maxHeartbeats 4000000
namespace KaG
open PySem PySem.Spec PyProof.Rows L2 KaC LamX NdefX
/-- for k in d, a dict that is locked -/
theorem for_keysL {d : Addr} {o : Obj} {kvs : List (Key × V)} {g : TG} {tb : TS} {D : Ends} {σ : L2.St} {H : Hp} (Pv : Nat → L2.St → Hp → Prop) (h0 : Pv 0 σ H) (hl : ∀ i σ H, i ≤ kvs.length → Pv i σ H → H d = some (.frz o (.dK kvs)))
    (hs : ∀ i k v σ H, kvs[i]? = some (k, v) → Pv i σ H → g (kV k) σ H fun σ2 H2 => tb { D with nx := Pv (i + 1), ct := Pv (i + 1), bk := D.nx } σ2 H2) (hd : ∀ σ H, Pv kvs.length σ H → D.nx σ H) :
    ∃ W : Nat → Nat → L2.St → Hp → Prop, (∃ m, W 0 m σ H) ∧ ∀ i m σ H, W i m σ H →
      ((Itk d o kvs).stop i H ∧ D.nx σ H) ∨ ((Itk d o kvs).go i H ∧ ∃ N : L2.St → Hp → Prop, (∀ σ' H', N σ' H' → ∃ m', m' < m ∧ W (i + 1) m' σ' H') ∧ ∀ x H', (Itk d o kvs).yld i H x H' → g x σ H' fun σ2 H2 => tb { D with nx := N, ct := N, bk := D.nx } σ2 H2) := by
  refine ⟨fun i m σ H => m = kvs.length - i ∧ i ≤ kvs.length ∧ Pv i σ H, ⟨_, rfl, Nat.zero_le _, h0⟩, fun i m σ H ⟨em, hi, p⟩ => ?_⟩
  have q := hl i σ H hi p
  rcases Nat.lt_or_ge i kvs.length with lt | ge
  · refine .inr ⟨⟨q, lt⟩, Pv (i + 1), fun σ' H' p' => ⟨kvs.length - (i + 1), by omega, rfl, lt, p'⟩, fun x H' ⟨e, k, v, y, z⟩ => ?_⟩
    subst e; subst z
    exact hs i k v σ _ y p
  · obtain rfl : i = kvs.length := by omega
    exact .inl ⟨⟨q, Nat.le_refl _⟩, hd σ H p⟩
theorem tabs_wr {T : List NTab} {H : Hp} {d : Addr} {u o : HO} (t : TabsN T H) (e : H d = some u) (n1 : ∀ ps, u ≠ .tbl ps) (n2 : ∀ c q, u ≠ CodeO c q) : TabsN T (upd H d o) := fun q hq => by
  obtain ⟨ps, h1, h2, h3⟩ := t q hq
  refine ⟨ps, by rw [upd_ne (fun z => by rw [z, e] at h1; exact n1 _ (Option.some.inj h1))]; exact h1, h2, fun pos cv hc => ?_⟩
  obtain ⟨c, e1, e2⟩ := h3 pos cv hc
  exact ⟨c, e1, by rw [upd_ne (fun z => by rw [z, e] at e2; exact n2 _ _ (Option.some.inj e2))]; exact e2⟩
theorem tabs_dk {T : List NTab} {H : Hp} {d : Addr} {kvs : List (Key × V)} {o : HO} (t : TabsN T H) (e : H d = some (.dK kvs)) : TabsN T (upd H d o) := tabs_wr t e (fun _ z => nomatch z) (fun _ _ z => by unfold CodeO at z; cases z)
theorem tabs_bag {T : List NTab} {H H' : Hp} {bg : Addr} (t : TabsN T H) (hb : Bag H bg) (E : Ext bg H H') : TabsN T H' := fun q hq => by
  obtain ⟨ps, h1, h2, h3⟩ := t q hq
  obtain ⟨c, st, i, b2, ns, e1, _⟩ := id hb
  refine ⟨ps, E.keep _ _ (fun z => by rw [z, e1] at h1; cases h1) h1, h2, fun pos cv hc => ?_⟩
  obtain ⟨c, g1, g2⟩ := h3 pos cv hc
  exact ⟨c, g1, E.keep _ _ (fun z => by rw [z, e1] at g2; unfold CodeO at g2; cases g2) g2⟩
theorem Gd.strsU {H : Hp} {l : Addr} {ns : List Str} (e : H l = some (.tup (ns.map V.str))) (hn : ∀ x ∈ ns, x ∈ nmAll) (hl : ns.length ≤ 5) : Gd H (.ref l) (.tuple (ns.map PyData.str)) 1 113 := Gd.tup e (GdA.strs hn) (c := 5) (by rw [List.length_map]; exact hl)
theorem Gd.two {H : Hp} {l : Addr} {v u : V} {x y : PyData} {m n : Nat} (e : H l = some (.lst [v, u])) (h1 : Gd H v x m n) (h2 : Gd H u y m n) : Gd H (.ref l) (.list [x, y]) (m + 1) (2 * (n + 2) + 3) := Gd.lst e (.cons h1 (.cons h2 .nil)) (c := 2) (Nat.le_refl 2)
theorem ts_dk' {H : Hp} {p : Addr} {xs : List (Key × V)} {o : HO} (e : H p = some (.dK xs)) : TSame H (upd H p o) := fun b zs q => by
  rw [upd_ne (fun z => by rw [z, e] at q; cases q)]
  exact q
theorem kvs_nm {ks : List Kd} {ts : List Addr} {i : Nat} {k : Key} {v : V} (h : (kvsOf ks ts)[i]? = some (k, v)) : ∃ kd, kd ∈ ks ∧ k = Sum.inr kd.name := by
  unfold kvsOf at h
  rw [List.getElem?_map] at h
  obtain ⟨z, hz, e⟩ := Option.map_eq_some_iff.mp h
  cases e
  exact ⟨z.1, (List.of_mem_zip (List.mem_of_getElem? hz)).1, rfl⟩
end KaG
set_option maxHeartbeats 1000000
namespace KaU
abbrev NEV : Int := 2000000
abbrev ALW : Int := -1000000
section
variable {α : Type} [DecidableEq α]
abbrev Nd (α : Type) := Option (α × Int)
def dN (x : α → Int) : Nd α → Int
  | none => 0
  | some (m, a) => if x m + a > 0 then x m + a else 0
theorem dN0 (x : α → Int) (d : Nd α) : 0 ≤ dN x d := by
  cases d with
  | none => exact Int.le_refl _
  | some p =>
    obtain ⟨m, a⟩ := p
    unfold dN
    dsimp only
    split <;> omega
theorem dN_mono {x y : α → Int} (h : ∀ n, x n ≤ y n) (d : Nd α) : dN x d ≤ dN y d := by
  cases d with
  | none => exact Int.le_refl _
  | some p =>
    obtain ⟨m, a⟩ := p
    have := h m
    unfold dN
    dsimp only
    split <;> split <;> omega
def up (x : α → Int) (n : α) (v : Int) : α → Int := fun m => if m = n then v else x m
theorem up_same (x : α → Int) (n : α) (v : Int) : up x n v n = v := if_pos rfl
theorem up_ne (x : α → Int) {n m : α} (v : Int) (h : m ≠ n) : up x n v m = x m := if_neg h
theorem up_le {x : α → Int} {n : α} {v : Int} (h : v ≤ x n) (m : α) : up x n v m ≤ x m := by
  unfold up
  split
  · rename_i e
    subst e
    exact h
  · exact Int.le_refl _
/-- what the grounds are -/
structure Gk (ns : List α) (L : α → List (List (Nd α))) : Prop where
  a : ∀ n, ∀ g ∈ L n, ∀ m b, some (m, b) ∈ g → m ∈ ns ∧ 1 ≤ b ∧ b ≤ 9
/-- the program's numbers at any moment -/
structure PI (L : α → List (List (Nd α))) (cl : α → Bool) (x : α → Int) : Prop where
  c : ∀ n, cl n = true → x n = ALW
  z : ∀ n, cl n = false → 0 ≤ x n
  le : ∀ n, x n ≤ NEV
  w : ∀ n, cl n = false → x n < NEV → ∃ g ∈ L n, ∀ d ∈ g, dN x d ≤ x n
/-- the least day of a kind's grounds, by x -/
def IsDay (L : α → List (List (Nd α))) (x : α → Int) (n : α) (day : Int) : Prop :=
  (day = NEV ∧ L n = []) ∨ ((∃ g ∈ L n, ∀ d ∈ g, dN x d ≤ day) ∧ ∀ g ∈ L n, ∃ d ∈ g, day ≤ dN x d)
theorem IsDay.nonneg {L : α → List (List (Nd α))} {x : α → Int} {n : α} {day : Int} (h : IsDay L x n day) : 0 ≤ day := by
  rcases h with ⟨rfl, _⟩ | ⟨⟨g, mg, h1⟩, h2⟩
  · decide
  · obtain ⟨d, md, _⟩ := h2 g mg
    exact Int.le_trans (dN0 x d) (h1 d md)
theorem PI.step {L : α → List (List (Nd α))} {cl : α → Bool} {x : α → Int} (h : PI L cl x) {n : α} {day : Int} (hd : IsDay L x n day) (lt : day < x n) : PI L cl (up x n day) := by
  have d0 := hd.nonneg
  have hc : cl n = false := by
    cases e : cl n with
    | false => rfl
    | true =>
      have h1 := h.c n e
      have h2 : ALW = (-1000000 : Int) := rfl
      omega
  have hn := h.le n
  have le := up_le (x := x) (n := n) (v := day) (Int.le_of_lt lt)
  refine ⟨fun m hm => ?_, fun m hm => ?_, fun m => Int.le_trans (le m) (h.le m), fun m hm hlt => ?_⟩
  · rw [up_ne x day (fun z => by rw [z, hc] at hm; cases hm)]
    exact h.c m hm
  · unfold up
    split
    · exact d0
    · exact h.z m hm
  · by_cases e : m = n
    · subst e
      rcases hd with ⟨rfl, _⟩ | ⟨⟨g, mg, h1⟩, _⟩
      · omega
      · refine ⟨g, mg, fun d md => ?_⟩
        rw [up_same]
        exact Int.le_trans (dN_mono le d) (h1 d md)
    · rw [up_ne x day e] at hlt ⊢
      obtain ⟨g, mg, h1⟩ := h.w m hm hlt
      exact ⟨g, mg, fun d md => Int.le_trans (dN_mono le d) (h1 d md)⟩
/-- nothing falls any more -/
def PF (ns : List α) (L : α → List (List (Nd α))) (x : α → Int) : Prop := ∀ n ∈ ns, ∀ g ∈ L n, ∃ d ∈ g, x n ≤ dN x d
def rk (ns : List α) (x : α → Int) (n : α) : Nat := (ns.filter fun m => decide (x m < x n)).length
theorem rk_lt {ns : List α} {x : α → Int} {m n : α} (hm : m ∈ ns) (h : x m < x n) : rk ns x m < rk ns x n := by
  unfold rk
  induction ns with
  | nil => cases hm
  | cons k r ih =>
    have sub : (r.filter fun q => decide (x q < x m)).length ≤ (r.filter fun q => decide (x q < x n)).length := by
      clear ih hm
      induction r with
      | nil => exact Nat.le_refl _
      | cons q r ih =>
        rw [List.filter_cons, List.filter_cons]
        by_cases e1 : x q < x m
        · rw [if_pos (decide_eq_true e1), if_pos (decide_eq_true (show x q < x n by omega))]
          exact Nat.succ_le_succ ih
        · rw [if_neg (by simpa using e1)]
          split
          · exact Nat.le_succ_of_le ih
          · exact ih
    rw [List.filter_cons, List.filter_cons]
    by_cases e : k = m
    · subst e
      rw [if_neg (by simp), if_pos (decide_eq_true h)]
      exact Nat.lt_succ_of_le sub
    · have ih := ih ((List.mem_cons.mp hm).resolve_left fun z => e z.symm)
      by_cases e1 : x k < x m
      · rw [if_pos (decide_eq_true e1), if_pos (decide_eq_true (show x k < x n by omega))]
        exact Nat.succ_lt_succ ih
      · rw [if_neg (by simpa using e1)]
        split
        · exact Nat.lt_succ_of_lt ih
        · exact ih
theorem rk_len {ns : List α} {x : α → Int} {n : α} (h : n ∈ ns) : rk ns x n < ns.length := by
  unfold rk
  induction ns with
  | nil => cases h
  | cons k r ih =>
    rw [List.filter_cons]
    by_cases e : k = n
    · subst e
      rw [if_neg (by simp)]
      exact Nat.lt_succ_of_le (List.length_filter_le ..)
    · have ih := ih ((List.mem_cons.mp h).resolve_left fun z => e z.symm)
      split
      · exact Nat.succ_lt_succ ih
      · exact Nat.lt_succ_of_lt ih
/-- each number that is told is small -/
theorem small {ns : List α} {L : α → List (List (Nd α))} {cl : α → Bool} {x : α → Int} (G : Gk ns L) (h : PI L cl x) (f : PF ns L x) : ∀ (r : Nat) (n : α), n ∈ ns → cl n = false → x n < NEV → rk ns x n ≤ r → x n ≤ 9 * r := by
  intro r
  induction r with
  | zero =>
    intro n mn hc lt hr
    obtain ⟨g, mg, h1⟩ := h.w n hc lt
    obtain ⟨d, md, h2⟩ := f n mn g mg
    have h3 := h1 d md
    cases d with
    | none => simpa [dN] using h2
    | some p =>
      obtain ⟨m, a⟩ := p
      obtain ⟨mm, a1, a9⟩ := G.a n g mg m a md
      unfold dN at h2 h3
      dsimp only at h2 h3
      split at h2
      · rename_i hpos
        rw [if_pos hpos] at h3
        have := rk_lt (x := x) (n := n) mm (by omega)
        omega
      · omega
  | succ r ih =>
    intro n mn hc lt hr
    obtain ⟨g, mg, h1⟩ := h.w n hc lt
    obtain ⟨d, md, h2⟩ := f n mn g mg
    have h3 := h1 d md
    cases d with
    | none =>
      have : x n ≤ 0 := by simpa [dN] using h2
      omega
    | some p =>
      obtain ⟨m, a⟩ := p
      obtain ⟨mm, a1, a9⟩ := G.a n g mg m a md
      unfold dN at h2 h3
      dsimp only at h2 h3
      split at h2
      · rename_i hpos
        rw [if_pos hpos] at h3
        cases hcm : cl m with
        | true =>
          have h4 := h.c m hcm
          have h5 : ALW = (-1000000 : Int) := rfl
          omega
        | false =>
          have h6 := rk_lt (x := x) (n := n) mm (by omega)
          have := ih m mm hcm (by omega) (by omega)
          omega
      · omega
theorem small36 {ns : List α} {L : α → List (List (Nd α))} {cl : α → Bool} {x : α → Int} (G : Gk ns L) (h : PI L cl x) (f : PF ns L x) (l5 : ns.length ≤ 5) {n : α} (mn : n ∈ ns) (hc : cl n = false) (lt : x n < NEV) : x n ≤ 36 := by
  have h1 := rk_len (x := x) mn
  have := small G h f 4 n mn hc lt (by omega)
  omega
structure LI (ns : List α) (cl : α → Bool) (x y : α → Int) (t : Nat) (D : List α) : Prop where
  lo : ∀ n ∈ ns, cl n = false → 1000 ≤ y n ∨ x n ≤ y n
  up : ∀ n ∈ ns, cl n = false → x n < NEV → (rk ns x n < t ∨ (rk ns x n ≤ t ∧ n ∈ D)) → y n ≤ x n
/-- the greatest of 0 and the days of a ground's needs on kinds that are not clean -/
structure IsV (cl : α → Bool) (y : α → Int) (g : List (Nd α)) (v : Int) : Prop where
  z : 0 ≤ v
  ge : ∀ m b, some (m, b) ∈ g → cl m = false → y m + b ≤ v
  at_ : v = 0 ∨ ∃ m b, some (m, b) ∈ g ∧ cl m = false ∧ v = y m + b
abbrev minV (a v : Int) : Int := if v < a then v else a
theorem minV_le (a v : Int) : minV a v ≤ a ∧ minV a v ≤ v := by
  unfold minV
  split <;> omega
theorem minV_or (a v : Int) : minV a v = a ∨ minV a v = v := by
  unfold minV
  split
  · exact .inr rfl
  · exact .inl rfl
theorem LI.step {ns : List α} {L : α → List (List (Nd α))} {cl : α → Bool} {x y : α → Int} {t : Nat} {D : List α} (G : Gk ns L) (h : PI L cl x) (f : PF ns L x) (l : LI ns cl x y t D) {n : α} (mn : n ∈ ns) {g : List (Nd α)} (mg : g ∈ L n) {v : Int} (hv : IsV cl y g v) :
    LI ns cl x (KaU.up y n (minV (y n) v)) t D ∧ (cl n = false → x n < NEV → (∀ d ∈ g, dN x d ≤ x n) → rk ns x n ≤ t → minV (y n) v ≤ x n) := by
  have hle := minV_le (y n) v
  refine ⟨⟨fun m mm hm => ?_, fun m mm hm lt hr => ?_⟩, fun hc lt hg hr => ?_⟩
  · by_cases e : m = n
    · subst e
      rw [up_same]
      rcases minV_or (y m) v with e1 | e1
      · rw [e1]
        exact l.lo m mm hm
      · rw [e1]
        obtain ⟨d, md, hd⟩ := f m mn g mg
        have z := hv.z
        cases d with
        | none =>
          have hd : x m ≤ 0 := hd
          exact .inr (by omega)
        | some p =>
          obtain ⟨q, a⟩ := p
          obtain ⟨mq, a1, a9⟩ := G.a m g mg q a md
          unfold dN at hd
          dsimp only at hd
          split at hd
          · rename_i hpos
            cases hcq : cl q with
            | true =>
              have h4 := h.c q hcq
              have h5 : ALW = (-1000000 : Int) := rfl
              omega
            | false =>
              have h6 := hv.ge q a md hcq
              rcases l.lo q mq hcq with h7 | h7
              · exact .inl (by omega)
              · exact .inr (by omega)
          · exact .inr (by omega)
    · rw [up_ne y _ e]
      exact l.lo m mm hm
  · have := l.up m mm hm lt hr
    by_cases e : m = n
    · subst e
      rw [up_same]
      omega
    · rw [up_ne y _ e]
      exact this
  · rcases hv.at_ with e | ⟨q, b, mq, hcq, e⟩
    · have := h.z n hc
      omega
    · obtain ⟨mq', b1, b9⟩ := G.a n g mg q b mq
      have h1 := hg _ mq
      unfold dN at h1
      dsimp only at h1
      have hq0 := h.z q hcq
      rw [if_pos (by omega)] at h1
      have h2 := rk_lt (x := x) (n := n) mq' (by omega)
      have h3 := l.up q mq' hcq (by omega) (.inl (by omega))
      omega
/-- a kind's grounds are done -/
theorem LI.add {ns : List α} {L : α → List (List (Nd α))} {cl : α → Bool} {x y : α → Int} {t : Nat} {D : List α} (h : PI L cl x) (l : LI ns cl x y t D) {n : α} (hn : ∀ g ∈ L n, cl n = false → x n < NEV → (∀ d ∈ g, dN x d ≤ x n) → rk ns x n ≤ t → y n ≤ x n) : LI ns cl x y t (D ++ [n]) := ⟨l.lo, fun m mm hm lt hr => by
  rcases hr with r | ⟨r, md⟩
  · exact l.up m mm hm lt (.inl r)
  · rcases List.mem_append.mp md with z | z
    · exact l.up m mm hm lt (.inr ⟨r, z⟩)
    · rw [List.mem_singleton.mp z] at hm lt r ⊢
      obtain ⟨g, mg, hg⟩ := h.w n hm lt
      exact hn g mg hm lt hg r⟩
/-- behind all turns both say the same -/
theorem LI.done {ns : List α} {L : α → List (List (Nd α))} {cl : α → Bool} {x y : α → Int} {t : Nat} {D : List α} (G : Gk ns L) (h : PI L cl x) (f : PF ns L x) (l5 : ns.length ≤ 5) (l : LI ns cl x y t D) (ht : ns.length ≤ t) {n : α} (mn : n ∈ ns) (hc : cl n = false) : (x n < NEV → y n = x n ∧ y n < 1000) ∧ (¬ x n < NEV → ¬ y n < 1000) := by
  refine ⟨fun lt => ?_, fun nl => ?_⟩
  · have h1 := l.up n mn hc lt (.inl (by have := rk_len (x := x) mn; omega))
    have h2 := small36 G h f l5 mn hc lt
    rcases l.lo n mn hc with z | z
    · omega
    · exact ⟨by omega, by omega⟩
  · rcases l.lo n mn hc with z | z
    · omega
    · have : NEV = (2000000 : Int) := rfl
      omega
end
end KaU
set_option maxRecDepth 100000
set_option maxHeartbeats 1000000
namespace KaG
open PySem PySem.Spec PyProof.Rows L2 KaC KaU
theorem grAt_at {ks : List Kd} {n : Str} {i : Nat} {g : Gr} (h : (gsOf ks n)[i]? = some g) : grAt ks n i = g := by
  unfold grAt
  rw [List.getD_eq_getElem?_getD, h]
  rfl
end KaG
set_option maxRecDepth 100000
set_option maxHeartbeats 4000000
namespace KaN
open PySem PySem.Calls PyProof.Rows PySem.W PySem.SeqAt
end KaN
namespace KaN
open PySem PySem.Spec PyProof.Rows L2 PySem.W
end KaN
set_option maxRecDepth 100000
set_option maxHeartbeats 4000000
namespace KaG
open PySem PySem.Spec PyProof.Rows L2 KaC KaN
abbrev Lot := List Str
abbrev leL : Lot → Lot → Bool := PySem.W.dataLe false lotD
def srt (l : List Lot) : List Lot := l.mergeSort leL
theorem srt_perm (l : List Lot) : (srt l).Perm l := List.mergeSort_perm l leL
def lotsStep (L : List Lot) (n : Str) : List Lot := L ++ L.map fun l => l ++ [n]
def lotsOf (rows : List Str) : List Lot := rows.foldl lotsStep [[]]
theorem lotsOf_snoc (rows : List Str) (n : Str) : lotsOf (rows ++ [n]) = lotsStep (lotsOf rows) n := by
  unfold lotsOf
  rw [List.foldl_append]
  rfl
theorem rev_ind {α : Type} {p : List α → Prop} (h0 : p []) (h1 : ∀ xs x, p xs → p (xs ++ [x])) (xs : List α) : p xs := by
  have go : ∀ ys : List α, p ys.reverse := fun ys => by
    induction ys with
    | nil => exact h0
    | cons y ys ih =>
      rw [List.reverse_cons]
      exact h1 _ _ ih
  have := go xs.reverse
  rwa [List.reverse_reverse] at this
theorem mem_lots (rows : List Str) : ∀ l : Lot, l ∈ lotsOf rows ↔ l.Sublist rows := by
  refine rev_ind (p := fun rows => ∀ l : Lot, l ∈ lotsOf rows ↔ l.Sublist rows) (fun l => ?_) (fun rows n ih l => ?_) rows
  · show l ∈ [[]] ↔ _
    rw [List.mem_singleton, List.sublist_nil]
  · rw [lotsOf_snoc, lotsStep, List.mem_append, List.mem_map, ih l, List.sublist_append_iff]
    refine ⟨fun h => ?_, fun ⟨l1, l2, e, s1, s2⟩ => ?_⟩
    · rcases h with h | ⟨l0, m0, e⟩
      · exact ⟨l, [], (List.append_nil _).symm, h, List.nil_sublist _⟩
      · exact ⟨l0, [n], e.symm, (ih l0).mp m0, List.Sublist.refl _⟩
    · cases s2 with
      | cons _ s3 =>
        rw [List.sublist_nil] at s3
        rw [s3, List.append_nil] at e
        exact .inl (e ▸ s1)
      | cons_cons _ s3 =>
        rw [List.sublist_nil] at s3
        rw [s3] at e
        exact .inr ⟨l1, (ih l1).mpr s1, e.symm⟩
theorem lots_len (rows : List Str) : (lotsOf rows).length = 2 ^ rows.length := by
  refine rev_ind (p := fun rows => (lotsOf rows).length = 2 ^ rows.length) rfl (fun rows n ih => ?_) rows
  rw [lotsOf_snoc, lotsStep, List.length_append, List.length_map, ih, List.length_append, List.length_singleton, Nat.pow_succ]
  omega
/-- the one lies in the other -/
def win (o l : Lot) : Bool := o.all fun x => decide (x ∈ l)
/-- what the law does -/
def leastL (L : List Lot) : List Lot := (srt L).filter fun l => (L.filter fun o => decide (o ≠ l) && win o l).isEmpty
end KaG
set_option maxRecDepth 100000
set_option maxHeartbeats 4000000
namespace KaG
open PySem PySem.Spec PyProof.Rows L2 KaC KaN
def ndIn (S : List Str) : List V → Bool
  | [.str _, .str n, .int _, .int _] => decide (n ∈ S)
  | _ => true
def grIn (S : List Str) (g : Gr) : Bool := g.all (ndIn S)
/-- a kind with some rows alone -/
def kdIn (S : List Str) (k : Kd) : Kd := ⟨k.name, k.keep, k.bar, k.gs.filter (grIn S)⟩
def aloneKs (S : List Str) (ks : List Kd) : List Kd := ks.map (kdIn S)
/-- the lots that hold a kind up, and those that choke it -/
noncomputable def hUp (ks : List Kd) (n : Str) (S : Lot) : Bool := decide (n ∈ bearOf (aloneKs S ks))
noncomputable def hCh (ks : List Kd) (n : Str) (C : Lot) : Bool := !decide (n ∈ cleanOf ks C)
/-- the least lots, as both sides tell them -/
noncomputable def upOf (rows : List Str) (ks : List Kd) (n : Str) : List Lot := leastL ((lotsOf rows).filter (hUp ks n))
noncomputable def chOf (rows : List Str) (ks : List Kd) (n : Str) : List Lot := if n ∈ bearOf ks then leastL ((lotsOf rows).filter (hCh ks n)) else []
end KaG
set_option maxRecDepth 100000
set_option maxHeartbeats 4000000
namespace KaG
open PySem PySem.Spec PyProof.Rows L2 KaC KaN
/-- the empty lot first, or nowhere -/
def LotsOk (lots : List Lot) : Prop := (∃ r, lots = [] :: r) ∨ ∀ l ∈ lots, l ≠ []
theorem LotsOk.filter {lots : List Lot} (h : LotsOk lots) (p : Lot → Bool) (hn : lots.Nodup) : LotsOk (lots.filter p) := by
  rcases h with ⟨r, rfl⟩ | h
  · cases e : p [] with
    | true => exact .inl ⟨r.filter p, List.filter_cons_of_pos e⟩
    | false =>
      rw [List.filter_cons_of_neg (by rw [e]; simp)]
      refine .inr fun l m z => ?_
      rw [List.nodup_cons] at hn
      exact hn.1 (z ▸ (List.mem_filter.mp m).1)
  · exact .inr fun l m => h l (List.mem_filter.mp m).1
end KaG
set_option maxRecDepth 100000
set_option maxHeartbeats 4000000
namespace KaG
open PySem PySem.Spec PyProof.Rows L2 KaC KaN
theorem strs_dp {K : PySem.W.Frag} {H : Hp} : ∀ (xs : List Str), (∀ x ∈ xs, x ∈ nmAll) → DpAll K H (xs.map V.str) (xs.map PyData.str) ∧ (∀ d ∈ xs.map PyData.str, d.canLay0 = true) ∧ PyData.depthAll (xs.map PyData.str) ≤ 1
  | [], _ => ⟨.nil, (fun _ z => nomatch z), by simp [PyData.depthAll]⟩
  | x :: r, h => by
    obtain ⟨h1, h2, h3⟩ := strs_dp (K := K) (H := H) r fun y m => h y (List.mem_cons_of_mem _ m)
    refine ⟨.cons (.str x) h1, fun d m => ?_, by rw [depA_strs]; exact Nat.zero_le _⟩
    rcases List.mem_cons.mp m with z | z
    · rw [z]
      exact nm_lay _ (h x List.mem_cons_self)
    · exact h2 d z
end KaG
set_option maxRecDepth 100000
set_option maxHeartbeats 4000000
namespace KaG
open PySem PySem.Spec PyProof.Rows L2 KaC KaN
/-- lots of names of the draws, none long -/
def LotsB (lots : List Lot) : Prop := ∀ l ∈ lots, l.length ≤ 5 ∧ ∀ x ∈ l, x ∈ nmAll
theorem lot_dp {K : PySem.W.Frag} {H : Hp} {a : Addr} {l : Lot} (e : LotAt H a l) (hn : ∀ x ∈ l, x ∈ nmAll) : Dp K H (.ref a) (lotD l) ∧ (lotD l).canLay0 = true ∧ (lotD l).depth ≤ 2 := by
  obtain ⟨d1, d2, d3⟩ := strs_dp (K := K) (H := H) l hn
  refine ⟨.tup (SqT.of e) d1, (tup_lay _ d2).1, ?_⟩
  rw [lotD, PyData.depth]
  omega
end KaG
set_option maxRecDepth 100000
set_option maxHeartbeats 4000000
set_option maxRecDepth 100000
set_option maxHeartbeats 4000000
namespace KaG
open PySem PySem.Spec PyProof.Rows L2 KaC KaN
theorem lots_b {rows : List Str} (h5 : rows.length ≤ 5) (hn : ∀ n ∈ rows, n ∈ nmAll) : LotsB (lotsOf rows) := fun l m => by
  have s := (mem_lots rows l).mp m
  exact ⟨Nat.le_trans s.length_le h5, fun x mx => hn x (s.subset mx)⟩
theorem lots_32 {rows : List Str} (h5 : rows.length ≤ 5) : (lotsOf rows).length ≤ 32 := by
  rw [lots_len]
  exact Nat.pow_le_pow_right (n := 2) (by decide) h5
/-- what both sides go through: all lots, in order -/
structure LotsR (rows : List Str) (L : List Lot) : Prop where
  n : L.Nodup
  l32 : L.length ≤ 32
  b : LotsB L
  ok : LotsOk L
theorem LotsR.filter {rows : List Str} {L : List Lot} (h : LotsR rows L) (p : Lot → Bool) : LotsR rows (L.filter p) :=
  ⟨h.n.sublist List.filter_sublist, Nat.le_trans (List.length_filter_le ..) h.l32, fun l m => h.b l (List.mem_filter.mp m).1, h.ok.filter p h.n⟩
end KaG
set_option maxRecDepth 100000
set_option maxHeartbeats 4000000
namespace KaN
open PySem PySem.Spec PyProof.Rows L2 PySem.W
end KaN
set_option maxRecDepth 100000
set_option maxHeartbeats 4000000
namespace KaG
open PySem PySem.Spec PyProof.Rows L2 KaC KaN LamX NdefX KaU
def fUp (f : Str → Option Int) (n : Str) (v : Int) : Str → Option Int := fun m => if n = m then some v else f m
/-- whole numbers by names -/
structure DkF (kvs : List (Key × V)) (f : Str → Option Int) (names : List Str) : Prop where
  g : ∀ n, valV kvs (Sum.inr n) = (f n).map V.int
  nd : (kvs.map (·.1)).Nodup
  sb : ∀ k ∈ kvs.map (·.1), k ∈ names.map (Sum.inr : Str → Key)
theorem DkF.nil {names : List Str} : DkF [] (fun _ => none) names := ⟨fun _ => rfl, List.nodup_nil, fun _ m => nomatch m⟩
theorem DkF.len {kvs : List (Key × V)} {f : Str → Option Int} {names : List Str} (h : DkF kvs f names) : kvs.length ≤ names.length := by
  have := List.Nodup.length_le_of_subset h.nd h.sb
  rw [List.length_map, List.length_map] at this
  exact this
theorem keys_put {kvs : List (Key × V)} {k : Key} {v : V} : (valV kvs k = none ∧ (putK kvs k v).map (·.1) = kvs.map (·.1) ++ [k]) ∨ (putK kvs k v).map (·.1) = kvs.map (·.1) := by
  cases e : valV kvs k with
  | none =>
    left
    rw [putK_new v e, List.map_append]
    exact ⟨rfl, rfl⟩
  | some u =>
    right
    unfold putK
    have ha : (kvs.any fun kv => decide (kv.1 = k)) = true := by
      unfold valV at e
      obtain ⟨p, hp, _⟩ := Option.map_eq_some_iff.mp e
      have h1 := List.find?_some hp
      exact List.any_eq_true.mpr ⟨p, List.mem_of_find?_eq_some hp, h1⟩
    rw [if_pos ha, List.map_map]
    refine List.map_congr_left fun p _ => ?_
    show (if p.1 = k then (p.1, v) else p).1 = p.1
    split <;> rfl
theorem DkF.put {kvs : List (Key × V)} {f : Str → Option Int} {names : List Str} (h : DkF kvs f names) {n : Str} (v : Int) (mn : n ∈ names) : DkF (putK kvs (Sum.inr n) (.int v)) (fUp f n v) names := by
  refine ⟨fun m => ?_, ?_, fun k hk => ?_⟩
  · rw [valV_put]
    unfold fUp
    by_cases e : n = m
    · rw [if_pos e, if_pos (by rw [e])]
      rfl
    · rw [if_neg e, if_neg (fun z => e (Sum.inr.inj z).symm)]
      exact h.g m
  · rcases keys_put (kvs := kvs) (k := Sum.inr n) (v := .int v) with ⟨e, e2⟩ | e2
    · exact nd_putK _ h.nd e
    · rw [e2]
      exact h.nd
  · rcases keys_put (kvs := kvs) (k := Sum.inr n) (v := .int v) with ⟨e, e2⟩ | e2
    · rw [e2] at hk
      rcases List.mem_append.mp hk with z | z
      · exact h.sb k z
      · rw [List.mem_singleton.mp z]
        exact List.mem_map_of_mem mn
    · rw [e2] at hk
      exact h.sb k hk
/-- a dict of days by names -/
structure StA (H : Hp) (d : Addr) (f : Str → Option Int) (m : List Str) : Prop where
  it : ∃ kvs, H d = some (.dK kvs) ∧ DkF kvs f m
theorem StA.same {H H' : Hp} {d : Addr} {f : Str → Option Int} {m : List Str} (h : StA H d f m) (s : Same H H') : StA H' d f m := by
  obtain ⟨kvs, e, r⟩ := h.it
  exact ⟨kvs, s _ _ e, r⟩
theorem StA.ex {T : List NTab} {H H' : Hp} {d : Addr} {f : Str → Option Int} {m : List Str} (h : StA H d f m) (x : Ex T H H') : StA H' d f m := by
  obtain ⟨kvs, e, r⟩ := h.it
  exact ⟨kvs, x.dk e, r⟩
end KaG
set_option maxRecDepth 100000
set_option maxHeartbeats 4000000
namespace KaG
open PySem PySem.Spec PyProof.Rows L2 KaC KaN LamX NdefX
/-- a choice: a ground's index, the place of the one need (or none), the needs that count by their places -/
structure Cho where
  ix : Nat
  at_ : Option Nat
  ps : List (Nat × List V)
def optV : Option Nat → V
  | none => .non
  | some p => .int (p : Int)
def PrAt (H : Hp) (pa : Addr) (p : Nat × List V) : Prop := ∃ na : Addr, H pa = some (.tup [.int (p.1 : Int), .ref na]) ∧ H na = some (.tup p.2)
theorem PrAt.ts {H H' : Hp} {pa : Addr} {p : Nat × List V} (h : PrAt H pa p) (s : TSame H H') : PrAt H' pa p := by
  obtain ⟨na, e1, e2⟩ := h
  exact ⟨na, s _ _ e1, s _ _ e2⟩
def ChoAt (H : Hp) (ca : Addr) (c : Cho) : Prop := ∃ (ta : Addr) (pas : List Addr), H ca = some (.tup [.int (c.ix : Int), optV c.at_, .ref ta]) ∧ H ta = some (.tup (pas.map V.ref)) ∧ Paired (PrAt H) pas c.ps
theorem ChoAt.ts {H H' : Hp} {ca : Addr} {c : Cho} (h : ChoAt H ca c) (s : TSame H H') : ChoAt H' ca c := by
  obtain ⟨ta, pas, e1, e2, p⟩ := h
  exact ⟨ta, pas, s _ _ e1, s _ _ e2, Paired.mono' (fun _ _ q => PrAt.ts q s) p⟩
def choBy (ix : Nat) (g : Gr) (w : Str) (pl : List Nat) : List Cho := if w = "all" then [⟨ix, none, pl.map fun p => (p, g.getD p [])⟩] else pl.map fun p => ⟨ix, some p, [(p, g.getD p [])]⟩
def choOf (S C A : List Str) (i : Nat) (g : Gr) : List Cho := choBy i g (oldPl S C A g).1 (oldPl S C A g).2
noncomputable def choK (ks : List Kd) (S : List Str) (n : Str) : List Cho := (liveIx ks (bearOf ks) n).flatMap fun i => choOf S (cleanOf ks S) (ableOf ks S) i (grAt ks n i)
end KaG
set_option maxRecDepth 100000
set_option maxHeartbeats 4000000
namespace KaG
open PySem PySem.Spec PyProof.Rows L2 KaC KaN LamX NdefX
/-- the choices of all kinds in the dict at d -/
structure ChD (H : Hp) (d : Addr) (ks : List Kd) (S : List Str) (ls : List Addr) : Prop where
  d : H d = some (.dK (kvsOf ks ls))
  l : Paired (fun (l : Addr) (k : Kd) => ∃ cas : List Addr, H l = some (.lst (cas.map V.ref)) ∧ Paired (ChoAt H) cas (choK ks S k.name)) ls ks
theorem ChD.ex {T : List NTab} {H H' : Hp} {d : Addr} {ks : List Kd} {S : List Str} {ls : List Addr} (h : ChD H d ks S ls) (x : Ex T H H') : ChD H' d ks S ls := ⟨x.dk h.d, Paired.mono' (fun _ _ ⟨cas, e, p⟩ => ⟨cas, x.lst e, Paired.mono' (fun _ _ q => ChoAt.ts q x.ts) p⟩) h.l⟩
end KaG
set_option maxHeartbeats 1000000
namespace KaU
abbrev NON : Int := -1000000
abbrev ENDL : Int := 1000000
abbrev NVR : Int := 2000000
section
variable {α : Type} [DecidableEq α]
/-- a need that counts: its kind, its tell, whether it is for good -/
abbrev Nq (α : Type) := Option α × Int × Bool
def srcV (x : α → Int) (d : Nq α) : Int := match d.1 with
  | none => 0
  | some m => x m
def later (t tell : Int) : Int := if t ≥ ENDL then t else t + tell
def eB (x : α → Int) (d : Nq α) : Int := if srcV x d = NON then NON else if d.2.2 = true then later (srcV x d) d.2.1 else NVR
def eC (x : α → Int) (c : List (Nq α)) : Int := (c.map (eB x)).foldr min NVR
def eN (x : α → Int) (C : List (List (Nq α))) : Int := (C.map (eC x)).foldr max NON
def cap (b v : Int) : Int := if b < v ∧ v < ENDL then ENDL else v
/-- values that stand in a table -/
def Vd (b v : Int) : Prop := v = NON ∨ (0 ≤ v ∧ v ≤ b) ∨ v = ENDL ∨ v = NVR
/-- values that are told of a need -/
def Vt (b v : Int) : Prop := v = NON ∨ (0 ≤ v ∧ v ≤ b + 4) ∨ v = ENDL ∨ v = NVR
structure Gq (ns : List α) (C : α → List (List (Nq α))) : Prop where
  t : ∀ n, ∀ c ∈ C n, ∀ d ∈ c, 0 ≤ d.2.1 ∧ d.2.1 ≤ 4
  s : ∀ n, ∀ c ∈ C n, ∀ d ∈ c, ∀ m, d.1 = some m → m ∈ ns
theorem src_vd {b : Int} (b0 : 0 ≤ b) {x : α → Int} (h : ∀ n, Vd b (x n)) (d : Nq α) : Vd b (srcV x d) := by
  unfold srcV
  split
  · exact .inr (.inl ⟨Int.le_refl _, b0⟩)
  · exact h _
theorem eB_vt {b : Int} (b0 : 0 ≤ b) (b1 : b ≤ 100) {x : α → Int} (h : ∀ n, Vd b (x n)) {d : Nq α} (t0 : 0 ≤ d.2.1) (t4 : d.2.1 ≤ 4) : Vt b (eB x d) := by
  have hs := src_vd b0 h d
  have N1 : NON = (-1000000 : Int) := rfl
  have N2 : ENDL = (1000000 : Int) := rfl
  have N3 : NVR = (2000000 : Int) := rfl
  unfold eB
  split
  · exact .inl rfl
  · split
    · unfold later
      rcases hs with e | ⟨h0, h1⟩ | e | e
      · contradiction
      · rw [if_neg (by omega)]
        exact .inr (.inl ⟨by omega, by omega⟩)
      · rw [if_pos (by omega)]
        exact .inr (.inr (.inl e))
      · rw [if_pos (by omega)]
        exact .inr (.inr (.inr e))
    · exact .inr (.inr (.inr rfl))
theorem eB_mono {b : Int} (b0 : 0 ≤ b) (b1 : b ≤ 100) {x z : α → Int} (hx : ∀ n, Vd b (x n)) (hz : ∀ n, Vd b (z n)) {d : Nq α} (t0 : 0 ≤ d.2.1) (t4 : d.2.1 ≤ 4) (le : srcV x d ≤ srcV z d) : eB x d ≤ eB z d := by
  have N1 : NON = (-1000000 : Int) := rfl
  have N2 : ENDL = (1000000 : Int) := rfl
  have N3 : NVR = (2000000 : Int) := rfl
  have hs := src_vd b0 hx d
  have hs2 := src_vd b0 hz d
  unfold eB later
  rcases hs with e | ⟨h0, h1⟩ | e | e <;> rcases hs2 with e2 | ⟨h2, h3⟩ | e2 | e2 <;> (split <;> (try split) <;> (try split) <;> (try split) <;> (try split) <;> omega)
theorem foldmin_or : ∀ (l : List Int) (b : Int), l.foldr min b = b ∨ l.foldr min b ∈ l
  | [], _ => .inl rfl
  | k :: r, b => by
    rw [List.foldr_cons]
    rcases Int.le_total k (r.foldr min b) with h | h
    · rw [Int.min_eq_left h]
      exact .inr List.mem_cons_self
    · rw [Int.min_eq_right h]
      exact (foldmin_or r b).imp id (List.mem_cons_of_mem _)
theorem foldmin_le : ∀ (l : List Int) (b : Int), l.foldr min b ≤ b ∧ ∀ z ∈ l, l.foldr min b ≤ z
  | [], _ => ⟨Int.le_refl _, fun _ m => nomatch m⟩
  | k :: r, b => by
    obtain ⟨h1, h2⟩ := foldmin_le r b
    rw [List.foldr_cons]
    refine ⟨Int.le_trans (Int.min_le_right _ _) h1, fun z m => ?_⟩
    rcases List.mem_cons.mp m with e | m
    · rw [e]
      exact Int.min_le_left _ _
    · exact Int.le_trans (Int.min_le_right _ _) (h2 z m)
theorem foldmax_or : ∀ (l : List Int) (b : Int), l.foldr max b = b ∨ l.foldr max b ∈ l
  | [], _ => .inl rfl
  | k :: r, b => by
    rw [List.foldr_cons]
    rcases Int.le_total k (r.foldr max b) with h | h
    · rw [Int.max_eq_right h]
      exact (foldmax_or r b).imp id (List.mem_cons_of_mem _)
    · rw [Int.max_eq_left h]
      exact .inr List.mem_cons_self
theorem foldmax_ge : ∀ (l : List Int) (b : Int), b ≤ l.foldr max b ∧ ∀ z ∈ l, z ≤ l.foldr max b
  | [], _ => ⟨Int.le_refl _, fun _ m => nomatch m⟩
  | k :: r, b => by
    obtain ⟨h1, h2⟩ := foldmax_ge r b
    rw [List.foldr_cons]
    refine ⟨Int.le_trans h1 (Int.le_max_right _ _), fun z m => ?_⟩
    rcases List.mem_cons.mp m with e | m
    · rw [e]
      exact Int.le_max_left _ _
    · exact Int.le_trans (h2 z m) (Int.le_max_right _ _)
theorem eC_vt {b : Int} (b0 : 0 ≤ b) (b1 : b ≤ 100) {x : α → Int} (h : ∀ n, Vd b (x n)) {c : List (Nq α)} (hc : ∀ d ∈ c, 0 ≤ d.2.1 ∧ d.2.1 ≤ 4) : Vt b (eC x c) := by
  unfold eC
  rcases foldmin_or (c.map (eB x)) NVR with e | e
  · rw [e]
    exact .inr (.inr (.inr rfl))
  · obtain ⟨d, md, e2⟩ := List.mem_map.mp e
    rw [← e2]
    exact eB_vt b0 b1 h (hc d md).1 (hc d md).2
theorem eN_vt {b : Int} (b0 : 0 ≤ b) (b1 : b ≤ 100) {x : α → Int} (h : ∀ n, Vd b (x n)) {C : List (List (Nq α))} (hC : ∀ c ∈ C, ∀ d ∈ c, 0 ≤ d.2.1 ∧ d.2.1 ≤ 4) : Vt b (eN x C) := by
  unfold eN
  rcases foldmax_or (C.map (eC x)) NON with e | e
  · rw [e]
    exact .inl rfl
  · obtain ⟨c, mc, e2⟩ := List.mem_map.mp e
    rw [← e2]
    exact eC_vt b0 b1 h (hC c mc)
theorem eC_mono {b : Int} (b0 : 0 ≤ b) (b1 : b ≤ 100) {x z : α → Int} (hx : ∀ n, Vd b (x n)) (hz : ∀ n, Vd b (z n)) {c : List (Nq α)} (hc : ∀ d ∈ c, 0 ≤ d.2.1 ∧ d.2.1 ≤ 4) (le : ∀ d ∈ c, srcV x d ≤ srcV z d) : eC x c ≤ eC z c := by
  unfold eC
  rcases foldmin_or (c.map (eB z)) NVR with e | e
  · rw [e]
    exact (foldmin_le _ _).1
  · obtain ⟨d, md, e2⟩ := List.mem_map.mp e
    rw [← e2]
    exact Int.le_trans ((foldmin_le _ _).2 _ (List.mem_map.mpr ⟨d, md, rfl⟩)) (eB_mono b0 b1 hx hz (hc d md).1 (hc d md).2 (le d md))
theorem eN_mono {b : Int} (b0 : 0 ≤ b) (b1 : b ≤ 100) {x z : α → Int} (hx : ∀ n, Vd b (x n)) (hz : ∀ n, Vd b (z n)) {C : List (List (Nq α))} (hC : ∀ c ∈ C, ∀ d ∈ c, 0 ≤ d.2.1 ∧ d.2.1 ≤ 4) (le : ∀ c ∈ C, ∀ d ∈ c, srcV x d ≤ srcV z d) : eN x C ≤ eN z C := by
  unfold eN
  rcases foldmax_or (C.map (eC x)) NON with e | e
  · rw [e]
    exact (foldmax_ge _ _).1
  · obtain ⟨c, mc, e2⟩ := List.mem_map.mp e
    rw [← e2]
    exact Int.le_trans (eC_mono b0 b1 hx hz (hC c mc) (le c mc)) ((foldmax_ge _ _).2 _ (List.mem_map.mpr ⟨c, mc, rfl⟩))
theorem cap_mono {b u v : Int} (h : u ≤ v) : cap b u ≤ cap b v := by
  have N2 : ENDL = (1000000 : Int) := rfl
  unfold cap
  split <;> split <;> omega
theorem cap_vd {b v : Int} (b0 : 0 ≤ b) (b1 : b ≤ 100) (h : Vt b v) : Vd b (cap b v) := by
  have N1 : NON = (-1000000 : Int) := rfl
  have N2 : ENDL = (1000000 : Int) := rfl
  have N3 : NVR = (2000000 : Int) := rfl
  unfold cap
  rcases h with e | ⟨h0, h1⟩ | e | e
  · rw [if_neg (by omega)]
    exact .inl e
  · by_cases q : b < v
    · rw [if_pos (by omega)]
      exact .inr (.inr (.inl rfl))
    · rw [if_neg (by omega)]
      exact .inr (.inl ⟨h0, by omega⟩)
  · rw [if_neg (by omega)]
    exact .inr (.inr (.inl e))
  · rw [if_neg (by omega)]
    exact .inr (.inr (.inr e))
/-- tables that a turn does not lift -/
def Pre (ns : List α) (C : α → List (List (Nq α))) (b : Int) (z : α → Int) : Prop := (∀ n, Vd b (z n)) ∧ ∀ n ∈ ns, cap b (eN z (C n)) ≤ z n
/-- a table below all of these -/
structure Bel (ns : List α) (C : α → List (List (Nq α))) (b : Int) (x : α → Int) : Prop where
  v : ∀ n, Vd b (x n)
  le : ∀ z, Pre ns C b z → ∀ n ∈ ns, x n ≤ z n
structure Lst (ns : List α) (C : α → List (List (Nq α))) (b : Int) (x : α → Int) : Prop where
  bel : Bel ns C b x
  pre : Pre ns C b x
section
variable {ns : List α} {C : α → List (List (Nq α))} {b : Int}
theorem src_le (G : Gq ns C) {x z : α → Int} (h : ∀ n ∈ ns, x n ≤ z n) {n : α} {c : List (Nq α)} (mc : c ∈ C n) {d : Nq α} (md : d ∈ c) : srcV x d ≤ srcV z d := by
  unfold srcV
  split
  · exact Int.le_refl _
  · rename_i m e
    exact h m (G.s n c mc d md m e)
theorem Bel.told (G : Gq ns C) (b0 : 0 ≤ b) (b1 : b ≤ 100) {x : α → Int} (h : Bel ns C b x) {n : α} : Vt b (eN x (C n)) ∧ ∀ z, Pre ns C b z → n ∈ ns → cap b (eN x (C n)) ≤ z n :=
  ⟨eN_vt b0 b1 h.v (G.t n), fun z hz mn => Int.le_trans (cap_mono (eN_mono b0 b1 h.v hz.1 (G.t n) fun c mc d md => src_le G (h.le z hz) mc md)) (hz.2 n mn)⟩
def upV (x : α → Int) (n : α) (v : Int) : α → Int := fun m => if m = n then v else x m
/-- one kind's number is lifted -/
theorem Bel.step (G : Gq ns C) (b0 : 0 ≤ b) (b1 : b ≤ 100) {x : α → Int} (h : Bel ns C b x) {n : α} (mn : n ∈ ns) : Bel ns C b (upV x n (cap b (eN x (C n)))) := by
  obtain ⟨h1, h2⟩ := h.told G b0 b1 (n := n)
  refine ⟨fun m => ?_, fun z hz m mm => ?_⟩
  · unfold upV
    split
    · exact cap_vd b0 b1 h1
    · exact h.v m
  · unfold upV
    split
    · rename_i e
      rw [e]
      exact h2 z hz mn
    · exact h.le z hz m mm
theorem Vd.capped {b u v : Int} (b0 : 0 ≤ b) (b1 : b ≤ 100) (hv : Vd b v) (h : ¬ v < u) : cap b u ≤ v := by
  have N1 : NON = (-1000000 : Int) := rfl
  have N2 : ENDL = (1000000 : Int) := rfl
  have N3 : NVR = (2000000 : Int) := rfl
  unfold cap
  rcases hv with e | ⟨h0, h1⟩ | e | e <;> split <;> omega
/-- nothing is lifted any more -/
theorem Bel.done (b0 : 0 ≤ b) (b1 : b ≤ 100) {x : α → Int} (h : Bel ns C b x) (hf : ∀ n ∈ ns, ¬ x n < eN x (C n)) : Lst ns C b x := ⟨h, h.v, fun n mn => (h.v n).capped b0 b1 (hf n mn)⟩
/-- how high a number stands -/
def ht (b v : Int) : Nat := if v = NON then 0 else if v = ENDL then b.toNat + 2 else if v = NVR then b.toNat + 3 else v.toNat + 1
end
end
end KaU
set_option maxRecDepth 100000
set_option maxHeartbeats 4000000
namespace KaG
open PySem PySem.Spec PyProof.Rows L2 KaC KaN LamX NdefX KaU
theorem tYes_go {σ : L2.St} {H : Hp} {Q : Bool → Hp → Prop} (h : Q true H) : tYes σ H Q := h
end KaG
set_option maxRecDepth 100000
set_option maxHeartbeats 2000000
namespace KaG
open PySem PySem.Spec PyProof.Rows L2
section
variable {X : Cx}
theorem sw_dc {kx vx : Expr} {gs : List Comprehension} {scope : Scope} {pos py : Pos} {y : Str} {l : Nat} {env : Env} (hk : env.scope.kind = .function) (hy : env.scope.names.lookup y = some .local) (hl : (py.line == pos.line) = true)
    (no : (scope.names.any fun (n, k) => n == y && (k == .local || k == .cell)) = false) : swapsWith (.DictComp kx vx gs scope pos) (some (.Name y py)) l env = pure true := by
  have kind : env.kindOf y = some .local := hy
  have block : env.blockKind = .function := by unfold Env.blockKind; rw [hk]; rfl
  unfold swapsWith
  simp only [block, kind, no, Expr.pos, hl]
  rfl
theorem ps_setDc {i : Nat} {y : Str} {py : Pos} {kx vx tg iter : Expr} {ifs : List Expr} {scope : Scope} {own : List (Str × Nat)} {pos spos : Pos} {wi : TI} {g : TG} {tt : TT} {tk tv : TE} (hc : X.calm = true) (hN : X.N.Nodup) (hy : X.N[i]? = some y) (hyl : X.env.scope.names.lookup y = some .local)
    (hsw : swapsWith (.DictComp kx vx [⟨tg, iter, ifs, 0⟩] scope pos) (some (.Name y py)) spos.line X.env = pure true) (hi : PI X tg iter wi) (ok : BlkOk X.N X.env.scope scope own)
    (hg : ∀ (s1 : Shared) (G1 : Hp) (C1 : Addr) (cl : List (Str × Addr)) (fp : List Addr), PG (X.blk s1 G1 scope (compEnvC scope cl C1 X.env) fp) tg g) (ht : ∀ (s1 : Shared) (G1 : Hp) (C1 : Addr) (cl : List (Str × Addr)) (fp : List Addr), PTs (X.blk s1 G1 scope (compEnvC scope cl C1 X.env) fp) ifs tt)
    (hk : ∀ (s1 : Shared) (G1 : Hp) (C1 : Addr) (cl : List (Str × Addr)) (fp : List Addr), PE (X.blk s1 G1 scope (compEnvC scope cl C1 X.env) fp) kx tk) (hv : ∀ (s1 : Shared) (G1 : Hp) (C1 : Addr) (cl : List (Str × Addr)) (fp : List Addr), PE (X.blk s1 G1 scope (compEnvC scope cl C1 X.env) fp) vx tv)
    (hs : ∀ x, foldedSetIterable iter X.env x = pure x := by intro _; rfl) :
    PS X (.Assign [.Name y py] (.DictComp kx vx [⟨tg, iter, ifs, 0⟩] scope pos) spos) (tAsg (tDc wi g tt tk tv (own.map (·.2))) (gName i)) := by
  refine ⟨fun pins s σ H D I h => ?_⟩
  have h2 : tDc wi g tt tk tv (own.map (·.2)) σ H (fun x G => gName i x σ G D.nx) := h
  rw [exec_Assign_Name_used _ _ _ _ hsw]
  refine wpAny_bind (wpAny_standAt (wpAny_bind ?_))
  refine wpAny_bind (thn (dc_core (use := some (assign (.Name y py) X.env)) (Qf := fun _ z => SP X pins D .next z) hc hN I hi ok hg ht hk hv hs h2 fun L C z m G I' q hn far => ?_) fun _ z hq => wpAny_pure (wpAny_pure hq))
  show wpAny _ _ (assign (.Name y py) X.env (.ref L)) _ _ _
  refine wpAny_assign_Name (store_ok2 (v := V.ref L) I' hN hy (.inl hyl) rfl (fun z2 I2 ⟨a, sb, ha⟩ => ?_) (.inr hyl))
  obtain ⟨w0, w1, w2, w3, w4, w5⟩ := far
  have ne : C ≠ a := by
    rcases ha with e | e
    · exact e ▸ w1
    · exact fun e' => w4 y a e e'.symm
  exact ⟨m, hn.sameBut sb ne, fun z3 sb3 => ⟨_, G, I2.turned (t' := z2.toks) (fun b o hb e => (sb3.2 b hb).trans e) w0 w1 w3 w4 w5, q⟩⟩
end
end KaG
set_option maxRecDepth 100000
set_option maxHeartbeats 4000000
namespace KaG
open PySem PySem.Spec PyProof.Rows L2 KaC KaN LamX NdefX KaU
section
variable {K : PySem.W.Frag} {d a : Addr} {o : Obj} {kvs : List (Key × V)} {xs : List V} {Hs : Hp} {Qd : Hp → Prop}
theorem go_keys {F : V → Hp → (Hp → Prop) → Prop} (Pv : Nat → Hp → Prop) (h0 : Pv 0 Hs) (hl : ∀ i H, i ≤ kvs.length → Pv i H → H d = some (.frz o (.dK kvs))) (hs : ∀ i k v H, kvs[i]? = some (k, v) → Pv i H → F (kV k) H (Pv (i + 1))) (hd : ∀ H, Pv kvs.length H → Qd H) :
    ∃ W : Nat → Nat → Hp → Prop, (∃ m, W 0 m Hs) ∧ ∀ i m H, W i m H → ((Itk d o kvs).stop i H ∧ Qd H) ∨ ((Itk d o kvs).go i H ∧ ∃ N : Hp → Prop, (∀ H', N H' → ∃ m', m' < m ∧ W (i + 1) m' H') ∧ ∀ x H', (Itk d o kvs).yld i H x H' → F x H' N) := by
  refine ⟨fun i m H => m = kvs.length - i ∧ i ≤ kvs.length ∧ Pv i H, ⟨_, rfl, Nat.zero_le _, h0⟩, fun i m H ⟨em, hi, p⟩ => ?_⟩
  have q := hl i H hi p
  rcases Nat.lt_or_ge i kvs.length with lt | ge
  · refine .inr ⟨⟨q, lt⟩, Pv (i + 1), fun H' p' => ⟨kvs.length - (i + 1), by omega, rfl, lt, p'⟩, fun x H' ⟨e, k, v, y, z⟩ => ?_⟩
    subst e; subst z
    exact hs i k v _ y p
  · obtain rfl : i = kvs.length := by omega
    exact .inl ⟨⟨q, Nat.le_refl _⟩, hd H p⟩
end
theorem same_unlock {H J : Hp} {d : Addr} {o u : HO} (e : H d = some u) (s : Same (upd H d o) J) : Same H (upd J d u) := fun b w q => by
  by_cases z : b = d
  · rw [z] at q ⊢
    rw [upd_same, ← q, e]
  · rw [upd_ne z]
    exact s b w (by rw [upd_ne z]; exact q)
end KaG
set_option maxRecDepth 100000
set_option maxHeartbeats 2000000
namespace KaG
open PySem PySem.Spec PyProof.Rows L2 KaC KaN LamX NdefX KaU
section
variable {α : Type} [DecidableEq α]
/-- made in at most k rounds, by one of the ways O tells -/
def Rd (O : α → List (List α)) : Nat → α → Bool
  | 0, _ => false
  | k + 1, x => Rd O k x || (O x).any fun o => o.all (Rd O k)
variable {O : α → List (List α)}
theorem rd_up {k : Nat} {x : α} (h : Rd O k x = true) : Rd O (k + 1) x = true := by
  show (Rd O k x || _) = true
  rw [h]; rfl
theorem rd_mono {k : Nat} {x : α} (h : Rd O k x = true) : ∀ {j : Nat}, k ≤ j → Rd O j x = true := by
  intro j hj
  induction hj with
  | refl => exact h
  | step _ ih => exact rd_up ih
theorem rd_by {k : Nat} {x : α} {o : List α} (m : o ∈ O x) (h : ∀ y ∈ o, Rd O k y = true) : Rd O (k + 1) x = true := by
  show (_ || (O x).any _) = true
  rw [Bool.or_eq_true]
  exact .inr (List.any_eq_true.mpr ⟨o, m, List.all_eq_true.mpr h⟩)
theorem rd_inv {k : Nat} {x : α} (h : Rd O (k + 1) x = true) : Rd O k x = true ∨ ∃ o ∈ O x, ∀ y ∈ o, Rd O k y = true := by
  have h : (Rd O k x || (O x).any fun o => o.all (Rd O k)) = true := h
  rcases (Bool.or_eq_true _ _).mp h with e | e
  · exact .inl e
  · obtain ⟨o, m, a⟩ := List.any_eq_true.mp e
    exact .inr ⟨o, m, List.all_eq_true.mp a⟩
/-- other ways that tell no more -/
theorem rd_of {O' : α → List (List α)} (h : ∀ k x o, o ∈ O' x → (∀ y ∈ o, Rd O k y = true) → Rd O (k + 1) x = true) : ∀ {k : Nat} {x : α}, Rd O' k x = true → Rd O k x = true
  | 0, _, e => by cases e
  | k + 1, x, e => by
    rcases rd_inv e with e | ⟨o, m, a⟩
    · exact rd_up (rd_of h e)
    · exact h k x o m fun y my => rd_of h (a y my)
/-- as many rounds as there are things are enough -/
theorem rd_sat {N : List α} (nd : N.Nodup) (cl : ∀ x ∈ N, ∀ o ∈ O x, ∀ y ∈ o, y ∈ N) {k : Nat} {x : α} (mx : x ∈ N) (h : Rd O k x = true) : Rd O N.length x = true := by
  have key : ∀ j, j ≤ (N.filter (Rd O j)).length ∨ ∀ i, j ≤ i → ∀ x ∈ N, Rd O i x = true → Rd O j x = true := fun j => by
    induction j with
    | zero => exact .inl (Nat.zero_le _)
    | succ j ih =>
      rcases ih with l | st
      · by_cases e : (N.filter (Rd O (j + 1))).length ≤ (N.filter (Rd O j)).length
        · right
          have sub : ∀ z ∈ N.filter (Rd O j), z ∈ N.filter (Rd O (j + 1)) := fun z m => List.mem_filter.mpr ⟨(List.mem_filter.mp m).1, rd_up (List.mem_filter.mp m).2⟩
          have back : ∀ z ∈ N, Rd O (j + 1) z = true → Rd O j z = true := fun z mz hz => by
            refine Classical.byContradiction fun c => ?_
            have l2 : (N.filter (Rd O j)).length < (N.filter (Rd O (j + 1))).length := by
              have h1 : N.filter (Rd O j) = (N.filter (Rd O (j + 1))).filter (Rd O j) := by
                rw [List.filter_filter]
                refine List.filter_congr fun y my => ?_
                cases q : Rd O j y with
                | false => rfl
                | true => rw [rd_up q]; rfl
              rw [h1]
              exact List.length_filter_lt_length_iff_exists.mpr ⟨z, List.mem_filter.mpr ⟨mz, hz⟩, c⟩
            omega
          have all : ∀ i, j ≤ i → ∀ z ∈ N, Rd O i z = true → Rd O j z = true := fun i hi => by
            induction hi with
            | refl => exact fun _ _ h => h
            | step hi ih =>
              intro z mz hz
              rcases rd_inv hz with e | ⟨o, m, a⟩
              · exact ih z mz e
              · exact back z mz (rd_by m fun y my => ih y (cl z mz o m y my) (a y my))
          exact fun i hi z mz hz => rd_up (all i (by omega) z mz hz)
        · left; omega
      · exact .inr fun i hi z mz hz => rd_up (st i (by omega) z mz hz)
  rcases Nat.le_total k N.length with hk | hk
  · exact rd_mono h hk
  · rcases key N.length with l | st
    · have e : N.filter (Rd O N.length) = N := List.Sublist.eq_of_length_le (List.filter_sublist ..) l
      rw [← e] at mx
      exact (List.mem_filter.mp mx).2
    · exact st k hk x mx h
def mxI (l : List Int) : Int := l.foldr max 0
theorem mxI_ge0 (l : List Int) : 0 ≤ mxI l := (foldmax_ge l 0).1
theorem mxI_ge {l : List Int} {x : Int} (m : x ∈ l) : x ≤ mxI l := (foldmax_ge l 0).2 x m
theorem mxI_le {l : List Int} {b : Int} (h0 : 0 ≤ b) (h : ∀ x ∈ l, x ≤ b) : mxI l ≤ b := by
  unfold mxI
  rcases foldmax_or l 0 with e | e
  · omega
  · exact h _ e
/-- 99, or a number of rounds -/
structure SoundN (O : α → List (List α)) (F : α → Int) : Prop where
  le : ∀ x, F x ≤ 99
  ge : ∀ x, 1 ≤ F x
  r : ∀ x, F x < 99 → Rd O (F x).toNat x = true
theorem SoundN.init : SoundN O fun _ => 99 := ⟨fun _ => Int.le_refl _, fun _ => by decide, fun _ h => absurd h (Int.lt_irrefl _)⟩
/-- each number stays, or is lowered by a way -/
theorem SoundN.step {F F' : α → Int} (h : SoundN O F) (hs : ∀ x, F' x = F x ∨ (F' x < F x ∧ ∃ o ∈ O x, F' x = 1 + mxI (o.map F))) : SoundN O F' := by
  refine ⟨fun x => ?_, fun x => ?_, fun x lt => ?_⟩
  · rcases hs x with e | ⟨l, _⟩
    · rw [e]; exact h.le x
    · have := h.le x; omega
  · rcases hs x with e | ⟨_, o, _, e⟩
    · rw [e]; exact h.ge x
    · have := mxI_ge0 (o.map F); omega
  · rcases hs x with e | ⟨l, o, m, e⟩
    · rw [e] at lt ⊢; exact h.r x lt
    · have g0 := mxI_ge0 (o.map F)
      have e2 : (F' x).toNat = (mxI (o.map F)).toNat + 1 := by omega
      rw [e2]
      refine rd_by m fun y my => ?_
      have g1 : F y ≤ mxI (o.map F) := mxI_ge (List.mem_map_of_mem my)
      have g2 := h.ge y
      exact rd_mono (h.r y (by omega)) (by omega)
/-- after t turns -/
def DoneN (O : α → List (List α)) (N : List α) (t : Nat) (F : α → Int) : Prop := ∀ x ∈ N, Rd O t x = true → F x ≤ t
theorem DoneN.step {N : List α} {t : Nat} {F F' : α → Int} (cl : ∀ x ∈ N, ∀ o ∈ O x, ∀ y ∈ o, y ∈ N) (h : DoneN O N t F) (le : ∀ x, F' x ≤ F x) (hs : ∀ x ∈ N, ∀ o ∈ O x, F' x ≤ 1 + mxI (o.map F)) : DoneN O N (t + 1) F' := by
  intro x mx hx
  rcases rd_inv hx with e | ⟨o, m, a⟩
  · have := h x mx e
    have := le x
    omega
  · have h1 := hs x mx o m
    have h2 : mxI (o.map F) ≤ (t : Int) := mxI_le (by omega) fun v mv => by
      obtain ⟨y, my, rfl⟩ := List.mem_map.mp mv
      exact h y (cl x mx o m y my) (a y my)
    omega
theorem mxI_mono {o : List α} {F F' : α → Int} (h : ∀ x ∈ o, F' x ≤ F x) : mxI (o.map F') ≤ mxI (o.map F) :=
  mxI_le (mxI_ge0 _) fun v mv => by
    obtain ⟨y, my, rfl⟩ := List.mem_map.mp mv
    exact Int.le_trans (h y my) (mxI_ge (List.mem_map_of_mem my))
/-- what the numbers are at last: the least number of rounds, 99 where there is none -/
structure LeastN (O : α → List (List α)) (N : List α) (F : α → Int) : Prop where
  some : ∀ x ∈ N, ∀ k, Rd O k x = true → F x ≤ k ∧ F x ≤ N.length ∧ Rd O (F x).toNat x = true
  none : ∀ x ∈ N, (∀ k, Rd O k x = false) → F x = 99
  ge : ∀ x, 1 ≤ F x
theorem LeastN.of {N : List α} {F : α → Int} (nd : N.Nodup) (cl : ∀ x ∈ N, ∀ o ∈ O x, ∀ y ∈ o, y ∈ N) (l99 : N.length < 99) {T : Nat} (hT : N.length ≤ T) (hs : SoundN O F) (hd : ∀ t, t ≤ T → DoneN O N t F) : LeastN O N F := by
  refine ⟨fun x mx k hk => ?_, fun x mx hn => ?_, hs.ge⟩
  · have s := rd_sat nd cl mx hk
    have l := hd N.length hT x mx s
    refine ⟨?_, l, hs.r x (by omega)⟩
    rcases Nat.le_total k T with c | c
    · exact hd k c x mx hk
    · omega
  · refine Classical.byContradiction fun c => ?_
    have h1 := hs.le x
    have h2 := hs.r x (by omega)
    rw [hn] at h2
    cases h2
end
end KaG
set_option maxRecDepth 100000
set_option maxHeartbeats 2000000
namespace KaG
open PySem PySem.Spec PyProof.Rows L2 KaC KaN LamX NdefX KaU
mutual
inductive Tr
  | nd (n : Str) (i : Nat) (ps : TrL)
inductive TrL
  | nil
  | row (r : TrL)
  | kid (t : Tr) (r : TrL)
end
mutual
def Tr.lv : Tr → Nat
  | .nd _ _ ps => ps.lv + 1
def TrL.lv : TrL → Nat
  | .nil => 0
  | .row r => r.lv
  | .kid t r => max t.lv r.lv
end
mutual
def Tr.dt : Tr → PyData
  | .nd n i ps => .tuple [.str n, .int (i : Int), .tuple ps.dt]
def TrL.dt : TrL → List PyData
  | .nil => []
  | .row r => .none :: r.dt
  | .kid t r => t.dt :: r.dt
end
/-- the kind that a need is on; the row; a row of the lot -/
def kdOf : List V → Option Str
  | [.str _, .str p, .int _, .int _, .int _] => some p
  | _ => none
def rwOf : List V → Str
  | _ :: .str n :: _ => n
  | _ => "a"
def rwS (S : List Str) : List V → Bool
  | [.str _, .str n, .int _, .int _] => decide (n ∈ S)
  | _ => false
def bdG (S : List Str) (g : Gr) : Bool := g.any (rwS S)
mutual
def Tr.rows (gA : Str → Nat → Gr) : Tr → List Str
  | .nd n i ps => ps.rows gA (gA n i)
def TrL.rows (gA : Str → Nat → Gr) : TrL → Gr → List Str
  | .nil, _ => []
  | .row _, [] => []
  | .row r, it :: g => rwOf it :: r.rows gA g
  | .kid _ _, [] => []
  | .kid t r, _ :: g => t.rows gA ++ r.rows gA g
end
mutual
/-- a tree of the kind n -/
inductive WT (G : Str → List (Nat × Gr)) : Str → Tr → Prop
  | nd {n : Str} {i : Nat} {g : Gr} {ps : TrL} (m : (i, g) ∈ G n) (h : WTL G g ps) : WT G n (.nd n i ps)
inductive WTL (G : Str → List (Nat × Gr)) : Gr → TrL → Prop
  | nil : WTL G [] .nil
  | row {it : List V} {g : Gr} {r : TrL} (e : kdOf it = none) (h : WTL G g r) : WTL G (it :: g) (.row r)
  | kid {it : List V} {g : Gr} {r : TrL} {t : Tr} {m : Str} (e : kdOf it = some m) (ht : WT G m t) (h : WTL G g r) : WTL G (it :: g) (.kid t r)
end
abbrev Tb := List (Str × Tr)
def tget (T : Tb) (n : Str) : Option Tr := (T.find? fun e => decide (e.1 = n)).map (·.2)
theorem tget_mem {T : Tb} {n : Str} {t : Tr} (h : tget T n = some t) : (n, t) ∈ T := by
  unfold tget at h
  obtain ⟨e, he, rfl⟩ := Option.map_eq_some_iff.mp h
  have h1 := List.mem_of_find?_eq_some he
  have h2 : e.1 = n := of_decide_eq_true (List.find?_some (p := fun e : Str × Tr => decide (e.1 = n)) he)
  rw [← h2]
  exact h1
theorem tget_none {T : Tb} {n : Str} : tget T n = none ↔ n ∉ T.map (·.1) := by
  unfold tget
  rw [Option.map_eq_none_iff, List.find?_eq_none]
  refine ⟨fun h m => ?_, fun h e me z => h (List.mem_map.mpr ⟨e, me, of_decide_eq_true z⟩)⟩
  obtain ⟨e, me, rfl⟩ := List.mem_map.mp m
  exact h e me (decide_eq_true rfl)
def partsOf : Gr → List Tb → Option TrL
  | it :: g, T :: Ts => match kdOf it with
    | none => (partsOf g Ts).map .row
    | some m => match tget T m with
      | none => none
      | some t => (partsOf g Ts).map (.kid t)
  | _, _ => some .nil
/-- parts out of tables -/
inductive FromT (tb : Nat → Tb) : Gr → List Nat → TrL → Prop
  | nil : FromT tb [] [] .nil
  | row {it : List V} {g : Gr} {s : Nat} {ss : List Nat} {r : TrL} (e : kdOf it = none) (h : FromT tb g ss r) : FromT tb (it :: g) (s :: ss) (.row r)
  | kid {it : List V} {g : Gr} {s : Nat} {ss : List Nat} {r : TrL} {t : Tr} {m : Str} (e : kdOf it = some m) (ht : tget (tb s) m = some t) (h : FromT tb g ss r) : FromT tb (it :: g) (s :: ss) (.kid t r)
/-- what is asked: of each kind a thing of the sort -/
def reqs : Gr → List Nat → List (Nat × Str)
  | it :: g, s :: ss => match kdOf it with
    | none => reqs g ss
    | some m => (s, m) :: reqs g ss
  | _, _ => []
theorem parts_spec {tb : Nat → Tb} : ∀ {g : Gr} {ss : List Nat}, g.length = ss.length → (partsOf g (ss.map tb) = none ∧ ∃ y ∈ reqs g ss, tget (tb y.1) y.2 = none) ∨ ∃ ps, partsOf g (ss.map tb) = some ps ∧ FromT tb g ss ps
  | [], [], _ => .inr ⟨.nil, rfl, .nil⟩
  | it :: g, s :: ss, l => by
    have ih := parts_spec (tb := tb) (g := g) (ss := ss) (by simpa using l)
    rw [List.map_cons]
    cases e : kdOf it with
    | none =>
      have e1 : partsOf (it :: g) (tb s :: ss.map tb) = (partsOf g (ss.map tb)).map .row := by rw [partsOf, e]
      have e2 : reqs (it :: g) (s :: ss) = reqs g ss := by rw [reqs, e]
      rw [e1, e2]
      rcases ih with ⟨h, y, my, hy⟩ | ⟨ps, h, hf⟩
      · exact .inl ⟨by rw [h]; rfl, y, my, hy⟩
      · exact .inr ⟨.row ps, by rw [h]; rfl, .row e hf⟩
    | some m =>
      have e2 : reqs (it :: g) (s :: ss) = (s, m) :: reqs g ss := by rw [reqs, e]
      rw [e2]
      cases ht : tget (tb s) m with
      | none => exact .inl ⟨by rw [partsOf, e]; dsimp only; rw [ht], (s, m), List.mem_cons_self, ht⟩
      | some t =>
        have e1 : partsOf (it :: g) (tb s :: ss.map tb) = (partsOf g (ss.map tb)).map (.kid t) := by rw [partsOf, e]; dsimp only; rw [ht]
        rw [e1]
        rcases ih with ⟨h, y, my, hy⟩ | ⟨ps, h, hf⟩
        · exact .inl ⟨by rw [h]; rfl, y, List.mem_cons_of_mem _ my, hy⟩
        · exact .inr ⟨.kid t ps, by rw [h]; rfl, .kid e ht hf⟩
theorem FromT.has {tb : Nat → Tb} : ∀ {g : Gr} {ss : List Nat} {ps : TrL}, FromT tb g ss ps → ∀ y ∈ reqs g ss, ∃ t, tget (tb y.1) y.2 = some t ∧ t.lv ≤ ps.lv
  | _, _, _, .nil, y, m => by cases m
  | _, _, _, .row (s := s) e h, y, m => by
    rw [reqs, e] at m
    exact FromT.has h y m
  | _, _, _, .kid (t := t) e ht h, y, m => by
    rw [reqs, e] at m
    rcases List.mem_cons.mp m with z | z
    · rw [z]; exact ⟨t, ht, Nat.le_max_left ..⟩
    · obtain ⟨t', h1, h2⟩ := FromT.has h y z
      exact ⟨t', h1, Nat.le_trans h2 (Nat.le_max_right ..)⟩
theorem FromT.wt {G : Str → List (Nat × Gr)} {tb : Nat → Tb} (hw : ∀ s n t, tget (tb s) n = some t → WT G n t) : ∀ {g : Gr} {ss : List Nat} {ps : TrL}, FromT tb g ss ps → WTL G g ps
  | _, _, _, .nil => .nil
  | _, _, _, .row e h => .row e (FromT.wt hw h)
  | _, _, _, .kid e ht h => .kid e (hw _ _ _ ht) (FromT.wt hw h)
theorem FromT.le {tb : Nat → Tb} {k : Nat} (hk : ∀ s n t, tget (tb s) n = some t → t.lv ≤ k) : ∀ {g : Gr} {ss : List Nat} {ps : TrL}, FromT tb g ss ps → ps.lv ≤ k
  | _, _, _, .nil => Nat.zero_le _
  | _, _, _, .row (r := r) _ h => (FromT.le hk h : r.lv ≤ k)
  | _, _, _, .kid _ ht h => Nat.max_le.mpr ⟨hk _ _ _ ht, FromT.le hk h⟩
def growF (f : Gr → Option TrL) (acc : Tb) (z : Str × Nat × Gr) : Tb := match tget acc z.1, f z.2.2 with
  | none, some ps => acc ++ [(z.1, .nd z.1 z.2.1 ps)]
  | _, _ => acc
def growT (f : Gr → Option TrL) (live : List (Str × Nat × Gr)) (T : Tb) : Tb := live.foldl (growF f) T
structure Grown (f : Gr → Option TrL) (live : List (Str × Nat × Gr)) (T T' : Tb) : Prop where
  pre : ∃ E, T' = T ++ E
  nd : (T'.map (·.1)).Nodup
  mem : ∀ e ∈ T', e ∈ T ∨ (e.1 ∉ T.map (·.1) ∧ ∃ z ∈ live, ∃ ps, f z.2.2 = some ps ∧ e = (z.1, .nd z.1 z.2.1 ps))
  all : ∀ z ∈ live, (f z.2.2).isSome = true → z.1 ∈ T'.map (·.1)
theorem growT_spec {f : Gr → Option TrL} {T : Tb} (nd : (T.map (·.1)).Nodup) : ∀ live : List (Str × Nat × Gr), Grown f live T (growT f live T) := by
  have key : ∀ (todo done : List (Str × Nat × Gr)) (A : Tb), Grown f done T A → Grown f (done ++ todo) T (todo.foldl (growF f) A) := fun todo => by
    induction todo with
    | nil => intro done A h; rw [List.append_nil]; exact h
    | cons z r ih =>
      intro done A h
      rw [List.foldl_cons, show done ++ z :: r = (done ++ [z]) ++ r by simp]
      refine ih (done ++ [z]) _ ?_
      obtain ⟨E, hE⟩ := h.pre
      have stay : (f z.2.2).isSome = true → z.1 ∈ A.map (·.1) → Grown f (done ++ [z]) T A := fun _ hz => ⟨h.pre, h.nd, fun e m => (h.mem e m).imp id fun ⟨a, y, my, q⟩ => ⟨a, y, List.mem_append_left _ my, q⟩, fun y my hy => by
        rcases List.mem_append.mp my with q | q
        · exact h.all y q hy
        · rw [List.mem_singleton.mp q]; exact hz⟩
      unfold growF
      cases hf : f z.2.2 with
      | none =>
        have e : (match tget A z.1, (none : Option TrL) with | none, some ps => A ++ [(z.1, Tr.nd z.1 z.2.1 ps)] | _, _ => A) = A := by cases tget A z.1 <;> rfl
        rw [e]
        refine ⟨h.pre, h.nd, fun e m => (h.mem e m).imp id fun ⟨a, y, my, q⟩ => ⟨a, y, List.mem_append_left _ my, q⟩, fun y my hy => ?_⟩
        rcases List.mem_append.mp my with q | q
        · exact h.all y q hy
        · rw [List.mem_singleton.mp q, hf] at hy; cases hy
      | some ps =>
        cases hg : tget A z.1 with
        | some t => exact stay (by rw [hf]; rfl) (List.mem_map.mpr ⟨_, tget_mem hg, rfl⟩)
        | none =>
          have hn := tget_none.mp hg
          dsimp only
          refine ⟨⟨E ++ [(z.1, .nd z.1 z.2.1 ps)], by rw [hE, List.append_assoc]⟩, ?_, fun e m => ?_, fun y my hy => ?_⟩
          · rw [List.map_append, List.nodup_append]
            refine ⟨h.nd, by simp, fun a ma b mb => ?_⟩
            rw [List.map_singleton, List.mem_singleton] at mb
            rw [mb]
            exact fun q => hn (by rw [← q]; exact ma)
          · rcases List.mem_append.mp m with q | q
            · exact (h.mem e q).imp id fun ⟨a, y, my, q⟩ => ⟨a, y, List.mem_append_left _ my, q⟩
            · rw [List.mem_singleton.mp q]
              refine .inr ⟨fun mT => hn ?_, z, List.mem_append_right _ List.mem_cons_self, ps, hf, rfl⟩
              rw [hE, List.map_append]
              exact List.mem_append_left _ mT
          · rw [List.map_append]
            rcases List.mem_append.mp my with q | q
            · exact List.mem_append_left _ (h.all y q hy)
            · rw [List.mem_singleton.mp q]; exact List.mem_append_right _ (by simp)
  intro live
  have := key live [] T ⟨⟨[], by simp⟩, nd, fun e m => .inl m, fun _ m => by cases m⟩
  rwa [List.nil_append] at this
end KaG
set_option maxRecDepth 100000
set_option maxHeartbeats 4000000
namespace KaG
open PySem PySem.Spec PyProof.Rows L2 KaC KaN LamX NdefX KaU
section
variable {K : PySem.W.Frag} {d a : Addr} {o : Obj} {kvs : List (Key × V)} {xs : List V} {Hs : Hp} {Qd : Hp → Prop}
theorem go_list {F : V → Hp → (Hp → Prop) → Prop} (Pv : Nat → Hp → Prop) (h0 : Pv 0 Hs) (hl : ∀ i H, i ≤ xs.length → Pv i H → SqL K H a xs) (hs : ∀ i x H, xs[i]? = some x → Pv i H → F x H (Pv (i + 1))) (hd : ∀ H, Pv xs.length H → Qd H) :
    ∃ W : Nat → Nat → Hp → Prop, (∃ m, W 0 m Hs) ∧ ∀ i m H, W i m H → ((Itl K a).stop i H ∧ Qd H) ∨ ((Itl K a).go i H ∧ ∃ N : Hp → Prop, (∀ H', N H' → ∃ m', m' < m ∧ W (i + 1) m' H') ∧ ∀ x H', (Itl K a).yld i H x H' → F x H' N) := by
  refine ⟨fun i m H => m = xs.length - i ∧ i ≤ xs.length ∧ Pv i H, ⟨_, rfl, Nat.zero_le _, h0⟩, fun i m H ⟨em, hi, p⟩ => ?_⟩
  have q := hl i H hi p
  rcases Nat.lt_or_ge i xs.length with lt | ge
  · refine .inr ⟨⟨xs, xs[i], q, List.getElem?_eq_getElem lt⟩, Pv (i + 1), fun H' p' => ⟨xs.length - (i + 1), by omega, rfl, lt, p'⟩, fun x H' ⟨e, y⟩ => ?_⟩
    subst e
    exact hs i x _ (y xs q) p
  · obtain rfl : i = xs.length := by omega
    exact .inl ⟨⟨xs, q, Nat.le_refl _⟩, hd H p⟩
end
end KaG
set_option maxRecDepth 100000
set_option maxHeartbeats 2000000
set_option maxRecDepth 100000
set_option maxHeartbeats 2000000
set_option maxRecDepth 100000
set_option maxHeartbeats 4000000
namespace KaG
open PySem PySem.Spec PyProof.Rows L2 KaC KaN LamX NdefX KaU
structure Gj (names : List Str) (J : Jn) (B : List Str) (i : Nat) : Prop where
  g : Grw names J B
  c : ∀ n ∈ B, J n B = true
  d : i ≤ B.length ∨ grow1 names J B = B
theorem Gj.stp {names : List Str} {J : Jn} {B : List Str} {i : Nat} (h : Gj names J B i) : (names.filter fun n => J n B) = grow1 names J B := by
  unfold grow1
  refine List.filter_congr fun n _ => ?_
  by_cases m : n ∈ B
  · rw [h.c n m, decide_eq_true m]
    rfl
  · rw [decide_eq_false m, Bool.false_or]
theorem Gj.next {names : List Str} {J : Jn} {B : List Str} {i : Nat} (mo : Mono J) (h : Gj names J B i) : Gj names J (grow1 names J B) (i + 1) := by
  have up : ∀ x ∈ B, x ∈ grow1 names J B := fun x m => by
    have m2 := m
    rw [h.g.fl] at m2
    exact List.mem_filter.mpr ⟨(List.mem_filter.mp m2).1, by rw [decide_eq_true m]; rfl⟩
  refine ⟨h.g.next mo, fun n m => ?_, ?_⟩
  · rw [← h.stp] at m
    exact mo n B _ up (List.mem_filter.mp m).2
  · have st := h.g.step
    rcases Nat.lt_or_ge B.length (grow1 names J B).length with lt | ge
    · rcases h.d with z | z
      · exact .inl (by omega)
      · rw [z] at lt; omega
    · have e := (st.2 (by omega)).1
      refine .inr ?_
      rw [e, e]
theorem Gj.done {names : List Str} {J : Jn} {B : List Str} (h : Gj names J B names.length) : IsL names J B := by
  have st := h.g.step
  refine h.g.done (st.2 ?_).2
  rcases h.d with z | z
  · have := grow1_le (names := names) (J := J) (B := B)
    omega
  · rw [z]
end KaG
set_option maxRecDepth 100000
set_option maxHeartbeats 4000000
namespace KaG
open PySem PySem.Spec PyProof.Rows L2 KaC KaN LamX NdefX KaU
structure KtD (H : Hp) (d : Addr) (ks : List Kd) (kas : List Addr) : Prop where
  d : H d = some (.dK (kvsOf ks kas))
  l : Paired (fun ka k => KdAt H ka k) kas ks
theorem KdAt.ts' {H H' : Hp} {ka : Addr} {k : Kd} (h : KdAt H ka k) (t : TSame H H') : KdAt H' ka k := by
  obtain ⟨gt, gas, e1, e2, p⟩ := h
  exact ⟨gt, gas, t _ _ e1, t _ _ e2, Paired.mono' (fun _ _ q => Grd.ts q t) p⟩
theorem KtD.keep {H H' : Hp} {d : Addr} {ks : List Kd} {kas : List Addr} (h : KtD H d ks kas) (hd : ∀ b xs, H b = some (.dK xs) → H' b = some (.dK xs)) (t : TSame H H') : KtD H' d ks kas := ⟨hd _ _ h.d, Paired.mono' (fun _ _ q => KdAt.ts' q t) h.l⟩
theorem KtD.same {H H' : Hp} {d : Addr} {ks : List Kd} {kas : List Addr} (h : KtD H d ks kas) (s : Same H H') : KtD H' d ks kas := h.keep (fun _ _ e => s _ _ e) (TSame.of s)
/-- a list of needs against the empty list -/
structure NdL (H : Hp) (l : Addr) (rows names : List Str) (gg : Gr) : Prop where
  it : ∃ qs : List Addr, H l = some (.lst (qs.map V.ref)) ∧ Paired (fun q it => H q = some (.tup it)) qs gg
  nv : ∀ it ∈ gg, NeedV rows names it
theorem NdL.same {H H' : Hp} {l : Addr} {rows names : List Str} {gg : Gr} (h : NdL H l rows names gg) (s : Same H H') : NdL H' l rows names gg := by
  obtain ⟨⟨qs, e, p⟩, nv⟩ := h
  exact ⟨⟨qs, s _ _ e, Paired.mono' (fun _ _ q => s _ _ q) p⟩, nv⟩
theorem NdL.eqd {K : PySem.W.Frag} {H : Hp} {l z : Addr} {rows : List Str} {ks : List Kd} {gg : Gr} {Q : VK} (hO : BookOk rows ks) (h : NdL H l rows (nmsOf ks) gg) (ez : H z = some (.lst [])) : (Q (.bl gg.isEmpty) H → rEqD K (.ref l) (.ref z) H Q) ∧ (Q (.bl (!gg.isEmpty)) H → rNeD K (.ref l) (.ref z) H Q) := by
  obtain ⟨⟨qs, e, p⟩, nv⟩ := h
  obtain ⟨ds, d1, d2, d3, d4⟩ := needs_dp (K := K) hO.rw.of hO.nm.of p nv
  have e0 : PyData.eqv (.list ds) (.list []) = gg.isEmpty := by
    rw [eqv_empty, d4]
    cases gg <;> rfl
  have s0 := shaped_list (ds := []) (fun _ z => (by cases z)) (by simp [PyData.depthAll])
  exact ⟨fun q => ⟨.list ds, .list [], .lst (SqL.of e) d1, .lst (SqL.of ez) .nil, shaped_list d2 (by omega), s0, by rw [e0]; exact q⟩, fun q => ⟨.list ds, .list [], .lst (SqL.of e) d1, .lst (SqL.of ez) .nil, shaped_list d2 (by omega), s0, by rw [e0]; exact q⟩⟩
def lkR (S : List Str) : List V → Bool
  | [.str _, .str n, .int _, .int _] => decide (n ∈ S)
  | _ => false
def lkK (ks : List Kd) (B : List Str) : List V → Bool
  | [.str _, .str p, .int a, .int _, .int _] => !(decide (p ∈ B) && keepLt ks p a)
  | _ => false
def grCar (ks : List Kd) (S B : List Str) (g : Gr) : Bool := (g.filter (lkR S) ++ g.filter (lkK ks B)).isEmpty
def jL (ks : List Kd) (S : List Str) (n : Str) (B : List Str) : Bool := (gsOf ks n).any (grCar ks S B)
end KaG
set_option maxRecDepth 100000
set_option maxHeartbeats 4000000
namespace KaG
open PySem PySem.Spec PyProof.Rows L2 KaC KaN LamX NdefX KaU
structure LvL (H : Hp) (p : Addr) (ks : List Kd) (n : Str) (is : List Nat) : Prop where
  it : ∃ qs : List Addr, H p = some (.lst (qs.map V.ref)) ∧ Paired (fun q i => ∃ ga : Addr, H q = some (.tup [.int (i : Nat), .ref ga]) ∧ Grd H ga (grAt ks n i)) qs is
theorem LvL.keep {H H' : Hp} {p : Addr} {ks : List Kd} {n : Str} {is : List Nat} (h : LvL H p ks n is) (hl : ∀ b xs, H b = some (.lst xs) → H' b = some (.lst xs)) (t : TSame H H') : LvL H' p ks n is := by
  obtain ⟨qs, e, pr⟩ := h
  exact ⟨qs, hl _ _ e, Paired.mono' (fun _ _ ⟨ga, e1, e2⟩ => ⟨ga, t _ _ e1, Grd.ts e2 t⟩) pr⟩
theorem LvL.same {H H' : Hp} {p : Addr} {ks : List Kd} {n : Str} {is : List Nat} (h : LvL H p ks n is) (s : Same H H') : LvL H' p ks n is := h.keep (fun _ _ e => s _ _ e) (TSame.of s)
end KaG
set_option maxRecDepth 100000
set_option maxHeartbeats 4000000
namespace KaG
open PySem PySem.Spec PyProof.Rows L2 KaC KaN LamX NdefX KaU
/-- a list of refs to dicts' values by names -/
structure LvD (H : Hp) (ld : Addr) (ks : List Kd) (ls : List Addr) : Prop where
  d : H ld = some (.dK (kvsOf ks ls))
  l : Paired (fun l k => LvL H l ks k.name (liveIx ks (bearOf ks) k.name)) ls ks
theorem LvD.keep {H H' : Hp} {d : Addr} {ks : List Kd} {ls : List Addr} (h : LvD H d ks ls) (hd : ∀ b xs, H b = some (.dK xs) → b ≠ d ∨ True → H' b = some (.dK xs)) (hl : ∀ b xs, H b = some (.lst xs) → H' b = some (.lst xs)) (t : TSame H H') : LvD H' d ks ls := ⟨hd _ _ h.d (.inr trivial), Paired.mono' (fun _ _ q => q.keep hl t) h.l⟩
/-- a world's dict, the names of what it holds -/
structure Wkv (kv : List (Key × V)) (kd na sa ca b wd ld : Addr) : Prop where
  kinds : valV kv (Sum.inr "kinds") = some (.ref kd)
  names : valV kv (Sum.inr "names") = some (.ref na)
  struck : valV kv (Sum.inr "struck") = some (.ref sa)
  clean : valV kv (Sum.inr "clean") = some (.ref ca)
  book : valV kv (Sum.inr "book") = some (.ref b)
  ways : valV kv (Sum.inr "ways") = some (.ref wd)
  live : valV kv (Sum.inr "live") = some (.ref ld)
structure W0 (H : Hp) (wa wd b sa : Addr) (kv : List (Key × V)) (rows : List Str) (ks : List Kd) (S : List Str) : Prop where
  d : H wa = some (.dK kv)
  ok : BookOk rows ks
  bk : BookAt H b rows ks
  st : H sa = some (.tup (S.map V.str))
  it : ∃ (kd na ca ld : Addr) (kas ls : List Addr), Wkv kv kd na sa ca b wd ld ∧ KtD H kd ks kas ∧ H na = some (.lst ((nmsOf ks).map V.str)) ∧ H ca = some (.lst ((cleanOf ks S).map V.str)) ∧ LvD H ld ks ls ∧ kd ≠ wd ∧ ld ≠ wd
  ne : wa ≠ wd
theorem W0.keep {H H' : Hp} {wa wd b sa : Addr} {kv : List (Key × V)} {rows : List Str} {ks : List Kd} {S : List Str} (h : W0 H wa wd b sa kv rows ks S) (hd : ∀ b xs, b ≠ wd → H b = some (.dK xs) → H' b = some (.dK xs)) (hl : ∀ b xs, H b = some (.lst xs) → H' b = some (.lst xs)) (t : TSame H H') : W0 H' wa wd b sa kv rows ks S := by
  obtain ⟨kd, na, ca, ld, kas, ls, hk, hD, hN, hC, hL, n1, n2⟩ := h.it
  exact ⟨hd _ _ h.ne h.d, h.ok, h.bk.ts t, t _ _ h.st, ⟨kd, na, ca, ld, kas, ls, hk, ⟨hd _ _ n1 hD.d, Paired.mono' (fun _ _ q => KdAt.ts' q t) hD.l⟩, hl _ _ hN, hl _ _ hC, ⟨hd _ _ n2 hL.d, Paired.mono' (fun _ _ q => q.keep hl t) hL.l⟩, n1, n2⟩, h.ne⟩
theorem W0.same {H H' : Hp} {wa wd b sa : Addr} {kv : List (Key × V)} {rows : List Str} {ks : List Kd} {S : List Str} (h : W0 H wa wd b sa kv rows ks S) (s : Same H H') : W0 H' wa wd b sa kv rows ks S := h.keep (fun _ _ _ e => s _ _ e) (fun _ _ e => s _ _ e) (TSame.of s)
end KaG
set_option maxRecDepth 100000
set_option maxHeartbeats 4000000
set_option maxRecDepth 100000
set_option maxHeartbeats 4000000
namespace KaG
open PySem PySem.Spec PyProof.Rows L2 KaC KaN LamX NdefX KaU
structure W1 (H : Hp) (wa wd b sa : Addr) (kv : List (Key × V)) (rows : List Str) (ks : List Kd) (S : List Str) : Prop where
  w : W0 H wa wd b sa kv rows ks S
  able : ∃ aa : Addr, valV kv (Sum.inr "able") = some (.ref aa) ∧ H aa = some (.lst ((ableOf ks S).map V.str))
theorem W1.keep {H H' : Hp} {wa wd b sa : Addr} {kv : List (Key × V)} {rows : List Str} {ks : List Kd} {S : List Str} (h : W1 H wa wd b sa kv rows ks S) (hd : ∀ b xs, b ≠ wd → H b = some (.dK xs) → H' b = some (.dK xs)) (hl : ∀ b xs, H b = some (.lst xs) → H' b = some (.lst xs)) (t : TSame H H') : W1 H' wa wd b sa kv rows ks S := by
  obtain ⟨aa, e, ea⟩ := h.able
  exact ⟨h.w.keep hd hl t, aa, e, hl _ _ ea⟩
theorem W1.same {H H' : Hp} {wa wd b sa : Addr} {kv : List (Key × V)} {rows : List Str} {ks : List Kd} {S : List Str} (h : W1 H wa wd b sa kv rows ks S) (s : Same H H') : W1 H' wa wd b sa kv rows ks S := h.keep (fun _ _ _ e => s _ _ e) (fun _ _ e => s _ _ e) (TSame.of s)
theorem W1.get {H : Hp} {wa wd b sa : Addr} {kv : List (Key × V)} {rows : List Str} {ks : List Kd} {S : List Str} (h : W1 H wa wd b sa kv rows ks S) (x : Str) {v : V} (e : valV kv (Sum.inr x) = some v) : DGet H wa (.str x) (some v) := by
  have q : DGet H wa (.str x) (valV kv (Sum.inr x)) := DGet.k (k := Sum.inr x) h.w.d
  rw [e] at q
  exact q
end KaG
set_option maxRecDepth 100000
set_option maxHeartbeats 4000000
namespace KaG
open PySem PySem.Spec PyProof.Rows L2 KaC KaN LamX NdefX KaU
def WyAt (H : Hp) (q : Addr) (y : Nat × List Nat) : Prop := ∃ pl : Addr, H q = some (.tup [.int (y.1 : Int), .ref pl]) ∧ H pl = some (.lst (ixV y.2))
theorem WyAt.keep {H H' : Hp} {q : Addr} {y : Nat × List Nat} (h : WyAt H q y) (hl : ∀ b xs, H b = some (.lst xs) → H' b = some (.lst xs)) (t : TSame H H') : WyAt H' q y := by
  obtain ⟨pl, e1, e2⟩ := h
  exact ⟨pl, t _ _ e1, hl _ _ e2⟩
theorem WyAt.same {H H' : Hp} {q : Addr} {y : Nat × List Nat} (h : WyAt H q y) (s : Same H H') : WyAt H' q y := h.keep (fun _ _ e => s _ _ e) (TSame.of s)
structure WysL (H : Hp) (l : Addr) (ys : List (Nat × List Nat)) : Prop where
  it : ∃ qs : List Addr, H l = some (.lst (qs.map V.ref)) ∧ Paired (WyAt H) qs ys
theorem WysL.keep {H H' : Hp} {l : Addr} {ys : List (Nat × List Nat)} (h : WysL H l ys) (hl : ∀ b xs, H b = some (.lst xs) → H' b = some (.lst xs)) (t : TSame H H') : WysL H' l ys := by
  obtain ⟨qs, e, p⟩ := h
  exact ⟨qs, hl _ _ e, Paired.mono' (fun _ _ q => q.keep hl t) p⟩
theorem WysL.same {H H' : Hp} {l : Addr} {ys : List (Nat × List Nat)} (h : WysL H l ys) (s : Same H H') : WysL H' l ys := h.keep (fun _ _ e => s _ _ e) (TSame.of s)
def wyOf (c : Cho) : Nat × List Nat := (c.ix, c.ps.map (·.1))
noncomputable def wysK (ks : List Kd) (S : List Str) (n : Str) : List (Nat × List Nat) := (choK ks S n).map wyOf
end KaG
set_option maxRecDepth 100000
set_option maxHeartbeats 4000000
set_option maxRecDepth 100000
set_option maxHeartbeats 4000000
namespace KaG
open PySem PySem.Spec PyProof.Rows L2 KaC KaN LamX NdefX KaU
def NeW (ys : List (Nat × List Nat)) : Prop := ys ≠ [] ∧ ∀ y ∈ ys, y.2 ≠ []
structure WyM (H : Hp) (wd : Addr) (ks : List Kd) (S : List Str) : Prop where
  it : ∃ kvs : List (Key × V), H wd = some (.dK kvs) ∧ (kvs.map (·.1)).Nodup ∧ (∀ k ∈ kvs.map (·.1), k ∈ (nmsOf ks).map Sum.inr) ∧ ∀ n v, valV kvs (Sum.inr n) = some v → ∃ l : Addr, v = .ref l ∧ WysL H l (wysK ks S n) ∧ NeW (wysK ks S n)
structure SmW (wd : Addr) (H H' : Hp) : Prop where
  k : ∀ b o, b ≠ wd → H b = some o → H' b = some o
  non : ∀ b, H' b = none → H b = none
theorem SmW.of {wd : Addr} {H H' : Hp} (s : Same H H') : SmW wd H H' := ⟨fun b o _ e => s b o e, fun b e => same_non s b e⟩
theorem SmW.tr {wd : Addr} {H H1 H2 : Hp} (a : SmW wd H H1) (b : SmW wd H1 H2) : SmW wd H H2 := ⟨fun c o n e => b.k c o n (a.k c o n e), fun c e => a.non c (b.non c e)⟩
theorem SmW.dk {wd : Addr} {H H' : Hp} (a : SmW wd H H') {b : Addr} {xs : List (Key × V)} (n : b ≠ wd) (e : H b = some (.dK xs)) : H' b = some (.dK xs) := a.k _ _ n e
theorem SmW.lst {wd : Addr} {H H' : Hp} {kvs : List (Key × V)} (a : SmW wd H H') (ew : H wd = some (.dK kvs)) {b : Addr} {xs : List V} (e : H b = some (.lst xs)) : H' b = some (.lst xs) := a.k _ _ (fun z => by rw [z, ew] at e; cases e) e
theorem SmW.ts {wd : Addr} {H H' : Hp} {kvs : List (Key × V)} (a : SmW wd H H') (ew : H wd = some (.dK kvs)) : TSame H H' := fun b xs e => a.k _ _ (fun z => by rw [z, ew] at e; cases e) e
theorem WyM.same {H H' : Hp} {wd : Addr} {ks : List Kd} {S : List Str} (h : WyM H wd ks S) (s : Same H H') : WyM H' wd ks S := by
  obtain ⟨kvs, e, n, m, g⟩ := h
  exact ⟨kvs, s _ _ e, n, m, fun x v q => by obtain ⟨l, e1, e2, e3⟩ := g x v q; exact ⟨l, e1, e2.same s, e3⟩⟩
end KaG
set_option maxRecDepth 100000
set_option maxHeartbeats 4000000
set_option maxRecDepth 100000
set_option maxHeartbeats 4000000
namespace KaG
open PySem PySem.Spec PyProof.Rows L2 KaC KaN LamX NdefX KaU
/-- lists that stand in a world's ways -/
def IsWl (H : Hp) (xs : List V) : Prop := (∃ (p : Nat) (r : List V), xs = .int (p : Int) :: r) ∨ ∃ (q pl : Addr) (i : Int) (r : List V), xs = .ref q :: r ∧ H q = some (.tup [.int i, .ref pl])
theorem WysL.keepX {H H' : Hp} {l : Addr} {ys : List (Nat × List Nat)} (h : WysL H l ys) (n : NeW ys) (hl : ∀ b xs, H b = some (.lst xs) → IsWl H xs → H' b = some (.lst xs)) (t : TSame H H') : WysL H' l ys := by
  obtain ⟨qs, e, p⟩ := h
  refine ⟨qs, hl _ _ e ?_, paired_in (fun q y m ⟨pl, e1, e2⟩ => ⟨pl, t _ _ e1, hl _ _ e2 ?_⟩) p⟩
  · cases p with
    | nil => exact absurd rfl n.1
    | cons h t => obtain ⟨pl, e1, e2⟩ := h; exact .inr ⟨_, pl, _, _, rfl, e1⟩
  · cases hy : y.2 with
    | nil => exact absurd hy (n.2 y m)
    | cons a r => exact .inl ⟨a, _, rfl⟩
theorem WyM.keepX {H H' : Hp} {wd : Addr} {ks : List Kd} {S : List Str} (h : WyM H wd ks S) (hd : ∀ kvs, H wd = some (.dK kvs) → H' wd = some (.dK kvs)) (hl : ∀ b xs, H b = some (.lst xs) → IsWl H xs → H' b = some (.lst xs)) (t : TSame H H') : WyM H' wd ks S := by
  obtain ⟨kvs, e, n, m, g⟩ := h
  exact ⟨kvs, hd _ e, n, m, fun x v q => by obtain ⟨l, e1, e2, e3⟩ := g x v q; exact ⟨l, e1, e2.keepX e3 hl t, e3⟩⟩
end KaG
set_option maxRecDepth 100000
set_option maxHeartbeats 2000000
set_option maxRecDepth 100000
set_option maxHeartbeats 4000000
namespace KaN
open PySem PySem.Spec PyProof.Rows L2 PySem.W
end KaN
set_option maxRecDepth 100000
set_option maxHeartbeats 4000000
set_option maxRecDepth 100000
set_option maxHeartbeats 4000000
namespace KaG
open PySem PySem.Spec PyProof.Rows L2 KaC KaN LamX NdefX
theorem CelsH.ex {T : List NTab} {cl : List (Str × Addr)} {fr : List Str} {ws : List (Option V)} {H H' : Hp} (C : CelsH cl fr ws H) (X : Ex T H H') : CelsH cl fr ws H' := C.stay fun b o u e => X.ext _ _ e fun _ y => nomatch y
theorem Ex.fn {T : List NTab} {H H' : Hp} {f : Addr} {F : NF} (X : Ex T H H') (e : H f = some (FnO f F)) : H' f = some (FnO f F) := X.ext _ _ e fun _ y => by unfold FnO at y; cases y
end KaG
set_option maxRecDepth 100000
set_option maxHeartbeats 4000000
set_option maxRecDepth 100000
set_option maxHeartbeats 4000000
set_option maxRecDepth 100000
set_option maxHeartbeats 8000000
set_option maxRecDepth 100000
set_option maxHeartbeats 4000000
namespace KaG
open PySem PySem.Spec PyProof.Rows L2 KaC KaN LamX NdefX
def iKeysN (td : TE) : TI := fun σ H R => td σ H fun x H1 => ∃ d kvs, x = .ref d ∧ H1 d = some (.dK kvs) ∧ ∀ o, R (Itk d o kvs) (upd H1 d (.frz o (.dK kvs)))
section
variable {X : Cx} {tg e : Expr} {td : TE}
theorem pi_keysN (he : PE X e td) : PI X tg e (iKeysN td) := by
  refine ⟨fun pins s σ H R I h => ?_⟩
  refine thn (he.run pins s σ H _ I h) fun u s1 ⟨x, H1, I1, rx, d, kvs, ex, hd, q⟩ => ?_
  subst ex
  obtain rfl : u = Value.ref d := rx
  obtain ⟨o, I2⟩ := I1.lock hd trivial
  obtain ⟨hs, hgd, hx, es, ep, vs, hdt, hsz, kv, hm⟩ := I2.frzK upd_same
  refine iter_keys hs hgd hx hdt (pi_one (tk := s1.toks) I2 _ (turn_keys _ hdt) ⟨_, Heap.get?_push_size _ rfl, rfl, ?_⟩ (q o))
  rw [hsz] <;> rfl
end
theorem leastL_sub (L : List Lot) : ∀ l ∈ leastL L, l ∈ L := fun l m => (srt_perm L).mem_iff.mp (List.mem_filter.mp m).1
theorem leastL_len (L : List Lot) : (leastL L).length ≤ L.length := by
  rw [← (srt_perm L).length_eq]
  exact List.length_filter_le ..
structure LotsD (L : List Lot) : Prop where
  b : LotsB L
  l : L.length ≤ 32
theorem LotsD.least {rows : List Str} (h5 : rows.length ≤ 5) (hn : Nms rows) (h : Lot → Bool) : LotsD (leastL ((lotsOf rows).filter h)) := by
  refine ⟨fun l m => ?_, Nat.le_trans (leastL_len _) (Nat.le_trans (List.length_filter_le ..) (lots_32 h5))⟩
  exact lots_b h5 hn.of l (List.mem_filter.mp (leastL_sub _ l m)).1
theorem LotsD.up {rows : List Str} {ks : List Kd} {n : Str} (h5 : rows.length ≤ 5) (hn : Nms rows) : LotsD (upOf rows ks n) := LotsD.least h5 hn _
theorem LotsD.ch {rows : List Str} {ks : List Kd} {n : Str} (h5 : rows.length ≤ 5) (hn : Nms rows) : LotsD (chOf rows ks n) := by
  unfold chOf
  split
  · exact LotsD.least h5 hn _
  · exact ⟨(fun _ m => nomatch m), Nat.zero_le _⟩
end KaG
set_option maxRecDepth 100000
set_option maxHeartbeats 4000000
namespace KaG
open PySem PySem.Spec PyProof.Rows L2 KaC KaN LamX NdefX KaU
/-- a list of pairs of a name and a number -/
structure PrL (H : Hp) (D : Addr) (A : List Str) (f : Str → Int) : Prop where
  it : ∃ qs : List Addr, H D = some (.lst (qs.map V.ref)) ∧ Paired (fun q n => H q = some (.tup [.str n, .int (f n)])) qs A
theorem PrL.dict {K : PySem.W.Frag} {H : Hp} {D : Addr} {A : List Str} {f : Str → Int} (h : PrL H D A f) (nd : A.Nodup) :
    ∃ (ps : List Addr) (kvs : List (Key × V)), SqL K H D (ps.map V.ref) ∧ Paired (fun p (kv : Key × V) => SqT K H p [kV kv.1, kv.2]) ps kvs ∧ mergeK [] kvs = A.map fun n => (Sum.inr n, .int (f n)) := by
  obtain ⟨qs, e, p⟩ := h
  refine ⟨qs, A.map fun n => (Sum.inr n, .int (f n)), SqL.of e, ?_, ?_⟩
  · clear e nd
    induction p with
    | nil => exact .nil
    | cons h t ih => exact .cons (SqT.of h) ih
  · rw [merge_new _ _ (by rw [List.nil_append, List.map_map]; exact List.pairwise_map.mpr (nd.imp fun h z => h (Sum.inr.inj z))), List.nil_append]
theorem PrL.add {H : Hp} {D q0 : Addr} {A : List Str} {n : Str} {f : Str → Int} {qs : List Addr} (e : H D = some (.lst (qs.map V.ref))) (p : Paired (fun q n => H q = some (.tup [.str n, .int (f n)])) qs A) (eq : H q0 = some (.tup [.str n, .int (f n)])) : PrL (upd H D (.lst (qs.map V.ref ++ [V.ref q0]))) D (A ++ [n]) f := by
  have tsl := ts_lst (ys := qs.map V.ref ++ [V.ref q0]) e
  exact ⟨qs ++ [q0], by rw [upd_same, List.map_append]; rfl, paired_snoc (R := fun q n => (upd H D (.lst (qs.map V.ref ++ [V.ref q0]))) q = some (.tup [.str n, .int (f n)])) (tsl _ _ eq) (Paired.mono' (fun _ _ z => tsl _ _ z) p)⟩
end KaG
set_option maxRecDepth 100000
set_option maxHeartbeats 4000000
namespace KaG
open PySem PySem.Spec PyProof.Rows L2 KaC KaN LamX NdefX KaU
theorem gs_ok {rows : List Str} {ks : List Kd} (hO : BookOk rows ks) {n : Str} {g : Gr} (m : g ∈ gsOf ks n) : GrOk rows (nmsOf ks) g := by
  unfold gsOf at m
  cases q : ks.find? (fun k => decide (k.name = n)) with
  | none => rw [q] at m; cases m
  | some k =>
    rw [q] at m
    exact hO.gr (List.mem_of_find?_eq_some q) m
theorem live_g {ks : List Kd} {n : Str} {i : Nat} (m : i ∈ liveIx ks (bearOf ks) n) : grAt ks n i ∈ gsOf ks n ∧ grLive ks (bearOf ks) (grAt ks n i) = true := by
  obtain ⟨g, h1, h2⟩ := ats_mem.mp m
  have e : grAt ks n i = g := by
    unfold grAt
    rw [List.getD_eq_getElem?_getD, h1]
    rfl
  rw [e]
  exact ⟨List.mem_of_getElem? h1, h2⟩
end KaG
set_option maxRecDepth 100000
set_option maxHeartbeats 2000000
namespace KaG
open PySem PySem.Spec PyProof.Rows L2 KaC KaN LamX NdefX KaU
/-- the live grounds of a kind -/
noncomputable def lvg (ks : List Kd) (n : Str) : List (Nat × Gr) := (liveIx ks (bearOf ks) n).map fun i => (i, grAt ks n i)
noncomputable def liveL (ks : List Kd) : List (Str × Nat × Gr) := (nmsOf ks).flatMap fun n => (lvg ks n).map fun z => (n, z)
theorem liveL_mem {ks : List Kd} {z : Str × Nat × Gr} : z ∈ liveL ks ↔ z.1 ∈ nmsOf ks ∧ z.2 ∈ lvg ks z.1 := by
  unfold liveL
  rw [List.mem_flatMap]
  refine ⟨fun ⟨n, mn, h⟩ => ?_, fun ⟨a, b⟩ => ⟨z.1, a, List.mem_map.mpr ⟨z.2, b, rfl⟩⟩⟩
  obtain ⟨y, my, rfl⟩ := List.mem_map.mp h
  exact ⟨mn, my⟩
theorem lvg_mem {ks : List Kd} {n : Str} {i : Nat} {g : Gr} : (i, g) ∈ lvg ks n ↔ i ∈ liveIx ks (bearOf ks) n ∧ g = grAt ks n i := by
  unfold lvg
  rw [List.mem_map]
  refine ⟨fun ⟨j, mj, e⟩ => ?_, fun ⟨a, b⟩ => ⟨i, a, by rw [b]⟩⟩
  injection e with e1 e2
  subst e1
  exact ⟨mj, e2.symm⟩
theorem lvg_ok {rows : List Str} {ks : List Kd} (hO : BookOk rows ks) {n : Str} {i : Nat} {g : Gr} (m : (i, g) ∈ lvg ks n) : GrOk rows (nmsOf ks) g := by
  obtain ⟨mi, rfl⟩ := lvg_mem.mp m
  exact gs_ok hO (live_g mi).1
def kdsOf (g : Gr) : List Str := g.filterMap kdOf
def jss (n j : Nat) : List Nat := (List.range n).map fun p => if p = j then 2 else 0
theorem jss_len {n j : Nat} : (jss n j).length = n := by unfold jss; rw [List.length_map, List.length_range]
/-- the ways of the program: 0 a tree, 1 one without a struck row, 2 one with a struck row -/
noncomputable def wayP (ks : List Kd) (S : List Str) : Nat × Str → List (List (Nat × Str))
  | (0, n) => (lvg ks n).map fun z => reqs z.2 (List.replicate z.2.length 0)
  | (1, n) => ((lvg ks n).filter fun z => !bdG S z.2).map fun z => reqs z.2 (List.replicate z.2.length 1)
  | (2, n) => (lvg ks n).flatMap fun z => if bdG S z.2 = true then [reqs z.2 (List.replicate z.2.length 0)] else ((List.range z.2.length).filter fun j => (kdOf (z.2.getD j [])).isSome).map fun j => reqs z.2 (jss z.2.length j)
  | _ => []
theorem reqs_rep {s : Nat} : ∀ {g : Gr}, reqs g (List.replicate g.length s) = (kdsOf g).map fun m => (s, m)
  | [] => rfl
  | it :: g => by
    rw [List.length_cons, List.replicate_succ, reqs]
    unfold kdsOf
    rw [List.filterMap_cons]
    cases kdOf it with
    | none => exact reqs_rep
    | some m => dsimp only; rw [List.map_cons, reqs_rep]; rfl
theorem reqs_sort {y : Nat × Str} : ∀ {g : Gr} {ss : List Nat}, y ∈ reqs g ss → y.1 ∈ ss ∧ ∃ it ∈ g, kdOf it = some y.2
  | [], _, m => by rw [reqs] at m; cases m; exact fun _ _ _ _ h => nomatch h
  | it :: g, [], m => by rw [reqs] at m; cases m; exact fun _ _ _ _ _ h => nomatch h
  | it :: g, s :: ss, m => by
    rw [reqs] at m
    cases e : kdOf it with
    | none =>
      rw [e] at m
      obtain ⟨a, i, b, c⟩ := reqs_sort m
      exact ⟨List.mem_cons_of_mem _ a, i, List.mem_cons_of_mem _ b, c⟩
    | some q =>
      rw [e] at m
      rcases List.mem_cons.mp m with z | z
      · rw [z]; exact ⟨List.mem_cons_self, it, List.mem_cons_self, e⟩
      · obtain ⟨a, i, b, c⟩ := reqs_sort z
        exact ⟨List.mem_cons_of_mem _ a, i, List.mem_cons_of_mem _ b, c⟩
structure InvT (G : Str → List (Nat × Gr)) (O : Nat × Str → List (List (Nat × Str))) (s : Nat) (ok : Tr → Prop) (k : Nat) (T : Tb) : Prop where
  nd : (T.map (·.1)).Nodup
  has : ∀ n, n ∈ T.map (·.1) ↔ Rd O k (s, n) = true
  good : ∀ e ∈ T, WT G e.1 e.2 ∧ ok e.2 ∧ e.2.lv ≤ k ∧ Rd O e.2.lv (s, e.1) = true ∧ ∀ j, Rd O j (s, e.1) = true → e.2.lv ≤ j
variable {G : Str → List (Nat × Gr)} {O : Nat × Str → List (List (Nat × Str))}
theorem InvT.get {s k : Nat} {ok : Tr → Prop} {T : Tb} (h : InvT G O s ok k T) {n : Str} {t : Tr} (e : tget T n = some t) : WT G n t ∧ ok t ∧ t.lv ≤ k ∧ Rd O t.lv (s, n) = true ∧ ∀ j, Rd O j (s, n) = true → t.lv ≤ j := h.good _ (tget_mem e)
theorem InvT.off {s k : Nat} {ok : Tr → Prop} {T : Tb} (h : InvT G O s ok k T) {n : Str} : tget T n = none ↔ Rd O k (s, n) = false := by
  rw [tget_none, h.has, Bool.not_eq_true]
theorem InvT.init {s : Nat} {ok : Tr → Prop} : InvT G O s ok 0 [] := ⟨.nil, fun n => ⟨(fun m => by cases m), (fun m => by cases m)⟩, fun e m => by cases m⟩
theorem InvT.step {s k : Nat} {ok : Tr → Prop} {T : Tb} {f : Gr → Option TrL} {live : List (Str × Nat × Gr)} (h : InvT G O s ok k T) (hl : ∀ z ∈ live, z.2 ∈ G z.1)
    (hf : ∀ z ∈ live, ∀ ps, f z.2.2 = some ps → WTL G z.2.2 ps ∧ ok (.nd z.1 z.2.1 ps) ∧ ps.lv ≤ k ∧ Rd O (ps.lv + 1) (s, z.1) = true)
    (hs : ∀ n, (∃ o ∈ O (s, n), ∀ y ∈ o, Rd O k y = true) → ∃ z ∈ live, z.1 = n ∧ (f z.2.2).isSome = true) : InvT G O s ok (k + 1) (growT f live T) := by
  have g := growT_spec (f := f) h.nd live
  obtain ⟨E, hE⟩ := g.pre
  refine ⟨g.nd, fun n => ⟨fun m => ?_, fun m => ?_⟩, fun e m => ?_⟩
  · obtain ⟨e, me, rfl⟩ := List.mem_map.mp m
    rcases g.mem e me with q | ⟨_, z, mz, ps, hp, rfl⟩
    · exact rd_up ((h.has _).mp (List.mem_map_of_mem q))
    · obtain ⟨_, _, l, r⟩ := hf z mz ps hp
      exact rd_mono r (by omega)
  · rcases rd_inv m with q | q
    · rw [hE, List.map_append]
      exact List.mem_append_left _ ((h.has n).mpr q)
    · obtain ⟨z, mz, rfl, hz⟩ := hs n q
      exact g.all z mz hz
  · rcases g.mem e m with q | ⟨nT, z, mz, ps, hp, rfl⟩
    · obtain ⟨a, b, c, d⟩ := h.good e q
      exact ⟨a, b, by omega, d⟩
    · obtain ⟨w1, w2, w3, w4⟩ := hf z mz ps hp
      refine ⟨.nd (hl z mz) w1, w2, Nat.succ_le_succ w3, w4, fun j hj => ?_⟩
      have : ¬ j ≤ k := fun c => nT ((h.has z.1).mpr (rd_mono hj c))
      show ps.lv + 1 ≤ j
      omega
/-- parts out of tables that hold what they should -/
theorem FromT.rd {tb : Nat → Tb} {k : Nat} {ok : Nat → Tr → Prop} (ht : ∀ s, InvT G O s (ok s) k (tb s)) {g : Gr} {ss : List Nat} {ps : TrL} (h : FromT tb g ss ps) : ∀ y ∈ reqs g ss, Rd O ps.lv y = true := fun y my => by
  obtain ⟨t, h1, h2⟩ := h.has y my
  exact rd_mono ((ht y.1).get h1).2.2.2.1 h2
theorem rw_of {rows names S : List Str} {it : List V} (h : NeedV rows names it) : rwS S it = (decide (kdOf it = none) && decide (rwOf it ∈ S)) := by
  cases h with
  | row n t m => rfl
  | kind n a t m => rfl
theorem FromT.rowsC {gA : Str → Nat → Gr} {S rows names : List Str} {tb : Nat → Tb} (hw : ∀ s n t, tget (tb s) n = some t → ∀ r ∈ t.rows gA, r ∉ S) : ∀ {g : Gr} {ss : List Nat} {ps : TrL}, FromT tb g ss ps → (∀ it ∈ g, NeedV rows names it) → bdG S g = false → ∀ r ∈ ps.rows gA g, r ∉ S
  | _, _, _, .nil, _, _, r, m => by rw [TrL.rows] at m; cases m
  | it :: g, _, _, .row e h, nv, hb, r, m => by
    unfold bdG at hb
    rw [List.any_cons, Bool.or_eq_false_iff] at hb
    rw [TrL.rows] at m
    rcases List.mem_cons.mp m with z | z
    · have h1 := rw_of (S := S) (nv it List.mem_cons_self)
      rw [hb.1, decide_eq_true e, Bool.true_and] at h1
      rw [z]
      exact of_decide_eq_false h1.symm
    · exact FromT.rowsC hw h (fun x mx => nv x (List.mem_cons_of_mem _ mx)) hb.2 r z
  | it :: g, _, _, .kid e ht h, nv, hb, r, m => by
    unfold bdG at hb
    rw [List.any_cons, Bool.or_eq_false_iff] at hb
    rw [TrL.rows] at m
    rcases List.mem_append.mp m with z | z
    · exact hw _ _ _ ht r z
    · exact FromT.rowsC hw h (fun x mx => nv x (List.mem_cons_of_mem _ mx)) hb.2 r z
theorem FromT.rowsB {gA : Str → Nat → Gr} {S rows names : List Str} {tb : Nat → Tb} : ∀ {g : Gr} {ss : List Nat} {ps : TrL}, FromT tb g ss ps → (∀ it ∈ g, NeedV rows names it) → bdG S g = true → ∃ r ∈ ps.rows gA g, r ∈ S
  | _, _, _, .nil, _, hb => by cases hb
  | it :: g, _, _, .row e h, nv, hb => by
    unfold bdG at hb
    rw [List.any_cons, Bool.or_eq_true] at hb
    rw [TrL.rows]
    rcases hb with z | z
    · have h1 := rw_of (S := S) (nv it List.mem_cons_self)
      rw [z, decide_eq_true e, Bool.true_and] at h1
      exact ⟨_, List.mem_cons_self, of_decide_eq_true h1.symm⟩
    · obtain ⟨r, a, b⟩ := FromT.rowsB (gA := gA) h (fun x mx => nv x (List.mem_cons_of_mem _ mx)) z
      exact ⟨r, List.mem_cons_of_mem _ a, b⟩
  | it :: g, _, _, .kid e ht h, nv, hb => by
    unfold bdG at hb
    rw [List.any_cons, Bool.or_eq_true] at hb
    rw [TrL.rows]
    rcases hb with z | z
    · have h1 := rw_of (S := S) (nv it List.mem_cons_self)
      rw [z, e] at h1
      cases h1
    · obtain ⟨r, a, b⟩ := FromT.rowsB (gA := gA) h (fun x mx => nv x (List.mem_cons_of_mem _ mx)) z
      exact ⟨r, List.mem_append_right _ a, b⟩
theorem FromT.rowsO {gA : Str → Nat → Gr} {S : List Str} {tb : Nat → Tb} (hw : ∀ n t, tget (tb 2) n = some t → ∃ r ∈ t.rows gA, r ∈ S) : ∀ {g : Gr} {ss : List Nat} {ps : TrL}, FromT tb g ss ps → (∃ y ∈ reqs g ss, y.1 = 2) → ∃ r ∈ ps.rows gA g, r ∈ S
  | _, _, _, .nil, ⟨y, m, _⟩ => by cases m
  | it :: g, _, _, .row e h, ⟨y, m, z⟩ => by
    rw [reqs, e] at m
    obtain ⟨r, a, b⟩ := FromT.rowsO (gA := gA) hw h ⟨y, m, z⟩
    exact ⟨r, by rw [TrL.rows]; exact List.mem_cons_of_mem _ a, b⟩
  | it :: g, _, _, .kid e ht h, ⟨y, m, z⟩ => by
    rw [reqs, e] at m
    rcases List.mem_cons.mp m with q | q
    · rw [q] at z
      have z := z
      subst z
      obtain ⟨r, a, b⟩ := hw _ _ ht
      exact ⟨r, by rw [TrL.rows]; exact List.mem_append_left _ a, b⟩
    · obtain ⟨r, a, b⟩ := FromT.rowsO (gA := gA) hw h ⟨y, q, z⟩
      exact ⟨r, by rw [TrL.rows]; exact List.mem_append_right _ a, b⟩
end KaG
set_option maxRecDepth 100000
set_option maxHeartbeats 2000000
namespace KaG
open PySem PySem.Spec PyProof.Rows L2 KaC KaN LamX NdefX KaU
def fC (S : List Str) (T : Tb) (g : Gr) : Option TrL := if bdG S g = true then none else partsOf g (List.replicate g.length T)
def fOj (A U : Tb) (g : Gr) (j : Nat) : Option TrL := if (kdOf (g.getD j [])).isSome = true then partsOf g ((List.range g.length).map fun p => if p = j then U else A) else none
def fO (S : List Str) (A U : Tb) (g : Gr) : Option TrL := if bdG S g = true then partsOf g (List.replicate g.length A) else (List.range g.length).findSome? (fOj A U g)
noncomputable def tabC (ks : List Kd) (S : List Str) : Nat → Tb
  | 0 => []
  | k + 1 => growT (fC S (tabC ks S k)) (liveL ks) (tabC ks S k)
noncomputable def tabU (ks : List Kd) (S : List Str) : Nat → Tb
  | 0 => []
  | k + 1 => growT (fO S (tabC ks [] k) (tabU ks S k)) (liveL ks) (tabU ks S k)
def tb3 (A C U : Tb) : Nat → Tb
  | 0 => A
  | 1 => C
  | 2 => U
  | _ => []
def okS (ks : List Kd) (S : List Str) : Nat → Tr → Prop
  | 1, t => ∀ r ∈ t.rows (grAt ks), r ∉ S
  | 2, t => ∃ r ∈ t.rows (grAt ks), r ∈ S
  | _, _ => True
theorem bd_nil (g : Gr) : bdG [] g = false := by
  unfold bdG
  refine List.any_eq_false.mpr fun it _ h => ?_
  unfold rwS at h
  split at h
  · cases of_decide_eq_true h
  · cases h
theorem parts_ok {G : Str → List (Nat × Gr)} {O : Nat × Str → List (List (Nat × Str))} {ok : Nat → Tr → Prop} {tb : Nat → Tb} {k : Nat} (ht : ∀ s, InvT G O s (ok s) k (tb s)) {g : Gr} {ss : List Nat} (l : g.length = ss.length) (h : ∀ y ∈ reqs g ss, Rd O k y = true) : (partsOf g (ss.map tb)).isSome = true := by
  rcases parts_spec (tb := tb) l with ⟨_, y, my, hy⟩ | ⟨ps, e, _⟩
  · have := ((ht y.1).off).mp hy
    rw [h y my] at this
    cases this
  · rw [e]; rfl
theorem parts_some {tb : Nat → Tb} {g : Gr} {ss : List Nat} (l : g.length = ss.length) {ps : TrL} (h : partsOf g (ss.map tb) = some ps) : FromT tb g ss ps := by
  rcases parts_spec (tb := tb) l with ⟨e, _⟩ | ⟨ps', e, f⟩
  · rw [e] at h; cases h
  · rw [e] at h; cases h; exact f
theorem jss_map {A C U : Tb} {n j : Nat} : (jss n j).map (tb3 A C U) = (List.range n).map fun p => if p = j then U else A := by
  unfold jss
  rw [List.map_map]
  refine List.map_congr_left fun p _ => ?_
  show tb3 A C U (if p = j then 2 else 0) = if p = j then U else A
  split <;> rfl
theorem reqs_two : ∀ {g : Gr} {ss : List Nat} {j : Nat} {it : List V}, g[j]? = some it → ss[j]? = some 2 → (kdOf it).isSome = true → ∃ y ∈ reqs g ss, y.1 = 2
  | it :: g, s :: ss, 0, _, h1, h2, h3 => by
    cases h1
    cases h2
    obtain ⟨m, e⟩ := Option.isSome_iff_exists.mp h3
    exact ⟨(2, m), by rw [reqs, e]; exact List.mem_cons_self, rfl⟩
  | it :: g, s :: ss, j + 1, _, h1, h2, h3 => by
    obtain ⟨y, my, e⟩ := reqs_two (g := g) (ss := ss) (j := j) h1 h2 h3
    refine ⟨y, ?_, e⟩
    rw [reqs]
    cases kdOf it with
    | none => exact my
    | some m => exact List.mem_cons_of_mem _ my
  | [], _, _, _, h1, _, _ => by cases h1
  | _ :: _, [], 0, _, _, h2, _ => by cases h2
  | _ :: _, [], _ + 1, _, _, h2, _ => by cases h2
section
variable {rows : List Str} {ks : List Kd} {S : List Str}
theorem off_sort {k : Nat} {s : Nat} {n : Str} (h : 3 ≤ s) : Rd (wayP ks S) k (s, n) = false := by
  induction k with
  | zero => rfl
  | succ k ih =>
    cases e : Rd (wayP ks S) (k + 1) (s, n) with
    | false => rfl
    | true =>
      rcases rd_inv e with q | ⟨o, m, _⟩
      · rw [ih] at q; cases q
      · obtain ⟨s, rfl⟩ : ∃ t, s = t + 3 := ⟨s - 3, by omega⟩
        cases m
theorem gs_nm {n : Str} {g : Gr} (m : g ∈ gsOf ks n) : n ∈ nmsOf ks := by
  unfold gsOf at m
  cases q : ks.find? (fun k => decide (k.name = n)) with
  | none => rw [q] at m; cases m
  | some k =>
    have h1 := List.mem_of_find?_eq_some q
    have h2 : k.name = n := of_decide_eq_true (List.find?_some (p := fun k : Kd => decide (k.name = n)) q)
    exact List.mem_map.mpr ⟨k, h1, h2⟩
theorem live_of_lvg {n : Str} {z : Nat × Gr} (m : z ∈ lvg ks n) : (n, z) ∈ liveL ks := by
  obtain ⟨i, g⟩ := z
  obtain ⟨mi, _⟩ := lvg_mem.mp m
  exact liveL_mem.mpr ⟨gs_nm (live_g mi).1, m⟩
theorem inv_tabs (hO : BookOk rows ks) (S : List Str) : ∀ k s, InvT (lvg ks) (wayP ks S) s (okS ks S s) k (tb3 (tabC ks [] k) (tabC ks S k) (tabU ks S k) s)
  | 0, s => by
    have : tb3 (tabC ks [] 0) (tabC ks S 0) (tabU ks S 0) s = [] := by
      match s with
      | 0 => rfl
      | 1 => rfl
      | 2 => rfl
      | _ + 3 => rfl
    rw [this]
    exact InvT.init
  | k + 1, s => by
    have ih := inv_tabs hO S k
    generalize hA : tabC ks [] k = A at ih
    generalize hC : tabC ks S k = C at ih
    generalize hU : tabU ks S k = U at ih
    have nv : ∀ {z : Str × Nat × Gr}, z ∈ liveL ks → ∀ it ∈ z.2.2, NeedV rows (nmsOf ks) it := fun mz => (lvg_ok hO (liveL_mem.mp mz).2).nv
    have hl : ∀ z ∈ liveL ks, z.2 ∈ lvg ks z.1 := fun z mz => (liveL_mem.mp mz).2
    have ea : ∀ {z : Str × Nat × Gr}, z ∈ liveL ks → grAt ks z.1 z.2.1 = z.2.2 := fun mz => ((lvg_mem (i := _) (g := _)).mp (liveL_mem.mp mz).2).2.symm
    have wt : ∀ s n t, tget (tb3 A C U s) n = some t → WT (lvg ks) n t := fun s n t e => ((ih s).get e).1
    have lk : ∀ s n t, tget (tb3 A C U s) n = some t → t.lv ≤ k := fun s n t e => ((ih s).get e).2.2.1
    -- one sort of parts
    have rep : ∀ (s' : Nat) (g : Gr), List.replicate g.length (tb3 A C U s') = (List.replicate g.length s').map (tb3 A C U) := fun s' g => List.map_replicate.symm
    have one : ∀ {g : Gr} {ss : List Nat} {ps : TrL} {n : Str} {s' : Nat}, FromT (tb3 A C U) g ss ps → reqs g ss ∈ wayP ks S (s', n) → WTL (lvg ks) g ps ∧ ps.lv ≤ k ∧ Rd (wayP ks S) (ps.lv + 1) (s', n) = true := fun f m => ⟨f.wt wt, f.le lk, rd_by m (f.rd (ok := okS ks S) ih)⟩
    match s with
    | 0 =>
      show InvT (lvg ks) (wayP ks S) 0 (okS ks S 0) (k + 1) (growT (fC [] (tabC ks [] k)) (liveL ks) (tabC ks [] k))
      rw [hA]
      refine (ih 0).step hl (fun z mz ps e => ?_) (fun n ⟨o, mo, ho⟩ => ?_)
      · unfold fC at e
        rw [bd_nil, if_neg Bool.false_ne_true, show A = tb3 A C U 0 from rfl, rep] at e
        obtain ⟨a, b, c⟩ := one (n := z.1) (s' := 0) (parts_some (by simp) e) (List.mem_map.mpr ⟨z.2, hl z mz, rfl⟩)
        exact ⟨a, trivial, b, c⟩
      · obtain ⟨z, mz, rfl⟩ := List.mem_map.mp mo
        refine ⟨(n, z), live_of_lvg mz, rfl, ?_⟩
        unfold fC
        rw [bd_nil, if_neg Bool.false_ne_true, show A = tb3 A C U 0 from rfl, rep]
        exact parts_ok (ok := okS ks S) ih (by simp) ho
    | 1 =>
      show InvT (lvg ks) (wayP ks S) 1 (okS ks S 1) (k + 1) (growT (fC S (tabC ks S k)) (liveL ks) (tabC ks S k))
      rw [hC]
      refine (ih 1).step hl (fun z mz ps e => ?_) (fun n ⟨o, mo, ho⟩ => ?_)
      · unfold fC at e
        cases hb : bdG S z.2.2 with
        | true => rw [hb, if_pos rfl] at e; cases e
        | false =>
          rw [hb, if_neg Bool.false_ne_true, show C = tb3 A C U 1 from rfl, rep] at e
          have f := parts_some (tb := tb3 A C U) (by simp) e
          obtain ⟨a, b, c⟩ := one (n := z.1) (s' := 1) f (List.mem_map.mpr ⟨z.2, List.mem_filter.mpr ⟨hl z mz, by rw [hb]; rfl⟩, rfl⟩)
          refine ⟨a, ?_, b, c⟩
          show ∀ r ∈ Tr.rows (grAt ks) (.nd z.1 z.2.1 ps), r ∉ S
          rw [Tr.rows, ea mz]
          -- all parts are of the sort 1
          have e1 : partsOf z.2.2 ((List.replicate z.2.2.length 1).map fun _ => C) = some ps := by
            rw [← e, List.map_replicate, List.map_replicate]; rfl
          exact (parts_some (tb := fun _ => C) (by simp) e1).rowsC (fun s n t h => ((ih 1).get (show tget (tb3 A C U 1) n = some t from h)).2.1) (nv mz) hb
      · obtain ⟨z, mz, rfl⟩ := List.mem_map.mp mo
        obtain ⟨mz, hb⟩ := List.mem_filter.mp mz
        have hb : bdG S z.2 = false := by
          cases q : bdG S z.2 with
          | false => rfl
          | true => rw [q] at hb; cases hb
        refine ⟨(n, z), live_of_lvg mz, rfl, ?_⟩
        unfold fC
        dsimp only
        rw [hb, if_neg Bool.false_ne_true, show C = tb3 A C U 1 from rfl, rep]
        exact parts_ok (ok := okS ks S) ih (by simp) ho
    | 2 =>
      show InvT (lvg ks) (wayP ks S) 2 (okS ks S 2) (k + 1) (growT (fO S (tabC ks [] k) (tabU ks S k)) (liveL ks) (tabU ks S k))
      rw [hA, hU]
      refine (ih 2).step hl (fun z mz ps e => ?_) (fun n ⟨o, mo, ho⟩ => ?_)
      · unfold fO at e
        cases hb : bdG S z.2.2 with
        | true =>
          rw [hb, if_pos rfl, show A = tb3 A C U 0 from rfl, rep] at e
          have f := parts_some (tb := tb3 A C U) (by simp) e
          obtain ⟨a, b, c⟩ := one (n := z.1) (s' := 2) f (List.mem_flatMap.mpr ⟨z.2, hl z mz, by rw [hb, if_pos rfl]; exact List.mem_singleton.mpr rfl⟩)
          refine ⟨a, ?_, b, c⟩
          show ∃ r ∈ Tr.rows (grAt ks) (.nd z.1 z.2.1 ps), r ∈ S
          rw [Tr.rows, ea mz]
          exact f.rowsB (nv mz) hb
        | false =>
          rw [hb, if_neg Bool.false_ne_true] at e
          obtain ⟨j, mj, hj⟩ := List.exists_of_findSome?_eq_some e
          unfold fOj at hj
          cases hk : (kdOf (z.2.2.getD j [])).isSome with
          | false => rw [hk, if_neg Bool.false_ne_true] at hj; cases hj
          | true =>
            rw [hk, if_pos rfl, ← jss_map (C := C)] at hj
            have f := parts_some (tb := tb3 A C U) (by rw [jss_len]) hj
            obtain ⟨a, b, c⟩ := one (n := z.1) (s' := 2) f (List.mem_flatMap.mpr ⟨z.2, hl z mz, by rw [hb, if_neg Bool.false_ne_true]; exact List.mem_map.mpr ⟨j, List.mem_filter.mpr ⟨mj, hk⟩, rfl⟩⟩)
            refine ⟨a, ?_, b, c⟩
            show ∃ r ∈ Tr.rows (grAt ks) (.nd z.1 z.2.1 ps), r ∈ S
            rw [Tr.rows, ea mz]
            have lj := List.mem_range.mp mj
            refine f.rowsO (fun n t h => ((ih 2).get h).2.1) (reqs_two (j := j) (List.getElem?_eq_getElem lj) ?_ ?_)
            · unfold jss
              rw [List.getElem?_map, List.getElem?_range lj, Option.map_some, if_pos rfl]
            · rw [List.getD_eq_getElem?_getD, List.getElem?_eq_getElem lj] at hk
              exact hk
      · obtain ⟨z, mz, hm⟩ := List.mem_flatMap.mp mo
        refine ⟨(n, z), live_of_lvg mz, rfl, ?_⟩
        unfold fO
        dsimp only
        cases hb : bdG S z.2 with
        | true =>
          rw [hb, if_pos rfl] at hm
          rw [List.mem_singleton.mp hm] at ho
          rw [if_pos rfl, show A = tb3 A C U 0 from rfl, rep]
          exact parts_ok (ok := okS ks S) ih (by simp) ho
        | false =>
          rw [hb, if_neg Bool.false_ne_true] at hm
          obtain ⟨j, mj, rfl⟩ := List.mem_map.mp hm
          obtain ⟨mj, hk⟩ := List.mem_filter.mp mj
          rw [if_neg Bool.false_ne_true]
          refine List.findSome?_isSome_iff.mpr ⟨j, mj, ?_⟩
          unfold fOj
          rw [hk, if_pos rfl, ← jss_map (C := C)]
          exact parts_ok (ok := okS ks S) ih (by rw [jss_len]) ho
    | s + 3 =>
      show InvT (lvg ks) (wayP ks S) (s + 3) (okS ks S (s + 3)) (k + 1) []
      refine ⟨.nil, fun n => ⟨(fun m => by cases m), fun m => ?_⟩, fun e m => by cases m⟩
      rw [off_sort (by omega)] at m
      cases m
end
end KaG
set_option maxRecDepth 100000
set_option maxHeartbeats 2000000
namespace KaG
open PySem PySem.Spec PyProof.Rows L2 KaC KaN LamX NdefX KaU
def zs (ms : List Str) : List (Nat × Str) := ms.map fun m => (0, m)
def oldW (ms : List Str) (j : Nat) (m : Str) : List (Nat × Str) := zs (ms.take j) ++ (2, m) :: zs (ms.drop (j + 1))
noncomputable def wayL (ks : List Kd) (S : List Str) : Nat × Str → List (List (Nat × Str))
  | (0, n) => (lvg ks n).map fun z => zs (kdsOf z.2)
  | (1, n) => ((lvg ks n).filter fun z => !bdG S z.2).map fun z => (kdsOf z.2).map fun m => (1, m)
  | (2, n) => (lvg ks n).flatMap fun z => ((List.range (kdsOf z.2).length).map fun j => oldW (kdsOf z.2) j ((kdsOf z.2).getD j "a")) ++ if bdG S z.2 = true then [zs (kdsOf z.2)] else []
  | _ => []
theorem reqs_app : ∀ {a b : Gr} {sa sb : List Nat}, a.length = sa.length → reqs (a ++ b) (sa ++ sb) = reqs a sa ++ reqs b sb
  | [], _, [], _, _ => by rw [List.nil_append, List.nil_append]; rfl
  | it :: a, b, s :: sa, sb, l => by
    rw [List.cons_append, List.cons_append, reqs, reqs, reqs_app (by simpa using l)]
    cases kdOf it <;> rfl
theorem jss_split (a b : Nat) : jss (a + (b + 1)) a = List.replicate a 0 ++ 2 :: List.replicate b 0 := by
  unfold jss
  refine List.ext_getElem? fun i => ?_
  rw [List.getElem?_map]
  rcases Nat.lt_trichotomy i a with h | h | h
  · rw [List.getElem?_range (by omega), Option.map_some, if_neg (by omega), List.getElem?_append_left (by rw [List.length_replicate]; exact h), List.getElem?_replicate, if_pos h]
  · rw [List.getElem?_range (by omega), Option.map_some, if_pos h, List.getElem?_append_right (by rw [List.length_replicate]; omega), List.length_replicate, h, Nat.sub_self]; rfl
  · rw [List.getElem?_append_right (by rw [List.length_replicate]; omega), List.length_replicate, List.getElem?_cons, if_neg (by omega), List.getElem?_replicate]
    by_cases c : i < a + (b + 1)
    · rw [List.getElem?_range c, Option.map_some, if_neg (by omega), if_pos (by omega)]
    · rw [List.getElem?_eq_none (by rw [List.length_range]; omega), if_neg (by omega)]; rfl
theorem kds_app {a b : Gr} : kdsOf (a ++ b) = kdsOf a ++ kdsOf b := by unfold kdsOf; rw [List.filterMap_append]
theorem kds_cons {it : List V} {g : Gr} {m : Str} (e : kdOf it = some m) : kdsOf (it :: g) = m :: kdsOf g := by unfold kdsOf; rw [List.filterMap_cons, e]
theorem reqs_old {pre post : Gr} {it : List V} {m : Str} (e : kdOf it = some m) : reqs (pre ++ it :: post) (jss (pre ++ it :: post).length pre.length) = oldW (kdsOf (pre ++ it :: post)) (kdsOf pre).length m := by
  rw [List.length_append, List.length_cons, jss_split, reqs_app (by rw [List.length_replicate]), reqs_rep, reqs, e]
  dsimp only
  rw [reqs_rep, kds_app, kds_cons e]
  unfold oldW zs
  rw [List.take_left, List.drop_append, List.drop_eq_nil_of_le (Nat.le_succ _), Nat.add_sub_cancel_left]
  rfl
theorem pos_of_kd : ∀ {g : Gr} {j : Nat} {m : Str}, (kdsOf g)[j]? = some m → ∃ pre it post, g = pre ++ it :: post ∧ kdOf it = some m ∧ (kdsOf pre).length = j
  | [], _, _, h => by cases h
  | it :: g, j, m, h => by
    cases e : kdOf it with
    | none =>
      have e2 : kdsOf (it :: g) = kdsOf g := by unfold kdsOf; rw [List.filterMap_cons, e]
      rw [e2] at h
      obtain ⟨pre, x, post, h1, h2, h3⟩ := pos_of_kd h
      refine ⟨it :: pre, x, post, by rw [h1]; rfl, h2, ?_⟩
      rw [← h3]
      unfold kdsOf
      rw [List.filterMap_cons, e]
    | some q =>
      rw [kds_cons e] at h
      cases j with
      | zero =>
        cases h
        exact ⟨[], it, g, rfl, e, rfl⟩
      | succ j =>
        obtain ⟨pre, x, post, h1, h2, h3⟩ := pos_of_kd (show (kdsOf g)[j]? = some m from h)
        exact ⟨it :: pre, x, post, by rw [h1]; rfl, h2, by rw [kds_cons e, List.length_cons, h3]⟩
section
variable {rows : List Str} {ks : List Kd} {S : List Str}
/-- what has a struck row is a tree -/
theorem two_zero : ∀ {k : Nat} {n : Str}, Rd (wayP ks S) k (2, n) = true → Rd (wayP ks S) k (0, n) = true
  | 0, _, h => by cases h
  | k + 1, n, h => by
    rcases rd_inv h with q | ⟨o, m, a⟩
    · exact rd_up (two_zero q)
    · obtain ⟨z, mz, hm⟩ := List.mem_flatMap.mp m
      refine rd_by (List.mem_map.mpr ⟨z, mz, rfl⟩) fun y my => ?_
      rw [reqs_rep] at my
      obtain ⟨q, mq, rfl⟩ := List.mem_map.mp my
      split at hm
      · rw [List.mem_singleton.mp hm, reqs_rep] at a
        exact a _ (List.mem_map_of_mem mq)
      · obtain ⟨j, mj, rfl⟩ := List.mem_map.mp hm
        obtain ⟨mj, hk⟩ := List.mem_filter.mp mj
        have lj := List.mem_range.mp mj
        have sp : z.2 = z.2.take j ++ z.2[j] :: z.2.drop (j + 1) := by rw [List.getElem_cons_drop, List.take_append_drop]
        rw [List.getD_eq_getElem?_getD, List.getElem?_eq_getElem lj] at hk
        obtain ⟨m0, hm0⟩ := Option.isSome_iff_exists.mp (show (kdOf z.2[j]).isSome = true from hk)
        have e := reqs_old (pre := z.2.take j) (post := z.2.drop (j + 1)) hm0
        rw [← sp, show (z.2.take j).length = j by rw [List.length_take]; omega] at e
        rw [e] at a
        have e3 : kdsOf z.2 = kdsOf (z.2.take j) ++ m0 :: kdsOf (z.2.drop (j + 1)) := by
          conv => lhs; rw [sp]
          rw [kds_app, kds_cons hm0]
        have t1 : (kdsOf z.2).take (kdsOf (z.2.take j)).length = kdsOf (z.2.take j) := by rw [e3, List.take_left]
        have t2 : (kdsOf z.2).drop ((kdsOf (z.2.take j)).length + 1) = kdsOf (z.2.drop (j + 1)) := by
          rw [e3, List.drop_append, List.drop_eq_nil_of_le (Nat.le_succ _), Nat.add_sub_cancel_left]; rfl
        unfold oldW zs at a
        rw [t1, t2] at a
        rw [e3] at mq
        rcases List.mem_append.mp mq with w | w
        · exact a _ (List.mem_append_left _ (List.mem_map_of_mem w))
        · rcases List.mem_cons.mp w with w | w
          · rw [w]; exact two_zero (a _ (List.mem_append_right _ List.mem_cons_self))
          · exact a _ (List.mem_append_right _ (List.mem_cons_of_mem _ (List.mem_map_of_mem w)))
theorem old_mem {o : List (Nat × Str)} {g : Gr} (hm : o ∈ (List.range (kdsOf g).length).map fun j => oldW (kdsOf g) j ((kdsOf g).getD j "a")) : ∃ p m, p < g.length ∧ kdOf (g.getD p []) = some m ∧ o = reqs g (jss g.length p) ∧ ∀ q ∈ kdsOf g, (0, q) ∈ o ∨ (2, q) ∈ o := by
  obtain ⟨j, mj, rfl⟩ := List.mem_map.mp hm
  have lj := List.mem_range.mp mj
  have hj : (kdsOf g)[j]? = some (kdsOf g)[j] := List.getElem?_eq_getElem lj
  obtain ⟨pre, it, post, rfl, h2, h3⟩ := pos_of_kd hj
  generalize hm : (kdsOf (pre ++ it :: post))[j] = m at h2 hj
  have ed : (kdsOf (pre ++ it :: post)).getD j "a" = m := by rw [List.getD_eq_getElem?_getD, hj]; rfl
  refine ⟨pre.length, m, by rw [List.length_append, List.length_cons]; omega, by rw [List.getD_eq_getElem?_getD, List.getElem?_append_right (Nat.le_refl _), Nat.sub_self]; exact h2, by rw [ed, reqs_old h2, h3], fun q mq => ?_⟩
  rw [ed, kds_app, kds_cons h2] at *
  unfold oldW zs
  rw [← h3, List.take_left, List.drop_append, List.drop_eq_nil_of_le (Nat.le_succ _), Nat.add_sub_cancel_left]
  rcases List.mem_append.mp mq with w | w
  · exact .inl (List.mem_append_left _ (List.mem_map_of_mem w))
  · rcases List.mem_cons.mp w with w | w
    · rw [w]; exact .inr (List.mem_append_right _ List.mem_cons_self)
    · exact .inl (List.mem_append_right _ (List.mem_cons_of_mem _ (List.mem_map_of_mem w)))
theorem wayL_P {k : Nat} {x : Nat × Str} (h : Rd (wayL ks S) k x = true) : Rd (wayP ks S) k x = true := by
  refine rd_of (fun k x o m a => ?_) h
  obtain ⟨s, n⟩ := x
  match s with
  | 0 =>
    obtain ⟨z, mz, rfl⟩ := List.mem_map.mp m
    exact rd_by (List.mem_map.mpr ⟨z, mz, rfl⟩) (by rw [reqs_rep]; exact a)
  | 1 =>
    obtain ⟨z, mz, rfl⟩ := List.mem_map.mp m
    exact rd_by (List.mem_map.mpr ⟨z, mz, rfl⟩) (by rw [reqs_rep]; exact a)
  | 2 =>
    obtain ⟨z, mz, hm⟩ := List.mem_flatMap.mp m
    cases hb : bdG S z.2 with
    | true =>
      refine rd_by (o := reqs z.2 (List.replicate z.2.length 0)) (List.mem_flatMap.mpr ⟨z, mz, by rw [hb, if_pos rfl]; exact List.mem_singleton.mpr rfl⟩) fun y my => ?_
      rw [reqs_rep] at my
      obtain ⟨q, mq, rfl⟩ := List.mem_map.mp my
      rcases List.mem_append.mp hm with w | w
      · obtain ⟨_, _, _, _, _, h5⟩ := old_mem w
        rcases h5 q mq with r | r
        · exact a _ r
        · exact two_zero (a _ r)
      · rw [hb, if_pos rfl] at w
        rw [List.mem_singleton.mp w] at a
        exact a _ (List.mem_map_of_mem mq)
    | false =>
      rw [hb, if_neg Bool.false_ne_true, List.append_nil] at hm
      obtain ⟨p, m0, h1, h2, rfl, _⟩ := old_mem hm
      exact rd_by (List.mem_flatMap.mpr ⟨z, mz, by rw [hb, if_neg Bool.false_ne_true]; exact List.mem_map.mpr ⟨p, List.mem_filter.mpr ⟨List.mem_range.mpr h1, by rw [h2]; rfl⟩, rfl⟩⟩) a
  | _ + 3 => cases m
theorem wayP_L {k : Nat} {x : Nat × Str} (h : Rd (wayP ks S) k x = true) : Rd (wayL ks S) k x = true := by
  refine rd_of (fun k x o m a => ?_) h
  obtain ⟨s, n⟩ := x
  match s with
  | 0 =>
    obtain ⟨z, mz, rfl⟩ := List.mem_map.mp m
    rw [reqs_rep] at a
    exact rd_by (List.mem_map.mpr ⟨z, mz, rfl⟩) a
  | 1 =>
    obtain ⟨z, mz, rfl⟩ := List.mem_map.mp m
    rw [reqs_rep] at a
    exact rd_by (List.mem_map.mpr ⟨z, mz, rfl⟩) a
  | 2 =>
    obtain ⟨z, mz, hm⟩ := List.mem_flatMap.mp m
    cases hb : bdG S z.2 with
    | true =>
      rw [hb, if_pos rfl] at hm
      rw [List.mem_singleton.mp hm, reqs_rep] at a
      exact rd_by (List.mem_flatMap.mpr ⟨z, mz, List.mem_append_right _ (by rw [hb, if_pos rfl]; exact List.mem_singleton.mpr rfl)⟩) a
    | false =>
      rw [hb, if_neg Bool.false_ne_true] at hm
      obtain ⟨j, mj, rfl⟩ := List.mem_map.mp hm
      obtain ⟨mj, hk⟩ := List.mem_filter.mp mj
      have lj := List.mem_range.mp mj
      have sp : z.2 = z.2.take j ++ z.2[j] :: z.2.drop (j + 1) := by rw [List.getElem_cons_drop, List.take_append_drop]
      rw [List.getD_eq_getElem?_getD, List.getElem?_eq_getElem lj] at hk
      obtain ⟨m0, hm0⟩ := Option.isSome_iff_exists.mp (show (kdOf z.2[j]).isSome = true from hk)
      have e := reqs_old (pre := z.2.take j) (post := z.2.drop (j + 1)) hm0
      rw [← sp, show (z.2.take j).length = j by rw [List.length_take]; omega] at e
      rw [e] at a
      have e3 : kdsOf z.2 = kdsOf (z.2.take j) ++ m0 :: kdsOf (z.2.drop (j + 1)) := by
        conv => lhs; rw [sp]
        rw [kds_app, kds_cons hm0]
      refine rd_by (List.mem_flatMap.mpr ⟨z, mz, List.mem_append_left _ (List.mem_map.mpr ⟨(kdsOf (z.2.take j)).length, List.mem_range.mpr (by rw [e3, List.length_append, List.length_cons]; omega), rfl⟩)⟩) ?_
      have ed : (kdsOf z.2).getD (kdsOf (z.2.take j)).length "a" = m0 := by
        rw [List.getD_eq_getElem?_getD, e3, List.getElem?_append_right (Nat.le_refl _), Nat.sub_self]; rfl
      rw [ed]
      exact a
  | _ + 3 => cases m
theorem wayLP (k : Nat) (x : Nat × Str) : Rd (wayL ks S) k x = Rd (wayP ks S) k x := Bool.eq_iff_iff.mpr ⟨wayL_P, wayP_L⟩
theorem kds_nm (hO : BookOk rows ks) {n : Str} {z : Nat × Gr} (mz : z ∈ lvg ks n) {m : Str} (h : ∃ it ∈ z.2, kdOf it = some m) : m ∈ nmsOf ks := by
  obtain ⟨it, mi, e⟩ := h
  cases (lvg_ok hO (i := z.1) (g := z.2) mz).nv it mi with
  | row n t u h => cases e
  | kind n a t u h => cases e; exact h
theorem wayP_cl (hO : BookOk rows ks) {x : Nat × Str} {o : List (Nat × Str)} (m : o ∈ wayP ks S x) : ∀ y ∈ o, y.2 ∈ nmsOf ks ∧ (x.1 = 1 → y.1 = 1) ∧ (x.1 = 0 → y.1 = 0) ∧ (x.1 = 2 → y.1 = 0 ∨ y.1 = 2) := by
  obtain ⟨s, n⟩ := x
  intro y my
  match s with
  | 0 =>
    obtain ⟨z, mz, rfl⟩ := List.mem_map.mp m
    obtain ⟨h1, h2⟩ := reqs_sort my
    exact ⟨kds_nm hO mz h2, (fun h => nomatch h), fun _ => (List.mem_replicate.mp h1).2, fun h => nomatch h⟩
  | 1 =>
    obtain ⟨z, mz, rfl⟩ := List.mem_map.mp m
    obtain ⟨h1, h2⟩ := reqs_sort my
    exact ⟨kds_nm hO (List.mem_filter.mp mz).1 h2, fun _ => (List.mem_replicate.mp h1).2, (fun h => nomatch h), fun h => nomatch h⟩
  | 2 =>
    obtain ⟨z, mz, hm⟩ := List.mem_flatMap.mp m
    split at hm
    · rw [List.mem_singleton.mp hm] at my
      obtain ⟨h1, h2⟩ := reqs_sort my
      exact ⟨kds_nm hO mz h2, (fun h => nomatch h), (fun h => nomatch h), fun _ => .inl (List.mem_replicate.mp h1).2⟩
    · obtain ⟨j, mj, rfl⟩ := List.mem_map.mp hm
      obtain ⟨h1, h2⟩ := reqs_sort my
      refine ⟨kds_nm hO mz h2, (fun h => nomatch h), (fun h => nomatch h), fun _ => ?_⟩
      unfold jss at h1
      obtain ⟨p, _, e⟩ := List.mem_map.mp h1
      rw [← e]
      split
      · exact .inr rfl
      · exact .inl rfl
  | _ + 3 => cases m
theorem nd_sort {s : Nat} {ns : List Str} (nd : ns.Nodup) : (ns.map fun n => (s, n)).Nodup := List.pairwise_map.mpr (nd.imp fun h z => h (Prod.mk.inj z).2)
theorem sat1 (hO : BookOk rows ks) {k : Nat} {n : Str} (mn : n ∈ nmsOf ks) (h : Rd (wayP ks S) k (1, n) = true) : Rd (wayP ks S) ks.length (1, n) = true := by
  have := rd_sat (O := wayP ks S) (N := (nmsOf ks).map fun n => (1, n)) (nd_sort hO.nm.nd) (fun x mx o mo y my => by
    obtain ⟨q, _, rfl⟩ := List.mem_map.mp mx
    obtain ⟨h1, h2, _⟩ := wayP_cl hO mo y my
    exact List.mem_map.mpr ⟨y.2, h1, by rw [← h2 rfl]⟩) (List.mem_map_of_mem mn) h
  rwa [List.length_map, List.length_map] at this
theorem sat2 (hO : BookOk rows ks) {k : Nat} {n : Str} (mn : n ∈ nmsOf ks) (h : Rd (wayP ks S) k (2, n) = true) : Rd (wayP ks S) (2 * ks.length) (2, n) = true := by
  have := rd_sat (O := wayP ks S) (N := ((nmsOf ks).map fun n => (0, n)) ++ (nmsOf ks).map fun n => (2, n)) (by
      rw [List.nodup_append]
      refine ⟨nd_sort hO.nm.nd, nd_sort hO.nm.nd, fun a ma b mb e => ?_⟩
      obtain ⟨_, _, rfl⟩ := List.mem_map.mp ma
      obtain ⟨_, _, rfl⟩ := List.mem_map.mp mb
      cases (Prod.mk.inj e).1) (fun x mx o mo y my => by
    obtain ⟨h1, h2, h3, h4⟩ := wayP_cl hO mo y my
    have put : y.1 = 0 ∨ y.1 = 2 := by
      rcases List.mem_append.mp mx with w | w
      · obtain ⟨q, _, rfl⟩ := List.mem_map.mp w
        exact .inl (h3 rfl)
      · obtain ⟨q, _, rfl⟩ := List.mem_map.mp w
        exact h4 rfl
    rcases put with e | e
    · exact List.mem_append_left _ (List.mem_map.mpr ⟨y.2, h1, by rw [← e]⟩)
    · exact List.mem_append_right _ (List.mem_map.mpr ⟨y.2, h1, by rw [← e]⟩)) (List.mem_append_right _ (List.mem_map_of_mem mn)) h
  have l : (((nmsOf ks).map fun n => ((0 : Nat), n)) ++ (nmsOf ks).map fun n => ((2 : Nat), n)).length = 2 * ks.length := by
    simp only [List.length_append, List.length_map]; omega
  rwa [l] at this
/-- the law's things -/
def ndsL (ks : List Kd) : List (Nat × Str) := [0, 1, 2].flatMap fun s => (nmsOf ks).map fun n => (s, n)
theorem ndsL_mem {ks : List Kd} {x : Nat × Str} : x ∈ ndsL ks ↔ x.1 < 3 ∧ x.2 ∈ nmsOf ks := by
  unfold ndsL
  rw [List.mem_flatMap]
  refine ⟨fun ⟨s, ms, h⟩ => ?_, fun ⟨h1, h2⟩ => ⟨x.1, ?_, List.mem_map.mpr ⟨x.2, h2, rfl⟩⟩⟩
  · obtain ⟨n, mn, rfl⟩ := List.mem_map.mp h
    simp only [List.mem_cons, List.mem_nil_iff, or_false] at ms
    exact ⟨by show s < 3; omega, mn⟩
  · simp only [List.mem_cons, List.mem_nil_iff, or_false]
    omega
theorem ndsL_len : (ndsL ks).length = 3 * ks.length := by
  unfold ndsL
  simp only [List.flatMap_cons, List.flatMap_nil, List.length_append, List.length_map, List.length_nil]
  omega
theorem ndsL_nd (hO : BookOk rows ks) : (ndsL ks).Nodup := by
  have ne : ∀ {s s' : Nat}, s ≠ s' → ∀ a ∈ (nmsOf ks).map (fun n => (s, n)), ∀ b ∈ (nmsOf ks).map (fun n => (s', n)), a ≠ b := fun h a ma b mb e => by
    obtain ⟨_, _, rfl⟩ := List.mem_map.mp ma
    obtain ⟨_, _, rfl⟩ := List.mem_map.mp mb
    exact h (Prod.mk.inj e).1
  unfold ndsL
  simp only [List.flatMap_cons, List.flatMap_nil, List.append_nil]
  rw [List.nodup_append, List.nodup_append]
  refine ⟨nd_sort hO.nm.nd, ⟨nd_sort hO.nm.nd, nd_sort hO.nm.nd, ne (by decide)⟩, fun a ma b mb => ?_⟩
  rcases List.mem_append.mp mb with w | w
  · exact ne (by decide) a ma b w
  · exact ne (by decide) a ma b w
theorem wayL_cl (hO : BookOk rows ks) : ∀ x ∈ ndsL ks, ∀ o ∈ wayL ks S x, ∀ y ∈ o, y ∈ ndsL ks := by
  intro x mx o mo y my
  obtain ⟨s, n⟩ := x
  have km : ∀ {z : Nat × Gr} {m : Str}, z ∈ lvg ks n → m ∈ kdsOf z.2 → m ∈ nmsOf ks := fun mz mm => by
    obtain ⟨it, mi, e⟩ := List.mem_filterMap.mp mm
    exact kds_nm hO mz ⟨it, mi, e⟩
  match s with
  | 0 =>
    obtain ⟨z, mz, rfl⟩ := List.mem_map.mp mo
    obtain ⟨m, mm, rfl⟩ := List.mem_map.mp my
    exact ndsL_mem.mpr ⟨(by decide : 0 < 3), km mz mm⟩
  | 1 =>
    obtain ⟨z, mz, rfl⟩ := List.mem_map.mp mo
    obtain ⟨m, mm, rfl⟩ := List.mem_map.mp my
    exact ndsL_mem.mpr ⟨(by decide : 1 < 3), km (List.mem_filter.mp mz).1 mm⟩
  | 2 =>
    obtain ⟨z, mz, hm⟩ := List.mem_flatMap.mp mo
    rcases List.mem_append.mp hm with w | w
    · obtain ⟨j, mj, rfl⟩ := List.mem_map.mp w
      have lj := List.mem_range.mp mj
      unfold oldW zs at my
      rcases List.mem_append.mp my with w | w
      · obtain ⟨m, mm, rfl⟩ := List.mem_map.mp w
        exact ndsL_mem.mpr ⟨(by decide : 0 < 3), km mz (List.mem_of_mem_take mm)⟩
      · rcases List.mem_cons.mp w with w | w
        · rw [w]
          refine ndsL_mem.mpr ⟨(by decide : 2 < 3), km mz ?_⟩
          rw [List.getD_eq_getElem?_getD, List.getElem?_eq_getElem lj]
          exact List.getElem_mem lj
        · obtain ⟨m, mm, rfl⟩ := List.mem_map.mp w
          exact ndsL_mem.mpr ⟨(by decide : 0 < 3), km mz (List.mem_of_mem_drop mm)⟩
    · split at w
      · rw [List.mem_singleton.mp w] at my
        obtain ⟨m, mm, rfl⟩ := List.mem_map.mp my
        exact ndsL_mem.mpr ⟨(by decide : 0 < 3), km mz mm⟩
      · cases w
  | _ + 3 => cases mo
/-- a tree that is told, and its number -/
structure ToldT (ks : List Kd) (S : List Str) (s : Nat) (F : Nat × Str → Int) (n : Str) (o : Option Tr) : Prop where
  none : o = none → F (s, n) = 99
  some : ∀ t, o = some t → WT (lvg ks) n t ∧ okS ks S s t ∧ F (s, n) = (t.lv : Int) ∧ t.lv ≤ 15
theorem told_at (hO : BookOk rows ks) {F : Nat × Str → Int} (hF : LeastN (wayL ks S) (ndsL ks) F) {n : Str} (mn : n ∈ nmsOf ks) {k s : Nat} (s3 : s < 3) {T : Tb} (hT : InvT (lvg ks) (wayP ks S) s (okS ks S s) k T) (sat : ∀ j, Rd (wayP ks S) j (s, n) = true → Rd (wayP ks S) k (s, n) = true) : ToldT ks S s F n (tget T n) := by
  have mx : (s, n) ∈ ndsL ks := ndsL_mem.mpr ⟨s3, mn⟩
  refine ⟨fun e => ?_, fun t e => ?_⟩
  · refine hF.none _ mx fun j => ?_
    rw [wayLP]
    have h1 := hT.off.mp e
    refine Bool.eq_false_iff.mpr fun c => ?_
    rw [sat j c] at h1
    cases h1
  · obtain ⟨h1, h2, h3, h4, h5⟩ := hT.get e
    obtain ⟨g1, g2, g3⟩ := hF.some _ mx t.lv (by rw [wayLP]; exact h4)
    have g4 := h5 _ (by rw [← wayLP]; exact g3)
    have g5 := hF.ge (s, n)
    rw [ndsL_len] at g2
    have := hO.k5
    exact ⟨h1, h2, by omega, by omega⟩
end
end KaG
set_option maxRecDepth 100000
set_option maxHeartbeats 2000000
namespace KaG
open PySem PySem.Spec PyProof.Rows L2 KaC KaN LamX NdefX KaU
def wayG (S : List Str) (g : Gr) : Nat → List (List (Nat × Str))
  | 0 => [zs (kdsOf g)]
  | 1 => if bdG S g = true then [] else [(kdsOf g).map fun m => (1, m)]
  | 2 => ((List.range (kdsOf g).length).map fun j => oldW (kdsOf g) j ((kdsOf g).getD j "a")) ++ if bdG S g = true then [zs (kdsOf g)] else []
  | _ => []
theorem wayL_mem {ks : List Kd} {S : List Str} {s : Nat} {n : Str} {o : List (Nat × Str)} : o ∈ wayL ks S (s, n) ↔ s < 3 ∧ ∃ z ∈ lvg ks n, o ∈ wayG S z.2 s := by
  match s with
  | 0 =>
    rw [wayL, List.mem_map]
    refine ⟨fun ⟨z, mz, e⟩ => ⟨by decide, z, mz, by rw [wayG, ← e]; exact List.mem_singleton.mpr rfl⟩, fun ⟨_, z, mz, h⟩ => ⟨z, mz, ?_⟩⟩
    rw [wayG] at h
    exact (List.mem_singleton.mp h).symm
  | 1 =>
    rw [wayL, List.mem_map]
    refine ⟨fun ⟨z, mz, e⟩ => ?_, fun ⟨_, z, mz, h⟩ => ?_⟩
    · rw [List.mem_filter] at mz
      refine ⟨by decide, z, mz.1, ?_⟩
      have hb : bdG S z.2 = false := by simpa using mz.2
      rw [wayG, hb, if_neg Bool.false_ne_true, ← e]
      exact List.mem_singleton.mpr rfl
    · rw [wayG] at h
      cases hb : bdG S z.2 with
      | true => rw [hb, if_pos rfl] at h; cases h
      | false =>
        rw [hb, if_neg Bool.false_ne_true] at h
        exact ⟨z, List.mem_filter.mpr ⟨mz, by rw [hb]; rfl⟩, (List.mem_singleton.mp h).symm⟩
  | 2 =>
    rw [wayL, List.mem_flatMap]
    exact ⟨fun ⟨z, mz, h⟩ => ⟨by decide, z, mz, h⟩, fun ⟨_, z, mz, h⟩ => ⟨z, mz, h⟩⟩
  | s + 3 =>
    have e : wayL ks S (s + 3, n) = [] := by unfold wayL; rfl
    rw [e]
    refine ⟨fun h => ?_, fun h => ?_⟩
    · cases h
    · have := h.1
      omega
/-- one ground of the kind n is looked at -/
structure GStep (S : List Str) (g : Gr) (n : Str) (F F' : Nat × Str → Int) : Prop where
  other : ∀ x, x.2 ≠ n ∨ 3 ≤ x.1 → F' x = F x
  mem : ∀ s, s < 3 → F' (s, n) ∈ F (s, n) :: (wayG S g s).map fun o => 1 + mxI (o.map F)
  low : ∀ s, s < 3 → ∀ v ∈ F (s, n) :: (wayG S g s).map (fun o => 1 + mxI (o.map F)), F' (s, n) ≤ v
section
variable {ks : List Kd} {S : List Str} {g : Gr} {n : Str} {F F' : Nat × Str → Int}
theorem GStep.le (h : GStep S g n F F') (x : Nat × Str) : F' x ≤ F x := by
  obtain ⟨s, m⟩ := x
  by_cases c : m ≠ n ∨ 3 ≤ s
  · rw [h.other (s, m) c]; exact Int.le_refl _
  · have e : m = n := Classical.byContradiction fun q => c (.inl q)
    subst e
    exact h.low s (by omega) _ List.mem_cons_self
theorem GStep.done (h : GStep S g n F F') {s : Nat} (hs : s < 3) {o : List (Nat × Str)} (m : o ∈ wayG S g s) : F' (s, n) ≤ 1 + mxI (o.map F) := h.low s hs _ (List.mem_cons_of_mem _ (List.mem_map.mpr ⟨o, m, rfl⟩))
theorem GStep.sound {i : Nat} (h : GStep S g n F F') (m : (i, g) ∈ lvg ks n) (hS : SoundN (wayL ks S) F) : SoundN (wayL ks S) F' := by
  refine hS.step fun x => ?_
  obtain ⟨s, m'⟩ := x
  by_cases c : m' ≠ n ∨ 3 ≤ s
  · exact .inl (h.other (s, m') c)
  · have e : m' = n := Classical.byContradiction fun q => c (.inl q)
    subst e
    have s3 : s < 3 := by omega
    rcases List.mem_cons.mp (h.mem s s3) with e | e
    · exact .inl e
    · obtain ⟨o, mo, eo⟩ := List.mem_map.mp e
      have l := h.le (s, m')
      rcases Int.lt_or_eq_of_le l with l | l
      · exact .inr ⟨l, o, wayL_mem.mpr ⟨s3, (i, g), m, mo⟩, eo.symm⟩
      · exact .inl l
/-- within a turn: F0 the numbers at its start; the kinds done, the kind under way, its grounds done -/
structure TurnI (ks : List Kd) (S : List Str) (F0 F : Nat × Str → Int) (ns : List Str) (c : Str) (zs : List (Nat × Gr)) : Prop where
  sound : SoundN (wayL ks S) F
  le : ∀ x, F x ≤ F0 x
  done : ∀ n ∈ ns, ∀ z ∈ lvg ks n, ∀ s, s < 3 → ∀ o ∈ wayG S z.2 s, F (s, n) ≤ 1 + mxI (o.map F0)
  cur : ∀ z ∈ zs, ∀ s, s < 3 → ∀ o ∈ wayG S z.2 s, F (s, c) ≤ 1 + mxI (o.map F0)
variable {F0 : Nat × Str → Int} {ns : List Str} {c : Str} {zz : List (Nat × Gr)}
theorem TurnI.start (h : SoundN (wayL ks S) F) : TurnI ks S F F [] c [] := ⟨h, fun _ => Int.le_refl _, fun _ m => by (cases m), fun _ m => by (cases m)⟩
theorem TurnI.step {i : Nat} (h : TurnI ks S F0 F ns c zz) (m : (i, g) ∈ lvg ks c) (q : GStep S g c F F') : TurnI ks S F0 F' ns c (zz ++ [(i, g)]) := by
  refine ⟨q.sound m h.sound, fun x => Int.le_trans (q.le x) (h.le x), fun n mn z mz s hs o mo => Int.le_trans (q.le _) (h.done n mn z mz s hs o mo), fun z mz s hs o mo => ?_⟩
  rcases List.mem_append.mp mz with mz | mz
  · exact Int.le_trans (q.le _) (h.cur z mz s hs o mo)
  · rw [List.mem_singleton.mp mz] at mo
    have h1 := q.done hs mo
    have h2 : mxI (o.map F) ≤ mxI (o.map F0) := mxI_mono fun x _ => h.le x
    omega
theorem TurnI.next {c' : Str} (h : TurnI ks S F0 F ns c (lvg ks c)) : TurnI ks S F0 F (ns ++ [c]) c' [] := by
  refine ⟨h.sound, h.le, fun n mn z mz s hs o mo => ?_, fun _ m => by cases m⟩
  rcases List.mem_append.mp mn with mn | mn
  · exact h.done n mn z mz s hs o mo
  · rw [List.mem_singleton.mp mn] at mz ⊢
    exact h.cur z mz s hs o mo
theorem TurnI.to {c' : Str} (h : TurnI ks S F0 F ns c []) : TurnI ks S F0 F ns c' [] := ⟨h.sound, h.le, h.done, fun _ m => by cases m⟩
theorem TurnI.fin {rows : List Str} (hO : BookOk rows ks) {t : Nat} (h : TurnI ks S F0 F (nmsOf ks) c []) (d : DoneN (wayL ks S) (ndsL ks) t F0) : DoneN (wayL ks S) (ndsL ks) (t + 1) F := by
  refine d.step (fun x mx o mo y my => wayL_cl hO x mx o mo y my) h.le fun x mx o mo => ?_
  obtain ⟨s, n⟩ := x
  obtain ⟨hs, z, mz, mo⟩ := wayL_mem.mp mo
  exact h.done n (ndsL_mem.mp mx).2 z mz s hs o mo
end
theorem mxI_one {l : List Int} {m : Int} (hm : m ∈ (0 : Int) :: l) (hle : ∀ y ∈ (0 : Int) :: l, y ≤ m) : m = mxI l := by
  have h1 : m ≤ mxI l := by
    rcases List.mem_cons.mp hm with e | hm
    · rw [e]; exact mxI_ge0 l
    · exact mxI_ge hm
  have h2 : mxI l ≤ m := mxI_le (hle 0 List.mem_cons_self) fun x mx => hle x (List.mem_cons_of_mem _ mx)
  omega
theorem mxI_pos {l : List Int} {m : Int} (hp : ∀ x ∈ l, 1 ≤ x) (hm : m ∈ l) (hle : ∀ y ∈ l, y ≤ m) : m = mxI l := by
  have h1 := mxI_ge hm
  have h0 := hp m hm
  have h2 : mxI l ≤ m := mxI_le (by omega) hle
  omega
end KaG
set_option maxRecDepth 100000
set_option maxHeartbeats 4000000
set_option maxRecDepth 100000
set_option maxHeartbeats 2000000
set_option maxRecDepth 100000
set_option maxHeartbeats 4000000
namespace KaG
open PySem PySem.Spec PyProof.Rows L2 KaC KaN LamX NdefX KaU
/-- values that stand in a dict that is asked for -/
inductive Vl (H : Hp) : V → Prop
  | non : Vl H .non
  | bl (b : Bool) : Vl H (.bl b)
  | int (i : Int) : Vl H (.int i)
  | str (x : Str) : Vl H (.str x)
  | lst {a : Addr} {xs : List V} (e : H a = some (.lst xs)) : Vl H (.ref a)
  | tup {a : Addr} {xs : List V} (e : H a = some (.tup xs)) : Vl H (.ref a)
def isI1 : V → Bool
  | .int _ => true
  | .bl _ => true
  | _ => false
def isB1 : V → Bool
  | .bl _ => true
  | _ => false
def isS1 : V → Bool
  | .str _ => true
  | _ => false
def isI : V → Bool
  | .int _ => true
  | _ => false
theorem Vl.ty {K : PySem.W.Frag} {H : Hp} {v : V} (h : Vl H v) : ∃ t, TyX K H v t ∧ PySem.W.kitOne K t (.type "int") = some (isI1 v) ∧ PySem.W.kitOne K t (.type "bool") = some (isB1 v) ∧ PySem.W.kitOne K t (.type "str") = some (isS1 v) ∧ PySem.W.kitOne K t (.type "dict") = some false := by
  cases h with
  | non => exact ⟨_, .base .non, rfl, rfl, rfl, rfl⟩
  | bl b => exact ⟨_, .base (.bl b), rfl, rfl, rfl, rfl⟩
  | int i => exact ⟨_, .base (.int i), rfl, rfl, rfl, rfl⟩
  | str x => exact ⟨_, .base (.str x), rfl, rfl, rfl, rfl⟩
  | lst e => exact ⟨_, .base (.lst e), rfl, rfl, rfl, rfl⟩
  | tup e => exact ⟨_, .base (.tup e), rfl, rfl, rfl, rfl⟩
section
variable {P : Program} {w : World} {K : PySem.W.Frag} {mg : Str → Option Value} {base : Heap}
abbrev sIsInt : Stmt := top 1
theorem scIsInt : FnScope ["thing"] ["thing"] (defScope sIsInt) := ⟨rfl, rfl, rfl, by decide +kernel, rfl, by decide +kernel, by decide +kernel⟩
def spIsInt : Sp := fun vs H Q _ => ∃ v, vs = [v] ∧ Vl H v ∧ Q (.bl (isI v)) H
theorem ok_isInt {f : Addr} {fd : FuncData} (F : Fun K "is_integer" "is_integer" sIsInt f fd) (T : TxtB mg) (hbool : mg "bool" = none) : FnOk P w K mg base CX0 1 f fd ["thing"] spIsInt := by
  refine F.ok scIsInt (fun vs H Q E h => ?_) (fun cdv A outer s H vs Q E hr h => ?_)
  · obtain ⟨v, rfl, _⟩ := h
    rfl
  · obtain ⟨v, rfl, hv, q⟩ := h
    refine ⟨_, (pss_one (ps_ret (pe_and (pe_callB call_isi (by rfl) T.isin (by decide +kernel) (pa_cons (pv 0) (pa_cons (pe_bltn (v := .ty "int") (by rfl) T.int (by decide +kernel) rfl) pa_nil)))
      (pe_one (pe_not (pe_callB call_isi (by rfl) T.isin (by decide +kernel) (pa_cons (pv 0) (pa_cons (pe_bltn (v := .ty "bool") (by rfl) hbool (by decide +kernel) rfl) pa_nil)))))))), ?_⟩
    obtain ⟨t, ty, h1, h2, h3, h4⟩ := hv.ty (K := K)
    refine ⟨_, rfl, v, .ty "int", t, _, isI1 v, rfl, .ty "int", ty, h1, _, rfl, ?_⟩
    cases hv with
    | bl b => exact ⟨_, rfl, .bl b, .ty "bool", t, _, true, rfl, .ty "bool", ty, h2, _, rfl, q⟩
    | int i => exact ⟨_, rfl, .int i, .ty "bool", t, _, false, rfl, .ty "bool", ty, h2, _, rfl, q⟩
    | non => exact q
    | str x => exact q
    | lst e => exact q
    | tup e => exact q
end
end KaG
set_option maxRecDepth 100000
set_option maxHeartbeats 2000000
set_option maxRecDepth 100000
set_option maxHeartbeats 2000000
namespace KaG
open PySem PySem.Spec PyProof.Rows L2
/-- a dict at a with the entries es -/
def DxO (a : Addr) (es : List (V × V)) : HO := .ext fun h => (a == sysModules) = false ∧ es.length ≤ sizeLine ∧ ∃ o ds ep, h.get? a = some o ∧ o.ExactDict ∧ o.data = .dict ds ep ∧ Paired (fun (p : V × V) (e : DictEntry) => RelV p.1 e.key ∧ RelV p.2 e.val) es ds.toList
section
variable {X : Cx}
/-- len(d) -/
def DEnt (H : Hp) (a : Addr) (es : List (V × V)) : Prop := (∃ kvs, H a = some (.dK kvs) ∧ es = kvs.map fun p => (kV p.1, p.2)) ∨ H a = some (DxO a es)
end
inductive ShP (H : Hp) (CW : Addr) (NW : Str) : List Addr → Nat → List (V × V) → List Str → Prop
  | nil {as d} : ShP H CW NW as d [] []
  | cons {as d k x v t es ps} (hk : Sh H CW NW as d k x) (h : Sh H CW NW as d v t) (r : ShP H CW NW as d es ps) : ShP H CW NW as d ((k, v) :: es) ((x ++ ": " ++ t) :: ps)
theorem ShP.run {P : Program} {w : World} {K : PySem.W.Frag} {H : Hp} {h : Heap} {CW : Addr} {NW : Str} (T : WrK K CW NW) (X : K.In h) (hok : HOk P w H h) {as : List Addr} {d : Nat} : ∀ {es : List (V × V)} {ps : List Str}, ShP H CW NW as d es ps → ∀ {ds : List DictEntry}, Paired (fun (p : V × V) (e : DictEntry) => RelV p.1 e.key ∧ RelV p.2 e.val) es ds → ReprEntriesK P w as h d ds ps
  | _, _, .nil, _, .nil => .nil
  | _, _, .cons hk hv r, _, .cons h t => .cons (Sh.run T X hok hk _ h.1) (Sh.run T X hok hv _ h.2) (ShP.run T X hok r t)
def rReprD (CW : Addr) (NW : Str) : List V → Hp → VK → Prop := fun xs H Q => ∃ a es as d ps, xs = [V.ref a] ∧ DEnt H a es ∧ a ∉ as ∧ ShP H CW NW as d es ps ∧ d ≤ 20 ∧ (dictText ps).length ≤ sizeLine ∧ Q (.str (dictText ps)) H
end KaG
set_option maxRecDepth 100000
set_option maxHeartbeats 4000000
namespace KaG
open PySem PySem.Spec PyProof.Rows L2 KaC KaN LamX NdefX KaU
theorem Vl.ex {T : List NTab} {H H' : Hp} (x : Ex T H H') {v : V} (h : Vl H v) : Vl H' v := by
  cases h with
  | non => exact .non
  | bl b => exact .bl b
  | int i => exact .int i
  | str x => exact .str x
  | lst e => exact .lst (x.lst e)
  | tup e => exact .tup (x.ts _ _ e)
theorem DEnt.ex {T : List NTab} {H H' : Hp} (x : Ex T H H') {a : Addr} {es : List (V × V)} (h : DEnt H a es) : DEnt H' a es := by
  rcases h with ⟨kvs, e, r⟩ | e
  · exact .inl ⟨kvs, x.dk e, r⟩
  · exact .inr (x.ext _ _ e fun _ z => by unfold DxO at z; cases z)
end KaG
set_option maxRecDepth 100000
set_option maxHeartbeats 4000000
set_option maxRecDepth 100000
set_option maxHeartbeats 4000000
set_option maxHeartbeats 1000000
namespace KaU
section
variable {α : Type} [DecidableEq α]
theorem filter_le {p q : α → Bool} (h : ∀ x, p x = true → q x = true) : ∀ l : List α, (l.filter p).length ≤ (l.filter q).length
  | [] => Nat.le_refl _
  | x :: r => by
    have ih := filter_le h r
    rw [List.filter_cons, List.filter_cons]
    split
    · rename_i c
      rw [if_pos (h x c)]
      exact Nat.succ_le_succ ih
    · split
      · exact Nat.le_succ_of_le ih
      · exact ih
variable {ns : List α} {C : α → List (List (Nq α))} {b a c : Int} {A : α → Bool} {y : α → Int}
end
end KaU
set_option maxRecDepth 100000
set_option maxHeartbeats 4000000
set_option maxRecDepth 100000
set_option maxHeartbeats 4000000
set_option maxRecDepth 100000
set_option maxHeartbeats 4000000
namespace KaG
open PySem PySem.Spec PyProof.Rows L2 KaC KaN LamX NdefX KaU
theorem paired_all {α β : Type} {R : α → β → Prop} {S : α → Prop} (h : ∀ a b, R a b → S a) : ∀ {xs : List α} {ys : List β}, Paired R xs ys → ∀ x ∈ xs, S x
  | _, _, .nil => fun _ m => nomatch m
  | _, _, .cons a r => fun x m => by
    rcases List.mem_cons.mp m with z | z
    · rw [z]; exact h _ _ a
    · exact paired_all h r x z
theorem LvL.wr {H : Hp} {p D : Addr} {ks : List Kd} {n : Str} {is : List Nat} {xs ys : List V} (h : LvL H p ks n is) (ne : p ≠ D) (e : H D = some (.lst xs)) : LvL (upd H D (.lst ys)) p ks n is := by
  obtain ⟨qs, e1, pr⟩ := h
  have t := ts_lst (ys := ys) e
  exact ⟨qs, by rw [upd_ne ne]; exact e1, Paired.mono' (fun _ _ ⟨ga, h1, h2⟩ => ⟨ga, t _ _ h1, Grd.ts h2 t⟩) pr⟩
theorem Wkv.put {kv : List (Key × V)} {kd na sa ca b wd ld : Addr} {v : V} (h : Wkv kv kd na sa ca b wd ld) : Wkv (putK kv (Sum.inr "able") v) kd na sa ca b wd ld := by
  refine ⟨?_, ?_, ?_, ?_, ?_, ?_, ?_⟩
  all_goals rw [valV_put, if_neg (by decide +kernel)]
  · exact h.kinds
  · exact h.names
  · exact h.struck
  · exact h.clean
  · exact h.book
  · exact h.ways
  · exact h.live
end KaG
set_option maxRecDepth 100000
set_option maxHeartbeats 4000000
set_option maxRecDepth 100000
set_option maxHeartbeats 4000000
namespace KaG
open PySem PySem.Spec PyProof.Rows L2 KaC KaN LamX NdefX KaU
def BagC (xs : List V) : Prop := ∃ (c st i : Int) (b : Addr), xs = [.int c, .int st, .int i, .ref b]
/-- what the lists of a world hold -/
def IsWdL (H : Hp) (xs : List V) : Prop := (∃ ns : List Str, xs = ns.map V.str) ∨ (∃ ns : List Nat, xs = ixV ns) ∨ ∃ qs : List Addr, xs = qs.map V.ref ∧ ∀ q ∈ qs, ∃ t, H q = some (.tup t)
structure Bg (T : List NTab) (bg : Addr) (H J : Hp) : Prop where
  k : ∀ b o, b ≠ bg → (∀ ps, o ≠ .tbl ps) → H b = some o → J b = some o
  bag : Bag J bg
  tab : TabsN T J
  non : ∀ b, J b = none → H b = none
  inn : ∀ b, Inn H bg b → Inn J bg b
theorem Bg.refl {T : List NTab} {bg : Addr} {H : Hp} (b : Bag H bg) (t : TabsN T H) : Bg T bg H H := ⟨fun _ _ _ _ e => e, b, t, fun _ e => e, fun _ e => e⟩
theorem Bg.tr {T : List NTab} {bg : Addr} {H J G : Hp} (a : Bg T bg H J) (b : Bg T bg J G) : Bg T bg H G := ⟨fun c o n m e => b.k c o n m (a.k c o n m e), b.bag, b.tab, fun c e => a.non c (b.non c e), fun c e => b.inn c (a.inn c e)⟩
theorem Bg.ex {T : List NTab} {bg : Addr} {H J : Hp} (b : Bag H bg) (x : Ex T H J) : Bg T bg H J := by
  obtain ⟨c, st, i, a, ns, h1, h2, h3⟩ := b
  exact ⟨fun d o _ m e => x.ext d o e m, ⟨c, st, i, a, ns, x.lst h1, x.lst h2, h3⟩, x.tab, x.non, fun d ⟨c, s, j, e⟩ => ⟨c, s, j, x.lst e⟩⟩
theorem Bg.ext {T : List NTab} {bg : Addr} {H J : Hp} (b : Bag H bg) (t : TabsN T H) (x : KaG.Ext bg H J) : Bg T bg H J := by
  refine ⟨fun d o n _ e => x.keep d o n e, x.bag, fun q hq => ?_, fun d e => newAt x e, x.inn⟩
  obtain ⟨c, st, i, a, ns, h1, _⟩ := b
  obtain ⟨ps, e1, e2, e3⟩ := t q hq
  refine ⟨ps, x.keep _ _ (fun z => by rw [z, h1] at e1; cases e1) e1, e2, fun pos cv hc => ?_⟩
  obtain ⟨c0, g1, g2⟩ := e3 pos cv hc
  exact ⟨c0, g1, x.keep _ _ (fun z => by rw [z, h1] at g2; injection g2 with g2; unfold CodeO at g2; cases g2) g2⟩
theorem Bg.ts {T : List NTab} {bg : Addr} {H J : Hp} (a : Bg T bg H J) (b : Bag H bg) : TSame H J := fun d xs e => by
  obtain ⟨c, st, i, a0, ns, h1, _⟩ := b
  exact a.k d _ (fun z => by rw [z, h1] at e; cases e) (fun _ z => nomatch z) e
theorem Bg.dk {T : List NTab} {bg : Addr} {H J : Hp} (a : Bg T bg H J) (b : Bag H bg) {d : Addr} {xs : List (Key × V)} (e : H d = some (.dK xs)) : J d = some (.dK xs) := by
  obtain ⟨c, st, i, a0, ns, h1, _⟩ := b
  exact a.k d _ (fun z => by rw [z, h1] at e; cases e) (fun _ z => nomatch z) e
theorem Bg.lst {T : List NTab} {bg : Addr} {H J : Hp} (a : Bg T bg H J) (b : Bag H bg) {d : Addr} {xs : List V} (e : H d = some (.lst xs)) (n : ¬ BagC xs) : J d = some (.lst xs) := by
  obtain ⟨c, st, i, a0, ns, h1, _⟩ := b
  refine a.k d _ (fun z => n ?_) (fun _ z => nomatch z) e
  rw [z, h1] at e
  injection e with e
  injection e with e
  exact ⟨c, st, i, a0, e.symm⟩
theorem Bg.wr {T : List NTab} {bg p : Addr} {H J : Hp} {xs ys : List V} (a : Bg T bg H J) (b : Bag H bg) (e : J p = some (.lst xs)) (np : H p = none) : Bg T bg H (upd J p (.lst ys)) := by
  obtain ⟨c, st, i, b1, ns, h1, h2, _⟩ := id b
  have pb : bg ≠ p := fun z => by rw [z, np] at h1; cases h1
  have p1 : b1 ≠ p := fun z => by rw [z, np] at h2; cases h2
  refine ⟨fun d o n m q => by rw [upd_ne (ne_of_none q np)]; exact a.k d o n m q, ?_, fun q hq => ?_, fun d q => a.non d (upd_none q), fun d q => ?_⟩
  · obtain ⟨c', st', i', b', ns', g1, g2, g3⟩ := a.bag
    obtain ⟨c2, s2, j2, g4⟩ := a.inn b1 ⟨c, st, i, h1⟩
    have : b' = b1 := by
      rw [g1] at g4
      injection g4 with g4
      injection g4 with g4
      have := (List.cons.inj (List.cons.inj (List.cons.inj (List.cons.inj g4).2).2).2).1
      injection this
    exact ⟨c', st', i', b', ns', by rw [upd_ne pb]; exact g1, by rw [upd_ne (by rw [this]; exact p1)]; exact g2, g3⟩
  · exact tabs_wr a.tab e (fun _ z => nomatch z) (fun _ _ z => by unfold CodeO at z; cases z) q hq
  · obtain ⟨c2, s2, j2, g4⟩ := a.inn d q
    exact ⟨c2, s2, j2, by rw [upd_ne pb]; exact g4⟩
theorem LvL.keepB {H H' : Hp} {p : Addr} {ks : List Kd} {n : Str} {is : List Nat} (h : LvL H p ks n is) (hl : ∀ b xs, H b = some (.lst xs) → IsWdL H xs → H' b = some (.lst xs)) (t : TSame H H') : LvL H' p ks n is := by
  obtain ⟨qs, e, pr⟩ := h
  exact ⟨qs, hl _ _ e (.inr (.inr ⟨qs, rfl, paired_all (fun _ _ ⟨ga, e1, _⟩ => ⟨_, e1⟩) pr⟩)), Paired.mono' (fun _ _ ⟨ga, e1, e2⟩ => ⟨ga, t _ _ e1, Grd.ts e2 t⟩) pr⟩
theorem WysL.keepB {H H' : Hp} {l : Addr} {ys : List (Nat × List Nat)} (h : WysL H l ys) (hl : ∀ b xs, H b = some (.lst xs) → IsWdL H xs → H' b = some (.lst xs)) (t : TSame H H') : WysL H' l ys := by
  obtain ⟨qs, e, p⟩ := h
  exact ⟨qs, hl _ _ e (.inr (.inr ⟨qs, rfl, paired_all (fun _ _ ⟨ga, e1, _⟩ => ⟨_, e1⟩) p⟩)), Paired.mono' (fun _ _ ⟨pl, e1, e2⟩ => ⟨pl, t _ _ e1, hl _ _ e2 (.inr (.inl ⟨_, rfl⟩))⟩) p⟩
theorem WyM.keepB {H H' : Hp} {wd : Addr} {ks : List Kd} {S : List Str} (h : WyM H wd ks S) (hd : ∀ kvs, H wd = some (.dK kvs) → H' wd = some (.dK kvs)) (hl : ∀ b xs, H b = some (.lst xs) → IsWdL H xs → H' b = some (.lst xs)) (t : TSame H H') : WyM H' wd ks S := by
  obtain ⟨kvs, e, n, m, g⟩ := h
  exact ⟨kvs, hd _ e, n, m, fun x v q => by obtain ⟨l, e1, e2, e3⟩ := g x v q; exact ⟨l, e1, e2.keepB hl t, e3⟩⟩
/-- a world and what it was made from -/
structure Wr where
  wa : Addr
  wd : Addr
  b : Addr
  sa : Addr
  kv : List (Key × V)
  rows : List Str
  ks : List Kd
  S : List Str
structure WrOk (H : Hp) (r : Wr) : Prop where
  w : W1 H r.wa r.wd r.b r.sa r.kv r.rows r.ks r.S
  m : WyM H r.wd r.ks r.S
  s5 : r.S.length ≤ 5
  sn : ∀ n ∈ r.S, n ∈ nmAll
  r5 : r.rows.length ≤ 5
theorem ref_inj {a b : Addr} (h : some (V.ref a) = some (V.ref b)) : a = b := by
  injection h with h
  injection h
theorem W1.keepX {H H' : Hp} {wa wd b sa X : Addr} {kv : List (Key × V)} {rows : List Str} {ks : List Kd} {S : List Str} (h : W1 H wa wd b sa kv rows ks S) (nwa : wa ≠ X) (nk : ∀ kd, valV kv (Sum.inr "kinds") = some (.ref kd) → kd ≠ X) (nl : ∀ ld, valV kv (Sum.inr "live") = some (.ref ld) → ld ≠ X)
    (hd : ∀ b xs, b ≠ X → H b = some (.dK xs) → H' b = some (.dK xs)) (hl : ∀ b xs, H b = some (.lst xs) → IsWdL H xs → H' b = some (.lst xs)) (t : TSame H H') : W1 H' wa wd b sa kv rows ks S := by
  obtain ⟨w, aa, ab, ea⟩ := h
  obtain ⟨kd, na, ca, ld, kas, ls, hk, hD, hN, hC, hL, n1, n2⟩ := w.it
  exact ⟨⟨hd _ _ nwa w.d, w.ok, w.bk.ts t, t _ _ w.st, ⟨kd, na, ca, ld, kas, ls, hk, ⟨hd _ _ (nk _ hk.kinds) hD.d, Paired.mono' (fun _ _ q => KdAt.ts' q t) hD.l⟩, hl _ _ hN (.inl ⟨_, rfl⟩), hl _ _ hC (.inl ⟨_, rfl⟩), ⟨hd _ _ (nl _ hk.live) hL.d, Paired.mono' (fun _ _ q => q.keepB hl t) hL.l⟩, n1, n2⟩, w.ne⟩, aa, ab, hl _ _ ea (.inl ⟨_, rfl⟩)⟩
/-- a memo is no dict of a world, by what it holds -/
theorem memo_ne {H : Hp} {wa wd b sa wd2 : Addr} {kv : List (Key × V)} {rows : List Str} {ks ks2 : List Kd} {S S2 : List Str} (h : W1 H wa wd b sa kv rows ks S) (m : WyM H wd2 ks2 S2) : wa ≠ wd2 ∧ (∀ kd, valV kv (Sum.inr "kinds") = some (.ref kd) → kd ≠ wd2) ∧ ∀ ld, valV kv (Sum.inr "live") = some (.ref ld) → ld ≠ wd2 := by
  obtain ⟨kd, na, ca, ld, kas, ls, hk, hD, hN, hC, hL, n1, n2⟩ := h.w.it
  obtain ⟨kvs, ew, _, _, got⟩ := m
  have hO := h.w.ok
  obtain ⟨k0, mk0⟩ : ∃ k, k ∈ ks := ⟨ks[0]'hO.k0, List.getElem_mem _⟩
  refine ⟨fun z => ?_, fun kd' e z => ?_, fun ld' e z => ?_⟩
  · have ed := h.w.d
    rw [z, ew] at ed
    injection ed with ed
    injection ed with ed
    have e := hk.kinds
    rw [← ed] at e
    obtain ⟨l, e1, ⟨qs, e2, _⟩, _⟩ := got _ _ e
    have e1 : kd = l := by injection e1
    rw [← e1, hD.d] at e2
    cases e2
  · rw [hk.kinds] at e
    obtain rfl := ref_inj e
    have ed := hD.d
    rw [z, ew] at ed
    injection ed with ed
    injection ed with ed
    obtain ⟨ka, ev, gt, gas, y1, _⟩ := kvs_get hO.nm.nd hD.l mk0
    rw [← ed] at ev
    obtain ⟨l, e1, ⟨qs, e2, _⟩, _⟩ := got _ _ ev
    have e1 : ka = l := by injection e1
    rw [← e1, y1] at e2
    cases e2
  · rw [hk.live] at e
    obtain rfl := ref_inj e
    have ed := hL.d
    rw [z, ew] at ed
    injection ed with ed
    injection ed with ed
    obtain ⟨l0, ev, qs0, y1, p0⟩ := kvs_get hO.nm.nd hL.l mk0
    rw [← ed] at ev
    obtain ⟨l, e1, ⟨qs, e2, p2⟩, ne⟩ := got _ _ ev
    have e1 : l0 = l := by injection e1
    rw [← e1, y1] at e2
    injection e2 with e2
    injection e2 with e2
    generalize wysK ks2 S2 k0.name = ys at p2 ne
    generalize liveIx ks (bearOf ks) k0.name = lx at p0
    cases p2 with
    | nil => exact ne.1 rfl
    | cons hh tt =>
      cases p0 with
      | nil => cases e2
      | cons gg ss =>
        have e3 := (List.cons.inj e2).1
        injection e3 with e3
        obtain ⟨pl, f1, f2⟩ := hh
        obtain ⟨ga, f3, ns, f4, _⟩ := gg
        rw [← e3, f3] at f1
        injection f1 with f1
        injection f1 with f1
        have e4 := (List.cons.inj (List.cons.inj f1).2).1
        injection e4 with e4
        rw [← e4, f4] at f2
        cases f2
/-- a list that no world holds is written -/
theorem WrOk.wr {H : Hp} {r : Wr} {p : Addr} {xs ys : List V} (h : WrOk H r) (e : H p = some (.lst xs)) (n : ¬ IsWdL H xs) : WrOk (upd H p (.lst ys)) r := by
  obtain ⟨n1, n2, n3⟩ := memo_ne h.w h.m
  have dk : ∀ (b : Addr) (kv : List (Key × V)), H b = some (.dK kv) → upd H p (.lst ys) b = some (.dK kv) := fun b kv q => by
    rw [upd_ne (fun z => by rw [z, e] at q; cases q)]; exact q
  have ls : ∀ (b : Addr) (zs : List V), H b = some (.lst zs) → IsWdL H zs → upd H p (.lst ys) b = some (.lst zs) := fun b zs q w => by
    rw [upd_ne (fun z => by rw [z, e] at q; injection q with q; injection q with q; rw [q] at n; exact n w)]; exact q
  exact ⟨h.w.keepX n1 n2 n3 (fun _ _ _ q => dk _ _ q) ls (ts_lst e), h.m.keepB (fun _ q => dk _ _ q) ls (ts_lst e), h.s5, h.sn, h.r5⟩
theorem WrOk.ex {T : List NTab} {H J : Hp} {r : Wr} (h : WrOk H r) (a : Ex T H J) : WrOk J r := by
  obtain ⟨n1, n2, n3⟩ := memo_ne h.w h.m
  exact ⟨h.w.keepX n1 n2 n3 (fun _ _ _ e => a.dk e) (fun _ _ e _ => a.lst e) a.ts, h.m.keepB (fun _ e => a.dk e) (fun _ _ e _ => a.lst e) a.ts, h.s5, h.sn, h.r5⟩
end KaG
set_option maxRecDepth 100000
set_option maxHeartbeats 4000000
namespace KaG
open PySem PySem.Spec PyProof.Rows L2 KaC KaN LamX NdefX KaU
/-- lots by their addresses, few and short -/
structure LotsL (H : Hp) (D : Addr) (os : List Addr) (Ls : List Lot) : Prop where
  d : H D = some (.lst (os.map V.ref))
  l : Paired (fun o (l : Lot) => H o = some (.tup (l.map V.str))) os Ls
  b : ∀ l ∈ Ls, (∀ n ∈ l, n ∈ nmAll) ∧ l.length ≤ 5
theorem ltw_dp {K : PySem.W.Frag} {H : Hp} : ∀ {os : List Addr} {Ls : List Lot}, Paired (fun o (l : Lot) => H o = some (.tup (l.map V.str))) os Ls → (∀ l ∈ Ls, (∀ n ∈ l, n ∈ nmAll) ∧ l.length ≤ 5) → ∃ ds, DpAll K H (os.map V.ref) ds ∧ (∀ d ∈ ds, d.canLay0 = true) ∧ PyData.depthAll ds ≤ 2 ∧ ds.length = Ls.length
  | _, _, .nil, _ => ⟨[], .nil, (fun _ z => nomatch z), by simp [PyData.depthAll], rfl⟩
  | _, _, .cons (b := l) h t, hb => by
    obtain ⟨ds, h1, h2, h3, h4⟩ := ltw_dp (K := K) t fun x m => hb x (List.mem_cons_of_mem _ m)
    obtain ⟨g1, g2, g3⟩ := lot_dp (K := K) h (hb l List.mem_cons_self).1
    refine ⟨lotD l :: ds, .cons g1 h1, fun d m => ?_, ?_, by rw [List.length_cons, List.length_cons, h4]⟩
    · rcases List.mem_cons.mp m with z | z
      · rw [z]; exact g2
      · exact h2 d z
    · show max _ _ ≤ 2
      exact Nat.max_le.mpr ⟨g3, h3⟩
theorem LotsL.eqd {K : PySem.W.Frag} {H : Hp} {D z : Addr} {os : List Addr} {Ls : List Lot} {Q : VK} (h : LotsL H D os Ls) (ez : H z = some (.lst [])) (q : Q (.bl (!Ls.isEmpty)) H) : rNeD K (.ref D) (.ref z) H Q := by
  obtain ⟨ds, d1, d2, d3, d4⟩ := ltw_dp (K := K) h.l h.b
  have e0 : PyData.eqv (.list ds) (.list []) = Ls.isEmpty := by
    rw [eqv_empty, d4]
    cases Ls <;> rfl
  exact ⟨.list ds, .list [], .lst (SqL.of h.d) d1, .lst (SqL.of ez) .nil, shaped_list d2 (by omega), shaped_list (fun _ z => (by cases z)) (by simp [PyData.depthAll]), by rw [e0]; exact q⟩
end KaG
set_option maxRecDepth 100000
set_option maxHeartbeats 4000000
namespace KaG
open PySem PySem.Spec PyProof.Rows L2 KaC KaN LamX NdefX KaU
theorem Vl.kp {H H' : Hp} {e : Addr} {xs : List (Key × V)} (ed : H e = some (.dK xs)) (k : ∀ b o, b ≠ e → H b = some o → H' b = some o) {v : V} (h : Vl H v) : Vl H' v := by
  cases h with
  | non => exact .non
  | bl b => exact .bl b
  | int i => exact .int i
  | str x => exact .str x
  | lst q => exact .lst (k _ _ (fun z => by rw [z, ed] at q; cases q) q)
  | tup q => exact .tup (k _ _ (fun z => by rw [z, ed] at q; cases q) q)
/-- an object that no world holds is another one -/
theorem WrOk.any {H J : Hp} {r : Wr} {p : Addr} {o o' : HO} (h0 : WrOk H r) (h : WrOk J r) (n : H p = none) (e : J p = some o) (nl : ∀ xs, o ≠ .lst xs) (nt : ∀ xs, o ≠ .tup xs) : WrOk (upd J p o') r := by
  obtain ⟨kd, na, ca, ld, kas, ls, hk, hD, hN, hC, hL, n1, n2⟩ := h0.w.w.it
  have ne : ∀ {b : Addr} {kv : List (Key × V)}, H b = some (.dK kv) → b ≠ p := fun q z => by rw [z, n] at q; cases q
  obtain ⟨kvs, ew, _⟩ := h0.m.it
  have ls : ∀ (b : Addr) (zs : List V), J b = some (.lst zs) → IsWdL J zs → upd J p o' b = some (.lst zs) := fun b zs q _ => by
    rw [upd_ne (fun z => by rw [z, e] at q; injection q with q; exact nl _ q)]; exact q
  have ts : TSame J (upd J p o') := fun b zs q => by
    rw [upd_ne (fun z => by rw [z, e] at q; injection q with q; exact nt _ q)]; exact q
  refine ⟨h.w.keepX (X := p) (ne h0.w.w.d) (fun kd' e' => ?_) (fun ld' e' => ?_) (fun b kv nb q => by rw [upd_ne nb]; exact q) ls ts, h.m.keepB (fun kv q => by rw [upd_ne (ne ew)]; exact q) ls ts, h.s5, h.sn, h.r5⟩
  · rw [hk.kinds] at e'
    rw [← ref_inj e']
    exact ne hD.d
  · rw [hk.live] at e'
    rw [← ref_inj e']
    exact ne hL.d
theorem strs_dpl {K : PySem.W.Frag} {H : Hp} : ∀ (ns : List Str), (∀ n ∈ ns, n ∈ nmAll) → ∃ ds, DpAll K H (ns.map V.str) ds ∧ (∀ d ∈ ds, d.canLay0 = true) ∧ PyData.depthAll ds ≤ 1 ∧ ds.length = ns.length
  | [], _ => ⟨[], .nil, (fun _ z => (nomatch z)), by simp [PyData.depthAll], rfl⟩
  | n :: r, h => by
    obtain ⟨ds, h1, h2, h3, h4⟩ := strs_dpl (K := K) (H := H) r fun m q => h m (List.mem_cons_of_mem _ q)
    refine ⟨.str n :: ds, .cons (.str n) h1, fun d m => ?_, ?_, by rw [List.length_cons, List.length_cons, h4]⟩
    · rcases List.mem_cons.mp m with z | z
      · subst z; exact nm_lay n (h n List.mem_cons_self)
      · exact h2 d z
    · show max _ _ ≤ 1
      exact Nat.max_le.mpr ⟨Nat.zero_le _, h3⟩
theorem strs_eqd {K : PySem.W.Frag} {H : Hp} {l z : Addr} {ns : List Str} {Q : VK} (hn : ∀ n ∈ ns, n ∈ nmAll) (e : H l = some (.lst (ns.map V.str))) (ez : H z = some (.lst [])) : (Q (.bl ns.isEmpty) H → rEqD K (.ref l) (.ref z) H Q) ∧ (Q (.bl (!ns.isEmpty)) H → rNeD K (.ref l) (.ref z) H Q) := by
  obtain ⟨ds, d1, d2, d3, d4⟩ := strs_dpl (K := K) (H := H) ns hn
  have e0 : PyData.eqv (.list ds) (.list []) = ns.isEmpty := by
    rw [eqv_empty, d4]
    cases ns <;> rfl
  have s0 := shaped_list (ds := []) (fun _ z => (by cases z)) (by simp [PyData.depthAll])
  exact ⟨fun q => ⟨.list ds, .list [], .lst (SqL.of e) d1, .lst (SqL.of ez) .nil, shaped_list d2 (by omega), s0, by rw [e0]; exact q⟩, fun q => ⟨.list ds, .list [], .lst (SqL.of e) d1, .lst (SqL.of ez) .nil, shaped_list d2 (by omega), s0, by rw [e0]; exact q⟩⟩
end KaG
set_option maxRecDepth 100000
set_option maxHeartbeats 2000000
namespace PySem
open PySem Spec PyProof.Rows PySem.W
end PySem
set_option maxRecDepth 100000
set_option maxHeartbeats 2000000
namespace KaG
open PySem PySem.Spec PyProof.Rows L2 KaC KaN LamX NdefX KaU
mutual
/-- no list that begins with a whole number has four items -/
def nbD : PyData → Bool
  | .list ds => (match ds with | [.int _, _, _, _] => false | _ => true) && nbA ds
  | .tuple ds => nbA ds
  | _ => true
def nbA : List PyData → Bool
  | [] => true
  | d :: r => nbD d && nbA r
end
/-- what has come up since H0 -/
def frs (H0 H : Hp) : Hp := fun b => if (H0 b).isNone = true then H b else none
theorem frs_in {H0 H : Hp} {b : Addr} {o : HO} (e : frs H0 H b = some o) : H0 b = none ∧ H b = some o := by
  unfold frs at e
  split at e
  · rename_i c
    exact ⟨Option.isNone_iff_eq_none.mp c, e⟩
  · cases e
theorem frs_of {H0 H : Hp} {b : Addr} {o : HO} (n : H0 b = none) (e : H b = some o) : frs H0 H b = some o := by
  unfold frs
  rw [n]
  exact e
theorem frs_same {H0 H : Hp} : Same (frs H0 H) H := fun _ _ e => (frs_in e).2
structure Kp (H0 H H' : Hp) : Prop where
  t : ∀ b xs, H0 b = none → H b = some (.tup xs) → H' b = some (.tup xs)
  l : ∀ b xs, H0 b = none → H b = some (.lst xs) → ¬ BagC xs → H' b = some (.lst xs)
  d : ∀ b o, H0 b = none → H b = some o → ((∃ kvs, o = .dK kvs) ∨ ∃ es, o = DxO b es) → H' b = some o
theorem Kp.same {H0 H H' : Hp} (s : Same H H') : Kp H0 H H' := ⟨fun b xs _ e => s _ _ e, fun b xs _ e _ => s _ _ e, fun b o _ e _ => s _ _ e⟩
theorem Kp.ex {T : List NTab} {H0 H H' : Hp} (x : Ex T H H') : Kp H0 H H' := by
  refine ⟨fun b xs _ e => x.ts _ _ e, fun b xs _ e _ => x.lst e, fun b o _ e h => ?_⟩
  rcases h with ⟨kvs, rfl⟩ | ⟨es, rfl⟩
  · exact x.dk e
  · exact x.ext _ _ e fun _ z => by unfold DxO at z; cases z
/-- an object that was there before is written -/
theorem Kp.wr {H0 H : Hp} {p : Addr} {o : HO} (h : H0 p ≠ none) : Kp H0 H (upd H p o) :=
  ⟨fun b xs n e => by rw [upd_ne (fun z => h (by rw [← z]; exact n))]; exact e, fun b xs n e _ => by rw [upd_ne (fun z => h (by rw [← z]; exact n))]; exact e, fun b o n e _ => by rw [upd_ne (fun z => h (by rw [← z]; exact n))]; exact e⟩
theorem bagC_no {H : Hp} {vs : List V} {ds : List PyData} (r : RepA H vs ds) (n : nbD (.list ds) = true) : ¬ BagC vs := by
  rintro ⟨c, st, i, b, rfl⟩
  cases r with
  | cons h1 r1 => cases r1 with
    | cons h2 r2 => cases r2 with
      | cons h3 r3 => cases r3 with
        | cons h4 r4 =>
          cases r4
          cases h1
          rw [nbD] at n
          cases n
mutual
theorem Rep.kp {H0 H H' : Hp} (k : Kp H0 H H') : ∀ {v : V} {d : PyData}, Rep (frs H0 H) v d → nbD d = true → Rep (frs H0 H') v d
  | _, _, .non, _ => .non
  | _, _, .bl b, _ => .bl b
  | _, _, .int i h, _ => .int i h
  | _, _, .str x, _ => .str x
  | _, _, .lst e r, n => .lst (frs_of (frs_in e).1 (k.l _ _ (frs_in e).1 (frs_in e).2 (bagC_no r n))) (RepA.kp k r (by unfold nbD at n; exact ((Bool.and_eq_true _ _).mp n).2))
  | _, _, .tup e r, n => .tup (frs_of (frs_in e).1 (k.t _ _ (frs_in e).1 (frs_in e).2)) (RepA.kp k r (by rw [nbD] at n; exact n))
theorem RepA.kp {H0 H H' : Hp} (k : Kp H0 H H') : ∀ {vs : List V} {ds : List PyData}, RepA (frs H0 H) vs ds → nbA ds = true → RepA (frs H0 H') vs ds
  | _, _, .nil, _ => .nil
  | _, _, .cons h r, n => .cons (Rep.kp k h (by rw [nbA, Bool.and_eq_true] at n; exact n.1)) (RepA.kp k r (by rw [nbA, Bool.and_eq_true] at n; exact n.2))
end
/-- plain data with bounds -/
def Ob (m n : Nat) (H : Hp) (v : V) : Prop := ∃ d, Rep H v d ∧ nbD d = true ∧ d.depth ≤ m ∧ (txt d).length ≤ n
theorem Ob.kp {H0 : Hp} {m n : Nat} {H H' : Hp} {v : V} (s : Kp H0 H H') (h : Ob m n (frs H0 H) v) : Ob m n (frs H0 H') v := by
  obtain ⟨d, r, a, b, c⟩ := h
  exact ⟨d, Rep.kp s r a, a, b, c⟩
theorem Ob.wk {m n m' n' : Nat} {H : Hp} {v : V} (h : Ob m n H v) (a : m ≤ m' := by decide) (b : n ≤ n' := by decide) : Ob m' n' H v := by
  obtain ⟨d, r, x, y, z⟩ := h
  exact ⟨d, r, x, Nat.le_trans y a, Nat.le_trans z b⟩
theorem obs_of {m n : Nat} {H : Hp} : ∀ {vs : List V}, (∀ v ∈ vs, Ob m n H v) → ∃ ds, RepA H vs ds ∧ nbA ds = true ∧ ds.length = vs.length ∧ ∀ d ∈ ds, d.depth ≤ m ∧ (txt d).length ≤ n
  | [], _ => ⟨[], .nil, by rw [nbA], rfl, fun _ z => nomatch z⟩
  | v :: r, h => by
    obtain ⟨d, h1, h2, h3, h4⟩ := h v List.mem_cons_self
    obtain ⟨ds, g1, g2, g3, g4⟩ := obs_of fun x m => h x (List.mem_cons_of_mem _ m)
    refine ⟨d :: ds, .cons h1 g1, by rw [nbA, h2, g2]; rfl, by rw [List.length_cons, List.length_cons, g3], fun x m => ?_⟩
    rcases List.mem_cons.mp m with e | m
    · rw [e]; exact ⟨h3, h4⟩
    · exact g4 x m
theorem Ob.tup {H : Hp} {a : Addr} {vs : List V} {m n : Nat} (e : H a = some (.tup vs)) (h : ∀ v ∈ vs, Ob m n H v) {c : Nat} (hc : vs.length ≤ c) : Ob (m + 1) (c * (n + 2) + 3) H (.ref a) := by
  obtain ⟨ds, h1, h2, h3, h4⟩ := obs_of h
  refine ⟨.tuple ds, .tup e h1, by unfold nbD; exact h2, ?_, ?_⟩
  · rw [PyData.depth]; exact Nat.succ_le_succ (depA fun d z => (h4 d z).1)
  · rw [txt]
    have g1 := tupleText_le (txtA ds)
    have g2 := piled_le (txA fun d z => (h4 d z).2)
    rw [txL, h3] at g2
    have g3 := Nat.mul_le_mul_right (n + 2) hc
    omega
theorem nb_key {H : Hp} : ∀ {vs : List V} {ds : List PyData}, RepA H vs ds → (vs.length ≠ 4 ∨ ∀ v ∈ vs, ∀ i, v ≠ .int i) → (match ds with | [.int _, _, _, _] => false | _ => true) = true
  | _, _, .nil, _ => rfl
  | _, _, .cons g1 .nil, _ => by cases g1 <;> rfl
  | _, _, .cons g1 (.cons g2 .nil), _ => by cases g1 <;> rfl
  | _, _, .cons g1 (.cons g2 (.cons g3 .nil)), _ => by cases g1 <;> rfl
  | _, _, .cons g1 (.cons g2 (.cons g3 (.cons g4 .nil))), nb => by
    rcases nb with z | z
    · exact absurd rfl z
    · cases g1 <;> first | rfl | exact absurd rfl (z _ List.mem_cons_self _)
  | _, _, .cons g1 (.cons g2 (.cons g3 (.cons g4 (.cons g5 r)))), _ => by cases g1 <;> rfl
theorem Ob.lst {H : Hp} {a : Addr} {vs : List V} {m n : Nat} (e : H a = some (.lst vs)) (h : ∀ v ∈ vs, Ob m n H v) {c : Nat} (hc : vs.length ≤ c) (nb : vs.length ≠ 4 ∨ ∀ v ∈ vs, ∀ i, v ≠ .int i) : Ob (m + 1) (c * (n + 2) + 3) H (.ref a) := by
  obtain ⟨ds, h1, h2, h3, h4⟩ := obs_of h
  have key := nb_key h1 nb
  refine ⟨.list ds, .lst e h1, by unfold nbD; rw [Bool.and_eq_true]; exact ⟨key, h2⟩, ?_, ?_⟩
  · rw [PyData.depth]; exact Nat.succ_le_succ (depA fun d z => (h4 d z).1)
  · rw [txt]
    have g1 := listText_le (txtA ds)
    have g2 := piled_le (txA fun d z => (h4 d z).2)
    rw [txL, h3] at g2
    have g3 := Nat.mul_le_mul_right (n + 2) hc
    omega
theorem Ob.non {m n : Nat} {H : Hp} (h : 4 ≤ n := by decide) : Ob m n H .non := ⟨.none, .non, by unfold nbD; rfl, Nat.zero_le _, Nat.le_trans (by decide +kernel) h⟩
theorem Ob.bl {m n : Nat} {H : Hp} {b : Bool} (h : 5 ≤ n := by decide) : Ob m n H (.bl b) := ⟨.bool b, .bl b, by unfold nbD; rfl, Nat.zero_le _, Nat.le_trans (by cases b <;> decide +kernel) h⟩
theorem Ob.int {m n : Nat} {H : Hp} {i : Int} (h : i.natAbs.log2 < 1920) (l : (txt (.int i)).length ≤ n) : Ob m n H (.int i) := ⟨.int i, .int i h, by unfold nbD; rfl, Nat.zero_le _, l⟩
theorem Ob.str {m n : Nat} {H : Hp} {x : Str} (l : (txt (.str x)).length ≤ n) : Ob m n H (.str x) := ⟨.str x, .str x, by unfold nbD; rfl, Nat.zero_le _, l⟩
def pairTx : List Str → List Str
  | k :: t :: r => (k ++ ": " ++ t) :: pairTx r
  | _ => []
/-- keys and values, one behind the other -/
def flatE (es : List (V × V)) : List V := es.flatMap fun p => [p.1, p.2]
theorem shp_of {H : Hp} {CW : Addr} {NW : Str} {as : List Addr} {d : Nat} : ∀ {es : List (V × V)} {ts : List Str}, ShA H CW NW as d (flatE es) ts → ShP H CW NW as d es (pairTx ts)
  | [], ts, h => by cases h; exact .nil
  | p :: r, ts, h => by
    have e : flatE (p :: r) = p.1 :: p.2 :: flatE r := rfl
    rw [e] at h
    cases h with
    | cons h1 h2 => cases h2 with
      | cons h3 h4 => exact .cons h1 h3 (shp_of h4)
theorem pairTx_le {n : Nat} : ∀ {ts : List Str} {m : Nat}, ts.length = 2 * m → (∀ t ∈ ts, t.length ≤ n) → (∀ t ∈ pairTx ts, t.length ≤ 2 * n + 2) ∧ (pairTx ts).length ≤ m
  | [], m, _, _ => ⟨(fun _ z => (nomatch z)), Nat.zero_le _⟩
  | [a], m, e, _ => by rw [List.length_singleton] at e; omega
  | a :: b :: r, m, e, h => by
    rw [List.length_cons, List.length_cons] at e
    obtain ⟨h1, h2⟩ := pairTx_le (ts := r) (m := m - 1) (by omega) fun t z => h t (List.mem_cons_of_mem _ (List.mem_cons_of_mem _ z))
    refine ⟨fun t z => ?_, ?_⟩
    · rcases List.mem_cons.mp z with e | z
      · rw [e]
        have h3 := h a List.mem_cons_self
        have h4 := h b (List.mem_cons_of_mem _ List.mem_cons_self)
        simp only [Str.length_append]
        have l3 : ((": " : Str)).length = 2 := by decide +kernel
        omega
      · exact h1 t z
    · show (pairTx r).length + 1 ≤ m
      omega
structure ShE (H : Hp) (es : List (V × V)) (ds : List PyData) : Prop where
  rep : RepA H (flatE es) ds
  nb : nbA ds = true
  b : ∀ d ∈ ds, d.depth ≤ 2 ∧ (txt d).length ≤ 60
  l8 : es.length ≤ 8
theorem ShE.of {H : Hp} {es : List (V × V)} (h : ∀ p ∈ es, Ob 2 60 H p.1 ∧ Ob 2 60 H p.2) (l : es.length ≤ 8) : ∃ ds, ShE H es ds := by
  have h' : ∀ v ∈ flatE es, Ob 2 60 H v := fun v m => by
    obtain ⟨p, mp, mv⟩ := List.mem_flatMap.mp m
    rcases List.mem_cons.mp mv with e | mv
    · rw [e]; exact (h p mp).1
    · rw [List.mem_singleton.mp mv]; exact (h p mp).2
  obtain ⟨ds, h1, h2, _, h4⟩ := obs_of h'
  exact ⟨ds, h1, h2, h4, l⟩
theorem ShE.kp {H0 H H' : Hp} {es : List (V × V)} {ds : List PyData} (k : Kp H0 H H') (h : ShE (frs H0 H) es ds) : ShE (frs H0 H') es ds := ⟨RepA.kp k h.rep h.nb, h.nb, h.b, h.l8⟩
theorem flatE_len : ∀ es : List (V × V), (flatE es).length = 2 * es.length
  | [] => rfl
  | p :: r => by
    have e : flatE (p :: r) = p.1 :: p.2 :: flatE r := rfl
    rw [e, List.length_cons, List.length_cons, flatE_len r, List.length_cons]
    omega
/-- what the dict's text is, whenever it is asked for -/
theorem ShE.repr {H0 H : Hp} {a : Addr} {es : List (V × V)} {ds : List PyData} {CW : Addr} {NW : Str} {Q : VK} (h : ShE (frs H0 H) es ds) (e : DEnt H a es) (q : Q (.str (dictText (pairTx (txtA ds)))) H) : rReprD CW NW [.ref a] H Q := by
  obtain ⟨as, h1, h2⟩ := RepA.sh (CW := CW) (NW := NW) (RepA.sm (frs_same (H0 := H0) (H := H)) h.rep)
  have lt := repL h.rep
  rw [flatE_len] at lt
  have l2 : (txtA ds).length = 2 * es.length := by rw [txL, ← lt]
  obtain ⟨g1, g2⟩ := pairTx_le l2 (txA fun d m => (h.b d m).2)
  have g3 := piled_le g1
  have g4 := dictText_le (pairTx (txtA ds))
  have g5 := h.l8
  refine ⟨a, es, as, _, _, rfl, e, fun m => ?_, shp_of h1, ?_, ?_, q⟩
  · obtain ⟨d', q1, _⟩ := h2 a m
    rcases e with ⟨kvs, e, _⟩ | e
    · cases q1 with
      | lst e' _ => rw [e] at e'; cases e'
      | tup e' _ => rw [e] at e'; cases e'
    · cases q1 with
      | lst e' _ => rw [e] at e'; unfold DxO at e'; cases e'
      | tup e' _ => rw [e] at e'; unfold DxO at e'; cases e'
  · exact Nat.le_trans (depA fun d m => (h.b d m).1) (by decide)
  · have : (pairTx (txtA ds)).length * (2 * 60 + 2 + 2) ≤ 8 * (2 * 60 + 2 + 2) := Nat.mul_le_mul_right _ (by omega)
    rw [sizeLine_eq]
    omega
/-- a value that is asked for, and its text -/
inductive Thg (H0 H : Hp) (A : List Str) : V → Str → Prop
  | oth {v : V} {d : PyData} (r : Rep (frs H0 H) v d) (nb : nbD d = true) (dp : d.depth ≤ 5) (ln : (txt d).length ≤ 2000) : Thg H0 H A v (txt d)
  | dct {a : Addr} {es : List (V × V)} {ds : List PyData} (n0 : H0 a = none) (e : DEnt H a es) (l : es.length ≠ A.length) (hs : ShE (frs H0 H) es ds) : Thg H0 H A (.ref a) (dictText (pairTx (txtA ds)))
  | dk {a : Addr} {kvs : List (Key × V)} {y : Str → V} {ds : List PyData} (n0 : H0 a = none) (e : H a = some (.dK kvs)) (l : kvs.length = A.length) (hy : ∀ n ∈ A, valV kvs (Sum.inr n) = some (y n) ∧ Ob 2 60 (frs H0 H) (y n)) (nd : (kvs.map (·.1)).Nodup)
      (sm : ∀ n ∈ A, ∀ i, y n = .int i → i < 10 ^ 50 - 4) (hs : ShE (frs H0 H) (kvs.map fun p => (kV p.1, p.2)) ds) : Thg H0 H A (.ref a) (dictText (pairTx (txtA ds)))
theorem DEnt.kp {H0 H H' : Hp} {a : Addr} {es : List (V × V)} (n0 : H0 a = none) (k : Kp H0 H H') (e : DEnt H a es) : DEnt H' a es := by
  rcases e with ⟨kvs, e, r⟩ | e
  · exact .inl ⟨kvs, k.d _ _ n0 e (.inl ⟨_, rfl⟩), r⟩
  · exact .inr (k.d _ _ n0 e (.inr ⟨_, rfl⟩))
theorem Thg.kp {H0 H H' : Hp} {A : List Str} {v : V} {t : Str} (k : Kp H0 H H') (h : Thg H0 H A v t) : Thg H0 H' A v t := by
  cases h with
  | oth r nb dp ln => exact .oth (Rep.kp k r nb) nb dp ln
  | dct n0 e l hs => exact .dct n0 (e.kp n0 k) l (hs.kp k)
  | dk n0 e l hy nd sm hs => exact .dk n0 (k.d _ _ n0 e (.inl ⟨_, rfl⟩)) l (fun n m => ⟨(hy n m).1, (hy n m).2.kp k⟩) nd sm (hs.kp k)
theorem Thg.repr {H0 H : Hp} {A : List Str} {v : V} {t : Str} {CW : Addr} {NW : Str} {Q : VK} (h : Thg H0 H A v t) (q : Q (.str t) H) : rRepr CW NW [v] H Q ∨ rReprD CW NW [v] H Q := by
  cases h with
  | oth r nb dp ln =>
    obtain ⟨as, hS, _⟩ := Rep.sh (CW := CW) (NW := NW) (Rep.sm (frs_same (H0 := H0) (H := H)) r)
    exact .inl ⟨_, as, _, _, rfl, hS, Nat.le_trans dp (by decide), Nat.le_trans ln (by rw [sizeLine_eq]; decide), q⟩
  | dct n0 e l hs => exact .inr (hs.repr e q)
  | dk n0 e l hy nd sm hs => exact .inr (hs.repr (.inl ⟨_, e, rfl⟩) q)
end KaG
set_option maxRecDepth 100000
set_option maxHeartbeats 2000000
namespace KaG
open PySem PySem.Spec PyProof.Rows L2 KaC KaN LamX NdefX KaU
theorem Kp.ext {bg : Addr} {H0 H H' : Hp} (b : Bag H bg) (a : KaG.Ext bg H H') : Kp H0 H H' := by
  obtain ⟨c, st, i, a0, ns, h1, _⟩ := id b
  refine ⟨fun d xs _ e => TSame.ext b a _ _ e, fun d xs _ e n => a.keep _ _ (fun z => n ?_) e, fun d o _ e h => ?_⟩
  · rw [z, h1] at e
    injection e with e
    injection e with e
    exact ⟨c, st, i, a0, e.symm⟩
  · rcases h with ⟨kvs, rfl⟩ | ⟨es, rfl⟩
    · exact a.keep _ _ (fun z => by rw [z, h1] at e; cases e) e
    · exact a.keep _ _ (fun z => by rw [z, h1] at e; unfold DxO at e; cases e) e
end KaG
set_option maxRecDepth 100000
set_option maxHeartbeats 2000000
namespace KaG
open PySem PySem.Spec PyProof.Rows L2 KaC KaN LamX NdefX KaU
def EndV (v : V) : Prop := v = .non ∨ v = .str "endless" ∨ ∃ i : Int, v = .int i ∧ ((-1 ≤ i ∧ i ≤ 108) ∨ i = 10 ^ 30)
theorem int_txt3 : ∀ x : Fin 110, (txt (.int ((x.val : Int) - 1))).length ≤ 60 ∧ ((x.val : Int) - 1).natAbs.log2 < 1920 := by decide +kernel
theorem EndV.ob {v : V} (h : EndV v) {m : Nat} {H : Hp} : Ob m 60 H v := by
  rcases h with rfl | rfl | ⟨i, rfl, h⟩
  · exact .non
  · exact .str (by decide +kernel)
  · rcases h with ⟨h0, h1⟩ | rfl
    · obtain ⟨k, hk⟩ := Int.eq_ofNat_of_zero_le (show 0 ≤ i + 1 by omega)
      obtain ⟨g1, g2⟩ := int_txt3 ⟨k, by omega⟩
      have e : i = (k : Int) - 1 := by omega
      rw [e]
      exact .int g2 g1
    · exact .int (by decide +kernel) (by decide +kernel)
end KaG
set_option maxRecDepth 100000
set_option maxHeartbeats 4000000
namespace KaG
open PySem PySem.Spec PyProof.Rows L2 KaC KaN LamX NdefX KaU
theorem Ext.wd {bg p : Addr} {H J : Hp} {xs : List (Key × V)} {o : HO} (a : KaG.Ext bg H J) (e : J p = some (.dK xs)) (np : H p = none) : KaG.Ext bg H (upd J p o) := by
  obtain ⟨c, st, i, b, ns, h1, h2, h3⟩ := a.bag
  have n1 : bg ≠ p := fun z => by rw [z, e] at h1; cases h1
  have n2 : b ≠ p := fun z => by rw [z, e] at h2; cases h2
  refine ⟨fun d o n q => by rw [upd_ne (ne_of_none q np)]; exact a.keep d o n q, ⟨c, st, i, b, ns, by rw [upd_ne n1]; exact h1, by rw [upd_ne n2]; exact h2, h3⟩, fun d q => ?_⟩
  obtain ⟨c', s', j', g⟩ := a.inn d q
  exact ⟨c', s', j', by rw [upd_ne n1]; exact g⟩
abbrev kvA (A : List Str) (f : Str → V) : List (Key × V) := A.map fun n => ((Sum.inr n : Key), f n)
theorem kvA_nd {A : List Str} {f : Str → V} (nd : A.Nodup) : ((kvA A f).map (·.1)).Nodup := by
  rw [List.map_map]
  exact List.pairwise_map.mpr (nd.imp fun h z => h (Sum.inr.inj z))
theorem put_kvA : ∀ {A : List Str} {f : Str → V} {n : Str} {v : V}, n ∈ A → putK (kvA A f) (Sum.inr n) v = kvA A fun m => if m = n then v else f m := by
  intro A f n v m
  unfold putK
  rw [if_pos (List.any_eq_true.mpr ⟨(Sum.inr n, f n), List.mem_map.mpr ⟨n, m, rfl⟩, decide_eq_true rfl⟩), List.map_map]
  refine List.map_congr_left fun x _ => ?_
  show (if (Sum.inr x : Key) = Sum.inr n then ((Sum.inr x : Key), v) else (Sum.inr x, f x)) = (Sum.inr x, if x = n then v else f x)
  by_cases e : x = n
  · rw [if_pos (by rw [e]), if_pos e]
  · rw [if_neg (fun z => e (Sum.inr.inj z)), if_neg e]
end KaG
set_option maxRecDepth 100000
set_option maxHeartbeats 2000000
namespace KaG
open PySem PySem.Spec PyProof.Rows L2 KaC KaN LamX NdefX KaU
def fUpN (F : Nat × Str → Int) (x : Nat × Str) (a : Int) : Nat × Str → Int := fun y => if y = x then a else F y
def rwN (F : Nat × Str → Int) (g : Gr) (k : Nat) : List Int := (kdsOf g).map fun m => F (k, m)
def minI (a b : Int) : Int := if b < a then b else a
theorem minI_or (a b : Int) : minI a b = a ∨ minI a b = b := by unfold minI; split <;> simp
theorem minI_l (a b : Int) : minI a b ≤ a := by unfold minI; split <;> omega
theorem minI_r (a b : Int) : minI a b ≤ b := by unfold minI; split <;> omega
theorem zs_map (F : Nat × Str → Int) (ms : List Str) : (zs ms).map F = ms.map fun m => F (0, m) := by unfold zs; rw [List.map_map]; rfl
def oldsN (S : List Str) (F : Nat × Str → Int) (g : Gr) : List Int := ((List.range (kdsOf g).length).map fun j => mxI ((oldW (kdsOf g) j ((kdsOf g).getD j "a")).map F)) ++ if bdG S g = true then [mxI (rwN F g 0)] else []
theorem GStep.of {S : List Str} {g : Gr} {n : Str} {F : Nat × Str → Int} {a2 : Int} (hm : a2 ∈ F (2, n) :: (oldsN S F g).map (1 + ·)) (hl : ∀ v ∈ F (2, n) :: (oldsN S F g).map (1 + ·), a2 ≤ v) {F1 : Nat × Str → Int} (h1 : F1 = if bdG S g = true then fUpN F (0, n) (minI (F (0, n)) (1 + mxI (rwN F g 0))) else fUpN (fUpN F (0, n) (minI (F (0, n)) (1 + mxI (rwN F g 0)))) (1, n) (minI (F (1, n)) (1 + mxI (rwN F g 1)))) : GStep S g n F (fUpN F1 (2, n) a2) := by
  have e0 : fUpN F1 (2, n) a2 (0, n) = minI (F (0, n)) (1 + mxI (rwN F g 0)) := by
    rw [h1]
    unfold fUpN
    rw [if_neg (by simp)]
    cases bdG S g <;> simp
  have e1 : fUpN F1 (2, n) a2 (1, n) = if bdG S g = true then F (1, n) else minI (F (1, n)) (1 + mxI (rwN F g 1)) := by
    rw [h1]
    unfold fUpN
    rw [if_neg (by simp)]
    cases bdG S g <;> simp
  have e2 : fUpN F1 (2, n) a2 (2, n) = a2 := by unfold fUpN; rw [if_pos rfl]
  have w0 : (wayG S g 0).map (fun o => 1 + mxI (o.map F)) = [1 + mxI (rwN F g 0)] := by
    rw [wayG, List.map_singleton, zs_map]; rfl
  have w1 : (wayG S g 1).map (fun o => 1 + mxI (o.map F)) = if bdG S g = true then [] else [1 + mxI (rwN F g 1)] := by
    rw [wayG]
    cases bdG S g with
    | true => rfl
    | false =>
      rw [if_neg Bool.false_ne_true, if_neg Bool.false_ne_true, List.map_singleton, List.map_map]
      rfl
  have w2 : (wayG S g 2).map (fun o => 1 + mxI (o.map F)) = (oldsN S F g).map (1 + ·) := by
    rw [wayG]
    unfold oldsN
    rw [List.map_append, List.map_append, List.map_map, List.map_map]
    congr 1
    cases bdG S g with
    | true =>
      rw [if_pos rfl, if_pos rfl, List.map_singleton, List.map_singleton, zs_map]
      rfl
    | false => rfl
  refine ⟨fun x hx => ?_, fun s hs => ?_, fun s hs => ?_⟩
  · obtain ⟨s, m⟩ := x
    have ne : ∀ k, k < 3 → (s, m) ≠ (k, n) := fun k hk z => by
      injection z with z1 z2
      rcases hx with q | q
      · exact q z2
      · exact absurd (show 3 ≤ s from q) (by omega)
    rw [h1]
    unfold fUpN
    rw [if_neg (ne 2 (by decide))]
    cases bdG S g with
    | true => rw [if_pos rfl]; rw [if_neg (ne 0 (by decide))]
    | false => rw [if_neg Bool.false_ne_true]; rw [if_neg (ne 1 (by decide)), if_neg (ne 0 (by decide))]
  · match s, hs with
    | 0, _ =>
      rw [e0, w0]
      rcases minI_or (F (0, n)) (1 + mxI (rwN F g 0)) with e | e <;> rw [e]
      · exact List.mem_cons_self
      · exact List.mem_cons_of_mem _ List.mem_cons_self
    | 1, _ =>
      rw [e1, w1]
      cases bdG S g with
      | true => exact List.mem_cons_self
      | false =>
        rw [if_neg Bool.false_ne_true, if_neg Bool.false_ne_true]
        rcases minI_or (F (1, n)) (1 + mxI (rwN F g 1)) with e | e <;> rw [e]
        · exact List.mem_cons_self
        · exact List.mem_cons_of_mem _ List.mem_cons_self
    | 2, _ => rw [e2, w2]; exact hm
  · match s, hs with
    | 0, _ =>
      rw [e0, w0]
      intro v mv
      rcases List.mem_cons.mp mv with e | mv
      · rw [e]; exact minI_l ..
      · rw [List.mem_singleton.mp mv]; exact minI_r ..
    | 1, _ =>
      rw [e1, w1]
      intro v mv
      cases hb : bdG S g with
      | true =>
        rw [hb, if_pos rfl] at mv
        rw [if_pos rfl, List.mem_singleton.mp mv]
        exact Int.le_refl _
      | false =>
        rw [hb, if_neg Bool.false_ne_true] at mv
        rw [if_neg Bool.false_ne_true]
        rcases List.mem_cons.mp mv with e | mv
        · rw [e]; exact minI_l ..
        · rw [List.mem_singleton.mp mv]; exact minI_r ..
    | 2, _ => rw [e2, w2]; exact hl
/-- the three dicts -/
structure Fnd (H : Hp) (fa d0 d1 d2 : Addr) (ms : List Str) (F : Nat × Str → Int) : Prop where
  l : H fa = some (.lst [.ref d0, .ref d1, .ref d2])
  a : H d0 = some (.dK (kvA ms fun n => V.int (F (0, n))))
  b : H d1 = some (.dK (kvA ms fun n => V.int (F (1, n))))
  c : H d2 = some (.dK (kvA ms fun n => V.int (F (2, n))))
  n01 : d0 ≠ d1
  n02 : d0 ≠ d2
  n12 : d1 ≠ d2
section
variable {H H' : Hp} {fa d0 d1 d2 : Addr} {ms : List Str} {F : Nat × Str → Int}
theorem Fnd.same (h : Fnd H fa d0 d1 d2 ms F) (s : Same H H') : Fnd H' fa d0 d1 d2 ms F := ⟨s _ _ h.l, s _ _ h.a, s _ _ h.b, s _ _ h.c, h.n01, h.n02, h.n12⟩
theorem Fnd.get (h : Fnd H fa d0 d1 d2 ms F) {k : Nat} (hk : k < 3) : ∃ dk, [V.ref d0, V.ref d1, V.ref d2][k]? = some (.ref dk) ∧ H dk = some (.dK (kvA ms fun n => V.int (F (k, n)))) := by
  match k, hk with
  | 0, _ => exact ⟨d0, rfl, h.a⟩
  | 1, _ => exact ⟨d1, rfl, h.b⟩
  | 2, _ => exact ⟨d2, rfl, h.c⟩
theorem kvA_get {A : List Str} {f : Str → V} {n : Str} : n ∈ A → valV (kvA A f) (Sum.inr n) = some (f n) := by
  intro m
  induction A with
  | nil => cases m
  | cons k r ih =>
    show valV ((Sum.inr k, f k) :: kvA r f) (Sum.inr n) = _
    by_cases e : k = n
    · subst e; exact valV_pos rfl
    · rw [valV_neg (fun z => e (Sum.inr.inj z))]
      exact ih ((List.mem_cons.mp m).resolve_left fun z => e z.symm)
theorem putN {k : Nat} {n : Str} (m : n ∈ ms) (a : Int) : putK (kvA ms fun n => V.int (F (k, n))) (Sum.inr n) (.int a) = kvA ms fun x => V.int (fUpN F (k, n) a (k, x)) := by
  rw [put_kvA m]
  refine List.map_congr_left fun x _ => ?_
  unfold fUpN
  dsimp only
  by_cases e : x = n
  · subst e; rw [if_pos rfl, if_pos rfl]
  · rw [if_neg e, if_neg (fun z => e (by injection z))]
theorem upN_ne {k j : Nat} {n : Str} {a : Int} (h : j ≠ k) : (kvA ms fun x => V.int (fUpN F (k, n) a (j, x))) = kvA ms fun x => V.int (F (j, x)) := by
  refine List.map_congr_left fun x _ => ?_
  unfold fUpN
  dsimp only
  rw [if_neg (fun z => h (by injection z))]
theorem Fnd.put0 (h : Fnd H fa d0 d1 d2 ms F) {n : Str} (m : n ∈ ms) (a : Int) : Fnd (upd H d0 (.dK (putK (kvA ms fun n => V.int (F (0, n))) (Sum.inr n) (.int a)))) fa d0 d1 d2 ms (fUpN F (0, n) a) :=
  ⟨by rw [upd_ne (fun z => by have := h.l; rw [z, h.a] at this; cases this)]; exact h.l, by rw [upd_same, putN m], by rw [upd_ne h.n01.symm, upN_ne (by decide)]; exact h.b, by rw [upd_ne h.n02.symm, upN_ne (by decide)]; exact h.c, h.n01, h.n02, h.n12⟩
theorem Fnd.put1 (h : Fnd H fa d0 d1 d2 ms F) {n : Str} (m : n ∈ ms) (a : Int) : Fnd (upd H d1 (.dK (putK (kvA ms fun n => V.int (F (1, n))) (Sum.inr n) (.int a)))) fa d0 d1 d2 ms (fUpN F (1, n) a) :=
  ⟨by rw [upd_ne (fun z => by have := h.l; rw [z, h.b] at this; cases this)]; exact h.l, by rw [upd_ne h.n01, upN_ne (by decide)]; exact h.a, by rw [upd_same, putN m], by rw [upd_ne h.n12.symm, upN_ne (by decide)]; exact h.c, h.n01, h.n02, h.n12⟩
theorem Fnd.put2 (h : Fnd H fa d0 d1 d2 ms F) {n : Str} (m : n ∈ ms) (a : Int) : Fnd (upd H d2 (.dK (putK (kvA ms fun n => V.int (F (2, n))) (Sum.inr n) (.int a)))) fa d0 d1 d2 ms (fUpN F (2, n) a) :=
  ⟨by rw [upd_ne (fun z => by have := h.l; rw [z, h.c] at this; cases this)]; exact h.l, by rw [upd_ne h.n02, upN_ne (by decide)]; exact h.a, by rw [upd_ne h.n12, upN_ne (by decide)]; exact h.b, by rw [upd_same, putN m], h.n01, h.n02, h.n12⟩
end
theorem lst_dk {H : Hp} {p : Addr} {xs ys : List (Key × V)} (e : H p = some (.dK xs)) {b : Addr} {zs : List V} (q : H b = some (.lst zs)) : upd H p (.dK ys) b = some (.lst zs) := by
  rw [upd_ne (fun z => by rw [z, e] at q; cases q)]
  exact q
end KaG
set_option maxRecDepth 100000
set_option maxHeartbeats 4000000
namespace KaC
open PySem PySem.Spec PyProof.Rows L2
end KaC
set_option maxRecDepth 100000
set_option maxHeartbeats 4000000
namespace KaG
open PySem PySem.Spec PyProof.Rows L2 KaC KaN LamX NdefX KaU
mutual
theorem tr_ts {H H' : Hp} (s : TSame H H') : ∀ {v : V} (t : Tr), Rep H v t.dt → Rep H' v t.dt
  | v, .nd n i ps, h => by
    rw [Tr.dt] at h ⊢
    cases h with
    | tup e r =>
      cases r with
      | cons h1 r => cases r with
        | cons h2 r => cases r with
          | cons h3 r =>
            cases r
            cases h1
            cases h2 with
            | int i h2 =>
              cases h3 with
              | tup e3 r3 => exact .tup (s _ _ e) (.cons (.str n) (.cons (.int _ h2) (.cons (.tup (s _ _ e3) (trl_ts s ps r3)) .nil)))
theorem trl_ts {H H' : Hp} (s : TSame H H') : ∀ {vs : List V} (ps : TrL), RepA H vs ps.dt → RepA H' vs ps.dt
  | _, .nil, h => by rw [TrL.dt] at h ⊢; cases h; exact .nil
  | _, .row r, h => by
    rw [TrL.dt] at h ⊢
    cases h with
    | cons h1 h2 => cases h1; exact .cons .non (trl_ts s r h2)
  | _, .kid t r, h => by
    rw [TrL.dt] at h ⊢
    cases h with
    | cons h1 h2 => exact .cons (tr_ts s t h1) (trl_ts s r h2)
end
theorem tr_inv {H : Hp} {v : V} {n : Str} {i : Nat} {ps : TrL} (h : Rep H v (Tr.nd n i ps).dt) : ∃ (a p : Addr) (xs : List V), v = .ref a ∧ H a = some (.tup [.str n, .int (i : Int), .ref p]) ∧ H p = some (.tup xs) ∧ RepA H xs ps.dt := by
  rw [Tr.dt] at h
  cases h with
  | tup e r =>
    cases r with
    | cons h1 r => cases r with
      | cons h2 r => cases r with
        | cons h3 r =>
          cases r
          cases h1
          cases h2 with
          | int i h2 =>
            cases h3 with
            | tup e3 r3 => exact ⟨_, _, _, rfl, e, e3, r3⟩
theorem tr_mk {H : Hp} {a p : Addr} {n : Str} {i : Nat} {ps : TrL} {xs : List V} (hi : i < 1000) (e : H a = some (.tup [.str n, .int (i : Int), .ref p])) (ep : H p = some (.tup xs)) (r : RepA H xs ps.dt) : Rep H (.ref a) (Tr.nd n i ps).dt := by
  rw [Tr.dt]
  refine .tup e (.cons (.str n) (.cons (.int _ ?_) (.cons (.tup ep r) .nil)))
  have h1 : ((i : Int)).natAbs = i := Int.natAbs_natCast i
  rw [h1]
  refine Nat.lt_of_le_of_lt (Nat.log2_le_self i) ?_
  omega
/-- the parts that are trees -/
def TrL.kids : TrL → List Tr
  | .nil => []
  | .row r => r.kids
  | .kid t r => t :: r.kids
def Tr.kids : Tr → List Tr
  | .nd _ _ ps => ps.kids
def mlv (L : List Tr) : Nat := (L.map Tr.lv).foldr max 0
theorem lv_kids : ∀ ps : TrL, ps.lv = mlv ps.kids
  | .nil => rfl
  | .row r => by rw [TrL.lv, TrL.kids]; exact lv_kids r
  | .kid t r => by rw [TrL.lv, TrL.kids, lv_kids r]; rfl
theorem mlv_app : ∀ A B : List Tr, mlv (A ++ B) = max (mlv A) (mlv B)
  | [], B => by rw [List.nil_append]; show _ = max 0 _; omega
  | t :: A, B => by
    show max t.lv (mlv (A ++ B)) = max (max t.lv (mlv A)) (mlv B)
    rw [mlv_app A B]; omega
theorem lv_pos : ∀ t : Tr, t.lv = mlv t.kids + 1
  | .nd _ _ ps => by rw [Tr.lv, Tr.kids, lv_kids]
theorem mlv_next : ∀ L : List Tr, L ≠ [] → mlv (L.flatMap Tr.kids) + 1 = mlv L
  | [], h => absurd rfl h
  | [t], _ => by
    rw [List.flatMap_cons, List.flatMap_nil, List.append_nil]
    show _ = max t.lv 0
    rw [lv_pos]; omega
  | t :: u :: r, _ => by
    have ih := mlv_next (u :: r) (by simp)
    rw [List.flatMap_cons, mlv_app]
    show _ = max t.lv (mlv (u :: r))
    rw [lv_pos t, ← ih]; omega
/-- what stands in parts -/
theorem wtl_kids {G : Str → List (Nat × Gr)} : ∀ {g : Gr} {ps : TrL}, WTL G g ps → ps.kids.length ≤ g.length ∧ ∀ t ∈ ps.kids, ∃ n, WT G n t
  | _, _, .nil => ⟨Nat.le_refl _, fun _ m => by cases m⟩
  | _, _, .row _ h => ⟨Nat.le_succ_of_le (wtl_kids h).1, (wtl_kids h).2⟩
  | _, _, .kid _ ht h => ⟨Nat.succ_le_succ (wtl_kids h).1, fun t m => by
      rcases List.mem_cons.mp m with e | m
      · rw [e]; exact ⟨_, ht⟩
      · exact (wtl_kids h).2 t m⟩
theorem wt_kids {rows : List Str} {ks : List Kd} (hO : BookOk rows ks) {t : Tr} (h : ∃ n, WT (lvg ks) n t) : t.kids.length ≤ 3 ∧ ∀ u ∈ t.kids, ∃ n, WT (lvg ks) n u := by
  obtain ⟨n, h⟩ := h
  cases h with
  | nd m h =>
    have := (lvg_ok hO m).len
    exact ⟨Nat.le_trans (wtl_kids h).1 this, (wtl_kids h).2⟩
/-- the first k parts -/
def TrL.take : TrL → Nat → TrL
  | _, 0 => .nil
  | .nil, _ + 1 => .nil
  | .row r, k + 1 => .row (r.take k)
  | .kid t r, k + 1 => .kid t (r.take k)
theorem take_part {H : Hp} : ∀ {xs : List V} {ps : TrL}, RepA H xs ps.dt → ∀ {i : Nat} {x : V}, xs[i]? = some x → (x = .non ∧ (ps.take (i + 1)).kids = (ps.take i).kids) ∨ ∃ t a, x = .ref a ∧ Rep H x t.dt ∧ (ps.take (i + 1)).kids = (ps.take i).kids ++ [t]
  | _, .nil, h, i, x, e => by rw [TrL.dt] at h; cases h; cases e
  | _, .row r, h, i, x, e => by
    rw [TrL.dt] at h
    cases h with
    | cons h1 h2 =>
      cases i with
      | zero => cases h1; cases e; exact .inl ⟨rfl, by cases r <;> rfl⟩
      | succ i =>
        rcases take_part h2 (i := i) e with ⟨a, b⟩ | ⟨t, a, b, c, d⟩
        · exact .inl ⟨a, b⟩
        · exact .inr ⟨t, a, b, c, d⟩
  | _, .kid t r, h, i, x, e => by
    rw [TrL.dt] at h
    cases h with
    | cons h1 h2 =>
      cases i with
      | zero =>
        cases e
        obtain ⟨n, j, ps⟩ := t
        obtain ⟨a, p, zs, rfl, _⟩ := tr_inv h1
        exact .inr ⟨_, a, rfl, h1, by cases r <;> rfl⟩
      | succ i =>
        rcases take_part h2 (i := i) e with ⟨a, b⟩ | ⟨t', a, b, c, d⟩
        · exact .inl ⟨a, by rw [TrL.take, TrL.take, TrL.kids, TrL.kids, b]⟩
        · exact .inr ⟨t', a, b, c, by rw [TrL.take, TrL.take, TrL.kids, TrL.kids, d]; rfl⟩
theorem take_all : ∀ {H : Hp} {xs : List V} {ps : TrL}, RepA H xs ps.dt → (ps.take xs.length).kids = ps.kids
  | _, _, .nil, h => by rw [TrL.dt] at h; cases h; rfl
  | _, _, .row r, h => by
    rw [TrL.dt] at h
    cases h with
    | cons h1 h2 => rw [List.length_cons, TrL.take, TrL.kids, TrL.kids, take_all h2]
  | _, _, .kid t r, h => by
    rw [TrL.dt] at h
    cases h with
    | cons h1 h2 => rw [List.length_cons, TrL.take, TrL.kids, TrL.kids, take_all h2]
theorem take_pre : ∀ (ps : TrL) (k : Nat), (ps.take k).kids.length ≤ ps.kids.length
  | .nil, 0 => Nat.le_refl _
  | .row r, 0 => Nat.zero_le _
  | .kid t r, 0 => Nat.zero_le _
  | .nil, _ + 1 => Nat.le_refl _
  | .row r, k + 1 => take_pre r k
  | .kid t r, k + 1 => Nat.succ_le_succ (take_pre r k)
theorem kids_le : ∀ {L : List Tr}, (∀ t ∈ L, t.kids.length ≤ 3) → (L.flatMap Tr.kids).length ≤ 3 * L.length
  | [], _ => Nat.le_refl _
  | t :: r, h => by
    have h1 := h t List.mem_cons_self
    have h2 := kids_le (L := r) fun u m => h u (List.mem_cons_of_mem _ m)
    rw [List.flatMap_cons, List.length_append, List.length_cons]
    omega
section
variable {P : Program} {w : World} {K : PySem.W.Frag} {mg : Str → Option Value} {base : Heap}
abbrev sLvo : Stmt := top 14
abbrev nmLvo : List Str := ["tree", "levels", "trees", "_", "parts", "part"]
theorem scLvo : FnScope nmLvo ["tree"] (defScope sLvo) := ⟨rfl, rfl, rfl, by decide +kernel, rfl, by decide +kernel, by decide +kernel⟩
def spLvo : Sp := fun vs H Q _ => ∃ (v : V) (t : Tr) (rows : List Str) (ks : List Kd), vs = [v] ∧ Rep H v t.dt ∧ BookOk rows ks ∧ (∃ n, WT (lvg ks) n t) ∧ t.lv ≤ 10 ∧ ∀ H', Same H H' → Q (.int (t.lv : Int)) H'
theorem ok_Lvo {f : Addr} {fd : FuncData} (F : Fun K "levels_of" "levels_of" sLvo f fd) : FnOk P w K mg base CX0 1 f fd ["tree"] spLvo := by
  refine F.ok scLvo (fun vs H Q E h => ?_) (fun cdv A outer s H vs Q E hr h => ?_)
  · obtain ⟨v, t, rows, ks, rfl, _⟩ := h
    rfl
  · obtain ⟨v, t, rows, ks, rfl, hv, hO, hw, l10, k⟩ := h
    refine ⟨_, (pss_cons (ps_set (i := 1) scLvo.nd rfl (Or.inl rfl) pe_int)
      (pss_cons (ps_set (i := 2) scLvo.nd rfl (Or.inl rfl) (pe_lst (pa_cons (pv 0) pa_nil)))
      (pss_cons (ps_while PassesOwn.never (pt_truth (pv 2) (by intro _; rfl))
        (pss_cons (ps_aug (i := 1) scLvo.nd rfl (.inl rfl) pe_int ip_add)
        (pss_one (ps_setLc2 (i := 2) (own := [("_", 3), ("parts", 4), ("part", 5)]) (vs1 := [5]) (g := gTup K 3 (gCons (gName 3) (gCons (gName 3) (gCons (gName 4) gNil)))) (g1 := gName 5) (wi1 := iTup K (tVar 4)) (tt := tYes) (tt1 := tTest (tOp rNotN (tVar 5) (tC V.non))) (te := tVar 5)
          (by rfl) scLvo.nd rfl rfl (sw_true rfl rfl rfl (by decide +kernel)) (pi_list (pv 2)) (blkOk_by (own := [("_", 3), ("parts", 4), ("part", 5)]) (N := nmLvo) (sc := defScope sLvo) (by decide +kernel)) (by decide)
          (fun _ _ _ _ _ => pg_tup (by rfl) (pgs_cons (pg_name (i := 3) scLvo.nd rfl (Or.inl rfl)) (pgs_cons (pg_name (i := 3) scLvo.nd rfl (Or.inl rfl)) (pgs_cons (pg_name (i := 4) scLvo.nd rfl (Or.inl rfl)) pgs_nil)))) (fun _ _ _ _ _ => pts_nil)
          (fun _ _ _ _ _ => pi_tup (pv 4)) (fun _ _ _ _ _ => pg_name (i := 5) scLvo.nd rfl (Or.inl rfl))
          (fun _ _ _ _ _ => pts_one (pt_cmpR (r := rNotN) op_notN1 (pv 5) pe_non (nomark _))) (fun _ _ _ _ _ => pv 5)))))
      (pss_one (ps_ret (pv 1)))))), ?_⟩
    have sz : ∀ {m : Nat}, m ≤ 900 → m ≤ sizeLine := fun h => Nat.le_of_lt (small1000 (by omega))
    have big : ∀ {m : Nat}, m ≤ 3 ^ 11 → m < sizeLine := fun h => Nat.lt_of_le_of_lt h (by decide)
    refine ⟨_, rfl, sz (by show 1 ≤ 900; decide), fun l0 nl0 => ?_⟩
    have s0 := same_upd (o := .lst [v]) nl0
    have e0 : upd H l0 (.lst [v]) l0 = some (.lst [v]) := upd_same
    generalize upd H l0 (.lst [v]) = H0 at s0 e0 ⊢
    let W : Nat → L2.St → Hp → Prop := fun m σ' G => ∃ (lev : Nat) (l : Addr) (xs : List V) (L : List Tr), σ' = [some v, some (.int (lev : Int)), some (.ref l), none, none, none] ∧ Same H G ∧ G l = some (.lst xs) ∧ Paired (fun x (t : Tr) => Rep G x t.dt) xs L ∧ (∀ t ∈ L, ∃ n, WT (lvg ks) n t) ∧ L.length ≤ 3 ^ lev ∧ lev + m = t.lv ∧ m = mlv L
    have w0 : W (mlv [t]) [some v, some (.int ((0 : Nat) : Int)), some (.ref l0), none, none, none] H0 := ⟨0, l0, [v], [t], rfl, s0, e0, .cons (Rep.sm s0 hv) .nil, fun u m => by rw [List.mem_singleton.mp m]; exact hw, Nat.le_refl _, by rw [Nat.zero_add]; show max t.lv 0 = _; omega, rfl⟩
    refine ⟨W, ⟨_, w0⟩, ?_⟩
    rintro m σ' G ⟨lev, l, xs, L, rfl, SG, eL, pL, wL, lL, em, rfl⟩
    refine ⟨_, rfl, _, .inl ⟨xs, SqL.of eL, rfl⟩, ?_⟩
    cases pL with
    | nil =>
      refine ifF rfl ⟨_, rfl, ?_⟩
      have e : lev = t.lv := by have : mlv [] = 0 := rfl; omega
      rw [e]
      exact k G SG
    | @cons x u xs L hx px =>
      refine ifT rfl ?_
      have pL : Paired (fun x (t : Tr) => Rep G x t.dt) (x :: xs) (u :: L) := .cons hx px
      have ne : u :: L ≠ [] := by simp
      generalize x :: xs = ys at pL eL
      generalize hLe : u :: L = M at pL wL lL em ne
      clear hx px hLe u L
      have ln := mlv_next M ne
      refine ⟨fun σ' H' => ∃ m', m' < mlv M ∧ W m' σ' H', fun _ _ h => h, ?_⟩
      refine ⟨_, rfl, _, _, rfl, rfl, ?_⟩
      have l3 : 3 ^ lev ≤ 3 ^ 10 := Nat.pow_le_pow_right (by decide) (by omega)
      have lx := paired_len pL
      have k3 : ∀ u ∈ M, u.kids.length ≤ 3 := fun u m => (wt_kids hO (wL u m)).1
      refine ⟨_, rfl, l, rfl, ⟨_, SqL.of eL⟩, fun D nD => go_list (K := K) (a := l) (xs := ys) (fun i J => Same G J ∧ ∃ zs : List V, J D = some (.lst zs) ∧ Paired (fun x (t : Tr) => Rep J x t.dt) zs ((M.take i).flatMap Tr.kids)) ?_ ?_ ?_ ?_⟩
      · exact ⟨same_upd nD, [], upd_same, .nil⟩
      · rintro i J _ ⟨SJ, _⟩
        exact SqL.of (SJ _ _ eL)
      · rintro i x J hx ⟨SJ, zs, jD, pz⟩
        obtain ⟨u, hu, rx⟩ := paired_at pL hx
        have mu := List.mem_of_getElem? hu
        have hi := (List.getElem?_eq_some_iff.mp hu).1
        have tk : M.take (i + 1) = M.take i ++ [u] := by rw [List.take_add_one, hu]; rfl
        have k3u := k3 u mu
        have l3i := kids_le (L := M.take i) fun t m => k3 t (List.mem_of_mem_take m)
        rw [List.length_take] at l3i
        obtain ⟨n, ix, ps⟩ := u
        obtain ⟨a, p, vs, rfl, ea, ep, rp⟩ := tr_inv rx
        refine ⟨a, _, rfl, SqT.of (SJ _ _ ea), by rfl, _, _, rfl, _, _, rfl, _, _, rfl, rfl, ?_⟩
        refine ⟨rfl, tYes_go (iteT ?_)⟩
        refine ⟨_, rfl, p, rfl, ⟨_, SqT.of (SJ _ _ ep)⟩, go_tup (K := K) (a := p) (xs := vs) (fun j J2 => Same G J2 ∧ ∃ zs : List V, J2 D = some (.lst zs) ∧ Paired (fun x (t : Tr) => Rep J2 x t.dt) zs ((M.take i).flatMap Tr.kids ++ (ps.take j).kids)) ?_ ?_ ?_ ?_⟩
        · refine ⟨SJ, zs, jD, ?_⟩
          have : (ps.take 0).kids = [] := by cases ps <;> rfl
          rw [this, List.append_nil]
          exact pz
        · rintro j J2 _ ⟨S2, _⟩
          exact SqT.of (S2 _ _ ep)
        · rintro j x J2 hx2 ⟨S2, zs2, jD2, pz2⟩
          have lz := paired_len pz2
          rw [List.length_append] at lz
          have lp := take_pre ps j
          have k3p : ps.kids.length ≤ 3 := k3u
          refine ⟨rfl, ?_⟩
          rcases take_part rp hx2 with ⟨rfl, e⟩ | ⟨t2, b, rfl, rb, e⟩
          · refine ⟨_, rfl, rfl, _, rfl, ifF rfl ⟨S2, zs2, jD2, ?_⟩⟩
            rw [e]
            exact pz2
          · refine ⟨_, rfl, rfl, _, rfl, ifT rfl ?_⟩
            refine ⟨_, rfl, _, jD2, big (by omega), fun c w e => by rw [upd_ne (ne_of_none e nD)]; exact S2 c w e, _, upd_same, ?_⟩
            have tsl := ts_lst (ys := zs2 ++ [V.ref b]) jD2
            rw [e, ← List.append_assoc]
            exact paired_app (Paired.mono' (fun x t h => tr_ts tsl t h) pz2) (.cons (tr_ts tsl _ (Rep.sm S2 rb)) .nil)
        · rintro J2 ⟨S2, zs2, jD2, pz2⟩
          rw [take_all rp] at pz2
          refine ⟨S2, zs2, jD2, ?_⟩
          rw [tk, List.flatMap_append, List.flatMap_cons, List.flatMap_nil, List.append_nil]
          exact pz2
      · rintro J ⟨SJ, zs, jD, pz⟩
        rw [lx, List.take_length] at pz
        refine ⟨_, ?_, lev + 1, D, zs, M.flatMap Tr.kids, rfl, KaG.Same.tr SG SJ, jD, pz, fun u m => ?_, ?_, ?_, rfl⟩
        · omega
        · obtain ⟨t2, m2, m3⟩ := List.mem_flatMap.mp m
          exact (wt_kids hO (wL t2 m2)).2 u m3
        · have := kids_le k3
          rw [Nat.pow_succ]
          omega
        · omega
end
end KaG
set_option maxRecDepth 100000
set_option maxHeartbeats 4000000
namespace KaG
open PySem PySem.Spec PyProof.Rows L2 KaC KaN LamX NdefX KaU
noncomputable def llK (ks : List Kd) (k : Kd) : List (Str × Nat × Gr) := (lvg ks k.name).map fun z => (k.name, z)
theorem liveL_eq (ks : List Kd) : liveL ks = ks.flatMap (llK ks) := by
  unfold liveL nmsOf
  rw [List.flatMap_map]
  rfl
abbrev LlAt (H : Hp) (a : Addr) (z : Str × Nat × Gr) : Prop := ∃ ga : Addr, H a = some (.tup [.str z.1, .int (z.2.1 : Int), .ref ga]) ∧ Grd H ga z.2.2
theorem LlAt.ts {H H' : Hp} {a : Addr} {z : Str × Nat × Gr} (h : LlAt H a z) (s : TSame H H') : LlAt H' a z := by
  obtain ⟨ga, e1, e2⟩ := h
  exact ⟨ga, s _ _ e1, e2.ts s⟩
theorem ts_fz {H : Hp} {p : Addr} {x : Obj} {u o : HO} (e : H p = some (.frz x u)) : TSame H (upd H p o) := fun b zs q => by
  rw [upd_ne (fun z => by rw [z, e] at q; cases q)]
  exact q
theorem llk_len {rows : List Str} {ks : List Kd} (hO : BookOk rows ks) (k : Kd) : (lvg ks k.name).length ≤ 4 := by
  unfold lvg
  rw [List.length_map]
  have h1 := liveIx_le (ks := ks) (B := bearOf ks) (n := k.name)
  have h2 : (gsOf ks k.name).length ≤ 4 := by
    unfold gsOf
    cases q : ks.find? (fun x => decide (x.name = k.name)) with
    | none => exact Nat.zero_le _
    | some k => exact (hO.num k (List.mem_of_find?_eq_some q)).2.2.2.2
  omega
section
variable {P : Program} {w : World} {K : PySem.W.Frag} {mg : Str → Option Value} {base : Heap}
abbrev sLli : Stmt := top 15
abbrev nmLli : List Str := ["rulebook", "live", "name", "at"]
theorem scLli : FnScope nmLli ["rulebook"] (defScope sLli) := ⟨rfl, rfl, rfl, by decide +kernel, rfl, by decide +kernel, by decide +kernel⟩
def spLli (T : List NTab) : Sp := fun vs H Q _ => ∃ (b : Addr) (rows : List Str) (ks : List Kd), vs = [.ref b] ∧ BookAt H b rows ks ∧ BookOk rows ks ∧ TabsN T H ∧
  ∀ (p : Addr) (as : List Addr) (H' : Hp), Ex T H H' → H p = none → H' p = some (.lst (as.map V.ref)) → Paired (LlAt H') as (liveL ks) → Q (.ref p) H'
theorem ok_Lli {T : List NTab} {f fL fK : Addr} {fd fdL fdK : FuncData} (F : Fun K "_live_list" "_live_list" sLli f fd) (CL : Ct P w K mg base "live_indexes" 6 ["rulebook"] (spLiveIx T) fL fdL) (CK : Ct P w K mg base "kind_of" 1 ["rulebook", "name"] spKindN fK fdK) : FnOk P w K mg base CX0 7 f fd ["rulebook"] (spLli T) := by
  refine F.ok scLli (fun vs H Q E h => ?_) (fun cdv A outer s H vs Q E hr h => ?_)
  · obtain ⟨b, rows, ks, rfl, _⟩ := h
    rfl
  · obtain ⟨b, rows, ks, rfl, hA, hO, hT, k⟩ := h
    have u1 := hu_of hr
    have hr1 : Room 1 (A.deeper (envOfC "_live_list" (defScope sLli) s.heap.objs.size f cdv)) := hr.mono (by decide)
    refine ⟨_, (pss_cons (ps_set (i := 1) scLli.nd rfl (Or.inr rfl) (pe_call CL.G hr (by rfl) CL.m CL.kp CL.b .nil pass0 (pa_cons (pv 0) pa_nil)))
      (pss_one (ps_ret (pe_lock (pe_lc2n [3] (own := [("name", 2), ("at", 3)]) (g0 := gName 2) (g1 := gName 3) (w1 := iList K (tDGet (tVar 1) (tVar 2)))
        (te := tTup (tCons (tVar 2) (tCons (tVar 3) (tCons (tOp (rIxT K) (tOp (rIxT K) (tCall spKindN [] E0 (tCons (tVar 0) (tCons (tVar 2) tNil))) (tC (.int 3))) (tVar 3)) tNil))))
        (by rfl) scLli.nd (pi_keys (pv 1)) (blkOk_by (own := [("name", 2), ("at", 3)]) (N := nmLli) (sc := defScope sLli) (by decide +kernel)) (by decide)
        (fun _ _ _ _ _ => pg_name (i := 2) scLli.nd rfl (Or.inl rfl)) (fun _ _ _ _ _ => pts_nil)
        (fun _ _ _ _ _ => pi_list (pe_dget u1 (pv 1) (pv 2) (fun _ _ => rfl)))
        (fun _ _ _ _ _ => pg_name (i := 3) scLli.nd rfl (Or.inl rfl)) (fun _ _ _ _ _ => pts_nil)
        (fun _ _ _ _ _ => pe_tup (pa_cons (pv 2) (pa_cons (pv 3) (pa_cons (pe_ix (r := rIxT K) ix_tup (pe_ix (r := rIxT K) ix_tup (pe_call CK.G hr1 (by rfl) CK.m CK.kp CK.b .nil pass0 (pa_cons (pv 0) (pa_cons (pv 2) pa_nil))) pe_int (fun _ _ => rfl)) (pv 3) (fun _ _ => rfl)) pa_nil))))))))), ?_⟩
    have sz : ∀ {m : Nat}, m ≤ 900 → m ≤ sizeLine := fun h => Nat.le_of_lt (small1000 (by omega))
    have nd := hO.nm.nd
    have hk5 := hO.k5
    refine ⟨_, rfl, b, rows, ks, rfl, hA, hO, hT, fun d ls H1 X1 nd1 hD _ => ?_⟩
    obtain ⟨eD, hl⟩ := hD
    have hl : Paired (fun (l : Addr) (k : Kd) => H1 l = some (.lst (ixV (liveIx ks (bearOf ks) k.name)))) ls ks := Paired.mono' (fun _ _ q => q.2) hl
    have hA1 := hA.ts X1.ts
    refine ⟨d, _, eD, trivial, fun od => ?_⟩
    have hdL : upd H1 d (.frz od (.dK (kvsOf ks ls))) d = some (.frz od (.dK (kvsOf ks ls))) := upd_same
    have ned : ∀ {b u}, H1 b = some u → (∀ x, u ≠ .dK x) → upd H1 d (.frz od (.dK (kvsOf ks ls))) b = some u := fun {b u} e n => by rw [upd_ne (fun z => by rw [z, eD] at e; injection e with e; exact n _ e.symm)]; exact e
    have hlL : Paired (fun (l : Addr) (k : Kd) => upd H1 d (.frz od (.dK (kvsOf ks ls))) l = some (.lst (ixV (liveIx ks (bearOf ks) k.name)))) ls ks := Paired.mono' (fun _ _ q => ned q (by intro x z; cases z)) hl
    have hAL : BookAt (upd H1 d (.frz od (.dK (kvsOf ks ls)))) b rows ks := hA1.ts (ts_dk' eD)
    have un : ∀ J, Same (upd H1 d (.frz od (.dK (kvsOf ks ls)))) J → Same H1 (upd J d (.dK (kvsOf ks ls))) := fun J s => same_unlock eD s
    have nonL : ∀ q, upd H1 d (.frz od (.dK (kvsOf ks ls))) q = none → H1 q = none := fun q e => by
      by_cases z : q = d
      · rw [z, upd_same] at e; cases e
      · rw [upd_ne z] at e; exact e
    have lk : (kvsOf ks ls).length = ks.length := kvs_len (paired_len hl)
    generalize upd H1 d (.frz od (.dK (kvsOf ks ls))) = HL at hdL hlL hAL un nonL ⊢
    refine ⟨_, rfl, d, od, rfl, .inl ⟨kvsOf ks ls, hdL, fun D nD => go_keys (fun i J => Same HL J ∧ ∃ as : List Addr, J D = some (.lst (as.map V.ref)) ∧ as.length ≤ 4 * i ∧ Paired (LlAt J) as ((ks.take i).flatMap (llK ks))) ?_ ?_ ?_ ?_⟩⟩
    · exact ⟨same_upd nD, [], upd_same, Nat.le_refl _, .nil⟩
    · rintro i J _ ⟨SJ, _⟩
      exact SJ _ _ hdL
    · rintro i kk vv J hkv ⟨SJ, as, jD, la, pa⟩
      have hi : i < ks.length := by rw [← lk]; exact (List.getElem?_eq_some_iff.mp hkv).1
      have hkd : ks[i]? = some ks[i] := List.getElem?_eq_getElem hi
      obtain ⟨lli, hls⟩ : ∃ l, ls[i]? = some l := ⟨_, List.getElem?_eq_getElem (by rw [paired_len hl]; exact hi)⟩
      have ekk : kk = Sum.inr ks[i].name := by
        unfold kvsOf at hkv
        rw [List.getElem?_map] at hkv
        obtain ⟨q, hq, eq⟩ := Option.map_eq_some_iff.mp hkv
        rw [List.getElem?_zip_eq_some] at hq
        have := hq.1
        rw [hkd] at this
        injection this with this
        injection eq with e1 _
        rw [← e1, this]
      subst ekk
      generalize hkdn : ks[i] = kd at hkd hkv
      have mk := List.mem_of_getElem? hkd
      have tk : ks.take (i + 1) = ks.take i ++ [kd] := by rw [List.take_add_one, hkd]; rfl
      obtain ⟨ll, ev, ell⟩ := kvs_get nd hlL mk
      have egs := gsOf_eq nd mk
      have lv4 := llk_len hO kd
      have lvl : (lvg ks kd.name).length = (liveIx ks (bearOf ks) kd.name).length := by unfold lvg; rw [List.length_map]
      refine ⟨rfl, tYes_go (iteT ?_)⟩
      refine ⟨_, rfl, _, rfl, d, .ref ll, rfl, .inl ⟨kvsOf ks ls, Sum.inr kd.name, .inr ⟨od, SJ _ _ hdL⟩, rfl, ev.symm⟩, ll, rfl, ⟨_, SqL.of (SJ _ _ ell)⟩, go_list (K := K) (a := ll) (xs := ixV (liveIx ks (bearOf ks) kd.name)) (fun q J2 => Same HL J2 ∧ ∃ as2 : List Addr, J2 D = some (.lst (as2.map V.ref)) ∧ as2.length ≤ 4 * i + q ∧ Paired (LlAt J2) as2 ((ks.take i).flatMap (llK ks) ++ ((lvg ks kd.name).take q).map fun z => (kd.name, z))) ?_ ?_ ?_ ?_⟩
      · exact ⟨SJ, as, jD, by omega, by simpa using pa⟩
      · rintro q J2 _ ⟨S2, _⟩
        exact SqL.of (S2 _ _ ell)
      · rintro q y J2 hy ⟨S2, as2, jD2, la2, pa2⟩
        have hq := (List.getElem?_eq_some_iff.mp hy).1
        obtain ⟨i0, hi0, rfl⟩ := ixV_at hy
        have hq2 : q < (lvg ks kd.name).length := by unfold ixV at hq; rw [List.length_map] at hq; omega
        obtain ⟨gr, hgr, _⟩ := ats_mem.mp (List.mem_of_getElem? hi0)
        have e1 : grAt ks kd.name i0 = gr := grAt_at hgr
        rw [egs] at hgr
        have hlv : (lvg ks kd.name)[q]? = some (i0, gr) := by unfold lvg; rw [List.getElem?_map, hi0, ← e1]; rfl
        have tkq : (lvg ks kd.name).take (q + 1) = (lvg ks kd.name).take q ++ [(i0, gr)] := by rw [List.take_add_one, hlv]; rfl
        refine ⟨rfl, tYes_go (iteT ?_)⟩
        refine ⟨_, rfl, _, rfl, _, rfl, _, rfl, b, rows, ks, kd.name, rfl, hAL.ts (TSame.of S2), nd, List.mem_map_of_mem mk, fun ka kd2 mk2 kn hk => ?_⟩
        obtain rfl := kd_one nd mk2 mk kn
        obtain ⟨gt, gas2, f1, f2, f3⟩ := hk
        obtain ⟨ga, hga, eGr⟩ := paired_at2 f3 hgr
        refine ⟨ka, _, 3, .ref gt, rfl, rfl, SqT.of f1, rfl, _, rfl, gt, _, _, .ref ga, rfl, rfl, SqT.of f2, atI_nat (by rw [List.getElem?_map, hga]; rfl), ?_⟩
        refine ⟨sz (by show 3 ≤ 900; decide), fun t nt => ?_⟩
        have St := same_upd (o := .tup [kV (Sum.inr kd2.name), .int (i0 : Int), .ref ga]) nt
        have et : upd J2 t (.tup [kV (Sum.inr kd2.name), .int (i0 : Int), .ref ga]) t = some (.tup [.str kd2.name, .int (i0 : Int), .ref ga]) := upd_same
        have S5 := KaG.Same.tr S2 St
        have jD5 := St _ _ jD2
        have pa5 := Paired.mono' (fun _ _ e => LlAt.ts e (TSame.of St)) pa2
        have eG5 := eGr.ts (TSame.of St)
        generalize upd J2 t (.tup [kV (Sum.inr kd2.name), .int (i0 : Int), .ref ga]) = J5 at et S5 jD5 pa5 eG5 ⊢
        have tsl := ts_lst (ys := as2.map V.ref ++ [V.ref t]) jD5
        refine ⟨_, jD5, small1000 (by rw [List.length_map]; omega), fun b u e => by rw [upd_ne (ne_of_none e nD)]; exact S5 b u e, as2 ++ [t], by rw [upd_same, List.map_append]; rfl, by rw [List.length_append, List.length_singleton]; omega, ?_⟩
        rw [tkq, List.map_append, ← List.append_assoc]
        exact paired_app (Paired.mono' (fun _ _ e => LlAt.ts e tsl) pa5) (.cons ⟨ga, tsl _ _ et, eG5.ts tsl⟩ .nil)
      · rintro J2 ⟨S2, as2, jD2, la2, pa2⟩
        have ll' : (ixV (liveIx ks (bearOf ks) kd.name)).length = (lvg ks kd.name).length := by unfold ixV; rw [List.length_map, lvl]
        rw [ll'] at la2 pa2
        rw [List.take_length] at pa2
        refine ⟨S2, as2, jD2, by omega, ?_⟩
        rw [tk, List.flatMap_append]
        have e : [kd].flatMap (llK ks) = (lvg ks kd.name).map fun z => (kd.name, z) := by simp [llK]
        rw [e]
        exact pa2
    · rintro J ⟨SJ, as, jD, la, pa⟩
      have jd := SJ _ _ hdL
      have Dd : D ≠ d := fun z => by rw [z, hdL] at nD; cases nD
      rw [lk, List.take_length, ← liveL_eq] at pa
      refine ⟨jd, ?_⟩
      have nDH : H D = none := X1.non _ (nonL _ nD)
      exact k D as _ (X1.tr (Ex.same X1.tab (un J SJ))) nDH (by rw [upd_ne Dd]; exact jD) (Paired.mono' (fun _ _ e => LlAt.ts e (ts_fz jd)) pa)
abbrev sHrw : Stmt := top 16
abbrev nmHrw : List Str := ["ground", "rows", "need"]
theorem scHrw : FnScope nmHrw ["ground", "rows"] (defScope sHrw) := ⟨rfl, rfl, rfl, by decide +kernel, rfl, by decide +kernel, by decide +kernel⟩
def spHrw : Sp := fun vs H Q _ => ∃ (ga sa : Addr) (rows names S : List Str) (g : Gr), vs = [.ref ga, .ref sa] ∧ Grd H ga g ∧ GrOk rows names g ∧ Sq2 H sa (S.map V.str) ∧ ∀ H', Same H H' → Q (.bl (bdG S g)) H'
theorem ok_Hrw {f : Addr} {fd : FuncData} (F : Fun K "_has_row" "_has_row" sHrw f fd) (hany : mg "any" = none) : FnOk P w K mg base CX0 1 f fd ["ground", "rows"] spHrw := by
  refine F.ok scHrw (fun vs H Q E h => ?_) (fun cdv A outer s H vs Q E hr h => ?_)
  · obtain ⟨ga, sa, rows, names, S, g, rfl, _⟩ := h
    rfl
  · obtain ⟨ga, sa, rows, names, S, g, rfl, ⟨ns, eg, pn⟩, hg, hS, k⟩ := h
    refine ⟨_, (pss_one (ps_ret (pe_callB (r := rAny K) (cr_any rfl) (by rfl) hany (by decide +kernel) (pa_cons (pe_lc (own := [("need", 2)]) (g := gName 2) (tt := tYes) (te := tAndV (tOp rEq (tOp (rIxT K) (tVar 2) (tC (.int 0))) (tC (.str "row"))) (tOp (rIn K false) (tOp (rIxT K) (tVar 2) (tC (.int 1))) (tVar 1))) (by rfl) scHrw.nd
        (pi_tup (pv 0))
        (blkOk_by (own := [("need", 2)]) (N := nmHrw) (sc := defScope sHrw) (by decide +kernel)) (fun _ _ _ _ _ => pg_name (i := 2) scHrw.nd rfl (Or.inl rfl)) (fun _ _ _ _ _ => pts_nil)
        (fun _ _ _ _ _ => pe_and (pe_cmpR (r := rEq) op_eq (pe_ix (r := rIxT K) ix_tup (pv 2) pe_int (fun _ _ => rfl)) pe_str (nomark _)) (pe_one (pe_cmpR (r := rIn K false) op_in_seq (pe_ix (r := rIxT K) ix_tup (pv 2) pe_int (fun _ _ => rfl)) (pv 1) rfl)))) pa_nil)))), ?_⟩
    have lns := paired_len pn
    have g3 := hg.len
    refine ⟨_, rfl, ga, rfl, ⟨_, SqT.of eg⟩, fun D hD => ?_⟩
    dsimp only [tNil]
    refine go_tup (K := K) (a := ga) (xs := ns.map V.ref) (fun j J => Same H J ∧ J D = some (.lst (((g.take j).map (rwS S)).map V.bl))) ?_ ?_ ?_ ?_
    · exact ⟨same_upd hD, upd_same⟩
    · rintro j J _ ⟨SJ, _⟩
      exact SqT.of (SJ _ _ eg)
    · rintro j v J hv ⟨SJ, jD⟩
      rw [List.getElem?_map] at hv
      obtain ⟨na, hna, rfl⟩ := Option.map_eq_some_iff.mp hv
      obtain ⟨it, hit, en⟩ := paired_at pn hna
      have nv := hg.nv it (List.mem_of_getElem? hit)
      have enJ := SJ _ _ en
      have put : ∀ c : Bool, rwS S it = c → ∃ acc, J D = some (.lst acc) ∧ acc.length < sizeLine ∧ Same H (upd J D (.lst (acc ++ [.bl c]))) ∧ upd J D (.lst (acc ++ [.bl c])) D = some (.lst (((g.take (j + 1)).map (rwS S)).map V.bl)) := fun c hc => by
        refine ⟨_, jD, small1000 (by rw [List.length_map, List.length_map, List.length_take]; omega), fun b u e => by rw [upd_ne (ne_of_none e hD)]; exact SJ b u e, ?_⟩
        rw [upd_same, List.take_add_one, hit, Option.toList_some, List.map_append, List.map_append, ← hc]
        rfl
      refine ⟨rfl, tYes_go (iteT ?_)⟩
      cases nv with
      | row nm t m =>
        refine ⟨_, rfl, na, _, 0, .str "row", rfl, rfl, SqT.of enJ, rfl, rfl, _, rfl, iteD (by decide +kernel) ?_⟩
        refine ⟨_, rfl, na, _, 1, .str nm, rfl, rfl, SqT.of enJ, rfl, _, rfl, sa, S.map V.str, rfl, (hS.same SJ).imp SqL.of SqT.of, rfl, flat_strs, ?_⟩
        rw [show (if false = true then !inV (V.str nm) (List.map V.str S) else inV (V.str nm) (List.map V.str S)) = decide (nm ∈ S) from inV_str]
        exact put _ rfl
      | kind nm a t m =>
        refine ⟨_, rfl, na, _, 0, .str "kind", rfl, rfl, SqT.of enJ, rfl, rfl, _, rfl, iteDF (by decide +kernel) ?_⟩
        exact put false rfl
    · rintro J ⟨SJ, jD⟩
      rw [List.length_map, lns, List.take_length] at jD
      refine ⟨D, g.map (rwS S), rfl, SqL.of jD, ?_⟩
      rw [List.any_map]
      exact k J SJ
end
end KaG
set_option maxRecDepth 100000
set_option maxHeartbeats 2000000
namespace KaG
open PySem PySem.Spec PyProof.Rows L2 RZ
/-- the tuple at a and the list at b, as they stand at each turn -/
def ItzM (K : PySem.W.Frag) (a b : Addr) : It where
  go := fun i H => ∃ (xs ys : List V) (x y : V), (SqT K H a xs ∧ xs[i]? = some x) ∧ SqL K H b ys ∧ ys[i]? = some y
  yld := fun i H v H' => ∃ T x y, (v = .ref T ∧ H T = none ∧ H' = upd H T (.tup [x, y])) ∧ (∀ xs, SqT K H a xs → xs[i]? = some x) ∧ ∀ ys, SqL K H b ys → ys[i]? = some y
  stop := fun i H => ∃ xs ys : List V, (SqT K H a xs ∧ SqL K H b ys) ∧ (i = xs.length ∨ i = ys.length) ∧ i ≤ xs.length ∧ i ≤ ys.length
abbrev zfp (z TI TO i1 i2 : Addr) : List Addr := [z, TI, TO, i1, i2]
theorem turn_zipM {P : Program} {w : World} {K : PySem.W.Frag} {es : List Expr} {n : Nat} {tp : Pos} {a b z TI TO i1 i2 : Addr} (S : ZipSep2 z TI TO i1 i2 [i1, a] [i2, b]) :
    Turn P w K (.Tuple es n tp) (ItzM K a b) (zfp z TI TO i1 i2) z (fun i h => (IsZip h z TI TO .none ∧ IsTupOf2 h TI (.ref i1) (.ref i2)) ∧ (∃ x y, IsTupOf2 h TO x y) ∧ h.IsTupleIter i1 a i ∧ h.IsListIter i2 b i) := by
  have ca : ∀ {c : Addr}, c ∈ zfp z TI TO i1 i2 → c = z ∨ c = TI ∨ c = TO ∨ c = i1 ∨ c = i2 := fun m => by simpa using m
  have out : ∀ {c : Addr}, c ∉ zfp z TI TO i1 i2 → c ≠ z ∧ c ≠ TI ∧ c ≠ TO ∧ c ≠ i1 ∧ c ≠ i2 := fun m => by simpa [not_or] using m
  have a1 : a ≠ i1 ∨ a = i1 := (Classical.em (a = i1)).symm
  refine ⟨by simp, ?_, ?_, ?_, ?_, ?_⟩
  · rintro i h ⟨⟨g1, g2⟩, ⟨x, y, g3⟩, ⟨oa, ea, _, da⟩, ⟨ob, eb, _, db⟩⟩ c mc
    rcases ca mc with rfl | rfl | rfl | rfl | rfl
    · exact ⟨_, g1, fun v => nofun⟩
    · exact ⟨_, g2, fun v => nofun⟩
    · exact ⟨_, g3, fun v => nofun⟩
    · exact ⟨oa, ea, fun v q => by rw [da] at q; nomatch q⟩
    · exact ⟨ob, eb, fun v q => by rw [db] at q; nomatch q⟩
  · rintro i h h' ⟨⟨g1, g2⟩, ⟨x, y, g3⟩, g4, g5⟩ kp
    have m1 : z ∈ zfp z TI TO i1 i2 := by simp
    have m2 : TI ∈ zfp z TI TO i1 i2 := by simp
    have m3 : TO ∈ zfp z TI TO i1 i2 := by simp
    have m4 : i1 ∈ zfp z TI TO i1 i2 := by simp
    have m5 : i2 ∈ zfp z TI TO i1 i2 := by simp
    exact ⟨⟨kp _ m1 _ g1, kp _ m2 _ g2⟩, ⟨x, y, kp _ m3 _ g3⟩, g4.at fun o q => kp _ m4 o q, g5.at fun o q => kp _ m5 o q⟩
  · intro X hP hw hK hc i pins s σ H E I hf st hg
    subst hP hw hK
    obtain ⟨⟨g1, g2⟩, ⟨x0, y0, g3⟩, g4, g5⟩ := st
    obtain ⟨xs, ys, x, y, ⟨qx, hx⟩, qy, hy⟩ := hg
    obtain ⟨ia, ra, pa, _⟩ := I.tuple qx
    obtain ⟨ib, rb, pb, _⟩ := I.list qy
    obtain ⟨u, hu, ru⟩ := ra.get hx
    obtain ⟨v, hv, rv⟩ := rb.get hy
    have zl : z < s.heap.objs.size := Heap.lt_size g1
    have la : a ≠ i1 := fun q => by
      obtain ⟨o, e, c, _⟩ := g4
      obtain ⟨o2, e2, c2, _⟩ := pa
      rw [q, e] at e2
      injection e2 with e2
      rw [← e2, c] at c2
      exact absurd c2 (by decide)
    have lb : b ≠ i2 := fun q => by
      obtain ⟨o, e, c, _⟩ := g5
      obtain ⟨o2, e2, c2, _⟩ := pb.isList
      rw [q, e] at e2
      injection e2 with e2
      rw [← e2, c] at c2
      exact absurd c2 (by decide)
    have hh : X.A.in1.handled = none := I.ok.hd hc
    have ha : i < ia.toArray.size := by
      have := (List.getElem?_eq_some_iff.mp hu).1
      simpa using this
    have hb : i < ib.toArray.size := by
      have := (List.getElem?_eq_some_iff.mp hv).1
      simpa using this
    refine wpAny_pyNext_zipD2_item S (Draws.tuple hh i1 a la ia.toArray) (Draws.list hh i2 b lb ib.toArray) g1 g2 g3 ⟨g4, pa⟩ ⟨g5, pb.isList⟩ ha hb fun x1 x2 h' tk y1 y2 b1 b2 d1 d2 b5 b6 b7 => ?_
    obtain rfl : u = x1 := by
      have e : ia[i]? = some x1 := by simpa using y1
      rw [hu] at e
      exact Option.some.inj e
    obtain rfl : v = x2 := by
      have e : ib[i]? = some x2 := by simpa using y2
      rw [hv] at e
      exact Option.some.inj e
    refine ⟨_, rfl, wpAny_letOwnedTupleGo_zip (s := { s with heap := h', toks := tk }) b1 fun h2 z2 sb => ?_⟩
    have far : ∀ {c : Addr}, c < s.heap.objs.size → c ≠ s.heap.objs.size := fun h => Nat.ne_of_lt h
    have eT : h2.get? s.heap.objs.size = some { cls := .type "tuple", data := .seq #[u, v] } := (sb.2 _ (Nat.ne_of_gt zl)).trans b5
    have fresh : ObjOk X.prog X.w (upd H s.heap.objs.size (.tup [x, y])) h2 s.heap.objs.size (.tup [x, y]) := ⟨(by decide : 2 ≤ sizeLine), [u, v], .cons ru (.cons rv .nil), _, eT, rfl, _, rfl⟩
    have J : Inv X pins σ (upd H s.heap.objs.size (.tup [x, y])) { s with heap := h2, toks := tk } :=
      I.turnedNew (t' := tk) (ch := zfp z TI TO i1 i2) (fun c o m q => by
        obtain ⟨n1, n2, n3, n4, n5⟩ := out m
        exact (sb.2 c n1).trans (b7 c o n1 n3 n4 n5 q)) hf (Nat.le_refl _) fresh
    refine ⟨.ref s.heap.objs.size, _, J, rfl, ⟨_, x, y, ⟨rfl, I.hok.fresh (Nat.le_refl _), rfl⟩, fun l hl => by rw [I.tuple_inj hl qx]; exact hx, fun l hl => by rw [I.list_inj hl qy]; exact hy⟩, ⟨⟨z2, ?_⟩, ⟨u, v, ?_⟩, ?_, ?_⟩, fun c mc => ?_⟩
    · exact (sb.2 _ S.TIz).trans (b7 _ _ S.TIz S.TITO S.TIi1 S.TIi2 g2)
    · exact (sb.2 _ S.TOz).trans b2
    · exact d1.1.at fun o q => (sb.2 _ (Ne.symm S.zi1)).trans q
    · exact d2.1.at fun o q => (sb.2 _ (Ne.symm S.zi2)).trans q
    · have lt : c < s.heap.objs.size := by
        rcases ca mc with rfl | rfl | rfl | rfl | rfl
        · exact zl
        · exact Heap.lt_size g2
        · exact Heap.lt_size g3
        · obtain ⟨_, q, _⟩ := g4; exact Heap.lt_size q
        · obtain ⟨_, q, _⟩ := g5; exact Heap.lt_size q
      rw [upd_ne (far lt)]
      exact (hf c mc).1
  · intro X hP hw hK hc i pins s σ H E I hf st hg
    subst hP hw hK
    obtain ⟨⟨g1, g2⟩, ⟨x0, y0, g3⟩, g4, g5⟩ := st
    obtain ⟨xs, ys, ⟨qx, qy⟩, en, lx, ly⟩ := hg
    obtain ⟨ia, ra, pa, _⟩ := I.tuple qx
    obtain ⟨ib, rb, pb, _⟩ := I.list qy
    have l1 := ra.length
    have l2 := rb.length
    have la : a ≠ i1 := fun q => by
      obtain ⟨o, e, c, _⟩ := g4
      obtain ⟨o2, e2, c2, _⟩ := pa
      rw [q, e] at e2
      injection e2 with e2
      rw [← e2, c] at c2
      exact absurd c2 (by decide)
    have lb : b ≠ i2 := fun q => by
      obtain ⟨o, e, c, _⟩ := g5
      obtain ⟨o2, e2, c2, _⟩ := pb.isList
      rw [q, e] at e2
      injection e2 with e2
      rw [← e2, c] at c2
      exact absurd c2 (by decide)
    have hh : X.A.in1.handled = none := I.ok.hd hc
    have z1 : ia.toArray.size = xs.length := by simp; omega
    have z2 : ib.toArray.size = ys.length := by simp; omega
    refine wpAny_pyNext_zipD2_end S (Draws.tuple hh i1 a la ia.toArray) (Draws.list hh i2 b lb ib.toArray) g1 g2 g3 ⟨g4, pa⟩ ⟨g5, pb.isList⟩ (by omega) (by omega) (by omega) fun h' tk kp => ⟨rfl, I.turnedL (t' := tk) (ch := zfp z TI TO i1 i2) (fun c o m q => by
      obtain ⟨n1, n2, n3, n4, n5⟩ := out m
      exact kp c o n1 n3 n4 n5 q) hf⟩
  · exact fun A i s Q E st h => wpAny_pyIter_zip st.1.1 h
def iZipM (K : PySem.W.Frag) (ta : TA) : TI := fun σ H R => ta σ H fun vs H1 => ∃ (a b : Addr) (xs ys : List V), vs = [.ref a, .ref b] ∧ SqT K H1 a xs ∧ SqL K H1 b ys ∧ R (ItzM K a b) H1
theorem pi_zipM {X : Cx} {e e2 : Expr} {ta : TA} {p pos tp : Pos} {es : List Expr} {n : Nat} (hg : Gl X "zip") (hm : X.mg "zip" = none) (ha : PA X [e, e2] ta)
    (hs : starEach [e, e2] X.env = (false, eval e X.env) :: starEach [e2] X.env := by rfl) (hp : (backTo pos (starEach [e2] X.env)).any (·.1) = false := by rfl) :
    PI X (.Tuple es n tp) (.Call (.Name "zip" p) [e, e2] [] pos) (iZipM X.K ta) := ⟨fun pins s σ H R I h => by
  refine Call_ (ld_blt I hg hm PyProof.Rows.boot_zip (PyProof.Rows.callWith_type1 (thn (ha.run pos pins s σ H _ I h) fun us s1 ⟨vs, H1, I1, r1, a, b, xs, ys, ev, qx, qy, q⟩ => ?_) hs hp))
  subst ev
  cases r1 with
  | cons ra rr => cases rr with
    | cons rb rr =>
      cases rr
      cases ra
      cases rb
      obtain ⟨ia, va, pa, _⟩ := I1.tuple qx
      obtain ⟨ib, vb, pb, _⟩ := I1.list qy
      have la : a < s1.heap.objs.size := by
        obtain ⟨_, q, _⟩ := pa
        exact Heap.lt_size q
      have lb : b < s1.heap.objs.size := pb.lt
      refine zip_begins2 (begins_tuple a ia.toArray) (begins_list b ib.toArray) pa pb.isList fun h' k1 k2 k3 k4 k5 k6 k7 => wpAny_pyIter_zip k1 ?_
      have J : Inv X pins σ H1 { s1 with heap := h' } := I1.kept (t' := s1.toks) k7
      refine ⟨s1.heap.objs.size + 4, zfp (s1.heap.objs.size + 4) (s1.heap.objs.size + 2) (s1.heap.objs.size + 3) s1.heap.objs.size (s1.heap.objs.size + 1), _, _, H1, rfl, J, turn_zipM (zip_sep2 (fp1 := [a]) (fp2 := [b]) (fun c m => by rw [List.mem_singleton.mp m]; exact la) (fun c m => by rw [List.mem_singleton.mp m]; exact lb)), ⟨⟨k1, k2⟩, ⟨_, _, k3⟩, ⟨_, k4, rfl, rfl⟩, ⟨_, k5, rfl, rfl⟩⟩, fun c mc => ?_, q⟩
      have le : s1.heap.objs.size ≤ c := by
        have m : c = s1.heap.objs.size + 4 ∨ c = s1.heap.objs.size + 2 ∨ c = s1.heap.objs.size + 3 ∨ c = s1.heap.objs.size ∨ c = s1.heap.objs.size + 1 := by simpa using mc
        rcases m with e | e | e | e | e <;> rw [e] <;> first | exact Nat.le_add_right _ _ | exact Nat.le_refl _
      exact I1.fpOk le (I1.hok.fresh le)⟩
/-- a loop over zip of a tuple and a list of one length -/
theorem for_zipM {K : PySem.W.Frag} {a b : Addr} {xs ys : List V} {g : TG} {tb : TS} {D : Ends} {σ : L2.St} {H : Hp} (hl : xs.length = ys.length) (Pv : Nat → L2.St → Hp → Prop) (h0 : Pv 0 σ H) (hq : ∀ i σ H, Pv i σ H → SqT K H a xs ∧ SqL K H b ys)
    (hs : ∀ (i : Nat) (x y : V) (T : Addr) (σ : L2.St) (H : Hp), (xs[i]? = some x ∧ ys[i]? = some y) → Pv i σ H → H T = none → g (.ref T) σ (upd H T (.tup [x, y])) fun σ2 H2 => tb { D with nx := Pv (i + 1), ct := Pv (i + 1), bk := D.nx } σ2 H2) (hd : ∀ σ H, Pv xs.length σ H → D.nx σ H) :
    ∃ W : Nat → Nat → L2.St → Hp → Prop, (∃ m, W 0 m σ H) ∧ ∀ i m σ H, W i m σ H →
      ((ItzM K a b).stop i H ∧ D.nx σ H) ∨ ((ItzM K a b).go i H ∧ ∃ N : L2.St → Hp → Prop, (∀ σ' H', N σ' H' → ∃ m', m' < m ∧ W (i + 1) m' σ' H') ∧ ∀ v H', (ItzM K a b).yld i H v H' → g v σ H' fun σ2 H2 => tb { D with nx := N, ct := N, bk := D.nx } σ2 H2) := by
  refine ⟨fun i m σ H => m = xs.length - i ∧ i ≤ xs.length ∧ Pv i σ H, ⟨_, rfl, Nat.zero_le _, h0⟩, fun i m σ H ⟨em, hi, p⟩ => ?_⟩
  obtain ⟨qx, qy⟩ := hq i σ H p
  rcases Nat.lt_or_ge i xs.length with lt | ge
  · refine .inr ⟨⟨xs, ys, xs[i], ys[i], ⟨qx, List.getElem?_eq_getElem lt⟩, qy, List.getElem?_eq_getElem (by omega)⟩, Pv (i + 1), fun σ' H' p' => ⟨xs.length - (i + 1), by omega, rfl, lt, p'⟩, fun v H' ⟨T, x, y, ⟨e1, e2, e3⟩, f1, f2⟩ => ?_⟩
    subst e1; subst e3
    exact hs i x y T σ H ⟨f1 xs qx, f2 ys qy⟩ p e2
  · obtain rfl : i = xs.length := by omega
    exact .inl ⟨⟨xs, ys, ⟨qx, qy⟩, .inl rfl, Nat.le_refl _, by omega⟩, hd σ H p⟩
end KaG
set_option maxRecDepth 100000
set_option maxHeartbeats 4000000
namespace KaG
open PySem PySem.Spec PyProof.Rows L2 KaC KaN LamX NdefX KaU
def kvT (T : Tb) (as : List Addr) : List (Key × V) := (T.zip as).map fun z => ((Sum.inr z.1.1 : Key), V.ref z.2)
structure TbAt (H : Hp) (d : Addr) (T : Tb) (as : List Addr) : Prop where
  d : H d = some (.dK (kvT T as))
  l : Paired (fun a (e : Str × Tr) => Rep H (.ref a) e.2.dt) as T
theorem TbAt.keep {H H' : Hp} {d : Addr} {T : Tb} {as : List Addr} (h : TbAt H d T as) (kd : ∀ kvs, H d = some (.dK kvs) → H' d = some (.dK kvs)) (s : TSame H H') : TbAt H' d T as := ⟨kd _ h.d, Paired.mono' (fun _ e q => tr_ts s e.2 q) h.l⟩
theorem TbAt.same {H H' : Hp} {d : Addr} {T : Tb} {as : List Addr} (h : TbAt H d T as) (s : Same H H') : TbAt H' d T as := h.keep (fun _ e => s _ _ e) (TSame.of s)
theorem kvT_len {T : Tb} {as : List Addr} (h : as.length = T.length) : (kvT T as).length = T.length := by
  unfold kvT
  rw [List.length_map, List.length_zip, h, Nat.min_self]
theorem kvT_keys : ∀ {T : Tb} {as : List Addr}, as.length = T.length → (kvT T as).map (·.1) = (T.map (·.1)).map Sum.inr
  | [], [], _ => rfl
  | [], _ :: _, h => nomatch h
  | _ :: _, [], h => nomatch h
  | e :: T, a :: as, h => by
    show Sum.inr e.1 :: (kvT T as).map (·.1) = _
    rw [kvT_keys (by simpa using h)]; rfl
theorem kvT_val {H : Hp} {n : Str} : ∀ {T : Tb} {as : List Addr}, Paired (fun a (e : Str × Tr) => Rep H (.ref a) e.2.dt) as T → (tget T n = none ∧ valV (kvT T as) (Sum.inr n) = none) ∨ ∃ t a, tget T n = some t ∧ valV (kvT T as) (Sum.inr n) = some (.ref a) ∧ Rep H (.ref a) t.dt
  | _, _, .nil => .inl ⟨rfl, rfl⟩
  | e :: T, a :: as, .cons h r => by
    have ih := kvT_val (n := n) r
    show (tget (e :: T) n = none ∧ valV ((Sum.inr e.1, V.ref a) :: kvT T as) (Sum.inr n) = none) ∨ ∃ t b, tget (e :: T) n = some t ∧ valV ((Sum.inr e.1, V.ref a) :: kvT T as) (Sum.inr n) = some (.ref b) ∧ Rep H (.ref b) t.dt
    by_cases c : e.1 = n
    · refine .inr ⟨e.2, a, ?_, ?_, h⟩
      · unfold tget
        rw [List.find?_cons_of_pos (p := fun e : Str × Tr => decide (e.1 = n)) (decide_eq_true c)]; rfl
      · unfold valV
        rw [List.find?_cons_of_pos (p := fun kv : Key × V => decide (kv.1 = Sum.inr n)) (by rw [c]; exact decide_eq_true rfl)]; rfl
    · have e1 : tget (e :: T) n = tget T n := by
        unfold tget
        rw [List.find?_cons_of_neg (p := fun e : Str × Tr => decide (e.1 = n)) (by simpa using c)]
      have e2 : valV ((Sum.inr e.1, V.ref a) :: kvT T as) (Sum.inr n) = valV (kvT T as) (Sum.inr n) := by
        unfold valV
        rw [List.find?_cons_of_neg (p := fun kv : Key × V => decide (kv.1 = Sum.inr n)) (by simpa using c)]
      rw [e1, e2]
      exact ih
def TrL.app : TrL → TrL → TrL
  | .nil, q => q
  | .row r, q => .row (r.app q)
  | .kid t r, q => .kid t (r.app q)
theorem app_dt : ∀ (p q : TrL), (p.app q).dt = p.dt ++ q.dt
  | .nil, q => by rw [TrL.app, TrL.dt]; rfl
  | .row r, q => by rw [TrL.app, TrL.dt, TrL.dt, app_dt r q]; rfl
  | .kid t r, q => by rw [TrL.app, TrL.dt, TrL.dt, app_dt r q]; rfl
theorem parts_row {it : List V} {T : Tb} (e : kdOf it = none) : ∀ {a : Gr} {A : List Tb} {ps : TrL}, a.length = A.length → partsOf a A = some ps → partsOf (a ++ [it]) (A ++ [T]) = some (ps.app (.row .nil))
  | [], [], ps, _, h => by
    rw [partsOf] at h
    · cases h
      show partsOf [it] [T] = _
      rw [partsOf, e]; rfl
    · exact fun _ _ _ _ h => nomatch h
  | x :: a, X :: A, ps, l, h => by
    rw [List.cons_append, List.cons_append]
    have l : a.length = A.length := by simpa using l
    cases ex : kdOf x with
    | none =>
      have h1 : partsOf (x :: a) (X :: A) = (partsOf a A).map .row := by rw [partsOf, ex]
      have h2 : partsOf (x :: (a ++ [it])) (X :: (A ++ [T])) = (partsOf (a ++ [it]) (A ++ [T])).map .row := by rw [partsOf, ex]
      rw [h1] at h
      obtain ⟨q, hq, rfl⟩ := Option.map_eq_some_iff.mp h
      rw [h2, parts_row e l hq]; rfl
    | some m =>
      cases et : tget X m with
      | none => rw [partsOf, ex] at h; dsimp only at h; rw [et] at h; cases h
      | some t =>
        have h1 : partsOf (x :: a) (X :: A) = (partsOf a A).map (.kid t) := by rw [partsOf, ex]; dsimp only; rw [et]
        have h2 : partsOf (x :: (a ++ [it])) (X :: (A ++ [T])) = (partsOf (a ++ [it]) (A ++ [T])).map (.kid t) := by rw [partsOf, ex]; dsimp only; rw [et]
        rw [h1] at h
        obtain ⟨q, hq, rfl⟩ := Option.map_eq_some_iff.mp h
        rw [h2, parts_row e l hq]; rfl
  | [], _ :: _, _, l, _ => nomatch l
  | _ :: _, [], _, l, _ => nomatch l
theorem parts_kid {it : List V} {T : Tb} {m : Str} {t : Tr} (e : kdOf it = some m) (ht : tget T m = some t) : ∀ {a : Gr} {A : List Tb} {ps : TrL}, a.length = A.length → partsOf a A = some ps → partsOf (a ++ [it]) (A ++ [T]) = some (ps.app (.kid t .nil))
  | [], [], ps, _, h => by
    rw [partsOf] at h
    · cases h
      show partsOf [it] [T] = _
      rw [partsOf, e]; dsimp only; rw [ht]; rfl
    · exact fun _ _ _ _ h => nomatch h
  | x :: a, X :: A, ps, l, h => by
    rw [List.cons_append, List.cons_append]
    have l : a.length = A.length := by simpa using l
    cases ex : kdOf x with
    | none =>
      have h1 : partsOf (x :: a) (X :: A) = (partsOf a A).map .row := by rw [partsOf, ex]
      have h2 : partsOf (x :: (a ++ [it])) (X :: (A ++ [T])) = (partsOf (a ++ [it]) (A ++ [T])).map .row := by rw [partsOf, ex]
      rw [h1] at h
      obtain ⟨q, hq, rfl⟩ := Option.map_eq_some_iff.mp h
      rw [h2, parts_kid e ht l hq]; rfl
    | some m' =>
      cases et : tget X m' with
      | none => rw [partsOf, ex] at h; dsimp only at h; rw [et] at h; cases h
      | some t' =>
        have h1 : partsOf (x :: a) (X :: A) = (partsOf a A).map (.kid t') := by rw [partsOf, ex]; dsimp only; rw [et]
        have h2 : partsOf (x :: (a ++ [it])) (X :: (A ++ [T])) = (partsOf (a ++ [it]) (A ++ [T])).map (.kid t') := by rw [partsOf, ex]; dsimp only; rw [et]
        rw [h1] at h
        obtain ⟨q, hq, rfl⟩ := Option.map_eq_some_iff.mp h
        rw [h2, parts_kid e ht l hq]; rfl
  | [], _ :: _, _, l, _ => nomatch l
  | _ :: _, [], _, l, _ => nomatch l
theorem parts_off {it : List V} {T : Tb} {m : Str} (e : kdOf it = some m) (ht : tget T m = none) {b : Gr} {B : List Tb} : ∀ {a : Gr} {A : List Tb}, a.length = A.length → partsOf (a ++ it :: b) (A ++ T :: B) = none
  | [], [], _ => by
    show partsOf (it :: b) (T :: B) = none
    rw [partsOf, e]; dsimp only; rw [ht]
  | x :: a, X :: A, l => by
    have ih := parts_off (b := b) (B := B) e ht (a := a) (A := A) (by simpa using l)
    rw [List.cons_append, List.cons_append, partsOf]
    cases kdOf x with
    | none => rw [ih]; rfl
    | some m' =>
      dsimp only
      cases tget X m' with
      | none => rfl
      | some t' => rw [ih]; rfl
  | [], _ :: _, l => nomatch l
  | _ :: _, [], l => nomatch l
theorem repA_app {H : Hp} : ∀ {xs ys : List V} {ds es : List PyData}, RepA H xs ds → RepA H ys es → RepA H (xs ++ ys) (ds ++ es)
  | _, _, _, _, .nil, h => h
  | _, _, _, _, .cons a r, h => .cons a (repA_app r h)
theorem repA_len {H : Hp} : ∀ {xs : List V} {ds : List PyData}, RepA H xs ds → xs.length = ds.length
  | _, _, .nil => rfl
  | _, _, .cons _ r => by rw [List.length_cons, List.length_cons, repA_len r]
theorem parts_len : ∀ {g : Gr} {Ts : List Tb} {ps : TrL}, partsOf g Ts = some ps → ps.dt.length ≤ g.length
  | [], _, ps, h => by
    rw [partsOf] at h
    · cases h; rw [TrL.dt]; exact Nat.le_refl _
    · exact fun _ _ _ _ h => nomatch h
  | _ :: _, [], ps, h => by
    rw [partsOf] at h
    · cases h; rw [TrL.dt]; exact Nat.zero_le _
    · exact fun _ _ _ _ _ h => nomatch h
  | x :: g, X :: Ts, ps, h => by
    rw [partsOf] at h
    cases ex : kdOf x with
    | none =>
      rw [ex] at h
      obtain ⟨q, hq, rfl⟩ := Option.map_eq_some_iff.mp h
      rw [TrL.dt]
      exact Nat.succ_le_succ (parts_len hq)
    | some m' =>
      rw [ex] at h
      dsimp only at h
      cases et : tget X m' with
      | none => rw [et] at h; cases h
      | some t' =>
        rw [et] at h
        obtain ⟨q, hq, rfl⟩ := Option.map_eq_some_iff.mp h
        rw [TrL.dt]
        exact Nat.succ_le_succ (parts_len hq)
section
variable {P : Program} {w : World} {K : PySem.W.Frag} {mg : Str → Option Value} {base : Heap}
abbrev sPo : Stmt := top 17
abbrev nmPo : List Str := ["ground", "tables", "parts", "need", "trees"]
theorem scPo : FnScope nmPo ["ground", "tables"] (defScope sPo) := ⟨rfl, rfl, rfl, by decide +kernel, rfl, by decide +kernel, by decide +kernel⟩
def spPo : Sp := fun vs H Q _ => ∃ (ga l : Addr) (rows names : List Str) (g : Gr) (ds : List Addr) (Ts : List Tb), vs = [.ref ga, .ref l] ∧ Grd H ga g ∧ GrOk rows names g ∧ H l = some (.lst (ds.map V.ref)) ∧ Paired (fun d T => ∃ as, TbAt H d T as) ds Ts ∧ g.length = Ts.length ∧
  (∀ H', Same H H' → partsOf g Ts = none → Q .non H') ∧ ∀ (p : Addr) (xs : List V) (ps : TrL) (H' : Hp), Same H H' → H p = none → partsOf g Ts = some ps → H' p = some (.tup xs) → RepA H' xs ps.dt → Q (.ref p) H'
theorem ok_Po {f : Addr} {fd : FuncData} (F : Fun K "_parts_of" "_parts_of" sPo f fd) (TC : TxtC mg) (hzip : mg "zip" = none) : FnOk P w K mg base CX0 1 f fd ["ground", "tables"] spPo := by
  refine F.ok scPo (fun vs H Q E h => ?_) (fun cdv A outer s H vs Q E hr h => ?_)
  · obtain ⟨ga, l, rows, names, g, ds, Ts, rfl, _⟩ := h
    rfl
  · obtain ⟨ga, l, rows, names, g, ds, Ts, rfl, hG, hg, el, pT, lT, k0, k1⟩ := h
    have u1 := hu_of hr
    refine ⟨_, (pss_cons (ps_set (i := 2) scPo.nd rfl (Or.inl rfl) (pe_lst pa_nil))
      (pss_cons (ps_for PassesOwn.never rfl (pi_zipM (by rfl) hzip (pa_cons (pv 0) (pa_cons (pv 1) pa_nil))) (pg_tup (by rfl) (pgs_cons (pg_name (i := 3) scPo.nd rfl (Or.inl rfl)) (pgs_cons (pg_name (i := 4) scPo.nd rfl (Or.inl rfl)) pgs_nil)))
        (pss_cons (ps_if (PW.pt (pw_and (pt_cmpR (r := rEq) op_eq (pe_ix (r := rIxT K) ix_tup (pv 3) pe_int (fun _ _ => rfl)) pe_str (nomark _)) (pw_and1 (pt_cmp (pc_dnotin u1 (pe_ix (r := rIxT K) ix_tup (pv 3) pe_int (fun _ _ => rfl)) (pv 4)))))) (pss_one (ps_ret pe_non)) pss_nil)
        (pss_one (ps_expr (pe_bm PySem.F.plainAttrs_list PySem.F.slot_list_append PySem.F.type_list_append mt_append (pv 2) (pa_cons (pe_ifExp (pt_cmpR (r := rEq) op_eq (pe_ix (r := rIxT K) ix_tup (pv 3) pe_int (fun _ _ => rfl)) pe_str (nomark _)) pe_non
          (pe_dget u1 (pv 4) (pe_ix (r := rIxT K) ix_tup (pv 3) pe_int (fun _ _ => rfl)) (fun _ _ => rfl))) pa_nil))))))
      (pss_one (ps_ret (pe_callTy call_tuple_of (by rfl) TC.tup (by decide +kernel) (pa_cons (pv 2) pa_nil)))))), ?_⟩
    obtain ⟨ns, eg, pn⟩ := hG
    have lns := paired_len pn
    have lds := paired_len pT
    have g3 := hg.len
    refine ⟨Nat.zero_le _, fun pl npl => ?_⟩
    have s0 := same_upd (o := .lst []) npl
    have e0 : upd H pl (.lst []) pl = some (.lst []) := upd_same
    have non0 : ∀ b, upd H pl (.lst []) b = none → H b = none := fun b e => upd_none e
    generalize upd H pl (.lst []) = H0 at s0 e0 non0 ⊢
    refine ⟨_, rfl, _, rfl, ga, l, ns.map V.ref, ds.map V.ref, rfl, SqT.of (s0 _ _ eg), SqL.of (s0 _ _ el), ?_⟩
    have gp : ga ≠ pl := fun z => by rw [z, npl] at eg; cases eg
    have lp : l ≠ pl := fun z => by rw [z, npl] at el; cases el
    refine for_zipM (K := K) (a := ga) (b := l) (xs := ns.map V.ref) (ys := ds.map V.ref) (by rw [List.length_map, List.length_map]; omega) (fun i σ' J => (∃ x3 x4 : Option V, σ' = [some (.ref ga), some (.ref l), some (.ref pl), x3, x4]) ∧ Same H J ∧ (∀ b, J b = none → H b = none) ∧ ∃ (xs : List V) (ps : TrL), J pl = some (.lst xs) ∧ partsOf (g.take i) (Ts.take i) = some ps ∧ RepA J xs ps.dt) ?_ ?_ ?_ ?_
    · refine ⟨⟨_, _, rfl⟩, s0, non0, [], .nil, e0, ?_, by rw [TrL.dt]; exact .nil⟩
      rw [List.take_zero, List.take_zero, partsOf]
      exact fun _ _ _ _ h => nomatch h
    · rintro i σ' J ⟨_, SJ, _⟩
      exact ⟨SqT.of (SJ _ _ eg), SqL.of (SJ _ _ el)⟩
    · rintro i x y t σ' J ⟨hx, hy⟩ ⟨⟨x3, x4, rfl⟩, SJ, NJ, xs, ps, jp, hps, hrp⟩ nt
      rw [List.getElem?_map] at hx hy
      obtain ⟨na, hna, rfl⟩ := Option.map_eq_some_iff.mp hx
      obtain ⟨d, hd, rfl⟩ := Option.map_eq_some_iff.mp hy
      obtain ⟨it, hit, en⟩ := paired_at pn hna
      obtain ⟨T, hT, as, hTb⟩ := paired_at pT hd
      have nv := hg.nv it (List.mem_of_getElem? hit)
      have gi := (List.getElem?_eq_some_iff.mp hit).1
      have tkg : g.take (i + 1) = g.take i ++ [it] := by rw [List.take_add_one, hit]; rfl
      have tkT : Ts.take (i + 1) = Ts.take i ++ [T] := by rw [List.take_add_one, hT]; rfl
      have ll : (g.take i).length = (Ts.take i).length := by rw [List.length_take, List.length_take]; omega
      have spg : g = g.take i ++ it :: g.drop (i + 1) := by
        have e := (List.getElem?_eq_some_iff.mp hit).2
        rw [← e, List.getElem_cons_drop, List.take_append_drop]
      have spT : Ts = Ts.take i ++ T :: Ts.drop (i + 1) := by
        have e := (List.getElem?_eq_some_iff.mp hT).2
        rw [← e, List.getElem_cons_drop, List.take_append_drop]
      have St := same_upd (o := .tup [.ref na, .ref d]) nt
      have et : upd J t (.tup [.ref na, .ref d]) t = some (.tup [.ref na, .ref d]) := upd_same
      have S1 := KaG.Same.tr SJ St
      have N1 : ∀ b, upd J t (.tup [.ref na, .ref d]) b = none → H b = none := fun b e => NJ b (upd_none e)
      have jp1 := St _ _ jp
      have rp1 := trl_ts (TSame.of St) ps hrp
      generalize upd J t (.tup [.ref na, .ref d]) = J1 at et S1 N1 jp1 rp1 ⊢
      have enJ := S1 _ _ en
      have hTJ := hTb.same S1
      refine ⟨t, _, rfl, SqT.of et, rfl, _, _, rfl, _, _, rfl, rfl, ?_⟩
      have lx : xs.length ≤ 3 := by
        have h1 := repA_len rp1
        have h2 := parts_len hps
        rw [List.length_take] at h2
        omega
      -- what is appended
      have put : ∀ (v : V) (q : TrL), RepA J1 [v] q.dt → partsOf (g.take (i + 1)) (Ts.take (i + 1)) = some (ps.app q) → (∃ x3 x4 : Option V, [some (V.ref ga), some (.ref l), some (.ref pl), some (.ref na), some (.ref d)] = [some (V.ref ga), some (.ref l), some (.ref pl), x3, x4]) ∧ Same H (upd J1 pl (.lst (xs ++ [v]))) ∧ (∀ b, upd J1 pl (.lst (xs ++ [v])) b = none → H b = none) ∧ ∃ (ys : List V) (ps : TrL), upd J1 pl (.lst (xs ++ [v])) pl = some (.lst ys) ∧ partsOf (g.take (i + 1)) (Ts.take (i + 1)) = some ps ∧ RepA (upd J1 pl (.lst (xs ++ [v]))) ys ps.dt := fun v q hv hq => by
        have tsl := ts_lst (ys := xs ++ [v]) jp1
        refine ⟨⟨_, _, rfl⟩, fun b u e => by rw [upd_ne (fun z => by rw [z, npl] at e; cases e)]; exact S1 b u e, fun b e => N1 b (upd_none e), _, _, upd_same, hq, ?_⟩
        refine trl_ts tsl _ ?_
        rw [app_dt]
        exact repA_app rp1 hv
      cases nv with
      | row nm u m =>
        refine ⟨_, rfl, na, _, 0, .str "row", rfl, rfl, SqT.of enJ, rfl, rfl, _, rfl, iteDF (by decide +kernel) ?_⟩
        refine ⟨_, rfl, .inl ⟨rfl, _, SqL.of jp1⟩, ?_⟩
        refine ⟨_, rfl, na, _, 0, .str "row", rfl, rfl, SqT.of enJ, rfl, rfl, _, rfl, iteD (by decide +kernel) ?_⟩
        refine ⟨pl, _, _, rfl, rfl, jp1, small1000 (by omega), ?_⟩
        refine put .non (.row .nil) (by rw [TrL.dt, TrL.dt]; exact .cons .non .nil) ?_
        rw [tkg, tkT]
        exact parts_row rfl ll hps
      | kind nm a u m =>
        have gd := DGet.k (k := Sum.inr nm) hTJ.d
        refine ⟨_, rfl, na, _, 0, .str "kind", rfl, rfl, SqT.of enJ, rfl, rfl, _, rfl, iteD (by decide +kernel) ?_⟩
        refine ⟨_, rfl, na, _, 1, .str nm, rfl, rfl, SqT.of enJ, rfl, _, rfl, d, _, rfl, gd, _, rfl, ?_⟩
        rcases kvT_val (n := nm) hTJ.l with ⟨h1, h2⟩ | ⟨tr, b, h1, h2, h3⟩
        · rw [h2]
          refine iteD rfl ?_
          refine k0 _ S1 ?_
          rw [spg, spT]
          exact parts_off rfl h1 ll
        · rw [h2] at gd ⊢
          refine iteDF rfl ?_
          refine ⟨_, rfl, .inl ⟨rfl, _, SqL.of jp1⟩, ?_⟩
          refine ⟨_, rfl, na, _, 0, .str "kind", rfl, rfl, SqT.of enJ, rfl, rfl, _, rfl, iteDF (by decide +kernel) ?_⟩
          refine ⟨_, rfl, _, rfl, na, _, 1, .str nm, rfl, rfl, SqT.of enJ, rfl, d, _, rfl, gd, ?_⟩
          refine ⟨pl, _, _, rfl, rfl, jp1, small1000 (by omega), ?_⟩
          refine put (.ref b) (.kid tr .nil) (by rw [TrL.dt, TrL.dt]; exact .cons h3 .nil) ?_
          rw [tkg, tkT]
          exact parts_kid rfl h1 ll hps
    · rintro σ' J ⟨⟨x3, x4, rfl⟩, SJ, NJ, xs, ps, jp, hps, hrp⟩
      rw [List.length_map, lns, List.take_length, show Ts.take g.length = Ts by rw [lT, List.take_length]] at hps
      refine ⟨_, rfl, pl, _, rfl, .inl ⟨SqL.of jp, fun t nt => ?_⟩⟩
      have St := same_upd (o := .tup xs) nt
      exact k1 t xs ps _ (KaG.Same.tr SJ St) (NJ _ nt) hps upd_same (trl_ts (TSame.of St) ps hrp)
end
end KaG
set_option maxRecDepth 100000
set_option maxHeartbeats 4000000
namespace KaG
open PySem PySem.Spec PyProof.Rows L2 KaC KaN LamX NdefX KaU
theorem first_some {β : Type} {f : Nat → Option β} {n i : Nat} {v : β} (h : i < n) (hv : f i = some v) (hb : ∀ j, j < i → f j = none) : (List.range n).findSome? f = some v := by
  have e : List.range n = List.range i ++ i :: (List.range n).drop (i + 1) := by
    have h1 : (List.range n).take i = List.range i := by rw [List.take_range, Nat.min_eq_left (by omega)]
    rw [← h1]
    have hi : i < (List.range n).length := by rw [List.length_range]; exact h
    have h2 : (List.range n)[i] = i := List.getElem_range hi
    conv => rhs; rw [show i :: (List.range n).drop (i + 1) = (List.range n)[i] :: (List.range n).drop (i + 1) by rw [h2]]
    rw [List.getElem_cons_drop, List.take_append_drop]
  rw [e, List.findSome?_append]
  have h3 : (List.range i).findSome? f = none := List.findSome?_eq_none_iff.mpr fun j m => hb j (List.mem_range.mp m)
  rw [h3, List.findSome?_cons, hv]
  rfl
theorem none_some {β : Type} {f : Nat → Option β} {n : Nat} (hb : ∀ j, j < n → f j = none) : (List.range n).findSome? f = none := List.findSome?_eq_none_iff.mpr fun j m => hb j (List.mem_range.mp m)
theorem flat_one {α : Type} (n : Nat) (x : α) : (List.replicate n [x]).flatten = List.replicate n x := by
  induction n with
  | zero => rfl
  | succ n ih => rw [List.replicate_succ, List.flatten_cons, ih]; rfl
theorem paired_rep {α β : Type} {R : α → β → Prop} {a : α} {b : β} (h : R a b) : ∀ n, Paired R (List.replicate n a) (List.replicate n b)
  | 0 => .nil
  | n + 1 => .cons h (paired_rep h n)
section
variable {P : Program} {w : World} {K : PySem.W.Frag} {mg : Str → Option Value} {base : Heap}
abbrev sOpo : Stmt := top 18
abbrev nmOpo : List Str := ["ground", "struck", "trees", "olds", "old", "need", "parts", "place"]
theorem scOpo : FnScope nmOpo ["ground", "struck", "trees", "olds"] (defScope sOpo) := ⟨rfl, rfl, rfl, by decide +kernel, rfl, by decide +kernel, by decide +kernel⟩
def spOpo : Sp := fun vs H Q _ => ∃ (ga sa td ud : Addr) (rows names S : List Str) (g : Gr) (A U : Tb) (as us : List Addr), vs = [.ref ga, .ref sa, .ref td, .ref ud] ∧ Grd H ga g ∧ GrOk rows names g ∧ Sq2 H sa (S.map V.str) ∧ TbAt H td A as ∧ TbAt H ud U us ∧
  (∀ H', Same H H' → fO S A U g = none → Q .non H') ∧ ∀ (p : Addr) (xs : List V) (ps : TrL) (H' : Hp), Same H H' → H p = none → fO S A U g = some ps → H' p = some (.tup xs) → RepA H' xs ps.dt → Q (.ref p) H'
theorem ok_Opo {f fH fP : Addr} {fd fdH fdP : FuncData} (F : Fun K "_old_parts_of" "_old_parts_of" sOpo f fd) (TC : TxtC mg) (hen : mg "enumerate" = none) (CH : Ct P w K mg base "_has_row" 1 ["ground", "rows"] spHrw fH fdH) (CP : Ct P w K mg base "_parts_of" 1 ["ground", "tables"] spPo fP fdP) : FnOk P w K mg base CX0 2 f fd ["ground", "struck", "trees", "olds"] spOpo := by
  refine F.ok scOpo (fun vs H Q E h => ?_) (fun cdv A outer s H vs Q E hr h => ?_)
  · obtain ⟨ga, sa, td, ud, rows, names, S, g, A, U, as, us, rfl, _⟩ := h
    rfl
  · obtain ⟨ga, sa, td, ud, rows, names, S, g, TA, U, as, us, rfl, hG, hg, hS, hA, hU, k0, k1⟩ := h
    refine ⟨_, (pss_cons (ps_if (pt_val (pe_call CH.G hr (by rfl) CH.m CH.kp CH.b .nil pass0 (pa_cons (pv 0) (pa_cons (pv 1) pa_nil))))
        (pss_one (ps_ret (pe_call CP.G hr (by rfl) CP.m CP.kp CP.b .nil pass0 (pa_cons (pv 0) (pa_cons (pe_op op_rep (pe_lst (pa_cons (pv 2) pa_nil)) (pe_callB (r := rLen K) call_len_seq (by rfl) TC.b.len PySem.boot_len (pa_cons (pv 0) pa_nil))) pa_nil))))) pss_nil)
      (pss_cons (ps_for PassesOwn.never rfl (pi_enumT (by rfl) hen (pa_cons (pv 0) pa_nil)) (pg_tup (by rfl) (pgs_cons (pg_name (i := 4) scOpo.nd rfl (Or.inr rfl)) (pgs_cons (pg_name (i := 5) scOpo.nd rfl (Or.inl rfl)) pgs_nil)))
        (pss_one (ps_if (pt_cmpR (r := rEq) op_eq (pe_ix (r := rIxT K) ix_tup (pv 5) pe_int (fun _ _ => rfl)) pe_str (nomark _))
          (pss_cons (ps_set (i := 6) scOpo.nd rfl (Or.inl rfl) (pe_call CP.G hr (by rfl) CP.m CP.kp CP.b .nil pass0 (pa_cons (pv 0) (pa_cons (pe_lc (own := [("place", 7)]) (g := gName 7) (tt := tYes) (te := tIf (tTest (tOp rEq (tVar 7) (tVar 4))) (tVar 3) (tVar 2)) (by rfl) scOpo.nd
              (pi_range1 rfl TC.b.range (pa_cons (pe_callB (r := rLen K) call_len_seq (by rfl) TC.b.len PySem.boot_len (pa_cons (pv 0) pa_nil)) pa_nil)) (blkOk_by (own := [("place", 7)]) (N := nmOpo) (sc := defScope sOpo) (by decide +kernel)) (fun _ _ _ _ _ => pg_name (i := 7) scOpo.nd rfl (Or.inl rfl)) (fun _ _ _ _ _ => pts_nil)
              (fun _ _ _ _ _ => pe_ifExp (pt_cmpR (r := rEq) op_eq (pv 7) (pv 4) (nomark _)) (pv 3) (pv 2))) pa_nil))))
          (pss_one (ps_if (pt_cmpR (r := rNotN) op_notN1 (pv 6) pe_non (nomark _)) (pss_one (ps_ret (pv 6))) pss_nil))) pss_nil)))
      (pss_one (ps_ret pe_non)))), ?_⟩
    have sz : ∀ {m : Nat}, m ≤ 900 → m ≤ sizeLine := fun h => Nat.le_of_lt (small1000 (by omega))
    obtain ⟨ns, eg, pn⟩ := id hG
    have lns := paired_len pn
    have g3 := hg.len
    refine ⟨_, rfl, _, rfl, ga, sa, rows, names, S, g, rfl, hG, hg, hS, fun H1 S1 => ?_⟩
    have hG1 := hG.ts (TSame.of S1)
    have hA1 := hA.same S1
    have hU1 := hU.same S1
    have eg1 := S1 _ _ eg
    cases hb : bdG S g with
    | true =>
      refine ⟨_, rfl, ifT rfl ?_⟩
      refine ⟨_, rfl, _, rfl, sz (by show 1 ≤ 900; decide), fun l nl => ?_⟩
      have sl := same_upd (o := .lst [V.ref td]) nl
      have e1 : upd H1 l (.lst [V.ref td]) l = some (.lst [V.ref td]) := upd_same
      have S2 := KaG.Same.tr S1 sl
      generalize upd H1 l (.lst [V.ref td]) = H2 at sl e1 S2 ⊢
      refine ⟨_, rfl, ga, _, rfl, .inr (SqT.of (sl _ _ eg1)), ?_⟩
      refine ⟨l, _, [V.ref td], rfl, rfl, e1, by rw [List.length_map]; omega, by rw [List.length_map]; omega, ?_, fun q nq => ?_⟩
      · rw [List.length_map, Int.toNat_natCast, List.length_singleton, Nat.one_mul]
        exact sz (by omega)
      · rw [List.length_map, Int.toNat_natCast, flat_one, lns]
        have sq := same_upd (o := .lst (List.replicate g.length (V.ref td))) nq
        have S3 := KaG.Same.tr S2 sq
        refine ⟨ga, q, rows, names, g, List.replicate g.length td, List.replicate g.length TA, rfl, hG.ts (TSame.of S3), hg, ?_, paired_rep ⟨as, hA.same S3⟩ _, by rw [List.length_replicate], fun H' S' e => ?_, fun p xs ps H' S' np e ep r => ?_⟩
        · rw [List.map_replicate]; exact upd_same
        · refine k0 H' (KaG.Same.tr S3 S') ?_
          unfold fO
          rw [hb, if_pos rfl]
          exact e
        · refine k1 p xs ps H' (KaG.Same.tr S3 S') (same_non S3 p np) ?_ ep r
          unfold fO
          rw [hb, if_pos rfl]
          exact e
    | false =>
      refine ⟨_, rfl, ifF rfl ?_⟩
      have hf : fO S TA U g = (List.range g.length).findSome? (fOj TA U g) := by unfold fO; rw [hb, if_neg Bool.false_ne_true]
      rw [hf] at k0 k1
      unfold tNext
      refine ⟨_, rfl, ga, ns.map V.ref, rfl, SqT.of eg1, for_enumT (K := K) (a := ga) (xs := ns.map V.ref) (fun i σ' J => (∃ x4 x5 x6 : Option V, σ' = [some (.ref ga), some (.ref sa), some (.ref td), some (.ref ud), x4, x5, x6, none]) ∧ Same H J ∧ ∀ j, j < i → fOj TA U g j = none) ?_ ?_ ?_ ?_⟩
      · exact ⟨⟨_, _, _, rfl⟩, S1, fun j h => absurd h (Nat.not_lt_zero _)⟩
      · rintro i σ' J _ ⟨_, SJ, _⟩
        exact SqT.of (SJ _ _ eg)
      · rintro i x t σ' J hx ⟨⟨x4, x5, x6, rfl⟩, SJ, no⟩ nt
        rw [List.getElem?_map] at hx
        obtain ⟨na, hna, rfl⟩ := Option.map_eq_some_iff.mp hx
        obtain ⟨it, hit, en⟩ := paired_at pn hna
        have nv := hg.nv it (List.mem_of_getElem? hit)
        have gi := (List.getElem?_eq_some_iff.mp hit).1
        have gd : g.getD i [] = it := by rw [List.getD_eq_getElem?_getD, hit]; rfl
        have St := same_upd (o := .tup [.int (i : Int), .ref na]) nt
        have et : upd J t (.tup [.int (i : Int), .ref na]) t = some (.tup [.int (i : Int), .ref na]) := upd_same
        have S2 := KaG.Same.tr SJ St
        generalize upd J t (.tup [.int (i : Int), .ref na]) = J1 at et S2 ⊢
        have enJ := S2 _ _ en
        have more : ∀ {z : Option TrL}, fOj TA U g i = z → z = none → ∀ j, j < i + 1 → fOj TA U g j = none := fun h1 h2 j hj => by
          rcases Nat.lt_or_ge j i with c | c
          · exact no j c
          · obtain rfl : j = i := by omega
            rw [h1, h2]
        refine ⟨t, _, rfl, SqT.of et, rfl, _, _, rfl, _, _, rfl, rfl, ?_⟩
        cases nv with
        | row nm u m =>
          refine ⟨_, rfl, na, _, 0, .str "row", rfl, rfl, SqT.of enJ, rfl, rfl, _, rfl, iteDF (by decide +kernel) ?_⟩
          refine ⟨⟨_, _, _, rfl⟩, S2, more (z := none) ?_ rfl⟩
          unfold fOj
          rw [gd]
          exact if_neg (fun h => nomatch h)
        | kind nm a u m =>
          refine ⟨_, rfl, na, _, 0, .str "kind", rfl, rfl, SqT.of enJ, rfl, rfl, _, rfl, iteD (by decide +kernel) ?_⟩
          have hfj : fOj TA U g i = partsOf g ((List.range g.length).map fun p => if p = i then U else TA) := by
            unfold fOj
            rw [gd]
            exact if_pos rfl
          refine ⟨_, rfl, _, rfl, ga, _, rfl, .inr (SqT.of (S2 _ _ eg)), _, rfl, by omega, by rw [List.length_map]; omega, fun D nD => go_range (fun j J2 => Same J1 J2 ∧ J2 D = some (.lst (((List.range j).map fun p => if p = i then ud else td).map V.ref))) ?_ ?_ ?_⟩
          · exact ⟨same_upd nD, upd_same⟩
          · rintro j J2 hj ⟨S3, jD⟩
            rw [List.length_map, Int.toNat_natCast] at hj
            refine ⟨rfl, tYes_go (iteT ?_)⟩
            rw [Int.zero_add]
            refine ⟨_, rfl, _, rfl, rfl, _, rfl, ?_⟩
            have dec : decide (V.int (j : Int) = V.int (i : Int)) = decide (j = i) := decide_eq_decide.mpr ⟨fun e => by injection e with e; omega, fun e => by rw [e]⟩
            rw [dec]
            have put : ∀ c : Addr, (if j = i then ud else td) = c → ∃ acc, J2 D = some (.lst acc) ∧ acc.length < sizeLine ∧ Same J1 (upd J2 D (.lst (acc ++ [.ref c]))) ∧ upd J2 D (.lst (acc ++ [.ref c])) D = some (.lst (((List.range (j + 1)).map fun p => if p = i then ud else td).map V.ref)) := fun c hc => by
              refine ⟨_, jD, small1000 (by rw [List.length_map, List.length_map, List.length_range]; omega), fun b u e => by rw [upd_ne (ne_of_none e nD)]; exact S3 b u e, ?_⟩
              rw [upd_same, List.range_succ, List.map_append, List.map_append, ← hc]
              rfl
            by_cases c : j = i
            · exact iteD (decide_eq_true c) ⟨_, rfl, put ud (if_pos c)⟩
            · exact iteDF (decide_eq_false c) ⟨_, rfl, put td (if_neg c)⟩
          · rintro J2 ⟨S3, jD⟩
            rw [List.length_map, Int.toNat_natCast, lns] at jD
            have S4 := KaG.Same.tr S2 S3
            refine ⟨ga, D, rows, names, g, _, (List.range g.length).map fun p => if p = i then U else TA, rfl, hG.ts (TSame.of S4), hg, jD, ?_, by rw [List.length_map, List.length_range], fun H' S' e => ?_, fun p xs ps H' S' np e ep r => ?_⟩
            · have : ∀ l : List Nat, Paired (fun d T => ∃ as, TbAt J2 d T as) (l.map fun p => if p = i then ud else td) (l.map fun p => if p = i then U else TA) := fun l => by
                induction l with
                | nil => exact .nil
                | cons p r ih =>
                  refine .cons ?_ ih
                  dsimp only
                  by_cases c : p = i
                  · rw [if_pos c, if_pos c]; exact ⟨us, hU.same S4⟩
                  · rw [if_neg c, if_neg c]; exact ⟨as, hA.same S4⟩
              exact this _
            · rw [← hfj] at e
              refine ⟨_, rfl, rfl, _, rfl, ifF rfl ?_⟩
              exact ⟨⟨_, _, _, rfl⟩, KaG.Same.tr S4 S', more rfl e⟩
            · rw [← hfj] at e
              refine ⟨_, rfl, rfl, _, rfl, ifT rfl ?_⟩
              refine ⟨_, rfl, k1 p xs ps H' (KaG.Same.tr S4 S') (same_non S4 p np) (first_some gi e no) ep r⟩
      · rintro σ' J ⟨⟨x4, x5, x6, rfl⟩, SJ, no⟩
        rw [List.length_map, lns] at no
        exact k0 J SJ (none_some no)
end
end KaG
set_option maxRecDepth 100000
set_option maxHeartbeats 4000000
namespace KaG
open PySem PySem.Spec PyProof.Rows L2 KaC KaN LamX NdefX KaU
theorem val_off {kvs : List (Key × V)} {k : Key} (h : k ∉ kvs.map (·.1)) : valV kvs k = none := by
  unfold valV
  rw [Option.map_eq_none_iff, List.find?_eq_none]
  exact fun e me z => h (List.mem_map.mpr ⟨e, me, of_decide_eq_true z⟩)
theorem val_at {kvs : List (Key × V)} {k : Key} {v : V} (nd : (kvs.map (·.1)).Nodup) {i : Nat} (h : kvs[i]? = some (k, v)) : valV kvs k = some v ∧ putK (kvs.take i) k v = kvs.take (i + 1) := by
  obtain ⟨hi, e⟩ := List.getElem?_eq_some_iff.mp h
  have tk : kvs.take (i + 1) = kvs.take i ++ [(k, v)] := by rw [List.take_add_one, h]; rfl
  have nk : k ∉ (kvs.take i).map (·.1) := fun m => by
    have sp : kvs = kvs.take i ++ kvs[i] :: kvs.drop (i + 1) := by rw [List.getElem_cons_drop, List.take_append_drop]
    rw [sp, List.map_append, List.nodup_append] at nd
    exact nd.2.2 k m k (by rw [e]; exact List.mem_cons_self) rfl
  refine ⟨?_, by rw [putK_new _ (val_off nk), tk]⟩
  unfold valV
  have sp : kvs = kvs.take i ++ kvs[i] :: kvs.drop (i + 1) := by rw [List.getElem_cons_drop, List.take_append_drop]
  rw [sp, List.find?_append]
  have h1 : (kvs.take i).find? (fun kv => decide (kv.1 = k)) = none := List.find?_eq_none.mpr fun e' me z => nk (List.mem_map.mpr ⟨e', me, of_decide_eq_true z⟩)
  rw [h1, e, List.find?_cons_of_pos (p := fun kv : Key × V => decide (kv.1 = k)) (decide_eq_true rfl)]
  rfl
theorem kvT_nd {T : Tb} {as : List Addr} (l : as.length = T.length) (nd : (T.map (·.1)).Nodup) : ((kvT T as).map (·.1)).Nodup := by
  rw [kvT_keys l]
  exact List.pairwise_map.mpr (nd.imp fun h z => h (Sum.inr.inj z))
theorem kvT_app {T : Tb} {as : List Addr} {e : Str × Tr} {a : Addr} (l : as.length = T.length) : kvT (T ++ [e]) (as ++ [a]) = kvT T as ++ [(Sum.inr e.1, V.ref a)] := by
  unfold kvT
  rw [List.zip_append l.symm, List.map_append]
  rfl
theorem tb_le {ks : List Kd} {T : Tb} (k5 : ks.length ≤ 5) (nd : (T.map (·.1)).Nodup) (sub : ∀ e ∈ T, e.1 ∈ nmsOf ks) : T.length ≤ 5 := by
  have h := List.Nodup.length_le_of_subset nd (show T.map (·.1) ⊆ nmsOf ks from fun n m => by
    obtain ⟨e, me, rfl⟩ := List.mem_map.mp m
    exact sub e me)
  rw [List.length_map, List.length_map] at h
  omega
theorem growF_sub {ks : List Kd} {f : Gr → Option TrL} {T : Tb} {z : Str × Nat × Gr} (mz : z.1 ∈ nmsOf ks) (sub : ∀ e ∈ T, e.1 ∈ nmsOf ks) : ∀ e ∈ growF f T z, e.1 ∈ nmsOf ks := fun e m => by
  unfold growF at m
  split at m
  · rcases List.mem_append.mp m with q | q
    · exact sub e q
    · rw [List.mem_singleton.mp q]; exact mz
  · exact sub e m
theorem growF_nd {f : Gr → Option TrL} {T : Tb} {z : Str × Nat × Gr} (nd : (T.map (·.1)).Nodup) : ((growF f T z).map (·.1)).Nodup := by
  unfold growF
  split
  · rename_i h1 h2
    rw [List.map_append, List.nodup_append]
    refine ⟨nd, by simp, fun a ma b mb => ?_⟩
    rw [List.map_singleton, List.mem_singleton] at mb
    rw [mb]
    exact fun q => tget_none.mp h1 (by rw [← q]; exact ma)
  · exact nd
theorem growF_same {f : Gr → Option TrL} {T : Tb} {z : Str × Nat × Gr} (h : f z.2.2 = none ∨ tget T z.1 ≠ none) : growF f T z = T := by
  unfold growF
  split
  · rename_i h1 h2
    rcases h with e | e
    · rw [e] at h2; cases h2
    · exact absurd h1 e
  · rfl
theorem growF_new {f : Gr → Option TrL} {T : Tb} {z : Str × Nat × Gr} {ps : TrL} (h1 : tget T z.1 = none) (h2 : f z.2.2 = some ps) : growF f T z = T ++ [(z.1, .nd z.1 z.2.1 ps)] := by
  unfold growF
  rw [h1, h2]
theorem lv_ix {rows : List Str} {ks : List Kd} (hO : BookOk rows ks) {n : Str} {z : Nat × Gr} (m : z ∈ lvg ks n) : z.1 < 1000 := by
  obtain ⟨mi, _⟩ := lvg_mem (i := z.1) (g := z.2).mp m
  obtain ⟨g, hg, _⟩ := ats_mem.mp mi
  have h1 := (List.getElem?_eq_some_iff.mp hg).1
  have h2 : (gsOf ks n).length ≤ 4 := by
    unfold gsOf
    cases q : ks.find? (fun x => decide (x.name = n)) with
    | none => exact Nat.zero_le _
    | some k => exact (hO.num k (List.mem_of_find?_eq_some q)).2.2.2.2
  omega
section
variable {P : Program} {w : World} {K : PySem.W.Frag} {mg : Str → Option Value} {base : Heap}
abbrev sGc : Stmt := top 19
abbrev nmGc : List Str := ["live", "struck", "trees", "name", "grown", "index", "ground", "parts"]
theorem scGc : FnScope nmGc ["live", "struck", "trees"] (defScope sGc) := ⟨rfl, rfl, rfl, by decide +kernel, rfl, by decide +kernel, by decide +kernel⟩
def spGc : Sp := fun vs H Q _ => ∃ (ll sa td : Addr) (rows : List Str) (ks : List Kd) (S : List Str) (las as : List Addr) (T : Tb), vs = [.ref ll, .ref sa, .ref td] ∧ BookOk rows ks ∧ H ll = some (.lst (las.map V.ref)) ∧ Paired (LlAt H) las (liveL ks) ∧ Sq2 H sa (S.map V.str) ∧ TbAt H td T as ∧ (T.map (·.1)).Nodup ∧ (∀ e ∈ T, e.1 ∈ nmsOf ks) ∧
  ∀ (p : Addr) (as' : List Addr) (H' : Hp), Same H H' → H p = none → TbAt H' p (growT (fC S T) (liveL ks) T) as' → Q (.ref p) H'
theorem ok_Gc {f fH fP : Addr} {fd fdH fdP : FuncData} (F : Fun K "_grown_clean" "_grown_clean" sGc f fd) (TC : TxtC mg) (CH : Ct P w K mg base "_has_row" 1 ["ground", "rows"] spHrw fH fdH) (CP : Ct P w K mg base "_parts_of" 1 ["ground", "tables"] spPo fP fdP) : FnOk P w K mg base CX0 2 f fd ["live", "struck", "trees"] spGc := by
  refine F.ok scGc (fun vs H Q E h => ?_) (fun cdv A outer s H vs Q E hr h => ?_)
  · obtain ⟨ll, sa, td, rows, ks, S, las, as, T, rfl, _⟩ := h
    rfl
  · obtain ⟨ll, sa, td, rows, ks, S, las, as, T, rfl, hO, el, pL, hS, hT, nd, sub, k⟩ := h
    have u1 := hu_of hr
    refine ⟨_, (pss_cons (ps_lock (ps_setDc (i := 4) (own := [("name", 3)]) (g := gName 3) (by rfl) scGc.nd rfl rfl (sw_dc rfl rfl rfl (by decide +kernel)) (pi_keys (pv 2)) (blkOk_by (own := [("name", 3)]) (N := nmGc) (sc := defScope sGc) (by decide +kernel))
          (fun _ _ _ _ _ => pg_name (i := 3) scGc.nd rfl (Or.inl rfl)) (fun _ _ _ _ _ => pts_nil) (fun _ _ _ _ _ => pv 3) (fun _ _ _ _ _ => pe_dget u1 (pv 2) (pv 3) (fun _ _ => rfl))))
      (pss_cons (ps_for PassesOwn.never rfl (pi_list (pv 0)) (pg_tup (by rfl) (pgs_cons (pg_name (i := 3) scGc.nd rfl (Or.inl rfl)) (pgs_cons (pg_name (i := 5) scGc.nd rfl (Or.inl rfl)) (pgs_cons (pg_name (i := 6) scGc.nd rfl (Or.inl rfl)) pgs_nil))))
        (pss_cons (ps_set (i := 7) scGc.nd rfl (Or.inl rfl) (pe_ifExp (pt_val (pe_call CH.G hr (by rfl) CH.m CH.kp CH.b .nil pass0 (pa_cons (pv 6) (pa_cons (pv 1) pa_nil)))) pe_non (pe_call CP.G hr (by rfl) CP.m CP.kp CP.b .nil pass0 (pa_cons (pv 6) (pa_cons (pe_op op_rep (pe_lst (pa_cons (pv 2) pa_nil)) (pe_callB (r := rLen K) call_len_seq (by rfl) TC.b.len PySem.boot_len (pa_cons (pv 6) pa_nil))) pa_nil)))))
        (pss_one (ps_if (PW.pt (pw_and (pt_cmp (pc_dnotin u1 (pv 3) (pv 4))) (pw_and1 (pt_cmpR (r := rNotN) op_notN1 (pv 7) pe_non (nomark _)))))
          (pss_one (ps_dput u1 (pv 4) (pv 3) (pe_tup (pa_cons (pv 3) (pa_cons (pv 5) (pa_cons (pv 7) pa_nil)))) rfl)) pss_nil))))
      (pss_one (ps_ret (pv 4))))), ?_⟩
    have sz : ∀ {m : Nat}, m ≤ 900 → m ≤ sizeLine := fun h => Nat.le_of_lt (small1000 (by omega))
    have hk5 := hO.k5
    have las' := paired_len hT.l
    have lT := tb_le hk5 nd sub
    have lk := kvT_len las'
    have ndk := kvT_nd las' nd
    refine ⟨td, _, hT.d, trivial, fun od => ?_⟩
    have hdL : upd H td (.frz od (.dK (kvT T as))) td = some (.frz od (.dK (kvT T as))) := upd_same
    refine ⟨_, rfl, td, od, rfl, .inl ⟨kvT T as, hdL, fun D nD => go_keys (fun i J => Same (upd H td (.frz od (.dK (kvT T as)))) J ∧ J D = some (.dK ((kvT T as).take i))) ?_ ?_ ?_ ?_⟩⟩
    · exact ⟨same_upd nD, upd_same⟩
    · rintro i J _ ⟨SJ, _⟩
      exact SJ _ _ hdL
    · rintro i kk vv J hkv ⟨SJ, jD⟩
      have hi := (List.getElem?_eq_some_iff.mp hkv).1
      obtain ⟨h1, h2⟩ := val_at ndk hkv
      have kin : kk ∈ (T.map (·.1)).map Sum.inr := by
        rw [← kvT_keys las']
        exact List.mem_map.mpr ⟨_, List.mem_of_getElem? hkv, rfl⟩
      obtain ⟨n, _, rfl⟩ := List.mem_map.mp kin
      refine ⟨rfl, tYes_go (iteT ?_)⟩
      refine ⟨_, rfl, _, rfl, _, rfl, td, vv, rfl, .inl ⟨_, Sum.inr n, .inr ⟨od, SJ _ _ hdL⟩, rfl, h1.symm⟩, _, Sum.inr n, rfl, jD, small1000 (by rw [List.length_take]; omega), fun b u e => by rw [upd_ne (ne_of_none e nD)]; exact SJ b u e, ?_⟩
      rw [upd_same, h2]
    · rintro J ⟨SJ, jD⟩
      rw [List.take_length] at jD
      have jd := SJ _ _ hdL
      have Dd : D ≠ td := fun z => by rw [z, hdL] at nD; cases nD
      have nDH : H D = none := by rw [upd_ne Dd] at nD; exact nD
      refine ⟨jd, ?_⟩
      have SH := same_unlock hT.d SJ
      have jD2 : upd J td (.dK (kvT T as)) D = some (.dK (kvT T as)) := by rw [upd_ne Dd]; exact jD
      have N0 : ∀ b, upd J td (.dK (kvT T as)) b = none → H b = none := fun b e => same_non SH b e
      generalize upd J td (.dK (kvT T as)) = H0 at SH jD2 N0 ⊢
      clear SJ jD jd nD hdL
      have lD : ll ≠ D := fun z => by rw [z, nDH] at el; cases el
      refine ⟨_, rfl, ll, rfl, ⟨_, SqL.of (SH _ _ el)⟩, for_list (K := K) (a := ll) (xs := las.map V.ref) (fun i σ' J => (∃ x1 x2 x3 x4 : Option V, σ' = [some (V.ref ll), some (.ref sa), some (.ref td), x1, some (.ref D), x2, x3, x4]) ∧ Same H J ∧ (∀ b, J b = none → H b = none) ∧ ∃ as2 : List Addr, J D = some (.dK (kvT (((liveL ks).take i).foldl (growF (fC S T)) T) as2)) ∧ Paired (fun a (e : Str × Tr) => Rep J (.ref a) e.2.dt) as2 (((liveL ks).take i).foldl (growF (fC S T)) T) ∧ ((((liveL ks).take i).foldl (growF (fC S T)) T).map (·.1)).Nodup ∧ ∀ e ∈ ((liveL ks).take i).foldl (growF (fC S T)) T, e.1 ∈ nmsOf ks) ?_ ?_ ?_ ?_⟩
      · exact ⟨⟨_, _, _, _, rfl⟩, SH, N0, as, jD2, Paired.mono' (fun _ _ q => Rep.sm SH q) hT.l, nd, sub⟩
      · rintro i σ' J _ ⟨_, SJ, _⟩
        exact SqL.of (SJ _ _ el)
      · rintro i x σ' J hx ⟨⟨x1, x2, x3, x4, rfl⟩, SJ, NJ, as2, jd, pA, ndA, subA⟩
        rw [List.getElem?_map] at hx
        obtain ⟨la, hla, rfl⟩ := Option.map_eq_some_iff.mp hx
        obtain ⟨z, hz, ga, ea, hG⟩ := paired_at pL hla
        have mz := List.mem_of_getElem? hz
        obtain ⟨mn, mlv⟩ := liveL_mem.mp mz
        have hg := lvg_ok hO (i := z.2.1) (g := z.2.2) mlv
        have tk : (liveL ks).take (i + 1) = (liveL ks).take i ++ [z] := by rw [List.take_add_one, hz]; rfl
        rw [tk, List.foldl_append, List.foldl_cons, List.foldl_nil]
        generalize hAcc : ((liveL ks).take i).foldl (growF (fC S T)) T = acc at jd pA ndA subA ⊢
        have lA := tb_le hk5 ndA subA
        have las2 := paired_len pA
        have hG1 := hG.ts (TSame.of SJ)
        refine ⟨la, _, rfl, SqT.of (SJ _ _ ea), by rfl, _, _, rfl, _, _, rfl, _, _, rfl, rfl, ?_⟩
        refine seqGo (fun b' D' => ∀ (J' : Hp) (pv : V), Same H J' → (∀ b, J' b = none → H b = none) → J' D = some (.dK (kvT acc as2)) → Paired (fun a (e : Str × Tr) => Rep J' (.ref a) e.2.dt) as2 acc → ((pv = .non ∧ fC S T z.2.2 = none) ∨ ∃ (p : Addr) (xs : List V) (ps : TrL), pv = .ref p ∧ fC S T z.2.2 = some ps ∧ J' p = some (.tup xs) ∧ RepA J' xs ps.dt) → b' D' [some (V.ref ll), some (.ref sa), some (.ref td), some (.str z.1), some (.ref D), some (.int (z.2.1 : Int)), some (.ref ga), some pv] J') ?_ (fun rest => ?_)
        · intro J' pv SJ' NJ' jd' pA' hp
          have gd := DGet.k (k := Sum.inr z.1) jd'
          refine ⟨_, rfl, _, rfl, D, _, rfl, gd, _, rfl, ?_⟩
          rcases kvT_val (n := z.1) pA' with ⟨h1, h2⟩ | ⟨tr, b, h1, h2, _⟩
          · rw [h2]
            refine iteD rfl ?_
            rcases hp with ⟨rfl, hp⟩ | ⟨p, xs, ps, rfl, hp, ep, rp⟩
            · refine ⟨_, rfl, rfl, _, rfl, ifF rfl ?_⟩
              rw [growF_same (.inl hp)]
              exact ⟨⟨_, _, _, _, rfl⟩, SJ', NJ', as2, jd', pA', ndA, subA⟩
            · refine ⟨_, rfl, rfl, _, rfl, ifT rfl ?_⟩
              refine ⟨_, rfl, _, rfl, _, rfl, sz (by show 3 ≤ 900; decide), fun t nt => ?_⟩
              have St := same_upd (o := .tup [.str z.1, .int (z.2.1 : Int), .ref p]) nt
              have et : upd J' t (.tup [.str z.1, .int (z.2.1 : Int), .ref p]) t = some (.tup [.str z.1, .int (z.2.1 : Int), .ref p]) := upd_same
              have S5 := KaG.Same.tr SJ' St
              have N5 : ∀ b, upd J' t (.tup [.str z.1, .int (z.2.1 : Int), .ref p]) b = none → H b = none := fun b e => NJ' b (upd_none e)
              have jd5 := St _ _ jd'
              have pA5 := Paired.mono' (fun _ _ q => Rep.sm St q) pA'
              have ep5 := St _ _ ep
              have rp5 := trl_ts (TSame.of St) ps rp
              generalize upd J' t (.tup [.str z.1, .int (z.2.1 : Int), .ref p]) = J5 at et S5 N5 jd5 pA5 ep5 rp5 ⊢
              have hput : putK (kvT acc as2) (Sum.inr z.1) (.ref t) = kvT (acc ++ [(z.1, .nd z.1 z.2.1 ps)]) (as2 ++ [t]) := by rw [putK_new _ h2, kvT_app las2]
              refine ⟨_, rfl, _, rfl, D, _, rfl, DPut.k (k := Sum.inr z.1) jd5 (small1000 (by rw [kvT_len las2]; omega)), ?_⟩
              have ndB := growF_nd (f := (fC S T)) (z := z) ndA
              have subB := growF_sub (f := (fC S T)) mn subA
              rw [growF_new h1 hp] at ndB subB ⊢
              rw [hput]
              have tsl : TSame J5 (upd J5 D (.dK (kvT (acc ++ [(z.1, .nd z.1 z.2.1 ps)]) (as2 ++ [t])))) := fun b u e => by rw [upd_ne (fun q => by rw [q, jd5] at e; cases e)]; exact e
              refine ⟨⟨_, _, _, _, rfl⟩, fun b u e => by rw [upd_ne (fun q => by rw [q, nDH] at e; cases e)]; exact S5 b u e, fun b e => N5 b (upd_none e), as2 ++ [t], upd_same, ?_, ndB, subB⟩
              exact paired_app (Paired.mono' (fun _ e q => tr_ts tsl e.2 q) pA5) (.cons (tr_ts tsl (.nd z.1 z.2.1 ps) (tr_mk (lv_ix hO mlv) et ep5 rp5)) .nil)
          · rw [h2]
            refine iteDF rfl ?_
            rw [growF_same (.inr (by rw [h1]; exact fun q => nomatch q))]
            exact ⟨⟨_, _, _, _, rfl⟩, SJ', NJ', as2, jd', pA', ndA, subA⟩
        refine ⟨_, rfl, _, rfl, ga, sa, rows, nmsOf ks, S, z.2.2, rfl, hG1, hg, hS.same SJ, fun J2 S2 => ?_⟩
        have S02 := KaG.Same.tr SJ S2
        have egG := hG1.ts (TSame.of S2)
        obtain ⟨ns, eg, pn⟩ := id egG
        have lns := paired_len pn
        have g3 := hg.len
        have jd2 := S2 _ _ jd
        have pA2 := Paired.mono' (fun _ _ q => Rep.sm S2 q) pA
        have N2 : ∀ b, J2 b = none → H b = none := fun b e => NJ b (same_non S2 b e)
        cases hb : bdG S z.2.2 with
        | true =>
          refine ⟨_, rfl, ifT rfl ?_⟩
          exact rest J2 .non S02 N2 jd2 pA2 (.inl ⟨rfl, by unfold fC; rw [hb, if_pos rfl]⟩)
        | false =>
          refine ⟨_, rfl, ifF rfl ?_⟩
          have hf : fC S T z.2.2 = partsOf z.2.2 (List.replicate z.2.2.length T) := by unfold fC; rw [hb, if_neg Bool.false_ne_true]
          refine ⟨_, rfl, _, rfl, sz (by show 1 ≤ 900; decide), fun l nl => ?_⟩
          have sl := same_upd (o := .lst [V.ref td]) nl
          have e1 : upd J2 l (.lst [V.ref td]) l = some (.lst [V.ref td]) := upd_same
          have S3 := KaG.Same.tr S02 sl
          have N3 : ∀ b, upd J2 l (.lst [V.ref td]) b = none → H b = none := fun b e => N2 b (upd_none e)
          have jd3 := sl _ _ jd2
          have pA3 := Paired.mono' (fun _ _ q => Rep.sm sl q) pA2
          have eg3 := sl _ _ eg
          have hG3 := egG.ts (TSame.of sl)
          generalize upd J2 l (.lst [V.ref td]) = J3 at e1 S3 N3 jd3 pA3 eg3 hG3 ⊢
          refine ⟨_, rfl, ga, _, rfl, .inr (SqT.of eg3), ?_⟩
          refine ⟨l, _, [V.ref td], rfl, rfl, e1, by rw [List.length_map]; omega, by rw [List.length_map]; omega, ?_, fun q nq => ?_⟩
          · rw [List.length_map, Int.toNat_natCast, List.length_singleton, Nat.one_mul]
            exact sz (by omega)
          · rw [List.length_map, Int.toNat_natCast, flat_one, lns]
            have sq := same_upd (o := .lst (List.replicate z.2.2.length (V.ref td))) nq
            have S4 := KaG.Same.tr S3 sq
            have N4 : ∀ b, upd J3 q (.lst (List.replicate z.2.2.length (V.ref td))) b = none → H b = none := fun b e => N3 b (upd_none e)
            have jd4 := sq _ _ jd3
            have pA4 := Paired.mono' (fun _ _ q => Rep.sm sq q) pA3
            refine ⟨ga, q, rows, nmsOf ks, z.2.2, List.replicate z.2.2.length td, List.replicate z.2.2.length T, rfl, hG3.ts (TSame.of sq), hg, ?_, paired_rep ⟨as, hT.same S4⟩ _, by rw [List.length_replicate], fun H' S' e => ?_, fun p xs ps H' S' np e ep r => ?_⟩
            · rw [List.map_replicate]; exact upd_same
            · exact rest H' .non (KaG.Same.tr S4 S') (fun b e => N4 b (same_non S' b e)) (S' _ _ jd4) (Paired.mono' (fun _ _ q => Rep.sm S' q) pA4) (.inl ⟨rfl, by rw [hf]; exact e⟩)
            · exact rest H' (.ref p) (KaG.Same.tr S4 S') (fun b e => N4 b (same_non S' b e)) (S' _ _ jd4) (Paired.mono' (fun _ _ q => Rep.sm S' q) pA4) (.inr ⟨p, xs, ps, rfl, by rw [hf]; exact e, ep, r⟩)

      · rintro σ' J ⟨⟨x1, x2, x3, x4, rfl⟩, SJ, NJ, as2, jd, pA, ndA, subA⟩
        have ll' : (las.map V.ref).length = (liveL ks).length := by rw [List.length_map, paired_len pL]
        rw [ll', List.take_length] at jd pA
        exact ⟨_, rfl, k D as2 J SJ nDH ⟨jd, pA⟩⟩
abbrev sGo : Stmt := top 20
abbrev nmGo : List Str := ["live", "struck", "trees", "olds", "name", "grown", "index", "ground", "parts"]
theorem scGo : FnScope nmGo ["live", "struck", "trees", "olds"] (defScope sGo) := ⟨rfl, rfl, rfl, by decide +kernel, rfl, by decide +kernel, by decide +kernel⟩
def spGo : Sp := fun vs H Q _ => ∃ (ll sa t0 td : Addr) (rows : List Str) (ks : List Kd) (S : List Str) (las as as0 : List Addr) (T T0 : Tb), vs = [.ref ll, .ref sa, .ref t0, .ref td] ∧ BookOk rows ks ∧ H ll = some (.lst (las.map V.ref)) ∧ Paired (LlAt H) las (liveL ks) ∧ Sq2 H sa (S.map V.str) ∧ TbAt H t0 T0 as0 ∧ TbAt H td T as ∧ (T.map (·.1)).Nodup ∧ (∀ e ∈ T, e.1 ∈ nmsOf ks) ∧
  ∀ (p : Addr) (as' : List Addr) (H' : Hp), Same H H' → H p = none → TbAt H' p (growT (fO S T0 T) (liveL ks) T) as' → Q (.ref p) H'
theorem ok_Go {f fP : Addr} {fd fdP : FuncData} (F : Fun K "_grown_old" "_grown_old" sGo f fd) (CP : Ct P w K mg base "_old_parts_of" 2 ["ground", "struck", "trees", "olds"] spOpo fP fdP) : FnOk P w K mg base CX0 3 f fd ["live", "struck", "trees", "olds"] spGo := by
  refine F.ok scGo (fun vs H Q E h => ?_) (fun cdv A outer s H vs Q E hr h => ?_)
  · obtain ⟨ll, sa, t0, td, rows, ks, S, las, as, as0, T, T0, rfl, _⟩ := h
    rfl
  · obtain ⟨ll, sa, t0, td, rows, ks, S, las, as, as0, T, T0, rfl, hO, el, pL, hS, hT0, hT, nd, sub, k⟩ := h
    have u1 := hu_of hr
    refine ⟨_, (pss_cons (ps_lock (ps_setDc (i := 5) (own := [("name", 4)]) (g := gName 4) (by rfl) scGo.nd rfl rfl (sw_dc rfl rfl rfl (by decide +kernel)) (pi_keys (pv 3)) (blkOk_by (own := [("name", 4)]) (N := nmGo) (sc := defScope sGo) (by decide +kernel))
          (fun _ _ _ _ _ => pg_name (i := 4) scGo.nd rfl (Or.inl rfl)) (fun _ _ _ _ _ => pts_nil) (fun _ _ _ _ _ => pv 4) (fun _ _ _ _ _ => pe_dget u1 (pv 3) (pv 4) (fun _ _ => rfl))))
      (pss_cons (ps_for PassesOwn.never rfl (pi_list (pv 0)) (pg_tup (by rfl) (pgs_cons (pg_name (i := 4) scGo.nd rfl (Or.inl rfl)) (pgs_cons (pg_name (i := 6) scGo.nd rfl (Or.inl rfl)) (pgs_cons (pg_name (i := 7) scGo.nd rfl (Or.inl rfl)) pgs_nil))))
        (pss_cons (ps_set (i := 8) scGo.nd rfl (Or.inl rfl) (pe_call CP.G hr (by rfl) CP.m CP.kp CP.b .nil pass0 (pa_cons (pv 7) (pa_cons (pv 1) (pa_cons (pv 2) (pa_cons (pv 3) pa_nil))))))
        (pss_one (ps_if (PW.pt (pw_and (pt_cmp (pc_dnotin u1 (pv 4) (pv 5))) (pw_and1 (pt_cmpR (r := rNotN) op_notN1 (pv 8) pe_non (nomark _)))))
          (pss_one (ps_dput u1 (pv 5) (pv 4) (pe_tup (pa_cons (pv 4) (pa_cons (pv 6) (pa_cons (pv 8) pa_nil)))) rfl)) pss_nil))))
      (pss_one (ps_ret (pv 5))))), ?_⟩
    have sz : ∀ {m : Nat}, m ≤ 900 → m ≤ sizeLine := fun h => Nat.le_of_lt (small1000 (by omega))
    have hk5 := hO.k5
    have las' := paired_len hT.l
    have lT := tb_le hk5 nd sub
    have lk := kvT_len las'
    have ndk := kvT_nd las' nd
    refine ⟨td, _, hT.d, trivial, fun od => ?_⟩
    have hdL : upd H td (.frz od (.dK (kvT T as))) td = some (.frz od (.dK (kvT T as))) := upd_same
    refine ⟨_, rfl, td, od, rfl, .inl ⟨kvT T as, hdL, fun D nD => go_keys (fun i J => Same (upd H td (.frz od (.dK (kvT T as)))) J ∧ J D = some (.dK ((kvT T as).take i))) ?_ ?_ ?_ ?_⟩⟩
    · exact ⟨same_upd nD, upd_same⟩
    · rintro i J _ ⟨SJ, _⟩
      exact SJ _ _ hdL
    · rintro i kk vv J hkv ⟨SJ, jD⟩
      have hi := (List.getElem?_eq_some_iff.mp hkv).1
      obtain ⟨h1, h2⟩ := val_at ndk hkv
      have kin : kk ∈ (T.map (·.1)).map Sum.inr := by
        rw [← kvT_keys las']
        exact List.mem_map.mpr ⟨_, List.mem_of_getElem? hkv, rfl⟩
      obtain ⟨n, _, rfl⟩ := List.mem_map.mp kin
      refine ⟨rfl, tYes_go (iteT ?_)⟩
      refine ⟨_, rfl, _, rfl, _, rfl, td, vv, rfl, .inl ⟨_, Sum.inr n, .inr ⟨od, SJ _ _ hdL⟩, rfl, h1.symm⟩, _, Sum.inr n, rfl, jD, small1000 (by rw [List.length_take]; omega), fun b u e => by rw [upd_ne (ne_of_none e nD)]; exact SJ b u e, ?_⟩
      rw [upd_same, h2]
    · rintro J ⟨SJ, jD⟩
      rw [List.take_length] at jD
      have jd := SJ _ _ hdL
      have Dd : D ≠ td := fun z => by rw [z, hdL] at nD; cases nD
      have nDH : H D = none := by rw [upd_ne Dd] at nD; exact nD
      refine ⟨jd, ?_⟩
      have SH := same_unlock hT.d SJ
      have jD2 : upd J td (.dK (kvT T as)) D = some (.dK (kvT T as)) := by rw [upd_ne Dd]; exact jD
      have N0 : ∀ b, upd J td (.dK (kvT T as)) b = none → H b = none := fun b e => same_non SH b e
      generalize upd J td (.dK (kvT T as)) = H0 at SH jD2 N0 ⊢
      clear SJ jD jd nD hdL
      have lD : ll ≠ D := fun z => by rw [z, nDH] at el; cases el
      refine ⟨_, rfl, ll, rfl, ⟨_, SqL.of (SH _ _ el)⟩, for_list (K := K) (a := ll) (xs := las.map V.ref) (fun i σ' J => (∃ x1 x2 x3 x4 : Option V, σ' = [some (V.ref ll), some (.ref sa), some (.ref t0), some (.ref td), x1, some (.ref D), x2, x3, x4]) ∧ Same H J ∧ (∀ b, J b = none → H b = none) ∧ ∃ as2 : List Addr, J D = some (.dK (kvT (((liveL ks).take i).foldl (growF (fO S T0 T)) T) as2)) ∧ Paired (fun a (e : Str × Tr) => Rep J (.ref a) e.2.dt) as2 (((liveL ks).take i).foldl (growF (fO S T0 T)) T) ∧ ((((liveL ks).take i).foldl (growF (fO S T0 T)) T).map (·.1)).Nodup ∧ ∀ e ∈ ((liveL ks).take i).foldl (growF (fO S T0 T)) T, e.1 ∈ nmsOf ks) ?_ ?_ ?_ ?_⟩
      · exact ⟨⟨_, _, _, _, rfl⟩, SH, N0, as, jD2, Paired.mono' (fun _ _ q => Rep.sm SH q) hT.l, nd, sub⟩
      · rintro i σ' J _ ⟨_, SJ, _⟩
        exact SqL.of (SJ _ _ el)
      · rintro i x σ' J hx ⟨⟨x1, x2, x3, x4, rfl⟩, SJ, NJ, as2, jd, pA, ndA, subA⟩
        rw [List.getElem?_map] at hx
        obtain ⟨la, hla, rfl⟩ := Option.map_eq_some_iff.mp hx
        obtain ⟨z, hz, ga, ea, hG⟩ := paired_at pL hla
        have mz := List.mem_of_getElem? hz
        obtain ⟨mn, mlv⟩ := liveL_mem.mp mz
        have hg := lvg_ok hO (i := z.2.1) (g := z.2.2) mlv
        have tk : (liveL ks).take (i + 1) = (liveL ks).take i ++ [z] := by rw [List.take_add_one, hz]; rfl
        rw [tk, List.foldl_append, List.foldl_cons, List.foldl_nil]
        generalize hAcc : ((liveL ks).take i).foldl (growF (fO S T0 T)) T = acc at jd pA ndA subA ⊢
        have lA := tb_le hk5 ndA subA
        have las2 := paired_len pA
        have hG1 := hG.ts (TSame.of SJ)
        refine ⟨la, _, rfl, SqT.of (SJ _ _ ea), by rfl, _, _, rfl, _, _, rfl, _, _, rfl, rfl, ?_⟩
        refine seqGo (fun b' D' => ∀ (J' : Hp) (pv : V), Same H J' → (∀ b, J' b = none → H b = none) → J' D = some (.dK (kvT acc as2)) → Paired (fun a (e : Str × Tr) => Rep J' (.ref a) e.2.dt) as2 acc → ((pv = .non ∧ fO S T0 T z.2.2 = none) ∨ ∃ (p : Addr) (xs : List V) (ps : TrL), pv = .ref p ∧ fO S T0 T z.2.2 = some ps ∧ J' p = some (.tup xs) ∧ RepA J' xs ps.dt) → b' D' [some (V.ref ll), some (.ref sa), some (.ref t0), some (.ref td), some (.str z.1), some (.ref D), some (.int (z.2.1 : Int)), some (.ref ga), some pv] J') ?_ (fun rest => ?_)
        · intro J' pv SJ' NJ' jd' pA' hp
          have gd := DGet.k (k := Sum.inr z.1) jd'
          refine ⟨_, rfl, _, rfl, D, _, rfl, gd, _, rfl, ?_⟩
          rcases kvT_val (n := z.1) pA' with ⟨h1, h2⟩ | ⟨tr, b, h1, h2, _⟩
          · rw [h2]
            refine iteD rfl ?_
            rcases hp with ⟨rfl, hp⟩ | ⟨p, xs, ps, rfl, hp, ep, rp⟩
            · refine ⟨_, rfl, rfl, _, rfl, ifF rfl ?_⟩
              rw [growF_same (.inl hp)]
              exact ⟨⟨_, _, _, _, rfl⟩, SJ', NJ', as2, jd', pA', ndA, subA⟩
            · refine ⟨_, rfl, rfl, _, rfl, ifT rfl ?_⟩
              refine ⟨_, rfl, _, rfl, _, rfl, sz (by show 3 ≤ 900; decide), fun t nt => ?_⟩
              have St := same_upd (o := .tup [.str z.1, .int (z.2.1 : Int), .ref p]) nt
              have et : upd J' t (.tup [.str z.1, .int (z.2.1 : Int), .ref p]) t = some (.tup [.str z.1, .int (z.2.1 : Int), .ref p]) := upd_same
              have S5 := KaG.Same.tr SJ' St
              have N5 : ∀ b, upd J' t (.tup [.str z.1, .int (z.2.1 : Int), .ref p]) b = none → H b = none := fun b e => NJ' b (upd_none e)
              have jd5 := St _ _ jd'
              have pA5 := Paired.mono' (fun _ _ q => Rep.sm St q) pA'
              have ep5 := St _ _ ep
              have rp5 := trl_ts (TSame.of St) ps rp
              generalize upd J' t (.tup [.str z.1, .int (z.2.1 : Int), .ref p]) = J5 at et S5 N5 jd5 pA5 ep5 rp5 ⊢
              have hput : putK (kvT acc as2) (Sum.inr z.1) (.ref t) = kvT (acc ++ [(z.1, .nd z.1 z.2.1 ps)]) (as2 ++ [t]) := by rw [putK_new _ h2, kvT_app las2]
              refine ⟨_, rfl, _, rfl, D, _, rfl, DPut.k (k := Sum.inr z.1) jd5 (small1000 (by rw [kvT_len las2]; omega)), ?_⟩
              have ndB := growF_nd (f := (fO S T0 T)) (z := z) ndA
              have subB := growF_sub (f := (fO S T0 T)) mn subA
              rw [growF_new h1 hp] at ndB subB ⊢
              rw [hput]
              have tsl : TSame J5 (upd J5 D (.dK (kvT (acc ++ [(z.1, .nd z.1 z.2.1 ps)]) (as2 ++ [t])))) := fun b u e => by rw [upd_ne (fun q => by rw [q, jd5] at e; cases e)]; exact e
              refine ⟨⟨_, _, _, _, rfl⟩, fun b u e => by rw [upd_ne (fun q => by rw [q, nDH] at e; cases e)]; exact S5 b u e, fun b e => N5 b (upd_none e), as2 ++ [t], upd_same, ?_, ndB, subB⟩
              exact paired_app (Paired.mono' (fun _ e q => tr_ts tsl e.2 q) pA5) (.cons (tr_ts tsl (.nd z.1 z.2.1 ps) (tr_mk (lv_ix hO mlv) et ep5 rp5)) .nil)
          · rw [h2]
            refine iteDF rfl ?_
            rw [growF_same (.inr (by rw [h1]; exact fun q => nomatch q))]
            exact ⟨⟨_, _, _, _, rfl⟩, SJ', NJ', as2, jd', pA', ndA, subA⟩
        refine ⟨_, rfl, _, rfl, _, rfl, _, rfl, ga, sa, t0, td, rows, nmsOf ks, S, z.2.2, T0, T, as0, as, rfl, hG1, hg, hS.same SJ, hT0.same SJ, hT.same SJ, fun H' S' e => ?_, fun p xs ps H' S' np e ep r => ?_⟩
        · exact rest H' .non (KaG.Same.tr SJ S') (fun b e => NJ b (same_non S' b e)) (S' _ _ jd) (Paired.mono' (fun _ _ q => Rep.sm S' q) pA) (.inl ⟨rfl, e⟩)
        · exact rest H' (.ref p) (KaG.Same.tr SJ S') (fun b e => NJ b (same_non S' b e)) (S' _ _ jd) (Paired.mono' (fun _ _ q => Rep.sm S' q) pA) (.inr ⟨p, xs, ps, rfl, e, ep, r⟩)

      · rintro σ' J ⟨⟨x1, x2, x3, x4, rfl⟩, SJ, NJ, as2, jd, pA, ndA, subA⟩
        have ll' : (las.map V.ref).length = (liveL ks).length := by rw [List.length_map, paired_len pL]
        rw [ll', List.take_length] at jd pA
        exact ⟨_, rfl, k D as2 J SJ nDH ⟨jd, pA⟩⟩
end
end KaG
set_option maxRecDepth 100000
set_option maxHeartbeats 4000000
namespace KaG
open PySem PySem.Spec PyProof.Rows L2 KaC KaN LamX NdefX KaU
theorem tab_in {ks : List Kd} {S : List Str} {s k : Nat} {ok : Tr → Prop} {T : Tb} (h : InvT (lvg ks) (wayP ks S) s ok k T) : ∀ e ∈ T, e.1 ∈ nmsOf ks := fun e m => by
  obtain ⟨w, _⟩ := h.good e m
  generalize e.1 = n at w
  generalize e.2 = t at w
  cases w with
  | nd m h =>
    obtain ⟨mi, _⟩ := lvg_mem.mp m
    exact gs_nm (live_g mi).1
theorem TbAt.ex {T0 : List NTab} {H H' : Hp} {d : Addr} {T : Tb} {as : List Addr} (h : TbAt H d T as) (x : Ex T0 H H') : TbAt H' d T as := h.keep (fun _ e => x.dk e) x.ts
theorem ll_ex {T0 : List NTab} {H H' : Hp} {ll : Addr} {las : List Addr} {L : List (Str × Nat × Gr)} (h : H ll = some (.lst (las.map V.ref)) ∧ Paired (LlAt H) las L) (x : Ex T0 H H') : H' ll = some (.lst (las.map V.ref)) ∧ Paired (LlAt H') las L := ⟨x.lst h.1, Paired.mono' (fun _ _ e => LlAt.ts e x.ts) h.2⟩
/-- a told tree, or None -/
def TrV (H : Hp) (v : V) (o : Option Tr) : Prop := (o = none ∧ v = .non) ∨ ∃ t a, o = some t ∧ v = .ref a ∧ Rep H v t.dt
section
variable {P : Program} {w : World} {K : PySem.W.Frag} {mg : Str → Option Value} {base : Heap}
abbrev sClt : Stmt := top 21
abbrev nmClt : List Str := ["rulebook", "struck", "name", "live", "trees", "_"]
theorem scClt : FnScope nmClt ["rulebook", "struck", "name"] (defScope sClt) := ⟨rfl, rfl, rfl, by decide +kernel, rfl, by decide +kernel, by decide +kernel⟩
def spClt (T : List NTab) : Sp := fun vs H Q _ => ∃ (b sa : Addr) (rows : List Str) (ks : List Kd) (S : List Str) (n : Str), vs = [.ref b, .ref sa, .str n] ∧ BookAt H b rows ks ∧ BookOk rows ks ∧ Sq2 H sa (S.map V.str) ∧ TabsN T H ∧
  ∀ (v : V) (H' : Hp), Ex T H H' → TrV H' v (tget (tabC ks S ks.length) n) → Q v H'
theorem ok_Clt {T : List NTab} {f fL fG : Addr} {fd fdL fdG : FuncData} (F : Fun K "clean_tree" "clean_tree" sClt f fd) (CL : Ct P w K mg base "_live_list" 7 ["rulebook"] (spLli T) fL fdL) (CG : Ct P w K mg base "_grown_clean" 2 ["live", "struck", "trees"] spGc fG fdG) : FnOk P w K mg base CX0 8 f fd ["rulebook", "struck", "name"] (spClt T) := by
  refine F.ok scClt (fun vs H Q E h => ?_) (fun cdv A outer s H vs Q E hr h => ?_)
  · obtain ⟨b, sa, rows, ks, S, n, rfl, _⟩ := h
    rfl
  · obtain ⟨b, sa, rows, ks, S, n, rfl, hA, hO, hS, hT, k⟩ := h
    have u1 := hu_of hr
    have hr2 : Room 2 (A.deeper (envOfC "clean_tree" (defScope sClt) s.heap.objs.size f cdv)) := hr.mono (by decide)
    refine ⟨_, (pss_cons (ps_set (i := 3) scClt.nd rfl (Or.inl rfl) (pe_call CL.G hr (by rfl) CL.m CL.kp CL.b .nil pass0 (pa_cons (pv 0) pa_nil)))
      (pss_cons (ps_set (i := 4) scClt.nd rfl (Or.inl rfl) pe_dnewK)
      (pss_cons (ps_for PassesOwn.never rfl (pi_tup (pe_ix (r := rIxT K) ix_tup (pv 0) pe_int (fun _ _ => rfl))) (pg_name (i := 5) scClt.nd rfl (Or.inl rfl))
        (pss_one (ps_set (i := 4) scClt.nd rfl (Or.inl rfl) (pe_call CG.G hr2 (by rfl) CG.m CG.kp CG.b .nil pass0 (pa_cons (pv 3) (pa_cons (pv 1) (pa_cons (pv 4) pa_nil)))))))
      (pss_one (ps_ret (pe_dget1 u1 (pv 4) (pv 2) ⟨rfl, rfl, rfl, rfl⟩)))))), ?_⟩
    refine ⟨_, rfl, b, rows, ks, rfl, hA, hO, hT, fun ll las H1 X1 nl el pL => ?_⟩
    intro t0 nt0
    have s0 := same_upd (o := .dK []) nt0
    have e0 : upd H1 t0 (.dK []) t0 = some (.dK []) := upd_same
    have X2 := X1.trs s0
    have LL := ll_ex (T0 := T) ⟨el, pL⟩ (Ex.same X1.tab s0)
    generalize upd H1 t0 (.dK []) = H2 at s0 e0 X2 LL ⊢
    obtain ⟨r, kt, kas, e1, e2, e3, pk⟩ := id hA
    refine ⟨_, rfl, b, _, 1, .ref kt, rfl, rfl, SqT.of (X2.ts _ _ e1), rfl, kt, rfl, ⟨_, SqT.of (X2.ts _ _ e3)⟩, for_tup (K := K) (a := kt) (xs := kas.map V.ref) (fun i σ' J => (∃ (x5 : Option V) (td : Addr) (as : List Addr), σ' = [some (.ref b), some (.ref sa), some (.str n), some (.ref ll), some (.ref td), x5] ∧ TbAt J td (tabC ks S i) as) ∧ Ex T H J ∧ Ex T H2 J) ?_ ?_ ?_ ?_⟩
    · exact ⟨⟨_, t0, [], rfl, ⟨e0, .nil⟩⟩, X2, Ex.same X2.tab (fun _ _ e => e)⟩
    · rintro i σ' J _ ⟨_, XJ, _⟩
      exact SqT.of (XJ.ts _ _ e3)
    · rintro i x σ' J hx ⟨⟨x5, td, as, rfl, hTb⟩, XJ, XJ2⟩
      have inv := inv_tabs hO S i 1
      have LJ := ll_ex LL XJ2
      refine ⟨_, rfl, _, rfl, _, rfl, ll, sa, td, rows, ks, S, las, as, tabC ks S i, rfl, hO, LJ.1, LJ.2, XJ.sq2 hS, hTb, inv.nd, tab_in inv, fun p as' J2 S2 np hp => ?_⟩
      exact ⟨⟨_, p, as', rfl, hp⟩, XJ.trs S2, XJ2.trs S2⟩
    · rintro σ' J ⟨⟨x5, td, as, rfl, hTb⟩, XJ, XJ2⟩
      have lk : (kas.map V.ref).length = ks.length := by rw [List.length_map, paired_len pk]
      rw [lk] at hTb
      refine ⟨_, rfl, td, rfl, .inl ⟨_, .inl hTb.d⟩, _, rfl, _, DGet.k (k := Sum.inr n) hTb.d, ?_⟩
      rcases kvT_val (n := n) hTb.l with ⟨h1, h2⟩ | ⟨t, a, h1, h2, h3⟩
      · rw [h2]
        exact k .non J XJ (.inl ⟨h1, rfl⟩)
      · rw [h2]
        exact k (.ref a) J XJ (.inr ⟨t, a, h1, rfl, h3⟩)
abbrev sOlt : Stmt := top 22
abbrev nmOlt : List Str := ["rulebook", "struck", "name", "live", "trees", "olds", "_"]
theorem scOlt : FnScope nmOlt ["rulebook", "struck", "name"] (defScope sOlt) := ⟨rfl, rfl, rfl, by decide +kernel, rfl, by decide +kernel, by decide +kernel⟩
def spOlt (T : List NTab) : Sp := fun vs H Q _ => ∃ (b sa : Addr) (rows : List Str) (ks : List Kd) (S : List Str) (n : Str), vs = [.ref b, .ref sa, .str n] ∧ BookAt H b rows ks ∧ BookOk rows ks ∧ Sq2 H sa (S.map V.str) ∧ TabsN T H ∧
  ∀ (v : V) (H' : Hp), Ex T H H' → TrV H' v (tget (tabU ks S (2 * ks.length)) n) → Q v H'
theorem ok_Olt {T : List NTab} {f fL fG fO : Addr} {fd fdL fdG fdO : FuncData} (F : Fun K "old_tree" "old_tree" sOlt f fd) (TC : TxtC mg) (CL : Ct P w K mg base "_live_list" 7 ["rulebook"] (spLli T) fL fdL) (CG : Ct P w K mg base "_grown_clean" 2 ["live", "struck", "trees"] spGc fG fdG) (CO : Ct P w K mg base "_grown_old" 3 ["live", "struck", "trees", "olds"] spGo fO fdO) : FnOk P w K mg base CX0 8 f fd ["rulebook", "struck", "name"] (spOlt T) := by
  refine F.ok scOlt (fun vs H Q E h => ?_) (fun cdv A outer s H vs Q E hr h => ?_)
  · obtain ⟨b, sa, rows, ks, S, n, rfl, _⟩ := h
    rfl
  · obtain ⟨b, sa, rows, ks, S, n, rfl, hA, hO, hS, hT, k⟩ := h
    have u1 := hu_of hr
    have hr2 : Room 2 (A.deeper (envOfC "old_tree" (defScope sOlt) s.heap.objs.size f cdv)) := hr.mono (by decide)
    have hr3 : Room 3 (A.deeper (envOfC "old_tree" (defScope sOlt) s.heap.objs.size f cdv)) := hr.mono (by decide)
    refine ⟨_, (pss_cons (ps_set (i := 3) scOlt.nd rfl (Or.inl rfl) (pe_call CL.G hr (by rfl) CL.m CL.kp CL.b .nil pass0 (pa_cons (pv 0) pa_nil)))
      (pss_cons (ps_set (i := 4) scOlt.nd rfl (Or.inl rfl) pe_dnewK)
      (pss_cons (ps_set (i := 5) scOlt.nd rfl (Or.inl rfl) pe_dnewK)
      (pss_cons (ps_for PassesOwn.never rfl (pi_range1 rfl TC.b.range (pa_cons (pe_op op_mul pe_int (pe_callB (r := rLen K) call_len_seq (by rfl) TC.b.len PySem.boot_len (pa_cons (pe_ix (r := rIxT K) ix_tup (pv 0) pe_int (fun _ _ => rfl)) pa_nil))) pa_nil)) (pg_name (i := 6) scOlt.nd rfl (Or.inl rfl))
        (pss_cons (ps_set (i := 5) scOlt.nd rfl (Or.inl rfl) (pe_call CO.G hr3 (by rfl) CO.m CO.kp CO.b .nil pass0 (pa_cons (pv 3) (pa_cons (pv 1) (pa_cons (pv 4) (pa_cons (pv 5) pa_nil))))))
        (pss_one (ps_set (i := 4) scOlt.nd rfl (Or.inl rfl) (pe_call CG.G hr2 (by rfl) CG.m CG.kp CG.b .nil pass0 (pa_cons (pv 3) (pa_cons (pe_tup pa_nil) (pa_cons (pv 4) pa_nil))))))))
      (pss_one (ps_ret (pe_dget1 u1 (pv 5) (pv 2) ⟨rfl, rfl, rfl, rfl⟩))))))), ?_⟩
    have k5 := hO.k5
    refine ⟨_, rfl, b, rows, ks, rfl, hA, hO, hT, fun ll las H1 X1 nl el pL => ?_⟩
    intro t0 nt0
    have s0 := same_upd (o := .dK []) nt0
    have e0 : upd H1 t0 (.dK []) t0 = some (.dK []) := upd_same
    have X2 := X1.trs s0
    have LL := ll_ex (T0 := T) ⟨el, pL⟩ (Ex.same X1.tab s0)
    generalize upd H1 t0 (.dK []) = H2 at s0 e0 X2 LL ⊢
    intro u0 nu0
    have s1 := same_upd (o := .dK []) nu0
    have e1' : upd H2 u0 (.dK []) u0 = some (.dK []) := upd_same
    have X3 := X2.trs s1
    have e0' := s1 _ _ e0
    have LL := ll_ex LL (Ex.same X2.tab s1)
    generalize upd H2 u0 (.dK []) = H3 at s1 e1' X3 e0' LL ⊢
    obtain ⟨r, kt, kas, e1, e2, e3, pk⟩ := id hA
    have lk : (kas.map V.ref).length = ks.length := by rw [List.length_map, paired_len pk]
    refine ⟨_, rfl, b, _, 1, .ref kt, rfl, rfl, SqT.of (X3.ts _ _ e1), rfl, kt, _, rfl, .inr (SqT.of (X3.ts _ _ e3)), ?_⟩
    rw [lk]
    refine ⟨_, _, rfl, rfl, .inl ⟨by decide, by decide⟩, _, rfl, by omega, by omega, for_range (n := ((2 : Int) * (ks.length : Int)).toNat) (fun i σ' J => (∃ (x6 : Option V) (td ud : Addr) (as us : List Addr), σ' = [some (.ref b), some (.ref sa), some (.str n), some (.ref ll), some (.ref td), some (.ref ud), x6] ∧ TbAt J td (tabC ks [] i) as ∧ TbAt J ud (tabU ks S i) us) ∧ Ex T H J ∧ Ex T H3 J) ?_ ?_ ?_⟩
    · exact ⟨⟨_, t0, u0, [], [], rfl, ⟨e0', .nil⟩, ⟨e1', .nil⟩⟩, X3, Ex.same X3.tab (fun _ _ e => e)⟩
    · rintro i σ' J hi ⟨⟨x6, td, ud, as, us, rfl, hA', hU⟩, XJ, XJ3⟩
      have i0 := inv_tabs hO S i 0
      have i2 := inv_tabs hO S i 2
      have LJ := ll_ex LL XJ3
      refine ⟨_, rfl, _, rfl, _, rfl, _, rfl, ll, sa, td, ud, rows, ks, S, las, us, as, tabU ks S i, tabC ks [] i, rfl, hO, LJ.1, LJ.2, XJ.sq2 hS, hA', hU, i2.nd, tab_in i2, fun p us' J2 S2 np hp => ?_⟩
      have XJ2 := XJ.trs S2
      refine ⟨_, rfl, Nat.zero_le _, fun t nt => ?_⟩
      have St := same_upd (o := .tup []) nt
      have XJ4 := XJ2.trs St
      have XJ5 := (XJ3.trs S2).trs St
      have LJ5 := ll_ex LL XJ5
      have S24 := KaG.Same.tr S2 St
      refine ⟨_, rfl, ll, t, td, rows, ks, [], las, as, tabC ks [] i, rfl, hO, LJ5.1, LJ5.2, .inr upd_same, hA'.same S24, i0.nd, tab_in i0, fun q as' J6 S6 nq hq => ?_⟩
      exact ⟨⟨_, q, p, as', us', rfl, hq, (hp.same St).same S6⟩, XJ4.trs S6, XJ5.trs S6⟩
    · rintro σ' J ⟨⟨x6, td, ud, as, us, rfl, hA', hU⟩, XJ, XJ3⟩
      have e2k : ((2 : Int) * (ks.length : Int)).toNat = 2 * ks.length := by omega
      rw [e2k] at hU
      refine ⟨_, rfl, ud, rfl, .inl ⟨_, .inl hU.d⟩, _, rfl, _, DGet.k (k := Sum.inr n) hU.d, ?_⟩
      rcases kvT_val (n := n) hU.l with ⟨h1, h2⟩ | ⟨t, a, h1, h2, h3⟩
      · rw [h2]
        exact k .non J XJ (.inl ⟨h1, rfl⟩)
      · rw [h2]
        exact k (.ref a) J XJ (.inr ⟨t, a, h1, rfl, h3⟩)
end
end KaG
set_option maxRecDepth 100000
set_option maxHeartbeats 4000000
namespace KaG
open PySem PySem.Spec PyProof.Rows L2 KaC KaN LamX NdefX KaU
mutual
def Tr.sz : Tr → Nat
  | .nd _ _ ps => ps.sz + 1
def TrL.sz : TrL → Nat
  | .nil => 0
  | .row r => r.sz
  | .kid t r => t.sz + r.sz
end
mutual
theorem sz_wt {rows : List Str} {ks : List Kd} (hO : BookOk rows ks) : ∀ {n : Str} (t : Tr), WT (lvg ks) n t → 2 * t.sz + 1 ≤ 3 ^ t.lv
  | n, .nd _ i ps, h => by
    cases h with
    | nd m h =>
      have l3 := (lvg_ok hO m).len
      have hk := (wtl_kids h).1
      have h1 := sz_wtl hO ps h (k := ps.lv) (Nat.le_refl _)
      rw [Tr.sz, Tr.lv, Nat.pow_succ]
      have hp : 0 < 3 ^ ps.lv := Nat.pow_pos (by decide)
      generalize 3 ^ ps.lv = X at h1 hp ⊢
      have hc : ps.kids.length ≤ 3 := by omega
      generalize ps.kids.length = c at h1 hc
      match c, hc with
      | 0, _ => omega
      | 1, _ => omega
      | 2, _ => omega
      | 3, _ => omega
theorem sz_wtl {rows : List Str} {ks : List Kd} (hO : BookOk rows ks) : ∀ {g : Gr} (ps : TrL), WTL (lvg ks) g ps → ∀ {k : Nat}, ps.lv ≤ k → 2 * ps.sz + ps.kids.length ≤ ps.kids.length * 3 ^ k
  | _, .nil, _, _, _ => Nat.zero_le _
  | _, .row r, h, k, l => by
    cases h with
    | row e h => exact sz_wtl hO r h (k := k) l
  | _, .kid t r, h, k, l => by
    cases h with
    | kid e ht h =>
      rw [TrL.lv] at l
      have h1 := sz_wt hO t ht
      have h2 := sz_wtl hO r h (k := k) (by omega)
      have h3 : 3 ^ t.lv ≤ 3 ^ k := Nat.pow_le_pow_right (by decide) (by omega)
      rw [TrL.sz, TrL.kids, List.length_cons, Nat.add_mul]
      omega
end
def TrL.opts : TrL → List (Option Tr)
  | .nil => []
  | .row r => none :: r.opts
  | .kid t r => some t :: r.opts
theorem opts_at {G : Str → List (Nat × Gr)} {H : Hp} : ∀ {g : Gr} {ps : TrL} {xs : List V}, WTL G g ps → RepA H xs ps.dt → xs.length = g.length ∧ ps.opts.length = g.length ∧ ∀ {i : Nat} {x : V} {it : List V}, xs[i]? = some x → g[i]? = some it →
      (x = .non ∧ kdOf it = none ∧ ps.opts[i]? = some none) ∨ ∃ (t : Tr) (a : Addr) (m : Str), x = .ref a ∧ Rep H (.ref a) t.dt ∧ kdOf it = some m ∧ WT G m t ∧ ps.opts[i]? = some (some t)
  | _, _, _, .nil, h => by
    rw [TrL.dt] at h
    cases h
    exact ⟨rfl, rfl, fun e => by cases e⟩
  | _, _, _, .row e h, hr => by
    rw [TrL.dt] at hr
    cases hr with
    | cons h1 h2 =>
      obtain ⟨l1, l2, f⟩ := opts_at h h2
      refine ⟨by rw [List.length_cons, List.length_cons, l1], by rw [TrL.opts, List.length_cons, List.length_cons, l2], fun {i x it} ex eg => ?_⟩
      cases i with
      | zero => cases h1; cases ex; cases eg; exact .inl ⟨rfl, e, rfl⟩
      | succ i => exact f (i := i) ex eg
  | _, _, _, .kid (t := t) e ht h, hr => by
    rw [TrL.dt] at hr
    cases hr with
    | cons h1 h2 =>
      obtain ⟨l1, l2, f⟩ := opts_at h h2
      refine ⟨by rw [List.length_cons, List.length_cons, l1], by rw [TrL.opts, List.length_cons, List.length_cons, l2], fun {i x it} ex eg => ?_⟩
      cases i with
      | zero =>
        cases ex; cases eg
        obtain ⟨n, j, ps⟩ := t
        obtain ⟨a, p, zs, rfl, _⟩ := tr_inv h1
        exact .inr ⟨_, a, _, rfl, h1, e, ht, rfl⟩
      | succ i => exact f (i := i) ex eg
def ptR (gA : Str → Nat → Gr) : List V × Option Tr → List Str
  | (it, none) => [rwOf it]
  | (_, some t) => t.rows gA
theorem rows_flat {G : Str → List (Nat × Gr)} {gA : Str → Nat → Gr} : ∀ {g : Gr} {ps : TrL}, WTL G g ps → ps.rows gA g = (g.zip ps.opts).flatMap (ptR gA)
  | _, _, .nil => rfl
  | _, _, .row e h => by
    rw [TrL.rows, TrL.opts, List.zip_cons_cons, List.flatMap_cons, ← rows_flat h]
    rfl
  | _, _, .kid e ht h => by
    rw [TrL.rows, TrL.opts, List.zip_cons_cons, List.flatMap_cons, ← rows_flat h]
    rfl
def ptZ : Option Tr → Nat
  | none => 0
  | some t => t.sz
theorem sz_sum : ∀ ps : TrL, ps.sz = (ps.opts.map ptZ).sum
  | .nil => rfl
  | .row r => by rw [TrL.sz, TrL.opts, List.map_cons, List.sum_cons, sz_sum r]; exact (Nat.zero_add _).symm
  | .kid t r => by rw [TrL.sz, TrL.opts, List.map_cons, List.sum_cons, sz_sum r]; rfl
theorem inV_int {p : Nat} : ∀ {B : List Nat}, inV (.int (p : Int)) (ixV B) = decide (p ∈ B)
  | [] => rfl
  | b :: r => by
    have ih := inV_int (p := p) (B := r)
    unfold ixV inV at ih ⊢
    rw [List.map_cons, List.any_cons, ih]
    show (((b : Int) == (p : Int)) || decide (p ∈ r)) = _
    by_cases h : b = p
    · subst h
      simp
    · have : ((b : Int) == (p : Int)) = false := by
        rw [beq_eq_false_iff_ne]
        exact fun z => h (Int.ofNat.inj z)
      rw [this, Bool.false_or]
      exact decide_eq_decide.mpr ⟨fun z => List.mem_cons_of_mem _ z, fun z => (List.mem_cons.mp z).elim (fun y => absurd y.symm h) id⟩
theorem flat_ix : ∀ {B : List Nat}, (ixV B).all flatV = true
  | [] => rfl
  | _ :: r => by
    have := flat_ix (B := r)
    unfold ixV at this ⊢
    rw [List.map_cons, List.all_cons, this]
    rfl
section
variable {P : Program} {w : World} {K : PySem.W.Frag} {mg : Str → Option Value} {base : Heap}
abbrev sGof : Stmt := top 23
abbrev nmGof : List Str := ["rulebook", "live", "name", "thing", "kind", "index", "parts", "ground"]
theorem scGof : FnScope nmGof ["rulebook", "live", "name", "thing"] (defScope sGof) := ⟨rfl, rfl, rfl, by decide +kernel, rfl, by decide +kernel, by decide +kernel⟩
/-- of a value that is a tree of the kind -/
def spGof : Sp := fun vs H Q _ => ∃ (b d a : Addr) (rows : List Str) (ks : List Kd) (ls : List Addr) (n : Str) (t : Tr), vs = [.ref b, .ref d, .str n, .ref a] ∧ BookAt H b rows ks ∧ BookOk rows ks ∧ LiveH H d ks ls ∧ Rep H (.ref a) t.dt ∧ WT (lvg ks) n t ∧
  ∀ (ga : Addr) (g : Gr) (i : Nat) (ps : TrL), t = .nd n i ps → (i, g) ∈ lvg ks n → WTL (lvg ks) g ps → Grd H ga g → Q (.ref ga) H
theorem ok_Gof {f fI fK : Addr} {fd fdI fdK : FuncData} (F : Fun K "_ground_of" "_ground_of" sGof f fd) (TC : TxtC mg) (CI : Ct P w K mg base "is_integer" 1 ["thing"] spIsInt fI fdI) (CK : Ct P w K mg base "kind_of" 1 ["rulebook", "name"] spKindN fK fdK) : FnOk P w K mg base CX0 2 f fd ["rulebook", "live", "name", "thing"] spGof := by
  refine F.ok scGof (fun vs H Q E h => ?_) (fun cdv A outer s H vs Q E hr h => ?_)
  · obtain ⟨b, d, a, rows, ks, ls, n, t, rfl, _⟩ := h
    rfl
  · obtain ⟨b, d, a, rows, ks, ls, n, t, rfl, hA, hO, hL, hv, hw, k⟩ := h
    have u1 := hu_of hr
    refine ⟨_, (pss_cons (ps_if (PW.pt (pw_or (pt_not (pt_val (pe_callB call_isi (by rfl) TC.b.isin (by decide +kernel) (pa_cons (pv 3) (pa_cons (pe_bltn (v := .ty "tuple") (by rfl) TC.tup (by decide +kernel) rfl) pa_nil)))))
        (pw_or1 (pt_cmpR op_ne (pe_callB (r := rLen K) call_len_seq (by rfl) TC.b.len PySem.boot_len (pa_cons (pv 3) pa_nil)) pe_int (nomark _))))) (pss_one (ps_ret pe_non)) pss_nil)
      (pss_cons (ps_asg (pv 3) (pg_tup (by rfl) (pgs_cons (pg_name (i := 4) scGof.nd rfl (Or.inl rfl)) (pgs_cons (pg_name (i := 5) scGof.nd rfl (Or.inl rfl)) (pgs_cons (pg_name (i := 6) scGof.nd rfl (Or.inl rfl)) pgs_nil)))))
      (pss_cons (ps_if (PW.pt (pw_or (pt_cmpR (r := rNe) op_ne (pv 4) (pv 2) (nomark _))
        (pw_or (pt_not (pt_val (pe_call CI.G hr (by rfl) CI.m CI.kp CI.b .nil pass0 (pa_cons (pv 5) pa_nil))))
        (pw_or (pt_cmpR (r := rIn K true) op_notIn_seq (pv 5) (pe_dget u1 (pv 1) (pv 2) (fun _ _ => rfl)) rfl)
        (pw_or1 (pt_not (pt_val (pe_callB call_isi (by rfl) TC.b.isin (by decide +kernel) (pa_cons (pv 6) (pa_cons (pe_bltn (v := .ty "tuple") (by rfl) TC.tup (by decide +kernel) rfl) pa_nil)))))))))) (pss_one (ps_ret pe_non)) pss_nil)
      (pss_cons (ps_set (i := 7) scGof.nd rfl (Or.inl rfl) (pe_ix (r := rIxT K) ix_tup (pe_ix (r := rIxT K) ix_tup (pe_call CK.G hr (by rfl) CK.m CK.kp CK.b .nil pass0 (pa_cons (pv 0) (pa_cons (pv 2) pa_nil))) pe_int (fun _ _ => rfl)) (pv 5) (fun _ _ => rfl)))
      (pss_one (ps_ret (pe_ifExp (pt_cmpR (r := rEq) op_eq (pe_callB (r := rLen K) call_len_seq (by rfl) TC.b.len PySem.boot_len (pa_cons (pv 6) pa_nil)) (pe_callB (r := rLen K) call_len_seq (by rfl) TC.b.len PySem.boot_len (pa_cons (pv 7) pa_nil)) (nomark _)) (pv 7) pe_non))))))), ?_⟩
    obtain ⟨n', i, ps⟩ := t
    cases hw with
    | nd m h =>
      rename_i g
      have hi := (lvg_mem.mp m).1
      obtain ⟨a', p, xs, ea, e, ep, rp⟩ := tr_inv hv
      cases ea
      obtain ⟨l1, l2, _⟩ := opts_at h rp
      have nm : n ∈ nmsOf ks := gs_nm (live_g hi).1
      obtain ⟨kd, mk, rfl⟩ := List.mem_map.mp nm
      obtain ⟨ll, ev, ell⟩ := kvs_get hO.nm.nd hL.l mk
      refine ⟨_, rfl, .ref a, .ty "tuple", _, _, true, rfl, .ty "tuple", .base (.tup e), rfl, _, rfl, iteF ?_⟩
      refine ⟨_, rfl, a, _, rfl, .inr (SqT.of e), rfl, _, rfl, iteF ?_⟩
      refine ⟨_, rfl, a, _, rfl, SqT.of e, rfl, _, _, rfl, _, _, rfl, _, _, rfl, rfl, ?_⟩
      refine ⟨_, rfl, _, rfl, rfl, _, rfl, iteDF (by simp) ?_⟩
      refine ⟨_, rfl, _, rfl, .int _, _, rfl, iteF ?_⟩
      refine ⟨_, rfl, _, rfl, _, rfl, d, .ref ll, rfl, .inl ⟨kvsOf ks ls, Sum.inr kd.name, .inl hL.d, rfl, ev.symm⟩, ll, ixV (liveIx ks (bearOf ks) kd.name), rfl, .inl (SqL.of ell), rfl, flat_ix, _, rfl, ?_⟩
      rw [show (if true = true then !inV (V.int (i : Int)) (ixV (liveIx ks (bearOf ks) kd.name)) else inV (V.int (i : Int)) (ixV (liveIx ks (bearOf ks) kd.name))) = !decide (i ∈ liveIx ks (bearOf ks) kd.name) from congrArg (!·) inV_int, decide_eq_true hi]
      refine iteF ?_
      refine ⟨_, rfl, .ref p, .ty "tuple", _, _, true, rfl, .ty "tuple", .base (.tup ep), rfl, _, rfl, iteF ?_⟩
      obtain ⟨gr, hgr, _⟩ := ats_mem.mp hi
      have e1 : grAt ks kd.name i = gr := grAt_at hgr
      have e2 : g = gr := by rw [(lvg_mem.mp m).2, e1]
      subst e2
      rw [gsOf_eq hO.nm.nd mk] at hgr
      refine ⟨_, rfl, _, rfl, b, rows, ks, kd.name, rfl, hA, hO.nm.nd, nm, fun ka kd2 mk2 kn hk => ?_⟩
      obtain rfl := kd_one hO.nm.nd mk2 mk kn
      obtain ⟨gt, gas2, f1, f2, f3⟩ := hk
      obtain ⟨ga, hga, eGr⟩ := paired_at2 f3 hgr
      obtain ⟨ns, eg, pn⟩ := id eGr
      have lns := paired_len pn
      refine ⟨ka, _, 3, .ref gt, rfl, rfl, SqT.of f1, rfl, _, rfl, gt, _, _, .ref ga, rfl, rfl, SqT.of f2, atI_nat (by rw [List.getElem?_map, hga]; rfl), ?_⟩
      refine ⟨_, rfl, p, _, rfl, .inr (SqT.of ep), _, rfl, ga, _, rfl, .inr (SqT.of eg), rfl, _, rfl, iteD (decide_eq_true ?_) ?_⟩
      · rw [List.length_map, l1, lns]
      · exact ⟨_, rfl, k ga g i ps rfl m h eGr⟩
end
end KaG
set_option maxRecDepth 100000
set_option maxHeartbeats 4000000
namespace KaG
open PySem PySem.Spec PyProof.Rows L2 KaC KaN LamX NdefX KaU RZ
theorem paired_last {α β : Type} {R : α → β → Prop} {y : α} : ∀ {ys : List α} {L : List β}, Paired R (ys ++ [y]) L → ∃ M e, L = M ++ [e] ∧ Paired R ys M ∧ R y e
  | [], _, h => by
    cases h with
    | cons h1 h2 => cases h2; exact ⟨[], _, rfl, .nil, h1⟩
  | x :: ys, _, h => by
    rw [List.cons_append] at h
    cases h with
    | cons h1 h2 =>
      obtain ⟨M, e, rfl, h3, h4⟩ := paired_last h2
      exact ⟨_ :: M, e, rfl, .cons h1 h3, h4⟩
theorem drop_at {α : Type} {l : List α} {j : Nat} {z : α} (h : l[j]? = some z) : l.drop j = z :: l.drop (j + 1) := by
  obtain ⟨hj, rfl⟩ := List.getElem?_eq_some_iff.mp h
  exact List.drop_eq_getElem_cons hj
section
variable {P : Program} {w : World} {K : PySem.W.Frag} {mg : Str → Option Value} {base : Heap}
abbrev sRnd : Stmt := top 24
abbrev nmRnd : List Str := ["rulebook", "name", "thing", "live", "rows", "left", "kind", "tree", "ground", "need", "part"]
theorem scRnd : FnScope nmRnd ["rulebook", "name", "thing"] (defScope sRnd) := ⟨rfl, rfl, rfl, by decide +kernel, rfl, by decide +kernel, by decide +kernel⟩
abbrev PqAt (H : Hp) (x : V) (e : Str × Tr) : Prop := ∃ a c : Addr, x = .ref a ∧ H a = some (.tup [.str e.1, .ref c]) ∧ Rep H (.ref c) e.2.dt
theorem PqAt.ts {H H' : Hp} {x : V} {e : Str × Tr} (h : PqAt H x e) (s : TSame H H') : PqAt H' x e := by
  obtain ⟨a, c, e1, e2, e3⟩ := h
  exact ⟨a, c, e1, s _ _ e2, tr_ts s _ e3⟩
/-- of a value that is a tree of the kind -/
def spRnd (T : List NTab) : Sp := fun vs H Q _ => ∃ (b a : Addr) (rows : List Str) (ks : List Kd) (n : Str) (t : Tr), vs = [.ref b, .str n, .ref a] ∧ BookAt H b rows ks ∧ BookOk rows ks ∧ TabsN T H ∧ Rep H (.ref a) t.dt ∧ WT (lvg ks) n t ∧ t.lv ≤ 10 ∧
  ∀ (p : Addr) (R : List Str) (H' : Hp), Ex T H H' → H p = none → H' p = some (.lst (R.map V.str)) → R.length ≤ 3 ^ 11 → (∀ r, r ∈ R ↔ r ∈ t.rows (grAt ks)) → Q (.ref p) H'
theorem ok_Rnd {T : List NTab} {f fL fG : Addr} {fd fdL fdG : FuncData} (F : Fun K "_rows_needed" "_rows_needed" sRnd f fd) (TC : TxtC mg) (hzip : mg "zip" = none) (CL : Ct P w K mg base "live_indexes" 6 ["rulebook"] (spLiveIx T) fL fdL) (CG : Ct P w K mg base "_ground_of" 2 ["rulebook", "live", "name", "thing"] spGof fG fdG) : FnOk P w K mg base CX0 7 f fd ["rulebook", "name", "thing"] (spRnd T) := by
  refine F.ok scRnd (fun vs H Q E h => ?_) (fun cdv A outer s H vs Q E hr h => ?_)
  · obtain ⟨b, a, rows, ks, n, t, rfl, _⟩ := h
    rfl
  · obtain ⟨b, a, rows, ks, n, t, rfl, hA, hO, hT, hv, hw, l10, k⟩ := h
    have u1 := hu_of hr
    have hr2 : Room 2 (A.deeper (envOfC "_rows_needed" (defScope sRnd) s.heap.objs.size f cdv)) := hr.mono (by decide)
    refine ⟨_, (pss_cons (ps_set (i := 3) scRnd.nd rfl (Or.inl rfl) (pe_call CL.G hr (by rfl) CL.m CL.kp CL.b .nil pass0 (pa_cons (pv 0) pa_nil)))
      (pss_cons (ps_set (i := 4) scRnd.nd rfl (Or.inl rfl) (pe_lst pa_nil))
      (pss_cons (ps_set (i := 5) scRnd.nd rfl (Or.inl rfl) (pe_lst (pa_cons (pe_tup (pa_cons (pv 1) (pa_cons (pv 2) pa_nil))) pa_nil)))
      (pss_cons (ps_while PassesOwn.never (pt_truth (pv 5) (by intro _; rfl))
        (pss_cons (ps_asg (pe_bm0 PySem.F.plainAttrs_list PySem.F.slot_list_pop PySem.F.type_list_pop mt_pop (pv 5)) (pg_tup (by rfl) (pgs_cons (pg_name (i := 6) scRnd.nd rfl (Or.inl rfl)) (pgs_cons (pg_name (i := 7) scRnd.nd rfl (Or.inl rfl)) pgs_nil))))
        (pss_cons (ps_set (i := 8) scRnd.nd rfl (Or.inl rfl) (pe_call CG.G hr2 (by rfl) CG.m CG.kp CG.b .nil pass0 (pa_cons (pv 0) (pa_cons (pv 3) (pa_cons (pv 6) (pa_cons (pv 7) pa_nil))))))
        (pss_cons (ps_if (pt_cmpR (r := rIsN) op_isN1 (pv 8) pe_non (nomark _)) (pss_one (ps_ret pe_non)) pss_nil)
        (pss_one (ps_for PassesOwn.never rfl (pi_zipA (by rfl) hzip (pa_cons (pv 8) (pa_cons (pe_ix (r := rIxT K) ix_tup (pv 7) pe_int (fun _ _ => rfl)) pa_nil))) (pg_tup (by rfl) (pgs_cons (pg_name (i := 9) scRnd.nd rfl (Or.inl rfl)) (pgs_cons (pg_name (i := 10) scRnd.nd rfl (Or.inl rfl)) pgs_nil)))
          (pss_one (ps_if (pt_cmpR (r := rEq) op_eq (pe_ix (r := rIxT K) ix_tup (pv 9) pe_int (fun _ _ => rfl)) pe_str (nomark _))
            (pss_one (ps_expr (pe_bm PySem.F.plainAttrs_list PySem.F.slot_list_append PySem.F.type_list_append mt_append (pv 5) (pa_cons (pe_tup (pa_cons (pe_ix (r := rIxT K) ix_tup (pv 9) pe_int (fun _ _ => rfl)) (pa_cons (pv 10) pa_nil))) pa_nil))))
            (pss_one (ps_if (pt_cmpR (r := rIsN) op_isN1 (pv 10) pe_non (nomark _))
              (pss_one (ps_expr (pe_bm PySem.F.plainAttrs_list PySem.F.slot_list_append PySem.F.type_list_append mt_append (pv 4) (pa_cons (pe_ix (r := rIxT K) ix_tup (pv 9) pe_int (fun _ _ => rfl)) pa_nil))))
              (pss_one (ps_ret pe_non))))))))))))
      (pss_one (ps_ret (pv 4))))))), ?_⟩
    have sz : ∀ {m : Nat}, m ≤ 900 → m ≤ sizeLine := fun h => Nat.le_of_lt (small1000 (by omega))
    have big : ∀ {m : Nat}, m ≤ 3 ^ 11 → m < sizeLine := fun h => Nat.lt_of_le_of_lt h (by decide)
    refine ⟨_, rfl, b, rows, ks, rfl, hA, hO, hT, fun d ls H1 X1 nd1 hD _ => ?_⟩
    have hL1 : LiveH H1 d ks ls := hD.h
    refine ⟨sz (by show 0 ≤ 900; decide), fun ra nra => ?_⟩
    have s2 := same_upd (o := .lst []) nra
    have er0 : upd H1 ra (.lst []) ra = some (.lst []) := upd_same
    generalize upd H1 ra (.lst []) = H2 at s2 er0 ⊢
    refine ⟨_, rfl, _, rfl, sz (by show 2 ≤ 900; decide), fun t0 nt0 => ?_⟩
    have s3 := same_upd (o := .tup [.str n, .ref a]) nt0
    have et0 : upd H2 t0 (.tup [.str n, .ref a]) t0 = some (.tup [.str n, .ref a]) := upd_same
    have S3 := KaG.Same.tr s2 s3
    have er1 := s3 _ _ er0
    generalize upd H2 t0 (.tup [.str n, .ref a]) = H3 at et0 S3 er1 ⊢
    refine ⟨sz (by show 1 ≤ 900; decide), fun la nla => ?_⟩
    have s4 := same_upd (o := .lst [.ref t0]) nla
    have el0 : upd H3 la (.lst [.ref t0]) la = some (.lst [.ref t0]) := upd_same
    have S4 := KaG.Same.tr S3 s4
    have er2 := s4 _ _ er1
    have et1 := s4 _ _ et0
    have nla1 := same_non S3 la nla
    have nrl : ra ≠ la := fun z => by rw [z, nla] at er1; cases er1
    generalize upd H3 la (.lst [.ref t0]) = H4 at el0 S4 er2 et1 ⊢
    have sz0 := sz_wt hO t hw
    have l3 : 3 ^ t.lv ≤ 3 ^ 10 := Nat.pow_le_pow_right (by decide) l10
    have e10 : 3 ^ 10 = 59049 := by decide
    have e11 : 3 ^ 11 = 177147 := by decide
    let W : Nat → L2.St → Hp → Prop := fun m σ' G => ∃ (x6 x7 x8 x9 x10 : Option V) (R : List Str) (xs : List V) (L : List (Str × Tr)), σ' = [some (.ref b), some (.str n), some (.ref a), some (.ref d), some (.ref ra), some (.ref la), x6, x7, x8, x9, x10] ∧ Same H1 G ∧ G ra = some (.lst (R.map V.str)) ∧ G la = some (.lst xs) ∧ Paired (PqAt G) xs L ∧ (∀ e ∈ L, WT (lvg ks) e.1 e.2) ∧
      (∀ r, r ∈ t.rows (grAt ks) ↔ r ∈ R ∨ ∃ e ∈ L, r ∈ e.2.rows (grAt ks)) ∧ R.length + L.length + 3 * m ≤ 3 * t.sz + 1 ∧ m = (L.map fun e => e.2.sz).sum
    have w0 : W (([(n, t)].map fun e : Str × Tr => e.2.sz).sum) [some (.ref b), some (.str n), some (.ref a), some (.ref d), some (.ref ra), some (.ref la), none, none, none, none, none] H4 := by
      refine ⟨_, _, _, _, _, [], [.ref t0], [(n, t)], rfl, S4, er2, el0, .cons ⟨t0, a, rfl, et1, Rep.sm S4 (tr_ts X1.ts _ hv)⟩ .nil, fun e m => by rw [List.mem_singleton.mp m]; exact hw, fun r => ?_, ?_, rfl⟩
      · refine ⟨fun h => .inr ⟨_, List.mem_cons_self, h⟩, fun h => ?_⟩
        rcases h with h | ⟨e, me, h⟩
        · cases h
        · rw [List.mem_singleton.mp me] at h
          exact h
      · show 0 + 1 + 3 * (t.sz + 0) ≤ _
        omega
    refine ⟨W, ⟨_, w0⟩, ?_⟩
    rintro m σ' G ⟨x6, x7, x8, x9, x10, R, xs, L, rfl, SG, eR, eL, pL, wL, iffR, bd, em⟩
    refine ⟨_, rfl, _, .inl ⟨xs, SqL.of eL, rfl⟩, ?_⟩
    rcases List.eq_nil_or_concat xs with rfl | ⟨ys, y, rfl⟩
    · cases pL
      refine ifF rfl ⟨_, rfl, ?_⟩
      refine k ra R G (X1.tr (Ex.same X1.tab SG)) (X1.non ra nra) eR (by simp only [List.length_nil] at bd; omega) fun r => ?_
      rw [iffR r]
      exact ⟨.inl, fun h => h.resolve_right fun ⟨e, me, _⟩ => by cases me⟩
    · rw [List.concat_eq_append] at eL pL ⊢
      refine ifT (by simp) ?_
      obtain ⟨M, ⟨n1, t1⟩, rfl, pM, a1, c1, rfl, ea1, ec1⟩ := paired_last pL
      have wt1 := wL (n1, t1) (by simp)
      dsimp only at wt1 ea1 ec1
      rw [List.map_append, List.sum_append, List.map_singleton, List.sum_singleton] at em
      rw [List.length_append, List.length_singleton] at bd
      refine ⟨fun σ' H' => ∃ m', m' < m ∧ W m' σ' H', fun _ _ h => h, ?_⟩
      refine ⟨_, rfl, .inl ⟨rfl, _, SqL.of eL⟩, la, ys ++ [V.ref a1], .ref a1, rfl, rfl, eL, by simp, ?_⟩
      rw [List.dropLast_concat]
      have tsl := ts_lst (ys := ys) eL
      have ea2 := tsl _ _ ea1
      have ec2 := tr_ts tsl _ ec1
      have pM2 := Paired.mono' (fun x e h => PqAt.ts h tsl) pM
      have SG2 : Same H1 (upd G la (.lst ys)) := fun c u e => by rw [upd_ne (ne_of_none e nla1)]; exact SG c u e
      have eR2 : upd G la (.lst ys) ra = some (.lst (R.map V.str)) := by rw [upd_ne nrl]; exact eR
      have eL2 : upd G la (.lst ys) la = some (.lst ys) := upd_same
      generalize upd G la (.lst ys) = G2 at ea2 ec2 pM2 SG2 eR2 eL2 ⊢
      refine ⟨a1, _, rfl, SqT.of ea2, rfl, _, _, rfl, _, _, rfl, rfl, ?_⟩
      have X2 := X1.tr (Ex.same X1.tab SG2)
      refine ⟨_, rfl, _, rfl, _, rfl, _, rfl, b, d, c1, rows, ks, ls, n1, t1, rfl, hA.ts X2.ts, hO, hL1.same SG2, ec2, wt1, fun ga g i ps et mg hps hG => ?_⟩
      subst et
      obtain ⟨c2, p, zs, ec, e2, ep, rp⟩ := tr_inv ec2
      cases ec
      obtain ⟨ns, eg, pn⟩ := id hG
      have lns := paired_len pn
      have g3 := (lvg_ok hO mg).len
      obtain ⟨lz, lo, oa⟩ := opts_at hps rp
      have zsum := sz_sum ps
      rw [Tr.sz] at em
      refine ⟨_, rfl, rfl, _, rfl, ifF rfl ?_⟩
      refine ⟨_, rfl, _, rfl, c1, _, 2, .ref p, rfl, rfl, SqT.of e2, rfl, ga, p, ns.map V.ref, zs, rfl, .inr ⟨SqT.of eg, SqT.of ep, ?_⟩⟩
      have rfl1 := rows_flat (gA := grAt ks) hps
      have erw : (Tr.nd n1 i ps).rows (grAt ks) = (g.zip ps.opts).flatMap (ptR (grAt ks)) := by
        rw [Tr.rows, ← (lvg_mem.mp mg).2]; exact rfl1
      refine for_zipT (K := K) (a := ga) (b := p) (xs := ns.map V.ref) (ys := zs) (by rw [List.length_map]; omega) (fun j σ' J => ∃ (x9 x10 : Option V) (R' : List Str) (qs : List V) (L' : List (Str × Tr)), σ' = [some (.ref b), some (.str n), some (.ref a), some (.ref d), some (.ref ra), some (.ref la), some (.str n1), some (.ref c1), some (.ref ga), x9, x10] ∧ Same H1 J ∧ TSame G2 J ∧ J ra = some (.lst (R'.map V.str)) ∧ J la = some (.lst qs) ∧ Paired (PqAt J) qs L' ∧ (∀ e ∈ L', WT (lvg ks) e.1 e.2) ∧
        (∀ r, r ∈ t.rows (grAt ks) ↔ r ∈ R' ∨ (∃ e ∈ L', r ∈ e.2.rows (grAt ks)) ∨ r ∈ ((g.zip ps.opts).drop j).flatMap (ptR (grAt ks))) ∧ R'.length + L'.length ≤ R.length + M.length + j ∧ (L'.map fun e => e.2.sz).sum + ((ps.opts.drop j).map ptZ).sum = (M.map fun e => e.2.sz).sum + ps.sz) ?_ ?_ ?_ ?_
      · refine ⟨_, _, R, ys, M, rfl, SG2, fun _ _ e => e, eR2, eL2, pM2, fun e m => wL e (List.mem_append_left _ m), fun r => ?_, Nat.le_refl _, ?_⟩
        · rw [iffR r, List.drop_zero, ← erw]
          refine ⟨fun h => ?_, fun h => ?_⟩
          · rcases h with h | ⟨e, me, h⟩
            · exact .inl h
            · rcases List.mem_append.mp me with me | me
              · exact .inr (.inl ⟨e, me, h⟩)
              · rw [List.mem_singleton.mp me] at h
                exact .inr (.inr h)
          · rcases h with h | ⟨e, me, h⟩ | h
            · exact .inl h
            · exact .inr ⟨e, List.mem_append_left _ me, h⟩
            · exact .inr ⟨_, List.mem_append_right _ List.mem_cons_self, h⟩
        · rw [List.drop_zero, zsum]
      · rintro j σ' J ⟨_, _, _, _, _, _, SJ, TJ, _⟩
        exact ⟨SqT.of (TJ _ _ eg), SqT.of (TJ _ _ ep)⟩
      · rintro j x y T0 σ' J hx hy ⟨x9, x10, R', qs, L', rfl, SJ, TJ, jR, jL, pJ, wJ, iffJ, bdJ, smJ⟩ nT0
        rw [List.getElem?_map] at hx
        obtain ⟨na, hna, rfl⟩ := Option.map_eq_some_iff.mp hx
        obtain ⟨it, hit, en⟩ := paired_at pn hna
        have nv := (lvg_ok hO mg).nv it (List.mem_of_getElem? hit)
        have gi := (List.getElem?_eq_some_iff.mp hit).1
        have sT := same_upd (o := .tup [.ref na, y]) nT0
        have eT : upd J T0 (.tup [.ref na, y]) T0 = some (.tup [.ref na, y]) := upd_same
        have SJ1 := KaG.Same.tr SJ sT
        have TJ1 : TSame G2 (upd J T0 (.tup [.ref na, y])) := fun c u e => sT _ _ (TJ _ _ e)
        have jR1 := sT _ _ jR
        have jL1 := sT _ _ jL
        have pJ1 := Paired.mono' (fun _ _ e => PqAt.ts e (TSame.of sT)) pJ
        generalize upd J T0 (.tup [.ref na, y]) = J1 at eT SJ1 TJ1 jR1 jL1 pJ1 ⊢
        have enJ := TJ1 _ _ en
        have lq := paired_len pJ
        refine ⟨T0, _, rfl, SqT.of eT, rfl, _, _, rfl, _, _, rfl, rfl, ?_⟩
        have bigJ : R'.length + L'.length < 3 ^ 11 := by omega
        rcases oa hy hit with ⟨rfl, e1, e3⟩ | ⟨t2, c2, m2, rfl, rep2, e1, wt2, e3⟩
        · have hz : (g.zip ps.opts)[j]? = some (it, none) := by rw [List.getElem?_zip_eq_some]; exact ⟨hit, e3⟩
          rw [drop_at hz, List.flatMap_cons] at iffJ
          rw [drop_at e3, List.map_cons, List.sum_cons] at smJ
          cases nv with
          | kind nm a u m => cases e1
          | row nm u m =>
            refine ⟨_, rfl, na, _, 0, .str "row", rfl, rfl, SqT.of enJ, rfl, rfl, _, rfl, iteDF (by decide +kernel) ?_⟩
            refine ⟨_, rfl, rfl, _, rfl, ifT rfl ?_⟩
            refine ⟨_, rfl, .inl ⟨rfl, _, SqL.of jR1⟩, _, rfl, na, _, 1, .str nm, rfl, rfl, SqT.of enJ, rfl, ra, _, _, rfl, rfl, jR1, big (by rw [List.length_map]; omega), ?_⟩
            have tsR := ts_lst (ys := R'.map V.str ++ [V.str nm]) jR1
            refine ⟨_, _, R' ++ [nm], qs, L', rfl, fun c u e => by rw [upd_ne (ne_of_none e nra)]; exact SJ1 c u e, fun c u e => tsR _ _ (TJ1 c u e), by rw [upd_same, List.map_append]; rfl, by rw [upd_ne (fun z => nrl z.symm)]; exact jL1, Paired.mono' (fun _ _ e => PqAt.ts e tsR) pJ1, wJ, fun r => ?_, by rw [List.length_append, List.length_singleton]; omega, by simpa [ptZ] using smJ⟩
            rw [iffJ r, List.mem_append, List.mem_append]
            show _ ↔ (r ∈ R' ∨ r ∈ [nm]) ∨ _
            refine ⟨fun h => ?_, fun h => ?_⟩
            · rcases h with h | h | h | h
              · exact .inl (.inl h)
              · exact .inr (.inl h)
              · exact .inl (.inr h)
              · exact .inr (.inr h)
            · rcases h with (h | h) | h | h
              · exact .inl h
              · exact .inr (.inr (.inl h))
              · exact .inr (.inl h)
              · exact .inr (.inr (.inr h))
        · have hz : (g.zip ps.opts)[j]? = some (it, some t2) := by rw [List.getElem?_zip_eq_some]; exact ⟨hit, e3⟩
          rw [drop_at hz, List.flatMap_cons] at iffJ
          rw [drop_at e3, List.map_cons, List.sum_cons] at smJ
          cases nv with
          | row nm u m => cases e1
          | kind nm a u m =>
            cases e1
            refine ⟨_, rfl, na, _, 0, .str "kind", rfl, rfl, SqT.of enJ, rfl, rfl, _, rfl, iteD (by decide +kernel) ?_⟩
            refine ⟨_, rfl, .inl ⟨rfl, _, SqL.of jL1⟩, ?_⟩
            refine ⟨_, rfl, na, _, 1, .str m2, rfl, rfl, SqT.of enJ, rfl, _, rfl, sz (by show 2 ≤ 900; decide), fun t3 nt3 => ?_⟩
            have s5 := same_upd (o := .tup [.str m2, .ref c2]) nt3
            have et3 : upd J1 t3 (.tup [.str m2, .ref c2]) t3 = some (.tup [.str m2, .ref c2]) := upd_same
            have SJ2 := KaG.Same.tr SJ1 s5
            have jR2 := s5 _ _ jR1
            have jL2 := s5 _ _ jL1
            have pJ2 := Paired.mono' (fun _ _ e => PqAt.ts e (TSame.of s5)) pJ1
            have TJ2 : TSame G2 (upd J1 t3 (.tup [.str m2, .ref c2])) := fun c u e => s5 _ _ (TJ1 c u e)
            generalize upd J1 t3 (.tup [.str m2, .ref c2]) = J2 at et3 SJ2 jR2 jL2 pJ2 TJ2 ⊢
            refine ⟨la, qs, _, rfl, rfl, jL2, big (by omega), ?_⟩
            have tsL := ts_lst (ys := qs ++ [V.ref t3]) jL2
            refine ⟨_, _, R', qs ++ [.ref t3], L' ++ [(m2, t2)], rfl, fun c u e => by rw [upd_ne (ne_of_none e nla1)]; exact SJ2 c u e, fun c u e => tsL _ _ (TJ2 c u e), by rw [upd_ne nrl]; exact jR2, upd_same, paired_app (Paired.mono' (fun _ _ e => PqAt.ts e tsL) pJ2) (.cons ⟨t3, c2, rfl, tsL _ _ et3, tr_ts tsL _ (tr_ts TJ2 _ rep2)⟩ .nil), fun e m => ?_, fun r => ?_, by rw [List.length_append, List.length_singleton]; omega, ?_⟩
            · rcases List.mem_append.mp m with m | m
              · exact wJ e m
              · rw [List.mem_singleton.mp m]; exact wt2
            · rw [iffJ r, List.mem_append]
              show (_ ∨ _ ∨ r ∈ t2.rows (grAt ks) ∨ _) ↔ _
              refine ⟨fun h => ?_, fun h => ?_⟩
              · rcases h with h | ⟨e, me, h⟩ | h | h
                · exact .inl h
                · exact .inr (.inl ⟨e, List.mem_append_left _ me, h⟩)
                · exact .inr (.inl ⟨_, List.mem_append_right _ List.mem_cons_self, h⟩)
                · exact .inr (.inr h)
              · rcases h with h | ⟨e, me, h⟩ | h
                · exact .inl h
                · rcases List.mem_append.mp me with me | me
                  · exact .inr (.inl ⟨e, me, h⟩)
                  · rw [List.mem_singleton.mp me] at h
                    exact .inr (.inr (.inl h))
                · exact .inr (.inr (.inr h))
            · rw [List.map_append, List.sum_append, List.map_singleton, List.sum_singleton, Nat.add_assoc]
              exact smJ
      · rintro σ' J ⟨x9, x10, R', qs, L', rfl, SJ, TJ, jR, jL, pJ, wJ, iffJ, bdJ, smJ⟩
        rw [List.length_map, lns] at iffJ bdJ smJ
        rw [List.drop_eq_nil_of_le (by rw [lo]; exact Nat.le_refl _)] at smJ
        refine ⟨(L'.map fun e => e.2.sz).sum, ?_, _, _, _, _, _, R', qs, L', rfl, SJ, jR, jL, pJ, wJ, fun r => ?_, ?_, rfl⟩
        · simp only [List.map_nil, List.sum_nil] at smJ
          omega
        · rw [iffJ r, List.drop_eq_nil_of_le (by rw [List.length_zip, lo, Nat.min_self]; exact Nat.le_refl _)]
          simp
        · simp only [List.map_nil, List.sum_nil] at smJ
          omega
end
end KaG
set_option maxRecDepth 100000
set_option maxHeartbeats 4000000
namespace KaG
open PySem PySem.Spec PyProof.Rows L2 KaC KaN LamX NdefX KaU
/-- a struck row at some depth -/
def stT (S : List Str) (gA : Str → Nat → Gr) (t : Tr) : Bool := (t.rows gA).any fun r => decide (r ∈ S)
theorem stT_of {S R : List Str} {gA : Str → Nat → Gr} {t : Tr} (h : ∀ r, r ∈ R ↔ r ∈ t.rows gA) : (R.map fun r => decide (r ∈ S)).any id = stT S gA t := by
  rw [List.any_map]
  unfold stT
  rw [Bool.eq_iff_iff, List.any_eq_true, List.any_eq_true]
  exact ⟨fun ⟨r, m, e⟩ => ⟨r, (h r).mp m, e⟩, fun ⟨r, m, e⟩ => ⟨r, (h r).mpr m, e⟩⟩
section
variable {P : Program} {w : World} {K : PySem.W.Frag} {mg : Str → Option Value} {base : Heap}
abbrev sIct : Stmt := top 25
abbrev nmIct : List Str := ["rulebook", "struck", "name", "thing", "rows", "row"]
theorem scIct : FnScope nmIct ["rulebook", "struck", "name", "thing"] (defScope sIct) := ⟨rfl, rfl, rfl, by decide +kernel, rfl, by decide +kernel, by decide +kernel⟩
def spIct (T : List NTab) : Sp := fun vs H Q _ => ∃ (b sa a : Addr) (rows : List Str) (ks : List Kd) (S : List Str) (n : Str) (t : Tr), vs = [.ref b, .ref sa, .str n, .ref a] ∧ BookAt H b rows ks ∧ BookOk rows ks ∧ Sq2 H sa (S.map V.str) ∧ TabsN T H ∧ Rep H (.ref a) t.dt ∧ WT (lvg ks) n t ∧ t.lv ≤ 10 ∧
  ∀ (H' : Hp), Ex T H H' → Q (.bl (!stT S (grAt ks) t)) H'
theorem ok_Ict {T : List NTab} {f fR : Addr} {fd fdR : FuncData} (F : Fun K "is_clean_tree" "is_clean_tree" sIct f fd) (hany : mg "any" = none) (CR : Ct P w K mg base "_rows_needed" 7 ["rulebook", "name", "thing"] (spRnd T) fR fdR) : FnOk P w K mg base CX0 8 f fd ["rulebook", "struck", "name", "thing"] (spIct T) := by
  refine F.ok scIct (fun vs H Q E h => ?_) (fun cdv A outer s H vs Q E hr h => ?_)
  · obtain ⟨b, sa, a, rows, ks, S, n, t, rfl, _⟩ := h
    rfl
  · obtain ⟨b, sa, a, rows, ks, S, n, t, rfl, hA, hO, hS, hT, hv, hw, l10, k⟩ := h
    refine ⟨_, (pss_cons (ps_set (i := 4) scIct.nd rfl (Or.inl rfl) (pe_call CR.G hr (by rfl) CR.m CR.kp CR.b .nil pass0 (pa_cons (pv 0) (pa_cons (pv 2) (pa_cons (pv 3) pa_nil)))))
      (pss_one (ps_ret (pe_and (pe_cmpR (r := rNotN) op_notN1 (pv 4) pe_non (nomark _)) (pe_one (pe_not (pe_callB (r := rAny K) (cr_any rfl) (by rfl) hany (by decide +kernel) (pa_cons (pe_lc (own := [("row", 5)]) (g := gName 5) (tt := tYes) (te := tOp (rIn K false) (tVar 5) (tVar 1)) (by rfl) scIct.nd
        (pi_list (pv 4))
        (blkOk_by (own := [("row", 5)]) (N := nmIct) (sc := defScope sIct) (by decide +kernel)) (fun _ _ _ _ _ => pg_name (i := 5) scIct.nd rfl (Or.inl rfl)) (fun _ _ _ _ _ => pts_nil)
        (fun _ _ _ _ _ => pe_cmpR (r := rIn K false) op_in_seq (pv 5) (pv 1) rfl)) pa_nil)))))))), ?_⟩
    have big : ∀ {m : Nat}, m ≤ 3 ^ 11 → m < sizeLine := fun h => Nat.lt_of_le_of_lt h (by decide)
    refine ⟨_, rfl, _, rfl, _, rfl, b, a, rows, ks, n, t, rfl, hA, hO, hT, hv, hw, l10, fun p R H1 X1 np ep lR iR => ?_⟩
    refine ⟨_, rfl, rfl, _, rfl, ?_⟩
    refine ⟨_, rfl, p, rfl, ⟨_, SqL.of ep⟩, fun D hD => ?_⟩
    dsimp only [tNil]
    refine go_list (K := K) (a := p) (xs := R.map V.str) (fun j J => Same H1 J ∧ J D = some (.lst (((R.take j).map fun r => decide (r ∈ S)).map V.bl))) ?_ ?_ ?_ ?_
    · exact ⟨same_upd hD, upd_same⟩
    · rintro j J _ ⟨SJ, _⟩
      exact SqL.of (SJ _ _ ep)
    · rintro j v J hv ⟨SJ, jD⟩
      rw [List.getElem?_map] at hv
      obtain ⟨r, hr, rfl⟩ := Option.map_eq_some_iff.mp hv
      have hj := (List.getElem?_eq_some_iff.mp hr).1
      refine ⟨rfl, tYes_go (iteT ?_)⟩
      refine ⟨_, rfl, _, rfl, sa, S.map V.str, rfl, ((X1.sq2 hS).same SJ).imp SqL.of SqT.of, rfl, flat_strs, ?_⟩
      rw [show (if false = true then !inV (V.str r) (List.map V.str S) else inV (V.str r) (List.map V.str S)) = decide (r ∈ S) from inV_str]
      refine ⟨_, jD, big (by rw [List.length_map, List.length_map, List.length_take]; omega), fun b u e => by rw [upd_ne (ne_of_none e hD)]; exact SJ b u e, ?_⟩
      rw [upd_same, List.take_add_one, hr, Option.toList_some, List.map_append, List.map_append]
      rfl
    · rintro J ⟨SJ, jD⟩
      rw [List.length_map, List.take_length] at jD
      refine ⟨D, R.map (fun r => decide (r ∈ S)), rfl, SqL.of jD, ?_⟩
      rw [stT_of iR]
      exact ⟨_, rfl, k J (X1.tr (Ex.same X1.tab SJ))⟩
abbrev sIot : Stmt := top 26
abbrev nmIot : List Str := ["rulebook", "struck", "name", "thing", "rows", "row"]
theorem scIot : FnScope nmIot ["rulebook", "struck", "name", "thing"] (defScope sIot) := ⟨rfl, rfl, rfl, by decide +kernel, rfl, by decide +kernel, by decide +kernel⟩
def spIot (T : List NTab) : Sp := fun vs H Q _ => ∃ (b sa a : Addr) (rows : List Str) (ks : List Kd) (S : List Str) (n : Str) (t : Tr), vs = [.ref b, .ref sa, .str n, .ref a] ∧ BookAt H b rows ks ∧ BookOk rows ks ∧ Sq2 H sa (S.map V.str) ∧ TabsN T H ∧ Rep H (.ref a) t.dt ∧ WT (lvg ks) n t ∧ t.lv ≤ 10 ∧
  ∀ (H' : Hp), Ex T H H' → Q (.bl (stT S (grAt ks) t)) H'
theorem ok_Iot {T : List NTab} {f fR : Addr} {fd fdR : FuncData} (F : Fun K "is_old_tree" "is_old_tree" sIot f fd) (hany : mg "any" = none) (CR : Ct P w K mg base "_rows_needed" 7 ["rulebook", "name", "thing"] (spRnd T) fR fdR) : FnOk P w K mg base CX0 8 f fd ["rulebook", "struck", "name", "thing"] (spIot T) := by
  refine F.ok scIot (fun vs H Q E h => ?_) (fun cdv A outer s H vs Q E hr h => ?_)
  · obtain ⟨b, sa, a, rows, ks, S, n, t, rfl, _⟩ := h
    rfl
  · obtain ⟨b, sa, a, rows, ks, S, n, t, rfl, hA, hO, hS, hT, hv, hw, l10, k⟩ := h
    refine ⟨_, (pss_cons (ps_set (i := 4) scIot.nd rfl (Or.inl rfl) (pe_call CR.G hr (by rfl) CR.m CR.kp CR.b .nil pass0 (pa_cons (pv 0) (pa_cons (pv 2) (pa_cons (pv 3) pa_nil)))))
      (pss_one (ps_ret (pe_and (pe_cmpR (r := rNotN) op_notN1 (pv 4) pe_non (nomark _)) (pe_one (pe_callB (r := rAny K) (cr_any rfl) (by rfl) hany (by decide +kernel) (pa_cons (pe_lc (own := [("row", 5)]) (g := gName 5) (tt := tYes) (te := tOp (rIn K false) (tVar 5) (tVar 1)) (by rfl) scIot.nd
        (pi_list (pv 4))
        (blkOk_by (own := [("row", 5)]) (N := nmIot) (sc := defScope sIot) (by decide +kernel)) (fun _ _ _ _ _ => pg_name (i := 5) scIot.nd rfl (Or.inl rfl)) (fun _ _ _ _ _ => pts_nil)
        (fun _ _ _ _ _ => pe_cmpR (r := rIn K false) op_in_seq (pv 5) (pv 1) rfl)) pa_nil))))))), ?_⟩
    have big : ∀ {m : Nat}, m ≤ 3 ^ 11 → m < sizeLine := fun h => Nat.lt_of_le_of_lt h (by decide)
    refine ⟨_, rfl, _, rfl, _, rfl, b, a, rows, ks, n, t, rfl, hA, hO, hT, hv, hw, l10, fun p R H1 X1 np ep lR iR => ?_⟩
    refine ⟨_, rfl, rfl, _, rfl, ?_⟩
    refine ⟨_, rfl, p, rfl, ⟨_, SqL.of ep⟩, fun D hD => ?_⟩
    dsimp only [tNil]
    refine go_list (K := K) (a := p) (xs := R.map V.str) (fun j J => Same H1 J ∧ J D = some (.lst (((R.take j).map fun r => decide (r ∈ S)).map V.bl))) ?_ ?_ ?_ ?_
    · exact ⟨same_upd hD, upd_same⟩
    · rintro j J _ ⟨SJ, _⟩
      exact SqL.of (SJ _ _ ep)
    · rintro j v J hv ⟨SJ, jD⟩
      rw [List.getElem?_map] at hv
      obtain ⟨r, hr, rfl⟩ := Option.map_eq_some_iff.mp hv
      have hj := (List.getElem?_eq_some_iff.mp hr).1
      refine ⟨rfl, tYes_go (iteT ?_)⟩
      refine ⟨_, rfl, _, rfl, sa, S.map V.str, rfl, ((X1.sq2 hS).same SJ).imp SqL.of SqT.of, rfl, flat_strs, ?_⟩
      rw [show (if false = true then !inV (V.str r) (List.map V.str S) else inV (V.str r) (List.map V.str S)) = decide (r ∈ S) from inV_str]
      refine ⟨_, jD, big (by rw [List.length_map, List.length_map, List.length_take]; omega), fun b u e => by rw [upd_ne (ne_of_none e hD)]; exact SJ b u e, ?_⟩
      rw [upd_same, List.take_add_one, hr, Option.toList_some, List.map_append, List.map_append]
      rfl
    · rintro J ⟨SJ, jD⟩
      rw [List.length_map, List.take_length] at jD
      refine ⟨D, R.map (fun r => decide (r ∈ S)), rfl, SqL.of jD, ?_⟩
      rw [stT_of iR]
      exact k J (X1.tr (Ex.same X1.tab SJ))
end
end KaG
set_option maxRecDepth 100000
set_option maxHeartbeats 4000000
namespace KaG
open PySem PySem.Spec PyProof.Rows L2 KaC KaN LamX NdefX KaU
section
variable {X : Cx} {CW : Addr} {NW : Str}
def rReprE (CW : Addr) (NW : Str) : List V → Hp → VK → Prop := fun xs H Q => ∃ v as d t, xs = [v] ∧ Sh H CW NW as d v t ∧ d ≤ 25 ∧ t.length ≤ sizeLine ∧ Q (.str t) H
theorem call_reprE (T : WrK X.K CW NW) (hg : X.A.guards = some []) (hu : X.A.units + 64 < cLine) : CallR X (.builtin "repr") (rReprE CW NW) := by
  intro pins s σ H xs us Q I r h
  obtain ⟨v, as, d, t, rfl, hS, hd, hz, q⟩ := h
  obtain ⟨u, rfl, rv⟩ := vals1 r
  have fin : ∀ (x : Tok) (h' : Heap) (tk : Nat), (∀ b o, s.heap.get? b = some o → h'.get? b = some o) → EP X pins σ Q (.str t x) { s with heap := h', toks := tk } := fun x h' tk k => ⟨.str t, H, I.kept k, ⟨_, rfl⟩, q⟩
  have cl : ∀ (as : List Addr), ∀ b ∈ as, Clear [] b := fun _ b _ => Clear.nil b
  cases hS with
  | non => cases (show u = Value.none from rv); exact PySem.P.repr_of_none (fin _ _ _ fun _ _ e => e)
  | bl b => cases (show u = Value.bool b from rv); exact PySem.P.repr_of_bool (fin _ _ _ fun _ _ e => e)
  | int i hi =>
    obtain ⟨tk, e⟩ := (show ∃ t, u = Value.int i t from rv)
    cases e
    exact PySem.P.repr_of_int hi (fin _ _ _ fun _ _ e => e)
  | str x =>
    obtain ⟨tk, e⟩ := (show ∃ t, u = Value.str x t from rv)
    cases e
    exact PySem.P.repr_of_str (fin _ _ _ fun _ _ e => e) hz
  | @lst as0 _ d a xs ts e ha hs hn hi =>
    cases (show u = Value.ref a from rv)
    obtain ⟨_, its, n, rv, ho⟩ := (show ObjOk X.prog X.w H s.heap a (.lst xs) from I.hok a _ e)
    have hA := ShA.run T I.kIn I.hok hi its rv
    refine call_repr_slot (by omega) ⟨_, ho, rfl⟩ F.slot_list_repr.toG ?_
    cases its with
    | nil =>
      cases hA
      rw [listText_nil] at fin
      exact call_list_repr_empty ⟨_, ho, rfl⟩ ho rfl ⟨_, _, rfl, fin _ _ _ fun _ _ e => e⟩
    | cons x l =>
      exact call_list_reprK ho rfl rfl hn (by simpa using hA.length_eq) (fun i y q => hA.item i y (by simpa using q)) (by exact hg) (cl _) (by show X.A.units + 1 + (d + 1) < cLine; omega) (fun _ _ e => e) (fun h' x tk k => ⟨_, _, rfl, fin x h' tk k⟩) hz
  | @tup as0 _ d a xs ts e ha hs hn hi =>
    cases (show u = Value.ref a from rv)
    obtain ⟨_, its, rv, o, ho, hc, n, hd'⟩ := (show ObjOk X.prog X.w H s.heap a (.tup xs) from I.hok a _ e)
    have hA := ShA.run T I.kIn I.hok hi its rv
    refine call_repr_slot (by omega) ⟨o, ho, hc⟩ F.slot_tuple_repr ?_
    exact call_tuple_reprK ho hc hd' hn (by simpa using hA) (by exact hg) (cl _) (by show X.A.units + 1 + (d + 1) < cLine; omega) (fun _ _ e => e) (fun h' x tk k => ⟨_, _, rfl, fin x h' tk k⟩) hz
  | @dct as0 _ d a kvs ps e ha hs hn hi =>
    cases (show u = Value.ref a from rv)
    obtain ⟨_, hsys, vs, kv, o, es, ep, ho, hx, hd', _, hp, _⟩ := (show ObjOk X.prog X.w H s.heap a (.dK kvs) from I.hok a _ e)
    have hE := ShD.run T I.kIn I.hok hi vs kv es.toList hp
    refine call_repr_slot (by omega) ⟨o, ho, hx.1⟩ F.slot_dict_repr ?_
    exact call_dict_reprK ho hx.1 hd' hsys hn hE (by exact hg) (cl _) (by show X.A.units + 1 + (d + 1) < cLine; omega) (fun _ _ e => e) (fun h' x tk k => ⟨_, _, rfl, fin x h' tk k⟩) hz
  | @exc as0 _ d a dd t1 v t e et ha ht hd hs hi =>
    cases (show u = Value.ref a from rv)
    have ho := exw_at I.hok e
    obtain ⟨_, its, rv, o, hto, hc, n, hd'⟩ := (show ObjOk X.prog X.w H s.heap t1 (.tup [v]) from I.hok t1 _ et)
    cases rv with
    | cons r1 r2 =>
      cases r2
      obtain ⟨cd, hcd, hN⟩ := T.cl
      have x : ExcC X.K CW a t1 s.heap := ⟨I.kIn, _, _, ho, rfl, rfl, rfl⟩
      exact KaX.call_repr_C x hcd rfl hN T.ex T.rp ⟨o, n, hto, hc, hd'⟩ (Sh.run T I.kIn I.hok hi _ r1) hg (cl _) (by omega) (fun _ _ e => e) fin hz
end
/-- alike: the same data, whether in one place or in two -/
def spAlikeE (K : PySem.W.Frag) : Sp := fun vs H Q _ => ∃ (x y : V) (d : PyData), vs = [x, y] ∧ Rep H x d ∧ Rep H y d ∧ d.canLay0 = true ∧ d.depth ≤ 25 ∧ (txt d).length ≤ sizeLine ∧ Q (.bl true) H
section
variable {P : Program} {w : World} {K : PySem.W.Frag} {mg : Str → Option Value} {base : Heap} {CW : Addr} {NW : Str}
theorem ok_alikeE {f : Addr} {fd : FuncData} (F : Fun K "_law_alike" "_law_alike" sAlike f fd) (T : TxtB mg) (W : WrK K CW NW) : FnG false P w K mg base CX0 1 f fd ["found", "due"] (spAlikeE K) := by
  refine fnG_of F scAlike (fun vs H Q E h => ?_) (fun cdv A outer s H vs Q E hr hc h => ?_)
  · obtain ⟨x, y, d, rfl, _⟩ := h
    rfl
  · obtain ⟨x, y, d, rfl, h1, h2, h3, h4, h5, k⟩ := h
    have u64 : (A.deeper (envOfC "_law_alike" (defScope sAlike) s.heap.objs.size f cdv)).units + 64 < cLine := by have := hr.un; omega
    have u60 : (A.deeper (envOfC "_law_alike" (defScope sAlike) s.heap.objs.size f cdv)).units + 60 < cLine := by have := hr.un; omega
    refine ⟨_, pss_one (ps_ret (pe_and (pe_cmpR (op_eqD u64) (pv 0) (pv 1) (nomark _))
      (pe_one (pe_cmpR op_eq (pe_callB (call_reprE (CW := CW) (NW := NW) (by exact W) hr.gd u64) (by rfl) T.repr (by decide +kernel) (pa_cons (pv 0) pa_nil))
        (pe_callB (call_reprE (CW := CW) (NW := NW) (by exact W) hr.gd u64) (by rfl) T.repr (by decide +kernel) (pa_cons (pv 1) pa_nil)) (nomark _))))), ?_⟩
    obtain ⟨as, s1, _⟩ := Rep.sh (CW := CW) (NW := NW) h1
    obtain ⟨bs, s2, _⟩ := Rep.sh (CW := CW) (NW := NW) h2
    have shp : SeqAt.shaped d = true := by
      unfold SeqAt.shaped
      rw [h3, decide_eq_true (show d.depth ≤ 64 by omega)]
      rfl
    refine ⟨_, rfl, _, rfl, d, d, Rep.dp h1, Rep.dp h2, shp, shp, _, rfl, ?_⟩
    rw [SeqAt.eqv_refl d h3]
    refine iteT ⟨_, rfl, x, as, d.depth, txt d, rfl, s1, h4, h5, _, rfl, y, bs, d.depth, txt d, rfl, s2, h4, h5, rfl, ?_⟩
    rw [decide_eq_true rfl]
    exact k
end
end KaG
set_option maxRecDepth 100000
set_option maxHeartbeats 4000000
namespace KaG
open PySem PySem.Spec PyProof.Rows L2 KaC KaN LamX NdefX KaU RZ
theorem take_sub : ∀ {ps : TrL} {k : Nat} {t : Tr}, t ∈ (ps.take k).kids → t ∈ ps.kids
  | .nil, 0, _, h => h
  | .row _, 0, _, h => by cases h
  | .kid _ _, 0, _, h => by cases h
  | .nil, _ + 1, _, h => h
  | .row r, k + 1, _, h => take_sub (ps := r) (k := k) h
  | .kid u r, k + 1, t, h => by
    rcases List.mem_cons.mp h with e | h
    · rw [e]; exact List.mem_cons_self
    · exact List.mem_cons_of_mem _ (take_sub (ps := r) (k := k) h)
theorem mlv_ge : ∀ {L : List Tr} {t : Tr}, t ∈ L → t.lv ≤ mlv L
  | u :: L, t, m => by
    show t.lv ≤ max u.lv (mlv L)
    rcases List.mem_cons.mp m with e | m
    · rw [e]; exact Nat.le_max_left ..
    · exact Nat.le_trans (mlv_ge m) (Nat.le_max_right ..)
theorem mlv_in : ∀ L : List Tr, mlv L = 0 ∨ ∃ t ∈ L, t.lv = mlv L
  | [] => .inl rfl
  | u :: L => by
    have e : mlv (u :: L) = max u.lv (mlv L) := rfl
    rcases Nat.le_total u.lv (mlv L) with h | h
    · rw [e, Nat.max_eq_right h]
      rcases mlv_in L with a | ⟨t, m, a⟩
      · exact .inl a
      · exact .inr ⟨t, List.mem_cons_of_mem _ m, a⟩
    · rw [e, Nat.max_eq_left h]
      exact .inr ⟨u, List.mem_cons_self, rfl⟩
theorem mlv_max {L : List Tr} {m : Int} (hm : m ∈ (0 : Int) :: L.map fun t => (t.lv : Int)) (hle : ∀ k ∈ (0 : Int) :: L.map (fun t => (t.lv : Int)), k ≤ m) : m = (mlv L : Int) := by
  have h1 : m ≤ (mlv L : Int) := by
    rcases List.mem_cons.mp hm with e | hm
    · rw [e]; omega
    · obtain ⟨t, mt, rfl⟩ := List.mem_map.mp hm
      have := mlv_ge mt
      omega
  have h2 : (mlv L : Int) ≤ m := by
    rcases mlv_in L with e | ⟨t, mt, e⟩
    · rw [e]; exact hle _ List.mem_cons_self
    · rw [← e]; exact hle _ (List.mem_cons_of_mem _ (List.mem_map.mpr ⟨t, mt, rfl⟩))
  omega
section
variable {P : Program} {w : World} {K : PySem.W.Frag} {mg : Str → Option Value} {base : Heap}
abbrev sLvT : Stmt := top 46
abbrev nmLvT : List Str := ["tree", "part"]
theorem scLvT : FnScope nmLvT ["tree"] (defScope sLvT) := ⟨rfl, rfl, rfl, by decide +kernel, rfl, by decide +kernel, by decide +kernel⟩
def spLvT (n : Nat) : Sp := fun vs H Q _ => ∃ (v : V) (t : Tr) (rows : List Str) (ks : List Kd), vs = [v] ∧ Rep H v t.dt ∧ BookOk rows ks ∧ (∃ n, WT (lvg ks) n t) ∧ t.lv ≤ n ∧ ∀ H', Same H H' → Q (.int (t.lv : Int)) H'
theorem ok_LvT {f : Addr} {fd : FuncData} (F : Fun K "_law_levels" "_law_levels" sLvT f fd) (hmax : mg "max" = none) (m : mg "_law_levels" = some (.ref f)) (kp : PySem.W.keepIn K (.ref f) = true) (bb : Binds K fd ["tree"] []) : ∀ n, FnOk P w K mg base CX0 n f fd ["tree"] (spLvT n)
  | 0 => ⟨fun vs H Q E h => by obtain ⟨v, t, rows, ks, rfl, _⟩ := h; rfl, fun A outer s H args us vs Q E _ _ _ _ h => by
      obtain ⟨v, t, rows, ks, _, _, _, _, l, _⟩ := h
      have := lv_pos t
      omega⟩
  | n + 1 => by
    have ih := ok_LvT F hmax m kp bb n
    refine F.ok scLvT (fun vs H Q E h => ?_) (fun cdv A outer s H vs Q E hr h => ?_)
    · obtain ⟨v, t, rows, ks, rfl, _⟩ := h
      rfl
    · obtain ⟨v, t, rows, ks, rfl, hv, hO, hw, ln, k⟩ := h
      refine ⟨_, (pss_one (ps_ret (pe_op op_add pe_int (pe_callB (r := rMax K) (cr_max rfl) (by rfl) hmax (by decide +kernel) (pa_cons (pe_op op_cat (pe_lst (pa_cons pe_int pa_nil)) (pe_lc (own := [("part", 1)]) (g := gName 1) (tt := tTest (tOp rNotN (tVar 1) (tC V.non))) (te := tCall (spLvT n) [] E0 (tCons (tVar 1) tNil)) (by rfl) scLvT.nd
          (pi_tup (pe_ix (r := rIxT K) ix_tup (pv 0) pe_int (fun _ _ => rfl)))
          (blkOk_by (own := [("part", 1)]) (N := nmLvT) (sc := defScope sLvT) (by decide +kernel)) (fun _ _ _ _ _ => pg_name (i := 1) scLvT.nd rfl (Or.inl rfl))
          (fun _ _ _ _ _ => pts_one (pt_cmpR (r := rNotN) op_notN1 (pv 1) pe_non (nomark _)))
          (fun _ _ _ _ _ => pe_call ih hr (by rfl) m kp bb .nil pass0 (pa_cons (pv 1) pa_nil)))) pa_nil))))), ?_⟩
      have sz : ∀ {m : Nat}, m ≤ 900 → m ≤ sizeLine := fun h => Nat.le_of_lt (small1000 (by omega))
      obtain ⟨nn, ix, ps⟩ := t
      obtain ⟨a, p, xs, rfl, e, ep, rp⟩ := tr_inv hv
      have k3 := (wt_kids hO hw).1
      have wk := (wt_kids hO hw).2
      have lk := fun u mu => mlv_ge (L := ps.kids) (t := u) mu
      rw [Tr.kids] at k3 wk
      have lps := lv_kids ps
      rw [Tr.lv] at ln k
      refine ⟨sz (by show 1 ≤ 900; decide), fun p0 np0 => ?_⟩
      have s0 := same_upd (o := .lst [V.int 0]) np0
      have ep0 : upd H p0 (.lst [V.int 0]) p0 = some (.lst [V.int 0]) := upd_same
      generalize upd H p0 (.lst [V.int 0]) = H0 at s0 ep0 ⊢
      refine ⟨_, rfl, a, _, 2, .ref p, rfl, rfl, SqT.of (s0 _ _ e), rfl, p, rfl, ⟨_, SqT.of (s0 _ _ ep)⟩, fun D hD => go_tup (K := K) (a := p) (xs := xs) (fun i J => Same H0 J ∧ J D = some (.lst (((ps.take i).kids.map fun t => (t.lv : Int)).map V.int))) ?_ ?_ ?_ ?_⟩
      · refine ⟨same_upd hD, ?_⟩
        have : (ps.take 0).kids = [] := by cases ps <;> rfl
        rw [this]
        exact upd_same
      · rintro i J _ ⟨SJ, _⟩
        exact SqT.of (SJ _ _ (s0 _ _ ep))
      · rintro i x J hx ⟨SJ, jD⟩
        have S1 := KaG.Same.tr s0 SJ
        refine ⟨rfl, ?_⟩
        rcases take_part rp hx with ⟨rfl, e1⟩ | ⟨t2, b, rfl, rb, e1⟩
        · refine ⟨_, rfl, rfl, _, rfl, ifF rfl ⟨SJ, ?_⟩⟩
          rw [e1]
          exact jD
        · have mt : t2 ∈ ps.kids := by
            have : t2 ∈ (ps.take (i + 1)).kids := by rw [e1]; exact List.mem_append_right _ List.mem_cons_self
            exact take_sub this
          have lt := lk t2 mt
          have lp := take_pre ps i
          refine ⟨_, rfl, rfl, _, rfl, ifT rfl ?_⟩
          refine ⟨_, rfl, .ref b, t2, rows, ks, rfl, Rep.sm S1 rb, hO, wk t2 mt, by omega, fun J2 S2 => ?_⟩
          refine ⟨_, S2 _ _ jD, small1000 (by rw [List.length_map, List.length_map]; omega), fun c u q => by rw [upd_ne (ne_of_none q hD)]; exact S2 _ _ (SJ c u q), ?_⟩
          rw [upd_same, e1, List.map_append, List.map_append]
          rfl
      · rintro J ⟨SJ, jD⟩
        rw [take_all rp] at jD
        have ep1 := SJ _ _ ep0
        refine ⟨p0, D, _, _, rfl, rfl, ep1, jD, sz (by rw [List.length_map, List.length_map, List.length_singleton]; omega), fun q nq => ?_⟩
        have sq := same_upd (o := .lst ([V.int 0] ++ (ps.kids.map fun t => (t.lv : Int)).map V.int)) nq
        refine ⟨q, 0 :: ps.kids.map (fun t => (t.lv : Int)), rfl, SqL.of upd_same, by rw [List.length_cons]; omega, fun m hm hle => ?_⟩
        rw [mlv_max hm hle]
        refine ⟨_, _, rfl, rfl, ?_⟩
        have := k _ (KaG.Same.tr (KaG.Same.tr s0 SJ) sq)
        have el : (1 : Int) + (mlv ps.kids : Int) = ((ps.lv + 1 : Nat) : Int) := by omega
        show Q (.int ((1 : Int) + (mlv ps.kids : Int))) _
        rw [el]
        exact this
end
end KaG
set_option maxRecDepth 100000
set_option maxHeartbeats 4000000
namespace KaG
open PySem PySem.Spec PyProof.Rows L2 KaC KaN LamX NdefX KaU RZ
mutual
theorem rows_len {rows : List Str} {ks : List Kd} (hO : BookOk rows ks) : ∀ {n : Str} (t : Tr), WT (lvg ks) n t → (t.rows (grAt ks)).length ≤ 3 * t.sz
  | n, .nd _ i ps, h => by
    cases h with
    | nd m h =>
      have l3 := (lvg_ok hO m).len
      have h1 := rowsl_len hO ps h
      rw [Tr.rows, ← (lvg_mem.mp m).2, Tr.sz]
      omega
theorem rowsl_len {rows : List Str} {ks : List Kd} (hO : BookOk rows ks) : ∀ {g : Gr} (ps : TrL), WTL (lvg ks) g ps → (ps.rows (grAt ks) g).length ≤ g.length + 3 * ps.sz
  | _, .nil, h => by cases h; exact Nat.zero_le _
  | _, .row r, h => by
    cases h with
    | row e h =>
      have := rowsl_len hO r h
      rw [TrL.rows, TrL.sz, List.length_cons, List.length_cons]
      omega
  | _, .kid t r, h => by
    cases h with
    | kid e ht h =>
      have h1 := rows_len hO t ht
      have h2 := rowsl_len hO r h
      rw [TrL.rows, TrL.sz, List.length_cons, List.length_append]
      omega
end
theorem rows_big {rows : List Str} {ks : List Kd} (hO : BookOk rows ks) {n : Str} {t : Tr} (h : WT (lvg ks) n t) (l10 : t.lv ≤ 10) : (t.rows (grAt ks)).length ≤ 3 ^ 11 := by
  have h1 := rows_len hO t h
  have h2 := sz_wt hO t h
  have l3 : 3 ^ t.lv ≤ 3 ^ 10 := Nat.pow_le_pow_right (by decide) l10
  have e10 : 3 ^ 10 = 59049 := by decide
  have e11 : 3 ^ 11 = 177147 := by decide
  omega
theorem opts_kid : ∀ {ps : TrL} {t : Tr}, some t ∈ ps.opts → t ∈ ps.kids
  | .nil, _, h => by cases h
  | .row r, t, h => by
    rw [TrL.opts] at h
    rcases List.mem_cons.mp h with e | h
    · cases e
    · exact opts_kid (ps := r) h
  | .kid u r, t, h => by
    rw [TrL.opts] at h
    rcases List.mem_cons.mp h with e | h
    · cases e; exact List.mem_cons_self
    · exact List.mem_cons_of_mem _ (opts_kid (ps := r) h)
section
variable {P : Program} {w : World} {K : PySem.W.Frag} {mg : Str → Option Value} {base : Heap}
abbrev sRwT : Stmt := top 47
abbrev nmRwT : List Str := ["rulebook", "tree", "ground", "found", "need", "part"]
theorem scRwT : FnScope nmRwT ["rulebook", "tree"] (defScope sRwT) := ⟨rfl, rfl, rfl, by decide +kernel, rfl, by decide +kernel, by decide +kernel⟩
def spRwT (m : Nat) : Sp := fun vs H Q _ => ∃ (b a : Addr) (rows : List Str) (ks : List Kd) (n : Str) (t : Tr), vs = [.ref b, .ref a] ∧ BookAt H b rows ks ∧ BookOk rows ks ∧ Rep H (.ref a) t.dt ∧ WT (lvg ks) n t ∧ t.lv ≤ m ∧ t.lv ≤ 10 ∧
  ∀ (p : Addr) (H' : Hp), Same H H' → H p = none → H' p = some (.lst ((t.rows (grAt ks)).map V.str)) → Q (.ref p) H'
theorem ok_RwT {f fK : Addr} {fd fdK : FuncData} (F : Fun K "_law_tree_rows" "_law_tree_rows" sRwT f fd) (hzip : mg "zip" = none) (CK : Ct P w K mg base "_law_kinds_of" 1 ["rulebook"] spKindsO fK fdK) (m : mg "_law_tree_rows" = some (.ref f)) (kp : PySem.W.keepIn K (.ref f) = true) (bb : Binds K fd ["rulebook", "tree"] []) : ∀ n, FnOk P w K mg base CX0 (n + 1) f fd ["rulebook", "tree"] (spRwT n)
  | 0 => ⟨fun vs H Q E h => by obtain ⟨b, a, rows, ks, n, t, rfl, _⟩ := h; rfl, fun A outer s H args us vs Q E _ _ _ _ h => by
      obtain ⟨b, a, rows, ks, n, t, _, _, _, _, _, l, _⟩ := h
      have := lv_pos t
      omega⟩
  | N + 1 => by
    have ih := ok_RwT F hzip CK m kp bb N
    refine F.ok scRwT (fun vs H Q E h => ?_) (fun cdv A outer s H vs Q E hr h => ?_)
    · obtain ⟨b, a, rows, ks, n, t, rfl, _⟩ := h
      rfl
    · obtain ⟨b, a, rows, ks, n, t, rfl, hA, hO, hv, hw, ln, l10, k⟩ := h
      have u1 := hu_of hr
      have hr1 : Room 1 (A.deeper (envOfC "_law_tree_rows" (defScope sRwT) s.heap.objs.size f cdv)) := hr.mono (by omega)
      refine ⟨_, (pss_cons (ps_par (i := 2) (j := 3) rfl scRwT.nd rfl rfl (by decide) rfl rfl (pa_cons (pe_ix (r := rIxT K) ix_tup (pe_ix (r := rIxT K) ix_tup (pe_dget u1 (pe_call CK.G hr1 (by rfl) CK.m CK.kp CK.b .nil pass0 (pa_cons (pv 0) pa_nil)) (pe_ix (r := rIxT K) ix_tup (pv 1) pe_int (fun _ _ => rfl)) (fun _ _ => rfl)) pe_int (fun _ _ => rfl)) (pe_ix (r := rIxT K) ix_tup (pv 1) pe_int (fun _ _ => rfl)) (fun _ _ => rfl)) (pa_cons (pe_lst pa_nil) pa_nil)) (by rfl))
        (pss_cons (ps_for PassesOwn.never rfl (pi_zipA (by rfl) hzip (pa_cons (pv 2) (pa_cons (pe_ix (r := rIxT K) ix_tup (pv 1) pe_int (fun _ _ => rfl)) pa_nil))) (pg_tup (by rfl) (pgs_cons (pg_name (i := 4) scRwT.nd rfl (Or.inl rfl)) (pgs_cons (pg_name (i := 5) scRwT.nd rfl (Or.inl rfl)) pgs_nil)))
          (pss_one (ps_set (i := 3) scRwT.nd rfl (Or.inl rfl) (pe_op op_cat (pv 3) (pe_ifExp (pt_cmpR (r := rIsN) op_isN1 (pv 5) pe_non (nomark _)) (pe_lst (pa_cons (pe_ix (r := rIxT K) ix_tup (pv 4) pe_int (fun _ _ => rfl)) pa_nil)) (pe_call ih hr (by rfl) m kp bb .nil pass0 (pa_cons (pv 0) (pa_cons (pv 5) pa_nil))))))))
        (pss_one (ps_ret (pv 3))))), ?_⟩
      have sz : ∀ {m : Nat}, m ≤ 900 → m ≤ sizeLine := fun h => Nat.le_of_lt (small1000 (by omega))
      have big : ∀ {m : Nat}, m ≤ 3 ^ 11 → m ≤ sizeLine := fun h => Nat.le_trans h (by decide)
      have rb := rows_big hO hw l10
      obtain ⟨n1, i, ps⟩ := t
      cases hw with
      | nd mg h =>
        rename_i g
        obtain ⟨a', p, xs, ea, e, ep, rp⟩ := tr_inv hv
        cases ea
        obtain ⟨lz, lo, oa⟩ := opts_at h rp
        have hi := (lvg_mem.mp mg).1
        have nm : n ∈ nmsOf ks := gs_nm (live_g hi).1
        obtain ⟨kd, mk, rfl⟩ := List.mem_map.mp nm
        obtain ⟨gr, hgr, _⟩ := ats_mem.mp hi
        have e1 : grAt ks kd.name i = gr := grAt_at hgr
        have e2 : g = gr := by rw [(lvg_mem.mp mg).2, e1]
        subst e2
        rw [gsOf_eq hO.nm.nd mk] at hgr
        have rflt := rows_flat (gA := grAt ks) h
        have erw : (Tr.nd kd.name i ps).rows (grAt ks) = (g.zip ps.opts).flatMap (ptR (grAt ks)) := by rw [Tr.rows, e1]; exact rflt
        rw [erw] at k rb
        refine ⟨_, rfl, b, rows, ks, rfl, hA, hO, fun d ts H1 S1 nd1 hD => ?_⟩
        obtain ⟨tt, ev, ⟨gt, gas2, f1, f2, f3⟩⟩ := kvs_get hO.nm.nd hD.t mk
        have e' := S1 _ _ e
        obtain ⟨ga, hga, eGr⟩ := paired_at2 f3 hgr
        obtain ⟨ns, eg, pn⟩ := id eGr
        have lns := paired_len pn
        have g3 := (lvg_ok hO mg).len
        refine ⟨_, rfl, a, _, 0, .str kd.name, rfl, rfl, SqT.of e', rfl, d, .ref tt, rfl, .inl ⟨kvsOf ks ts, Sum.inr kd.name, .inl hD.d, rfl, ev.symm⟩, ?_⟩
        refine ⟨tt, _, 2, .ref gt, rfl, rfl, SqT.of f1, rfl, _, rfl, a, _, 1, .int (i : Int), rfl, rfl, SqT.of e', rfl, gt, _, _, .ref ga, rfl, rfl, SqT.of f2, atI_nat (by rw [List.getElem?_map, hga]; rfl), ?_⟩
        refine ⟨sz (by show 0 ≤ 900; decide), fun q0 nq0 => ?_⟩
        have s2 := same_upd (o := .lst []) nq0
        have eq0 : upd H1 q0 (.lst []) q0 = some (.lst []) := upd_same
        have S2 := KaG.Same.tr S1 s2
        have eg2 := s2 _ _ eg
        have pn2 := Paired.mono' (fun _ _ e => s2 _ _ e) pn
        have nq0' := same_non S1 q0 nq0
        generalize upd H1 q0 (.lst []) = H2 at s2 eq0 S2 eg2 pn2 ⊢
        have ep2 := S2 _ _ ep
        refine ⟨_, _, rfl, ?_⟩
        refine ⟨_, rfl, _, rfl, a, _, 2, .ref p, rfl, rfl, SqT.of (S2 _ _ e), rfl, ga, p, ns.map V.ref, xs, rfl, .inr ⟨SqT.of eg2, SqT.of ep2, ?_⟩⟩
        refine for_zipT (K := K) (a := ga) (b := p) (xs := ns.map V.ref) (ys := xs) (by rw [List.length_map]; omega) (fun j σ' J => ∃ (q : Addr) (x4 x5 : Option V), σ' = [some (.ref b), some (.ref a), some (.ref ga), some (.ref q), x4, x5] ∧ Same H2 J ∧ H q = none ∧ J q = some (.lst ((((g.zip ps.opts).take j).flatMap (ptR (grAt ks))).map V.str))) ?_ ?_ ?_ ?_
        · exact ⟨q0, _, _, rfl, fun _ _ e => e, nq0', eq0⟩
        · rintro j σ' J ⟨_, _, _, _, SJ, _⟩
          exact ⟨SqT.of (SJ _ _ eg2), SqT.of (SJ _ _ ep2)⟩
        · rintro j x y T0 σ' J hx hy ⟨q, x4, x5, rfl, SJ, nq, jq⟩ nT0
          rw [List.getElem?_map] at hx
          obtain ⟨na, hna, rfl⟩ := Option.map_eq_some_iff.mp hx
          obtain ⟨it, hit, en⟩ := paired_at pn2 hna
          have nv := (lvg_ok hO mg).nv it (List.mem_of_getElem? hit)
          have sT := same_upd (o := .tup [.ref na, y]) nT0
          have eT : upd J T0 (.tup [.ref na, y]) T0 = some (.tup [.ref na, y]) := upd_same
          have SJ1 := KaG.Same.tr SJ sT
          have jq1 := sT _ _ jq
          generalize upd J T0 (.tup [.ref na, y]) = J1 at eT SJ1 jq1 ⊢
          have enJ := SJ1 _ _ en
          have bnd : ((((g.zip ps.opts).take (j + 1)).flatMap (ptR (grAt ks)))).length ≤ 3 ^ 11 := by
            refine Nat.le_trans ?_ rb
            conv => rhs; rw [← List.take_append_drop (j + 1) (g.zip ps.opts), List.flatMap_append, List.length_append]
            exact Nat.le_add_right _ _
          refine ⟨T0, _, rfl, SqT.of eT, rfl, _, _, rfl, _, _, rfl, rfl, ?_⟩
          refine ⟨_, rfl, ?_⟩
          rcases oa hy hit with ⟨rfl, e1, e3⟩ | ⟨t2, c2, m2, rfl, rep2, e1, wt2, e3⟩
          · have hz : (g.zip ps.opts)[j]? = some (it, none) := by rw [List.getElem?_zip_eq_some]; exact ⟨hit, e3⟩
            rw [List.take_add_one, hz] at bnd ⊢
            rw [List.flatMap_append, List.length_append] at bnd
            refine ⟨_, rfl, rfl, _, rfl, iteD (by rfl) ?_⟩
            cases nv with
            | kind nm a u m => cases e1
            | row nm u m =>
              refine ⟨_, rfl, na, _, 1, .str nm, rfl, rfl, SqT.of enJ, rfl, sz (by show 1 ≤ 900; decide), fun q1 nq1 => ?_⟩
              have s5 := same_upd (o := .lst [V.str nm]) nq1
              refine ⟨q, q1, _, _, rfl, rfl, s5 _ _ jq1, upd_same, big (by rw [List.length_map]; exact bnd), fun q2 nq2 => ?_⟩
              have S6 := KaG.Same.tr SJ1 (KaG.Same.tr s5 (same_upd (o := .lst (((((g.zip ps.opts).take j).flatMap (ptR (grAt ks))).map V.str) ++ [V.str nm])) nq2))
              refine ⟨q2, _, _, rfl, S6, same_non (KaG.Same.tr S2 (KaG.Same.tr SJ1 s5)) q2 nq2, ?_⟩
              rw [upd_same, List.flatMap_append, List.map_append]
              rfl
          · have hz : (g.zip ps.opts)[j]? = some (it, some t2) := by rw [List.getElem?_zip_eq_some]; exact ⟨hit, e3⟩
            rw [List.take_add_one, hz] at bnd ⊢
            rw [List.flatMap_append, List.length_append] at bnd
            refine ⟨_, rfl, rfl, _, rfl, iteDF (by rfl) ?_⟩
            have lt2 : t2.lv < (Tr.nd kd.name i ps).lv := by
              have hm : t2 ∈ ps.kids := opts_kid (List.mem_of_getElem? e3)
              have := mlv_ge hm
              have := lv_kids ps
              rw [Tr.lv]
              omega
            refine ⟨_, rfl, _, rfl, b, c2, rows, ks, m2, t2, rfl, hA.ts (TSame.of (KaG.Same.tr S2 SJ1)), hO, Rep.sm (KaG.Same.tr S2 SJ1) rep2, wt2, by omega, by omega, fun q1 J2 S3 nq1 eq1 => ?_⟩
            refine ⟨q, q1, _, _, rfl, rfl, S3 _ _ jq1, eq1, big (by rw [List.length_map, List.length_map]; simpa [ptR] using bnd), fun q2 nq2 => ?_⟩
            have S6 := KaG.Same.tr SJ1 (KaG.Same.tr S3 (same_upd (o := .lst (((((g.zip ps.opts).take j).flatMap (ptR (grAt ks))).map V.str) ++ (t2.rows (grAt ks)).map V.str)) nq2))
            refine ⟨q2, _, _, rfl, S6, same_non (KaG.Same.tr S2 (KaG.Same.tr SJ1 S3)) q2 nq2, ?_⟩
            rw [upd_same, List.flatMap_append, List.map_append]
            simp [ptR]
        · rintro σ' J ⟨q, x4, x5, rfl, SJ, nq, jq⟩
          rw [List.length_map, lns, List.take_of_length_le (by rw [List.length_zip, lo, Nat.min_self]; exact Nat.le_refl _)] at jq
          exact ⟨_, rfl, k q J (KaG.Same.tr S2 SJ) nq jq⟩
end
end KaG
set_option maxRecDepth 100000
set_option maxHeartbeats 4000000
namespace KaG
open PySem PySem.Spec PyProof.Rows L2 KaC LamX NdefX
/-- a rulebook and a lot of its rows -/
def ItemAt (H : Hp) (p : Addr) : Prop := ∃ (b sa : Addr) (rows : List Str) (ks : List Kd) (S : List Str), H p = some (.tup [.ref b, .ref sa]) ∧ BookAt H b rows ks ∧ BookOk rows ks ∧ H sa = some (.tup (S.map V.str)) ∧ S.length ≤ 5 ∧ ∀ n ∈ S, n ∈ nmAll
theorem ItemAt.ts {H H' : Hp} {p : Addr} (h : ItemAt H p) (s : TSame H H') : ItemAt H' p := by
  obtain ⟨b, sa, rows, ks, S, h1, h2, h3, h4, h5⟩ := h
  exact ⟨b, sa, rows, ks, S, s _ _ h1, h2.ts s, h3, s _ _ h4, h5⟩
section
variable {P : Program} {w : World} {K : PySem.W.Frag} {mg : Str → Option Value} {base : Heap}
def spLaw (T : List NTab) (K : PySem.W.Frag) : Sp := fun vs H Q _ => ∃ (a : Addr) (ns : List Int), vs = [.ref a] ∧ SqL K H a (ns.map V.int) ∧ ns.length ≤ 63 ∧ TabsN T H ∧ ∀ H', Q (.bl true) H'
structure GnG (c : Bool) (P : Program) (w : World) (K : PySem.W.Frag) (mg : Str → Option Value) (base : Heap) (x : Str) (k : Nat) (ps : List Str) (sp : Sp) (f : Addr) (fd : FuncData) : Prop where
  G : FnG c P w K mg base CX0 k f fd ps sp
  m : mg x = some (.ref f)
  kp : PySem.W.keepIn K (.ref f) = true
  b : Binds K fd ps []
end
end KaG
set_option maxRecDepth 100000
set_option maxHeartbeats 4000000
namespace KaG
open PySem PySem.Spec PyProof.Rows L2 KaC KaN LamX NdefX KaU RZ
/-- the live indexes, in a dict that may be gone through -/
structure LiveR (H : Hp) (d : Addr) (ks : List Kd) (ls : List Addr) : Prop where
  d : L2.Rd H d (.dK (kvsOf ks ls))
  l : Paired (fun (l : Addr) (k : Kd) => H l = some (.lst (ixV (liveIx ks (bearOf ks) k.name)))) ls ks
theorem LiveR.same {H H' : Hp} {d : Addr} {ks : List Kd} {ls : List Addr} (h : LiveR H d ks ls) (s : Same H H') : LiveR H' d ks ls := ⟨h.d.imp (fun e => s _ _ e) fun ⟨o, e⟩ => ⟨o, s _ _ e⟩, Paired.mono' (fun _ _ e => s _ _ e) h.l⟩
section
variable {P : Program} {w : World} {K : PySem.W.Frag} {mg : Str → Option Value} {base : Heap}
abbrev sWho : Stmt := top 51
theorem scWho : FnScope ["thing"] ["thing"] (defScope sWho) := ⟨rfl, rfl, rfl, by decide +kernel, rfl, by decide +kernel, by decide +kernel⟩
theorem ok_Who {f : Addr} {fd : FuncData} (F : Fun K "_law_is_whole" "_law_is_whole" sWho f fd) (T : TxtB mg) (hbool : mg "bool" = none) : FnOk P w K mg base CX0 1 f fd ["thing"] spIsInt := by
  refine F.ok scWho (fun vs H Q E h => ?_) (fun cdv A outer s H vs Q E hr h => ?_)
  · obtain ⟨v, rfl, _⟩ := h
    rfl
  · obtain ⟨v, rfl, hv, q⟩ := h
    refine ⟨_, (pss_one (ps_ret (pe_and (pe_callB call_isi (by rfl) T.isin (by decide +kernel) (pa_cons (pv 0) (pa_cons (pe_bltn (v := .ty "int") (by rfl) T.int (by decide +kernel) rfl) pa_nil)))
      (pe_one (pe_not (pe_callB call_isi (by rfl) T.isin (by decide +kernel) (pa_cons (pv 0) (pa_cons (pe_bltn (v := .ty "bool") (by rfl) hbool (by decide +kernel) rfl) pa_nil)))))))), ?_⟩
    obtain ⟨t, ty, h1, h2, h3, h4⟩ := hv.ty (K := K)
    refine ⟨_, rfl, v, .ty "int", t, _, isI1 v, rfl, .ty "int", ty, h1, _, rfl, ?_⟩
    cases hv with
    | bl b => exact ⟨_, rfl, .bl b, .ty "bool", t, _, true, rfl, .ty "bool", ty, h2, _, rfl, q⟩
    | int i => exact ⟨_, rfl, .int i, .ty "bool", t, _, false, rfl, .ty "bool", ty, h2, _, rfl, q⟩
    | non => exact q
    | str x => exact q
    | lst e => exact q
    | tup e => exact q
abbrev sIsT : Stmt := top 48
abbrev nmIsT : List Str := ["rulebook", "live", "name", "thing", "ground", "need", "part"]
theorem scIsT : FnScope nmIsT ["rulebook", "live", "name", "thing"] (defScope sIsT) := ⟨rfl, rfl, rfl, by decide +kernel, rfl, by decide +kernel, by decide +kernel⟩
def spIsTr (m : Nat) : Sp := fun vs H Q _ => ∃ (b d a : Addr) (rows : List Str) (ks : List Kd) (ls : List Addr) (n : Str) (t : Tr), vs = [.ref b, .ref d, .str n, .ref a] ∧ BookAt H b rows ks ∧ BookOk rows ks ∧ LiveR H d ks ls ∧ Rep H (.ref a) t.dt ∧ WT (lvg ks) n t ∧ t.lv ≤ m ∧
  ∀ H', Same H H' → Q (.bl true) H'
theorem ok_IsTr {f fA fI fK : Addr} {fd fdA fdI fdK : FuncData} (F : Fun K "_law_is_tree" "_law_is_tree" sIsT f fd) (TC : TxtC mg) (hzip : mg "zip" = none) (CA : GnG false P w K mg base "_law_alike" 1 ["found", "due"] (spAlikeE K) fA fdA) (CI : Ct P w K mg base "_law_is_whole" 1 ["thing"] spIsInt fI fdI) (CK : Ct P w K mg base "_law_kinds_of" 1 ["rulebook"] spKindsO fK fdK) (m : mg "_law_is_tree" = some (.ref f)) (kp : PySem.W.keepIn K (.ref f) = true) (bb : Binds K fd ["rulebook", "live", "name", "thing"] []) : ∀ n, FnG true P w K mg base CX0 (n + 1) f fd ["rulebook", "live", "name", "thing"] (spIsTr n)
  | 0 => ⟨fun vs H Q E h => by obtain ⟨b, d, a, rows, ks, ls, n, t, rfl, _⟩ := h; rfl, fun A outer s H args us vs Q E _ _ _ _ _ h => by
      obtain ⟨b, d, a, rows, ks, ls, n, t, _, _, _, _, _, _, l, _⟩ := h
      have := lv_pos t
      omega⟩
  | N + 1 => by
    have ih := ok_IsTr F TC hzip CA CI CK m kp bb N
    refine fnG_of F scIsT (fun vs H Q E h => ?_) (fun cdv A outer s H vs Q E hr hc h => ?_)
    · obtain ⟨b, d, a, rows, ks, ls, n, t, rfl, _⟩ := h
      rfl
    · obtain ⟨b, d, a, rows, ks, ls, n, t, rfl, hA, hO, hL, hv, hw, ln, k⟩ := h
      have hR : Room (N + 1) (A.deeper (envOfC "_law_is_tree" (defScope sIsT) s.heap.objs.size f cdv)) := hr.room (hc rfl)
      have hR1 := hR.mono (show 1 ≤ N + 1 by omega)
      have gr1 : GR 1 (A.deeper (envOfC "_law_is_tree" (defScope sIsT) s.heap.objs.size f cdv)) := hr.low (by omega)
      have u1 : (A.deeper (envOfC "_law_is_tree" (defScope sIsT) s.heap.objs.size f cdv)).units + 1 < cLine := by have := hr.un; omega
      refine ⟨_, L2.PSs.nox (pss_cons (ps_if (PW.pt (pw_or (pt_not (pt_val (pe_callB call_isi (by rfl) TC.b.isin (by decide +kernel) (pa_cons (pv 3) (pa_cons (pe_bltn (v := .ty "tuple") (by rfl) TC.tup (by decide +kernel) rfl) pa_nil)))))
          (pw_or (pt_cmpR op_ne (pe_callB (r := rLen K) call_len_seq (by rfl) TC.b.len PySem.boot_len (pa_cons (pv 3) pa_nil)) pe_int (nomark _))
          (pw_or1 (pt_not (pt_val (pe_callG CA.G gr1 (by intro z; cases z) (by rfl) CA.m CA.kp CA.b (pa_cons (pe_ix (r := rIxT K) ix_tup (pv 3) pe_int (fun _ _ => rfl)) (pa_cons (pv 2) pa_nil))))))))) (pss_one (ps_ret pe_bl)) pss_nil)
        (pss_cons (ps_if (PW.pt (pw_or (pt_not (pt_val (pe_call CI.G hR1 (by rfl) CI.m CI.kp CI.b .nil pass0 (pa_cons (pe_ix (r := rIxT K) ix_tup (pv 3) pe_int (fun _ _ => rfl)) pa_nil))))
          (pw_or (pt_cmpR (r := rIn K true) op_notIn_seq (pe_ix (r := rIxT K) ix_tup (pv 3) pe_int (fun _ _ => rfl)) (pe_dget u1 (pv 1) (pv 2) (fun _ _ => rfl)) rfl)
          (pw_or1 (pt_not (pt_val (pe_callB call_isi (by rfl) TC.b.isin (by decide +kernel) (pa_cons (pe_ix (r := rIxT K) ix_tup (pv 3) pe_int (fun _ _ => rfl)) (pa_cons (pe_bltn (v := .ty "tuple") (by rfl) TC.tup (by decide +kernel) rfl) pa_nil))))))))) (pss_one (ps_ret pe_bl)) pss_nil)
        (pss_cons (ps_set (i := 4) scIsT.nd rfl (Or.inl rfl) (pe_ix (r := rIxT K) ix_tup (pe_ix (r := rIxT K) ix_tup (pe_dget u1 (pe_call CK.G hR1 (by rfl) CK.m CK.kp CK.b .nil pass0 (pa_cons (pv 0) pa_nil)) (pv 2) (fun _ _ => rfl)) pe_int (fun _ _ => rfl)) (pe_ix (r := rIxT K) ix_tup (pv 3) pe_int (fun _ _ => rfl)) (fun _ _ => rfl)))
        (pss_cons (ps_if (pt_cmpR op_ne (pe_callB (r := rLen K) call_len_seq (by rfl) TC.b.len PySem.boot_len (pa_cons (pv 4) pa_nil)) (pe_callB (r := rLen K) call_len_seq (by rfl) TC.b.len PySem.boot_len (pa_cons (pe_ix (r := rIxT K) ix_tup (pv 3) pe_int (fun _ _ => rfl)) pa_nil)) (nomark _)) (pss_one (ps_ret pe_bl)) pss_nil)
        (pss_cons (ps_for PassesOwn.never rfl (pi_zipA (by rfl) hzip (pa_cons (pv 4) (pa_cons (pe_ix (r := rIxT K) ix_tup (pv 3) pe_int (fun _ _ => rfl)) pa_nil))) (pg_tup (by rfl) (pgs_cons (pg_name (i := 5) scIsT.nd rfl (Or.inl rfl)) (pgs_cons (pg_name (i := 6) scIsT.nd rfl (Or.inl rfl)) pgs_nil)))
          (pss_cons (ps_if (PW.pt (pw_and (pt_cmpR (r := rEq) op_eq (pe_ix (r := rIxT K) ix_tup (pv 5) pe_int (fun _ _ => rfl)) pe_str (nomark _)) (pw_and1 (pt_cmpR (r := rNotN) op_notN1 (pv 6) pe_non (nomark _))))) (pss_one (ps_ret pe_bl)) pss_nil)
          (pss_one (ps_if (PW.pt (pw_and (pt_cmpR (r := rEq) op_eq (pe_ix (r := rIxT K) ix_tup (pv 5) pe_int (fun _ _ => rfl)) pe_str (nomark _)) (pw_and1 (pt_not (pt_val (pe_callG ih hr hc (by rfl) m kp bb (pa_cons (pv 0) (pa_cons (pv 1) (pa_cons (pe_ix (r := rIxT K) ix_tup (pv 5) pe_int (fun _ _ => rfl)) (pa_cons (pv 6) pa_nil)))))))))) (pss_one (ps_ret pe_bl)) pss_nil))))
        (pss_one (ps_ret pe_bl))))))), ?_⟩
      have sz : ∀ {m : Nat}, m ≤ 900 → m ≤ sizeLine := fun h => Nat.le_of_lt (small1000 (by omega))
      obtain ⟨n1, i, ps⟩ := t
      cases hw with
      | nd mg h =>
        rename_i g
        obtain ⟨a', p, xs, ea, e, ep, rp⟩ := tr_inv hv
        cases ea
        obtain ⟨lz, lo, oa⟩ := opts_at h rp
        have hi := (lvg_mem.mp mg).1
        have nm : n ∈ nmsOf ks := gs_nm (live_g hi).1
        obtain ⟨kd, mk, rfl⟩ := List.mem_map.mp nm
        obtain ⟨gr, hgr, _⟩ := ats_mem.mp hi
        have e1 : grAt ks kd.name i = gr := grAt_at hgr
        have e2 : g = gr := by rw [(lvg_mem.mp mg).2, e1]
        subst e2
        rw [gsOf_eq hO.nm.nd mk] at hgr
        obtain ⟨ll, evl, ell⟩ := kvs_get hO.nm.nd hL.l mk
        have gn := Gd.nm (H := H) (hO.nm.of kd.name nm)
        refine ⟨_, rfl, .ref a, .ty "tuple", _, _, true, rfl, .ty "tuple", .base (.tup e), rfl, _, rfl, iteF ?_⟩
        refine ⟨_, rfl, a, _, rfl, .inr (SqT.of e), rfl, _, rfl, iteF ?_⟩
        refine ⟨_, rfl, a, _, 0, .str kd.name, rfl, rfl, SqT.of e, rfl, _, rfl, .str kd.name, .str kd.name, .str kd.name, rfl, gn.rep, gn.rep, gn.lay, Nat.le_trans gn.dep (by decide), Nat.le_trans gn.len (sz (by decide)), _, rfl, iteF ?_⟩
        refine ⟨_, rfl, a, _, 1, .int (i : Int), rfl, rfl, SqT.of e, rfl, _, rfl, .int _, _, rfl, iteF ?_⟩
        refine ⟨_, rfl, a, _, 1, .int (i : Int), rfl, rfl, SqT.of e, rfl, _, rfl, _, rfl, d, .ref ll, rfl, .inl ⟨kvsOf ks ls, Sum.inr kd.name, hL.d, rfl, evl.symm⟩, ll, ixV (liveIx ks (bearOf ks) kd.name), rfl, .inl (SqL.of ell), rfl, flat_ix, _, rfl, ?_⟩
        rw [show (if true = true then !inV (V.int (i : Int)) (ixV (liveIx ks (bearOf ks) kd.name)) else inV (V.int (i : Int)) (ixV (liveIx ks (bearOf ks) kd.name))) = !decide (i ∈ liveIx ks (bearOf ks) kd.name) from congrArg (!·) inV_int, decide_eq_true hi]
        refine iteF ?_
        refine ⟨_, rfl, a, _, 2, .ref p, rfl, rfl, SqT.of e, rfl, .ref p, .ty "tuple", _, _, true, rfl, .ty "tuple", .base (.tup ep), rfl, _, rfl, iteF ?_⟩
        refine ⟨_, rfl, b, rows, ks, rfl, hA, hO, fun dk ts H1 S1 nd1 hD => ?_⟩
        obtain ⟨tt, ev, ⟨gt, gas2, f1, f2, f3⟩⟩ := kvs_get hO.nm.nd hD.t mk
        obtain ⟨ga, hga, eGr⟩ := paired_at2 f3 hgr
        obtain ⟨ns, eg, pn⟩ := id eGr
        have lns := paired_len pn
        have g3 := (lvg_ok hO mg).len
        have e' := S1 _ _ e
        have ep' := S1 _ _ ep
        refine ⟨_, rfl, dk, .ref tt, rfl, .inl ⟨kvsOf ks ts, Sum.inr kd.name, .inl hD.d, rfl, ev.symm⟩, ?_⟩
        refine ⟨tt, _, 2, .ref gt, rfl, rfl, SqT.of f1, rfl, _, rfl, a, _, 1, .int (i : Int), rfl, rfl, SqT.of e', rfl, gt, _, _, .ref ga, rfl, rfl, SqT.of f2, atI_nat (by rw [List.getElem?_map, hga]; rfl), ?_⟩
        refine ⟨_, rfl, ga, _, rfl, .inr (SqT.of eg), _, rfl, a, _, 2, .ref p, rfl, rfl, SqT.of e', rfl, p, _, rfl, .inr (SqT.of ep'), rfl, _, rfl, iteDF (by rw [List.length_map, lns, lz]; simp) ?_⟩
        refine ⟨_, rfl, _, rfl, a, _, 2, .ref p, rfl, rfl, SqT.of e', rfl, ga, p, ns.map V.ref, xs, rfl, .inr ⟨SqT.of eg, SqT.of ep', ?_⟩⟩
        refine for_zipT (K := K) (a := ga) (b := p) (xs := ns.map V.ref) (ys := xs) (by rw [List.length_map]; omega) (fun j σ' J => ∃ (x5 x6 : Option V), σ' = [some (.ref b), some (.ref d), some (.str kd.name), some (.ref a), some (.ref ga), x5, x6] ∧ Same H1 J) ?_ ?_ ?_ ?_
        · exact ⟨_, _, rfl, fun _ _ e => e⟩
        · rintro j σ' J ⟨_, _, _, SJ⟩
          exact ⟨SqT.of (SJ _ _ eg), SqT.of (SJ _ _ ep')⟩
        · rintro j x y T0 σ' J hx hy ⟨x5, x6, rfl, SJ⟩ nT0
          rw [List.getElem?_map] at hx
          obtain ⟨na, hna, rfl⟩ := Option.map_eq_some_iff.mp hx
          obtain ⟨it, hit, en⟩ := paired_at pn hna
          have nv := (lvg_ok hO mg).nv it (List.mem_of_getElem? hit)
          have sT := same_upd (o := .tup [.ref na, y]) nT0
          have eT : upd J T0 (.tup [.ref na, y]) T0 = some (.tup [.ref na, y]) := upd_same
          have SJ1 := KaG.Same.tr SJ sT
          generalize upd J T0 (.tup [.ref na, y]) = J1 at eT SJ1 ⊢
          have enJ := SJ1 _ _ en
          refine ⟨T0, _, rfl, SqT.of eT, rfl, _, _, rfl, _, _, rfl, rfl, ?_⟩
          rcases oa hy hit with ⟨rfl, e1, e3⟩ | ⟨t2, c2, m2, rfl, rep2, e1, wt2, e3⟩
          · cases nv with
            | kind nm a u m => cases e1
            | row nm u m =>
              refine ⟨_, rfl, na, _, 0, .str "row", rfl, rfl, SqT.of enJ, rfl, rfl, _, rfl, iteD (by decide +kernel) ?_⟩
              refine ⟨_, rfl, rfl, _, rfl, ifF rfl ?_⟩
              refine ⟨_, rfl, na, _, 0, .str "row", rfl, rfl, SqT.of enJ, rfl, rfl, _, rfl, iteDF (by decide +kernel) ?_⟩
              exact ⟨_, _, rfl, SJ1⟩
          · have lt2 : t2.lv < (Tr.nd kd.name i ps).lv := by
              have hm : t2 ∈ ps.kids := opts_kid (List.mem_of_getElem? e3)
              have := mlv_ge hm
              have := lv_kids ps
              rw [Tr.lv]
              omega
            cases nv with
            | row nm u m => cases e1
            | kind nm a0 u m =>
              cases e1
              refine ⟨_, rfl, na, _, 0, .str "kind", rfl, rfl, SqT.of enJ, rfl, rfl, _, rfl, iteDF (by decide +kernel) ?_⟩
              refine ⟨_, rfl, na, _, 0, .str "kind", rfl, rfl, SqT.of enJ, rfl, rfl, _, rfl, iteD (by decide +kernel) ?_⟩
              have S2 := KaG.Same.tr S1 SJ1
              refine ⟨_, rfl, _, rfl, _, rfl, na, _, 1, .str m2, rfl, rfl, SqT.of enJ, rfl, _, rfl, b, d, c2, rows, ks, ls, m2, t2, rfl, hA.ts (TSame.of S2), hO, hL.same S2, Rep.sm S2 rep2, wt2, by omega, fun J2 S3 => ?_⟩
              refine ⟨_, rfl, ifF rfl ?_⟩
              exact ⟨_, _, rfl, KaG.Same.tr SJ1 S3⟩
        · rintro σ' J ⟨x5, x6, rfl, SJ⟩
          exact k J (KaG.Same.tr S1 SJ)
end
end KaG
set_option maxRecDepth 100000
set_option maxHeartbeats 4000000
namespace KaG
open PySem PySem.Spec PyProof.Rows L2 KaC KaN LamX NdefX KaU RZ
mutual
theorem rows_in {rows : List Str} {ks : List Kd} (hO : BookOk rows ks) : ∀ {n : Str} (t : Tr), WT (lvg ks) n t → ∀ r ∈ t.rows (grAt ks), r ∈ rows
  | n, .nd _ i ps, h => by
    cases h with
    | nd m h =>
      rw [Tr.rows, ← (lvg_mem.mp m).2]
      exact rowsl_in hO ps h fun it q => (lvg_ok hO m).nv it q
theorem rowsl_in {rows : List Str} {ks : List Kd} (hO : BookOk rows ks) : ∀ {g : Gr} (ps : TrL), WTL (lvg ks) g ps → (∀ it ∈ g, NeedV rows (nmsOf ks) it) → ∀ r ∈ ps.rows (grAt ks) g, r ∈ rows
  | _, .nil, h, _ => by cases h; exact fun r m => by cases m
  | _, .row r, h, q => by
    cases h with
    | @row it g _ e h =>
      rw [TrL.rows]
      intro x m
      rcases List.mem_cons.mp m with z | z
      · have nv := q it List.mem_cons_self
        cases nv with
        | row nm t u hn => rw [z]; exact hn
        | kind nm a t u hn => cases e
      · exact rowsl_in hO r h (fun it m => q it (List.mem_cons_of_mem _ m)) x z
  | _, .kid t r, h, q => by
    cases h with
    | kid e ht h =>
      rw [TrL.rows]
      intro x m
      rcases List.mem_append.mp m with z | z
      · exact rows_in hO t ht x z
      · exact rowsl_in hO r h (fun it m => q it (List.mem_cons_of_mem _ m)) x z
end
theorem stT_filter {S : List Str} {gA : Str → Nat → Gr} {t : Tr} : (!((t.rows gA).filter fun r => decide (r ∈ S)).isEmpty) = stT S gA t := by
  unfold stT
  generalize t.rows gA = l
  induction l with
  | nil => rfl
  | cons r l ih =>
    rw [List.filter_cons, List.any_cons]
    cases decide (r ∈ S) with
    | true => rfl
    | false => rw [if_neg Bool.false_ne_true, ih, Bool.false_or]
section
variable {P : Program} {w : World} {K : PySem.W.Frag} {mg : Str → Option Value} {base : Heap}
abbrev sSot : Stmt := top 49
abbrev nmSot : List Str := ["rulebook", "struck", "live", "name", "thing", "is_old", "row"]
theorem scSot : FnScope nmSot ["rulebook", "struck", "live", "name", "thing", "is_old"] (defScope sSot) := ⟨rfl, rfl, rfl, by decide +kernel, rfl, by decide +kernel, by decide +kernel⟩
def spSot : Sp := fun vs H Q _ => ∃ (b sa d a : Addr) (rows : List Str) (ks : List Kd) (S : List Str) (ls : List Addr) (n : Str) (t : Tr) (o : Bool), vs = [.ref b, .ref sa, .ref d, .str n, .ref a, .bl o] ∧ BookAt H b rows ks ∧ BookOk rows ks ∧ Sq2 H sa (S.map V.str) ∧ LiveR H d ks ls ∧ Rep H (.ref a) t.dt ∧ WT (lvg ks) n t ∧ t.lv ≤ 10 ∧ stT S (grAt ks) t = o ∧
  ∀ H', Same H H' → Q (.bl true) H'
theorem ok_Sot {f fI fR : Addr} {fd fdI fdR : FuncData} (F : Fun K "_law_is_sort_of_tree" "_law_is_sort_of_tree" sSot f fd) (CI : GnG true P w K mg base "_law_is_tree" 11 ["rulebook", "live", "name", "thing"] (spIsTr 10) fI fdI) (CR : Ct P w K mg base "_law_tree_rows" 11 ["rulebook", "tree"] (spRwT 10) fR fdR) : FnG true P w K mg base CX0 12 f fd ["rulebook", "struck", "live", "name", "thing", "is_old"] spSot := by
  refine fnG_of F scSot (fun vs H Q E h => ?_) (fun cdv A outer s H vs Q E hr hc h => ?_)
  · obtain ⟨b, sa, d, a, rows, ks, S, ls, n, t, o, rfl, _⟩ := h
    rfl
  · obtain ⟨b, sa, d, a, rows, ks, S, ls, n, t, o, rfl, hA, hO, hS, hL, hv, hw, l10, ho, k⟩ := h
    have hR : Room 11 (A.deeper (envOfC "_law_is_sort_of_tree" (defScope sSot) s.heap.objs.size f cdv)) := hr.room (hc rfl)
    have u64 : (A.deeper (envOfC "_law_is_sort_of_tree" (defScope sSot) s.heap.objs.size f cdv)).units + 64 < cLine := by have := hr.un; omega
    refine ⟨_, L2.PSs.nox (pss_cons (ps_if (pt_not (pt_val (pe_callG CI.G hr hc (by rfl) CI.m CI.kp CI.b (pa_cons (pv 0) (pa_cons (pv 2) (pa_cons (pv 3) (pa_cons (pv 4) pa_nil))))))) (pss_one (ps_ret pe_bl)) pss_nil)
      (pss_one (ps_ret (pe_cmpR (r := rEq) op_eq (pe_cmpR (op_neD u64) (pe_lc (own := [("row", 6)]) (g := gName 6) (tt := tTest (tOp (rIn K false) (tVar 6) (tVar 1))) (te := tVar 6) (by rfl) scSot.nd
          (pi_list (pe_call CR.G hR (by rfl) CR.m CR.kp CR.b .nil pass0 (pa_cons (pv 0) (pa_cons (pv 4) pa_nil))))
          (blkOk_by (own := [("row", 6)]) (N := nmSot) (sc := defScope sSot) (by decide +kernel)) (fun _ _ _ _ _ => pg_name (i := 6) scSot.nd rfl (Or.inl rfl))
          (fun _ _ _ _ _ => pts_one (pt_cmpR (r := rIn K false) op_in_seq (pv 6) (pv 1) rfl)) (fun _ _ _ _ _ => pv 6)) (pe_lst pa_nil) (nomark _)) (pv 5) (nomark _))))), ?_⟩
    have sz : ∀ {m : Nat}, m ≤ 900 → m ≤ sizeLine := fun h => Nat.le_of_lt (small1000 (by omega))
    have rb := rows_big hO hw l10
    have big : ∀ {m : Nat}, m ≤ 3 ^ 11 → m < sizeLine := fun h => Nat.lt_of_le_of_lt h (by decide)
    refine ⟨_, rfl, _, rfl, _, rfl, _, rfl, b, d, a, rows, ks, ls, n, t, rfl, hA, hO, hL, hv, hw, l10, fun H1 S1 => ?_⟩
    refine ⟨_, rfl, ifF rfl ?_⟩
    refine ⟨_, rfl, _, rfl, b, a, rows, ks, n, t, rfl, hA.ts (TSame.of S1), hO, Rep.sm S1 hv, hw, l10, l10, fun p H2 S2 np ep => ?_⟩
    have S12 := KaG.Same.tr S1 S2
    refine ⟨p, rfl, ⟨_, SqL.of ep⟩, fun D hD => go_list (K := K) (a := p) (xs := (t.rows (grAt ks)).map V.str) (fun j J => Same H2 J ∧ J D = some (.lst ((((t.rows (grAt ks)).take j).filter fun r => decide (r ∈ S)).map V.str))) ?_ ?_ ?_ ?_⟩
    · exact ⟨same_upd hD, upd_same⟩
    · rintro j J _ ⟨SJ, _⟩
      exact SqL.of (SJ _ _ ep)
    · rintro j v J hv ⟨SJ, jD⟩
      rw [List.getElem?_map] at hv
      obtain ⟨r, hr, rfl⟩ := Option.map_eq_some_iff.mp hv
      have hj := (List.getElem?_eq_some_iff.mp hr).1
      rw [List.take_add_one, hr, Option.toList_some, List.filter_append]
      refine ⟨rfl, ?_⟩
      refine ⟨_, rfl, _, rfl, sa, S.map V.str, rfl, (hS.same (KaG.Same.tr S12 SJ)).imp SqL.of SqT.of, rfl, flat_strs, ?_⟩
      rw [show (if false = true then !inV (V.str r) (List.map V.str S) else inV (V.str r) (List.map V.str S)) = decide (r ∈ S) from inV_str]
      refine ⟨_, rfl, ?_⟩
      cases hd : decide (r ∈ S) with
      | true =>
        refine ifT rfl ⟨_, rfl, _, jD, big (Nat.le_trans (by rw [List.length_map]; exact Nat.le_trans (List.length_filter_le ..) (by rw [List.length_take]; omega)) rb), fun b u e => by rw [upd_ne (ne_of_none e hD)]; exact SJ b u e, ?_⟩
        rw [upd_same, List.map_append, List.filter_cons, hd]
        rfl
      | false =>
        refine ifF rfl ⟨SJ, ?_⟩
        rw [List.filter_cons, hd]
        simpa using jD
    · rintro J ⟨SJ, jD⟩
      rw [List.length_map, List.take_length] at jD
      refine ⟨sz (by show 0 ≤ 900; decide), fun z nz => ?_⟩
      have s3 := same_upd (o := .lst []) nz
      refine (strs_eqd (fun r m => hO.rw.of r (rows_in hO t hw r (List.mem_filter.mp m).1)) (s3 _ _ jD) upd_same).2 ?_
      rw [stT_filter, ho]
      refine ⟨_, rfl, ?_⟩
      have ks := k _ (KaG.Same.tr (KaG.Same.tr S12 SJ) s3)
      cases o <;> exact ⟨rfl, ks⟩
end
end KaG
set_option maxRecDepth 100000
set_option maxHeartbeats 4000000
namespace KaG
open PySem PySem.Spec PyProof.Rows L2 KaN
theorem cut_drop (xs : List V) (j : Nat) : cutV xs (some (j : Int)) none = xs.drop j := by
  unfold cutV
  rw [HT.sIx_none, HT.sIx_nat]
  by_cases c : j ≤ xs.length
  · rw [Nat.min_eq_left c, List.take_of_length_le (by rw [List.length_drop]; omega)]
  · rw [Nat.min_eq_right (by omega), List.drop_length, List.drop_of_length_le (by omega), List.take_nil]
end KaG
set_option maxRecDepth 100000
set_option maxHeartbeats 8000000
namespace KaG
open PySem PySem.Spec PyProof.Rows L2 KaC KaN LamX NdefX KaU RZ
def rDP (K : PySem.W.Frag) : List V → Hp → VK → Prop := fun xs H Q => ∃ a ps kvs, xs = [V.ref a] ∧ SqL K H a (List.map V.ref ps) ∧ Paired (fun p (kv : Key × V) => SqT K H p [kV kv.fst, kv.snd]) ps kvs ∧ ∀ (p : Addr), H p = none → Q (V.ref p) (upd H p (HO.dK (mergeK [] kvs)))
theorem call_dictP1 {X : Cx} (h : X.calm = true) : CallR X (.type "dict") (rDP X.K) := call_dictP h
theorem mx_rd {K : PySem.W.Frag} {σ : L2.St} {H : Hp} {R rk : Addr} {rs : List V} {k : Int} {i : Nat} {l : List Int} {Q : VK} (hv : ∀ (H : Hp) (Q : VK), Q (.ref R) H → tVar 10 σ H Q) (eR : H R = some (.lst rs)) (ki : k = (i : Int)) (ek : rs[i]? = some (.ref rk)) (er : H rk = some (.lst (l.map V.int))) (l9 : l.length ≤ 800) (q : ∀ H', Same H H' → Q (.int (mxI l)) H') : tCB (rMax K) (tCons (tOp rCat (tLst (tCons (tC (.int 0)) tNil)) (tOp (rIxL K) (tVar 10) (tC (.int k)))) tNil) σ H Q := by
  subst ki
  have sz : ∀ {m : Nat}, m ≤ 900 → m ≤ sizeLine := fun h => Nat.le_of_lt (small1000 (by omega))
  refine ⟨sz (by show 1 ≤ 900; decide), fun p0 np0 => ?_⟩
  have s0 := same_upd (o := .lst [V.int 0]) np0
  have ep0 : upd H p0 (.lst [V.int 0]) p0 = some (.lst [V.int 0]) := upd_same
  generalize upd H p0 (.lst [V.int 0]) = H0 at s0 ep0 ⊢
  refine hv H0 (fun x H1 => rIxL K x (.int (i : Int)) H1 fun y H2 => rCat (.ref p0) y H2 fun x H3 => rMax K [x] H3 Q) ?_
  refine ⟨R, rs, i, .ref rk, rfl, rfl, SqL.of (s0 _ _ eR), atI_nat ek, ?_⟩
  refine ⟨p0, rk, _, _, rfl, rfl, ep0, s0 _ _ er, sz (by rw [List.length_map, List.length_singleton]; omega), fun q0 nq => ?_⟩
  have sq := same_upd (o := .lst ([V.int 0] ++ l.map V.int)) nq
  refine ⟨q0, 0 :: l, rfl, SqL.of upd_same, by rw [List.length_cons]; omega, fun m hm hle => ?_⟩
  rw [mxI_one hm hle]
  exact q _ (KaG.Same.tr s0 sq)
theorem fd_rd {K : PySem.W.Frag} {σ : L2.St} {H : Hp} {D d0 d1 d2 : Addr} {ms : List Str} {F : Nat × Str → Int} {k : Int} {i : Nat} {n : Str} {Q : VK} (h5 : ∀ (H : Hp) (Q : VK), Q (.ref D) H → tVar 5 σ H Q) (h4 : ∀ (H : Hp) (Q : VK), Q (.str n) H → tVar 4 σ H Q) (hF : Fnd H D d0 d1 d2 ms F) (ki : k = (i : Int)) (i3 : i < 3) (mn : n ∈ ms) (q : Q (.int (F (i, n))) H) : tDGet (tOp (rIxL K) (tVar 5) (tC (.int k))) (tVar 4) σ H Q := by
  subst ki
  obtain ⟨di, e1, e2⟩ := hF.get i3
  refine h5 H (fun x H1 => rIxL K x (.int (i : Int)) H1 fun x H2 => tVar 4 σ H2 fun y H3 => ∃ a v, x = .ref a ∧ DGet H3 a y (some v) ∧ Q v H3) ?_
  refine ⟨D, _, i, .ref di, rfl, rfl, SqL.of hF.l, atI_nat e1, ?_⟩
  refine h4 H (fun y H3 => ∃ a v, V.ref di = V.ref a ∧ DGet H3 a y (some v) ∧ Q v H3) ?_
  exact ⟨di, _, rfl, .inl ⟨_, Sum.inr n, .inl e2, rfl, (kvA_get mn).symm⟩, q⟩
theorem dput_k {K : PySem.W.Frag} {σ : L2.St} {H : Hp} {D d0 d1 d2 : Addr} {ms : List Str} {F : Nat × Str → Int} {k : Int} {i : Nat} {n : Str} {a : Int} {C : Hp → Prop} (h5 : ∀ (H : Hp) (Q : VK), Q (.ref D) H → tVar 5 σ H Q) (h4 : ∀ (H : Hp) (Q : VK), Q (.str n) H → tVar 4 σ H Q) (hF : Fnd H D d0 d1 d2 ms F) (ki : k = (i : Int)) (i3 : i < 3) (mn : n ∈ ms) (l5 : ms.length ≤ 5)
    (q : ∀ H2, Fnd H2 D d0 d1 d2 ms (fUpN F (i, n) a) → (∀ b zs, H b = some (.lst zs) → H2 b = some (.lst zs)) → (∀ b zs, H b = some (.tup zs) → H2 b = some (.tup zs)) → (∀ G, G d0 = none → G d1 = none → G d2 = none → Same G H → Same G H2) → C H2) : tOp (rIxL K) (tVar 5) (tC (.int k)) σ H (fun x H2 => tVar 4 σ H2 fun y H3 => ∃ a' H4, x = V.ref a' ∧ DPut H3 a' y (.int a) H4 ∧ C H4) := by
  subst ki
  have sm : ∀ f : Str → V, (kvA ms f).length < sizeLine := fun f => small1000 (by rw [List.length_map]; omega)
  have go : ∀ {di : Addr}, [V.ref d0, V.ref d1, V.ref d2][i]? = some (.ref di) → H di = some (.dK (kvA ms fun x => V.int (F (i, x)))) → Fnd (upd H di (.dK (putK (kvA ms fun x => V.int (F (i, x))) (Sum.inr n) (.int a)))) D d0 d1 d2 ms (fUpN F (i, n) a) → (∀ G : Hp, G d0 = none → G d1 = none → G d2 = none → G di = none) → tOp (rIxL K) (tVar 5) (tC (.int (i : Int))) σ H (fun x H2 => tVar 4 σ H2 fun y H3 => ∃ a' H4, x = V.ref a' ∧ DPut H3 a' y (.int a) H4 ∧ C H4) := fun {di} e1 e2 e3 e4 =>
    h5 H (fun x H2 => rIxL K x (.int (i : Int)) H2 fun x H2 => tVar 4 σ H2 fun y H3 => ∃ a' H4, x = V.ref a' ∧ DPut H3 a' y (.int a) H4 ∧ C H4) ⟨D, _, i, .ref di, rfl, rfl, SqL.of hF.l, atI_nat e1, h4 H (fun y H3 => ∃ a' H4, V.ref di = V.ref a' ∧ DPut H3 a' y (.int a) H4 ∧ C H4) ⟨di, _, rfl, DPut.k (k := Sum.inr n) e2 (sm _), q _ e3 (fun b zs z => lst_dk e2 z) (fun b zs z => ts_dk e2 b zs z) fun G g0 g1 g2 s b u z => by rw [upd_ne (ne_of_none z (e4 G g0 g1 g2))]; exact s b u z⟩⟩
  match i, i3 with
  | 0, _ => exact go rfl hF.a (hF.put0 mn a) fun _ g _ _ => g
  | 1, _ => exact go rfl hF.b (hF.put1 mn a) fun _ _ g _ => g
  | 2, _ => exact go rfl hF.c (hF.put2 mn a) fun _ _ _ g => g
section
variable {P : Program} {w : World} {K : PySem.W.Frag} {mg : Str → Option Value} {base : Heap}
abbrev sLst : Stmt := top 50
abbrev nmLst : List Str := ["rulebook", "struck", "live", "kinds", "name", "found", "turn", "index", "ground", "bad", "rows", "olds", "k", "need", "j", "many"]
theorem scLst : FnScope nmLst ["rulebook", "struck", "live"] (defScope sLst) := ⟨rfl, rfl, rfl, by decide +kernel, rfl, by decide +kernel, by decide +kernel⟩
abbrev scFd : Scope := { kind := .function, names := [(".0", .local), ("k", .local), ("dict", .globalImplicit), ("kinds", .cell)], isGenerator := false, isCoroutine := false }
abbrev scRw : Scope := { kind := .function, names := [(".0", .local), ("k", .cell), ("found", .cell), ("ground", .cell)], isGenerator := false, isCoroutine := false }
def spLst : Sp := fun vs H Q _ => ∃ (b sa d : Addr) (rows : List Str) (ks : List Kd) (S : List Str) (ls : List Addr), vs = [.ref b, .ref sa, .ref d] ∧ BookAt H b rows ks ∧ BookOk rows ks ∧ Sq2 H sa (S.map V.str) ∧ LiveH H d ks ls ∧
  ∀ (p d0 d1 d2 : Addr) (F : Nat × Str → Int) (H' : Hp), Same H H' → Fnd H' p d0 d1 d2 (nmsOf ks) F → LeastN (wayL ks S) (ndsL ks) F → H d0 = none → H d1 = none → H d2 = none → Q (.ref p) H'
theorem ok_Lst {f fK : Addr} {fd fdK : FuncData} (F : Fun K "_law_least_levels" "_law_least_levels" sLst f fd) (TC : TxtC mg) (hmin : mg "min" = none) (hmax : mg "max" = none) (CK : Ct P w K mg base "_law_kinds_of" 1 ["rulebook"] spKindsO fK fdK) : FnOk P w K mg base CX0 2 f fd ["rulebook", "struck", "live"] spLst := by
  refine F.ok scLst (fun vs H Q E h => ?_) (fun cdv A outer s H vs Q E hr h => ?_)
  · obtain ⟨b, sa, d, rows, ks, S, ls, rfl, _⟩ := h
    rfl
  · obtain ⟨b, sa, d, rows, ks, S, ls, rfl, hA, hO, hS, hL, k⟩ := h
    have u1 := hu_of hr
    have hu : (A.deeper (envOfC "_law_least_levels" (defScope sLst) s.heap.objs.size f cdv)).units + 64 < cLine := by have := hr.3; omega
    refine ⟨_, (pss_cons (ps_set (i := 3) scLst.nd rfl (Or.inr rfl) (pe_call CK.G hr (by rfl) CK.m CK.kp CK.b .nil pass0 (pa_cons (pv 0) pa_nil)))
      (pss_cons (ps_set (i := 5) scLst.nd rfl (Or.inr rfl) (pe_lc (own := [("k", 12)]) (g := gName 12) (wi := iRng1 (tCons (tC (.int 3)) tNil)) (tt := tYes) (te := tCB (rDP K) (tCons (tLockE (tLc (iKeys (tVar 3)) (gName 4) tYes (tTup (tCons (tVar 4) (tCons (tC (.int 99)) tNil))) [4])) tNil)) (by rfl) scLst.nd (pi_range1 rfl TC.b.range (pa_cons pe_int pa_nil)) (blkOk_by (own := [("k", 12)]) (N := nmLst) (sc := defScope sLst) (by decide +kernel)) (fun _ _ _ _ _ => pg_name (i := 12) scLst.nd rfl (Or.inl rfl)) (fun _ _ _ _ _ => pts_nil) (fun _ _ _ _ _ => pe_callTy (r := rDP K) (call_dictP1 (by rfl)) (by rfl) TC.dct (by decide +kernel) (pa_cons (pe_lock (pe_lc (own := [("name", 4)]) (g := gName 4) (wi := iKeys (tVar 3)) (tt := tYes) (te := tTup (tCons (tVar 4) (tCons (tC (.int 99)) tNil))) (by rfl) scLst.nd (pi_keys (pv 3)) (blkOk_by (own := [("name", 4)]) (N := nmLst) (sc := scFd) (by decide +kernel)) (fun _ _ _ _ _ => pg_name (i := 4) scLst.nd rfl (Or.inl rfl)) (fun _ _ _ _ _ => pts_nil) (fun _ _ _ _ _ => pe_tup (pa_cons (pv 4) (pa_cons pe_int pa_nil))))) pa_nil))))
      (pss_cons (ps_for PassesOwn.never rfl (pi_range1 rfl TC.b.range (pa_cons (pe_op op_mul pe_int (pe_callB call_lenD (by rfl) TC.b.len PySem.boot_len (pa_cons (pv 3) pa_nil))) pa_nil)) (pg_name (i := 6) scLst.nd rfl (Or.inl rfl)) (pss_one (ps_for PassesOwn.never rfl (pi_list (pe_callB (call_sortedD (by rfl)) (by rfl) TC.sor (by decide +kernel) (pa_cons (pv 3) pa_nil))) (pg_name (i := 4) scLst.nd rfl (Or.inl rfl)) (pss_one (ps_for PassesOwn.never rfl (pi_list (pe_dget u1 (pv 2) (pv 4) (fun _ _ => rfl))) (pg_name (i := 7) scLst.nd rfl (Or.inl rfl)) (pss_cons (ps_set (i := 8) scLst.nd rfl (Or.inr rfl) (pe_ix (r := rIxT K) ix_tup (pe_ix (r := rIxT K) ix_tup (pe_dget u1 (pv 3) (pv 4) (fun _ _ => rfl)) pe_int (fun _ _ => rfl)) (pv 7) (fun _ _ => rfl)))
      (pss_cons (ps_setLc (i := 9) (own := [("need", 13)]) (g := gName 13) (tt := tAnd (tTest (tOp rEq (tOp (rIxT K) (tVar 13) (tC (.int 0))) (tC (.str "row")))) (tTest (tOp (rIn K false) (tOp (rIxT K) (tVar 13) (tC (.int 1))) (tVar 1)))) (te := tVar 13) (by rfl) scLst.nd rfl rfl (sw_true rfl rfl rfl (by decide +kernel)) (pi_tup (pv 8)) (blkOk_by (own := [("need", 13)]) (N := nmLst) (sc := defScope sLst) (by decide +kernel)) (fun _ _ _ _ _ => pg_name (i := 13) scLst.nd rfl (Or.inl rfl)) (fun _ _ _ _ _ => pts_one (PW.pt (pw_and (pt_cmpR (r := rEq) op_eq (pe_ix (r := rIxT K) ix_tup (pv 13) pe_int (fun _ _ => rfl)) pe_str (nomark _)) (pw_and1 (pt_cmpR (r := rIn K false) op_in_seq (pe_ix (r := rIxT K) ix_tup (pv 13) pe_int (fun _ _ => rfl)) (pv 1) rfl))))) (fun _ _ _ _ _ => pv 13))
      (pss_cons (ps_set (i := 10) scLst.nd rfl (Or.inr rfl) (pe_lc (own := [("k", 12)]) (g := gName 12) (wi := iRng1 (tCons (tC (.int 3)) tNil)) (tt := tYes) (te := tLc (iTup K (tVar 8)) (gName 13) (tTest (tOp rEq (tOp (rIxT K) (tVar 13) (tC (.int 0))) (tC (.str "kind")))) (tDGet (tOp (rIxL K) (tVar 5) (tVar 12)) (tOp (rIxT K) (tVar 13) (tC (.int 1)))) [13]) (by rfl) scLst.nd (pi_range1 rfl TC.b.range (pa_cons pe_int pa_nil)) (blkOk_by (own := [("k", 12)]) (N := nmLst) (sc := defScope sLst) (by decide +kernel)) (fun _ _ _ _ _ => pg_name (i := 12) scLst.nd rfl (Or.inr rfl)) (fun _ _ _ _ _ => pts_nil) (fun _ _ _ _ _ => (pe_lc (own := [("need", 13)]) (g := gName 13) (wi := iTup K (tVar 8)) (tt := (tTest (tOp rEq (tOp (rIxT K) (tVar 13) (tC (.int 0))) (tC (.str "kind"))))) (te := tDGet (tOp (rIxL K) (tVar 5) (tVar 12)) (tOp (rIxT K) (tVar 13) (tC (.int 1)))) (by rfl) scLst.nd (pi_tup (pv 8)) (blkOk_by (own := [("need", 13)]) (N := nmLst) (sc := scRw) (by decide +kernel)) (fun _ _ _ _ _ => pg_name (i := 13) scLst.nd rfl (Or.inl rfl)) (fun _ _ _ _ _ => pts_one (pt_cmpR (r := rEq) op_eq (pe_ix (r := rIxT K) ix_tup (pv 13) pe_int (fun _ _ => rfl)) pe_str (nomark _))) (fun _ _ _ _ _ => (pe_dget u1 (pe_ix (r := rIxL K) ix_list (pv 5) (pv 12) (fun _ _ => rfl)) (pe_ix (r := rIxT K) ix_tup (pv 13) pe_int (fun _ _ => rfl)) (fun _ _ => rfl)))))))
      (pss_cons (ps_dput u1 (pe_ix (r := rIxL K) ix_list (pv 5) pe_int (fun _ _ => rfl)) (pv 4) (pe_callB (call_min2 (by rfl)) (by rfl) hmin (by decide +kernel) (pa_cons (pe_dget u1 (pe_ix (r := rIxL K) ix_list (pv 5) pe_int (fun _ _ => rfl)) (pv 4) (fun _ _ => rfl)) (pa_cons (pe_op op_add pe_int (pe_callB (r := rMax K) (cr_max (by rfl)) (by rfl) hmax (by decide +kernel) (pa_cons (pe_op op_cat (pe_lst (pa_cons pe_int pa_nil)) (pe_ix (r := rIxL K) ix_list (pv 10) pe_int (fun _ _ => rfl))) pa_nil))) pa_nil))) rfl)
      (pss_cons (ps_if (pt_cmpR (op_eqD hu) (pv 9) (pe_lst pa_nil) (nomark _)) (pss_one (ps_dput u1 (pe_ix (r := rIxL K) ix_list (pv 5) pe_int (fun _ _ => rfl)) (pv 4) (pe_callB (call_min2 (by rfl)) (by rfl) hmin (by decide +kernel) (pa_cons (pe_dget u1 (pe_ix (r := rIxL K) ix_list (pv 5) pe_int (fun _ _ => rfl)) (pv 4) (fun _ _ => rfl)) (pa_cons (pe_op op_add pe_int (pe_callB (r := rMax K) (cr_max (by rfl)) (by rfl) hmax (by decide +kernel) (pa_cons (pe_op op_cat (pe_lst (pa_cons pe_int pa_nil)) (pe_ix (r := rIxL K) ix_list (pv 10) pe_int (fun _ _ => rfl))) pa_nil))) pa_nil))) rfl)) pss_nil)
      (pss_cons (ps_setLc (i := 11) (own := [("j", 14)]) (g := gName 14) (tt := tYes) (te := tCB (rMax K) (tCons (tOp rCat (tOp rCat (tSl (rSlL K) (tOp (rIxL K) (tVar 10) (tC (.int 0))) tNoPart (tPart (tVar 14))) (tLst (tCons (tOp (rIxL K) (tOp (rIxL K) (tVar 10) (tC (.int 2))) (tVar 14)) tNil))) (tSl (rSlL K) (tOp (rIxL K) (tVar 10) (tC (.int 0))) (tPart (tOp (rI0 fun i j => V.int (i + j)) (tVar 14) (tC (.int 1)))) tNoPart)) tNil)) (by rfl) scLst.nd rfl rfl (sw_true rfl rfl rfl (by decide +kernel)) (pi_range1 rfl TC.b.range (pa_cons (pe_callB (r := rLen K) call_len_seq (by rfl) TC.b.len PySem.boot_len (pa_cons (pe_ix (r := rIxL K) ix_list (pv 10) pe_int (fun _ _ => rfl)) pa_nil)) pa_nil)) (blkOk_by (own := [("j", 14)]) (N := nmLst) (sc := defScope sLst) (by decide +kernel)) (fun _ _ _ _ _ => pg_name (i := 14) scLst.nd rfl (Or.inl rfl)) (fun _ _ _ _ _ => pts_nil) (fun _ _ _ _ _ => pe_callB (r := rMax K) (cr_max (by rfl)) (by rfl) hmax (by decide +kernel) (pa_cons (pe_op op_cat (pe_op op_cat (pe_slice sl_list (pe_ix (r := rIxL K) ix_list (pv 10) pe_int (fun _ _ => rfl)) po_none (po_some (pv 14))) (pe_lst (pa_cons (pe_ix (r := rIxL K) ix_list (pe_ix (r := rIxL K) ix_list (pv 10) pe_int (fun _ _ => rfl)) (pv 14) (fun _ _ => rfl)) pa_nil))) (pe_slice sl_list (pe_ix (r := rIxL K) ix_list (pv 10) pe_int (fun _ _ => rfl)) (po_some (pe_op op_add (pv 14) pe_int)) po_none)) pa_nil)))
      (pss_cons (ps_set (i := 11) scLst.nd rfl (Or.inl rfl) (pe_op op_cat (pv 11) (pe_op op_rep (pe_lst (pa_cons (pe_callB (r := rMax K) (cr_max (by rfl)) (by rfl) hmax (by decide +kernel) (pa_cons (pe_op op_cat (pe_lst (pa_cons pe_int pa_nil)) (pe_ix (r := rIxL K) ix_list (pv 10) pe_int (fun _ _ => rfl))) pa_nil)) pa_nil)) (pe_callTy call_int1 (by rfl) TC.b.int (by decide +kernel) (pa_cons (pe_cmpR (op_neD hu) (pv 9) (pe_lst pa_nil) (nomark _)) pa_nil)))))
      (pss_one (ps_dput u1 (pe_ix (r := rIxL K) ix_list (pv 5) pe_int (fun _ _ => rfl)) (pv 4) (pe_callB (r := rMin K) (cr_min (by rfl)) (by rfl) hmin (by decide +kernel) (pa_cons (pe_op op_cat (pe_lst (pa_cons (pe_dget u1 (pe_ix (r := rIxL K) ix_list (pv 5) pe_int (fun _ _ => rfl)) (pv 4) (fun _ _ => rfl)) pa_nil)) (pe_lc (own := [("many", 15)]) (g := gName 15) (wi := iList K (tVar 11)) (tt := tYes) (te := tOp (rI0 fun i j => V.int (i + j)) (tC (.int 1)) (tVar 15)) (by rfl) scLst.nd (pi_list (pv 11)) (blkOk_by (own := [("many", 15)]) (N := nmLst) (sc := defScope sLst) (by decide +kernel)) (fun _ _ _ _ _ => pg_name (i := 15) scLst.nd rfl (Or.inl rfl)) (fun _ _ _ _ _ => pts_nil) (fun _ _ _ _ _ => (pe_op op_add pe_int (pv 15))))) pa_nil)) rfl))))))))))))))
      (pss_one (ps_ret (pv 5)))))), ?_⟩
    have sz : ∀ {m : Nat}, m ≤ 900 → m ≤ sizeLine := fun h => Nat.le_of_lt (small1000 (by omega))
    have hk5 := hO.k5
    have nd := hO.nm.nd
    have lnm : (nmsOf ks).length = ks.length := List.length_map ..
    refine ⟨_, rfl, b, rows, ks, rfl, hA, hO, fun dk ts H1 S1 nd1 KD => ?_⟩
    have lkv : (kvsOf ks ts).length = ks.length := kvs_len (paired_len KD.t)
    refine ⟨_, rfl, by decide, by decide, fun D hD => go_range (fun i J => Same H1 J ∧ ∃ as : List Addr, J D = some (.lst (as.map V.ref)) ∧ as.length = i ∧ as.Nodup ∧ (∀ a ∈ as, J a = some (.dK (kvA (nmsOf ks) fun _ => .int 99))) ∧ ∀ a ∈ as, H1 a = none) ?_ ?_ ?_⟩
    · exact ⟨same_upd hD, [], upd_same, rfl, List.nodup_nil, fun _ m => by (cases m), fun _ m => by cases m⟩
    · rintro i J hi ⟨SJ, as, jD, la, nda, ha, hn⟩
      have hi3 : i < 3 := hi
      have eD := SJ _ _ KD.d
      refine ⟨rfl, tYes_go (iteT ?_)⟩
      refine ⟨dk, _, eD, trivial, fun od => ?_⟩
      have hdL : upd J dk (.frz od (.dK (kvsOf ks ts))) dk = some (.frz od (.dK (kvsOf ks ts))) := upd_same
      have un : ∀ J2, Same (upd J dk (.frz od (.dK (kvsOf ks ts)))) J2 → Same J (upd J2 dk (.dK (kvsOf ks ts))) := fun J2 s => same_unlock eD s
      have nonL : ∀ q, upd J dk (.frz od (.dK (kvsOf ks ts))) q = none → J q = none := fun q e => by
        by_cases z : q = dk
        · rw [z, upd_same] at e; cases e
        · rw [upd_ne z] at e; exact e
      generalize upd J dk (.frz od (.dK (kvsOf ks ts))) = HL at hdL un nonL ⊢
      refine ⟨_, rfl, dk, od, rfl, .inl ⟨kvsOf ks ts, hdL, fun D2 nD2 => go_keys (fun j J2 => Same HL J2 ∧ ∃ ps : List Addr, J2 D2 = some (.lst (ps.map V.ref)) ∧ Paired (fun p (kv : Key × V) => J2 p = some (.tup [kV kv.1, kv.2])) ps (kvA ((nmsOf ks).take j) fun _ => .int 99)) ?_ ?_ ?_ ?_⟩⟩
      · exact ⟨same_upd nD2, [], upd_same, .nil⟩
      · rintro j J2 _ ⟨S2, _⟩
        exact S2 _ _ hdL
      · rintro j kk vv J2 hkv ⟨S2, ps, jD2, pp⟩
        have hj : j < ks.length := by rw [← lkv]; exact (List.getElem?_eq_some_iff.mp hkv).1
        have hn2 : (nmsOf ks)[j]? = some ((nmsOf ks)[j]'(by omega)) := List.getElem?_eq_getElem _
        generalize (nmsOf ks)[j]'(by omega) = nm at hn2
        have ekk : kk = Sum.inr nm := by
          have h1 := congrArg (fun l : List Key => l[j]?) (kvs_keysN KD.t)
          rw [List.getElem?_map, List.getElem?_map, hkv, show (ks.map Kd.name)[j]? = some nm from hn2] at h1
          exact Option.some.inj h1
        subst ekk
        have tk : (nmsOf ks).take (j + 1) = (nmsOf ks).take j ++ [nm] := by rw [List.take_add_one, hn2]; rfl
        have lp := paired_len pp
        rw [List.length_map, List.length_take] at lp
        refine ⟨rfl, tYes_go (iteT ?_)⟩
        refine ⟨_, rfl, sz (by show 2 ≤ 900; decide), fun t nt => ?_⟩
        have St := same_upd (o := .tup [kV (Sum.inr nm), .int 99]) nt
        have et : upd J2 t (.tup [kV (Sum.inr nm), .int 99]) t = some (.tup [kV (Sum.inr nm), .int 99]) := upd_same
        have S3 := KaG.Same.tr S2 St
        have jD3 := St _ _ jD2
        have pp3 := Paired.mono' (fun p (kv : Key × V) (q : J2 p = some (.tup [kV kv.1, kv.2])) => St _ _ q) pp
        generalize upd J2 t (.tup [kV (Sum.inr nm), .int 99]) = J3 at et S3 jD3 pp3 ⊢
        refine ⟨_, jD3, small1000 (by rw [List.length_map]; omega), fun b u e => by rw [upd_ne (ne_of_none e nD2)]; exact S3 b u e, ps ++ [t], by rw [upd_same, List.map_append]; rfl, ?_⟩
        have tsl := ts_lst (ys := ps.map V.ref ++ [V.ref t]) jD3
        rw [tk]
        unfold kvA
        rw [List.map_append]
        exact paired_app (Paired.mono' (fun p (kv : Key × V) (q : J3 p = some (.tup [kV kv.1, kv.2])) => tsl _ _ q) pp3) (.cons (tsl _ _ et) .nil)
      · rintro J2 ⟨S2, ps, jD2, pp⟩
        rw [lkv, ← lnm, List.take_length] at pp
        refine ⟨S2 _ _ hdL, ?_⟩
        have S3 := un J2 S2
        have Dd : D2 ≠ dk := fun z => by rw [z, hdL] at nD2; cases nD2
        have jD3 : upd J2 dk (.dK (kvsOf ks ts)) D2 = some (.lst (ps.map V.ref)) := by rw [upd_ne Dd]; exact jD2
        have tsf := ts_fz (o := .dK (kvsOf ks ts)) (S2 _ _ hdL)
        have pp3 := Paired.mono' (fun p (kv : Key × V) (q : J2 p = some (.tup [kV kv.1, kv.2])) => tsf _ _ q) pp
        generalize upd J2 dk (.dK (kvsOf ks ts)) = J3 at S3 jD3 pp3 ⊢
        refine ⟨D2, ps, _, rfl, SqL.of jD3, Paired.mono' (fun p kv q => SqT.of q) pp3, fun p np => ?_⟩
        have mm : mergeK [] (kvA (nmsOf ks) fun _ => V.int 99) = kvA (nmsOf ks) fun _ => V.int 99 := merge_new _ _ (by rw [List.nil_append]; exact kvA_nd nd)
        rw [mm]
        have s4 := same_upd (o := .dK (kvA (nmsOf ks) fun _ => V.int 99)) np
        have S4 := KaG.Same.tr S3 s4
        have pJ : J p = none := same_non S3 p np
        have pD : D ≠ p := fun z => by rw [← z, jD] at pJ; cases pJ
        refine ⟨_, S4 _ _ jD, small1000 (by rw [List.length_map]; omega), fun b u e => by rw [upd_ne (ne_of_none e hD)]; exact S4 _ _ (SJ b u e), as ++ [p], by rw [upd_same, List.map_append]; rfl, by rw [List.length_append, List.length_singleton, la], ?_, fun a m => ?_, fun a m => ?_⟩
        · refine List.nodup_append.mpr ⟨nda, List.nodup_cons.mpr ⟨by simp, List.nodup_nil⟩, fun a m c mc z => ?_⟩
          rw [List.mem_singleton.mp mc] at z
          rw [z] at m
          have := ha p m
          rw [pJ] at this
          cases this
        · have aD : a ≠ D := fun z => by
            rcases List.mem_append.mp m with q | q
            · have := ha a q
              rw [z, jD] at this
              cases this
            · rw [List.mem_singleton.mp q] at z
              exact pD z.symm
          rw [upd_ne aD]
          rcases List.mem_append.mp m with q | q
          · exact S4 _ _ (ha a q)
          · rw [List.mem_singleton.mp q]; exact upd_same
        · rcases List.mem_append.mp m with q | q
          · exact hn a q
          · rw [List.mem_singleton.mp q]; exact same_non SJ p pJ
    rintro H2 ⟨S2, as, eD, la, nda, ha, hn⟩
    have la3 : as.length = 3 := la
    match as, la3, nda, ha, hn, eD with
    | [d0, d1, d2], _, nda, ha, hn, eD =>
    have n01 : d0 ≠ d1 := fun z => by simp [z] at nda
    have n02 : d0 ≠ d2 := fun z => by simp [z] at nda
    have n12 : d1 ≠ d2 := fun z => by simp [z] at nda
    have FN : Fnd H2 D d0 d1 d2 (nmsOf ks) (fun _ => 99) := ⟨eD, ha d0 (by simp), ha d1 (by simp), ha d2 (by simp), n01, n02, n12⟩
    have m0 := hn d0 (by simp)
    have m1 := hn d1 (by simp)
    have m2 := hn d2 (by simp)
    clear nda ha hn la eD
    have KD2 := KD.same S2
    have nDH : H1 D = none := hD
    have fr : ∀ {J : Hp} {o : HO} {z : Addr}, H1 z = none → Same H1 J → Same H1 (upd J z o) := fun n s b u e => by rw [upd_ne (ne_of_none e n)]; exact s b u e
    refine ⟨_, rfl, dk, _, rfl, KD2.d, ?_⟩
    rw [lkv]
    refine ⟨_, _, rfl, rfl, .inl ⟨by decide, by decide⟩, _, rfl, by omega, by omega, for_range (n := ((3 : Int) * (ks.length : Int)).toNat) (fun t σ' J => (∃ (x4 x6 x7 x8 x9 x10 x11 : Option V), σ' = [some (.ref b), some (.ref sa), some (.ref d), some (.ref dk), x4, some (.ref D), x6, x7, x8, x9, x10, x11, none, none, none, none]) ∧ Same H1 J ∧ ∃ F, Fnd J D d0 d1 d2 (nmsOf ks) F ∧ SoundN (wayL ks S) F ∧ ∀ t', t' ≤ t → DoneN (wayL ks S) (ndsL ks) t' F) ?_ ?_ ?_⟩
    · refine ⟨⟨_, _, _, _, _, _, _, rfl⟩, S2, _, FN, SoundN.init, fun t' ht x mx hx => ?_⟩
      obtain rfl : t' = 0 := by omega
      cases (show false = true from hx)
    · rintro t σ' J ht ⟨⟨x4, x6, x7, x8, x9, x10, x11, rfl⟩, SJ, F, FJ, hSd, hDn⟩
      have KJ := KD.same SJ
      refine ⟨_, rfl, dk, kvsOf ks ts, ks.map Kd.name, rfl, .inl KJ.d, kvs_keysN KJ.t, by rw [List.length_map]; omega, fun ys c pm srt nc => ?_⟩
      obtain rfl : ys = ks.map Kd.name := sorted_one hO.nm.of hO.nm.up srt pm
      have sc := same_upd (o := .lst ((ks.map Kd.name).map V.str)) nc
      have ec : upd J c (.lst ((ks.map Kd.name).map V.str)) c = some (.lst ((ks.map Kd.name).map V.str)) := upd_same
      have SJ1 := KaG.Same.tr SJ sc
      have FJ1 := FJ.same sc
      generalize upd J c (.lst ((ks.map Kd.name).map V.str)) = J1 at ec SJ1 FJ1 ⊢
      refine ⟨c, rfl, ⟨_, SqL.of ec⟩, for_list (K := K) (a := c) (xs := (ks.map Kd.name).map V.str) (fun j σ' J => (∃ (x4 x6 x7 x8 x9 x10 x11 : Option V), σ' = [some (.ref b), some (.ref sa), some (.ref d), some (.ref dk), x4, some (.ref D), x6, x7, x8, x9, x10, x11, none, none, none, none]) ∧ Same H1 J ∧ J c = some (.lst ((ks.map Kd.name).map V.str)) ∧ ∃ F', Fnd J D d0 d1 d2 (nmsOf ks) F' ∧ TurnI ks S F F' ((nmsOf ks).take j) "a" []) ?_ ?_ ?_ ?_⟩
      · exact ⟨⟨_, _, _, _, _, _, _, rfl⟩, SJ1, ec, F, FJ1, TurnI.start hSd⟩
      · rintro j σ' J2 _ ⟨_, _, e, _⟩
        exact SqL.of e
      · rintro j x σ' J2 hx ⟨⟨x4, x6, x7, x8, x9, x10, x11, rfl⟩, SJ2, ec2, F2, FJ2, TI2⟩
        rw [List.getElem?_map] at hx
        obtain ⟨nm, hnm, rfl⟩ := Option.map_eq_some_iff.mp hx
        have mn : nm ∈ nmsOf ks := List.mem_of_getElem? hnm
        have tkn : (nmsOf ks).take (j + 1) = (nmsOf ks).take j ++ [nm] := by rw [List.take_add_one, show (nmsOf ks)[j]? = some nm from hnm]; rfl
        obtain ⟨kd, mk, rfl⟩ := List.mem_map.mp mn
        obtain ⟨ll, evl, ell⟩ := kvs_get nd hL.l mk
        have egs := gsOf_eq nd mk
        have lv4 := llk_len hO kd
        have lvl : (lvg ks kd.name).length = (liveIx ks (bearOf ks) kd.name).length := by unfold lvg; rw [List.length_map]
        refine ⟨_, rfl, _, rfl, d, .ref ll, rfl, .inl ⟨kvsOf ks ls, Sum.inr kd.name, .inl (SJ2 _ _ (S1 _ _ hL.d)), rfl, evl.symm⟩, ll, rfl, ⟨_, SqL.of (SJ2 _ _ (S1 _ _ ell))⟩, for_list (K := K) (a := ll) (xs := ixV (liveIx ks (bearOf ks) kd.name)) (fun q σ' J => (∃ (x7 x8 x9 x10 x11 : Option V), σ' = [some (.ref b), some (.ref sa), some (.ref d), some (.ref dk), some (.str kd.name), some (.ref D), x6, x7, x8, x9, x10, x11, none, none, none, none]) ∧ Same H1 J ∧ J c = some (.lst ((ks.map Kd.name).map V.str)) ∧ ∃ F', Fnd J D d0 d1 d2 (nmsOf ks) F' ∧ TurnI ks S F F' ((nmsOf ks).take j) kd.name ((lvg ks kd.name).take q)) ?_ ?_ ?_ ?_⟩
        · exact ⟨⟨_, _, _, _, _, rfl⟩, SJ2, ec2, F2, FJ2, TI2.to⟩
        · rintro q σ' J3 _ ⟨_, SJ3, _⟩
          exact SqL.of (SJ3 _ _ (S1 _ _ ell))
        · rintro q y σ' J3 hy ⟨⟨x7, x8, x9, x10, x11, rfl⟩, SJ3, ec3, F3, FJ3, TI3⟩
          have hq := (List.getElem?_eq_some_iff.mp hy).1
          obtain ⟨i0, hi0, rfl⟩ := ixV_at hy
          obtain ⟨gr, hgr, _⟩ := ats_mem.mp (List.mem_of_getElem? hi0)
          have e1 : grAt ks kd.name i0 = gr := grAt_at hgr
          rw [egs] at hgr
          have hlv : (lvg ks kd.name)[q]? = some (i0, gr) := by unfold lvg; rw [List.getElem?_map, hi0, ← e1]; rfl
          have mlv := List.mem_of_getElem? hlv
          have tkq : (lvg ks kd.name).take (q + 1) = (lvg ks kd.name).take q ++ [(i0, gr)] := by rw [List.take_add_one, hlv]; rfl
          have gok := lvg_ok hO mlv
          have g3 := gok.len
          obtain ⟨tt, ev, ⟨gt, gas2, f1, f2, f3⟩⟩ := kvs_get nd KD.t mk
          obtain ⟨ga, hga, eGr⟩ := paired_at2 f3 hgr
          obtain ⟨ns, eg, pn⟩ := id eGr
          have lns := paired_len pn
          refine ⟨_, rfl, _, rfl, dk, .ref tt, rfl, .inl ⟨kvsOf ks ts, Sum.inr kd.name, .inl (SJ3 _ _ KD.d), rfl, ev.symm⟩, ?_⟩
          refine ⟨tt, _, 2, .ref gt, rfl, rfl, SqT.of (SJ3 _ _ f1), rfl, _, rfl, gt, _, _, .ref ga, rfl, rfl, SqT.of (SJ3 _ _ f2), atI_nat (by rw [List.getElem?_map, hga]; rfl), ?_⟩
          have bigs : ∀ {J : Hp}, Same J3 J → TSame H1 J := fun s => TSame.of (KaG.Same.tr SJ3 s)
          -- bad
          refine ⟨_, rfl, ga, rfl, ⟨_, SqT.of (SJ3 _ _ eg)⟩, fun B hB => go_tup (K := K) (a := ga) (xs := ns.map V.ref) (fun p J => Same J3 J ∧ ∃ qs : List Addr, J B = some (.lst (qs.map V.ref)) ∧ Paired (fun q it => J q = some (.tup it)) qs ((gr.take p).filter (rwS S))) ?_ ?_ ?_ ?_⟩
          · exact ⟨same_upd hB, [], upd_same, .nil⟩
          · rintro p J _ ⟨s, _⟩
            exact SqT.of (s _ _ (SJ3 _ _ eg))
          · rintro p x J hx ⟨s, qs, jB, pq⟩
            rw [List.getElem?_map] at hx
            obtain ⟨na, hna, rfl⟩ := Option.map_eq_some_iff.mp hx
            obtain ⟨it, hit, en⟩ := paired_at pn hna
            have nv := gok.nv it (List.mem_of_getElem? hit)
            have enJ := s _ _ (SJ3 _ _ en)
            have pi := (List.getElem?_eq_some_iff.mp hit).1
            have lq := paired_len pq
            have lq3 : qs.length ≤ 3 := by
              rw [lq]
              exact Nat.le_trans (List.length_filter_le ..) (by rw [List.length_take]; omega)
            rw [List.take_add_one, hit, Option.toList_some, List.filter_append]
            refine ⟨rfl, ?_⟩
            cases nv with
            | row nw u m =>
              refine ⟨_, rfl, na, _, 0, .str "row", rfl, rfl, SqT.of enJ, rfl, rfl, _, rfl, iteD (by decide +kernel) ?_⟩
              refine ⟨_, rfl, na, _, 1, .str nw, rfl, rfl, SqT.of enJ, rfl, _, rfl, sa, S.map V.str, rfl, (hS.same (KaG.Same.tr S1 (KaG.Same.tr SJ3 s))).imp SqL.of SqT.of, rfl, flat_strs, ?_⟩
              rw [show (if false = true then !inV (V.str nw) (List.map V.str S) else inV (V.str nw) (List.map V.str S)) = decide (nw ∈ S) from inV_str]
              refine ⟨_, rfl, ?_⟩
              have e5 : rwS S [V.str "row", V.str nw, V.int u, V.int m] = decide (nw ∈ S) := rfl
              rw [List.filter_cons, e5]
              cases hd : decide (nw ∈ S) with
              | true =>
                have tsl := ts_lst (ys := qs.map V.ref ++ [V.ref na]) jB
                refine ifT rfl ⟨_, rfl, _, jB, small1000 (by rw [List.length_map]; omega), fun b u e => by rw [upd_ne (ne_of_none e hB)]; exact s b u e, qs ++ [na], by rw [upd_same, List.map_append]; rfl, ?_⟩
                exact paired_app (Paired.mono' (fun _ _ e => tsl _ _ e) pq) (.cons (tsl _ _ enJ) .nil)
              | false =>
                refine ifF rfl ⟨s, qs, jB, ?_⟩
                simpa using pq
            | kind nw a u m =>
              refine ⟨_, rfl, na, _, 0, .str "kind", rfl, rfl, SqT.of enJ, rfl, rfl, _, rfl, iteDF (by decide +kernel) ?_⟩
              refine ifF rfl ⟨s, qs, jB, ?_⟩
              have e5 : rwS S [V.str "kind", V.str nw, V.int a, V.int u, V.int m] = false := rfl
              rw [List.filter_cons, e5]
              simpa using pq
          rintro J4 ⟨s4, qsB, jB, pB⟩
          rw [List.length_map, lns, List.take_length] at pB
          have hBad : NdL J4 B rows (nmsOf ks) (gr.filter (rwS S)) := ⟨⟨qsB, jB, pB⟩, fun it m => gok.nv it (List.mem_filter.mp m).1⟩
          have eBad : (gr.filter (rwS S)).isEmpty = !bdG S gr := by
            unfold bdG
            clear pB hBad
            generalize gr = l
            induction l with
            | nil => rfl
            | cons r l ih =>
              rw [List.filter_cons, List.any_cons]
              cases rwS S r with
              | true => rfl
              | false => rw [if_neg Bool.false_ne_true, ih, Bool.false_or]
          have SJ4 := KaG.Same.tr SJ3 s4
          have FJ4 := FJ3.same s4
          have ec4 := s4 _ _ ec3
          clear jB pB
          -- rows
          refine ⟨_, rfl, by decide, by decide, fun R hR => go_range (fun i J => Same J4 J ∧ ∃ rs : List Addr, J R = some (.lst (rs.map V.ref)) ∧ rs.length = i ∧ ∀ k r, rs[k]? = some r → r ≠ R ∧ J r = some (.lst ((rwN F3 gr k).map V.int))) ?_ ?_ ?_⟩
          · exact ⟨same_upd hR, [], upd_same, rfl, fun k r e => by cases e⟩
          · rintro i J hi ⟨s5, rs, jR, lr, hr⟩
            have i3 : i < 3 := hi
            have FJ := FJ4.same s5
            obtain ⟨di, edi, ddi⟩ := FJ.get i3
            have S5 := KaG.Same.tr SJ4 s5
            refine ⟨rfl, tYes_go (iteT ?_)⟩
            refine ⟨_, rfl, ga, rfl, ⟨_, SqT.of (S5 _ _ eg)⟩, fun D2 nD2 => go_tup (K := K) (a := ga) (xs := ns.map V.ref) (fun p J2 => Same J J2 ∧ J2 D2 = some (.lst (((kdsOf (gr.take p)).map fun m => F3 (i, m)).map V.int))) ?_ ?_ ?_ ?_⟩
            · exact ⟨same_upd nD2, upd_same⟩
            · rintro p J2 _ ⟨s6, _⟩
              exact SqT.of (s6 _ _ (S5 _ _ eg))
            · rintro p x J2 hx ⟨s6, jD2⟩
              rw [List.getElem?_map] at hx
              obtain ⟨na, hna, rfl⟩ := Option.map_eq_some_iff.mp hx
              obtain ⟨it, hit, en⟩ := paired_at pn hna
              have nv := gok.nv it (List.mem_of_getElem? hit)
              have enJ := s6 _ _ (S5 _ _ en)
              have lk3 : (kdsOf (gr.take p)).length ≤ 3 := Nat.le_trans (List.length_filterMap_le ..) (by rw [List.length_take]; omega)
              rw [List.take_add_one, hit, Option.toList_some, kds_app]
              refine ⟨rfl, ?_⟩
              cases nv with
              | row nw u m =>
                refine ⟨_, rfl, na, _, 0, .str "row", rfl, rfl, SqT.of enJ, rfl, rfl, _, rfl, iteDF (by decide +kernel) ?_⟩
                refine ⟨s6, ?_⟩
                have e5 : kdsOf [[V.str "row", V.str nw, V.int u, V.int m]] = [] := rfl
                rw [e5, List.append_nil]
                exact jD2
              | kind nw a u m hnw =>
                have e5 : kdsOf [[V.str "kind", V.str nw, V.int a, V.int u, V.int m]] = [nw] := rfl
                refine ⟨_, rfl, na, _, 0, .str "kind", rfl, rfl, SqT.of enJ, rfl, rfl, _, rfl, iteD (by decide +kernel) ?_⟩
                refine ⟨_, rfl, _, rfl, D, _, _, .ref di, rfl, rfl, SqL.of (s6 _ _ FJ.l), by rw [Int.zero_add]; exact atI_nat edi, ?_⟩
                refine ⟨_, rfl, na, _, 1, .str nw, rfl, rfl, SqT.of enJ, rfl, di, _, rfl, .inl ⟨_, Sum.inr nw, .inl (s6 _ _ ddi), rfl, (kvA_get hnw).symm⟩, ?_⟩
                refine ⟨_, jD2, small1000 (by rw [List.length_map, List.length_map]; omega), fun b u e => by rw [upd_ne (ne_of_none e nD2)]; exact s6 b u e, ?_⟩
                rw [upd_same, e5, List.map_append, List.map_append]
                rfl
            · rintro J2 ⟨s6, jD2⟩
              rw [List.length_map, lns, List.take_length] at jD2
              have hD2 : D2 ≠ R := fun z => by rw [z, jR] at nD2; cases nD2
              refine ⟨_, s6 _ _ jR, small1000 (by rw [List.length_map]; omega), fun b u e => by rw [upd_ne (ne_of_none e hR)]; exact s6 _ _ (s5 b u e), rs ++ [D2], by rw [upd_same, List.map_append]; rfl, by rw [List.length_append, lr]; rfl, fun k r e => ?_⟩
              rcases Nat.lt_or_ge k rs.length with c1 | c1
              · rw [List.getElem?_append_left c1] at e
                obtain ⟨h1, h2⟩ := hr k r e
                exact ⟨h1, by rw [upd_ne h1]; exact s6 _ _ h2⟩
              · rw [List.getElem?_append_right c1] at e
                have k0 : k - rs.length = 0 := by
                  have := (List.getElem?_eq_some_iff.mp e).1
                  rw [List.length_singleton] at this
                  omega
                rw [k0] at e
                cases e
                obtain rfl : k = i := by omega
                exact ⟨hD2, by rw [upd_ne hD2]; exact jD2⟩
          rintro J5 ⟨s5, rs, jR, lr, hr⟩
          have lr3 : rs.length = 3 := lr
          match rs, lr3, hr, jR with
          | [r0, r1, r2], _, hr, jR =>
          have er0 := (hr 0 r0 rfl).2
          have er1 := (hr 1 r1 rfl).2
          have er2 := (hr 2 r2 rfl).2
          clear hr lr
          have SJ5 := KaG.Same.tr SJ4 s5
          have FJ5 := FJ4.same s5
          have ec5 := s5 _ _ ec4
          have hBad5 := hBad.same s5
          have l3r : ∀ k, (rwN F3 gr k).length ≤ 3 := fun k => by
            unfold rwN
            rw [List.length_map]
            exact Nat.le_trans (List.length_filterMap_le ..) (by omega)
          have l5n : (nmsOf ks).length ≤ 5 := by omega
          -- found[0][name] = min(..)
          refine fd_rd (i := 0) (fun H Q q => ⟨_, rfl, q⟩) (fun H Q q => ⟨_, rfl, q⟩) FJ5 rfl (by decide) mn ?_
          refine mx_rd (i := 0) (fun H Q q => ⟨_, rfl, q⟩) jR rfl rfl er0 (by have := l3r 0; omega) fun J6 s6 => ?_
          refine ⟨_, _, rfl, rfl, _, _, rfl, ?_⟩
          refine dput_k (i := 0) (fun H Q q => ⟨_, rfl, q⟩) (fun H Q q => ⟨_, rfl, q⟩) (FJ5.same s6) rfl (by decide) mn l5n fun J7 FJ7 hl7 ht7 hg7 => ?_
          have SJ7 := hg7 H1 m0 m1 m2 (KaG.Same.tr SJ5 s6)
          have jR7 := hl7 _ _ (s6 _ _ jR)
          have er07 := hl7 _ _ (s6 _ _ er0)
          have er17 := hl7 _ _ (s6 _ _ er1)
          have er27 := hl7 _ _ (s6 _ _ er2)
          have ec7 := hl7 _ _ (s6 _ _ ec5)
          have hBad7 : NdL J7 B rows (nmsOf ks) (gr.filter (rwS S)) := by
            obtain ⟨⟨qs, e, p⟩, nv⟩ := hBad5.same s6
            exact ⟨⟨qs, hl7 _ _ e, Paired.mono' (fun _ _ q => ht7 _ _ q) p⟩, nv⟩
          clear FJ5 hBad5 hBad s6 hl7 ht7 hg7 er0 er1 er2 jR ec5 ec4 FJ4 FJ3
          -- if bad == []: found[1][name] = min(..)
          have hp3 := TI3.sound.ge
          generalize hF7 : fUpN F3 (0, kd.name) (if 1 + mxI (rwN F3 gr 0) < F3 (0, kd.name) then 1 + mxI (rwN F3 gr 0) else F3 (0, kd.name)) = F7 at FJ7
          have hF7b : F7 = fUpN F3 (0, kd.name) (minI (F3 (0, kd.name)) (1 + mxI (rwN F3 gr 0))) := hF7.symm
          dsimp only
          refine seqGo (fun b' D' => ∀ (J : Hp) (F8 : Nat × Str → Int), Same H1 J → J R = some (.lst ([r0, r1, r2].map V.ref)) → J r0 = some (.lst ((rwN F3 gr 0).map V.int)) → J r2 = some (.lst ((rwN F3 gr 2).map V.int)) → J c = some (.lst ((ks.map Kd.name).map V.str)) → NdL J B rows (nmsOf ks) (gr.filter (rwS S)) → Fnd J D d0 d1 d2 (nmsOf ks) F8 → F8 = (if bdG S gr = true then F7 else fUpN F7 (1, kd.name) (minI (F3 (1, kd.name)) (1 + mxI (rwN F3 gr 1)))) →
            b' D' [some (.ref b), some (.ref sa), some (.ref d), some (.ref dk), some (.str kd.name), some (.ref D), x6, some (.int (i0 : Int)), some (.ref ga), some (.ref B), some (.ref R), x11, none, none, none, none] J) ?_ ?_
          rotate_left
          · intro rest
            refine ⟨_, rfl, sz (by show 0 ≤ 900; decide), fun z nz => ?_⟩
            have s8 := same_upd (o := .lst []) nz
            refine ((hBad7.same s8).eqd hO upd_same).1 ?_
            rw [eBad]
            refine ⟨_, rfl, ?_⟩
            cases hb : bdG S gr with
            | true =>
              refine ifF rfl ?_
              exact rest _ F7 (KaG.Same.tr SJ7 s8) (s8 _ _ jR7) (s8 _ _ er07) (s8 _ _ er27) (s8 _ _ ec7) (hBad7.same s8) (FJ7.same s8) (by rw [hb]; rfl)
            | false =>
              refine ifT rfl ?_
              have FJ8 := FJ7.same s8
              refine fd_rd (i := 1) (fun H Q q => ⟨_, rfl, q⟩) (fun H Q q => ⟨_, rfl, q⟩) FJ8 rfl (by decide) mn ?_
              refine mx_rd (i := 1) (fun H Q q => ⟨_, rfl, q⟩) (s8 _ _ jR7) rfl rfl (s8 _ _ er17) (by have := l3r 1; omega) fun J9 s9 => ?_
              refine ⟨_, _, rfl, rfl, _, _, rfl, ?_⟩
              have s89 := KaG.Same.tr s8 s9
              refine dput_k (i := 1) (fun H Q q => ⟨_, rfl, q⟩) (fun H Q q => ⟨_, rfl, q⟩) (FJ8.same s9) rfl (by decide) mn l5n fun J10 FJ10 hl10 ht10 hg10 => ?_
              obtain ⟨⟨qs, e, p⟩, nv⟩ := hBad7.same s89
              have e1F : F7 (1, kd.name) = F3 (1, kd.name) := by rw [hF7b]; unfold fUpN; rw [if_neg (by simp)]
              refine rest _ _ (hg10 H1 m0 m1 m2 (KaG.Same.tr SJ7 s89)) (hl10 _ _ (s89 _ _ jR7)) (hl10 _ _ (s89 _ _ er07)) (hl10 _ _ (s89 _ _ er27)) (hl10 _ _ (s89 _ _ ec7)) ⟨⟨qs, hl10 _ _ e, Paired.mono' (fun _ _ q => ht10 _ _ q) p⟩, nv⟩ FJ10 ?_
              rw [e1F, hb]
              rfl
          intro J F8 SJ8 jR8 er08 er28 ec8 hBad8 FJ8 hF8
          clear FJ7 hBad7 jR7 er07 er17 er27 ec7 SJ7 hF7
          -- olds
          have ekl : (rwN F3 gr 0).length = (kdsOf gr).length := by unfold rwN; rw [List.length_map]
          have l3k : (kdsOf gr).length ≤ 3 := by have := l3r 0; omega
          have lI : ((rwN F3 gr 0).map V.int).length = (kdsOf gr).length := by rw [List.length_map, ekl]
          refine ⟨_, rfl, R, _, 0, .ref r0, rfl, rfl, SqL.of jR8, rfl, r0, _, rfl, .inl (SqL.of er08), ?_⟩
          rw [lI]
          refine ⟨_, rfl, by omega, by omega, fun O hOn => go_range (fun j J2 => Same J J2 ∧ J2 O = some (.lst (((List.range j).map fun p => mxI ((oldW (kdsOf gr) p ((kdsOf gr).getD p "a")).map F3)).map V.int))) ?_ ?_ ?_⟩
          · exact ⟨same_upd hOn, upd_same⟩
          · rintro p J2 hp ⟨s9, jO⟩
            have pk : p < (kdsOf gr).length := by omega
            refine ⟨rfl, tYes_go (iteT ?_)⟩
            rw [Int.zero_add]
            refine ⟨_, rfl, R, _, 0, .ref r0, rfl, rfl, SqL.of (s9 _ _ jR8), rfl, _, rfl, _, rfl, r0, _, rfl, SqL.of (s9 _ _ er08), fun p1 np1 => ?_⟩
            rw [cut_to _ _ (by omega), Int.toNat_natCast, ← List.map_take]
            have s10 := same_upd (o := .lst (((rwN F3 gr 0).take p).map V.int)) np1
            have ep1 : upd J2 p1 (.lst (((rwN F3 gr 0).take p).map V.int)) p1 = some (.lst (((rwN F3 gr 0).take p).map V.int)) := upd_same
            have S10 := KaG.Same.tr s9 s10
            have jO1 := s10 _ _ jO
            generalize upd J2 p1 (.lst (((rwN F3 gr 0).take p).map V.int)) = J3' at s10 ep1 S10 jO1 ⊢
            have hm : (kdsOf gr)[p]? = some ((kdsOf gr)[p]'pk) := List.getElem?_eq_getElem pk
            have hgd : (kdsOf gr).getD p "a" = (kdsOf gr)[p]'pk := by rw [List.getD_eq_getElem?_getD, hm]; rfl
            generalize (kdsOf gr)[p]'pk = mp at hm hgd
            have e2p : ((rwN F3 gr 2).map V.int)[p]? = some (.int (F3 (2, mp))) := by
              unfold rwN
              rw [List.getElem?_map, List.getElem?_map, hm]; rfl
            refine ⟨_, rfl, R, _, 2, .ref r2, rfl, rfl, SqL.of (S10 _ _ jR8), rfl, _, rfl, r2, _, _, _, rfl, rfl, SqL.of (S10 _ _ er28), atI_nat e2p, ?_⟩
            refine ⟨sz (by show 1 ≤ 900; decide), fun p2 np2 => ?_⟩
            have s11 := same_upd (o := .lst [V.int (F3 (2, mp))]) np2
            have ep2 : upd J3' p2 (.lst [V.int (F3 (2, mp))]) p2 = some (.lst [V.int (F3 (2, mp))]) := upd_same
            have S11 := KaG.Same.tr S10 s11
            have jO2 := s11 _ _ jO1
            have ep11 := s11 _ _ ep1
            generalize upd J3' p2 (.lst [V.int (F3 (2, mp))]) = J4' at s11 ep2 S11 jO2 ep11 ⊢
            refine ⟨p1, p2, _, _, rfl, rfl, ep11, ep2, sz (by rw [List.length_map, List.length_take, List.length_singleton]; omega), fun p3 np3 => ?_⟩
            have s12 := same_upd (o := .lst (((rwN F3 gr 0).take p).map V.int ++ [V.int (F3 (2, mp))])) np3
            have ep3 : upd J4' p3 (.lst (((rwN F3 gr 0).take p).map V.int ++ [V.int (F3 (2, mp))])) p3 = some (.lst (((rwN F3 gr 0).take p).map V.int ++ [V.int (F3 (2, mp))])) := upd_same
            have S12 := KaG.Same.tr S11 s12
            have jO3 := s12 _ _ jO2
            generalize upd J4' p3 (.lst (((rwN F3 gr 0).take p).map V.int ++ [V.int (F3 (2, mp))])) = J5' at s12 ep3 S12 jO3 ⊢
            refine ⟨_, rfl, R, _, 0, .ref r0, rfl, rfl, SqL.of (S12 _ _ jR8), rfl, _, rfl, _, _, rfl, rfl, _, rfl, r0, _, rfl, SqL.of (S12 _ _ er08), fun p4 np4 => ?_⟩
            rw [show ((p : Int) + 1) = ((p + 1 : Nat) : Int) from rfl, cut_drop, ← List.map_drop]
            have s13 := same_upd (o := .lst (((rwN F3 gr 0).drop (p + 1)).map V.int)) np4
            have ep4 : upd J5' p4 (.lst (((rwN F3 gr 0).drop (p + 1)).map V.int)) p4 = some (.lst (((rwN F3 gr 0).drop (p + 1)).map V.int)) := upd_same
            have S13 := KaG.Same.tr S12 s13
            have jO4 := s13 _ _ jO3
            have ep33 := s13 _ _ ep3
            generalize upd J5' p4 (.lst (((rwN F3 gr 0).drop (p + 1)).map V.int)) = J6' at s13 ep4 S13 jO4 ep33 ⊢
            refine ⟨p3, p4, _, _, rfl, rfl, ep33, ep4, sz (by rw [List.length_append, List.length_map, List.length_map, List.length_take, List.length_drop, List.length_singleton]; omega), fun p5 np5 => ?_⟩
            have eW : ((rwN F3 gr 0).take p).map V.int ++ [V.int (F3 (2, mp))] ++ ((rwN F3 gr 0).drop (p + 1)).map V.int = ((oldW (kdsOf gr) p mp).map F3).map V.int := by
              unfold oldW
              rw [List.map_append, List.map_cons, zs_map, zs_map, List.map_append, List.map_cons, List.append_assoc, List.singleton_append]
              unfold rwN
              rw [← List.map_take, ← List.map_drop]
            rw [eW]
            have s14 := same_upd (o := .lst (((oldW (kdsOf gr) p mp).map F3).map V.int)) np5
            have S14 := KaG.Same.tr S13 s14
            have jO5 := s14 _ _ jO4
            refine ⟨p5, (oldW (kdsOf gr) p mp).map F3, rfl, SqL.of upd_same, by unfold oldW; simp; omega, fun mv hmv hle => ?_⟩
            rw [mxI_pos (fun x mx => by obtain ⟨y, _, rfl⟩ := List.mem_map.mp mx; exact hp3 y) hmv hle]
            refine ⟨_, jO5, small1000 (by rw [List.length_map, List.length_map, List.length_range]; omega), fun b u e => by rw [upd_ne (ne_of_none e hOn)]; exact S14 b u e, ?_⟩
            rw [upd_same, List.range_succ, List.map_append, List.map_append, List.map_singleton, List.map_singleton, hgd]
          rintro J9 ⟨s9, jO⟩
          rw [show (((kdsOf gr).length : Int)).toNat = (kdsOf gr).length from Int.toNat_natCast _] at jO
          have SJ9 := KaG.Same.tr SJ8 s9
          refine ⟨_, rfl, ?_⟩
          refine mx_rd (i := 0) (fun H Q q => ⟨_, rfl, q⟩) (s9 _ _ jR8) rfl rfl (s9 _ _ er08) (by have := l3r 0; omega) fun Ja sa' => ?_
          have s9a := KaG.Same.tr s9 sa'
          have jOa := sa' _ _ jO
          refine ⟨sz (by show 1 ≤ 900; decide), fun p1 np1 => ?_⟩
          have sb := same_upd (o := .lst [V.int (mxI (rwN F3 gr 0))]) np1
          have ep1 : upd Ja p1 (.lst [V.int (mxI (rwN F3 gr 0))]) p1 = some (.lst [V.int (mxI (rwN F3 gr 0))]) := upd_same
          have s9b := KaG.Same.tr s9a sb
          have jOb := sb _ _ jOa
          generalize upd Ja p1 (.lst [V.int (mxI (rwN F3 gr 0))]) = Jb at sb ep1 s9b jOb ⊢
          refine ⟨_, rfl, sz (by show 0 ≤ 900; decide), fun z nz => ?_⟩
          have sc' := same_upd (o := .lst []) nz
          have s9c := KaG.Same.tr s9b sc'
          refine ((hBad8.same s9c).eqd hO upd_same).2 ?_
          have jOc := sc' _ _ jOb
          have ep1c := sc' _ _ ep1
          generalize upd Jb z (.lst []) = Jc at sc' s9c jOc ep1c ⊢
          rw [eBad, Bool.not_not]
          refine .inr ⟨_, rfl, ?_⟩
          refine ⟨p1, (if bdG S gr = true then 1 else 0), _, rfl, rfl, ep1c, by split <;> decide, by split <;> decide, by rw [List.length_singleton]; refine sz ?_; split <;> decide, fun p2 np2 => ?_⟩
          have eT : ((List.replicate (if bdG S gr = true then (1 : Int) else 0).toNat [V.int (mxI (rwN F3 gr 0))]).flatten) = ((if bdG S gr = true then [mxI (rwN F3 gr 0)] else []).map V.int) := by cases bdG S gr <;> rfl
          rw [eT]
          have sd := same_upd (o := .lst ((if bdG S gr = true then [mxI (rwN F3 gr 0)] else []).map V.int)) np2
          have ep2 : upd Jc p2 (.lst ((if bdG S gr = true then [mxI (rwN F3 gr 0)] else []).map V.int)) p2 = some (.lst ((if bdG S gr = true then [mxI (rwN F3 gr 0)] else []).map V.int)) := upd_same
          have s9d := KaG.Same.tr s9c sd
          have jOd := sd _ _ jOc
          generalize upd Jc p2 (.lst ((if bdG S gr = true then [mxI (rwN F3 gr 0)] else []).map V.int)) = Jd at sd ep2 s9d jOd ⊢
          have lone : (if bdG S gr = true then [mxI (rwN F3 gr 0)] else []).length ≤ 1 := by split <;> simp
          refine ⟨O, p2, _, _, rfl, rfl, jOd, ep2, sz (by rw [List.length_map, List.length_map, List.length_map, List.length_range]; omega), fun p3 np3 => ?_⟩
          have eO : ((List.range (kdsOf gr).length).map fun p => mxI ((oldW (kdsOf gr) p ((kdsOf gr).getD p "a")).map F3)).map V.int ++ (if bdG S gr = true then [mxI (rwN F3 gr 0)] else []).map V.int = (oldsN S F3 gr).map V.int := by unfold oldsN; rw [List.map_append]
          rw [eO]
          have se := same_upd (o := .lst ((oldsN S F3 gr).map V.int)) np3
          have ep3 : upd Jd p3 (.lst ((oldsN S F3 gr).map V.int)) p3 = some (.lst ((oldsN S F3 gr).map V.int)) := upd_same
          have s9e := KaG.Same.tr s9d se
          generalize upd Jd p3 (.lst ((oldsN S F3 gr).map V.int)) = Je at se ep3 s9e ⊢
          have lol : (oldsN S F3 gr).length ≤ 4 := by unfold oldsN; rw [List.length_append, List.length_map, List.length_range]; omega
          have FJe := FJ8.same s9e
          have e2F : F8 (2, kd.name) = F3 (2, kd.name) := by
            rw [hF8, hF7b]
            unfold fUpN
            cases bdG S gr <;> simp
          -- found[2][name] = min(..)
          refine fd_rd (i := 2) (fun H Q q => ⟨_, rfl, q⟩) (fun H Q q => ⟨_, rfl, q⟩) FJe rfl (by decide) mn ?_
          refine ⟨sz (by show 1 ≤ 900; decide), fun p4 np4 => ?_⟩
          have sf := same_upd (o := .lst [V.int (F8 (2, kd.name))]) np4
          have ep4 : upd Je p4 (.lst [V.int (F8 (2, kd.name))]) p4 = some (.lst [V.int (F8 (2, kd.name))]) := upd_same
          have s9f := KaG.Same.tr s9e sf
          have ep3f := sf _ _ ep3
          generalize upd Je p4 (.lst [V.int (F8 (2, kd.name))]) = Jf at sf ep4 s9f ep3f ⊢
          refine ⟨_, rfl, p3, rfl, ⟨_, SqL.of ep3f⟩, fun M hM => go_list (K := K) (a := p3) (xs := (oldsN S F3 gr).map V.int) (fun p J2 => Same Jf J2 ∧ J2 M = some (.lst ((((oldsN S F3 gr).take p).map (1 + ·)).map V.int))) ?_ ?_ ?_ ?_⟩
          · exact ⟨same_upd hM, upd_same⟩
          · rintro p J2 _ ⟨s, _⟩
            exact SqL.of (s _ _ ep3f)
          · rintro p x J2 hx ⟨s, jM⟩
            rw [List.getElem?_map] at hx
            obtain ⟨v, hv, rfl⟩ := Option.map_eq_some_iff.mp hx
            refine ⟨rfl, tYes_go (iteT ?_)⟩
            refine ⟨_, rfl, _, _, rfl, rfl, ?_⟩
            refine ⟨_, jM, small1000 (by rw [List.length_map, List.length_map, List.length_take]; omega), fun b u e => by rw [upd_ne (ne_of_none e hM)]; exact s b u e, ?_⟩
            rw [upd_same, List.take_add_one, hv, Option.toList_some, List.map_append, List.map_append]
            rfl
          rintro Jg ⟨sg, jM⟩
          rw [List.length_map, List.take_length] at jM
          have s9g := KaG.Same.tr s9f sg
          refine ⟨p4, M, _, _, rfl, rfl, sg _ _ ep4, jM, sz (by rw [List.length_map, List.length_map, List.length_singleton]; omega), fun p5 np5 => ?_⟩
          have sh := same_upd (o := .lst ([V.int (F8 (2, kd.name))] ++ ((oldsN S F3 gr).map (1 + ·)).map V.int)) np5
          have s9h := KaG.Same.tr s9g sh
          refine ⟨p5, F8 (2, kd.name) :: (oldsN S F3 gr).map (1 + ·), rfl, SqL.of upd_same, by rw [List.length_cons]; omega, fun mv hmv hle => ?_⟩
          generalize upd Jg p5 (.lst ([V.int (F8 (2, kd.name))] ++ ((oldsN S F3 gr).map (1 + ·)).map V.int)) = Jh at sh s9h ⊢
          refine dput_k (i := 2) (fun H Q q => ⟨_, rfl, q⟩) (fun H Q q => ⟨_, rfl, q⟩) (FJ8.same s9h) rfl (by decide) mn l5n fun Ji FJi hli hti hgi => ?_
          rw [e2F] at hmv hle
          refine ⟨⟨_, _, _, _, _, rfl⟩, hgi H1 m0 m1 m2 (KaG.Same.tr SJ8 s9h), hli _ _ (s9h _ _ ec8), _, FJi, ?_⟩
          rw [tkq]
          exact TI3.step mlv (GStep.of hmv hle (by rw [hF8, hF7b]))
        · rintro σ' J3 ⟨⟨x7, x8, x9, x10, x11, rfl⟩, SJ3, ec3, F3, FJ3, TI3⟩
          have lix : (ixV (liveIx ks (bearOf ks) kd.name)).length = (lvg ks kd.name).length := by unfold ixV; rw [List.length_map, lvl]
          rw [lix, List.take_length] at TI3
          exact ⟨⟨_, _, _, _, _, _, _, rfl⟩, SJ3, ec3, F3, FJ3, by rw [tkn]; exact TI3.next⟩
      · rintro σ' J2 ⟨⟨x4, x6, x7, x8, x9, x10, x11, rfl⟩, SJ2, _, F2, FJ2, TI2⟩
        rw [List.length_map, show (ks.map Kd.name).length = (nmsOf ks).length from rfl, List.take_length] at TI2
        refine ⟨⟨_, _, _, _, _, _, _, rfl⟩, SJ2, F2, FJ2, TI2.sound, fun t' ht' => ?_⟩
        rcases Nat.lt_or_ge t t' with c1 | c1
        · obtain rfl : t' = t + 1 := by omega
          exact TI2.fin hO (hDn t (Nat.le_refl _))
        · exact fun x mx hx => Int.le_trans (TI2.le x) (hDn t' c1 x mx hx)
    · rintro σ' J ⟨⟨x4, x6, x7, x8, x9, x10, x11, rfl⟩, SJ, F, FJ, hSd, hDn⟩
      have e3 : ((3 : Int) * (ks.length : Int)).toNat = 3 * ks.length := by omega
      rw [e3] at hDn
      refine ⟨_, rfl, k D d0 d1 d2 F J (KaG.Same.tr S1 SJ) FJ (LeastN.of (ndsL_nd hO) (wayL_cl hO) (by rw [ndsL_len]; omega) (T := 3 * ks.length) (by rw [ndsL_len]; exact Nat.le_refl _) hSd hDn) (same_non S1 d0 m0) (same_non S1 d1 m1) (same_non S1 d2 m2)⟩
end
end KaG
set_option maxRecDepth 100000
set_option maxHeartbeats 4000000
namespace KaG
open PySem PySem.Spec PyProof.Rows L2 KaC KaN LamX NdefX KaU RZ
/-- what a told tree is, with its number -/
structure TldT (ks : List Kd) (S : List Str) (n : Str) (o : Bool) (due : Int) (ot : Option Tr) : Prop where
  none : ot = none → due = 99
  some : ∀ t, ot = some t → WT (lvg ks) n t ∧ stT S (grAt ks) t = o ∧ due = (t.lv : Int) ∧ t.lv ≤ 10
section
variable {P : Program} {w : World} {K : PySem.W.Frag} {mg : Str → Option Value} {base : Heap}
abbrev sTdt : Stmt := top 52
abbrev nmTdt : List Str := ["rulebook", "struck", "live", "name", "told", "due", "is_old"]
theorem scTdt : FnScope nmTdt ["rulebook", "struck", "live", "name", "told", "due", "is_old"] (defScope sTdt) := ⟨rfl, rfl, rfl, by decide +kernel, rfl, by decide +kernel, by decide +kernel⟩
def spTdt : Sp := fun vs H Q _ => ∃ (b sa d : Addr) (v : V) (rows : List Str) (ks : List Kd) (S : List Str) (ls : List Addr) (n : Str) (due : Int) (o : Bool) (ot : Option Tr), vs = [.ref b, .ref sa, .ref d, .str n, v, .int due, .bl o] ∧ BookAt H b rows ks ∧ BookOk rows ks ∧ Sq2 H sa (S.map V.str) ∧ LiveR H d ks ls ∧ TrV H v ot ∧ TldT ks S n o due ot ∧
  ∀ H', Same H H' → Q (.bl true) H'
theorem ok_Tdt {f fS fL fV fA : Addr} {fd fdS fdL fdV fdA : FuncData} (F : Fun K "_law_is_told_tree" "_law_is_told_tree" sTdt f fd) (CS : GnG true P w K mg base "_law_is_sort_of_tree" 12 ["rulebook", "struck", "live", "name", "thing", "is_old"] spSot fS fdS) (CL : Ct P w K mg base "levels_of" 1 ["tree"] spLvo fL fdL) (CV : Ct P w K mg base "_law_levels" 10 ["tree"] (spLvT 10) fV fdV) (CA : GnG false P w K mg base "_law_alike" 1 ["found", "due"] (spAlikeE K) fA fdA) : FnG true P w K mg base CX0 13 f fd ["rulebook", "struck", "live", "name", "told", "due", "is_old"] spTdt := by
  refine fnG_of F scTdt (fun vs H Q E h => ?_) (fun cdv A outer s H vs Q E hr hc h => ?_)
  · obtain ⟨b, sa, d, v, rows, ks, S, ls, n, due, o, ot, rfl, _⟩ := h
    rfl
  · obtain ⟨b, sa, d, v, rows, ks, S, ls, n, due, o, ot, rfl, hA, hO, hS, hL, hv, hT, k⟩ := h
    have hR : Room 12 (A.deeper (envOfC "_law_is_told_tree" (defScope sTdt) s.heap.objs.size f cdv)) := hr.room (hc rfl)
    have hR1 := hR.mono (show 1 ≤ 12 by decide)
    have hR10 := hR.mono (show 10 ≤ 12 by decide)
    have gr1 : GR 1 (A.deeper (envOfC "_law_is_told_tree" (defScope sTdt) s.heap.objs.size f cdv)) := hr.low (by decide)
    refine ⟨_, L2.PSs.nox (pss_cons (ps_if (pt_cmpR (r := rEq) op_eq (pv 5) pe_int (nomark _)) (pss_one (ps_ret (pe_cmpR (r := rIsN) op_isN1 (pv 4) pe_non (nomark _)))) pss_nil)
      (pss_cons (ps_if (pt_not (pt_val (pe_callG CS.G hr hc (by rfl) CS.m CS.kp CS.b (pa_cons (pv 0) (pa_cons (pv 1) (pa_cons (pv 2) (pa_cons (pv 3) (pa_cons (pv 4) (pa_cons (pv 6) pa_nil))))))))) (pss_one (ps_ret pe_bl)) pss_nil)
      (pss_one (ps_ret (pe_callG CA.G gr1 (by intro z; cases z) (by rfl) CA.m CA.kp CA.b (pa_cons (pe_lst (pa_cons (pe_call CL.G hR1 (by rfl) CL.m CL.kp CL.b .nil pass0 (pa_cons (pv 4) pa_nil)) (pa_cons (pe_call CV.G hR10 (by rfl) CV.m CV.kp CV.b .nil pass0 (pa_cons (pv 4) pa_nil)) pa_nil))) (pa_cons (pe_lst (pa_cons (pv 5) (pa_cons (pv 5) pa_nil))) pa_nil))))))), ?_⟩
    have sz : ∀ {m : Nat}, m ≤ 900 → m ≤ sizeLine := fun h => Nat.le_of_lt (small1000 (by omega))
    refine ⟨_, rfl, rfl, _, rfl, ?_⟩
    rcases hv with ⟨e1, e2⟩ | ⟨t, a, e1, e2, e3⟩
    · have ed := hT.none e1
      subst e2 ed
      refine iteD (by rfl) ?_
      exact ⟨_, rfl, rfl, k H (fun _ _ e => e)⟩
    · obtain ⟨w1, w2, w3, w4⟩ := hT.some t e1
      subst e2 w3
      refine iteDF (by simp; omega) ?_
      refine ⟨_, rfl, _, rfl, _, rfl, _, rfl, _, rfl, _, rfl, b, sa, d, a, rows, ks, S, ls, n, t, o, rfl, hA, hO, hS, hL, e3, w1, w4, w2, fun H1 S1 => ?_⟩
      refine ⟨_, rfl, ifF rfl ?_⟩
      refine ⟨_, rfl, _, t, rows, ks, rfl, Rep.sm S1 e3, hO, ⟨n, w1⟩, w4, fun H2 S2 => ?_⟩
      refine ⟨_, rfl, _, t, rows, ks, rfl, Rep.sm (KaG.Same.tr S1 S2) e3, hO, ⟨n, w1⟩, w4, fun H3 S3 => ?_⟩
      refine ⟨sz (by show 2 ≤ 900; decide), fun p np => ?_⟩
      have s4 := same_upd (o := .lst [V.int (t.lv : Int), .int (t.lv : Int)]) np
      have ep : upd H3 p (.lst [V.int (t.lv : Int), .int (t.lv : Int)]) p = some (.lst [V.int (t.lv : Int), .int (t.lv : Int)]) := upd_same
      have S4 := KaG.Same.tr S1 (KaG.Same.tr S2 (KaG.Same.tr S3 s4))
      generalize upd H3 p (.lst [V.int (t.lv : Int), .int (t.lv : Int)]) = H4 at ep S4 ⊢
      refine ⟨_, rfl, _, rfl, sz (by show 2 ≤ 900; decide), fun q nq => ?_⟩
      have s5 := same_upd (o := .lst [V.int (t.lv : Int), .int (t.lv : Int)]) nq
      have gi : ∀ H : Hp, Gd H (.int (t.lv : Int)) (.int (t.lv : Int)) 0 20 := fun H => Gd.int (by omega) (by omega)
      have g1 := Gd.two (s5 _ _ ep) (gi _) (gi _)
      have g2 := Gd.two (H := upd H4 q (.lst [V.int (t.lv : Int), .int (t.lv : Int)])) (l := q) upd_same (gi _) (gi _)
      exact ⟨.ref p, .ref q, _, rfl, g1.rep, g2.rep, g1.lay, Nat.le_trans g1.dep (by decide), Nat.le_trans g1.len (sz (by decide)), k _ (KaG.Same.tr S4 s5)⟩
end
end KaG
set_option maxRecDepth 100000
set_option maxHeartbeats 4000000
namespace KaG
open PySem PySem.Spec PyProof.Rows L2 KaC KaN LamX NdefX KaU RZ
mutual
theorem eqv_tr : ∀ (t u : Tr), PyData.eqv t.dt u.dt = true → t = u
  | .nd n i ps, .nd m j qs, h => by
    rw [Tr.dt, Tr.dt] at h
    simp only [PyData.eqv, PyData.eqvAll, Bool.and_true, Bool.and_eq_true, decide_eq_true_eq, beq_iff_eq] at h
    obtain ⟨h1, h2, h3⟩ := h
    subst h1
    obtain rfl : i = j := Int.ofNat.inj h2
    rw [eqv_trl ps qs h3]
theorem eqv_trl : ∀ (ps qs : TrL), PyData.eqvAll ps.dt qs.dt = true → ps = qs
  | .nil, .nil, _ => rfl
  | .nil, .row _, h => by rw [TrL.dt, TrL.dt] at h; simp [PyData.eqvAll] at h
  | .nil, .kid _ _, h => by rw [TrL.dt, TrL.dt] at h; simp [PyData.eqvAll] at h
  | .row _, .nil, h => by rw [TrL.dt, TrL.dt] at h; simp [PyData.eqvAll] at h
  | .kid _ _, .nil, h => by rw [TrL.dt, TrL.dt] at h; simp [PyData.eqvAll] at h
  | .row r, .row q, h => by
    rw [TrL.dt, TrL.dt, PyData.eqvAll, Bool.and_eq_true] at h
    rw [eqv_trl r q h.2]
  | .row r, .kid (.nd n i ps) q, h => by
    rw [TrL.dt, TrL.dt, PyData.eqvAll, Bool.and_eq_true, Tr.dt] at h
    have := h.1
    simp [PyData.eqv] at this
  | .kid (.nd n i ps) r, .row q, h => by
    rw [TrL.dt, TrL.dt, PyData.eqvAll, Bool.and_eq_true, Tr.dt] at h
    have := h.1
    simp [PyData.eqv] at this
  | .kid t r, .kid u q, h => by
    rw [TrL.dt, TrL.dt, PyData.eqvAll, Bool.and_eq_true] at h
    rw [eqv_tr t u h.1, eqv_trl r q h.2]
end
mutual
theorem tr_data {rows : List Str} {ks : List Kd} (hO : BookOk rows ks) : ∀ {n : Str} (t : Tr), WT (lvg ks) n t → t.dt.canLay0 = true ∧ t.dt.depth ≤ 2 * t.lv ∧ (txt t.dt).length ≤ 100 * t.sz
  | n, .nd _ i ps, h => by
    cases h with
    | nd m h =>
      rename_i g
      have l3 := (lvg_ok hO m).len
      have hi := (lvg_mem.mp m).1
      have mn : n ∈ nmsOf ks := gs_nm (live_g hi).1
      have i4 : i ≤ 60 := by
        obtain ⟨gr, hgr, _⟩ := ats_mem.mp hi
        have h1 := (List.getElem?_eq_some_iff.mp hgr).1
        obtain ⟨kd, mk, e⟩ := List.mem_map.mp mn
        rw [← e, gsOf_eq hO.nm.nd mk] at h1
        have := (hO.num kd mk).2.2.2.2
        omega
      obtain ⟨a1, a2, a3⟩ := trl_data hO ps h
      have b1 := Gd.nm (H := fun _ => none) (hO.nm.of n mn)
      have b2 := Gd.int (H := fun _ => none) (i := (i : Int)) (by omega) (by omega)
      rw [Tr.dt, Tr.lv, Tr.sz]
      refine ⟨?_, ?_, ?_⟩
      · rw [PyData.canLay0, PyData.canLayAll0, b1.lay, PyData.canLayAll0, b2.lay, PyData.canLayAll0, PyData.canLay0, a1]
        simp [PyData.canLayAll0]
      · rw [PyData.depth, PyData.depthAll, PyData.depthAll, PyData.depthAll, PyData.depthAll, PyData.depth]
        have c1 := b1.dep
        have c2 := b2.dep
        omega
      · rw [txt, txtA, txtA, txtA, txtA]
        have c0 := tupleText_le [txt (.str n), txt (.int (i : Int)), txt (.tuple ps.dt)]
        have c1 := b1.len
        have c2 := b2.len
        have c3 : (txt (.tuple ps.dt)).length ≤ piled (txtA ps.dt) + 3 := by rw [txt]; exact tupleText_le _
        rw [piled_cons, piled_cons, piled_cons, piled_nil] at c0
        omega
theorem trl_data {rows : List Str} {ks : List Kd} (hO : BookOk rows ks) : ∀ {g : Gr} (ps : TrL), WTL (lvg ks) g ps → PyData.canLayAll0 ps.dt = true ∧ PyData.depthAll ps.dt ≤ 2 * ps.lv ∧ piled (txtA ps.dt) ≤ 100 * ps.sz + 6 * g.length
  | _, .nil, h => by
    rw [TrL.dt, txtA, piled_nil]
    exact ⟨by simp [PyData.canLayAll0], by simp [PyData.depthAll], Nat.zero_le _⟩
  | _, .row r, h => by
    cases h with
    | row e h =>
      obtain ⟨a1, a2, a3⟩ := trl_data hO r h
      have e4 : (txt PyData.none).length = 4 := by decide +kernel
      have e0 : (PyData.none).depth = 0 := by simp [PyData.depth]
      rw [TrL.dt, TrL.lv, TrL.sz, txtA, piled_cons, PyData.canLayAll0, PyData.depthAll, a1, e4, e0, List.length_cons]
      exact ⟨by simp [PyData.canLay0], by omega, by omega⟩
  | _, .kid t r, h => by
    cases h with
    | kid e ht h =>
      obtain ⟨a1, a2, a3⟩ := trl_data hO r h
      obtain ⟨b1, b2, b3⟩ := tr_data hO t ht
      rw [TrL.dt, TrL.lv, TrL.sz, txtA, piled_cons, PyData.canLayAll0, PyData.depthAll, a1, b1, List.length_cons]
      exact ⟨rfl, by omega, by omega⟩
end
end KaG
set_option maxRecDepth 100000
set_option maxHeartbeats 8000000
namespace KaG
open PySem PySem.Spec PyProof.Rows L2 KaC KaN LamX NdefX KaU RZ
section
variable {ks : List Kd} {S rows : List Str}
theorem tld_of (hO : BookOk rows ks) {F : Nat × Str → Int} (hF : LeastN (wayL ks S) (ndsL ks) F) {n : Str} (mn : n ∈ nmsOf ks) {k s : Nat} (s3 : s < 3) {T : Tb} (hT : InvT (lvg ks) (wayP ks S) s (okS ks S s) k T) (sat : ∀ j, Rd (wayP ks S) j (s, n) = true → Rd (wayP ks S) k (s, n) = true) (k10 : k ≤ 10) {o : Bool} (hok : ∀ t, okS ks S s t → stT S (grAt ks) t = o) : TldT ks S n o (F (s, n)) (tget T n) := by
  have h := told_at hO hF mn s3 hT sat
  refine ⟨h.none, fun t e => ?_⟩
  obtain ⟨h1, h2, h3, h4⟩ := h.some t e
  have h5 := (hT.get e).2.2.1
  exact ⟨h1, hok t h2, h3, by omega⟩
theorem tld1 (hO : BookOk rows ks) {F : Nat × Str → Int} (hF : LeastN (wayL ks S) (ndsL ks) F) {n : Str} (mn : n ∈ nmsOf ks) : TldT ks S n false (F (1, n)) (tget (tabC ks S ks.length) n) := by
  refine tld_of hO hF mn (by decide) (inv_tabs hO S ks.length 1) (fun j h => sat1 hO mn h) (by have := hO.k5; omega) fun t h => ?_
  unfold stT
  exact List.any_eq_false.mpr fun r m z => h r m (of_decide_eq_true z)
theorem tld2 (hO : BookOk rows ks) {F : Nat × Str → Int} (hF : LeastN (wayL ks S) (ndsL ks) F) {n : Str} (mn : n ∈ nmsOf ks) : TldT ks S n true (F (2, n)) (tget (tabU ks S (2 * ks.length)) n) := by
  refine tld_of hO hF mn (by decide) (inv_tabs hO S (2 * ks.length) 2) (fun j h => sat2 hO mn h) (by have := hO.k5; omega) fun t h => ?_
  obtain ⟨r, m, z⟩ := h
  unfold stT
  exact List.any_eq_true.mpr ⟨r, m, decide_eq_true z⟩
def otD : Option Tr → PyData
  | none => .none
  | some t => t.dt
theorem TrV.gd {H : Hp} {v : V} {ot : Option Tr} {n : Str} {o : Bool} {due : Int} (hO : BookOk rows ks) (h : TrV H v ot) (t : TldT ks S n o due ot) : Gd H v (otD ot) 20 3000000 := by
  rcases h with ⟨rfl, rfl⟩ | ⟨t', a, rfl, rfl, r⟩
  · exact ⟨.non, by simp [otD, PyData.canLay0], by simp [otD, PyData.depth], by show (txt PyData.none).length ≤ _; rw [show (txt PyData.none).length = 4 by decide +kernel]; decide⟩
  · obtain ⟨w1, w2, w3, w4⟩ := t.some t' rfl
    obtain ⟨a1, a2, a3⟩ := tr_data hO t' w1
    have b := sz_wt hO t' w1
    have l3 : 3 ^ t'.lv ≤ 3 ^ 10 := Nat.pow_le_pow_right (by decide) w4
    have e10 : 3 ^ 10 = 59049 := by decide
    refine ⟨r, a1, ?_, ?_⟩
    · show t'.dt.depth ≤ 20
      omega
    · show (txt t'.dt).length ≤ 3000000
      omega
theorem TrV.ts {H H' : Hp} {v : V} {ot : Option Tr} (h : TrV H v ot) (s : TSame H H') : TrV H' v ot := by
  rcases h with e | ⟨t, a, e1, e2, e3⟩
  · exact .inl e
  · exact .inr ⟨t, a, e1, e2, tr_ts s _ e3⟩
theorem gd_shaped {H : Hp} {v : V} {d : PyData} {m n : Nat} (h : Gd H v d m n) (hm : m ≤ 64) : SeqAt.shaped d = true := by
  unfold SeqAt.shaped
  rw [h.lay, decide_eq_true (show d.depth ≤ 64 from Nat.le_trans h.dep hm)]
  rfl
theorem Gd.bl1 {H : Hp} (b : Bool) : Gd H (.bl b) (.bool b) 0 20 := ⟨.bl b, by simp [PyData.canLay0], by simp [PyData.depth], by cases b <;> decide +kernel⟩
theorem eqv_tld (hO : BookOk rows ks) {n : Str} {t : Tr} {o o' : Bool} {due due' : Int} {oo : Option Tr} (h : TldT ks S n o due (some t)) (h' : TldT ks S n o' due' oo) (e : o = o' → oo = some t) : PyData.eqv t.dt (otD oo) = decide (o = o') := by
  obtain ⟨w1, w2, _, _⟩ := h.some t rfl
  by_cases c : o = o'
  · rw [e c, decide_eq_true c]
    exact SeqAt.eqv_refl t.dt (tr_data hO t w1).1
  · rw [decide_eq_false c]
    cases oo with
    | none =>
      obtain ⟨a, i, ps⟩ := t
      show PyData.eqv (Tr.nd a i ps).dt .none = false
      rw [Tr.dt]
      simp [PyData.eqv]
    | some u =>
      obtain ⟨_, w2', _, _⟩ := h'.some u rfl
      refine Bool.eq_false_iff.mpr fun q => c ?_
      have := eqv_tr t u q
      rw [← w2, ← w2', this]
end
section
variable {P : Program} {w : World} {K : PySem.W.Frag} {mg : Str → Option Value} {base : Heap} {CW : Addr} {NW : Str}
abbrev sTrr : Stmt := top 53
abbrev nmTrr : List Str := ["rulebook", "struck", "live", "kept", "least", "name", "clean", "old", "tree", "told"]
theorem scTrr : FnScope nmTrr ["rulebook", "struck"] (defScope sTrr) := ⟨rfl, rfl, rfl, by decide +kernel, rfl, by decide +kernel, by decide +kernel⟩
def spTrr (T : List NTab) : Sp := fun vs H Q _ => ∃ (b sa : Addr) (rows : List Str) (ks : List Kd) (S : List Str), vs = [.ref b, .ref sa] ∧ BookAt H b rows ks ∧ BookOk rows ks ∧ H sa = some (.tup (S.map V.str)) ∧ S.length ≤ 5 ∧ (∀ n ∈ S, n ∈ nmAll) ∧ TabsN T H ∧ ∀ (H' : Hp), Ex T H H' → Q (.bl true) H'
theorem ok_Trr {T : List NTab} {f fV fL fC fO fT fI fJ fA : Addr} {fd fdV fdL fdC fdO fdT fdI fdJ fdA : FuncData} (F : Fun K "_law_are_trees_right" "_law_are_trees_right" sTrr f fd) (TC : TxtC mg) (W : WrK K CW NW) (CV : Ct P w K mg base "_law_live" 3 ["rulebook"] spLLive fV fdV) (CL : Ct P w K mg base "_law_least_levels" 2 ["rulebook", "struck", "live"] spLst fL fdL)
    (CC : Ct P w K mg base "clean_tree" 8 ["rulebook", "struck", "name"] (spClt T) fC fdC) (CO : Ct P w K mg base "old_tree" 8 ["rulebook", "struck", "name"] (spOlt T) fO fdO) (CT : GnG true P w K mg base "_law_is_told_tree" 13 ["rulebook", "struck", "live", "name", "told", "due", "is_old"] spTdt fT fdT)
    (CI : Ct P w K mg base "is_clean_tree" 8 ["rulebook", "struck", "name", "thing"] (spIct T) fI fdI) (CJ : Ct P w K mg base "is_old_tree" 8 ["rulebook", "struck", "name", "thing"] (spIot T) fJ fdJ) (CA : GnG false P w K mg base "_law_alike" 1 ["found", "due"] (spAlikeE K) fA fdA) : FnG true P w K mg base CX0 14 f fd ["rulebook", "struck"] (spTrr T) := by
  refine fnG_of F scTrr (fun vs H Q E h => ?_) (fun cdv A outer s H vs Q E hr hc h => ?_)
  · obtain ⟨b, sa, rows, ks, S, rfl, _⟩ := h
    rfl
  · obtain ⟨b, sa, rows, ks, S, rfl, hA, hO, hS, lS, nS, hT, k⟩ := h
    have hR : Room 13 (A.deeper (envOfC "_law_are_trees_right" (defScope sTrr) s.heap.objs.size f cdv)) := hr.room (hc rfl)
    have hR2 := hR.mono (show 2 ≤ 13 by decide)
    have hR3 := hR.mono (show 3 ≤ 13 by decide)
    have hR8 := hR.mono (show 8 ≤ 13 by decide)
    have gr1 : GR 1 (A.deeper (envOfC "_law_are_trees_right" (defScope sTrr) s.heap.objs.size f cdv)) := hr.low (by decide)
    have u1 : (A.deeper (envOfC "_law_are_trees_right" (defScope sTrr) s.heap.objs.size f cdv)).units + 1 < cLine := by have := hr.un; omega
    have u60 : (A.deeper (envOfC "_law_are_trees_right" (defScope sTrr) s.heap.objs.size f cdv)).units + 60 < cLine := by have := hr.un; omega
    have u64 : (A.deeper (envOfC "_law_are_trees_right" (defScope sTrr) s.heap.objs.size f cdv)).units + 64 < cLine := by have := hr.un; omega
    refine ⟨_, L2.PSs.nox (pss_cons (ps_par (i := 2) (j := 3) rfl scTrr.nd rfl rfl (by decide) rfl rfl (pa_cons (pe_call CV.G hR3 (by rfl) CV.m CV.kp CV.b .nil pass0 (pa_cons (pv 0) pa_nil)) (pa_cons (pe_callB (call_reprS (CW := CW) (NW := NW) (by exact W) hr.gd u60) (by rfl) TC.b.repr (by decide +kernel) (pa_cons (pe_lst (pa_cons (pv 0) (pa_cons (pv 1) pa_nil))) pa_nil)) pa_nil)) (by rfl))
      (pss_cons (ps_set (i := 4) scTrr.nd rfl (Or.inl rfl) (pe_call CL.G hR2 (by rfl) CL.m CL.kp CL.b .nil pass0 (pa_cons (pv 0) (pa_cons (pv 1) (pa_cons (pv 2) pa_nil)))))
      (pss_cons (ps_for PassesOwn.never rfl (pi_keysN (pv 2)) (pg_name (i := 5) scTrr.nd rfl (Or.inl rfl))
        (pss_cons (ps_par (i := 6) (j := 7) rfl scTrr.nd rfl rfl (by decide) rfl rfl (pa_cons (pe_call CC.G hR8 (by rfl) CC.m CC.kp CC.b .nil pass0 (pa_cons (pv 0) (pa_cons (pv 1) (pa_cons (pv 5) pa_nil)))) (pa_cons (pe_call CO.G hR8 (by rfl) CO.m CO.kp CO.b .nil pass0 (pa_cons (pv 0) (pa_cons (pv 1) (pa_cons (pv 5) pa_nil)))) pa_nil)) (by rfl))
        (pss_cons (ps_if (pt_not (pt_val (pe_callG CT.G hr hc (by rfl) CT.m CT.kp CT.b (pa_cons (pv 0) (pa_cons (pv 1) (pa_cons (pv 2) (pa_cons (pv 5) (pa_cons (pv 6) (pa_cons (pe_dget u1 (pe_ix (r := rIxL K) ix_list (pv 4) pe_int (fun _ _ => rfl)) (pv 5) (fun _ _ => rfl)) (pa_cons pe_bl pa_nil)))))))))) (pss_one (ps_ret pe_bl)) pss_nil)
        (pss_cons (ps_if (pt_not (pt_val (pe_callG CT.G hr hc (by rfl) CT.m CT.kp CT.b (pa_cons (pv 0) (pa_cons (pv 1) (pa_cons (pv 2) (pa_cons (pv 5) (pa_cons (pv 7) (pa_cons (pe_dget u1 (pe_ix (r := rIxL K) ix_list (pv 4) pe_int (fun _ _ => rfl)) (pv 5) (fun _ _ => rfl)) (pa_cons pe_bl pa_nil)))))))))) (pss_one (ps_ret pe_bl)) pss_nil)
        (pss_cons (ps_for PassesOwn.never rfl (pi_tup (pe_tup (pa_cons (pv 6) (pa_cons (pv 7) pa_nil)))) (pg_name (i := 8) scTrr.nd rfl (Or.inl rfl))
          (pss_one (ps_if (pt_cmpR (r := rNotN) op_notN1 (pv 8) pe_non (nomark _))
            (pss_cons (ps_set (i := 9) scTrr.nd rfl (Or.inl rfl) (pe_lst (pa_cons (pe_call CI.G hR8 (by rfl) CI.m CI.kp CI.b .nil pass0 (pa_cons (pv 0) (pa_cons (pv 1) (pa_cons (pv 5) (pa_cons (pv 8) pa_nil))))) (pa_cons (pe_call CJ.G hR8 (by rfl) CJ.m CJ.kp CJ.b .nil pass0 (pa_cons (pv 0) (pa_cons (pv 1) (pa_cons (pv 5) (pa_cons (pv 8) pa_nil))))) pa_nil))))
            (pss_one (ps_if (pt_not (pt_val (pe_callG CA.G gr1 (by intro z; cases z) (by rfl) CA.m CA.kp CA.b (pa_cons (pv 9) (pa_cons (pe_lst (pa_cons (pe_cmpR (op_eqD u64) (pv 8) (pv 6) (nomark _)) (pa_cons (pe_cmpR (op_eqD u64) (pv 8) (pv 7) (nomark _)) pa_nil))) pa_nil))))) (pss_one (ps_ret pe_bl)) pss_nil)))
            pss_nil)))
        (pss_one (ps_if (pt_not (pt_val (pe_callG CA.G gr1 (by intro z; cases z) (by rfl) CA.m CA.kp CA.b (pa_cons (pe_lst (pa_cons (pe_call CC.G hR8 (by rfl) CC.m CC.kp CC.b .nil pass0 (pa_cons (pv 0) (pa_cons (pv 1) (pa_cons (pv 5) pa_nil)))) (pa_cons (pe_call CO.G hR8 (by rfl) CO.m CO.kp CO.b .nil pass0 (pa_cons (pv 0) (pa_cons (pv 1) (pa_cons (pv 5) pa_nil)))) pa_nil))) (pa_cons (pe_lst (pa_cons (pv 6) (pa_cons (pv 7) pa_nil))) pa_nil))))) (pss_one (ps_ret pe_bl)) pss_nil)))))))
      (pss_one (ps_ret (pe_cmpR op_eq (pe_callB (call_reprS (CW := CW) (NW := NW) (by exact W) hr.gd u60) (by rfl) TC.b.repr (by decide +kernel) (pa_cons (pe_lst (pa_cons (pv 0) (pa_cons (pv 1) pa_nil))) pa_nil)) (pv 3) (nomark _))))))), ?_⟩
    have sz : ∀ {m : Nat}, m ≤ 900 → m ≤ sizeLine := fun h => Nat.le_of_lt (small1000 (by omega))
    have nd := hO.nm.nd
    -- the text of [rulebook, struck]
    have gl : ∀ {J : Hp} {p : Addr}, BookAt J b rows ks → J sa = some (.tup (S.map V.str)) → J p = some (.lst [.ref b, .ref sa]) → Gd J (.ref p) (.list [bkD rows ks, .tuple (S.map PyData.str)]) 7 120007 := fun hA hS ep => Gd.two ep (Gd.book hA hO) ((Gd.strsU hS nS lS).wk)
    generalize hkd : txt (.list [bkD rows ks, .tuple (S.map PyData.str)]) = kept
    refine ⟨_, rfl, b, rows, ks, rfl, hA, hO, fun d ls H1 S1 nd1 hLD => ?_⟩
    have hL1 : LiveH H1 d ks ls := hLD.h
    refine ⟨_, rfl, _, rfl, sz (by show 2 ≤ 900; decide), fun l0 nl0 => ?_⟩
    have s0 := same_upd (o := .lst [.ref b, .ref sa]) nl0
    have S2 := KaG.Same.tr S1 s0
    have g1 := gl (J := upd H1 l0 (.lst [.ref b, .ref sa])) (p := l0) (hA.ts (TSame.of S2)) (S2 _ _ hS) upd_same
    have hL2 := hL1.same s0
    generalize upd H1 l0 (.lst [.ref b, .ref sa]) = H2 at s0 S2 g1 hL2 ⊢
    obtain ⟨as5, hS5, _⟩ := Rep.sh (CW := CW) (NW := NW) g1.rep
    rw [hkd] at hS5
    have lk : kept.length ≤ sizeLine := by rw [← hkd]; exact Nat.le_trans g1.len (by rw [sizeLine_eq]; decide)
    refine ⟨_, as5, _, _, rfl, hS5, Nat.le_trans g1.dep (by decide), lk, _, _, rfl, ?_⟩
    clear g1 hS5
    have hA2 := hA.ts (TSame.of S2)
    have hS2 := S2 _ _ hS
    refine ⟨_, rfl, _, rfl, _, rfl, b, sa, d, rows, ks, S, ls, rfl, hA2, hO, .inr hS2, hL2, fun fa d0 d1 d2 Fn H3 S3 FN hF n0 n1 n2 => ?_⟩
    have S03 := KaG.Same.tr S2 S3
    have hd3 := S3 _ _ hL2.d
    refine ⟨_, rfl, d, kvsOf ks ls, rfl, hd3, fun od => ?_⟩
    have X0 : Ex T H (upd H3 d (.frz od (.dK (kvsOf ks ls)))) := ⟨fun b o e n => by rw [upd_ne (ne_of_none e nd1)]; exact S03 b o e, tabs_dk (hT.ext S03) hd3, fun b e => by
      by_cases z : b = d
      · rw [z]; exact nd1
      · rw [upd_ne z] at e
        exact same_non S03 b e⟩
    have hdL : upd H3 d (.frz od (.dK (kvsOf ks ls))) d = some (.frz od (.dK (kvsOf ks ls))) := upd_same
    have nedk : ∀ {z : Addr} {o : HO}, H3 z = some o → z ≠ d → upd H3 d (.frz od (.dK (kvsOf ks ls))) z = some o := fun e n => by rw [upd_ne n]; exact e
    have FL : Fnd (upd H3 d (.frz od (.dK (kvsOf ks ls)))) fa d0 d1 d2 (nmsOf ks) Fn := by
      have ne : ∀ {z : Addr}, H2 z = none → z ≠ d := fun e z => by rw [z, hL2.d] at e; cases e
      exact ⟨nedk FN.l (fun z => by have := FN.l; rw [z, hd3] at this; cases this), nedk FN.a (ne n0), nedk FN.b (ne n1), nedk FN.c (ne n2), FN.n01, FN.n02, FN.n12⟩
    have LL : Paired (fun (l : Addr) (k : Kd) => upd H3 d (.frz od (.dK (kvsOf ks ls))) l = some (.lst (ixV (liveIx ks (bearOf ks) k.name)))) ls ks := Paired.mono' (fun _ _ e => by rw [upd_ne (fun z => by rw [z, hd3] at e; cases e)]; exact e) (hL2.same S3).l
    generalize upd H3 d (.frz od (.dK (kvsOf ks ls))) = HL at X0 hdL FL LL ⊢
    clear nedk
    refine for_keysL (fun j σ' G => (∃ x5 x6 x7 x8 x9 : Option V, σ' = [some (.ref b), some (.ref sa), some (.ref d), some (.str kept), some (.ref fa), x5, x6, x7, x8, x9]) ∧ Ex T HL G) ?_ ?_ ?_ ?_
    · exact ⟨⟨_, _, _, _, _, rfl⟩, Ex.refl X0.tab⟩
    · rintro j σ' G _ ⟨_, X⟩
      exact X.ext d _ hdL fun _ z => nomatch z
    · rintro j kk vv σ' G hkv ⟨⟨x5, x6, x7, x8, x9, rfl⟩, X⟩
      obtain ⟨kd, mk, rfl⟩ := kvs_nm hkv
      have mn : kd.name ∈ nmsOf ks := List.mem_map_of_mem mk
      have T1 := tld1 hO hF mn
      have T2 := tld2 hO hF mn
      have LR : ∀ {J : Hp}, Ex T HL J → LiveR J d ks ls := fun x => ⟨.inr ⟨od, x.ext d _ hdL fun _ z => nomatch z⟩, Paired.mono' (fun _ _ e => x.lst e) LL⟩
      have Fx : ∀ {J : Hp}, Ex T HL J → Fnd J fa d0 d1 d2 (nmsOf ks) Fn := fun x => ⟨x.lst FL.l, x.dk FL.a, x.dk FL.b, x.dk FL.c, FL.n01, FL.n02, FL.n12⟩
      have Ax : ∀ {J : Hp}, Ex T HL J → BookAt J b rows ks := fun x => hA.ts (X0.tr x).ts
      have Sx : ∀ {J : Hp}, Ex T HL J → J sa = some (.tup (S.map V.str)) := fun x => (X0.tr x).ts _ _ hS
      dsimp only [gName]
      generalize ho1 : tget (tabC ks S ks.length) kd.name = o1 at T1
      generalize ho2 : tget (tabU ks S (2 * ks.length)) kd.name = o2 at T2
      refine ⟨_, rfl, _, rfl, _, rfl, b, sa, rows, ks, S, kd.name, rfl, Ax X, hO, .inr (Sx X), X.tab, fun v1 G1 Y1 r1 => ?_⟩
      have X1 := X.tr Y1
      refine ⟨_, rfl, _, rfl, _, rfl, b, sa, rows, ks, S, kd.name, rfl, Ax X1, hO, .inr (Sx X1), X1.tab, fun v2 G2 Y2 r2 => ⟨_, _, rfl, ?_⟩⟩
      have X2 := X1.tr Y2
      rw [ho1] at r1
      rw [ho2] at r2
      have r1 := r1.ts Y2.ts
      refine ⟨_, rfl, _, rfl, _, rfl, _, rfl, _, rfl, _, rfl, fa, _, 1, .ref d1, rfl, rfl, SqL.of (Fx X2).l, rfl, _, rfl, d1, _, rfl, .inl ⟨_, Sum.inr kd.name, .inl (Fx X2).b, rfl, (kvA_get mn).symm⟩, ?_⟩
      refine ⟨b, sa, d, v1, rows, ks, S, ls, kd.name, Fn (1, kd.name), false, o1, rfl, Ax X2, hO, .inr (Sx X2), LR X2, r1, T1, fun G3 S3' => ?_⟩
      refine ⟨_, rfl, ifF rfl ?_⟩
      have X3 := X2.trs S3'
      have r1 := r1.ts (TSame.of S3')
      have r2 := r2.ts (TSame.of S3')
      refine ⟨_, rfl, _, rfl, _, rfl, _, rfl, _, rfl, _, rfl, fa, _, 2, .ref d2, rfl, rfl, SqL.of (Fx X3).l, rfl, _, rfl, d2, _, rfl, .inl ⟨_, Sum.inr kd.name, .inl (Fx X3).c, rfl, (kvA_get mn).symm⟩, ?_⟩
      refine ⟨b, sa, d, v2, rows, ks, S, ls, kd.name, Fn (2, kd.name), true, o2, rfl, Ax X3, hO, .inr (Sx X3), LR X3, r2, T2, fun G4 S4' => ?_⟩
      refine ⟨_, rfl, ifF rfl ?_⟩
      have X4 := X3.trs S4'
      have r1 := r1.ts (TSame.of S4')
      have r2 := r2.ts (TSame.of S4')
      refine ⟨_, rfl, _, rfl, sz (by show 2 ≤ 900; decide), fun tp ntp => ?_⟩
      have s5 := same_upd (o := .tup [v1, v2]) ntp
      have etp : upd G4 tp (.tup [v1, v2]) tp = some (.tup [v1, v2]) := upd_same
      have X5 := X4.trs s5
      have r1 := r1.ts (TSame.of s5)
      have r2 := r2.ts (TSame.of s5)
      generalize upd G4 tp (.tup [v1, v2]) = G5 at etp X5 r1 r2 ⊢
      refine ⟨tp, rfl, ⟨_, SqT.of etp⟩, for_tup (K := K) (a := tp) (xs := [v1, v2]) (fun i σ' J => (∃ x8 x9 : Option V, σ' = [some (.ref b), some (.ref sa), some (.ref d), some (.str kept), some (.ref fa), some (.str kd.name), some v1, some v2, x8, x9]) ∧ Ex T HL J ∧ Ex T G5 J) ?_ ?_ ?_ ?_⟩
      · exact ⟨⟨_, _, rfl⟩, X5, Ex.refl X5.tab⟩
      · rintro i σ' J _ ⟨_, _, Y⟩
        exact SqT.of (Y.ts _ _ etp)
      · rintro i x σ' J hx ⟨⟨x8, x9, rfl⟩, XJ, YJ⟩
        have q1 := r1.ts YJ.ts
        have q2 := r2.ts YJ.ts
        obtain ⟨oo, o, due, qx, TX, c1, c2⟩ : ∃ (oo : Option Tr) (o : Bool) (due : Int), TrV J x oo ∧ TldT ks S kd.name o due oo ∧ (o = false → o1 = oo) ∧ (o = true → o2 = oo) := by
          match i, hx with
          | 0, hx => cases hx; exact ⟨o1, false, _, q1, T1, fun _ => rfl, fun z => by cases z⟩
          | 1, hx => cases hx; exact ⟨o2, true, _, q2, T2, fun z => by (cases z), fun _ => rfl⟩
          | i + 2, hx => cases hx
        rcases qx with ⟨rfl, rfl⟩ | ⟨t, a, rfl, rfl, rt⟩
        · refine ⟨_, rfl, rfl, _, rfl, ifF rfl ?_⟩
          exact ⟨⟨_, _, rfl⟩, XJ, YJ⟩
        · obtain ⟨w1, w2, w3, w4⟩ := TX.some t rfl
          refine ⟨_, rfl, rfl, _, rfl, ifT rfl ?_⟩
          refine ⟨_, rfl, _, rfl, _, rfl, _, rfl, b, sa, a, rows, ks, S, kd.name, t, rfl, Ax XJ, hO, .inr (Sx XJ), XJ.tab, rt, w1, w4, fun J1 Z1 => ?_⟩
          have XJ1 := XJ.tr Z1
          have rt1 := tr_ts Z1.ts _ rt
          refine ⟨_, rfl, _, rfl, _, rfl, _, rfl, b, sa, a, rows, ks, S, kd.name, t, rfl, Ax XJ1, hO, .inr (Sx XJ1), XJ1.tab, rt1, w1, w4, fun J2 Z2 => ?_⟩
          have XJ2 := XJ1.tr Z2
          have rt2 := tr_ts Z2.ts _ rt1
          rw [w2]
          refine ⟨sz (by show 2 ≤ 900; decide), fun p9 np9 => ?_⟩
          have s9 := same_upd (o := .lst [V.bl (!o), .bl o]) np9
          have e9 : upd J2 p9 (.lst [V.bl (!o), .bl o]) p9 = some (.lst [V.bl (!o), .bl o]) := upd_same
          have XJ3 := XJ2.trs s9
          have YJ3 := YJ.tr ((Z1.tr Z2).trs s9)
          have rt3 := tr_ts (TSame.of s9) _ rt2
          generalize upd J2 p9 (.lst [V.bl (!o), .bl o]) = J3 at e9 XJ3 YJ3 rt3 ⊢
          have q13 := r1.ts YJ3.ts
          have q23 := r2.ts YJ3.ts
          have gx := TrV.gd hO (.inr ⟨t, a, rfl, rfl, rt3⟩ : TrV J3 (.ref a) (some t)) TX
          have gy1 := TrV.gd hO q13 T1
          have gy2 := TrV.gd hO q23 T2
          have eq1 : PyData.eqv (otD (some t)) (otD o1) = !o := by
            refine (eqv_tld hO TX T1 fun z => c1 z).trans ?_
            cases o <;> rfl
          have eq2 : PyData.eqv (otD (some t)) (otD o2) = o := by
            refine (eqv_tld hO TX T2 fun z => c2 z).trans ?_
            cases o <;> rfl
          refine ⟨_, rfl, _, rfl, _, rfl, otD (some t), otD o1, Rep.dp gx.rep, Rep.dp gy1.rep, gd_shaped gx (by decide), gd_shaped gy1 (by decide), ?_⟩
          refine ⟨_, rfl, _, rfl, otD (some t), otD o2, Rep.dp gx.rep, Rep.dp gy2.rep, gd_shaped gx (by decide), gd_shaped gy2 (by decide), ?_⟩
          rw [eq1, eq2]
          refine ⟨sz (by show 2 ≤ 900; decide), fun p10 np10 => ?_⟩
          have s10 := same_upd (o := .lst [V.bl (!o), .bl o]) np10
          have e10 : upd J3 p10 (.lst [V.bl (!o), .bl o]) p10 = some (.lst [V.bl (!o), .bl o]) := upd_same
          have g1 := Gd.two (s10 _ _ e9) (Gd.bl1 (!o)) (Gd.bl1 o)
          have g2 := Gd.two e10 (Gd.bl1 (!o)) (Gd.bl1 o)
          refine ⟨.ref p9, .ref p10, _, rfl, g1.rep, g2.rep, g1.lay, Nat.le_trans g1.dep (by decide), Nat.le_trans g1.len (sz (by decide)), ?_⟩
          refine ⟨_, rfl, ifF rfl ?_⟩
          exact ⟨⟨_, _, rfl⟩, XJ3.trs s10, YJ3.trs s10⟩
      · rintro σ' J ⟨⟨x8, x9, rfl⟩, XJ, YJ⟩
        refine ⟨_, rfl, _, rfl, _, rfl, b, sa, rows, ks, S, kd.name, rfl, Ax XJ, hO, .inr (Sx XJ), XJ.tab, fun v3 J1 Z1 r3 => ?_⟩
        have XJ1 := XJ.tr Z1
        refine ⟨_, rfl, _, rfl, _, rfl, b, sa, rows, ks, S, kd.name, rfl, Ax XJ1, hO, .inr (Sx XJ1), XJ1.tab, fun v4 J2 Z2 r4 => ?_⟩
        have XJ2 := XJ1.tr Z2
        rw [ho1] at r3
        rw [ho2] at r4
        refine ⟨sz (by show 2 ≤ 900; decide), fun p1 np1 => ?_⟩
        have sa1 := same_upd (o := .lst [v3, v4]) np1
        have ea1 : upd J2 p1 (.lst [v3, v4]) p1 = some (.lst [v3, v4]) := upd_same
        have XJ3 := XJ2.trs sa1
        have Z123 := (Z1.tr Z2).trs sa1
        have r3 := r3.ts (Z2.trs sa1).ts
        have r4 := r4.ts (TSame.of sa1)
        generalize upd J2 p1 (.lst [v3, v4]) = J3 at ea1 XJ3 Z123 r3 r4 ⊢
        refine ⟨_, rfl, _, rfl, sz (by show 2 ≤ 900; decide), fun p2 np2 => ?_⟩
        have sb1 := same_upd (o := .lst [v1, v2]) np2
        have eb1 : upd J3 p2 (.lst [v1, v2]) p2 = some (.lst [v1, v2]) := upd_same
        have XJ4 := XJ3.trs sb1
        have Y4 := YJ.tr (Z123.trs sb1)
        have g1 := Gd.two (sb1 _ _ ea1) (TrV.gd hO (r3.ts (TSame.of sb1)) T1) (TrV.gd hO (r4.ts (TSame.of sb1)) T2)
        have g2 := Gd.two eb1 (TrV.gd hO (r1.ts Y4.ts) T1) (TrV.gd hO (r2.ts Y4.ts) T2)
        refine ⟨.ref p1, .ref p2, _, rfl, g1.rep, g2.rep, g1.lay, Nat.le_trans g1.dep (by decide), Nat.le_trans g1.len (by rw [sizeLine_eq]; decide), ?_⟩
        refine ⟨_, rfl, ifF rfl ?_⟩
        exact ⟨⟨_, _, _, _, _, rfl⟩, XJ4⟩
    · rintro σ' G ⟨⟨x5, x6, x7, x8, x9, rfl⟩, X⟩
      have XG := X0.tr X
      refine ⟨_, rfl, _, rfl, sz (by show 2 ≤ 900; decide), fun l1 nl1 => ?_⟩
      have s1 := same_upd (o := .lst [.ref b, .ref sa]) nl1
      have XG1 := XG.trs s1
      have g2 := gl (J := upd G l1 (.lst [.ref b, .ref sa])) (p := l1) (hA.ts XG1.ts) (XG1.ts _ _ hS) upd_same
      obtain ⟨as6, hS6, _⟩ := Rep.sh (CW := CW) (NW := NW) g2.rep
      rw [hkd] at hS6
      refine ⟨_, as6, _, _, rfl, hS6, Nat.le_trans g2.dep (by decide), lk, _, rfl, rfl, ?_⟩
      rw [decide_eq_true rfl]
      exact k _ XG1
end
end KaG
set_option maxRecDepth 100000
set_option maxHeartbeats 4000000
namespace KaG
open PySem PySem.Spec PyProof.Rows L2 LamX
abbrev tabO (ys : Array Value) : Obj := { cls := .none, data := .fields ys }
abbrev scrO (us : List Value) : Obj := { cls := .type "list", data := .seq us.toArray }
/-- nothing is told of the heap but the script (frozen) and the tables (empty) -/
structure Ks (H : Hp) (a : Addr) (ts : List Addr) : Prop where
  tb : ∀ t ∈ ts, H t = some (.tbl #[])
  el : ∀ b, H b = none ∨ b ∈ ts ∨ (b = a ∧ ∃ o xs, H b = some (.frz o (.lst xs)))
/-- .. and so it is told -/
def ks0 (a : Addr) (ts : List Addr) (f : Option HO) : Hp := fun b => if b ∈ ts then some (.tbl #[]) else if b = a then f else none
section
variable {P : Program} {w : World} {K : PySem.W.Frag} {mg mb : Str → Option Value} {k : Nat} {fa a : Addr} {fd : FuncData} {x : Str} {sp : Sp} {s₁ : Shared} {us : List Value} {ns : List Int} {H : Hp} {cs : List (Addr × Addr)}
theorem ks_none (ho : Ks H a (cs.map Prod.snd)) (hT : ∀ p ∈ cs, s₁.heap.get? p.2 = some (tabO #[])) (ha : s₁.heap.get? a = some (scrO us)) {b : Addr} {o : Obj} (e : s₁.heap.get? b = some o) (n1 : o ≠ tabO #[]) (n2 : o ≠ scrO us) : H b = none := by
  rcases ho.el b with z | z | ⟨z, _⟩
  · exact z
  · obtain ⟨p, hp, rfl⟩ := List.mem_map.mp z
    exact absurd (Option.some.inj (e.symm.trans (hT p hp))) n1
  · exact absurd (Option.some.inj (e.symm.trans (z ▸ ha))) n2
theorem ks_run (hr : GR k callerA) (KX : K.In s₁.heap) (hns : s₁.heap.Ns mainGlobals mg) (hb : s₁.heap.Ns builtinsNs mb) (hbb : ∀ x : Str, x ≠ "__name__" → mb x = bootBuiltins x) (hlim : s₁.heap.NoLimit) (hg : s₁.gens = #[])
    (hT : ∀ p ∈ cs, s₁.heap.get? p.2 = some (tabO #[])) (nT : ∀ p ∈ cs, K.lookup p.2 = none) (C : ∀ p ∈ cs, PySem.W.CodeHd s₁.heap p.1 p.2) (hbm : ∃ (m : Addr) (ob : Obj), mg "__builtins__" = some (.ref m) ∧ m ≠ builtinsNs ∧ s₁.heap.get? m = some ob ∧ ob.cls = .type "module" ∧ ob.dict = some builtinsNs ∧ ob.data = .plain)
    (ha : s₁.heap.get? a = some (scrO us)) (F : ∀ base : Heap, K.In base → base.Ns mainGlobals mg → (∀ p ∈ cs, TabB base mg p.1 p.2) → FnG true P w K mg base CX0 k fa fd [x] sp) (hbind : ∀ (s : Shared) (u : Value), BindsTo s fd ⟨[u], []⟩ [(x, u)])
    (hsp : sp [.ref a] H (fun v _ => v = .bl true) fun _ _ _ => False) (ho : Ks H a (cs.map Prod.snd)) (hok : HOk P w H s₁.heap) (hK : H a ≠ none → K.lookup a = none) :
    codeAny (model P w) callerA (.call (.ref fa) ⟨[.ref a], []⟩) (fun r s' => r = .ok (.ret (.bool true)) ∧ OldK s₁.heap s'.heap ∧ s'.os = s₁.os ∧ AllBare s'.gens) s₁ := by
  have isT : ∀ t ∈ cs.map Prod.snd, s₁.heap.get? t = some (tabO #[]) := fun t m => by
    obtain ⟨p, hp, rfl⟩ := List.mem_map.mp m
    exact hT p hp
  have see : ∀ {b : Addr} {o : Obj}, s₁.heap.get? b = some o → o.data ≠ .fields #[] → (∀ v n, o.data ≠ .seq v n) → (hidT s₁.heap H).get? b = some o := fun e n1 n2 =>
    hidT_get e (ks_none ho hT ha e (fun z => n1 (by rw [z])) fun z => n2 us.toArray 0 (by rw [z]))
  have dct : ∀ {b : Addr} {o : Obj} {es : Array DictEntry} {ep : Nat}, s₁.heap.get? b = some o → o.data = .dict es ep → (hidT s₁.heap H).get? b = some o := fun e d => see e (by rw [d]; intro z; cases z) (by rw [d]; intro v n z; cases z)
  have nsK : ∀ {b : Addr} {m : Str → Option Value}, s₁.heap.Ns b m → (hidT s₁.heap H).Ns b m := fun ⟨o, es, ep, e, d, r⟩ => ⟨o, es, ep, dct e d, d, r⟩
  have hKb : K.In (hidT s₁.heap H) := fun b o e => by
    refine hidT_get (KX b o e) ?_
    cases q : H b with
    | none => rfl
    | some u =>
      rcases ho.el b with z | z | ⟨z, _⟩
      · rw [q] at z; cases z
      · obtain ⟨p, hp, rfl⟩ := List.mem_map.mp z
        rw [nT p hp] at e; cases e
      · rw [z] at e q
        rw [hK (by rw [q]; simp)] at e; cases e
  have md : Mod K mg (hidT s₁.heap H) := ⟨hKb, nsK hns, ⟨mb, nsK hb, hbb⟩, let ⟨mc, h1, h2⟩ := hlim; ⟨mc, nsK h1, h2⟩⟩
  have TB : ∀ p ∈ cs, TabB (hidT s₁.heap H) mg p.1 p.2 := fun p hp => by
    refine ⟨?_, ?_, fun z => ?_⟩
    · obtain ⟨o, v, fl, tf, gs, tg, inF, tx, tt, e, r1, r2, r3⟩ := C p hp
      refine ⟨o, v, fl, tf, gs, tg, inF, tx, tt, see e (fun z => ?_) (fun w n z => ?_), r1, r2, r3⟩
      · rw [r2] at z
        cases z
        simp at r3
      · rw [r2] at z
        cases z
    · obtain ⟨m, ob, b1, b2, b3, b4, b5, b6⟩ := hbm
      refine ⟨m, ob, b1, b2, fun q => ?_, fun q => ?_, see b3 (by rw [b6]; intro z; cases z) (by rw [b6]; intro v n z; cases z), b4, b5, b6⟩
      · obtain ⟨o, es, ep, e, hd, _⟩ := hns
        rw [q, e] at b3
        cases b3
        rw [hd] at b6
        cases b6
      · rw [q, hT p hp] at b3
        cases b3
        cases b6
    · obtain ⟨o, es, ep, e, hd, _⟩ := hns
      rw [z, hT p hp] at e
      cases e
      cases hd
  have e0 : Env0 P w K mg (hidT s₁.heap H) callerA [] s₁ H := ⟨rfl, md, fun b o e => of_hidT e, Nat.le_of_eq (hidT_size _ _), trivial, fun b hb => absurd (show b ∈ ([] : List Addr) from hb) (by simp), hok, .of_eq hg⟩
  have R := (F _ hKb (nsK hns) TB).run callerA [] s₁ H ⟨[.ref a], []⟩ [.ref a] [.ref a] _ _ hr (fun _ => rfl) e0 (hbind s₁ (.ref a)) (.cons rfl .nil) hsp
  refine codeAny_mono R fun r s' h => ?_
  rcases r with er | fl
  · exact h.elim
  cases fl with
  | next => exact h.elim
  | brk => exact h.elim
  | cont => exact h.elim
  | ret u =>
    obtain ⟨v, H', os, bare, un, hok', r', q⟩ := h
    have q' : v = .bl true := q
    subst q'
    obtain rfl : u = Value.bool true := r'
    have old : ∀ b o, b ∉ cs.map Prod.snd → s₁.heap.get? b = some o → s'.heap.get? b = some o := fun b o nb e => by
      rcases ho.el b with z | z | ⟨_, ob, xs, z⟩
      · exact un.keep b o e z (by intro z; exact absurd (show b ∈ ([] : List Addr) from z) (by simp)) (by simp)
      · exact absurd z nb
      · have g1 := (hok b _ z).1
        rw [e] at g1
        cases g1
        exact (hok' b _ (un.frzs b _ _ z)).1
    have more : ∀ p ∈ cs, ∃ ys : Array Value, s'.heap.get? p.2 = some (tabO (#[] ++ ys)) := fun p hp => by
      obtain ⟨ys, z⟩ := un.tbls p.2 #[] (ho.tb p.2 (List.mem_map_of_mem hp))
      exact ⟨ys, hok' p.2 _ z⟩
    refine ⟨rfl, ⟨fun b o e => ?_, fun b o e => ?_⟩, os, bare⟩
    · by_cases m : b ∈ cs.map Prod.snd
      · obtain ⟨p, hp, rfl⟩ := List.mem_map.mp m
        obtain ⟨ys, z⟩ := more p hp
        have e' := (hT p hp).symm.trans e
        cases e'
        exact .inr (.inl ⟨((C p hp).tab (hT p hp)).isCodeTable, rfl, #[], ys, rfl, z⟩)
      · exact .inl (old b o m e)
    · by_cases m : b ∈ cs.map Prod.snd
      · obtain ⟨p, hp, rfl⟩ := List.mem_map.mp m
        exact ⟨_, (more p hp).choose_spec⟩
      · exact ⟨o, old b o m e⟩
theorem law_GT (hr : GR k callerA) (KX : K.In s₁.heap) (hns : s₁.heap.Ns mainGlobals mg) (hb : s₁.heap.Ns builtinsNs mb) (hbb : ∀ x : Str, x ≠ "__name__" → mb x = bootBuiltins x) (hlim : s₁.heap.NoLimit) (hg : s₁.gens = #[])
    (hT : ∀ p ∈ cs, s₁.heap.get? p.2 = some (tabO #[])) (nT : ∀ p ∈ cs, K.lookup p.2 = none) (C : ∀ p ∈ cs, PySem.W.CodeHd s₁.heap p.1 p.2) (hbm : ∃ (m : Addr) (ob : Obj), mg "__builtins__" = some (.ref m) ∧ m ≠ builtinsNs ∧ s₁.heap.get? m = some ob ∧ ob.cls = .type "module" ∧ ob.dict = some builtinsNs ∧ ob.data = .plain)
    (ha : s₁.heap.get? a = some (scrO us)) (hi : IntsAre us ns) (hl : ns.length ≤ sizeLine) (F : ∀ base : Heap, K.In base → base.Ns mainGlobals mg → (∀ p ∈ cs, TabB base mg p.1 p.2) → FnG true P w K mg base CX0 k fa fd [x] sp) (hbind : ∀ (s : Shared) (u : Value), BindsTo s fd ⟨[u], []⟩ [(x, u)])
    (hsp : ∀ H : Hp, (∀ p ∈ cs, H p.2 = some (.tbl #[])) → SqL K H a (ns.map V.int) → sp [.ref a] H (fun v _ => v = .bl true) fun _ _ _ => False) :
    codeAny (model P w) callerA (.call (.ref fa) ⟨[.ref a], []⟩) (fun r s' => r = .ok (.ret (.bool true)) ∧ OldK s₁.heap s'.heap ∧ s'.os = s₁.os ∧ AllBare s'.gens) s₁ := by
  have rv := vals_ints hi
  have isT : ∀ t ∈ cs.map Prod.snd, s₁.heap.get? t = some (tabO #[]) := fun t m => by
    obtain ⟨p, hp, rfl⟩ := List.mem_map.mp m
    exact hT p hp
  have aT : a ∉ cs.map Prod.snd := fun m => by
    have e := ha.symm.trans (isT a m)
    have d := congrArg Obj.data (Option.some.inj e)
    cases d
  have tb0 : ∀ f, ∀ t ∈ cs.map Prod.snd, ks0 a (cs.map Prod.snd) f t = some (.tbl #[]) := fun f t m => if_pos m
  have at0 : ∀ f, ks0 a (cs.map Prod.snd) f a = f := fun f => (if_neg aT).trans (if_pos rfl)
  have no0 : ∀ f b, b ∉ cs.map Prod.snd → b ≠ a → ks0 a (cs.map Prod.snd) f b = none := fun f b m n => (if_neg m).trans (if_neg n)
  have hok : ∀ f, (∀ u, f = some u → ObjOk P w (ks0 a (cs.map Prod.snd) f) s₁.heap a u) → HOk P w (ks0 a (cs.map Prod.snd) f) s₁.heap := fun f hf b u z => by
    by_cases m : b ∈ cs.map Prod.snd
    · rw [tb0 f b m] at z
      cases z
      exact isT b m
    · by_cases n : b = a
      · subst n
        rw [at0] at z
        exact hf u z
      · rw [no0 f b m n] at z
        cases z
  have go : ∀ f, (f = none ∨ ∃ o xs, f = some (.frz o (.lst xs))) → (∀ u, f = some u → ObjOk P w (ks0 a (cs.map Prod.snd) f) s₁.heap a u) → SqL K (ks0 a (cs.map Prod.snd) f) a (ns.map V.int) → (f ≠ none → K.lookup a = none) →
      codeAny (model P w) callerA (.call (.ref fa) ⟨[.ref a], []⟩) (fun r s' => r = .ok (.ret (.bool true)) ∧ OldK s₁.heap s'.heap ∧ s'.os = s₁.os ∧ AllBare s'.gens) s₁ := fun f hf ok sq hK => by
    refine ks_run hr KX hns hb hbb hlim hg hT nT C hbm ha F hbind (hsp _ (fun p hp => tb0 f p.2 (List.mem_map_of_mem hp)) sq) ⟨tb0 f, fun b => ?_⟩ (hok f ok) (by rw [at0]; exact hK)
    by_cases m : b ∈ cs.map Prod.snd
    · exact .inr (.inl m)
    · by_cases n : b = a
      · subst n
        rw [at0]
        rcases hf with rfl | ⟨o, xs, rfl⟩
        · exact .inl rfl
        · exact .inr (.inr ⟨rfl, o, xs, rfl⟩)
      · exact .inl (no0 f b m n)
  cases hk : K.lookup a with
  | some o =>
    have e := (KX a o hk).symm.trans ha
    cases e
    exact go none (.inl rfl) (fun u z => nomatch z) (.inr ⟨_, us.toArray, _, hk, rfl, rfl, rfl, by rw [List.size_toArray, hi.length]; exact hl, by simpa using rv⟩) fun z => absurd rfl z
  | none =>
    refine go (some (.frz (scrO us) (.lst (ns.map V.int)))) (.inr ⟨_, _, rfl⟩) (fun u z => ?_) (.inl (.inr ⟨scrO us, at0 _⟩)) fun _ => hk
    cases z
    exact ⟨ha, by rw [List.length_map]; exact hl, us, _, rv, ha⟩
/-- what is known of the law at the head's heap -/
def LawG (l : PySem.W.OpenLaw) (w : World) (K : PySem.W.Frag) (k n : Nat) (x : Str) (mg : Str → Option Value) (fa : Addr) (h : Heap) : Prop :=
  ∃ (fd : FuncData) (cs : List (Addr × Addr)) (sp : Sp), (∀ p ∈ cs, h.get? p.2 = some (tabO #[])) ∧ (∀ p ∈ cs, K.lookup p.2 = none) ∧ (∀ p ∈ cs, PySem.W.CodeHd h p.1 p.2) ∧ (∀ (s : Shared) (u : Value), BindsTo s fd ⟨[u], []⟩ [(x, u)]) ∧
    (∀ (H : Hp) (a : Addr) (ns : List Int), ns.length ≤ n → (∀ p ∈ cs, H p.2 = some (.tbl #[])) → SqL K H a (ns.map V.int) → sp [.ref a] H (fun v _ => v = .bl true) fun _ _ _ => False) ∧ ∀ base : Heap, K.In base → base.Ns mainGlobals mg → (∀ p ∈ cs, TabB base mg p.1 p.2) → FnG true l.prog w K mg base CX0 k fa fd [x] sp
theorem walk_GT {l : PySem.W.OpenLaw} {n k : Nat} {q : Program} {loose : List Str} {XP : (Str → Option Value) → Heap → Prop} {YP : World → Heap → Prop} {d : DefRec} {K : Params → PySem.W.Frag} {x : Str} (hn : l.most = some n) (hn2 : n ≤ sizeLine) (hdf : d.params.defaults = []) (hr : GR k callerA) (hY : ∀ (w : World) (h : Heap), YP w h → (K w.params).In h)
    (F : ∀ (w : World) (mg : Str → Option Value) (fa : Addr) (h : Heap), YP w h → (K w.params).In h → h.Ns mainGlobals mg → mg d.name = some (.ref fa) → LawG l w (K w.params) k n x mg fa h) : PySem.W.WalkO q loose XP YP l.row.toRowW d [] (fun f vs => PySem.call f vs) := by
  refine Att.attach_call hn hdf fun w s₀ s₁ mg mb fa o pm cd doc a vs ns G Y ho hd hcd hmg hobj hints hlen hg => ?_
  have KX := hY w _ Y
  obtain ⟨fd, cs, sp, hT, nT, C, hb, hsp, hF⟩ := F w mg fa _ Y KX G.T.g hmg
  exact law_GT hr KX G.T.g G.T.b G.T.builtins G.T.nolimit hg hT nT C G.T.bmain hobj hints (Nat.le_trans hlen hn2) hF hb fun H hH hS => hsp H a ns hlen hH hS
end
end KaG
set_option maxRecDepth 100000
set_option maxHeartbeats 4000000
namespace KaG
open PySem PySem.Spec PyProof.Rows L2 KaC KaN LamX NdefX KaU RZ
section
variable {P : Program} {w : World} {K : PySem.W.Frag} {mg : Str → Option Value} {base : Heap}
abbrev sLaw23 : Stmt := top 54
abbrev nmLaw23 : List Str := ["script", "bag", "asked", "turn", "rulebook", "struck"]
theorem scLaw23 : FnScope nmLaw23 ["script"] (defScope sLaw23) := ⟨rfl, rfl, rfl, by decide +kernel, rfl, by decide +kernel, by decide +kernel⟩
theorem ok_law23 {T : List NTab} {f fB fR fX fT : Addr} {fd fdB fdR fdX fdT : FuncData} (F : Fun K "law" "law" sLaw23 f fd) (TC : TxtC mg) (CB : Ct P w K mg base "_law_bag" 1 ["script"] (spBag K) fB fdB) (CR : Ct P w K mg base "_law_rulebook" 7 ["bag", "kinds"] spRbS fR fdR)
    (CX : Ct P w K mg base "_law_mixed" 2 ["bag", "things"] spMixed fX fdX)
    (CT : GnG true P w K mg base "_law_are_trees_right" 14 ["rulebook", "struck"] (spTrr T) fT fdT) : FnG true P w K mg base CX0 15 f fd ["script"] (spLaw T K) := by
  refine fnG_of F scLaw23 (fun vs H Q E h => ?_) (fun cdv A outer s H vs Q E hr hc h => ?_)
  · obtain ⟨a, ns, rfl, _⟩ := h
    rfl
  · obtain ⟨a, ns, rfl, hS, hn, hT, k⟩ := h
    have hA : A.handled = none := hc rfl
    have hR : Room 14 (A.deeper (envOfC "law" (defScope sLaw23) s.heap.objs.size f cdv)) := hr.room (hc rfl)
    have hR1 := hR.mono (show 1 ≤ 14 by decide)
    have hR2 := hR.mono (show 2 ≤ 14 by decide)
    have hR7 := hR.mono (show 7 ≤ 14 by decide)
    refine ⟨_, L2.PSs.nox (pss_cons (ps_par (i := 1) (j := 2) (by rfl) scLaw23.nd rfl rfl (by decide) rfl rfl (pa_cons (pe_call CB.G hR1 (by rfl) CB.m CB.kp CB.b .nil pass0 (pa_cons (pv 0) pa_nil)) (pa_cons (pe_lst pa_nil) pa_nil)) (by rfl))
      (pss_cons (ps_for PassesOwn.never rfl (pi_range1 rfl TC.b.range (pa_cons pe_int pa_nil)) (pg_name (i := 3) scLaw23.nd rfl (Or.inl rfl))
        (pss_one (ps_expr (pe_bm PySem.F.plainAttrs_list PySem.F.slot_list_append PySem.F.type_list_append mt_append (pv 2) (pa_cons (pe_call CR.G hR7 (by rfl) CR.m CR.kp CR.b .nil pass0 (pa_cons (pv 1) (pa_cons pe_int pa_nil))) pa_nil)))))
      (pss_cons (ps_for PassesOwn.never rfl (pi_list (pe_op op_cat (pe_call CX.G hR2 (by rfl) CX.m CX.kp CX.b .nil pass0 (pa_cons (pv 1) (pa_cons (pv 2) pa_nil))) (pe_slice (r := rSlL K) sl_list (pv 2) po_none (po_some pe_int)))) (pg_tup (by rfl) (pgs_cons (pg_name (i := 4) scLaw23.nd rfl (Or.inl rfl)) (pgs_cons (pg_name (i := 5) scLaw23.nd rfl (Or.inl rfl)) pgs_nil)))
        (pss_one (ps_if (pt_not (pt_val (pe_callG CT.G (hr.low (Nat.le_refl _)) (fun _ => hA) (by rfl) CT.m CT.kp CT.b (pa_cons (pv 4) (pa_cons (pv 5) pa_nil))))) (pss_one (ps_ret pe_bl)) pss_nil)))
      (pss_one (ps_ret pe_bl))))), ?_⟩
    have sz : ∀ {m : Nat}, m ≤ 900 → m ≤ sizeLine := fun h => Nat.le_of_lt (small1000 (by omega))
    refine ⟨_, rfl, a, ns, rfl, hS, hn, fun bg H1 s1 nb hB => ⟨Nat.zero_le _, fun D hD => ⟨_, _, rfl, ?_⟩⟩⟩
    have hT1 := hT.ext s1
    have E0 := (Ext.of_same hB Same.refl').new (o := .lst []) hD
    have db : D ≠ bg := fun z => hB.there (z ▸ hD)
    refine ⟨5, rfl, by decide, by decide, for_range (n := 5) (fun i σ' J => (∃ x3 x4 x5 : Option V, σ' = [some (.ref a), some (.ref bg), some (.ref D), x3, x4, x5]) ∧ Ext bg H1 J ∧ ∃ ps : List Addr, ps.length = i ∧ J D = some (.lst (ps.map V.ref)) ∧ ∀ p ∈ ps, ItemAt J p) ?_ ?_ ?_⟩
    · exact ⟨⟨_, _, _, rfl⟩, E0, [], rfl, upd_same, fun _ z => nomatch z⟩
    · rintro i σ' J hi ⟨⟨x3, x4, x5, rfl⟩, EJ, ps, lp, jD, hp⟩
      have hi5 : i < 5 := hi
      refine ⟨_, rfl, .inl ⟨rfl, _, SqL.of jD⟩, ?_⟩
      refine ⟨_, rfl, bg, 5, rfl, EJ.bag, by decide, by decide, fun t p sa rs S ks J2 E2 et esa lS nS lrs hA2 hO => ?_⟩
      have jD2 := E2.keep D _ db jD
      have hp2 : ∀ p ∈ ps, ItemAt J2 p := fun q m => (hp q m).ts (TSame.ext EJ.bag E2)
      have E3 := EJ.trans E2
      refine ⟨D, _, _, rfl, rfl, jD2, small1000 (by rw [List.length_map]; omega), ?_⟩
      have tsl := ts_lst (ys := ps.map V.ref ++ [V.ref t]) jD2
      refine ⟨⟨_, _, _, rfl⟩, Ext.write hB E3 hD, ps ++ [t], by rw [List.length_append, List.length_singleton, lp], by rw [upd_same, List.map_append]; rfl, fun x m => ?_⟩
      rcases List.mem_append.mp m with z | z
      · exact (hp2 x z).ts tsl
      · rw [List.mem_singleton.mp z]
        exact ⟨p, sa, rs, ks, S, tsl _ _ et, hA2.ts tsl, hO, tsl _ _ esa, lS, nS⟩
    · rintro σ' J ⟨⟨x3, x4, x5, rfl⟩, EJ, ps, lp, jD, hp⟩
      have lp5 : ps.length = 5 := lp
      refine ⟨_, rfl, _, rfl, bg, D, ps.map V.ref, rfl, EJ.bag, db, .inl jD, by rw [List.length_map]; omega, fun m ys H3 E3 nm em pm => ?_⟩
      have jD3 := E3.keep D _ db jD
      have EJ3 := EJ.trans E3
      refine ⟨_, rfl, _, rfl, _, _, rfl, SqL.of jD3, fun q nq => ?_⟩
      rw [cut_to _ 1 (by decide)]
      have s2 := same_upd (o := .lst ((ps.map V.ref).take (1 : Int).toNat)) nq
      have lys := pm.length_eq
      rw [List.length_map] at lys
      refine ⟨m, q, _, _, rfl, rfl, s2 _ _ em, upd_same, sz (by rw [lys, List.length_take, List.length_map]; omega), fun l nl => ?_⟩
      have s3 := same_upd (o := .lst (ys ++ (ps.map V.ref).take (1 : Int).toNat)) nl
      have S23 := KaG.Same.tr s2 s3
      have EG := EJ3.trans (Ext.of_same EJ3.bag S23)
      have tG : TSame J (upd (upd H3 q (.lst ((ps.map V.ref).take (1 : Int).toNat))) l (.lst (ys ++ (ps.map V.ref).take (1 : Int).toNat))) := fun x xs e => S23 _ _ (TSame.ext EJ.bag E3 _ _ e)
      have el : upd (upd H3 q (.lst ((ps.map V.ref).take (1 : Int).toNat))) l (.lst (ys ++ (ps.map V.ref).take (1 : Int).toNat)) l = some (.lst (ys ++ (ps.map V.ref).take (1 : Int).toNat)) := upd_same
      have hall : ∀ x ∈ ys ++ (ps.map V.ref).take (1 : Int).toNat, ∃ p, x = .ref p ∧ ItemAt J p := fun x mx => by
        have : x ∈ ps.map V.ref := (List.mem_append.mp mx).elim (fun z => pm.mem_iff.mp z) List.mem_of_mem_take
        obtain ⟨p, mp, rfl⟩ := List.mem_map.mp this
        exact ⟨p, rfl, hp p mp⟩
      generalize upd (upd H3 q (.lst ((ps.map V.ref).take (1 : Int).toNat))) l (.lst (ys ++ (ps.map V.ref).take (1 : Int).toNat)) = G at EG tG el ⊢
      generalize ys ++ (ps.map V.ref).take (1 : Int).toNat = xs at el hall ⊢
      have tabG : TabsN T G := tabs_bag hT1 hB EG
      refine ⟨l, rfl, ⟨_, SqL.of el⟩, for_list (K := K) (a := l) (xs := xs) (fun j σ' G' => (∃ x3 x4 x5 : Option V, σ' = [some (.ref a), some (.ref bg), some (.ref D), x3, x4, x5]) ∧ Ex T G G') ?_ ?_ ?_ ?_⟩
      · exact ⟨⟨_, _, _, rfl⟩, Ex.refl tabG⟩
      · rintro j σ' G' _ ⟨_, X⟩
        exact SqL.of (X.lst el)
      · rintro j x σ' G' hx ⟨⟨x3, x4, x5, rfl⟩, X⟩
        obtain ⟨p, rfl, hI⟩ := hall x (List.mem_of_getElem? hx)
        obtain ⟨b, sa, rows, ks, S, h1, h2, h3, h4, h5, h6⟩ := (hI.ts tG).ts X.ts
        refine ⟨p, _, rfl, SqT.of h1, by rfl, _, _, rfl, _, _, rfl, rfl, ?_⟩
        refine ⟨_, rfl, _, rfl, b, sa, rows, ks, S, rfl, h2, h3, h4, h5, h6, X.tab, fun G2 X2 => ⟨true, rfl, ifF rfl ?_⟩⟩
        exact ⟨⟨_, _, _, rfl⟩, X.tr X2⟩
      · rintro σ' G' _
        exact k G'
end
end KaG
set_option maxRecDepth 100000
set_option maxHeartbeats 4000000
namespace KaG
open PySem PySem.Spec PyProof.Rows L2 KaC
section
variable {P : Program} {w : World} {K : PySem.W.Frag} {mg : Str → Option Value} {base : Heap}
abbrev sIsMet : Stmt := top 44
theorem scMt : FnScope nmMt ["kinds", "found", "ground"] (defScope sIsMet) := ⟨rfl, rfl, rfl, by decide +kernel, rfl, by decide +kernel, by decide +kernel⟩
theorem ok_isMet {f : Addr} {fd : FuncData} (F : Fun K "_law_is_met" "_law_is_met" sIsMet f fd) : FnOk P w K mg base CX0 1 f fd ["kinds", "found", "ground"] spIsMet := by
  refine F.ok scMt (fun vs H Q E h => ?_) (fun cdv A outer s H vs Q E hr h => ?_)
  · obtain ⟨d, fa, ga, rows, ks, ts, F, g, rfl, _⟩ := h
    rfl
  · obtain ⟨d, fa, ga, rows, ks, ts, F, g, rfl, hD, hO, hF, ⟨ns, eg, pg⟩, hg, k⟩ := h
    have u1 := hu_of hr
    have hu : (A.deeper (envOfC "_law_is_met" (defScope sIsMet) s.heap.objs.size f cdv)).units + 64 < cLine := by have := hr.3; omega
    refine ⟨_, (pss_cons (ps_setLc (i := 3) (own := [("need", 4)]) (g := gName 4) (by rfl) scMt.nd rfl rfl (sw_true rfl rfl rfl (by decide +kernel)) (pi_tup (pv 2)) (blkOk_by (own := [("need", 4)]) (N := nmMt) (sc := defScope sIsMet) (by decide +kernel)) (fun _ _ _ _ _ => pg_name (i := 4) scMt.nd rfl (Or.inl rfl))
            (fun _ _ _ _ _ => pts_one (pt_cmpR (r := rEq) op_eq (pe_ix (r := rIxT K) ix_tup (pv 4) pe_int (fun _ _ => rfl)) pe_str (nomark _)))
            (fun _ _ _ _ _ => pv 4))
      (pss_one (ps_ret (pe_cmpR (op_eqD hu) (pe_lc (own := [("need", 4)]) (g := gName 4)
            (tt := tOr (tTest (tOp (rIn K true) (tOp (rIxT K) (tVar 4) (tC (.int 1))) (tVar 1))) (tTest (tOp (rI0 fun i j => V.bl (decide (j ≤ i))) (tOp (rIxT K) (tVar 4) (tC (.int 2))) (tOp (rIxT K) (tDGet (tVar 0) (tOp (rIxT K) (tVar 4) (tC (.int 1)))) (tC (.int 0))))))
            (by rfl) scMt.nd (pi_list (pv 3)) (blkOk_by (own := [("need", 4)]) (N := nmMt) (sc := defScope sIsMet) (by decide +kernel)) (fun _ _ _ _ _ => pg_name (i := 4) scMt.nd rfl (Or.inl rfl))
            (fun _ _ _ _ _ => pts_one (PW.pt (pw_or (pt_cmpR (r := rIn K true) op_notIn_seq (pe_ix (r := rIxT K) ix_tup (pv 4) pe_int (fun _ _ => rfl)) (pv 1) rfl) (pw_or1 (pt_cmpR (r := rI0 fun i j => V.bl (decide (j ≤ i))) op_ge (pe_ix (r := rIxT K) ix_tup (pv 4) pe_int (fun _ _ => rfl)) (pe_ix (r := rIxT K) ix_tup (pe_dget u1 (pv 0) (pe_ix (r := rIxT K) ix_tup (pv 4) pe_int (fun _ _ => rfl)) (fun _ _ => rfl)) pe_int (fun _ _ => rfl)) (nomark _))))))
            (fun _ _ _ _ _ => pv 4)) (pe_lst pa_nil) (nomark _))))), ?_⟩
    have nd := hO.nm.nd
    have lg := paired_len pg
    have l3 := hg.len
    refine ⟨_, rfl, ga, rfl, ⟨_, SqT.of eg⟩, fun D hDn => lc_tup (K := K) (a := ga) (xs := ns.map V.ref) (fun i J => Same H J ∧ ∃ qs : List Addr, J D = some (.lst (qs.map V.ref)) ∧ Paired (fun q it => J q = some (.tup it)) qs ((g.take i).filter ndIsK)) ?_ ?_ ?_ ?_⟩
    · exact ⟨same_upd hDn, [], upd_same, .nil⟩
    · rintro i J _ ⟨S2, _⟩
      exact SqT.of (S2 _ _ eg)
    · rintro i x J hx ⟨S2, qs, jD, pq⟩
      rw [List.getElem?_map] at hx
      obtain ⟨n, hni, rfl⟩ := Option.map_eq_some_iff.mp hx
      obtain ⟨it, hit, en⟩ := paired_at pg hni
      have nv := hg.nv it (List.mem_of_getElem? hit)
      have enJ := S2 _ _ en
      have lq : qs.length ≤ 3 := by
        have w1 := paired_len pq
        have w2 := List.length_filter_le ndIsK (g.take i)
        rw [List.length_take] at w2
        omega
      have tk : g.take (i + 1) = g.take i ++ [it] := by rw [List.take_add_one, hit]; rfl
      refine ⟨rfl, ?_⟩
      cases nv with
      | row nm t u h =>
        refine ⟨_, rfl, n, _, 0, .str "row", rfl, rfl, SqT.of enJ, rfl, rfl, _, rfl, iteDF (by decide +kernel) ⟨S2, qs, jD, ?_⟩⟩
        rw [tk, List.filter_append]
        have fk : List.filter ndIsK [[V.str "row", V.str nm, V.int t, V.int u]] = [] := rfl
        rw [fk, List.append_nil]
        exact pq
      | kind nm a t u h =>
        refine ⟨_, rfl, n, _, 0, .str "kind", rfl, rfl, SqT.of enJ, rfl, rfl, _, rfl, iteD (by decide +kernel) ⟨_, rfl, _, jD, small1000 (by rw [List.length_map]; omega), fun b u e => by rw [upd_ne (ne_of_none e hDn)]; exact S2 b u e, qs ++ [n], by rw [upd_same, List.map_append]; rfl, ?_⟩⟩
        rw [tk, List.filter_append]
        have fk : List.filter ndIsK [[V.str "kind", V.str nm, V.int a, V.int t, V.int u]] = [[V.str "kind", V.str nm, V.int a, V.int t, V.int u]] := rfl
        rw [fk]
        have tsl := ts_lst (ys := qs.map V.ref ++ [V.ref n]) jD
        exact paired_snoc (R := fun q it => (upd J D (.lst (qs.map V.ref ++ [V.ref n]))) q = some (.tup it)) (tsl _ _ enJ) (Paired.mono' (fun _ _ q => tsl _ _ q) pq)
    · rintro J ⟨S2, qs, jD, pq⟩
      rw [List.length_map, lg, List.take_length] at pq
      have lq := paired_len pq
      have l4 := List.length_filter_le ndIsK g
      have nvk : ∀ it ∈ g.filter ndIsK, NeedV rows (nmsOf ks) it := fun it m => hg.nv it (List.mem_filter.mp m).1
      refine ⟨_, rfl, D, rfl, ⟨_, SqL.of jD⟩, fun D2 hD2 => lc_list (K := K) (a := D) (xs := qs.map V.ref) (fun i J2 => Same J J2 ∧ ∃ qs2 : List Addr, J2 D2 = some (.lst (qs2.map V.ref)) ∧ Paired (fun q it => J2 q = some (.tup it)) qs2 (((g.filter ndIsK).take i).filter fun it => !ndLive ks F it)) ?_ ?_ ?_ ?_⟩
      · exact ⟨same_upd hD2, [], upd_same, .nil⟩
      · rintro i J2 _ ⟨S3, _⟩
        exact SqL.of (S3 _ _ jD)
      · rintro i x J2 hx ⟨S3, qs2, j2D, pq2⟩
        rw [List.getElem?_map] at hx
        obtain ⟨n, hni, rfl⟩ := Option.map_eq_some_iff.mp hx
        obtain ⟨it, hit, en⟩ := paired_at pq hni
        have nv := nvk it (List.mem_of_getElem? hit)
        have kk : ndIsK it = true := (List.mem_filter.mp (List.mem_of_getElem? hit)).2
        have enJ := S3 _ _ en
        have S23 := KaG.Same.tr S2 S3
        have lq2 : qs2.length ≤ 3 := by
          have w1 := paired_len pq2
          have w2 := List.length_filter_le (fun it => !ndLive ks F it) ((g.filter ndIsK).take i)
          rw [List.length_take] at w2
          omega
        have tk : (g.filter ndIsK).take (i + 1) = (g.filter ndIsK).take i ++ [it] := by rw [List.take_add_one, hit]; rfl
        have fin : ∀ c : Bool, (!ndLive ks F it) = c → (if c = true then tVar 4 [some (.ref d), some (.ref fa), some (.ref ga), some (.ref D), some (.ref n)] J2 fun y H4 => ∃ acc, H4 D2 = some (.lst acc) ∧ acc.length < sizeLine ∧ (Same J (upd H4 D2 (.lst (acc ++ [y]))) ∧ ∃ qs2 : List Addr, upd H4 D2 (.lst (acc ++ [y])) D2 = some (.lst (qs2.map V.ref)) ∧ Paired (fun q it => upd H4 D2 (.lst (acc ++ [y])) q = some (.tup it)) qs2 (((g.filter ndIsK).take (i + 1)).filter fun it => !ndLive ks F it))
            else (Same J J2 ∧ ∃ qs2 : List Addr, J2 D2 = some (.lst (qs2.map V.ref)) ∧ Paired (fun q it => J2 q = some (.tup it)) qs2 (((g.filter ndIsK).take (i + 1)).filter fun it => !ndLive ks F it))) := fun c hc => by
          refine ite2 (fun h2 => ?_) fun h2 => ?_
          · refine ⟨_, rfl, _, j2D, small1000 (by rw [List.length_map]; omega), fun b u e => by rw [upd_ne (ne_of_none e hD2)]; exact S3 b u e, qs2 ++ [n], by rw [upd_same, List.map_append]; rfl, ?_⟩
            rw [tk, List.filter_append, List.filter_cons_of_pos (p := fun it => !ndLive ks F it) (hc.trans h2)]
            have tsl := ts_lst (ys := qs2.map V.ref ++ [V.ref n]) j2D
            exact paired_snoc (R := fun q it => (upd J2 D2 (.lst (qs2.map V.ref ++ [V.ref n]))) q = some (.tup it)) (tsl _ _ enJ) (Paired.mono' (fun _ _ q => tsl _ _ q) pq2)
          · refine ⟨S3, qs2, j2D, ?_⟩
            rw [tk, List.filter_append, List.filter_cons_of_neg (p := fun it => !ndLive ks F it) (by rw [hc]; exact h2), List.filter_nil, List.append_nil]
            exact pq2
        refine ⟨rfl, ?_⟩
        cases nv with
        | row nm t u h => cases kk
        | kind nm a t u h =>
          obtain ⟨kd2, mk2, rfl⟩ := List.mem_map.mp h
          refine ⟨_, rfl, n, _, 1, .str kd2.name, rfl, rfl, SqT.of enJ, rfl, _, rfl, fa, F.map V.str, rfl, (hF.same S23).in_, rfl, flat_strs, _, rfl, ?_⟩
          rw [show (if true = true then !inV (V.str kd2.name) (List.map V.str F) else inV (V.str kd2.name) (List.map V.str F)) = !decide (kd2.name ∈ F) by rw [if_pos rfl, inV_str]]
          have nl : ndLive ks F [V.str "kind", V.str kd2.name, V.int a, V.int t, V.int u] = (decide (kd2.name ∈ F) && decide (a < kd2.keep)) := by
            show (decide (kd2.name ∈ F) && keepLt ks kd2.name a) = _
            rw [keepLt_eq nd mk2]
          by_cases hm : kd2.name ∈ F
          · refine iteDF (by rw [decide_eq_true hm]; rfl) ?_
            obtain ⟨tl, ev, gt, gas, y1, _⟩ := kvs_get nd (hD.same S23).t mk2
            refine ⟨_, rfl, n, _, 2, .int a, rfl, rfl, SqT.of enJ, rfl, _, rfl, _, rfl, n, _, 1, .str kd2.name, rfl, rfl, SqT.of enJ, rfl, d, .ref tl, rfl, by rw [← ev]; exact DGet.k (k := Sum.inr kd2.name) (S23 _ _ hD.d), tl, _, 0, .int kd2.keep, rfl, rfl, SqT.of y1, rfl, _, _, rfl, rfl, _, rfl, ?_⟩
            refine fin _ ?_
            rw [nl, decide_eq_true hm, Bool.true_and]
            by_cases ha : a < kd2.keep
            · rw [decide_eq_true ha, decide_eq_false (show ¬ kd2.keep ≤ a by omega)]
              rfl
            · rw [decide_eq_false ha, decide_eq_true (show kd2.keep ≤ a by omega)]
              rfl
          · refine iteD (by rw [decide_eq_false hm]; rfl) ?_
            refine fin true ?_
            rw [nl, decide_eq_false hm, Bool.false_and]
            rfl
      · rintro J2 ⟨S3, qs2, j2D, pq2⟩
        rw [List.length_map, lq, List.take_length] at pq2
        have S23 := KaG.Same.tr S2 S3
        have l5 := List.length_filter_le (fun it => !ndLive ks F it) (g.filter ndIsK)
        refine ⟨Nat.zero_le _, fun z nz => ?_⟩
        have Sz := same_upd (o := .lst []) nz
        obtain ⟨ds, d1, d2, d3, d4⟩ := needs_dp (K := K) hO.rw.of hO.nm.of (Paired.mono' (fun a it (e : J2 a = some (.tup it)) => Sz _ _ e) pq2) fun it m => nvk it (List.mem_filter.mp m).1
        refine ⟨.list ds, .list [], .lst (SqL.of (Sz _ _ j2D)) d1, .lst (SqL.of upd_same) .nil, shaped_list d2 (by omega), shaped_list (fun _ z => (by cases z)) (by simp [PyData.depthAll]), ?_⟩
        rw [eqv_empty, d4, met_eq hg.nv]
        exact k _ (KaG.Same.tr S23 Sz)
end
end KaG
set_option maxRecDepth 100000
set_option maxHeartbeats 4000000
namespace KaG
open PySem PySem.Spec PyProof.Rows L2 KaC KaN LamX NdefX KaU
def wrB (K : PySem.W.Frag) (C : Addr) (NW : Str) : Bool := (match PySem.W.clsIn K C with | some cd => decide (Str.ofString ((cd.name.toString.cutAt '.').getLastD "") = NW) | none => false) &&
  (decide (PySem.W.subIn K (.ref C) (.type "BaseException") = some true) && (decide (PySem.W.findIn K (.ref C) "__repr__" = some (some (.builtin "BaseException.__repr__"))) && (decide (PySem.W.findIn K (.ref C) "__eq__" = some (some (.builtin "object.__eq__"))) && decide (PySem.W.subIn K (.ref C) (.type "object") = some true))))
theorem wrB_ok {K : PySem.W.Frag} {C : Addr} {NW : Str} (h : wrB K C NW = true) : WrK K C NW := by
  unfold wrB at h
  rw [Bool.and_eq_true] at h
  obtain ⟨h1, h2⟩ := h
  simp only [Bool.and_eq_true, decide_eq_true_eq] at h2
  obtain ⟨h0, h3, h4, h5⟩ := h2
  split at h1
  · rename_i cd hc
    exact ⟨⟨cd, hc, of_decide_eq_true h1⟩, h0, h3, h4, h5⟩
  · cases h1
section
variable {l : PySem.W.OpenLaw} {w : World} {K : PySem.W.Frag} {mg : Str → Option Value} {h : Heap}
theorem all_mk {fa C0 : Addr} {c5 P5 : Addr} {g0 : Addr} {god0 gan0 : Option Addr} {gsl0 : Array (Option Value)} {goc0 gkV0 gdc0 gpm0 gct0 : Value} {gcd0 : Value} {g1 : Addr} {god1 gan1 : Option Addr} {gsl1 : Array (Option Value)} {goc1 gkV1 gdc1 gpm1 gct1 : Value} {gcd1 : Value} {g2 : Addr} {god2 gan2 : Option Addr} {gsl2 : Array (Option Value)} {goc2 gkV2 gdc2 gpm2 gct2 : Value} {gcd2 : Value} {g3 : Addr} {god3 gan3 : Option Addr} {gsl3 : Array (Option Value)} {goc3 gkV3 gdc3 gpm3 gct3 : Value} {gcd3 : Value} {g4 : Addr} {god4 gan4 : Option Addr} {gsl4 : Array (Option Value)} {goc4 gkV4 gdc4 gpm4 gct4 : Value} {gcd4 : Value} {g5 : Addr} {god5 gan5 : Option Addr} {gsl5 : Array (Option Value)} {goc5 gkV5 gdc5 gpm5 gct5 : Value} {g6 : Addr} {god6 gan6 : Option Addr} {gsl6 : Array (Option Value)} {goc6 gkV6 gdc6 gpm6 gct6 : Value} {gcd6 : Value} {g7 : Addr} {god7 gan7 : Option Addr} {gsl7 : Array (Option Value)} {goc7 gkV7 gdc7 gpm7 gct7 : Value} {gcd7 : Value} {g8 : Addr} {god8 gan8 : Option Addr} {gsl8 : Array (Option Value)} {goc8 gkV8 gdc8 gpm8 gct8 : Value} {gcd8 : Value} {g9 : Addr} {god9 gan9 : Option Addr} {gsl9 : Array (Option Value)} {goc9 gkV9 gdc9 gpm9 gct9 : Value} {gcd9 : Value} {g10 : Addr} {god10 gan10 : Option Addr} {gsl10 : Array (Option Value)} {goc10 gkV10 gdc10 gpm10 gct10 : Value} {gcd10 : Value} {g11 : Addr} {god11 gan11 : Option Addr} {gsl11 : Array (Option Value)} {goc11 gkV11 gdc11 gpm11 gct11 : Value} {gcd11 : Value} {g12 : Addr} {god12 gan12 : Option Addr} {gsl12 : Array (Option Value)} {goc12 gkV12 gdc12 gpm12 gct12 : Value} {gcd12 : Value} {g13 : Addr} {god13 gan13 : Option Addr} {gsl13 : Array (Option Value)} {goc13 gkV13 gdc13 gpm13 gct13 : Value} {gcd13 : Value} {g14 : Addr} {god14 gan14 : Option Addr} {gsl14 : Array (Option Value)} {goc14 gkV14 gdc14 gpm14 gct14 : Value} {gcd14 : Value} {g15 : Addr} {god15 gan15 : Option Addr} {gsl15 : Array (Option Value)} {goc15 gkV15 gdc15 gpm15 gct15 : Value} {gcd15 : Value} {g16 : Addr} {god16 gan16 : Option Addr} {gsl16 : Array (Option Value)} {goc16 gkV16 gdc16 gpm16 gct16 : Value} {gcd16 : Value} {g17 : Addr} {god17 gan17 : Option Addr} {gsl17 : Array (Option Value)} {goc17 gkV17 gdc17 gpm17 gct17 : Value} {gcd17 : Value} {g18 : Addr} {god18 gan18 : Option Addr} {gsl18 : Array (Option Value)} {goc18 gkV18 gdc18 gpm18 gct18 : Value} {gcd18 : Value} {g19 : Addr} {god19 gan19 : Option Addr} {gsl19 : Array (Option Value)} {goc19 gkV19 gdc19 gpm19 gct19 : Value} {gcd19 : Value} {g20 : Addr} {god20 gan20 : Option Addr} {gsl20 : Array (Option Value)} {goc20 gkV20 gdc20 gpm20 gct20 : Value} {gcd20 : Value} {g21 : Addr} {god21 gan21 : Option Addr} {gsl21 : Array (Option Value)} {goc21 gkV21 gdc21 gpm21 gct21 : Value} {gcd21 : Value} {g22 : Addr} {god22 gan22 : Option Addr} {gsl22 : Array (Option Value)} {goc22 gkV22 gdc22 gpm22 gct22 : Value} {gcd22 : Value} {g23 : Addr} {god23 gan23 : Option Addr} {gsl23 : Array (Option Value)} {goc23 gkV23 gdc23 gpm23 gct23 : Value} {gcd23 : Value} {g24 : Addr} {god24 gan24 : Option Addr} {gsl24 : Array (Option Value)} {goc24 gkV24 gdc24 gpm24 gct24 : Value} {gcd24 : Value} {g25 : Addr} {god25 gan25 : Option Addr} {gsl25 : Array (Option Value)} {goc25 gkV25 gdc25 gpm25 gct25 : Value} {gcd25 : Value} {g26 : Addr} {god26 gan26 : Option Addr} {gsl26 : Array (Option Value)} {goc26 gkV26 gdc26 gpm26 gct26 : Value} {gcd26 : Value} {g27 : Addr} {god27 gan27 : Option Addr} {gsl27 : Array (Option Value)} {goc27 gkV27 gdc27 gpm27 gct27 : Value} {gcd27 : Value} {g28 : Addr} {god28 gan28 : Option Addr} {gsl28 : Array (Option Value)} {goc28 gkV28 gdc28 gpm28 gct28 : Value} {gcd28 : Value} {g29 : Addr} {god29 gan29 : Option Addr} {gsl29 : Array (Option Value)} {goc29 gkV29 gdc29 gpm29 gct29 : Value} {gcd29 : Value} {g30 : Addr} {god30 gan30 : Option Addr} {gsl30 : Array (Option Value)} {goc30 gkV30 gdc30 gpm30 gct30 : Value} {gcd30 : Value} {g31 : Addr} {god31 gan31 : Option Addr} {gsl31 : Array (Option Value)} {goc31 gkV31 gdc31 gpm31 gct31 : Value} {gcd31 : Value} {g32 : Addr} {god32 gan32 : Option Addr} {gsl32 : Array (Option Value)} {goc32 gkV32 gdc32 gpm32 gct32 : Value} {gcd32 : Value} {g33 : Addr} {god33 gan33 : Option Addr} {gsl33 : Array (Option Value)} {goc33 gkV33 gdc33 gpm33 gct33 : Value} {gcd33 : Value} {g34 : Addr} {god34 gan34 : Option Addr} {gsl34 : Array (Option Value)} {goc34 gkV34 gdc34 gpm34 gct34 : Value} {gcd34 : Value} {g35 : Addr} {god35 gan35 : Option Addr} {gsl35 : Array (Option Value)} {goc35 gkV35 gdc35 gpm35 gct35 : Value} {gcd35 : Value} {g36 : Addr} {god36 gan36 : Option Addr} {gsl36 : Array (Option Value)} {goc36 gkV36 gdc36 gpm36 gct36 : Value} {gcd36 : Value} {g37 : Addr} {god37 gan37 : Option Addr} {gsl37 : Array (Option Value)} {goc37 gkV37 gdc37 gpm37 gct37 : Value} {gcd37 : Value} {g38 : Addr} {god38 gan38 : Option Addr} {gsl38 : Array (Option Value)} {goc38 gkV38 gdc38 gpm38 gct38 : Value} {gcd38 : Value} {g39 : Addr} {god39 gan39 : Option Addr} {gsl39 : Array (Option Value)} {goc39 gkV39 gdc39 gpm39 gct39 : Value} {gcd39 : Value} {g40 : Addr} {god40 gan40 : Option Addr} {gsl40 : Array (Option Value)} {goc40 gkV40 gdc40 gpm40 gct40 : Value} {gcd40 : Value} {g41 : Addr} {god41 gan41 : Option Addr} {gsl41 : Array (Option Value)} {goc41 gkV41 gdc41 gpm41 gct41 : Value} {gcd41 : Value} {g42 : Addr} {god42 gan42 : Option Addr} {gsl42 : Array (Option Value)} {goc42 gkV42 gdc42 gpm42 gct42 : Value} {gcd42 : Value} {g43 : Addr} {god43 gan43 : Option Addr} {gsl43 : Array (Option Value)} {goc43 gkV43 gdc43 gpm43 gct43 : Value} {gcd43 : Value} {g44 : Addr} {god44 gan44 : Option Addr} {gsl44 : Array (Option Value)} {goc44 gkV44 gdc44 gpm44 gct44 : Value} {gcd44 : Value} {g45 : Addr} {god45 gan45 : Option Addr} {gsl45 : Array (Option Value)} {goc45 gkV45 gdc45 gpm45 gct45 : Value} {gcd45 : Value} {g46 : Addr} {god46 gan46 : Option Addr} {gsl46 : Array (Option Value)} {goc46 gkV46 gdc46 gpm46 gct46 : Value} {gcd46 : Value} (X : K.In h) (Gm : h.Ns mainGlobals mg) (hfa : mg "law" = some (.ref fa)) 
    (babs : PySem.W.nsIn K mainGlobals "abs" = some none)
    (blen : PySem.W.nsIn K mainGlobals "len" = some none)
    (bint : PySem.W.nsIn K mainGlobals "int" = some none)
    (brepr : PySem.W.nsIn K mainGlobals "repr" = some none)
    (bisinstance : PySem.W.nsIn K mainGlobals "isinstance" = some none)
    (brange : PySem.W.nsIn K mainGlobals "range" = some none)
    (blist : PySem.W.nsIn K mainGlobals "list" = some none)
    (bValueError : PySem.W.nsIn K mainGlobals "ValueError" = some none)
    (btuple : PySem.W.nsIn K mainGlobals "tuple" = some none)
    (bsorted : PySem.W.nsIn K mainGlobals "sorted" = some none)
    (bset : PySem.W.nsIn K mainGlobals "set" = some none)
    (bdict : PySem.W.nsIn K mainGlobals "dict" = some none)
    (benumerate : PySem.W.nsIn K mainGlobals "enumerate" = some none)
    (bany : PySem.W.nsIn K mainGlobals "any" = some none)
    (ball : PySem.W.nsIn K mainGlobals "all" = some none)
    (bmin : PySem.W.nsIn K mainGlobals "min" = some none)
    (bmax : PySem.W.nsIn K mainGlobals "max" = some none)
    (bbool : PySem.W.nsIn K mainGlobals "bool" = some none)
    (bstr : PySem.W.nsIn K mainGlobals "str" = some none)
    (bzip : PySem.W.nsIn K mainGlobals "zip" = some none)
    (bsum : PySem.W.nsIn K mainGlobals "sum" = some none)
    (breversed : PySem.W.nsIn K mainGlobals "reversed" = some none)
    (a0 : PySem.W.nsIn K mainGlobals "NoKind" = some (some (.ref C0)))
    (ga0 : PySem.W.nsIn K mainGlobals "is_integer" = some (some (.ref g0)))
    (gl0 : K.lookup g0 = some ⟨goc0, god0, .func (PySem.W.fnOf "is_integer" "is_integer" (defArgs sIsInt) (defBody sIsInt) (defScope sIsInt) .none gkV0 gdc0 gpm0 gan0 gcd0 gct0), gsl0⟩)
    (gc0 : PySem.W.codeIn K gcd0 "is_integer" = true)
    (gk0 : PySem.W.keepIn K (.ref g0) = true)
    (ga1 : PySem.W.nsIn K mainGlobals "kind_of" = some (some (.ref g1)))
    (gl1 : K.lookup g1 = some ⟨goc1, god1, .func (PySem.W.fnOf "kind_of" "kind_of" (defArgs sKindOf) (defBody sKindOf) (defScope sKindOf) .none gkV1 gdc1 gpm1 gan1 gcd1 gct1), gsl1⟩)
    (gc1 : PySem.W.codeIn K gcd1 "kind_of" = true)
    (gk1 : PySem.W.keepIn K (.ref g1) = true)
    (ga2 : PySem.W.nsIn K mainGlobals "kind_names" = some (some (.ref g2)))
    (gl2 : K.lookup g2 = some ⟨goc2, god2, .func (PySem.W.fnOf "kind_names" "kind_names" (defArgs sKindNames) (defBody sKindNames) (defScope sKindNames) .none gkV2 gdc2 gpm2 gan2 gcd2 gct2), gsl2⟩)
    (gc2 : PySem.W.codeIn K gcd2 "kind_names" = true)
    (gk2 : PySem.W.keepIn K (.ref g2) = true)
    (ga3 : PySem.W.nsIn K mainGlobals "_grown" = some (some (.ref g3)))
    (gl3 : K.lookup g3 = some ⟨goc3, god3, .func (PySem.W.fnOf "_grown" "_grown" (defArgs sGrown) (defBody sGrown) (defScope sGrown) .none gkV3 gdc3 gpm3 gan3 gcd3 gct3), gsl3⟩)
    (gc3 : PySem.W.codeIn K gcd3 "_grown" = true)
    (gk3 : PySem.W.keepIn K (.ref g3) = true)
    (ga4 : PySem.W.nsIn K mainGlobals "_is_live" = some (some (.ref g4)))
    (gl4 : K.lookup g4 = some ⟨goc4, god4, .func (PySem.W.fnOf "_is_live" "_is_live" (defArgs sIsLive) (defBody sIsLive) (defScope sIsLive) .none gkV4 gdc4 gpm4 gan4 gcd4 gct4), gsl4⟩)
    (gc4 : PySem.W.codeIn K gcd4 "_is_live" = true)
    (gk4 : PySem.W.keepIn K (.ref g4) = true)
    (ga5 : PySem.W.nsIn K mainGlobals "bearing_kinds" = some (some (.ref g5)))
    (gl5 : K.lookup g5 = some ⟨goc5, god5, .func (PySem.W.fnOf "bearing_kinds" "bearing_kinds" (defArgs sBear) (defBody sBear) (defScope sBear) .none gkV5 gdc5 gpm5 gan5 (.ref c5) gct5), gsl5⟩)
    (gc5 : PySem.W.codeIn K (.ref c5) "bearing_kinds" = true)
    (gk5 : PySem.W.keepIn K (.ref g5) = true)
    (ga6 : PySem.W.nsIn K mainGlobals "live_indexes" = some (some (.ref g6)))
    (gl6 : K.lookup g6 = some ⟨goc6, god6, .func (PySem.W.fnOf "live_indexes" "live_indexes" (defArgs sLiveIx) (defBody sLiveIx) (defScope sLiveIx) .none gkV6 gdc6 gpm6 gan6 gcd6 gct6), gsl6⟩)
    (gc6 : PySem.W.codeIn K gcd6 "live_indexes" = true)
    (gk6 : PySem.W.keepIn K (.ref g6) = true)
    (ga7 : PySem.W.nsIn K mainGlobals "levels_of" = some (some (.ref g7)))
    (gl7 : K.lookup g7 = some ⟨goc7, god7, .func (PySem.W.fnOf "levels_of" "levels_of" (defArgs sLvo) (defBody sLvo) (defScope sLvo) .none gkV7 gdc7 gpm7 gan7 gcd7 gct7), gsl7⟩)
    (gc7 : PySem.W.codeIn K gcd7 "levels_of" = true)
    (gk7 : PySem.W.keepIn K (.ref g7) = true)
    (ga8 : PySem.W.nsIn K mainGlobals "_live_list" = some (some (.ref g8)))
    (gl8 : K.lookup g8 = some ⟨goc8, god8, .func (PySem.W.fnOf "_live_list" "_live_list" (defArgs sLli) (defBody sLli) (defScope sLli) .none gkV8 gdc8 gpm8 gan8 gcd8 gct8), gsl8⟩)
    (gc8 : PySem.W.codeIn K gcd8 "_live_list" = true)
    (gk8 : PySem.W.keepIn K (.ref g8) = true)
    (ga9 : PySem.W.nsIn K mainGlobals "_has_row" = some (some (.ref g9)))
    (gl9 : K.lookup g9 = some ⟨goc9, god9, .func (PySem.W.fnOf "_has_row" "_has_row" (defArgs sHrw) (defBody sHrw) (defScope sHrw) .none gkV9 gdc9 gpm9 gan9 gcd9 gct9), gsl9⟩)
    (gc9 : PySem.W.codeIn K gcd9 "_has_row" = true)
    (gk9 : PySem.W.keepIn K (.ref g9) = true)
    (ga10 : PySem.W.nsIn K mainGlobals "_parts_of" = some (some (.ref g10)))
    (gl10 : K.lookup g10 = some ⟨goc10, god10, .func (PySem.W.fnOf "_parts_of" "_parts_of" (defArgs sPo) (defBody sPo) (defScope sPo) .none gkV10 gdc10 gpm10 gan10 gcd10 gct10), gsl10⟩)
    (gc10 : PySem.W.codeIn K gcd10 "_parts_of" = true)
    (gk10 : PySem.W.keepIn K (.ref g10) = true)
    (ga11 : PySem.W.nsIn K mainGlobals "_old_parts_of" = some (some (.ref g11)))
    (gl11 : K.lookup g11 = some ⟨goc11, god11, .func (PySem.W.fnOf "_old_parts_of" "_old_parts_of" (defArgs sOpo) (defBody sOpo) (defScope sOpo) .none gkV11 gdc11 gpm11 gan11 gcd11 gct11), gsl11⟩)
    (gc11 : PySem.W.codeIn K gcd11 "_old_parts_of" = true)
    (gk11 : PySem.W.keepIn K (.ref g11) = true)
    (ga12 : PySem.W.nsIn K mainGlobals "_grown_clean" = some (some (.ref g12)))
    (gl12 : K.lookup g12 = some ⟨goc12, god12, .func (PySem.W.fnOf "_grown_clean" "_grown_clean" (defArgs sGc) (defBody sGc) (defScope sGc) .none gkV12 gdc12 gpm12 gan12 gcd12 gct12), gsl12⟩)
    (gc12 : PySem.W.codeIn K gcd12 "_grown_clean" = true)
    (gk12 : PySem.W.keepIn K (.ref g12) = true)
    (ga13 : PySem.W.nsIn K mainGlobals "_grown_old" = some (some (.ref g13)))
    (gl13 : K.lookup g13 = some ⟨goc13, god13, .func (PySem.W.fnOf "_grown_old" "_grown_old" (defArgs sGo) (defBody sGo) (defScope sGo) .none gkV13 gdc13 gpm13 gan13 gcd13 gct13), gsl13⟩)
    (gc13 : PySem.W.codeIn K gcd13 "_grown_old" = true)
    (gk13 : PySem.W.keepIn K (.ref g13) = true)
    (ga14 : PySem.W.nsIn K mainGlobals "clean_tree" = some (some (.ref g14)))
    (gl14 : K.lookup g14 = some ⟨goc14, god14, .func (PySem.W.fnOf "clean_tree" "clean_tree" (defArgs sClt) (defBody sClt) (defScope sClt) .none gkV14 gdc14 gpm14 gan14 gcd14 gct14), gsl14⟩)
    (gc14 : PySem.W.codeIn K gcd14 "clean_tree" = true)
    (gk14 : PySem.W.keepIn K (.ref g14) = true)
    (ga15 : PySem.W.nsIn K mainGlobals "old_tree" = some (some (.ref g15)))
    (gl15 : K.lookup g15 = some ⟨goc15, god15, .func (PySem.W.fnOf "old_tree" "old_tree" (defArgs sOlt) (defBody sOlt) (defScope sOlt) .none gkV15 gdc15 gpm15 gan15 gcd15 gct15), gsl15⟩)
    (gc15 : PySem.W.codeIn K gcd15 "old_tree" = true)
    (gk15 : PySem.W.keepIn K (.ref g15) = true)
    (ga16 : PySem.W.nsIn K mainGlobals "_ground_of" = some (some (.ref g16)))
    (gl16 : K.lookup g16 = some ⟨goc16, god16, .func (PySem.W.fnOf "_ground_of" "_ground_of" (defArgs sGof) (defBody sGof) (defScope sGof) .none gkV16 gdc16 gpm16 gan16 gcd16 gct16), gsl16⟩)
    (gc16 : PySem.W.codeIn K gcd16 "_ground_of" = true)
    (gk16 : PySem.W.keepIn K (.ref g16) = true)
    (ga17 : PySem.W.nsIn K mainGlobals "_rows_needed" = some (some (.ref g17)))
    (gl17 : K.lookup g17 = some ⟨goc17, god17, .func (PySem.W.fnOf "_rows_needed" "_rows_needed" (defArgs sRnd) (defBody sRnd) (defScope sRnd) .none gkV17 gdc17 gpm17 gan17 gcd17 gct17), gsl17⟩)
    (gc17 : PySem.W.codeIn K gcd17 "_rows_needed" = true)
    (gk17 : PySem.W.keepIn K (.ref g17) = true)
    (ga18 : PySem.W.nsIn K mainGlobals "is_clean_tree" = some (some (.ref g18)))
    (gl18 : K.lookup g18 = some ⟨goc18, god18, .func (PySem.W.fnOf "is_clean_tree" "is_clean_tree" (defArgs sIct) (defBody sIct) (defScope sIct) .none gkV18 gdc18 gpm18 gan18 gcd18 gct18), gsl18⟩)
    (gc18 : PySem.W.codeIn K gcd18 "is_clean_tree" = true)
    (gk18 : PySem.W.keepIn K (.ref g18) = true)
    (ga19 : PySem.W.nsIn K mainGlobals "is_old_tree" = some (some (.ref g19)))
    (gl19 : K.lookup g19 = some ⟨goc19, god19, .func (PySem.W.fnOf "is_old_tree" "is_old_tree" (defArgs sIot) (defBody sIot) (defScope sIot) .none gkV19 gdc19 gpm19 gan19 gcd19 gct19), gsl19⟩)
    (gc19 : PySem.W.codeIn K gcd19 "is_old_tree" = true)
    (gk19 : PySem.W.keepIn K (.ref g19) = true)
    (ga20 : PySem.W.nsIn K mainGlobals "_law_bag" = some (some (.ref g20)))
    (gl20 : K.lookup g20 = some ⟨goc20, god20, .func (PySem.W.fnOf "_law_bag" "_law_bag" (defArgs sBag) (defBody sBag) (defScope sBag) .none gkV20 gdc20 gpm20 gan20 gcd20 gct20), gsl20⟩)
    (gc20 : PySem.W.codeIn K gcd20 "_law_bag" = true)
    (gk20 : PySem.W.keepIn K (.ref g20) = true)
    (ga21 : PySem.W.nsIn K mainGlobals "_law_take" = some (some (.ref g21)))
    (gl21 : K.lookup g21 = some ⟨goc21, god21, .func (PySem.W.fnOf "_law_take" "_law_take" (defArgs sTake) (defBody sTake) (defScope sTake) .none gkV21 gdc21 gpm21 gan21 gcd21 gct21), gsl21⟩)
    (gc21 : PySem.W.codeIn K gcd21 "_law_take" = true)
    (gk21 : PySem.W.keepIn K (.ref g21) = true)
    (ga22 : PySem.W.nsIn K mainGlobals "_law_some" = some (some (.ref g22)))
    (gl22 : K.lookup g22 = some ⟨goc22, god22, .func (PySem.W.fnOf "_law_some" "_law_some" (defArgs sSome) (defBody sSome) (defScope sSome) .none gkV22 gdc22 gpm22 gan22 gcd22 gct22), gsl22⟩)
    (gc22 : PySem.W.codeIn K gcd22 "_law_some" = true)
    (gk22 : PySem.W.keepIn K (.ref g22) = true)
    (ga23 : PySem.W.nsIn K mainGlobals "_law_alike" = some (some (.ref g23)))
    (gl23 : K.lookup g23 = some ⟨goc23, god23, .func (PySem.W.fnOf "_law_alike" "_law_alike" (defArgs sAlike) (defBody sAlike) (defScope sAlike) .none gkV23 gdc23 gpm23 gan23 gcd23 gct23), gsl23⟩)
    (gc23 : PySem.W.codeIn K gcd23 "_law_alike" = true)
    (gk23 : PySem.W.keepIn K (.ref g23) = true)
    (ga24 : PySem.W.nsIn K mainGlobals "_law_mixed" = some (some (.ref g24)))
    (gl24 : K.lookup g24 = some ⟨goc24, god24, .func (PySem.W.fnOf "_law_mixed" "_law_mixed" (defArgs sMixed) (defBody sMixed) (defScope sMixed) .none gkV24 gdc24 gpm24 gan24 gcd24 gct24), gsl24⟩)
    (gc24 : PySem.W.codeIn K gcd24 "_law_mixed" = true)
    (gk24 : PySem.W.keepIn K (.ref g24) = true)
    (ga25 : PySem.W.nsIn K mainGlobals "_law_named" = some (some (.ref g25)))
    (gl25 : K.lookup g25 = some ⟨goc25, god25, .func (PySem.W.fnOf "_law_named" "_law_named" (defArgs sNamed) (defBody sNamed) (defScope sNamed) .none gkV25 gdc25 gpm25 gan25 gcd25 gct25), gsl25⟩)
    (gc25 : PySem.W.codeIn K gcd25 "_law_named" = true)
    (gk25 : PySem.W.keepIn K (.ref g25) = true)
    (ga26 : PySem.W.nsIn K mainGlobals "_law_numbers" = some (some (.ref g26)))
    (gl26 : K.lookup g26 = some ⟨goc26, god26, .func (PySem.W.fnOf "_law_numbers" "_law_numbers" (defArgs sNumbers) (defBody sNumbers) (defScope sNumbers) .none gkV26 gdc26 gpm26 gan26 gcd26 gct26), gsl26⟩)
    (gc26 : PySem.W.codeIn K gcd26 "_law_numbers" = true)
    (gk26 : PySem.W.keepIn K (.ref g26) = true)
    (ga27 : PySem.W.nsIn K mainGlobals "_law_need" = some (some (.ref g27)))
    (gl27 : K.lookup g27 = some ⟨goc27, god27, .func (PySem.W.fnOf "_law_need" "_law_need" (defArgs sNeed) (defBody sNeed) (defScope sNeed) .none gkV27 gdc27 gpm27 gan27 gcd27 gct27), gsl27⟩)
    (gc27 : PySem.W.codeIn K gcd27 "_law_need" = true)
    (gk27 : PySem.W.keepIn K (.ref g27) = true)
    (ga28 : PySem.W.nsIn K mainGlobals "_law_ground" = some (some (.ref g28)))
    (gl28 : K.lookup g28 = some ⟨goc28, god28, .func (PySem.W.fnOf "_law_ground" "_law_ground" (defArgs sGround) (defBody sGround) (defScope sGround) .none gkV28 gdc28 gpm28 gan28 gcd28 gct28), gsl28⟩)
    (gc28 : PySem.W.codeIn K gcd28 "_law_ground" = true)
    (gk28 : PySem.W.keepIn K (.ref g28) = true)
    (ga29 : PySem.W.nsIn K mainGlobals "_law_any_rulebook" = some (some (.ref g29)))
    (gl29 : K.lookup g29 = some ⟨goc29, god29, .func (PySem.W.fnOf "_law_any_rulebook" "_law_any_rulebook" (defArgs sAny) (defBody sAny) (defScope sAny) .none gkV29 gdc29 gpm29 gan29 gcd29 gct29), gsl29⟩)
    (gc29 : PySem.W.codeIn K gcd29 "_law_any_rulebook" = true)
    (gk29 : PySem.W.keepIn K (.ref g29) = true)
    (ga30 : PySem.W.nsIn K mainGlobals "_law_planted" = some (some (.ref g30)))
    (gl30 : K.lookup g30 = some ⟨goc30, god30, .func (PySem.W.fnOf "_law_planted" "_law_planted" (defArgs sPlanted) (defBody sPlanted) (defScope sPlanted) .none gkV30 gdc30 gpm30 gan30 gcd30 gct30), gsl30⟩)
    (gc30 : PySem.W.codeIn K gcd30 "_law_planted" = true)
    (gk30 : PySem.W.keepIn K (.ref g30) = true)
    (ga31 : PySem.W.nsIn K mainGlobals "_law_more_needs" = some (some (.ref g31)))
    (gl31 : K.lookup g31 = some ⟨goc31, god31, .func (PySem.W.fnOf "_law_more_needs" "_law_more_needs" (defArgs sMore) (defBody sMore) (defScope sMore) .none gkV31 gdc31 gpm31 gan31 gcd31 gct31), gsl31⟩)
    (gc31 : PySem.W.codeIn K gcd31 "_law_more_needs" = true)
    (gk31 : PySem.W.keepIn K (.ref g31) = true)
    (ga32 : PySem.W.nsIn K mainGlobals "_law_threaded" = some (some (.ref g32)))
    (gl32 : K.lookup g32 = some ⟨goc32, god32, .func (PySem.W.fnOf "_law_threaded" "_law_threaded" (defArgs sThreaded) (defBody sThreaded) (defScope sThreaded) .none gkV32 gdc32 gpm32 gan32 gcd32 gct32), gsl32⟩)
    (gc32 : PySem.W.codeIn K gcd32 "_law_threaded" = true)
    (gk32 : PySem.W.keepIn K (.ref g32) = true)
    (ga33 : PySem.W.nsIn K mainGlobals "_law_rulebook" = some (some (.ref g33)))
    (gl33 : K.lookup g33 = some ⟨goc33, god33, .func (PySem.W.fnOf "_law_rulebook" "_law_rulebook" (defArgs sRulebook) (defBody sRulebook) (defScope sRulebook) .none gkV33 gdc33 gpm33 gan33 gcd33 gct33), gsl33⟩)
    (gc33 : PySem.W.codeIn K gcd33 "_law_rulebook" = true)
    (gk33 : PySem.W.keepIn K (.ref g33) = true)
    (ga34 : PySem.W.nsIn K mainGlobals "_law_kinds_of" = some (some (.ref g34)))
    (gl34 : K.lookup g34 = some ⟨goc34, god34, .func (PySem.W.fnOf "_law_kinds_of" "_law_kinds_of" (defArgs sKindsO) (defBody sKindsO) (defScope sKindsO) .none gkV34 gdc34 gpm34 gan34 gcd34 gct34), gsl34⟩)
    (gc34 : PySem.W.codeIn K gcd34 "_law_kinds_of" = true)
    (gk34 : PySem.W.keepIn K (.ref g34) = true)
    (ga35 : PySem.W.nsIn K mainGlobals "_law_bearing" = some (some (.ref g35)))
    (gl35 : K.lookup g35 = some ⟨goc35, god35, .func (PySem.W.fnOf "_law_bearing" "_law_bearing" (defArgs sLBear) (defBody sLBear) (defScope sLBear) .none gkV35 gdc35 gpm35 gan35 gcd35 gct35), gsl35⟩)
    (gc35 : PySem.W.codeIn K gcd35 "_law_bearing" = true)
    (gk35 : PySem.W.keepIn K (.ref g35) = true)
    (ga36 : PySem.W.nsIn K mainGlobals "_law_is_met" = some (some (.ref g36)))
    (gl36 : K.lookup g36 = some ⟨goc36, god36, .func (PySem.W.fnOf "_law_is_met" "_law_is_met" (defArgs sIsMet) (defBody sIsMet) (defScope sIsMet) .none gkV36 gdc36 gpm36 gan36 gcd36 gct36), gsl36⟩)
    (gc36 : PySem.W.codeIn K gcd36 "_law_is_met" = true)
    (gk36 : PySem.W.keepIn K (.ref g36) = true)
    (ga37 : PySem.W.nsIn K mainGlobals "_law_live" = some (some (.ref g37)))
    (gl37 : K.lookup g37 = some ⟨goc37, god37, .func (PySem.W.fnOf "_law_live" "_law_live" (defArgs sLLive) (defBody sLLive) (defScope sLLive) .none gkV37 gdc37 gpm37 gan37 gcd37 gct37), gsl37⟩)
    (gc37 : PySem.W.codeIn K gcd37 "_law_live" = true)
    (gk37 : PySem.W.keepIn K (.ref g37) = true)
    (ga38 : PySem.W.nsIn K mainGlobals "_law_levels" = some (some (.ref g38)))
    (gl38 : K.lookup g38 = some ⟨goc38, god38, .func (PySem.W.fnOf "_law_levels" "_law_levels" (defArgs sLvT) (defBody sLvT) (defScope sLvT) .none gkV38 gdc38 gpm38 gan38 gcd38 gct38), gsl38⟩)
    (gc38 : PySem.W.codeIn K gcd38 "_law_levels" = true)
    (gk38 : PySem.W.keepIn K (.ref g38) = true)
    (ga39 : PySem.W.nsIn K mainGlobals "_law_tree_rows" = some (some (.ref g39)))
    (gl39 : K.lookup g39 = some ⟨goc39, god39, .func (PySem.W.fnOf "_law_tree_rows" "_law_tree_rows" (defArgs sRwT) (defBody sRwT) (defScope sRwT) .none gkV39 gdc39 gpm39 gan39 gcd39 gct39), gsl39⟩)
    (gc39 : PySem.W.codeIn K gcd39 "_law_tree_rows" = true)
    (gk39 : PySem.W.keepIn K (.ref g39) = true)
    (ga40 : PySem.W.nsIn K mainGlobals "_law_is_tree" = some (some (.ref g40)))
    (gl40 : K.lookup g40 = some ⟨goc40, god40, .func (PySem.W.fnOf "_law_is_tree" "_law_is_tree" (defArgs sIsT) (defBody sIsT) (defScope sIsT) .none gkV40 gdc40 gpm40 gan40 gcd40 gct40), gsl40⟩)
    (gc40 : PySem.W.codeIn K gcd40 "_law_is_tree" = true)
    (gk40 : PySem.W.keepIn K (.ref g40) = true)
    (ga41 : PySem.W.nsIn K mainGlobals "_law_is_sort_of_tree" = some (some (.ref g41)))
    (gl41 : K.lookup g41 = some ⟨goc41, god41, .func (PySem.W.fnOf "_law_is_sort_of_tree" "_law_is_sort_of_tree" (defArgs sSot) (defBody sSot) (defScope sSot) .none gkV41 gdc41 gpm41 gan41 gcd41 gct41), gsl41⟩)
    (gc41 : PySem.W.codeIn K gcd41 "_law_is_sort_of_tree" = true)
    (gk41 : PySem.W.keepIn K (.ref g41) = true)
    (ga42 : PySem.W.nsIn K mainGlobals "_law_least_levels" = some (some (.ref g42)))
    (gl42 : K.lookup g42 = some ⟨goc42, god42, .func (PySem.W.fnOf "_law_least_levels" "_law_least_levels" (defArgs sLst) (defBody sLst) (defScope sLst) .none gkV42 gdc42 gpm42 gan42 gcd42 gct42), gsl42⟩)
    (gc42 : PySem.W.codeIn K gcd42 "_law_least_levels" = true)
    (gk42 : PySem.W.keepIn K (.ref g42) = true)
    (ga43 : PySem.W.nsIn K mainGlobals "_law_is_whole" = some (some (.ref g43)))
    (gl43 : K.lookup g43 = some ⟨goc43, god43, .func (PySem.W.fnOf "_law_is_whole" "_law_is_whole" (defArgs sWho) (defBody sWho) (defScope sWho) .none gkV43 gdc43 gpm43 gan43 gcd43 gct43), gsl43⟩)
    (gc43 : PySem.W.codeIn K gcd43 "_law_is_whole" = true)
    (gk43 : PySem.W.keepIn K (.ref g43) = true)
    (ga44 : PySem.W.nsIn K mainGlobals "_law_is_told_tree" = some (some (.ref g44)))
    (gl44 : K.lookup g44 = some ⟨goc44, god44, .func (PySem.W.fnOf "_law_is_told_tree" "_law_is_told_tree" (defArgs sTdt) (defBody sTdt) (defScope sTdt) .none gkV44 gdc44 gpm44 gan44 gcd44 gct44), gsl44⟩)
    (gc44 : PySem.W.codeIn K gcd44 "_law_is_told_tree" = true)
    (gk44 : PySem.W.keepIn K (.ref g44) = true)
    (ga45 : PySem.W.nsIn K mainGlobals "_law_are_trees_right" = some (some (.ref g45)))
    (gl45 : K.lookup g45 = some ⟨goc45, god45, .func (PySem.W.fnOf "_law_are_trees_right" "_law_are_trees_right" (defArgs sTrr) (defBody sTrr) (defScope sTrr) .none gkV45 gdc45 gpm45 gan45 gcd45 gct45), gsl45⟩)
    (gc45 : PySem.W.codeIn K gcd45 "_law_are_trees_right" = true)
    (gk45 : PySem.W.keepIn K (.ref g45) = true)
    (ga46 : PySem.W.nsIn K mainGlobals "law" = some (some (.ref g46)))
    (gl46 : K.lookup g46 = some ⟨goc46, god46, .func (PySem.W.fnOf "law" "law" (defArgs sLaw23) (defBody sLaw23) (defScope sLaw23) .none gkV46 gdc46 gpm46 gan46 gcd46 gct46), gsl46⟩)
    (gc46 : PySem.W.codeIn K gcd46 "law" = true)
    (gk46 : PySem.W.keepIn K (.ref g46) = true)
    (tt5 : PySem.W.tabIn K "bearing_kinds" = some (c5, P5))
    (th5 : h.get? P5 = some (tabO #[]))
    (tc5 : PySem.W.codeHdIn K c5 P5 = true)
    (tn5 : (K.lookup P5).isNone = true)
    (B2 : wrB K C0 "NoKind" = true) :
    LawG l w K 15 63 "script" mg fa h := by
  have e := hfa.symm.trans (PySem.W.mg_of X Gm ga46)
  cases e
  have TB : TxtB mg := ⟨PySem.W.mg_none_of X Gm babs, PySem.W.mg_none_of X Gm blen, PySem.W.mg_none_of X Gm bint, PySem.W.mg_none_of X Gm brepr, PySem.W.mg_none_of X Gm bisinstance, PySem.W.mg_none_of X Gm brange, PySem.W.mg_none_of X Gm blist, PySem.W.mg_none_of X Gm bValueError⟩
  have TC : TxtC mg := ⟨TB, PySem.W.mg_none_of X Gm btuple, PySem.W.mg_none_of X Gm bsorted, PySem.W.mg_none_of X Gm bset, PySem.W.mg_none_of X Gm bdict⟩
  have henumerate : mg "enumerate" = none := PySem.W.mg_none_of X Gm benumerate
  have hany : mg "any" = none := PySem.W.mg_none_of X Gm bany
  have hall : mg "all" = none := PySem.W.mg_none_of X Gm ball
  have hlen : mg "len" = none := PySem.W.mg_none_of X Gm blen
  have hlist : mg "list" = none := PySem.W.mg_none_of X Gm blist
  have hmin : mg "min" = none := PySem.W.mg_none_of X Gm bmin
  have hmax : mg "max" = none := PySem.W.mg_none_of X Gm bmax
  have hbool : mg "bool" = none := PySem.W.mg_none_of X Gm bbool
  have hstr : mg "str" = none := PySem.W.mg_none_of X Gm bstr
  have hzip : mg "zip" = none := PySem.W.mg_none_of X Gm bzip
  have hsum : mg "sum" = none := PySem.W.mg_none_of X Gm bsum
  have hreversed : mg "reversed" = none := PySem.W.mg_none_of X Gm breversed
  have hrange : mg "range" = none := PySem.W.mg_none_of X Gm brange
  have ch5 := PySem.W.codeHd_of_K X tc5
  have V0 := fun_mk (st := sIsInt) gl0 gc0 gk0
  have V1 := fun_mk (st := sKindOf) gl1 gc1 gk1
  have V2 := fun_mk (st := sKindNames) gl2 gc2 gk2
  have V3 := fun_mk (st := sGrown) gl3 gc3 gk3
  have V4 := fun_mk (st := sIsLive) gl4 gc4 gk4
  have V5 := fun_mk (st := sBear) gl5 gc5 gk5
  have V6 := fun_mk (st := sLiveIx) gl6 gc6 gk6
  have V7 := fun_mk (st := sLvo) gl7 gc7 gk7
  have V8 := fun_mk (st := sLli) gl8 gc8 gk8
  have V9 := fun_mk (st := sHrw) gl9 gc9 gk9
  have V10 := fun_mk (st := sPo) gl10 gc10 gk10
  have V11 := fun_mk (st := sOpo) gl11 gc11 gk11
  have V12 := fun_mk (st := sGc) gl12 gc12 gk12
  have V13 := fun_mk (st := sGo) gl13 gc13 gk13
  have V14 := fun_mk (st := sClt) gl14 gc14 gk14
  have V15 := fun_mk (st := sOlt) gl15 gc15 gk15
  have V16 := fun_mk (st := sGof) gl16 gc16 gk16
  have V17 := fun_mk (st := sRnd) gl17 gc17 gk17
  have V18 := fun_mk (st := sIct) gl18 gc18 gk18
  have V19 := fun_mk (st := sIot) gl19 gc19 gk19
  have V20 := fun_mk (st := sBag) gl20 gc20 gk20
  have V21 := fun_mk (st := sTake) gl21 gc21 gk21
  have V22 := fun_mk (st := sSome) gl22 gc22 gk22
  have V23 := fun_mk (st := sAlike) gl23 gc23 gk23
  have V24 := fun_mk (st := sMixed) gl24 gc24 gk24
  have V25 := fun_mk (st := sNamed) gl25 gc25 gk25
  have V26 := fun_mk (st := sNumbers) gl26 gc26 gk26
  have V27 := fun_mk (st := sNeed) gl27 gc27 gk27
  have V28 := fun_mk (st := sGround) gl28 gc28 gk28
  have V29 := fun_mk (st := sAny) gl29 gc29 gk29
  have V30 := fun_mk (st := sPlanted) gl30 gc30 gk30
  have V31 := fun_mk (st := sMore) gl31 gc31 gk31
  have V32 := fun_mk (st := sThreaded) gl32 gc32 gk32
  have V33 := fun_mk (st := sRulebook) gl33 gc33 gk33
  have V34 := fun_mk (st := sKindsO) gl34 gc34 gk34
  have V35 := fun_mk (st := sLBear) gl35 gc35 gk35
  have V36 := fun_mk (st := sIsMet) gl36 gc36 gk36
  have V37 := fun_mk (st := sLLive) gl37 gc37 gk37
  have V38 := fun_mk (st := sLvT) gl38 gc38 gk38
  have V39 := fun_mk (st := sRwT) gl39 gc39 gk39
  have V40 := fun_mk (st := sIsT) gl40 gc40 gk40
  have V41 := fun_mk (st := sSot) gl41 gc41 gk41
  have V42 := fun_mk (st := sLst) gl42 gc42 gk42
  have V43 := fun_mk (st := sWho) gl43 gc43 gk43
  have V44 := fun_mk (st := sTdt) gl44 gc44 gk44
  have V45 := fun_mk (st := sTrr) gl45 gc45 gk45
  have V46 := fun_mk (st := sLaw23) gl46 gc46 gk46
  have W0 := V0.binds (ps := ["thing"]) fun _ _ _ _ _ _ us hl => match us, hl with | [_], _ => rfl
  have W1 := V1.binds (ps := ["rulebook", "name"]) fun _ _ _ _ _ _ us hl => match us, hl with | [_, _], _ => rfl
  have W2 := V2.binds (ps := ["rulebook"]) fun _ _ _ _ _ _ us hl => match us, hl with | [_], _ => rfl
  have W3 := V3.binds (ps := ["names", "joins"]) fun _ _ _ _ _ _ us hl => match us, hl with | [_, _], _ => rfl
  have W4 := V4.binds (ps := ["rulebook", "ground", "bearing"]) fun _ _ _ _ _ _ us hl => match us, hl with | [_, _, _], _ => rfl
  have W5 := V5.binds (ps := ["rulebook"]) fun _ _ _ _ _ _ us hl => match us, hl with | [_], _ => rfl
  have W6 := V6.binds (ps := ["rulebook"]) fun _ _ _ _ _ _ us hl => match us, hl with | [_], _ => rfl
  have W7 := V7.binds (ps := ["tree"]) fun _ _ _ _ _ _ us hl => match us, hl with | [_], _ => rfl
  have W8 := V8.binds (ps := ["rulebook"]) fun _ _ _ _ _ _ us hl => match us, hl with | [_], _ => rfl
  have W9 := V9.binds (ps := ["ground", "rows"]) fun _ _ _ _ _ _ us hl => match us, hl with | [_, _], _ => rfl
  have W10 := V10.binds (ps := ["ground", "tables"]) fun _ _ _ _ _ _ us hl => match us, hl with | [_, _], _ => rfl
  have W11 := V11.binds (ps := ["ground", "struck", "trees", "olds"]) fun _ _ _ _ _ _ us hl => match us, hl with | [_, _, _, _], _ => rfl
  have W12 := V12.binds (ps := ["live", "struck", "trees"]) fun _ _ _ _ _ _ us hl => match us, hl with | [_, _, _], _ => rfl
  have W13 := V13.binds (ps := ["live", "struck", "trees", "olds"]) fun _ _ _ _ _ _ us hl => match us, hl with | [_, _, _, _], _ => rfl
  have W14 := V14.binds (ps := ["rulebook", "struck", "name"]) fun _ _ _ _ _ _ us hl => match us, hl with | [_, _, _], _ => rfl
  have W15 := V15.binds (ps := ["rulebook", "struck", "name"]) fun _ _ _ _ _ _ us hl => match us, hl with | [_, _, _], _ => rfl
  have W16 := V16.binds (ps := ["rulebook", "live", "name", "thing"]) fun _ _ _ _ _ _ us hl => match us, hl with | [_, _, _, _], _ => rfl
  have W17 := V17.binds (ps := ["rulebook", "name", "thing"]) fun _ _ _ _ _ _ us hl => match us, hl with | [_, _, _], _ => rfl
  have W18 := V18.binds (ps := ["rulebook", "struck", "name", "thing"]) fun _ _ _ _ _ _ us hl => match us, hl with | [_, _, _, _], _ => rfl
  have W19 := V19.binds (ps := ["rulebook", "struck", "name", "thing"]) fun _ _ _ _ _ _ us hl => match us, hl with | [_, _, _, _], _ => rfl
  have W20 := V20.binds (ps := ["script"]) fun _ _ _ _ _ _ us hl => match us, hl with | [_], _ => rfl
  have W21 := V21.binds (ps := ["bag", "upto"]) fun _ _ _ _ _ _ us hl => match us, hl with | [_, _], _ => rfl
  have W22 := V22.binds (ps := ["bag", "things"]) fun _ _ _ _ _ _ us hl => match us, hl with | [_, _], _ => rfl
  have W23 := V23.binds (ps := ["found", "due"]) fun _ _ _ _ _ _ us hl => match us, hl with | [_, _], _ => rfl
  have W24 := V24.binds (ps := ["bag", "things"]) fun _ _ _ _ _ _ us hl => match us, hl with | [_, _], _ => rfl
  have W25 := V25.binds (ps := ["bag", "many"]) fun _ _ _ _ _ _ us hl => match us, hl with | [_, _], _ => rfl
  have W26 := V26.binds (ps := ["bag"]) fun _ _ _ _ _ _ us hl => match us, hl with | [_], _ => rfl
  have W27 := V27.binds (ps := ["bag", "rows", "names"]) fun _ _ _ _ _ _ us hl => match us, hl with | [_, _, _], _ => rfl
  have W28 := V28.binds (ps := ["bag", "rows", "names"]) fun _ _ _ _ _ _ us hl => match us, hl with | [_, _, _], _ => rfl
  have W29 := V29.binds (ps := ["bag", "kinds", "rows"]) fun _ _ _ _ _ _ us hl => match us, hl with | [_, _, _], _ => rfl
  have W30 := V30.binds (ps := ["bag", "sort", "kinds"]) fun _ _ _ _ _ _ us hl => match us, hl with | [_, _, _], _ => rfl
  have W31 := V31.binds (ps := ["bag", "sort", "rows"]) fun _ _ _ _ _ _ us hl => match us, hl with | [_, _, _], _ => rfl
  have W32 := V32.binds (ps := ["bag", "kinds"]) fun _ _ _ _ _ _ us hl => match us, hl with | [_, _], _ => rfl
  have W33 := V33.binds (ps := ["bag", "kinds"]) fun _ _ _ _ _ _ us hl => match us, hl with | [_, _], _ => rfl
  have W34 := V34.binds (ps := ["rulebook"]) fun _ _ _ _ _ _ us hl => match us, hl with | [_], _ => rfl
  have W35 := V35.binds (ps := ["rulebook"]) fun _ _ _ _ _ _ us hl => match us, hl with | [_], _ => rfl
  have W36 := V36.binds (ps := ["kinds", "found", "ground"]) fun _ _ _ _ _ _ us hl => match us, hl with | [_, _, _], _ => rfl
  have W37 := V37.binds (ps := ["rulebook"]) fun _ _ _ _ _ _ us hl => match us, hl with | [_], _ => rfl
  have W38 := V38.binds (ps := ["tree"]) fun _ _ _ _ _ _ us hl => match us, hl with | [_], _ => rfl
  have W39 := V39.binds (ps := ["rulebook", "tree"]) fun _ _ _ _ _ _ us hl => match us, hl with | [_, _], _ => rfl
  have W40 := V40.binds (ps := ["rulebook", "live", "name", "thing"]) fun _ _ _ _ _ _ us hl => match us, hl with | [_, _, _, _], _ => rfl
  have W41 := V41.binds (ps := ["rulebook", "struck", "live", "name", "thing", "is_old"]) fun _ _ _ _ _ _ us hl => match us, hl with | [_, _, _, _, _, _], _ => rfl
  have W42 := V42.binds (ps := ["rulebook", "struck", "live"]) fun _ _ _ _ _ _ us hl => match us, hl with | [_, _, _], _ => rfl
  have W43 := V43.binds (ps := ["thing"]) fun _ _ _ _ _ _ us hl => match us, hl with | [_], _ => rfl
  have W44 := V44.binds (ps := ["rulebook", "struck", "live", "name", "told", "due", "is_old"]) fun _ _ _ _ _ _ us hl => match us, hl with | [_, _, _, _, _, _, _], _ => rfl
  have W45 := V45.binds (ps := ["rulebook", "struck"]) fun _ _ _ _ _ _ us hl => match us, hl with | [_, _], _ => rfl
  have W46 := V46.binds (ps := ["script"]) fun _ _ _ _ _ _ us hl => match us, hl with | [_], _ => rfl
  have wr : WrK K C0 "NoKind" := wrB_ok B2
  let T : List NTab := [(P5, fun _ _ => qJB)]
  refine ⟨PySem.W.fnOf "law" "law" (defArgs sLaw23) (defBody sLaw23) (defScope sLaw23) .none gkV46 gdc46 gpm46 gan46 gcd46 gct46, [(c5, P5)], spLaw T K, fun p hp => ?_, fun p hp => ?_, fun p hp => ?_, fun s u => .of_eq rfl, fun H a ns hn hH hS => ⟨a, ns, rfl, hS, hn, fun p hp => ?_, fun _ => rfl⟩, fun base _ _ hTB => ?_⟩
  · simp only [List.mem_cons, List.mem_nil_iff, or_false] at hp
    rcases hp with rfl
    · exact th5
  · simp only [List.mem_cons, List.mem_nil_iff, or_false] at hp
    rcases hp with rfl
    · exact Option.isNone_iff_eq_none.mp tn5
  · simp only [List.mem_cons, List.mem_nil_iff, or_false] at hp
    rcases hp with rfl
    · exact ch5
  · simp only [T, List.mem_cons, List.mem_nil_iff, or_false] at hp
    rcases hp with rfl
    · exact TabN.nil (hH (c5, P5) (by simp))
  have TT5 : TbOk base mg T c5 P5 qJB := ⟨hTB (c5, P5) (by simp), by simp [T], fun p hp e => by
    simp only [T, List.mem_cons, List.mem_nil_iff, or_false] at hp
    rcases hp with rfl
    · rfl⟩
  have Cko : Ct l.prog w K mg base "kind_of" 1 ["rulebook", "name"] spKindN g1 _ := ⟨ok_kindN V1, PySem.W.mg_of X Gm ga1, gk1, W1⟩
  have Ckn : Ct l.prog w K mg base "kind_names" 1 ["rulebook"] spKindNames g2 _ := ⟨ok_kindNames V2, PySem.W.mg_of X Gm ga2, gk2, W2⟩
  have Cil : Ct l.prog w K mg base "_is_live" 2 ["rulebook", "ground", "bearing"] spIsLive g4 _ := ⟨ok_isLive V4 hall Cko, PySem.W.mg_of X Gm ga4, gk4, W4⟩
  have Cgw : Ct l.prog w K mg base "_grown" 4 ["names", "joins"] (spGrown l.prog w K mg base 3) g3 _ := ⟨ok_grown V3 TC, PySem.W.mg_of X Gm ga3, gk3, W3⟩
  have Cbe : Ct l.prog w K mg base "bearing_kinds" 5 ["rulebook"] (spBear T) g5 _ := ⟨ok_bear V5 rfl TT5 TC hany Cko Cil Ckn Cgw, PySem.W.mg_of X Gm ga5, gk5, W5⟩
  have Cli : Ct l.prog w K mg base "live_indexes" 6 ["rulebook"] (spLiveIx T) g6 _ := ⟨ok_liveIx V6 henumerate Cbe Cil, PySem.W.mg_of X Gm ga6, gk6, W6⟩
  have Cbg : Ct l.prog w K mg base "_law_bag" 1 ["script"] (spBag K) g20 _ := ⟨ok_bag V20 TB, PySem.W.mg_of X Gm ga20, gk20, W20⟩
  have Ctk : Ct l.prog w K mg base "_law_take" 1 ["bag", "upto"] spTake g21 _ := ⟨ok_take V21 TB, PySem.W.mg_of X Gm ga21, gk21, W21⟩
  have Cs2 : Ct l.prog w K mg base "_law_some" 2 ["bag", "things"] spSome2 g22 _ := ⟨ok_some2 V22 TB Ctk, PySem.W.mg_of X Gm ga22, gk22, W22⟩
  have Cmx : Ct l.prog w K mg base "_law_mixed" 2 ["bag", "things"] spMixed g24 _ := ⟨ok_mixed V24 TB Ctk, PySem.W.mg_of X Gm ga24, gk24, W24⟩
  have Cnm : Ct l.prog w K mg base "_law_named" 3 ["bag", "many"] spNamed g25 _ := ⟨ok_named V25 TC Cmx, PySem.W.mg_of X Gm ga25, gk25, W25⟩
  have Cnb : Ct l.prog w K mg base "_law_numbers" 3 ["bag"] spNumbers g26 _ := ⟨ok_numbers V26 Cs2 Ctk, PySem.W.mg_of X Gm ga26, gk26, W26⟩
  have Cnd : Ct l.prog w K mg base "_law_need" 4 ["bag", "rows", "names"] spNeed g27 _ := ⟨ok_need V27 Cnb Cs2 Ctk, PySem.W.mg_of X Gm ga27, gk27, W27⟩
  have Cgr : Ct l.prog w K mg base "_law_ground" 5 ["bag", "rows", "names"] spGround g28 _ := ⟨ok_ground V28 TC Cnd Cs2, PySem.W.mg_of X Gm ga28, gk28, W28⟩
  have Can : Ct l.prog w K mg base "_law_any_rulebook" 6 ["bag", "kinds", "rows"] spAny g29 _ := ⟨ok_any V29 TC Cnm Cgr Cs2 Ctk, PySem.W.mg_of X Gm ga29, gk29, W29⟩
  have Cmo : Ct l.prog w K mg base "_law_more_needs" 3 ["bag", "sort", "rows"] spMore g31 _ := ⟨ok_more V31 Cs2 Ctk, PySem.W.mg_of X Gm ga31, gk31, W31⟩
  have Cpl : Ct l.prog w K mg base "_law_planted" 6 ["bag", "sort", "kinds"] spPl g30 _ := ⟨ok_pl V30 TC Cnm Cgr Cmo Cs2 Ctk, PySem.W.mg_of X Gm ga30, gk30, W30⟩
  have Cth : Ct l.prog w K mg base "_law_threaded" 6 ["bag", "kinds"] spTh g32 _ := ⟨ok_th V32 TC Cnm Cmx Cs2 Ctk, PySem.W.mg_of X Gm ga32, gk32, W32⟩
  have Crb : Ct l.prog w K mg base "_law_rulebook" 7 ["bag", "kinds"] spRbS g33 _ := ⟨ok_rbS V33 TC Cmx Cs2 Ctk Can Cpl Cth, PySem.W.mg_of X Gm ga33, gk33, W33⟩
  have Eii : Ct l.prog w K mg base "is_integer" 1 ["thing"] spIsInt g0 _ := ⟨ok_isInt V0 TB hbool, PySem.W.mg_of X Gm ga0, gk0, W0⟩
  have Elo : Ct l.prog w K mg base "levels_of" 1 ["tree"] spLvo g7 _ := ⟨ok_Lvo V7, PySem.W.mg_of X Gm ga7, gk7, W7⟩
  have Ell : Ct l.prog w K mg base "_live_list" 7 ["rulebook"] (spLli T) g8 _ := ⟨ok_Lli V8 Cli Cko, PySem.W.mg_of X Gm ga8, gk8, W8⟩
  have Ehr : Ct l.prog w K mg base "_has_row" 1 ["ground", "rows"] spHrw g9 _ := ⟨ok_Hrw V9 hany, PySem.W.mg_of X Gm ga9, gk9, W9⟩
  have Epo : Ct l.prog w K mg base "_parts_of" 1 ["ground", "tables"] spPo g10 _ := ⟨ok_Po V10 TC hzip, PySem.W.mg_of X Gm ga10, gk10, W10⟩
  have Eop : Ct l.prog w K mg base "_old_parts_of" 2 ["ground", "struck", "trees", "olds"] spOpo g11 _ := ⟨ok_Opo V11 TC henumerate Ehr Epo, PySem.W.mg_of X Gm ga11, gk11, W11⟩
  have Egc : Ct l.prog w K mg base "_grown_clean" 2 ["live", "struck", "trees"] spGc g12 _ := ⟨ok_Gc V12 TC Ehr Epo, PySem.W.mg_of X Gm ga12, gk12, W12⟩
  have Ego : Ct l.prog w K mg base "_grown_old" 3 ["live", "struck", "trees", "olds"] spGo g13 _ := ⟨ok_Go V13 Eop, PySem.W.mg_of X Gm ga13, gk13, W13⟩
  have Ect : Ct l.prog w K mg base "clean_tree" 8 ["rulebook", "struck", "name"] (spClt T) g14 _ := ⟨ok_Clt V14 Ell Egc, PySem.W.mg_of X Gm ga14, gk14, W14⟩
  have Eot : Ct l.prog w K mg base "old_tree" 8 ["rulebook", "struck", "name"] (spOlt T) g15 _ := ⟨ok_Olt V15 TC Ell Egc Ego, PySem.W.mg_of X Gm ga15, gk15, W15⟩
  have Egf : Ct l.prog w K mg base "_ground_of" 2 ["rulebook", "live", "name", "thing"] spGof g16 _ := ⟨ok_Gof V16 TC Eii Cko, PySem.W.mg_of X Gm ga16, gk16, W16⟩
  have Ern : Ct l.prog w K mg base "_rows_needed" 7 ["rulebook", "name", "thing"] (spRnd T) g17 _ := ⟨ok_Rnd V17 TC hzip Cli Egf, PySem.W.mg_of X Gm ga17, gk17, W17⟩
  have Eic : Ct l.prog w K mg base "is_clean_tree" 8 ["rulebook", "struck", "name", "thing"] (spIct T) g18 _ := ⟨ok_Ict V18 hany Ern, PySem.W.mg_of X Gm ga18, gk18, W18⟩
  have Eio : Ct l.prog w K mg base "is_old_tree" 8 ["rulebook", "struck", "name", "thing"] (spIot T) g19 _ := ⟨ok_Iot V19 hany Ern, PySem.W.mg_of X Gm ga19, gk19, W19⟩
  have Eks : Ct l.prog w K mg base "_law_kinds_of" 1 ["rulebook"] spKindsO g34 _ := ⟨ok_kindsO V34 TC, PySem.W.mg_of X Gm ga34, gk34, W34⟩
  have Eim : Ct l.prog w K mg base "_law_is_met" 1 ["kinds", "found", "ground"] spIsMet g36 _ := ⟨ok_isMet V36, PySem.W.mg_of X Gm ga36, gk36, W36⟩
  have Elb : Ct l.prog w K mg base "_law_bearing" 2 ["rulebook"] spLBear g35 _ := ⟨ok_lBear V35 TC Eks Eim, PySem.W.mg_of X Gm ga35, gk35, W35⟩
  have Elv : Ct l.prog w K mg base "_law_live" 3 ["rulebook"] spLLive g37 _ := ⟨ok_lLive V37 TC Eks Eim Elb, PySem.W.mg_of X Gm ga37, gk37, W37⟩
  have Eal : GnG false l.prog w K mg base "_law_alike" 1 ["found", "due"] (spAlikeE K) g23 _ := ⟨ok_alikeE V23 TB wr, PySem.W.mg_of X Gm ga23, gk23, W23⟩
  have Ewh : Ct l.prog w K mg base "_law_is_whole" 1 ["thing"] spIsInt g43 _ := ⟨ok_Who V43 TB hbool, PySem.W.mg_of X Gm ga43, gk43, W43⟩
  have Elt : Ct l.prog w K mg base "_law_levels" 10 ["tree"] (spLvT 10) g38 _ := ⟨ok_LvT V38 hmax (PySem.W.mg_of X Gm ga38) gk38 W38 10, PySem.W.mg_of X Gm ga38, gk38, W38⟩
  have Etw : Ct l.prog w K mg base "_law_tree_rows" 11 ["rulebook", "tree"] (spRwT 10) g39 _ := ⟨ok_RwT V39 hzip Eks (PySem.W.mg_of X Gm ga39) gk39 W39 10, PySem.W.mg_of X Gm ga39, gk39, W39⟩
  have Eit : GnG true l.prog w K mg base "_law_is_tree" 11 ["rulebook", "live", "name", "thing"] (spIsTr 10) g40 _ := ⟨ok_IsTr V40 TC hzip Eal Ewh Eks (PySem.W.mg_of X Gm ga40) gk40 W40 10, PySem.W.mg_of X Gm ga40, gk40, W40⟩
  have Est : GnG true l.prog w K mg base "_law_is_sort_of_tree" 12 ["rulebook", "struck", "live", "name", "thing", "is_old"] spSot g41 _ := ⟨ok_Sot V41 Eit Etw, PySem.W.mg_of X Gm ga41, gk41, W41⟩
  have Ele : Ct l.prog w K mg base "_law_least_levels" 2 ["rulebook", "struck", "live"] spLst g42 _ := ⟨ok_Lst V42 TC hmin hmax Eks, PySem.W.mg_of X Gm ga42, gk42, W42⟩
  have Etd : GnG true l.prog w K mg base "_law_is_told_tree" 13 ["rulebook", "struck", "live", "name", "told", "due", "is_old"] spTdt g44 _ := ⟨ok_Tdt V44 Est Elo Elt Eal, PySem.W.mg_of X Gm ga44, gk44, W44⟩
  have Etr : GnG true l.prog w K mg base "_law_are_trees_right" 14 ["rulebook", "struck"] (spTrr T) g45 _ := ⟨ok_Trr V45 TC wr Elv Ele Ect Eot Etd Eic Eio Eal, PySem.W.mg_of X Gm ga45, gk45, W45⟩
  exact ok_law23 V46 TC Cbg Crb Cmx Etr
end
end KaG
open PySem PySem.W PyProof.Rows
set_option maxRecDepth 100000 in
set_option maxHeartbeats 0 in
theorem PySem.Challenge.cw_goneyet_k23_trees_told_holds : PySem.Challenge.rw_goneyet_k23_trees_told.Holds := by
  w_on; o_law; k_head; (case hw => w_witness2)
  k_fill
  refine KaG.walk_GT (l := PySem.Challenge.rw_goneyet_k23_trees_told) (n := 63) (k := 15) (x := "script") rfl (by decide) rfl ⟨rfl, by decide, by decide⟩ (fun w h Y => PySem.W.km_in_of Y) ?F
  case F =>
    intro w mg fa h Y KX G hmg
    refine' KaG.all_mk KX G hmg ?babs ?blen ?bint ?brepr ?bisinstance ?brange ?blist ?bValueError ?btuple ?bsorted ?bset ?bdict ?benumerate ?bany ?ball ?bmin ?bmax ?bbool ?bstr ?bzip ?bsum ?breversed ?a0 ?ga0 ?gl0 ?gc0 ?gk0 ?ga1 ?gl1 ?gc1 ?gk1 ?ga2 ?gl2 ?gc2 ?gk2 ?ga3 ?gl3 ?gc3 ?gk3 ?ga4 ?gl4 ?gc4 ?gk4 ?ga5 ?gl5 ?gc5 ?gk5 ?ga6 ?gl6 ?gc6 ?gk6 ?ga7 ?gl7 ?gc7 ?gk7 ?ga8 ?gl8 ?gc8 ?gk8 ?ga9 ?gl9 ?gc9 ?gk9 ?ga10 ?gl10 ?gc10 ?gk10 ?ga11 ?gl11 ?gc11 ?gk11 ?ga12 ?gl12 ?gc12 ?gk12 ?ga13 ?gl13 ?gc13 ?gk13 ?ga14 ?gl14 ?gc14 ?gk14 ?ga15 ?gl15 ?gc15 ?gk15 ?ga16 ?gl16 ?gc16 ?gk16 ?ga17 ?gl17 ?gc17 ?gk17 ?ga18 ?gl18 ?gc18 ?gk18 ?ga19 ?gl19 ?gc19 ?gk19 ?ga20 ?gl20 ?gc20 ?gk20 ?ga21 ?gl21 ?gc21 ?gk21 ?ga22 ?gl22 ?gc22 ?gk22 ?ga23 ?gl23 ?gc23 ?gk23 ?ga24 ?gl24 ?gc24 ?gk24 ?ga25 ?gl25 ?gc25 ?gk25 ?ga26 ?gl26 ?gc26 ?gk26 ?ga27 ?gl27 ?gc27 ?gk27 ?ga28 ?gl28 ?gc28 ?gk28 ?ga29 ?gl29 ?gc29 ?gk29 ?ga30 ?gl30 ?gc30 ?gk30 ?ga31 ?gl31 ?gc31 ?gk31 ?ga32 ?gl32 ?gc32 ?gk32 ?ga33 ?gl33 ?gc33 ?gk33 ?ga34 ?gl34 ?gc34 ?gk34 ?ga35 ?gl35 ?gc35 ?gk35 ?ga36 ?gl36 ?gc36 ?gk36 ?ga37 ?gl37 ?gc37 ?gk37 ?ga38 ?gl38 ?gc38 ?gk38 ?ga39 ?gl39 ?gc39 ?gk39 ?ga40 ?gl40 ?gc40 ?gk40 ?ga41 ?gl41 ?gc41 ?gk41 ?ga42 ?gl42 ?gc42 ?gk42 ?ga43 ?gl43 ?gc43 ?gk43 ?ga44 ?gl44 ?gc44 ?gk44 ?ga45 ?gl45 ?gc45 ?gk45 ?ga46 ?gl46 ?gc46 ?gk46 ?tt5 ?th5 ?tc5 ?tn5 ?B2
    (case babs => k_is)
    (case blen => k_is)
    (case bint => k_is)
    (case brepr => k_is)
    (case bisinstance => k_is)
    (case brange => k_is)
    (case blist => k_is)
    (case bValueError => k_is)
    (case btuple => k_is)
    (case bsorted => k_is)
    (case bset => k_is)
    (case bdict => k_is)
    (case benumerate => k_is)
    (case bany => k_is)
    (case ball => k_is)
    (case bmin => k_is)
    (case bmax => k_is)
    (case bbool => k_is)
    (case bstr => k_is)
    (case bzip => k_is)
    (case bsum => k_is)
    (case breversed => k_is)
    (case a0 => k_is)
    (case ga0 => k_is)
    (case gl0 => k_is)
    (case gc0 => k_is)
    (case gk0 => k_is)
    (case ga1 => k_is)
    (case gl1 => k_is)
    (case gc1 => k_is)
    (case gk1 => k_is)
    (case ga2 => k_is)
    (case gl2 => k_is)
    (case gc2 => k_is)
    (case gk2 => k_is)
    (case ga3 => k_is)
    (case gl3 => k_is)
    (case gc3 => k_is)
    (case gk3 => k_is)
    (case ga4 => k_is)
    (case gl4 => k_is)
    (case gc4 => k_is)
    (case gk4 => k_is)
    (case ga5 => k_is)
    (case gl5 => k_is)
    (case gc5 => k_is)
    (case gk5 => k_is)
    (case ga6 => k_is)
    (case gl6 => k_is)
    (case gc6 => k_is)
    (case gk6 => k_is)
    (case ga7 => k_is)
    (case gl7 => k_is)
    (case gc7 => k_is)
    (case gk7 => k_is)
    (case ga8 => k_is)
    (case gl8 => k_is)
    (case gc8 => k_is)
    (case gk8 => k_is)
    (case ga9 => k_is)
    (case gl9 => k_is)
    (case gc9 => k_is)
    (case gk9 => k_is)
    (case ga10 => k_is)
    (case gl10 => k_is)
    (case gc10 => k_is)
    (case gk10 => k_is)
    (case ga11 => k_is)
    (case gl11 => k_is)
    (case gc11 => k_is)
    (case gk11 => k_is)
    (case ga12 => k_is)
    (case gl12 => k_is)
    (case gc12 => k_is)
    (case gk12 => k_is)
    (case ga13 => k_is)
    (case gl13 => k_is)
    (case gc13 => k_is)
    (case gk13 => k_is)
    (case ga14 => k_is)
    (case gl14 => k_is)
    (case gc14 => k_is)
    (case gk14 => k_is)
    (case ga15 => k_is)
    (case gl15 => k_is)
    (case gc15 => k_is)
    (case gk15 => k_is)
    (case ga16 => k_is)
    (case gl16 => k_is)
    (case gc16 => k_is)
    (case gk16 => k_is)
    (case ga17 => k_is)
    (case gl17 => k_is)
    (case gc17 => k_is)
    (case gk17 => k_is)
    (case ga18 => k_is)
    (case gl18 => k_is)
    (case gc18 => k_is)
    (case gk18 => k_is)
    (case ga19 => k_is)
    (case gl19 => k_is)
    (case gc19 => k_is)
    (case gk19 => k_is)
    (case ga20 => k_is)
    (case gl20 => k_is)
    (case gc20 => k_is)
    (case gk20 => k_is)
    (case ga21 => k_is)
    (case gl21 => k_is)
    (case gc21 => k_is)
    (case gk21 => k_is)
    (case ga22 => k_is)
    (case gl22 => k_is)
    (case gc22 => k_is)
    (case gk22 => k_is)
    (case ga23 => k_is)
    (case gl23 => k_is)
    (case gc23 => k_is)
    (case gk23 => k_is)
    (case ga24 => k_is)
    (case gl24 => k_is)
    (case gc24 => k_is)
    (case gk24 => k_is)
    (case ga25 => k_is)
    (case gl25 => k_is)
    (case gc25 => k_is)
    (case gk25 => k_is)
    (case ga26 => k_is)
    (case gl26 => k_is)
    (case gc26 => k_is)
    (case gk26 => k_is)
    (case ga27 => k_is)
    (case gl27 => k_is)
    (case gc27 => k_is)
    (case gk27 => k_is)
    (case ga28 => k_is)
    (case gl28 => k_is)
    (case gc28 => k_is)
    (case gk28 => k_is)
    (case ga29 => k_is)
    (case gl29 => k_is)
    (case gc29 => k_is)
    (case gk29 => k_is)
    (case ga30 => k_is)
    (case gl30 => k_is)
    (case gc30 => k_is)
    (case gk30 => k_is)
    (case ga31 => k_is)
    (case gl31 => k_is)
    (case gc31 => k_is)
    (case gk31 => k_is)
    (case ga32 => k_is)
    (case gl32 => k_is)
    (case gc32 => k_is)
    (case gk32 => k_is)
    (case ga33 => k_is)
    (case gl33 => k_is)
    (case gc33 => k_is)
    (case gk33 => k_is)
    (case ga34 => k_is)
    (case gl34 => k_is)
    (case gc34 => k_is)
    (case gk34 => k_is)
    (case ga35 => k_is)
    (case gl35 => k_is)
    (case gc35 => k_is)
    (case gk35 => k_is)
    (case ga36 => k_is)
    (case gl36 => k_is)
    (case gc36 => k_is)
    (case gk36 => k_is)
    (case ga37 => k_is)
    (case gl37 => k_is)
    (case gc37 => k_is)
    (case gk37 => k_is)
    (case ga38 => k_is)
    (case gl38 => k_is)
    (case gc38 => k_is)
    (case gk38 => k_is)
    (case ga39 => k_is)
    (case gl39 => k_is)
    (case gc39 => k_is)
    (case gk39 => k_is)
    (case ga40 => k_is)
    (case gl40 => k_is)
    (case gc40 => k_is)
    (case gk40 => k_is)
    (case ga41 => k_is)
    (case gl41 => k_is)
    (case gc41 => k_is)
    (case gk41 => k_is)
    (case ga42 => k_is)
    (case gl42 => k_is)
    (case gc42 => k_is)
    (case gk42 => k_is)
    (case ga43 => k_is)
    (case gl43 => k_is)
    (case gc43 => k_is)
    (case gk43 => k_is)
    (case ga44 => k_is)
    (case gl44 => k_is)
    (case gc44 => k_is)
    (case gk44 => k_is)
    (case ga45 => k_is)
    (case gl45 => k_is)
    (case gc45 => k_is)
    (case gk45 => k_is)
    (case ga46 => k_is)
    (case gl46 => k_is)
    (case gc46 => k_is)
    (case gk46 => k_is)
    (case tt5 => first | k_is | rfl)
    (case th5 => exact PySem.W.km_tabs_of Y _ (by first | decide | simp))
    (case tc5 => first | kernel_rfl | decide +kernel)
    (case tn5 => first | kernel_rfl | decide +kernel)
    (case B2 => first | kernel_rfl | decide +kernel)
